import PyProof.Rows.All
import KE.KDictOf
import PyProof.DictWalks
import Wide.All
import OpenK.AllK
import Wide.FinOn
import Lean
import PyProof.EqAt
import PyProof.EqKinds
import PyProof.TupleCall
import KE.LcSums
import PySem.Challenge.RW_fewways_k58_way_papers_looked_at
open And renaming intro->CS
open Array renaming length_toList->gZ,getElem?_eq_getElem->ro,getElem?_toList->rq,getElem?_eq_some_iff->CT,getElem?_eq_none->CU,getD->tF,toArray_toList->IM,toList_push->IP,replicate->IQ
open Array.Perm renaming refl->IR
open Bool renaming and_eq_true->cM,false_ne_true->gh,false_eq_true->jr,and_true->mB,eq_iff_iff->oH,not_eq_true'->zi,true_and->v9,and_false->zk,not_false->zl,and_self->zo,and_assoc->CV,not_true->CW,true_or->CY,eq_false_iff->IS,false_and->IT,or_true->IU
open False renaming elim->aV
open ForInStep renaming yield->pR
open Function renaming comp_def->CZ
open Int renaming toNat_natCast->kT,toNat_of_nonneg->pS,emod_lt_of_pos->zt,emod_nonneg->zv,zero_add->C0
open LawfulBEq renaming eq_of_beq->tG
open List renaming getElem?_eq_getElem->bP,length_map->bg,map_cons->bu,mem_cons_self->c0,mem_cons_of_mem->dN,getElem?_eq_some_iff->fC,getElem?_map->da,mem_cons->b8,replicate->cG,mem_singleton->er,mem_append_left->eW,size_toArray->et,length_append->eJ,mem_append->dH,mem_append_right->fU,getD_eq_getElem?_getD->hE,map_map->cV,mem_map->dj,lookup_cons->fm,map_append->gi,all_eq_true->gF,pairwise_cons->hV,length_cons->g0,nodup_append->hW,append_nil->g6,range->dY,append_assoc->iG,mem_of_getElem?->jK,mem_filter->hX,nodup_cons->iq,getElem?_cons_succ->nC,getElem?_cons_zero->nD,length_nil->kk,length_set->kU,not_mem_nil->lR,getElem?_set_ne->oJ,getElem?_set_self->pT,getElem?_append_left->ry,length_replicate->pU,foldl_cons->mD,any_eq_true->nE,filterMap_cons->pZ,flatten_cons->oK,drop_eq_getElem_cons->tH,zip_cons_cons->qa,filter_cons->oM,getElem?_replicate->tI,map_congr_left->rz,getElem_mem->qb,getLastD_eq_getLast?->wa,mem_range->oN,getElem_of_mem->tJ,length_take->rA,mem_filterMap->tK,length_filter_le->wb,nil_append->rB,getElem?_append_right->zw,getElem?_eq_none_iff->zA,nodup_nil->rC,pairwise_iff_getElem->zB,drop_length->tL,getElem_map->tM,mem_reverse->tN,filter_eq_nil_iff->zC,getElem?_inj->wc,length->qc,reverse_cons->wd,getElem?_eq_none->zE,cons_append->we,length_drop->wg,all_cons->tO,getElem?_range->zF,nodup_iff_pairwise_ne->C2,filter_append->zH,lookup_append->zJ,all_eq_false->zK,length_erase_of_mem->C4,length_range->zL,pairwise_map->zM,any_cons->wh,length_eq_zero_iff->C5,length_pos_of_mem->C6,of_mem_zip->zN,take_append_drop->C7,getElem_toArray->C8,filter_sublist->C9,length_pos_iff->Da,erase_eq_eraseIdx_of_idxOf->IV,all_map->zO,map_nil->zP,ext_getElem->Dc,map_id->zQ,min?->wm,range_succ->Dd,perm_ext_iff_of_nodup->IW,mem_or_eq_of_mem_set->IX,idxOf_lt_length_iff->IY,pairwise_lt_range->IZ,take_of_length_le->Ja,length_singleton->Jb,map_id'->Df,mem_of_mem_erase->Jc,getElem?_zipIdx->Jd,length_eraseIdx->Je,mem_erase_of_ne->Jf,range_eq_range'->Jg,length_reverse->Jh,mem_map_of_mem->Ji,range'->Dg,replicate_succ->Jj,contains_cons->Jk,mem_replicate->Jl,zip_nil_right->Jm,any_eq_false->Jn,ext_getElem?->Jo,filter_congr->Jp,take_add_one->Jq,zip_nil_left->Jr,append_inj'->Js,flatten_nil->Jt,getLast_mem->Ju,isEmpty_iff->Jv,map_fst_zip->Jw,map_snd_zip->Jx,mem_flatMap->Jy,nodup_range->Jz,range'_succ->JA,take_length->JB,length_zip->JC,drop_drop->JD,any_map->JE
open List.Nodup renaming length_le_of_subset->JF
open List.Pairwise renaming nil->JG,imp_of_mem->QN,of_map->QO
open List.Perm renaming refl->lS,swap->oO
open List.Sublist renaming map->JH
open Nat renaming le_refl->bJ,ne_of_lt->cC,lt_of_lt_of_le->fq,zero_le->dI,le_trans->fD,lt_irrefl->jL,le_of_lt->jS,lt_succ_self->nF,ne_of_gt->kV,le_succ->nG,le_of_lt_succ->tP,lt_succ_of_lt->tQ,lt_trans->qd,le_of_ble_eq_true->zR,not_lt_zero->wo,lt_of_le_of_lt->zU,succ_pos->tR,mod_lt->rD,min_self->zX,not_lt->zY,le_of_eq->Dh,lt_trichotomy->JI,le_max_right->JJ,le_max_left->JK
open Nat.succ renaming inj->JL
open Ne renaming symm->ir
open Option renaming map_some->qe,bind_some->tS,map_eq_some_iff->zZ,isSome_some->Di,isSome_map->Dj,isSome_none->JM,getD_none->JN,map_none->JO,none->JP
open Option.some renaming inj->i7,injEq->JQ
open Or renaming inr->b7,inl->dk
open Prod renaming fst->rE,ext->tT,snd->Dk
open PyProof.Rows renaming slot_tuple_getitem->qf,step_dedup->iH,IntsAre->dO,seqObj->eB,KeyOrd->kl,callWith_type1->z0,SortKind->wq,SortSt->km,kindOf->iu,get?_update_seq->wt,firstMet->nH,envOfC->jT,AllBare->nI,slicePart_none->z6,entry_tuple_getitem->Dl,args_tuple_getitem->Dm,lt_int->JR,sortedHeap->wu,failedOf->tU,pendingOf->wx,Subscript_->z7,listUpdate_at->Dn,tupleItemsOf_->Do,subscriptTail_builtinR->JS,seqEpoch_at->Dp,boot_range->Dq
open PyProof.Rows.F renaming plain_set_update_loop->Dr,entry_set_update_loop->JT
open PyProof.Rows.IntsAre renaming int_at->JU,length->Ds
open PyProof.Rows.IsTup renaming new->z8
open PyProof.Rows.KeyOrd renaming kle_refl->tV,kle_trans->z9,kle_of_klt->Dt,kle_antisymm->JV
open PySem renaming wpAny_bind->av,Shared->ax,wpAny_pure->aL,sizeLine->aQ,starEach->bf,Program->bD,FuncData->bO,mainGlobals->dv,Around->cg,wpAny_newObj_type->hG,compareOp->dP,bootBuiltins->gx,mem_of_lookup->k6,foldedSetIterable->kn,wpAny_call_entry->jU,wpAny_callSpecial?_slot->nJ,wpAny_holding->jt,wpAny_mono->g7,codeAny_builtin->mE,sysModules->iI,attributeBase->lT,behindInMarks->lU,codeAny->fV,sizeLine_eq->ko,wpAny_truthy_bool->qg,swapsWith->i8,wpAny_loadPart'->oP,wpAny_field->lW,binaryOp->iJ,Keyword->iK,backTo->fW,wpAny_typeNameOfWhole_valiter->Aa,Builtin->hY,intKind->hZ,wpAny_passesOwn->rF,assignEach->mF,wpAny_setState_of->tW,wpAny_setField->rG,GenState->Du,SetTable->k7,wpAny_askSetting->tX,wpAny_typeNameOf_valiter->Ab,holding->ju,letOwnedTupleGo->tY,wpAny_Call_Name_kw->wy,wpAny_pyIter_tuple->wz,keywordEach->qh,wpAny_loadPart_at->wA,firstArgMember->tZ,wpAny_fieldsOf->ua,codeAny_mono->rH,wpAny_isOneOf_valiter->Ac,wpAny_typeOf->rI,Result->mG,wpAny_standAt->ub,typeLookup->qj,wpAny_rule->qk,cellsFrom->oR,getItem->k8,NameKind->nK,pyNext->jv,tupleKind_room_in1->Ad,call_meets->rJ,wpAny_comprehension_free->Dv,wpAny_pyIter_list->Ae,wpAny_Call_method0_late->Dw,wpAny_attempt->wB,wpAny_isInstance->Af,evalArgs_none->Dx,Arguments->Dy,builtinLookup_eq_fast->Dz,wpAny_execs_nil->Ag,backToKw->ql,wpAny_Name->uc,codeAny_call_builtin->DA,wpAny_loadName_local->DB,assign->lX,rawInt->lY,callerA->oS,sliceBounds->wC,standAt->oT,wpAny_loadName_cell->DC,wpAny_of_eq->wD,DictEntry->ud,BindsTo->qm,closureFor->wF,intKind_is->wG,newList->qo,relabel->qp,wpAny_dictEntries->DD,wpAny_pyIter_slot->DE,wpAny_sequenceKey->DF,IsPart->nL,seqIndex_neg->Ah,checkBuiltinCall->DG,noFill_tuple_add->DH,wpAny_eqBool_int->DI,codeAny_of_tree->DJ,excClassObj->Ai,pyIter->oU,richCompare->Aj,scanBound->wH,seqIndex_of->Ak,subscripted->Al,tupleKind->wI,typeLookup_type->DK,wpAny_dictEpoch->DL,wpAny_specialOf->DM,isSubtype_stop->DN,isSubtype_type->DO,newFunctionEnv->DP,recursionLimit->DQ,wpAny_runValue->DR,wpAny_seqItems->DS,Paired->qq,call->DT,entryFor->wJ,plainId_quiet->DU,seq_tuple_add->DV,valueAt->ue,wpAny_handled->DW,wpAny_newList->DX,wpAny_pyNext_tuple_item->JW,richCompare_meets_room->JX,wpAny_getItem_list_neg->JY,wpAny_pyNext_tuple_end->JZ,PassesOwn->Am,call_meetsIn->DY,concat_meets->DZ,lastMarks->An,wpAny_notOrdered_dict->J0,boot_len->J1,wpAny_dictSet_pairs->J3,wpAny_isSubtype_exc->J4,wpAny_loadName_free->J5,wpAny_throw->D0,Within->J6,compTurn->Ao,getAttr?->Ap,getattributeRaised->J7,newExc->uf,stored->ug,builtinsNs->D1,setsByText->D2,slot_list_getitem->J8,typeIs_int->D3,wpAny_assign_Name->J9,wpAny_pyIter_enum->Ka
open PySem.Around renaming under_plainId->oV
open PySem.AutoSeq1 renaming sub_tuple_tuple->Kb,list_insert_list_int_val_1->QP
open PySem.Builtin.Dict renaming updateFrom->Kc
open PySem.Builtin.Dict_items renaming ownsTuple->D4
open PySem.Builtin.Frozenset renaming addrOf->QQ,newClass->QR,sizeOf->QS,slot0->QT,updateFrom->QU
open PySem.Builtin.List renaming listTooLong->Aq,listFitsIndex->D5,listLengthHint->Kd
open PySem.Builtin.Range renaming rangeSize->D6,rangeFitsLong->Ke,small->QV
open PySem.Builtin.Slice renaming slicePlaces->rK,sliceAdjust->Ar,sliceApplied->D7,sliceFields->QW,slicePartIndex->QX
open PySem.Builtin.SmallTypes renaming nextOf->As
open PySem.Builtin.Tuple renaming tupleExact->qr,tupleItemsOf->D8,tupleCompareSizes->Kf,tupleHashOf->QY,tupleIsExact->QZ
open PySem.Calls renaming callWith_builtin->Au,Name_function_global->Kg,evalArgs_plain->Kh
open PySem.Code renaming quiet_builtin->wK
open PySem.F renaming slot_dict_valueiterator_next->wL,plainAttrs_list->wM,slot_tuple_iterator_next->Av,slot_dict_values->Aw,called_set->qt,args_tuple_add_2->D9,entry_tuple_add->Ea,plainAttrs_dict->Eb,slot_tuple_getattribute->Ec,slot_tuple_add->Ed,slot_list_append->Ee,typeOf_object_class->Ef,args_dict_valueiterator_next_1->Ki,args_dict_values_1->Kj,entry_dict_valueiterator_next->Kk,entry_dict_values->Kl,slot_list_insert->Km,slot_list_remove->Kn,type_dict_values->Ko,type_list_append->Kp,plain_list_iadd->Kq,slot_dict_items->Kr,args_tuple_iterator_next_1->Ks,entry_tuple_iterator_next->Kt,plain_set_new->Ku,slot_set_iter->Kv,slot_list_extend->Kw,slot_dict_values_iter->Kx,slot_gs_get->Eg,slot_enumerate_next->Ky,sub_list_frozenset->Kz,slot_int_rmul->KA
open PySem.Heap renaming get?_push_of_some->bM,get?_push_size->dy,lt_size->cb,size_push->k9,get?_update_ne->uh,get?_update_self->wN,SameBut->qu,get?_update_other->KB,ExtBut->Eh
open PySem.Heap.DictOf renaming new->KC
open PySem.Heap.IsSliceOf renaming new->KD
open PySem.Heap.SameBut renaming update->nM
open PySem.MeetsSeq renaming list_remove->Q0
open PySem.MeetsSeq.EqGives renaming int->Q1
open PySem.NameKind renaming free->oZ,cell->wO
open PySem.Obj renaming mapSeq->lZ,data_mapFields->wQ,isFreed_of_fields->Ei,mapFields->Ax,cls_mapFields->KF,putSet->Ej
open PySem.Paired renaming length->Ay,snoc->KG
open PySem.SeqAt renaming EqAt->nN
open PySem.SeqAt.EqAt renaming of_refs->Ek,same->El,int_int->KH,int_str->KI,str_int->KJ
open PySem.SeqAt.RcAt renaming lists_lengths->KL,tuples->KM,lists->KN
open PySem.SetTable renaming below->gQ,insertAt->l0,bits->jw,runEnd->mH,leap->mI,has->wR,turns->Az,Probe->Em,grown->En,insertAt_perm->KO,layClean->KP,advance->KQ,fresh->KR,fill->KS,fits->KU,slot->KV
open PySem.SetTable.below renaming go->AA
open PySem.SetTable.layClean renaming free->wU
open PySem.SetTable.probe renaming go->rL
open PySem.Shared renaming TypeIs->wX
open PySem.Str renaming ofString->nO
open PySem.Value renaming none->fE,ref->fX,int->jx,type->mJ,builtin->ui,bool->AB,str->Eo,isStrOf->KW,float->KX,isInt->KY
open PySem.W renaming Frag->aB,nsIn->fL,mg_none_of->kq,kia_one->kr,findIn->l3,emptyDict->rM,fnOf->nP,keepIn->qv,mg_of->qw,instObj->uj,looks_findIn->AC,hideAll_get->AD,codeIn->w1,kitOne->w4,lookIn->AE,Looks->AF,kitx_dict->Ep,ksm_same->Er,plainGet->Es,OpenLaw->Et,hideAll->Eu,kas_rev->Ew,cellsFrom_some->KZ,KasT->Ex,plainGet_of->K0,callWith_K->K1,kitx_tuple->K2,of_hideAll->K3,kas_place->K4,kitx_list->K5,InstAt->K6,KdlSrc->K7,WalkO->K8,excIn->K9,isFn->La
open PySem.W.Looks renaming ld->Q2,now->Q3
open PySem.Walks renaming list->Ey
open Sum renaming inl->gy,inr->w5
open True renaming intro->l4
local macro_rules|`(tactic|z_go)=>`(tactic|(intro _;rfl))
local macro_rules|`(tactic|x_go)=>`(tactic|(intro _;first|exact dk rfl|exact b7 (dk rfl)|exact b7 (b7 rfl)))
local macro_rules|`(tactic|fin2)=>`(tactic|(intro _;first|exact .inl rfl|exact .inr rfl))
local macro_rules|`(tactic|k_go)=>`(tactic|(first|exact .inl rfl|exact .inr rfl|assumption))
local macro_rules|`(tactic|f_tup)=>`(tactic|(intro _;first|exact dk rfl|exact b7 rfl))
local macro_rules|`(tactic|by_in)=>`(tactic|(with_unfolding_all rfl))
local macro_rules|`(tactic|f_are)=>`(tactic|(decide+kernel))
local macro_rules|`(tactic|cb_eq)=>`(tactic|(dsimp only))
noncomputable section
def PySem.W.Fast:=0 where
 tw11203321827339510175:=0
 tw15867823452167713727:=0
 tw9131191321755939935:=0
 tw3717774774097115967:=0
 tw17911428073902551903:=0
 tw10660300477928419167:=0
 tw2350644179184814591:=0
 tw6679594006345041471:=0
 tw3146262898701318678:=0
 tw10020281558617372182:=0
 tw5142144085032258262:=0
 tw9033027619615844054:=0
 tw10912906910534967318:=0
 tw5069683146987758806:=0
 tw14138483721268125846:=0
 tw202960392212023062:=0
 tw11191843374543307190:=0
 tw7064486991230185677:=0
 tw4690952622764717:=0
 tw9997076588317579533:=0
 tw14142969283955603501:=0
 tw13674987557275893389:=0
 tw7869056923307519629:=0
 tw242366052690524333:=0
 tw7674892036584830541:=0
 tw17914500769993684356:=0
 tw1411191050595914020:=0
 tw6713374435848152516:=0
 tw15138526272265206820:=0
 tw12272550156614027332:=0
 tw15175456780619213540:=0
 tw13877910816478571524:=0
 tw16505026404032496580:=0
 tw6619184510988915652:=0
 tw1245433890559377348:=0
 tw12300545624049570243:=0
 tw12360131030053351459:=0
 tw5559472208148114563:=0
 tw3334906026890425155:=0
 tw3236706400678375843:=0
 tw6100666263058972547:=0
 tw5972615251954767395:=0
 tw3329014161307936291:=0
 tw17873233337272433347:=0
 tw13726103970570859619:=0
 tw6508447653957405082:=0
 tw1746391634436534330:=0
 tw17675736293164778714:=0
 tw9065532091016537530:=0
 tw13573224423274573786:=0
 tw1906843597923719738:=0
 tw13286562615875115738:=0
 tw14792313525701038961:=0
 tw1959815881991423441:=0
 tw5089942126574069745:=0
 tw3980551346405236337:=0
 tw12892826922158985489:=0
 tw14637172234294304017:=0
 tw2688251432876841265:=0
 tw1000760389877308369:=0
 tw11477159909950090321:=0
 tw4793570373950725201:=0
 tw1755319427601039144:=0
 tw13487153450842733512:=0
 tw10540573208673699432:=0
 tw16180982231751206248:=0
 tw16033851584288951272:=0
 tw15021719017372387848:=0
 tw3533325255197733928:=0
 tw10128595244015694920:=0
 tw11496890319521727336:=0
 tw13809226869994749223:=0
 tw16941694916307905831:=0
 tw1941389933673319335:=0
 tw7600114926673560615:=0
 tw11613924004850625191:=0
 tw3857352445174139495:=0
 tw8757190217955975783:=0
 tw1226699521261911614:=0
 tw17229959316344812254:=0
 tw500307122854486974:=0
 tw2994151028399830430:=0
 tw9013941119441056926:=0
 tw2486815935919927102:=0
 tw4314841749888034005:=0
 tw5840820688283933013:=0
 tw5208046699452368213:=0
 tw15124283733166601173:=0
 tw7941135528967404021:=0
 tw197724316136772501:=0
 tw1659586543398968213:=0
 tw16269818879219058741:=0
 tw1299694232505068597:=0
 tw6782195120909263573:=0
 tw6042991716921257685:=0
 tw5603730258812929749:=0
 tw8930802774556981493:=0
 tw11875200840217323989:=0
 tw13831397767076725749:=0
 tw4902683056193367916:=0
 tw8277452716676245356:=0
 tw1220935868016734732:=0
 tw6999012420317446604:=0
 tw8688201049088723564:=0
 tw6717222148762152140:=0
 tw3975504194443305996:=0
 tw8535383259353810572:=0
 tw8028320390734582572:=0
 tw15775626629223766507:=0
 tw18185878397991796811:=0
 tw5496581111136301131:=0
 tw9832211507955919051:=0
 tw15248287463252127883:=0
 tw11579011270776862539:=0
 tw8675814596361190763:=0
 tw17750284809666574699:=0
 tw224890947189606155:=0
 tw614885150355653931:=0
 tw882626517815197995:=0
 tw7633065986610884555:=0
 tw3864525396817361899:=0
 tw14282343502604001698:=0
 tw10857109769620834754:=0
 tw12178627061288411234:=0
 tw13943401432568855586:=0
 tw11265337106228355330:=0
 tw14905879285262576226:=0
 tw816418120500442169:=0
 tw1631168385192468697:=0
 tw16538823644791170457:=0
 tw11256468073278170073:=0
 tw10033851370699181753:=0
 tw2132318024125948217:=0
 tw11493834614132210169:=0
 tw5709928653076813273:=0
 tw11106585216697749145:=0
 tw8638215565522242576:=0
 tw15174664732152240080:=0
 tw13573799752383618448:=0
 tw17249236700696954736:=0
 tw6185271711137531344:=0
 tw4243623526693501072:=0
 tw9833834077233807664:=0
 tw12513258961230398672:=0
 tw6940307564205486320:=0
 tw7841378548117663887:=0
 tw14369276919863872879:=0
 tw2997890241167053775:=0
 tw3100634245147236239:=0
 tw2619160298517580367:=0
 tw4946975983845944431:=0
 tw12591946963032785423:=0
 tw8013209944698577615:=0
 tw6471263903205002991:=0
 tw11508321690833132879:=0
 tw4149500681922670031:=0
 tw5469847335821726095:=0
 tw17607509561663759439:=0
 tw16020782597194798159:=0
 tw14192581775399539727:=0
 tw236141598275734735:=0
 tw11500480926882156550:=0
 tw2803489352724859238:=0
 tw12864450243361974918:=0
 tw8785281309626833158:=0
 tw12918973797381653350:=0
 tw88090474490354429:=0
 tw8383878584287003709:=0
 tw18062560384878403517:=0
 tw5240957445830137780:=0
 tw5363904477073744212:=0
 tw14593418625999606228:=0
 tw12241908110141527668:=0
 tw8555570060218421524:=0
 tw2512387926107200340:=0
 tw18405944699086272532:=0
 tw18403747277104764884:=0
 tw5127656597330825204:=0
 tw2486891734100652756:=0
 tw12767894857542946259:=0
 tw16122234807768839411:=0
 tw14130489172310098163:=0
 tw14695973134871176723:=0
 tw2069234246661619763:=0
 tw39251255095879146:=0
 tw5056896060521951690:=0
 tw14341787232108731434:=0
 tw7233757753069696586:=0
 tw10886292652446740746:=0
 tw16317220722363426666:=0
 tw12562116950023131530:=0
 tw13732693070430988618:=0
 tw7757797596222285802:=0
 tw17590302424207149994:=0
 tw11102339308073805738:=0
 tw10585724962367722090:=0
 tw11102806970198276650:=0
 tw6917006865801397002:=0
 tw4504286706666797418:=0
 tw1843879552376279946:=0
 tw12629745571950290689:=0
 tw9763450348359015457:=0
 tw7321614846881722945:=0
 tw6355898432204943937:=0
 tw6829225585591486625:=0
 tw4066678118797011905:=0
 tw9799194614256393089:=0
 tw2673421445855471681:=0
 tw11388070926812382689:=0
 tw10899270556925160824:=0
 tw14497814056647598488:=0
 tw6298370425624679960:=0
 tw7259857395985134104:=0
 tw8681828976708534424:=0
 tw12612879179679916856:=0
 tw5752631490924113720:=0
 tw15253016096687363832:=0
 tw16948157511126416312:=0
 tw8461597784913316952:=0
 tw4319425542818907160:=0
 tw5122361228800031768:=0
 tw8451630109622236792:=0
 tw7479783278123094680:=0
 tw2233439163950745303:=0
 tw11362224704624231351:=0
 tw14061574493665666519:=0
 tw13031130993950480439:=0
 tw17351403904076745463:=0
 tw38386967574392567:=0
 tw13754841518164825303:=0
 tw14149695376981441367:=0
 tw13195363838787559863:=0
 tw2708221915504251319:=0
 tw9298649147358148151:=0
 tw6639647074552424695:=0
 tw12344118576613015502:=0
 tw6717718968351124718:=0
 tw8825702187098787726:=0
 tw5941548356880927598:=0
 tw651501057105625134:=0
 tw16460320966249669070:=0
 tw4105626253956020206:=0
 tw1098888244547364846:=0
 tw13705954499863227982:=0
 tw8802179652272526606:=0
 tw16967127882347677486:=0
 tw4845850339604495461:=0
 tw6035180119114570469:=0
 tw10960377528271445061:=0
 tw4950442050926865029:=0
 tw14116007761862941733:=0
 tw4549307062665304037:=0
 tw14259237082704867301:=0
 tw14721779071714262300:=0
 tw325698124164803292:=0
 tw14408992284245771932:=0
 tw16046141789004998300:=0
 tw10690430647663743836:=0
 tw9734322847915476028:=0
 tw12480323532118278332:=0
 tw7549260304885978300:=0
 tw18001257034118800540:=0
 tw9058577725544869628:=0
 tw14749726415810769595:=0
 tw11527313766343547579:=0
 tw18391311356248705947:=0
 tw8236901071811502107:=0
 tw17385159137454239163:=0
 tw7436243871881361851:=0
 tw2794816711514652443:=0
 tw17905561055247051547:=0
 tw12270667654445210011:=0
 tw15660623646603444283:=0
 tw8209732895934965266:=0
 tw7934481844065665074:=0
 tw9552789984866565106:=0
 tw13476009353799100402:=0
 tw16356715839671976530:=0
 tw2786264800011546226:=0
 tw633019405233830226:=0
 tw3639041600559149010:=0
 tw7177642685091287826:=0
 tw8559907439018951442:=0
 tw7003294000166131602:=0
 tw4802863908848916105:=0
 tw2491790135060087081:=0
 tw10485142907442889961:=0
 tw7871812827931429225:=0
 tw8517002772486569481:=0
 tw61633707156419081:=0
 tw11459433070492537033:=0
 tw17759617149254735049:=0
 tw7938497294285716681:=0
 tw654771127902145481:=0
 tw14810848170978235273:=0
 tw15485583828301198217:=0
 tw18084393744351685097:=0
 tw5538037576915664905:=0
 tw15924306913270476160:=0
 tw17336671750689179168:=0
 tw17666653584744644832:=0
 tw9120311205200705280:=0
 tw4532443766539945248:=0
 tw4389108259173961696:=0
 tw16500136050146375776:=0
 tw10748967360163530848:=0
 tw1674579587970101280:=0
 tw16939116793184336512:=0
 tw15499950136571304800:=0
 tw4429166099108648192:=0
 tw11539632091037067651:=0
 tw1253151987608750860:=0
abbrev aJ:=List (Int×Int)
abbrev cS:=List (List Int)
abbrev bZ:=List (PySem.Addr×PySem.Obj)
abbrev iL:=List (Option Nat)
set_option bootstrap.genMatcherCode false
set_option compiler.extract_closed false
set_option Elab.async false
set_option linter.all false
set_option maxRecDepth 100000
namespace L2
open PySem PySem.Spec PyProof.Rows
abbrev bz:=Sum Int Str
noncomputable def uk:bz->Value->Bool
 | .inl k,v=>KY k v
 | .inr x,v=>KW x v
noncomputable def Q4(w:World):bz->Int
 | .inl k=>hashInt k
 | .inr x=>hashStr w x
def mK:∀{k:bz} {v:Value},uk k v=true->(∃i t,k=gy i/\v=jx i t)\/(∃x t,k=w5 x/\v=Eo x t)
 | .inl i,v,h=>by
  obtain⟨t,e⟩:=Value.isInt_shape h;exact .inl ⟨i,t,rfl,e⟩
 | .inr x,v,h=>by
  obtain⟨t,e⟩:=Value.isStrOf_shape h;exact .inr ⟨x,t,rfl,e⟩
def Q5(i:Int)(t:Tok):uk (.inl i) (.int i t)=true:=by simp[uk,KY]
def Q6(x:Str)(t:Tok):uk (.inr x) (.str x t)=true:=by simp[uk,KW]
def Q7(a b:Int):decide ((gy a:bz)=gy b)=(a==b):=by lia
def Q8(a b:Str):decide ((w5 a:bz)=w5 b)=decide (a=b):=by lia
def Q9(a:Int)(b:Str):decide ((gy a:bz)=w5 b)=false:=decide_eq_false (λ q=>nomatch q)
def Ra(a:Str)(b:Int):decide ((w5 a:bz)=gy b)=false:=decide_eq_false (λ q=>nomatch q)
noncomputable def gR(prog:bD)(w:World):PySem.KeyKind prog w bz where
 is:=uk
 hash:=Q4 w
 inj:=λ v a b f d=>by
  rcases mK f with ⟨i,t,rfl,rfl⟩|⟨x,t,rfl,rfl⟩
  .rcases mK d with ⟨j,u,rfl,e⟩|⟨y,u,rfl,e⟩
   .injection e with e1 _;rw[e1]
   .exact nomatch e
  .rcases mK d with ⟨j,u,rfl,e⟩|⟨y,u,rfl,e⟩
   .exact nomatch e
   .injection e with e1 _;rw[e1]
 byValue:=λ k v h=>by
  rcases mK h with ⟨i,t,rfl,rfl⟩|⟨x,t,rfl,rfl⟩<;>rfl
 pyHash:=λ c h=>by
  rcases mK c with ⟨i,t,rfl,rfl⟩|⟨x,t,rfl,rfl⟩
  .exact wpAny_pyHash_int h
  .exact wpAny_pyHash_str h
 eqBool:=λ g c h=>by
  rcases mK g with ⟨i,t,rfl,rfl⟩|⟨x,t,rfl,rfl⟩
  .rcases mK c with ⟨j,u,rfl,rfl⟩|⟨y,u,rfl,rfl⟩
   .rw[Q7]at h;exact DI h
   .rw[Q9]at h;exact KI i t y u _ _ _ _ h
  .rcases mK c with ⟨j,u,rfl,rfl⟩|⟨y,u,rfl,rfl⟩
   .rw[Ra]at h;exact KJ x t j u _ _ _ _ h
   .rw[Q8]at h;exact wpAny_eqBool_str h
 «strs»:=λ k x t v h=>by
  rcases mK h with ⟨i,u,rfl,e⟩|⟨y,u,rfl,e⟩
  .exact nomatch e
  .injection e with e1 _
   subst e1;cases v<;>rfl
def Rb(prog:bD)(w:World)(i:Int)(t:Tok):(gR prog w).is (.inl i) (.int i t)=true:=Q5 i t
def Rc(prog:bD)(w:World)(x:Str)(t:Tok):(gR prog w).is (.inr x) (.str x t)=true:=Q6 x t
inductive V where
 |non|bl (b:Bool)|int (i:Int)|str (x:Str)|byt (b:Array UInt8)|flt (b:UInt64)|ref (a:Addr)|ty (n:String)
 deriving DecidableEq
def RelV:V->Value->Prop
 | .non,u=>u=fE
 | .bl b,u=>u=AB b
 | .int i,u=>∃t,u=jx i t
 | .str x,u=>∃t,u=Eo x t
 | .byt b,u=>∃t,u=Value.bytes b t
 | .flt b,u=>∃t,u=KX b t
 | .ref a,u=>u=fX a
 | .ty n,u=>u=mJ n
abbrev Vals:List V->List Value->Prop:=qq RelV
theorem Vals.length(r:Vals xs us):xs.length=us.length:=Ay r
theorem Vals.get:∀{xs:List V} {s:List Value} {i:Nat} {x:V},Vals xs s->xs[i]? =some x->∃u,s[i]? =some u/\RelV x u
 |_,_,_,_,.nil,e=>by simp_all
 |_,_,0,_,.cons r _,e=>by simp at e;subst e;exact⟨_,rfl,r⟩
 |_,_,i+1,x,.cons _ t,e=>by
  obtain⟨u,a,h⟩:=Vals.get t (by assumption);exact⟨u,by assumption,h⟩
theorem Vals.set(r:RelV x u):∀{xs:List V} {s:List Value} (i:Nat),Vals xs s->Vals (xs.set i x) (s.set i u)
 |_,_,_,.nil=>.nil
 |_,_,0,.cons _ t=>.cons r t
 |_,_,i+1,.cons q t=>.cons q (Vals.set r i t)
theorem Vals.append:∀{xs ys:List V} {u ws:List Value},Vals xs u->Vals ys ws->Vals (xs++ys) (u++ws)
 |_,_,_,_,.nil,s=>s
 |_,_,_,_,.cons r t,s=>.cons r (Vals.append t s)
theorem Vals.take:∀{xs:List V} {u:List Value} (n:Nat),Vals xs u->Vals (xs.take n) (u.take n)
 |_,_,0,_=>.nil
 |_,_,_+1,.nil=>.nil
 |_,_,n+1,.cons r t=>.cons r (Vals.take n t)
theorem Vals.drop:∀{xs:List V} {u:List Value} (n:Nat),Vals xs u->Vals (xs.drop n) (u.drop n)
 |_,_,0,r=>r
 |_,_,_+1,.nil=>.nil
 |_,_,n+1,.cons _ t=>Vals.drop n t
def ku:Option V->Option Value->Prop
 |some v,some u=>RelV v u
 |none,none=>True
 |_,_=>False
def fu{κ:Type}:List (κ×V)->List (κ×Value)->Prop:=qq λ(p:κ×V) (q:κ×Value)=>p.1=q.1/\RelV p.2 q.2
noncomputable def eu:bz->V
 | .inl i=>.int i
 | .inr x=>.str x
inductive HO where
 |lst (xs:List V)
 |tup (xs:List V)
 |dK (kvs:List (bz×V))|dT (kvs:List (List bz×V))
 |set (S:Int->Bool) (n:Nat)
 |ins (C dx:Addr) (fs:List (Str×V))
 |own (x:Addr)
 |xd (fs:List (Str×V))
 |met (f x:Addr)
 |rng (lo hi:Int)
 |frz (o:Obj) (u:HO)
 |tbl (q:Str)
 |ext (φ:Heap->Prop)
abbrev au:=Addr->Option HO
noncomputable def bt(H:au)(a:Addr)(o:HO):au:=λ b=>if b=a then some o else H b
def dQ:bt H a o a=some o:=by unfold bt;simp_all
def cp(h:b≠a):bt H a o b=H b:=by unfold bt;rw[if_neg h]
def Rd{H:au}{a b:Addr}{o u:HO}(h:H a=some o)(h':H b=some u)(d:o≠u):a≠b:=by lia
def lb{H:au}{a b:Addr}{o:HO}(h:H a=some o)(h':H b=none):a≠b:=by
 lia
def NoD(h:Heap)(a:Addr):Prop:=∀o,h.get? a=some o->o.dict=none
theorem NoD.push(h:Heap){o:Obj}(l:o.isFreed=false:=by rfl)(d:o.dict=none:=by rfl):NoD (h.push o) h.objs.size:=λ u e=>by rw[dy _ l]at e;grind
def NoD.keep{h h':Heap}{a:Addr}{o:Obj}(n:NoD h a)(e:h.get? a=some o)(b:h'.get? a=some o):NoD h' a:=λ u q=>by rw[b]at q;cases q;exact n o e
section
variable{H H':au}
def Re(q:Str)(o:Obj):Prop:=∃vs t,o.data= .fields vs/\vs[1]? =some (.str q t)
def TabOk(q:Str)(H:au)(ps:Array Value):Prop:=TriplesOk ps.toList/\∀pos v,codeAmong pos ps.toList=some v->∃c o,v= .ref c/\H c=some (.frz o (.own c))/\Re q o
def TabOk.mono(t:TabOk q H ps)(f:∀b o u,H b=some (.frz o u)->H' b=some (.frz o u)):TabOk q H' ps:=⟨t.1,λ pos c h=>let⟨c',oc,z,a,b⟩:=t.2 _ c h;⟨c',oc,z,f _ _ _ a,b⟩⟩
end
section
variable(P:bD)(w:World)
def fY(H:au)(h:Heap)(a:Addr):HO->Prop
 | .lst xs=>xs.length<=aQ/\∃(i:List Value) (n:Nat),Vals xs i/\h.get? a=some {cls:=.type "list",data:=.seq i.toArray n}
 | .tup xs=>(xs.length<=aQ/\NoD h a)/\∃i:List Value,Vals xs i/\IsTup h a i.toArray
 | .dK k=>k.length<=aQ/\(a==iI)=false/\∃vs,fu k vs/\h.DictOf (gR P w) a vs
 | .dT k=>k.length<=aQ/\(a==iI)=false/\∃xs:List (List bz×Addr×Value),
   qq (λ(p:List bz×V) (q:List bz×Addr×Value)=>p.1=q.1/\H q.2.1=some (.tup (p.1.map eu))/\RelV p.2 q.2.2) k xs/\
   ∃o es ep,h.get? a=some o/\o.ExactDict/\o.data= .dict es ep/\es.toList=xs.map (entryOfKey (wI (gR P w)))/\(xs.map (·.1)).Nodup
 | .set S n=>h.SetOf (hZ P w) a S n
 | .ins C d fs=>H d=some (.own a)/\fs.length<=1000/\d≠a/\h.get? a=some (uj C d)/\
   ∃m,h.Ns1 d m/\(∀f,ku (fs.lookup f) (m f))/\J6 m (fs.map (·.1))
 | .own _=>∃o,h.get? a=some o
 | .xd fs=>∃m,h.Ns1 a m/\∀f,ku (fs.lookup f) (m f)
 | .rng l e=>∃t u v,h.get? a=some {cls:=.type "range",data:=.fields #[.int l t,.int e u,.int 1 v]}
 | .frz o u=>h.get? a=some o/\fY H h a u
 | .tbl q=>∃ps,h.get? a=some {cls:=.none,data:=.fields ps}/\TabOk q H ps
 | .met f x=>h.get? a=some (PySem.W.methodObj (.ref f) (.ref x))
 | .ext φ=>φ h/\(∃o,h.get? a=some o)/\∀b c:Heap,φ b->(∀o,b.get? a=some o->c.get? a=some o)->φ c
def eL(H:au)(h:Heap):Prop:=∀a o,H a=some o->fY P w H h a o
end
section
variable{P:bD}{w:World}{H H':au}{h h':Heap}{a:Addr}{o:HO}
theorem fY.lt(x:fY P w H h a o):a<h.objs.size:=by
 cases o with
 |lst xs=>obtain⟨_,_,_,_,e⟩:=x;exact cb e
 |tup xs=>obtain⟨_,_,_,p⟩:=x;exact p.lt
 |dK k=>obtain⟨_,_,_,_,o,_,_,e,_⟩:=x;exact cb e
 |dT k=>obtain⟨_,_,_,_,o,_,_,e,_⟩:=x;exact cb e
 |set S n=>obtain⟨o,_,_,_,e,_⟩:=x;exact cb e
 |ins C d fs=>obtain⟨_,_,_,e,_⟩:=x;exact cb e
 |own y=>obtain⟨_,e⟩:=x;exact cb e
 |xd fs=>obtain⟨_,⟨_,_,_,e,_⟩,_⟩:=x;exact cb e
 |rng l i=>obtain⟨_,_,_,e⟩:=x;exact cb e
 |frz ob u=>obtain⟨e,_⟩:=x;exact cb e
 |tbl q=>obtain⟨ps,e,_⟩:=x;exact cb e
 |met f y=>exact cb (x)
 |ext φ=>obtain⟨_,⟨_,e⟩,_⟩:=x;exact cb e
theorem Paired.mapP:∀{l₁:List α} {l₂:List β},qq F l₁ l₂->(∀a b,F a b->G a b)->qq G l₁ l₂
 |_,_,.nil,_=>.nil
 |_,_,.cons r t,f=>.cons (f _ _ r) (Paired.mapP t f)
def fY.stay(x:fY P w H h a o)(k:∀b u,(b=a\/H b=some (.own a))->h.get? b=some u->h'.get? b=some u)
  (j:∀b,H b=some (.own a)->H' b=some (.own a))(l:∀b xs,H b=some (.tup xs)->H' b=some (.tup xs))(hz:∀b o u,H b=some (.frz o u)->H' b=some (.frz o u):=by exact λ _ _ _ q=>q):fY P w H' h' a o:=by
 induction o with
 |lst xs=>obtain⟨z,i,n,r,e⟩:=x;exact⟨z,i,n,r,k _ _ (.inl rfl) e⟩
 |tup xs=>obtain⟨z,i,r,ob,e,c⟩:=x;exact⟨⟨z.1,z.2.keep e (k _ _ (.inl rfl) e)⟩,i,r,ob,k _ _ (.inl rfl) e,c⟩
 |dK s=>obtain⟨z,y,vs,r,ob,es,ep,e,c⟩:=x;exact⟨z,y,vs,r,ob,es,ep,k _ _ (.inl rfl) e,c⟩
 |dT s=>
  obtain⟨z,y,xs,r,ob,es,ep,e,c⟩:=x;exact⟨z,y,xs,Paired.mapP r λ p q z=>⟨z.1,l _ _ z.2.1,z.2.2⟩,ob,es,ep,k _ _ (.inl rfl) e,c⟩
 |set S n=>obtain⟨ob,es,ep,t,e,c⟩:=x;exact⟨ob,es,ep,t,k _ _ (.inl rfl) e,c⟩
 |ins C E fs=>
  obtain⟨d,z,A,e,m,⟨g,es,ep,B,c⟩,r⟩:=x;exact⟨j _ d,z,A,k _ _ (.inl rfl) e,m,⟨g,es,ep,k _ _ (.inr d) B,c⟩,r⟩
 |own y=>obtain⟨ob,e⟩:=x;exact⟨ob,k _ _ (.inl rfl) e⟩
 |xd fs=>obtain⟨m,⟨g,es,ep,e,c⟩,r⟩:=x;exact⟨m,⟨g,es,ep,k _ _ (.inl rfl) e,c⟩,r⟩
 |rng F G=>obtain⟨t,u,v,e⟩:=x;exact⟨t,u,v,k _ _ (.inl rfl) e⟩
 |frz ob u D=>obtain⟨e,q⟩:=x;exact⟨k _ _ (.inl rfl) e,D q⟩
 |tbl q=>
  obtain⟨ps,e,t⟩:=x;exact⟨ps,k _ _ (.inl rfl) e,t.mono hz⟩
 |met f y=>
  have e:=x;exact k a _ (.inl rfl) e
 |ext φ=>obtain⟨p,⟨o,e⟩,st⟩:=x;exact⟨st _ _ p λ o q=>k _ _ (.inl rfl) q,⟨o,k _ _ (.inl rfl) e⟩,st⟩
theorem eL.lt(x:eL P w H h)(e:H a=some o):a<h.objs.size:=(x a o e).lt
def eL.fresh(x:eL P w H h)(e:h.objs.size<=a):H a=none:=by
 cases q:H a with
 |none=>rfl
 |some u=>exact absurd (fq (x.lt q) e) (jL _)
def eL.kept(x:eL P w H h)(k:∀b u,h.get? b=some u->h'.get? b=some u):eL P w H h':=λ a o e=>
 (x a o e).stay (λ b u _ q=>k b u q) (λ _ q=>q) λ _ _ q=>q
def eL.laid(x:eL P w H h)(k:∀b u,h.get? b=some u->h'.get? b=some u)(ah:h.objs.size<=a)(f:fY P w (bt H a o) h' a o):eL P w (bt H a o) h':=λ b u e=>by
 have n:=x.fresh ah;by_cases d:b=a
 .subst d;rw[dQ]at e;simp_all
 .rw[cp d]at e
  exact(x b u e).stay (λ c v _ q=>k c v q) (λ c q=>by rw[cp (lb q n)];assumption) (λ c xs q=>by rw[cp (lb q n)];assumption) λ c g i q=>by rw[cp (lb q n)];assumption
end
def mL(H:au)(a:Addr)(u:HO):Prop:=H a=some u\/∃o,H a=some (.frz o u)
def mL.ok(r:mL H a u)(x:eL P w H h):fY P w H h a u:=by
 rcases r with r|⟨o,r⟩
 .exact x a u r
 .obtain⟨_,q⟩:=x a _ r
  simp_all
def w6:Option HO->Prop
 |some (.lst _)=>True
 |some (.dK _)=>True
 |some (.dT _)=>True
 |some (.set _ _)=>True
 |some (.ins _ _ _)=>True
 |some (.ext _)=>True
 |_=>False
section
variable{P:bD}{w:World}{H:au}{h h':Heap}{x e:Addr}{o:HO}
def eL.write(ok:eL P w H h)(m:w6 (H x))(l:e=x\/H e=some (.own x))(k:∀b u,b≠e->h.get? b=some u->h'.get? b=some u)(a:∃u,h'.get? e=some u)
  (d:fY P w (bt H x o) h' x o):eL P w (bt H x o) h':=λ b u q=>by
 have n:∀c y,H c=some (.own y)->c≠x:=λ c y r z=>by subst z;rw[r]at m;exact m
 have t:∀c xs,H c=some (.tup xs)->c≠x:=λ c xs r z=>by subst z;rw[r]at m;exact m
 by_cases g:b=x
 .subst g;rw[dQ]at q;cases q;exact d
 .rw[cp g]at q
  by_cases f:b=e
  .have i:H b=some (.own x):=by lia
   rw[q]at i;cases i;obtain⟨v,j⟩:=a;exact⟨v,by rw[f];exact j⟩
  .refine(ok b u q).stay (λ c v p r=>k c v ?_ r) (λ c r=>by rw[cp (n c b r)];exact r) (λ c xs r=>by rw[cp (t c xs r)];exact r) λ c o2 s r=>by rw[cp λ z=>by subst z;rw[r]at m;exact m];exact r
   grind
end
structure gG(fs ex:List Addr)(H H':au)(h h':Heap):Prop where
 keep:∀b o,h.get? b=some o->H b=none->b∉fs->b∉ex->h'.get? b=some o
 slot:∀b o,h.get? b=some o->H b=none->b∈fs->b∉ex->∃sl,h'.get? b=some {o with slots:=sl}
 free:∀b o,h.get? b=some o->H b=none->b∉ex->H' b=none
 there:∀b o,h.get? b=some o->b∉ex->∃o',h'.get? b=some o'
 tups:∀b xs,H b=some (.tup xs)->H' b=some (.tup xs)
 frzs:∀b o u,H b=some (.frz o u)->H' b=some (.frz o u)
 tbls:∀b q,H b=some (.tbl q)->H' b=some (.tbl q)
section
variable{fs c:List Addr}{H f:au}{h d h':Heap}{a x e:Addr}{o:HO}
def gG.any(u:gG fs c H f h d)(q:h.get? b=some ob)(n:H b=none)(x:b∉c):∃sl,d.get? b=some {ob with slots:=sl}:=by
 by_cases a:b∈fs
 .exact u.slot b ob q n a x
 .exact⟨_,u.keep b ob q n a x⟩
def gG.kept(k:∀b u,h.get? b=some u->h'.get? b=some u):gG fs c H H h h':=
 ⟨λ b ob q _ _ _=>k b ob q,λ b ob q _ _ _=>⟨_,k b ob q⟩,λ _ _ _ n _=>n,λ b ob q _=>⟨ob,k b ob q⟩,λ _ _ q=>q,λ _ _ _ q=>q,λ _ _ q=>q⟩
def gG.refl:gG fs c H H h h:=gG.kept λ _ _ q=>q
def gG.laid(k:∀b u,h.get? b=some u->h'.get? b=some u)(ah:h.objs.size<=a)(d:H a=none):gG fs c H (bt H a o) h h' where
 keep:=λ b u q _ _ _=>k b u q
 slot:=λ b u q _ _ _=>⟨_,k b u q⟩
 free:=λ b u q n _=>by rw[cp (cC (fq (cb q) ah))];assumption
 there:=λ b u q _=>⟨u,k b u q⟩
 tups:=λ b xs q=>by rw[cp (lb q d)];assumption
 frzs:=λ b u xs q=>by rw[cp (lb q d)];assumption
 tbls:=λ b r q=>by rw[cp (lb q d)];assumption
def gG.write(d:w6 (H x))(i:e=x\/H e=some (.own x))(k:∀b u,b≠e->h.get? b=some u->h'.get? b=some u)(f:∃u,h'.get? e=some u):gG fs c H (bt H x o) h h':=by
 have g:∀b,H b=none->b≠x:=λ b n z=>by subst z;rw[n]at d;assumption
 have a:∀b,H b=none->b≠e:=λ b n z=>by lia
 have m:∀b u,H b=some u->¬w6 (some u)->b≠x:=λ b u q nm z=>by lia
 refine⟨λ b u q n _ _=>k b u (a b n) q,λ b u q n _ _=>⟨_,k b u (a b n) q⟩,λ b u q n _=>by rw[cp (g b n)];assumption,λ b u q _=>?_,
  λ b xs q=>by rw[cp (m b _ q λ z=>z)];assumption,λ b u xs q=>by rw[cp (m b _ q λ z=>z)];assumption,λ b r q=>by rw[cp (m b _ q λ z=>z)];exact q⟩
 grind
end
noncomputable def Lb(h:Heap)(H:au):List Addr:=(dY h.objs.size).filter λ a=>(H a).isSome
def o1(h:Heap)(H:au):Heap:=Eu h (Lb h H)
def Rf(h:Heap)(H:au):(o1 h H).objs.size=h.objs.size:=PySem.W.hideAll_size _ _
def Rg(e:h.get? b=some o)(n:H b=none):(o1 h H).get? b=some o:=
 AD _ e λ m=>by
  have q:=(hX.mp m).2;simp_all
def Rh(e:(o1 h H).get? b=some o):h.get? b=some o/\H b=none:=by
 have a:=K3 _ e;refine⟨a,?_⟩;cases q:H b with
 |none=>rfl
 |some x=>
  have m:b∈Lb h H:=hX.mpr ⟨oN.mpr (cb a),by simp_all⟩;have z:(o1 h H).get? b=none:=PySem.W.hideAll_none _ m;simp_all
noncomputable def Ri(g h:Heap)(L:Addr):bZ:=(dY h.objs.size).filterMap λ a=>if a=L\/(g.get? a).isSome=true then none else(h.get? a).map λ o=>(a,o)
noncomputable def rest(g h:Heap)(L d:Addr):bZ:=(Ri g h L).filter λ p=>decide (p.1≠d)
structure Mod(K:aB)(mg:Str->Option Value)(base:Heap):Prop where
 kin:K.In base
 glob:base.Ns dv mg
 blt:∃mb,base.Ns D1 mb/\∀x:Str,x≠"__name__"->mb x=gx x
 nolimit:base.NoLimit
structure aZ where
 prog:bD
 w:World
 K:aB
 mg:Str->Option Value
 base:Heap
 A:cg
 N:List Str
 zS:ax
 zD:au
 env:Env
 outer:List Env
 stack:List Env
 ex:List Addr
 fn:Str->Bool
 calm:Bool
 pn:bZ
 xe:Value->ax->Prop
 ta:bZ:=[]
 tq:Str:=""
noncomputable def eX(l:List Env):List Addr:=l.filterMap (·.frame)
abbrev aZ.fs(X:aZ):List Addr:=eX X.outer
def hI(s:Scope)(x:Str):Prop:=s.names.lookup x=some .local\/s.names.lookup x=some .cell\/s.names.lookup x=some .free
def lg(s:Scope)(x:Str):Prop:=s.names.lookup x=some .local\/s.names.lookup x=some .cell
def Look(env:Env)(h:Heap)(m:Str->Option Value)(x:Str)(u:Value):Prop:=
 (env.kindOf x=some .local/\m x=some u)\/((env.kindOf x=some .cell\/env.kindOf x=some .free)/\∃c,env.cells.lookup x=some c/\h.IsCell c (some u))
structure aZ.Ok(X:aZ):Prop where
 mod:Mod X.K X.mg X.base
 kind:X.env.scope.kind= .function
 glob:X.env.globals=dv
 blt:X.env.builtins=D1
 above:X.zS.heap.objs.size<=X.env.locals
 inj:∀x y c,X.env.cells.lookup x=some c->X.env.cells.lookup y=some c->x=y
 has:∀x,(X.env.kindOf x=some .cell\/X.env.kindOf x=some .free)->∃c,X.env.cells.lookup x=some c
 cab:∀x c,X.fn x=true->X.env.cells.lookup x=some c->X.zS.heap.objs.size<=c
 hd:X.calm=true->X.A.handled=none
 frames:X.A.frames=some X.stack
 stk:X.stack=X.outer\/(X.stack=X.env::X.outer/\X.env.frame=some X.env.locals)
 exf:∀b∈X.ex,b≠X.env.locals/\∀x c,X.env.cells.lookup x=some c->c≠b
 bs:∀b o,X.base.get? b=some o->X.zS.heap.get? b=some o/\X.zD b=none
 bsz:X.base.objs.size<=X.zS.heap.objs.size
 noex:∀b o,X.base.get? b=some o->b∉X.ex
 exfs:∀b∈X.ex,b∉X.fs
 funs:X.zS.heap.FunFrames X.base X.outer
 frf:∀b∈X.fs,X.zD b=none
structure Inv(X:aZ)(kQ:bZ)(Z:List (Option V))(H:au)(s:ax):Prop where
 ok:X.Ok
 os:s.os=X.zS.os
 bare:nI s.gens
 base:gG X.fs X.ex X.zD H X.zS.heap s.heap
 loc:∃m,s.heap.Ns X.env.locals m/\∀(i:Nat) (x:Str) (v:V),X.N[i]? =some x->Z[i]? =some (some v)->hI X.env.scope x->∃u,RelV v u/\Look X.env s.heap m x u
 cell:∀x c,X.env.cells.lookup x=some c->∃v,s.heap.IsCell c v
 free:H X.env.locals=none
 freeC:∀x c,X.env.cells.lookup x=some c->H c=none
 pin:∀p∈X.pn++kQ,s.heap.get? p.1=some p.2/\H p.1=none/\p.1≠X.env.locals/\p.1∉X.fs/\∀v,p.2.data≠.cell v
 hok:eL X.prog X.w H s.heap
 len:Z.length=X.N.length
 tab:∀p∈X.ta,H p.1=none/\p.1≠X.env.locals/\p.1∉X.fs/\(∀q∈X.pn++kQ,q.1≠p.1)/\∃ps,s.heap.get? p.1=some {cls:=.none,data:=.fields ps}/\TabOk X.tq H ps
section
variable{X:aZ}{f:bZ}{Z:List (Option V)}{H H':au}{s:ax}{h':Heap}
def aZ.Ok.nofr(ok:X.Ok)(e:X.base.get? b=some o):b∉X.fs:=λ h=>by
 have:=(ok.funs.mem h).1
 grind
theorem Inv.bs(I:Inv X f Z H s):∀b o,X.base.get? b=some o->s.heap.get? b=some o/\H b=none:=λ b o e=>
 ⟨I.base.keep b o (I.ok.bs b o e).1 (I.ok.bs b o e).2 (I.ok.nofr e) (I.ok.noex b o e),I.base.free b o (I.ok.bs b o e).1 (I.ok.bs b o e).2 (I.ok.noex b o e)⟩
def Inv.bk(I:Inv X f Z H s):∀b o,X.base.get? b=some o->s.heap.get? b=some o:=λ b o e=>(I.bs b o e).1
theorem Inv.mod(I:Inv X f Z H s):Mod X.K X.mg X.base:=I.ok.mod
def Inv.kIn(I:Inv X f Z H s):X.K.In s.heap:=I.ok.mod.kin.keeps I.bk
def Inv.fr(I:Inv X f Z H s):∃m,Fr X.base X.env.locals s.heap m:=
 let⟨m,hn,_⟩:=I.loc
 ⟨m,hn,I.bk,fD I.ok.bsz I.ok.above⟩
theorem Inv.lt(I:Inv X f Z H s):X.env.locals<s.heap.objs.size:=let⟨_,hn,_⟩:=I.loc;hn.lt
def Inv.sz(I:Inv X f Z H s):X.zS.heap.objs.size<=s.heap.objs.size:=fD I.ok.above (jS I.lt)
def Inv.nofs(I:Inv X f Z H s)(h:s.heap.objs.size<=a):a∉X.fs:=λ b=>by
 obtain⟨_,o,c,_⟩:=I.ok.funs.mem b;exact absurd (fq (cb c) (fD I.sz h)) (jL _)
def Inv.cne(I:Inv X f Z H s):∀x c,X.env.cells.lookup x=some c->c≠X.env.locals:=λ x c e z=>by
 obtain⟨v,o,a,b⟩:=I.cell x c e;obtain⟨m,⟨g,es,ep,h,d,_⟩,_⟩:=I.loc;simp_all
theorem Inv.funs(I:Inv X f Z H s):s.heap.FunFrames X.base X.outer:=by
 have all:∀(l:List _),(∀b∈eX l,b∈X.fs)->X.zS.heap.FunFrames X.base l->s.heap.FunFrames X.base l:=by
  intro l;induction l with
  |nil=>intro _ _;trivial
  |cons env r i=>
   intro d g;obtain⟨k,⟨L,o,h,n,j,m⟩,hr⟩:=g;have a:=d L (by unfold eX;rw[pZ,h];exact c0);obtain⟨sl,e⟩:=I.base.slot L o j (I.ok.frf L a) a λ z=>I.ok.exfs L z a
   exact⟨k,⟨L,_,h,n,e,m⟩,i (λ b c=>d b (by unfold eX;rw[pZ,h];exact dN _ c)) hr⟩
 exact all _ (λ _ c=>c) I.ok.funs
theorem Inv.stack(I:Inv X f Z H s):s.heap.FunFrames X.base X.stack:=by
 rcases I.ok.stk with e|⟨e,h⟩
 .rw[e];exact I.funs
 .rw[e]
  obtain⟨m,n,_⟩:=I.loc;refine .cons (by rw[I.ok.kind];decide) h n ?_ I.funs;exact Heap.get?_none_of_le (fD I.ok.bsz I.ok.above)
def Inv.stkSub(I:Inv X f Z H s):∀b∈eX X.stack,b∈X.env.locals::X.fs:=λ b h=>by
 rcases I.ok.stk with e|⟨e,a⟩
 .simp_all
 .rw[e]at h
  unfold eX at h;rw[pZ,a]at h;assumption
def Inv.stkFree(I:Inv X f Z H s):∀b∈eX X.stack,H b=none:=λ b h=>by
 rcases b8.mp (I.stkSub b h)with e|h
 .rw[e];exact I.free
 .obtain⟨_,o,a,_⟩:=I.ok.funs.mem h
  exact I.base.free b o a (I.ok.frf b h) λ z=>I.ok.exfs b z h
def Inv.step{Q:Array Du}{t':Nat}{T:Drawn}{ch:List Addr}(I:Inv X f Z H s)
  (g:∀b∈ch,(b∈X.ex\/X.zS.heap.objs.size<=b)/\b≠X.env.locals/\(∀x c,X.env.cells.lookup x=some c->c≠b)/\∀p∈X.ta++(X.pn++f),p.1≠b)
  (keep:∀b o,b≠X.env.locals->b∉X.fs->b∉ch->s.heap.get? b=some o->H b=none->h'.get? b=some o)
  (j:∀b o,b≠X.env.locals->b∈X.fs->b∉ch->s.heap.get? b=some o->H b=none->∃sl,h'.get? b=some {o with slots:=sl})(free:∀b o,b∉ch->s.heap.get? b=some o->H b=none->H' b=none)
  (y:∀b o,b∉ch->s.heap.get? b=some o->∃E,h'.get? b=some E)
  (F:∀b xs,H b=some (.tup xs)->H' b=some (.tup xs))(w:∀b o u,H b=some (.frz o u)->H' b=some (.frz o u))(G:∀b q,H b=some (.tbl q)->H' b=some (.tbl q))
  (ns:∀m,s.heap.Ns X.env.locals m->h'.Ns X.env.locals m)(M:eL X.prog X.w H' h')(U:nI Q):
  Inv X f Z H' {s with heap:=h',gens:=Q,drawn:=T,toks:=t'}:=by
 have L:∀b o,X.zS.heap.get? b=some o->b≠X.env.locals:=λ b o e=>cC (fq (cb e) I.ok.above)
 have C:∀b o,X.zS.heap.get? b=some o->b∉X.ex->b∉ch:=λ b o e a A=>by
  rcases(g b A).1 with z|z
  .exact a z
  .exact absurd (fq (cb e) z) (jL _)
 have R:∀x c,X.env.cells.lookup x=some c->∀v,s.heap.IsCell c v->h'.IsCell c v:=λ x c e v ⟨o,D,N⟩=>by
  have h:c∉ch:=λ z=>(g c z).2.2.1 x c e rfl
  by_cases S:c∈X.fs
  .obtain⟨sl,q⟩:=j c o (I.cne x c e) S h D (I.freeC x c e)
   exact⟨_,q,N⟩
  .exact⟨o,keep c o (I.cne x c e) S h D (I.freeC x c e),N⟩
 refine⟨I.ok,I.os,U,⟨λ b o e n A a=>?_,λ b o e n A a=>?_,λ b o e n a=>?_,λ b o e a=>?_,λ b xs e=>F b xs (I.base.tups b xs e),λ b o xs e=>w b o xs (I.base.frzs b o xs e),λ b q e=>G b q (I.base.tbls b q e)⟩,?_,λ x c e=>?_,?_,λ x c e=>?_,λ p ah=>?_,M,I.len,λ p ah=>?_⟩
 .exact keep b o (L b o e) A (C b o e a) (I.base.keep b o e n A a) (I.base.free b o e n a)
 .obtain⟨sl,B⟩:=I.base.slot b o e n A a
  obtain⟨O,P⟩:=j b _ (L b o e) A (C b o e a) B (I.base.free b o e n a);exact⟨O,P⟩
 .obtain⟨E,B⟩:=I.base.there b o e a
  exact free b E (C b o e a) B (I.base.free b o e n a)
 .obtain⟨E,B⟩:=I.base.there b o e a
  exact y b E (C b o e a) B
 .obtain⟨m,V,W⟩:=I.loc
  refine⟨m,ns m V,λ i x v B P Y=>?_⟩;obtain⟨u,r,l⟩:=W i x v B P Y;refine⟨u,r,?_⟩;rcases l with l|⟨k,c,e,z⟩
  .exact .inl l
  .exact .inr ⟨k,c,e,R x c e _ z⟩
 .obtain⟨v,z⟩:=I.cell x c e
  exact⟨v,R x c e v z⟩
 .obtain⟨m,⟨o,_,_,D,_⟩,_⟩:=I.loc
  exact free _ o (λ z=>(g _ z).2.1 rfl) D I.free
 .obtain⟨v,o,D,N⟩:=I.cell x c e
  exact free c o (λ z=>(g c z).2.2.1 x c e rfl) D (I.freeC x c e)
 .obtain⟨e,n,J,K,d⟩:=I.pin p ah
  have h:p.1∉ch:=λ z=>(g p.1 z).2.2.2 p (fU _ ah) rfl
  exact⟨keep p.1 p.2 J K h e n,free p.1 p.2 h e n,J,K,d⟩
 .obtain⟨n,J,K,np,ps,e,t⟩:=I.tab p ah
  have h:p.1∉ch:=λ z=>(g p.1 z).2.2.2 p (eW _ ah) rfl
  exact⟨free p.1 _ h e n,J,K,np,ps,keep p.1 _ J K h e n,t.mono w⟩
def Inv.pinL(I:Inv X f Z H s)(ah:p∈X.ta++(X.pn++f)):p.1<s.heap.objs.size:=by
 rcases dH.mp ah with z|z
 .obtain⟨_,_,_,_,_,e,_⟩:=I.tab p z
  exact cb e
 .exact cb (I.pin p z).1
def Inv.un{t':Nat}(I:Inv X f Z H s)(u:gG X.fs [] H H' s.heap h')(k:eL X.prog X.w H' h'):Inv X f Z H' {s with heap:=h',toks:=t'}:=by
 obtain⟨m,⟨o,es,ep,c,r⟩,_⟩:=id I.loc;obtain⟨sl,L⟩:=u.any c I.free (by simp);exact I.step (ch:=[]) (λ _ z=>nomatch z) (λ b o _ a _ e n=>u.keep b o e n a (by simp)) (λ b o _ a _ e n=>u.slot b o e n a (by simp)) (λ b o _ e n=>u.free b o e n (by simp)) (λ b o _ e=>u.there b o e (by simp)) u.tups u.frzs u.tbls (λ j d=>by
  obtain⟨l,g,p,h,i⟩:=d;rw[c]at h;cases h;exact⟨_,_,_,L,i⟩) k I.bare
def Inv.call{g:Array Du}{t':Nat}{j:Drawn}{ch:List Addr}(I:Inv X f Z H s)(u:gG (eX X.stack) ch H H' s.heap h')(k:eL X.prog X.w H' h')(l:nI g)
  (a:∀b∈ch,(b∈X.ex\/X.zS.heap.objs.size<=b)/\b≠X.env.locals/\(∀x c,X.env.cells.lookup x=some c->c≠b)/\∀p∈X.ta++(X.pn++f),p.1≠b):
  Inv X f Z H' {s with heap:=h',gens:=g,drawn:=j,toks:=t'}:=by
 obtain⟨m,⟨o,es,ep,i,r⟩,_⟩:=id I.loc;obtain⟨sl,L⟩:=u.any i I.free λ z=>(a _ z).2.1 rfl
 exact I.step a (λ b o L q h e n=>u.keep b o e n (λ z=>(b8.mp (I.stkSub b z)).elim L q) h) (λ b o _ _ h e n=>u.any e n h) (λ b o h e n=>u.free b o e n h) (λ b o h e=>u.there b o e h) u.tups u.frzs u.tbls (λ A t=>by
  obtain⟨B,v,w,d,y⟩:=t;rw[i]at d;cases d;exact⟨_,_,_,L,y⟩) k l
def Inv.turned{t':Nat}{i:Addr}(I:Inv X f Z H s)(k:∀b o,b≠i->s.heap.get? b=some o->h'.get? b=some o)(y:H i=none)(L:i≠X.env.locals)
  (a:i∈X.ex\/X.zS.heap.objs.size<=i)(d:∀x c,X.env.cells.lookup x=some c->c≠i)(g:∀p∈X.ta++(X.pn++f),p.1≠i):Inv X f Z H {s with heap:=h',toks:=t'}:=by
 have t:∀b u,H b=some u->b≠i:=λ b u e z=>by lia
 refine I.step (ch:=[i]) (λ b j=>?_) (λ b o _ _ h e _=>k b o (λ z=>h (by simp[z])) e) (λ b o _ _ h e _=>⟨_,k b o (λ z=>h (by simp[z])) e⟩) (λ _ _ _ _ n=>n)
  (λ b o h e=>⟨o,k b o (λ z=>h (by simp[z])) e⟩) (λ _ _ e=>e) (λ _ _ _ e=>e) (λ _ _ e=>e) (λ m l=>?_) (λ b u e=>?_) I.bare
 .have e:=by simpa using j
  subst e;exact⟨a,L,d,g⟩
 .obtain⟨o,es,ep,w,r⟩:=l
  exact⟨o,es,ep,k _ o (ir L) w,r⟩
 .refine(I.hok b u e).stay (λ c v h q=>k c v ?_ q) (λ _ q=>q) λ _ _ q=>q
  rcases h with z|z
  .rw[z];exact t b u e
  .exact t c _ z
def Inv.tok(I:Inv X f Z H s)(t:Nat):Inv X f Z H {s with toks:=t}:=I.un gG.refl I.hok
theorem Inv.kept(I:Inv X f Z H s)(k:∀b u,s.heap.get? b=some u->h'.get? b=some u):Inv X f Z H {s with heap:=h',toks:=t'}:=I.un (gG.kept k) (I.hok.kept k)
theorem Inv.laid(I:Inv X f Z H s)(k:∀b u,s.heap.get? b=some u->h'.get? b=some u)(ah:s.heap.objs.size<=a)(n:fY X.prog X.w (bt H a o) h' a o):
  Inv X f Z (bt H a o) {s with heap:=h',toks:=t'}:=I.un (gG.laid k ah (I.hok.fresh ah)) (I.hok.laid k ah n)
theorem Inv.write(I:Inv X f Z H s)(m:w6 (H x))(a:e=x\/H e=some (.own x))(k:∀b u,b≠e->s.heap.get? b=some u->h'.get? b=some u)(h:∃u,h'.get? e=some u)
  (n:fY X.prog X.w (bt H x o) h' x o):Inv X f Z (bt H x o) {s with heap:=h',toks:=t'}:=I.un (gG.write m a k h) (I.hok.write m a k h n)
def Inv.weak(I:Inv X f Z H s)(h:Z'.length=Z.length)(w:∀(i:Nat) v,Z'[i]? =some (some v)->Z[i]? =some (some v)):Inv X f Z' H s:=
 ⟨I.ok,I.os,I.bare,I.base,let⟨m,hn,hl'⟩:=I.loc;⟨m,hn,λ i x v e a b=>hl' i x v e (w i v a) b⟩,I.cell,I.free,I.freeC,I.pin,I.hok,h.trans I.len,I.tab⟩
def Inv.pins_of(I:Inv X f Z H s)(h:∀p∈pins',s.heap.get? p.1=some p.2/\H p.1=none/\p.1≠X.env.locals/\p.1∉X.fs/\∀v,p.2.data≠.cell v)(g:∀q∈pins',∀p∈X.ta,q.1≠p.1):Inv X pins' Z H s:=
 ⟨I.ok,I.os,I.bare,I.base,I.loc,I.cell,I.free,I.freeC,λ p ah=>(dH.mp ah).elim (λ z=>I.pin p (eW _ z)) (h p),I.hok,I.len,λ p ah=>let⟨a,b,c,d,e⟩:=I.tab p ah;⟨a,b,c,λ q i=>(dH.mp i).elim (λ z=>d q (eW _ z)) (λ z=>g q z p ah),e⟩⟩
def Lc{N:List Str}(h:N.Nodup){i j:Nat}{x:Str}(a:N[i]? =some x)(b:N[j]? =some x):i=j:=by
 obtain⟨d,e⟩:=fC.mp a;obtain⟨f,c⟩:=fC.mp b;exact(List.getElem_inj h).mp (e.trans c.symm)
def Ld{M:Model}{A:cg}{E:Value->ax->Prop}{i:Nat}{x:Str}{v:V}{u:Value}{Q:Unit->ax->Prop}(I:Inv X f Z H s)(hN:X.N.Nodup)(R:X.N[i]? =some x)(B:lg X.env.scope x)(r:RelV v u)
  (h:∀s',Inv X f (Z.set i (some v)) H s'->(∃a,qu a s.heap s'.heap/\(a=X.env.locals\/X.env.cells.lookup x=some a))->Q () s')(hf:X.fn x=true\/X.env.scope.names.lookup x=some .local:=by k_go):wpAny M A (storeName X.env x u) Q E s:=by
 obtain⟨m,hn,hl⟩:=id I.loc;have S:(X.env.scope.kind== .class||(X.env.scope.kind== .module&&X.env.locals !=X.env.globals))=false:=by rw[I.ok.kind];rfl
 have T:i<Z.length:=by rw[I.len];exact(fC.mp R).1
 have cne:=I.cne;have bX:∀{a:Addr} {h':Heap},(∃o,s.heap.get? a=some o/\H a=none)->qu a s.heap h'->eL X.prog X.w H h':=λ{a h'} ha g b ob e=>by
  obtain⟨_,_,C⟩:=ha;refine(I.hok b ob e).stay (λ c Y w q=>(g.2 c ?_).trans q) (λ _ q=>q) λ _ _ q=>q
  rintro rfl;rcases w with rfl|w
  .rw[C]at e;cases e
  .rw[C]at w;cases w
 rcases B with J|J
 .refine wpAny_storeName_local J hn (λ h' hn' g=>?_) S
  obtain⟨oL,_,_,hoL,_⟩:=id hn;refine h _ ⟨I.ok,I.os,I.bare,⟨λ b o e n K B=>?_,λ b o e n K B=>?_,I.base.free,λ b o e B=>?_,I.base.tups,I.base.frzs,I.base.tbls⟩,⟨_,hn',λ j y v' l F e3=>?_⟩,λ y c e=>?_,I.free,I.freeC,λ p ah=>?_,bX ⟨oL,hoL,I.free⟩ g,by simpa using I.len,λ p ah=>?_⟩ ⟨_,g,.inl rfl⟩
  .exact(g.2 b (cC (fq (cb e) I.ok.above))).trans (I.base.keep b o e n K B)
  .obtain⟨sl,l⟩:=I.base.slot b o e n K B
   exact⟨sl,(g.2 b (cC (fq (cb e) I.ok.above))).trans l⟩
  .obtain⟨o',l⟩:=I.base.there b o e B
   exact⟨o',(g.2 b (cC (fq (cb e) I.ok.above))).trans l⟩
  .by_cases L:j=i
   .subst L
    rw[R]at l;cases l;rw[pT T]at F;cases F;exact⟨u,r,.inl ⟨J,by simp⟩⟩
   .rw[oJ (ir L)]at F
    obtain⟨u',r',q⟩:=hl j y v' l F e3;refine⟨u',r',?_⟩;rcases q with ⟨k,e⟩|⟨k,c,e,z⟩
    .refine .inl ⟨k,?_⟩
     have:y≠x:=λ e=>L (Lc hN l (e▸R))
     simp[this,e]
    .exact .inr ⟨k,c,e,z.sameBut g (cne y c e)⟩
  .obtain⟨Y,z⟩:=I.cell y c e
   exact⟨Y,z.sameBut g (cne y c e)⟩
  .obtain⟨e,n,G,N,d⟩:=I.pin p ah
   exact⟨(g.2 p.1 G).trans e,n,G,N,d⟩
  .obtain⟨n,G,N,np,ps,e,t⟩:=I.tab p ah
   exact⟨n,G,N,np,ps,(g.2 p.1 G).trans e,t⟩
 .have O:X.fn x=true:=by
   rcases hf with z|z
   .exact z
   .rw[z]at J;cases J
  obtain⟨c,w⟩:=I.ok.has x (.inl J);obtain⟨Y,z⟩:=I.cell x c w;refine wpAny_storeName_cell I.ok.kind J w z (λ h' U g=>?_);obtain⟨oc,P,D⟩:=id z;refine h {s with heap:=h'} ⟨I.ok,I.os,I.bare,⟨λ b o e n K B=>?_,λ b o e n K B=>?_,I.base.free,λ b o e B=>?_,I.base.tups,I.base.frzs,I.base.tbls⟩,⟨m,hn.sameBut g (ir (cne x c w)),λ j y v' l F e3=>?_⟩,λ y c' e=>?_,I.free,I.freeC,λ p ah=>?_,bX ⟨oc,P,I.freeC x c w⟩ g,by simpa using I.len,λ p ah=>?_⟩ ⟨c,g,.inr w⟩
  .exact(g.2 b (cC (fq (cb e) (I.ok.cab x c O w)))).trans (I.base.keep b o e n K B)
  .obtain⟨sl,l⟩:=I.base.slot b o e n K B
   exact⟨sl,(g.2 b (cC (fq (cb e) (I.ok.cab x c O w)))).trans l⟩
  .obtain⟨o',l⟩:=I.base.there b o e B
   exact⟨o',(g.2 b (cC (fq (cb e) (I.ok.cab x c O w)))).trans l⟩
  .by_cases L:j=i
   .subst L
    rw[R]at l;cases l;rw[pT T]at F;cases F;exact⟨u,r,.inr ⟨.inl J,c,w,U⟩⟩
   .rw[oJ (ir L)]at F
    obtain⟨u',r',q⟩:=hl j y v' l F e3;refine⟨u',r',?_⟩;rcases q with q|⟨k,c',e,z'⟩
    .exact .inl q
    .refine .inr ⟨k,c',e,z'.sameBut g ?_⟩
     rintro rfl;exact L (Lc hN l (I.ok.inj _ _ _ e w▸R))
  .by_cases W:c'=c
   .subst W;exact⟨_,U⟩
   .obtain⟨w2,z2⟩:=I.cell y c' e
    exact⟨w2,z2.sameBut g W⟩
  .obtain⟨e,n,G,N,d⟩:=I.pin p ah
   refine⟨(g.2 p.1 ?_).trans e,n,G,N,d⟩;intro q;rw[q,P]at e;have q':oc=p.2:=i7 e;exact d Y (by rw[<-q'];exact D)
  .obtain⟨n,G,N,np,ps,e,t⟩:=I.tab p ah
   refine⟨n,G,N,np,ps,(g.2 p.1 ?_).trans e,t⟩;intro q;rw[q,P]at e;rw[i7 e]at D;cases D
def Ez(I:Inv X f Z H s)(N:X.N.Nodup)(a:X.N[i]? =some x)(b:lg X.env.scope x)(r:RelV v u)
  (h:∀s',Inv X f (Z.set i (some v)) H s'->Q () s')(c:X.fn x=true\/X.env.scope.names.lookup x=some .local:=by k_go):wpAny M A (storeName X.env x u) Q E s:=
 Ld I N a b r (λ s' d _=>h s' d) c
def Inv.call'(I:Inv X f Z H s)(o:s'.os=s.os)(u:gG (eX X.stack) ch H H' s.heap s'.heap)(h:eL X.prog X.w H' s'.heap)(g:nI s'.gens)
  (a:∀b∈ch,(b∈X.ex\/X.zS.heap.objs.size<=b)/\b≠X.env.locals/\(∀x c,X.env.cells.lookup x=some c->c≠b)/\∀p∈X.ta++(X.pn++f),p.1≠b):Inv X f Z H' s':=by
 obtain⟨h',d,i,t',j⟩:=s';have e:=o;subst e;exact I.call u h g a
end
abbrev gj:=Value->Option Addr->au->Prop
abbrev St:=List (Option V)
abbrev bC:=V->au->Prop
abbrev bw:=St->au->bC->Prop
abbrev gk:=St->au->(Bool->au->Prop)->Prop
abbrev fZ:=St->au->(List V->au->Prop)->Prop
structure Ends where
 nx:St->au->Prop
 rt:bC
 bk:St->au->Prop:=λ _ _=>False
 ct:St->au->Prop:=λ _ _=>False
abbrev hL:=Ends->St->au->Prop
def hO(X:aZ)(k:bZ)(Z:St)(Q:bC)(u:Value)(s':ax):Prop:=∃v H',Inv X k Z H' s'/\RelV v u/\Q v H'
def AG(X:aZ)(k:bZ)(Z:St)(Q:Bool->au->Prop)(b:Bool)(s':ax):Prop:=∃H',Inv X k Z H' s'/\Q b H'
def Rj(X:aZ)(k:bZ)(Z:St)(Q:List V->au->Prop)(u:List Value)(s':ax):Prop:=∃vs H',Inv X k Z H' s'/\Vals vs u/\Q vs H'
def w8(X:aZ)(k:bZ)(D:Ends)(f:Flow)(s':ax):Prop:=
 match f with
 | .next=>∃Z H',Inv X k Z H' s'/\D.nx Z H'
 | .brk=>∃Z H',Inv X k Z H' s'/\D.bk Z H'
 | .cont=>∃Z H',Inv X k Z H' s'/\D.ct Z H'
 | .ret u=>∃v Z H',Inv X k Z H' s'/\RelV v u/\D.rt v H'
def bq(X:aZ)(e:Expr)(t:bw):Prop:=
 ∀(k:bZ) (s:ax) (Z:St) (H:au) (Q:bC),Inv X k Z H s->t Z H Q->wpAny (model X.prog X.w) X.A (eval e X.env) (hO X k Z Q) X.xe s
def jV(X:aZ)(e:Expr)(t:gk):Prop:=
 ∀(k:bZ) (s:ax) (Z:St) (H:au) (Q:Bool->au->Prop),Inv X k Z H s->t Z H Q->wpAny (model X.prog X.w) X.A (isTrue e X.env (eval e X.env)) (AG X k Z Q) X.xe s
def o3(X:aZ)(e:Expr)(t:gk):Prop:=
 ∀(w:Sem Value) (k:bZ) (s:ax) (Z:St) (H:au) (Q:Bool->au->Prop),Inv X k Z H s->t Z H Q->wpAny (model X.prog X.w) X.A (isTrue e X.env w) (AG X k Z Q) X.xe s
def o3.pt(h:o3 X e t):jV X e t:=h _
def iM(X:aZ)(es:List Expr)(t:fZ):Prop:=
 ∀(pos:Pos) (k:bZ) (s:ax) (Z:St) (H:au) (Q:List V->au->Prop),Inv X k Z H s->t Z H Q->wpAny (model X.prog X.w) X.A (spliced (fW pos (bf es X.env))) (Rj X k Z Q) X.xe s
def iN(X:aZ)(st:Stmt)(t:hL):Prop:=
 ∀(k:bZ) (s:ax) (Z:St) (H:au) (D:Ends),Inv X k Z H s->t D Z H->wpAny (model X.prog X.w) X.A (exec st X.env) (w8 X k D) X.xe s
def lh(X:aZ)(st:List Stmt)(t:hL):Prop:=
 ∀(k:bZ) (s:ax) (Z:St) (H:au) (D:Ends),Inv X k Z H s->t D Z H->wpAny (model X.prog X.w) X.A (execs st X.env) (w8 X k D) X.xe s
def aX(h:wpAny M A t Q E s)(b:∀a s,Q a s->Q' a s):wpAny M A t Q' E s:=g7 h b λ _ _ x=>x
section
variable{X:aZ}
def g8(i:Nat):bw:=λ Z H Q=>∃v,Z[i]? =some (some v)/\Q v H
def nR(v:V):bw:=λ _ H Q=>Q v H
abbrev _root_.Nd(x:PySem.Str):Prop:=(x==("__debug__":PySem.Str))=false
def iO(N:X.N[i]? =some x)(j:hI X.env.scope x)(d:Nd x:=by decide)(b:(x==("__classdict__":Str))=false:=by decide):bq X (.Name x pos) (g8 i):=by
 intro q s Z H Q I h;obtain⟨v,e,h⟩:=h;obtain⟨m,n,o⟩:=I.loc;obtain⟨u,r,l⟩:=o i x v N e j;have f:hO X _ Z Q u s:=⟨v,H,I,r,h⟩;rcases l with ⟨k,p⟩|⟨k,c,g,a⟩
 .exact uc (DB I.ok.kind k n p f) d
 .rcases k with k|k
  .exact uc (DC I.ok.kind k g a f) d
  .exact uc (J5 I.ok.kind k g a f b) d
def Le{i j pos}:bq X (.Constant (.int i) j pos) (nR (.int i)):=λ _ _ _ H _ I h=>wpAny_Constant_int ⟨.int i,H,I.tok _,⟨_,rfl⟩,h⟩
def Rk{b j pos}:bq X (.Constant (.bool b) j pos) (nR (.bl b)):=λ _ _ _ H _ I h=>Constant_bool ⟨.bl b,H,I,rfl,h⟩
def Rl{j pos}:bq X (.Constant .none j pos) (nR .non):=λ _ _ _ H _ I h=>Constant_none ⟨.non,H,I,rfl,h⟩
def Rm{x j pos}:bq X (.Constant (.str x) j pos) (nR (.str x)):=λ _ _ _ H _ I h=>Calls.Constant_str ⟨.str x,H,I.tok _,⟨_,rfl⟩,h⟩
def dA(X:aZ)(x:Str):Prop:=X.env.kindOf x=some .globalImplicit
def EA(I:Inv X kQ Z H s)(g:dA X x)(m:X.mg x=some u)(h:Q u s)
  (d:Nd x:=by decide):wpAny (model X.prog X.w) X.A (eval (.Name x pos) X.env) Q E s:=
 Kg I.ok.kind g (Calls.loadGlobal_global (by rw[I.ok.glob];exact I.mod.glob.keeps I.bk) m h) d
def um(I:Inv X kQ Z H s)(g:dA X x)(m:X.mg x=none)(v:gx x=some u)(h:Q u s)
  (n:x≠"__name__":=by decide)(d:Nd x:=by decide):wpAny (model X.prog X.w) X.A (eval (.Name x pos) X.env) Q E s:=by
 obtain⟨c,a,b⟩:=I.mod.blt;exact Kg I.ok.kind g (Calls.loadGlobal_builtin (by rw[I.ok.glob];exact I.mod.glob.keeps I.bk) m (by rw[I.ok.blt];exact a.keeps I.bk) ((b x n).trans v) h) d
def Rn(g:dA X x)(m:X.mg x=some u)(r:RelV v u)(d:Nd x:=by decide):bq X (.Name x pos) (nR v):=
 λ _ _ _ H _ I h=>EA I g m ⟨v,H,I,r,h⟩ d
def Ro(g:dA X x)(m:X.mg x=none)(a:gx x=some u)(r:RelV v u)(n:x≠"__name__":=by decide)(d:Nd x:=by decide):bq X (.Name x pos) (nR v):=
 λ _ _ _ H _ I h=>um I g m a ⟨v,H,I,r,h⟩ n d
variable{a b:Expr}{f g:bw}{pos:Pos}
def Lf(t:bw):gk:=λ Z H Q=>t Z H λ x a=>∃c,x= .bl c/\Q c a
def Rp(h:bq X e t)(a:∀w,isTrue e X.env w=(do let v <-w;oT e.pos;ju [v] (truthy v)):=by z_go):jV X e (Lf t):=by
 intro k s Z H Q I b;refine isTrue_plain (aX (h _ s Z H _ I b) λ v i ⟨x,c,f,r,g⟩=>?_) (a _);obtain⟨d,rfl,q⟩:=g;cases r;exact qg ⟨c,f,q⟩
variable{A B:gk}{rest:List Expr}
def Rq(t u:gk):gk:=λ Z H Q=>t Z H λ c a=>if c=true then u Z a Q else Q false a
def Lg(t u:gk):gk:=λ Z H Q=>t Z H λ c a=>if c=true then Q true a else u Z a Q
def Rr(t:gk):gk:=λ Z H Q=>t Z H λ c a=>Q (!c) a
def Rt(b:jV X a A):o3 X (.BoolOp .And [a] pos) A:=by
 intro w k s Z H Q I h;refine isTrue_and (aX (b _ s Z H Q I h) λ c d e=>?_);cases c with
 |true=>exact isTrue_and_nil e
 |false=>assumption
def Lh(b:jV X a A):o3 X (.BoolOp .Or [a] pos) A:=by
 intro w k s Z H Q I h;refine isTrue_or (aX (b _ s Z H Q I h) λ c d e=>?_);cases c with
 |false=>exact isTrue_or_nil e
 |true=>assumption
def Ru(d:jV X a A)(e:o3 X (.BoolOp .And (b::rest) pos) B):o3 X (.BoolOp .And (a::b::rest) pos) (Rq A B):=by
 intro w k s Z H Q I h;refine isTrue_and (aX (d _ s Z H _ I h) λ c f ⟨g,i,q⟩=>?_);cases c with
 |true=>exact e w _ f Z g Q i q
 |false=>assumption
def Li(d:jV X a A)(e:o3 X (.BoolOp .Or (b::rest) pos) B):o3 X (.BoolOp .Or (a::b::rest) pos) (Lg A B):=by
 intro w k s Z H Q I h;refine isTrue_or (aX (d _ s Z H _ I h) λ c f ⟨g,i,q⟩=>?_);cases c with
 |true=>assumption
 |false=>exact e w _ f Z g Q i q
def Rv(b:jV X a A):jV X (.UnaryOp .Not a pos) (Rr A):=by
 intro k s Z H Q I h;exact isTrue_not (b _ s Z H _ I h)
def Rw(f g:bw):bw:=λ Z H Q=>f Z H λ x a=>∃c,x= .bl c/\if c=true then g Z a Q else Q (.bl false) a
def Rx(f g:bw):bw:=λ Z H Q=>f Z H λ x a=>∃c,x= .bl c/\if c=true then Q (.bl true) a else g Z a Q
def Ry(f:bw):bw:=λ Z H Q=>f Z H λ x a=>∃c,x= .bl c/\Q (.bl (!c)) a
def Rz(i:bq X a f)(j:bq X (.BoolOp .And (b::rest) pos) g):bq X (.BoolOp .And (a::b::rest) pos) (Rw f g):=by
 intro l s Z H Q I h;refine BoolOp_and (aX (i _ s Z H _ I h) λ v k ⟨x,d,e,r,q⟩=>?_);obtain⟨c,rfl,q⟩:=q;cases r;refine qg ?_;cases c with
 |true=>exact j _ k Z d Q e q
 |false=>exact⟨.bl _,d,e,rfl,q⟩
def RA(i:bq X a f)(j:bq X (.BoolOp .Or (b::rest) pos) g):bq X (.BoolOp .Or (a::b::rest) pos) (Rx f g):=by
 intro l s Z H Q I h;refine BoolOp_or (aX (i _ s Z H _ I h) λ v k ⟨x,d,e,r,q⟩=>?_);obtain⟨c,rfl,q⟩:=q;cases r;refine qg ?_;cases c with
 |false=>exact j _ k Z d Q e q
 |true=>exact⟨.bl _,d,e,rfl,q⟩
def RC(b:bq X a f):bq X (.UnaryOp .Not a pos) (Ry f):=by
 intro k s Z H Q I h;refine UnaryOp_ (aX (b _ s Z H _ I h) λ v g ⟨x,d,e,r,q⟩=>?_);obtain⟨c,rfl,q⟩:=q;cases r;exact not_of (qg ⟨.bl _,d,e,rfl,q⟩)
def RD(t:gk)(f g:bw):bw:=λ Z H Q=>t Z H λ c a=>if c=true then f Z a Q else g Z a Q
def RE(k:jV X c A)(l:bq X a f)(m:bq X b g):bq X (.IfExp c a b pos) (RD A f g):=by
 intro n s Z H Q I h;refine wpAny_IfExp (aX (k _ s Z H _ I h) λ d e ⟨i,j,q⟩=>?_);cases d with
 |true=>exact l _ e Z i Q j q
 |false=>exact m _ e Z i Q j q
end
def cu(K:aB)(H:au)(a:Addr)(xs:List V):Prop:=
 mL H a (.lst xs)\/
  ∃(o:Obj) (i:Array Value) (n:Nat),K.lookup a=some o/\o.cls= .type "list"/\o.dict=none/\o.data= .seq i n/\i.size<=aQ/\Vals xs i.toList
def bQ(K:aB)(H:au)(a:Addr)(xs:List V):Prop:=
 mL H a (.tup xs)\/
  ∃(o:Obj) (i:Array Value) (n:Nat),K.lookup a=some o/\o.cls= .type "tuple"/\o.dict=none/\o.data= .seq i n/\i.size<=aQ/\Vals xs i.toList
noncomputable def RF:Value->Option V
 | .none=>some .non
 | .bool b=>some (.bl b)
 | .int i _=>some (.int i)
 | .str x _=>some (.str x)
 | .bytes b _=>some (.byt b)
 | .float b _=>some (.flt b)
 | .ref a=>some (.ref a)
 | .type n=>some (.ty n)
 |_=>none
def RelV.abs(r:RelV x u):RF u=some x:=by
 cases x with
 |non=>cases r;rfl
 |bl _=>cases r;rfl
 |int _=>obtain⟨t,rfl⟩:=r;rfl
 |str _=>obtain⟨t,rfl⟩:=r;rfl
 |byt _=>obtain⟨t,rfl⟩:=r;rfl
 |flt _=>obtain⟨t,rfl⟩:=r;rfl
 |ref _=>cases r;rfl
 |ty _=>cases r;rfl
def RelV.inj(r:RelV x u)(q:RelV y u):x=y:=i7 (r.abs.symm.trans q.abs)
theorem Vals.inj:∀{xs ys:List V} {u:List Value},Vals xs u->Vals ys u->xs=ys
 |_,_,_,.nil,.nil=>rfl
 |_,_,_,.cons r t,.cons a t'=>by rw[r.inj a,Vals.inj t t']
section
variable{X:aZ}{k:bZ}{Z:St}{H:au}{s:ax}{a:Addr}{xs ys:List V}
def cu.of{K:aB}(h:H a=some (.lst xs)):cu K H a xs:=.inl (.inl h)
def bQ.of{K:aB}(h:H a=some (.tup xs)):bQ K H a xs:=.inl (.inl h)
def Inv.list(I:Inv X k Z H s)(h:cu X.K H a xs):∃i:List Value,Vals xs i/\PlainL s.heap a i.toArray/\xs.length<=aQ:=by
 rcases h with h|⟨o,i,n,b,c,d,f,hz,r⟩
 .obtain⟨z,i,n,r,e⟩:=h.ok I.hok
  exact⟨_,r,⟨_,n,e,rfl,rfl,rfl⟩,z⟩
 .refine⟨_,r,⟨o,n,I.kIn a o b,c,d,by assumption⟩,?_⟩
  have e:=r.length;simp_all
def Inv.tuple(I:Inv X k Z H s)(h:bQ X.K H a xs):∃i:List Value,Vals xs i/\IsTup s.heap a i.toArray/\xs.length<=aQ:=by
 rcases h with h|⟨o,i,n,b,c,d,f,hz,r⟩
 .obtain⟨z,i,r,p⟩:=h.ok I.hok
  exact⟨_,r,p,z.1⟩
 .refine⟨_,r,⟨o,I.kIn a o b,c,n,by assumption⟩,?_⟩
  have e:=r.length;simp_all
def Inv.noD(I:Inv X k Z H s)(h:bQ X.K H a xs):NoD s.heap a:=by
 rcases h with h|⟨o,i,n,b,c,d,f,hz,r⟩
 .obtain⟨z,i,r,p⟩:=h.ok I.hok
  simp_all
 .intro u e
  rw[I.kIn a o b]at e
  grind
def Inv.list_inj(I:Inv X k Z H s)(h:cu X.K H a xs)(h':cu X.K H a ys):xs=ys:=by
 obtain⟨i,r,⟨o,n,e,_,_,d⟩,_⟩:=I.list h;obtain⟨its',b,⟨f,g,c,_,_,j⟩,_⟩:=I.list h';rw[e]at c;have:i=its':=by simp_all
 subst this;exact r.inj b
def Inv.tuple_inj(I:Inv X k Z H s)(h:bQ X.K H a xs)(h':bQ X.K H a ys):xs=ys:=by
 obtain⟨i,r,⟨o,e,_,n,d⟩,_⟩:=I.tuple h;obtain⟨its',b,⟨f,c,_,g,j⟩,_⟩:=I.tuple h';rw[e]at c;have:i=its':=by simp_all
 subst this;exact r.inj b
end
section
variable{X:aZ}{st:Stmt}{rest:List Stmt}{t u:hL}{e:Expr}{g:bw}{pos:Pos}
def Lj:hL:=λ D Z H=>D.nx Z H
def RG(t u:hL):hL:=λ D Z H=>t {D with nx:=u D} Z H
def EB:lh X [] Lj:=λ _ _ Z H _ I h=>Ag ⟨Z,H,I,h⟩
def Lk(a:iN X st t)(b:lh X rest u):lh X (st::rest) (RG t u):=by
 intro k s Z H D I h;refine wpAny_execs_cons (aX (a _ s Z H _ I h) λ f c q=>?_);cases f with
 |next=>
  obtain⟨e,H',d,q⟩:=q;exact b _ c _ H' D d q
 |ret v=>assumption
 |brk=>assumption
 |cont=>assumption
def Ll(a:iN X st t):lh X [st] t:=by
 intro k s Z H D I h;refine wpAny_execs_cons (aX (a _ s Z H D I h) λ f b q=>?_);cases f with
 |next=>exact Ag q
 |ret v=>assumption
 |brk=>assumption
 |cont=>assumption
def Inv.quiet(I:Inv X kQ Z H s):interactive X.env=false:=by simp[interactive,I.ok.kind]
def rN(g:bw):hL:=λ D Z H=>g Z H λ _ a=>D.nx Z a
def rO(a:bq X e g)(b:i8 e none pos.line X.env=pure false:=by rfl):iN X (.Expr e pos) (rN g):=by
 intro k s Z H D I h;exact wpAny_Expr_any (aX (a _ s Z H _ I h) λ v f ⟨x,c,d,r,q⟩=>⟨Z,c,d,q⟩) I.quiet b
def RH(g:bw):hL:=λ D Z H=>g Z H D.rt
def Lm(a:bq X e g):iN X (.Return (some e) pos) (RH g):=by
 intro k s Z H D I h;exact wpAny_Return_some (aX (a _ s Z H _ I h) λ v d ⟨x,b,c,r,q⟩=>⟨x,Z,b,c,r,q⟩)
def Ln(c:gk)(t u:hL):hL:=λ D Z H=>c Z H λ b a=>if b=true then t D Z a else u D Z a
def EC(i:jV X c tc)(j:lh X a t)(k:lh X b u):iN X (.If c a b pos) (Ln tc t u):=by
 intro Q s Z H D I h;refine wpAny_If (aX (i _ s Z H _ I h) λ d e ⟨f,g,q⟩=>?_);cases d with
 |true=>exact j _ e Z f D g q
 |false=>exact k _ e Z f D g q
end
abbrev iP:=V->St->au->(St->au->Prop)->Prop
abbrev qx:=List V->St->au->(St->au->Prop)->Prop
def l5(X:aZ)(a:Expr)(t:iP):Prop:=
 ∀(k:bZ) (s:ax) (Z:St) (H:au) (v:V) (u:Value) (Q:St->au->Prop),Inv X k Z H s->RelV v u->t v Z H Q->
  wpAny (model X.prog X.w) X.A (lX a X.env u) (λ _ s'=>∃b H',Inv X k b H' s'/\Q b H') X.xe s
def xa(X:aZ)(b:List Expr)(t:qx):Prop:=
 ∀(k:bZ) (s:ax) (Z:St) (H:au) (vs:List V) (u:List Value) (Q:St->au->Prop),Inv X k Z H s->Vals vs u->t vs Z H Q->
  wpAny (model X.prog X.w) X.A (assignInOrder ((mF b X.env).map (·.2)) u) (λ _ s'=>∃a H',Inv X k a H' s'/\Q a H') X.xe s
abbrev Lo:=V->V->V->au->(au->Prop)->Prop
def Lp(X:aZ)(t:Lo):Prop:=
 ∀(k:bZ) (s:ax) (Z:St) (H:au) (o i v:V) (a b u:Value) (Q:au->Prop),Inv X k Z H s->RelV o a->RelV i b->RelV v u->t o i v H Q->
  wpAny (model X.prog X.w) X.A (setItem a b u) (λ _ s'=>∃H',Inv X k Z H' s'/\Q H') X.xe s
abbrev AH:=V->V->au->bC->Prop
def uo(X:aZ)(op:Operator)(t:AH):Prop:=
 ∀(k:bZ) (s:ax) (Z:St) (H:au) (x y:V) (v u:Value) (Q:bC),Inv X k Z H s->RelV x v->RelV y u->t x y H Q->
  wpAny (model X.prog X.w) X.A (inplaceOp op v u) (hO X k Z Q) X.xe s
section
variable{X:aZ}{pos:Pos}
def qy(i:Nat):iP:=λ v Z H Q=>Q (Z.set i (some v)) H
def RI(N:X.N.Nodup)(a:X.N[i]? =some x)(b:lg X.env.scope x)(f:X.fn x=true\/X.env.scope.names.lookup x=some .local:=by k_go):l5 X (.Name x pos) (qy i):=by
 intro k s Z H v u Q I r h;exact J9 (Ez I N a b r (λ s' c=>⟨_,H,c,h⟩) f)
def ED:qx:=λ vs Z H Q=>vs=[]/\Q Z H
def EE(t:iP)(u:qx):qx:=λ vs Z H Q=>∃v r,vs=v::r/\t v Z H λ a H'=>u r a H' Q
def RJ:xa X [] ED:=by
 intro k s Z H vs u Q I r h;obtain⟨e,h⟩:=h;exact assignInOrder_nil ⟨Z,H,I,h⟩
def RK(a:l5 X e t)(b:xa X es u)
  (c:(mF (e::es) X.env).map (·.2)=lX e X.env::(mF es X.env).map (·.2):=by rfl):xa X (e::es) (EE t u):=by
 intro k s Z H vs l Q I r h;obtain⟨v,m,d,h⟩:=h;subst d;cases r with
 |cons r f=>
  rw[c];refine assignInOrder_cons (aX (a _ s Z H _ _ _ I r h) λ _ g ⟨_,i,j,q⟩=>?_);exact b _ g _ i _ _ Q j f q
def AI(K:aB)(n:Nat)(t:qx):iP:=λ v Z H Q=>∃a xs,v= .ref a/\bQ K H a xs/\xs.length=n/\t xs Z H Q
def RL(d:X.calm=true)(h:xa X es t)
  (f:(mF es X.env).length=n:=by rfl)(c:(mF es X.env).findIdx? (·.1)=none:=by rfl):l5 X (.Tuple es k pos) (AI X.K n t):=by
 intro y s Z H v u Q I r w;obtain⟨a,xs,g,q,l,w⟩:=w;subst g;cases r;obtain⟨i,j,m,hz⟩:=I.tuple q;refine assign_Tuple_tuple (I.ok.hd d) m (by simp[f,<-l,j.length]) c λ h' x=>?_
 have p:=I.kept (t':=s.toks) λ b o e=>x b o (cC (cb e)) e
 exact h _ _ Z H xs _ Q p (by assumption) w
def xb(t:bw)(g:iP):hL:=λ D Z H=>t Z H λ x a=>g x Z a D.nx
def RM(a:bq X e te)(b:l5 X tg g)(c:swapsWithSole [tg] e pos.line X.env=pure false:=by rfl)(w:swappedStores [tg] e X.env=pure none:=by rfl)
  (d:(mF [tg] X.env).map (·.2)=[lX tg X.env]:=by rfl):iN X (.Assign [tg] e pos) (xb te g):=by
 intro Q s Z H D I h;refine wpAny_Assign_stores (aX (a _ s Z H _ I h) λ v f ⟨x,i,j,r,k⟩=>?_) c w;rw[d];exact aX (b _ f Z i x v _ j r k) λ _ s2 q=>q
def Lq(N:X.N.Nodup)(a:X.N[i]? =some x)(b:lg X.env.scope x)(c:bq X e te)(d:i8 e (some (.Name x pos')) pos.line X.env=pure false:=by rfl)(f:X.fn x=true\/X.env.scope.names.lookup x=some .local:=by k_go):
  iN X (.Assign [.Name x pos'] e pos) (xb te (qy i)):=by
 intro Q s Z H D I h;refine wpAny_Assign_Name (aX (c _ s Z H _ I h) λ v l ⟨y,g,j,r,q⟩=>?_) d;exact Ez j N a b r (λ s2 k=>⟨_,g,k,q⟩) f
def RN(i:Nat)(t:bw)(a:AH):hL:=λ D Z H=>∃x,Z[i]? =some (some x)/\t Z H λ y b=>a x y b λ z c=>D.nx (Z.set i (some z)) c
def RO(N:X.N.Nodup)(g:X.N[i]? =some x)(d:lg X.env.scope x)(j:bq X e te)(n:uo X op ti)(p:X.fn x=true\/X.env.scope.names.lookup x=some .local:=by k_go):
  iN X (.AugAssign (.Name x pos') op e pos) (RN i te ti):=by
 intro Q s Z H D I h;obtain⟨v,q,h⟩:=h;obtain⟨m,t,A⟩:=I.loc;have f:hI X.env.scope x:=by rcases d with k|k;exact .inl k;exact .inr (.inl k)
 obtain⟨u,r,l⟩:=A i x v g q f;refine wpAny_AugAssign_Name ?_;have o:wpAny (model X.prog X.w) X.A (eval e X.env) (λ w B=>wpAny (model X.prog X.w) X.A (inplaceOp op u w) (λ r C=>wpAny (model X.prog X.w) X.A (storeName X.env x r) (λ _=>w8 X Q D .next) X.xe C) X.xe B) X.xe s:=by
  refine aX (j Q s Z H _ I h) λ w E ⟨y,F,G,J,K⟩=>?_
  refine aX (n Q E Z F v y u w _ G r J K) λ z s2 ⟨U,L,M,O,P⟩=>?_
  exact Ez M N g d O (λ s3 R=>⟨_,L,R,P⟩) p
 rcases l with ⟨a,S⟩|⟨a,c,T,b⟩
 .exact DB I.ok.kind a t S o
 .rcases a with a|a
  .exact DC I.ok.kind a T b o
  .rcases d with k|k
   .have:X.env.scope.names.lookup x=some .free:=a
    rw[k]at this;cases this
   .have:X.env.scope.names.lookup x=some .free:=a
    rw[k]at this;cases this
def Lr(a b e:bw)(t:V->V->au->bC->Prop)(p:AH)(s:Lo):hL:=λ D Z H=>a Z H λ o c=>b Z c λ i d=>t o i d λ x f=>e Z f λ y g=>p x y g λ z h=>s o i z h λ j=>D.nx Z j
def Ls(X:aZ)(t:V->V->au->bC->Prop):Prop:=
 ∀(k:bZ) (s:ax) (Z:St) (H:au) (o i:V) (v a:Value) (Q:bC),Inv X k Z H s->RelV o v->RelV i a->t o i H Q->
  wpAny (model X.prog X.w) X.A (k8 v a) (hO X k Z Q) X.xe s
def RP(f:bq X o to)(g:bq X i ti)(j:Ls X tget)(k:bq X e te)(ah:uo X op tip)(m:Lp X tset)
  (p:∀a b n,augStore i a b n=(do ju [n,a,b] (setItem a b n);release [n,a,b] [];pure .next):=by intros;rfl):iN X (.AugAssign (.Subscript o i tpos) op e pos) (Lr to ti te tget tip tset):=by
 intro Q s Z H D I h;refine wpAny_AugAssign_SubscriptAny (aX (f _ s Z H _ I h) λ a q ⟨x,t,u,r,w⟩=>?_) p;refine aX (g _ q Z t _ u w) λ b s2 ⟨c,y,z,d,A⟩=>?_
 refine aX (j _ s2 Z y x c a b _ z r d A) λ l s3 ⟨B,C,E,F,G⟩=>?_
 refine aX (k _ s3 Z C _ E G) λ v s4 ⟨J,K,L,M,N⟩=>?_
 refine aX (ah Q s4 Z K B J l v _ L F M N) λ n s5 ⟨O,P,R,S,T⟩=>?_
 exact aX (m _ s5 Z P x c O a b _ _ R r d S T) λ _ s6 ⟨U,V,W⟩=>⟨Z,U,V,W⟩
def xc(f:Int->Int->Int):AH:=λ x y H Q=>∃i j,x= .int i/\y= .int j/\Q (.int (f i j)) H
def RQ:uo X .Add (xc λ i j=>i+j):=by
 intro k s Z H x y v u Q I r a h;obtain⟨i,j,e,b,q⟩:=h;subst e;subst b;obtain⟨t,rfl⟩:=r;obtain⟨t',rfl⟩:=a;exact iadd_int ⟨.int _,H,I.tok _,⟨_,rfl⟩,q⟩
def RS:uo X .Sub (xc λ i j=>i-j):=by
 intro k s Z H x y v u Q I r a h;obtain⟨i,j,e,b,q⟩:=h;subst e;subst b;obtain⟨t,rfl⟩:=r;obtain⟨t',rfl⟩:=a;exact isub_int ⟨.int _,H,I.tok _,⟨_,rfl⟩,q⟩
end
section
variable{X:aZ}{pos:Pos}
def RT(c:gk)(t:hL):hL:=λ D Z H=>∃W:Nat->St->au->Prop,(∃m,W m Z H)/\∀m Z H,W m Z H->
 c Z H λ b a=>if b=true then∃N:St->au->Prop,(∀d H',N d H'->∃e,e<m/\W e d H')/\t {D with nx:=N,ct:=N,bk:=D.nx} Z a else D.nx Z a
def RU(ah:Am (model X.prog X.w) X.A X.env X.xe)(y:jV X c tc)(z:lh X body tb):iN X (.While c body [] pos) (RT tc tb):=by
 intro k s Z H D I h;obtain⟨W,⟨A,B⟩,t⟩:=h;refine wpAny_While (codeAny_whileLoop (λ n s'=>∃o H',Inv X k o H' s'/\W n o H') ?_ A ⟨Z,H,I,B⟩);rintro n C ⟨e,p,E,F⟩;refine rF ah (aX (y k C e p _ E (t n e p F)) λ b s2 ⟨r,u,q⟩=>?_);cases b with
 |true=>
  obtain⟨N,x,q⟩:=q;refine rF ah (aX (z k s2 e r _ u q) λ f s3 g=>?_);cases f with
  |next=>
   obtain⟨a,d,i,j⟩:=g;obtain⟨m,l,w⟩:=x a d j;exact⟨m,l,a,d,i,w⟩
  |cont=>
   obtain⟨a,d,i,j⟩:=g;obtain⟨m,l,w⟩:=x a d j;exact⟨m,l,a,d,i,w⟩
  |brk=>exact g
  |ret v=>exact g
 |false=>
  exact Ag ⟨e,r,u,q⟩
end
structure kA where
 go:Nat->au->Prop
 yld:Nat->au->V->au->Prop
 stop:Nat->au->Prop
def jW(X:aZ)(k:bZ)(H:au)(b:Addr):Prop:=
 H b=none/\b≠X.env.locals/\b∉X.fs/\(b∈X.ex\/X.zS.heap.objs.size<=b)/\(∀x c,X.env.cells.lookup x=some c->c≠b)/\∀p∈X.ta++(X.pn++k),p.1≠b
def Inv.fpOk(I:Inv X kQ Z H s)(h:s.heap.objs.size<=b)(n:H' b=none):jW X kQ H' b:=by
 refine⟨n,kV (fq I.lt h),I.nofs h,.inr (fD I.sz h),λ x c e z=>?_,λ p ah z=>?_⟩
 .obtain⟨v,q⟩:=I.cell x c e
  exact absurd (fq q.lt (by simp_all)) (jL _)
 .exact absurd (fq (I.pinL ah) (by simp_all)) (jL _)
structure Turn(P:bD)(w:World)(K:aB)(tg:Expr)(J:kA)(fp:List Addr)(it:Addr)(tn:Nat->Heap->Prop):Prop where
 mem:it∈fp
 obj:∀i h,tn i h->∀b∈fp,∃o,h.get? b=some o/\∀v,o.data≠.cell v
 keep:∀i h h',tn i h->(∀b∈fp,∀o,h.get? b=some o->h'.get? b=some o)->tn i h'
 item:∀(X:aZ),X.prog=P->X.w=w->X.K=K->X.calm=true->∀(i:Nat) (kQ:bZ) (s:ax) (Z:St) (H:au) (E:Value->ax->Prop),Inv X kQ Z H s->(∀b∈fp,jW X kQ H b)->tn i s.heap->J.go i H->
  wpAny (model P w) X.A (jv (.ref it)) (λ r s1=>∃u,r=some u/\
   wpAny (model P w) X.A (tY tg (.ref it) u) (λ _ s2=>∃x H',Inv X kQ Z H' s2/\RelV x u/\J.yld i H x H'/\tn (i+1) s2.heap/\∀b∈fp,H' b=none) E s1) E s
 done:∀(X:aZ),X.prog=P->X.w=w->X.K=K->X.calm=true->∀(i:Nat) (kQ:bZ) (s:ax) (Z:St) (H:au) (E:Value->ax->Prop),Inv X kQ Z H s->(∀b∈fp,jW X kQ H b)->tn i s.heap->J.stop i H->
  wpAny (model P w) X.A (jv (.ref it)) (λ r s1=>r=none/\Inv X kQ Z H s1) E s
 self:∀(A:cg) (i:Nat) (s:ax) (Q:Value->ax->Prop) (E:Value->ax->Prop),tn i s.heap->Q (.ref it) s->wpAny (model P w) A (oU (.ref it)) Q E s
abbrev iS:=St->au->(kA->au->Prop)->Prop
def Lu(X:aZ)(k:bZ)(Z:St)(g:Expr)(R:kA->au->Prop)(i:Value)(s2:ax):Prop:=
 ∃(t:Addr) (f:List Addr) (tn:Nat->Heap->Prop) (J:kA) (H':au),i= .ref t/\Inv X k Z H' s2/\Turn X.prog X.w X.K g J f t tn/\tn 0 s2.heap/\(∀b∈f,jW X k H' b)/\R J H'
def lj(X:aZ)(t i:Expr)(w:iS):Prop:=
 ∀(k:bZ) (s:ax) (Z:St) (H:au) (R:kA->au->Prop),Inv X k Z H s->w Z H R->
  wpAny (model X.prog X.w) X.A (eval i X.env) (λ v a=>wpAny (model X.prog X.w) X.A (oU v) (Lu X k Z t R) X.xe a) X.xe s
def AJ(b:s.heap.get? it=some o)(c:o.cls= .type n)(d:o.data= .fields vs)
    (e:["enumerate","zip","dict_itemiterator","dict_reverseitemiterator","odict_iterator","itertools.zip_longest","itertools.pairwise"].contains n=false)(a:Q () s):wpAny M A (tY tg (.ref it) u) Q E s:=by
  unfold tY;cases tg<;>first
    |exact aL a
    | (cases u <;> first
        |exact aL a
        | (refine av (wpAny_load b ?_)
           rw[c,d];show wpAny M A (if (["enumerate","zip","dict_itemiterator","dict_reverseitemiterator","odict_iterator","itertools.zip_longest","itertools.pairwise"].contains n&&vs[0]? ==some (lY _))=true then _ else _) Q E s;rw[if_neg (by intro h;rw[e,IT]at h;cases h)];exact aL a))
def EF(K:aB)(a:Addr):kA:=
 ⟨λ i H=>∃xs x,cu K H a xs/\xs[i]? =some x,λ i H x H'=>H'=H/\∀xs,cu K H a xs->xs[i]? =some x,λ i H=>∃xs,cu K H a xs/\xs.length<=i⟩
def EG(K:aB)(a:Addr):kA:=
 ⟨λ i H=>∃xs x,bQ K H a xs/\xs[i]? =some x,λ i H x H'=>H'=H/\∀xs,bQ K H a xs->xs[i]? =some x,λ i H=>∃xs,bQ K H a xs/\xs.length<=i⟩
def rP(l:Int)(n:Nat):kA:=⟨λ i _=>i<n,λ i H x H'=>H'=H/\x= .int (l+i),λ i _=>n<=i⟩
def RV{P:bD}{w:World}{K:aB}{L:Expr}(a t:Addr):Turn P w K L (EF K a) [t] t (λ i h=>h.IsListIter t a i) where
 mem:=by simp
 obj:=λ i h st b f=>by
  have e:b=t:=by simpa using f
  subst e;obtain⟨o,e,c,d⟩:=st;exact⟨o,e,λ v z=>by rw[d]at z;cases z⟩
 keep:=λ i h h' st k=>st.at λ o e=>k t (by simp) o e
 item:=by
  intro X l m hK J i Q s Z H E I j st n;subst l m hK;obtain⟨xs,x,q,r⟩:=n;obtain⟨y,A,p,hz⟩:=I.list q;obtain⟨u,M,N⟩:=A.get r;obtain⟨B,C,O,D,F,G⟩:=j t (by simp);refine wpAny_pyNext_list_item st p.isList (x:=u) (by simpa using M) λ h' g R=>?_
  have S:Inv X Q Z H {s with heap:=h'}:=I.turned (t':=s.toks) (λ b o f e=>(R.2 b f).trans e) B C D F G;obtain⟨o,e,c,d⟩:=id g;exact⟨u,rfl,AJ (s:={s with heap:=h'}) e c d (by decide) ⟨x,H,S,N,⟨rfl,λ ys T=>by rw[I.list_inj T q];exact r⟩,g,λ b f=>(j b f).1⟩⟩
 done:=by
  intro X l m hK J i Q s Z H E I j st n;subst l m hK;obtain⟨xs,q,r⟩:=n;obtain⟨y,A,p,hz⟩:=I.list q;obtain⟨B,C,O,D,F,G⟩:=j t (by simp);have V:=A.length;exact wpAny_pyNext_list_end (I.ok.hd J) st p.isList (by simp;lia) λ h' U=>⟨rfl,I.turned (t':=s.toks) (λ b o f e=>U b o f e) B C D F G⟩
 self:=λ _ _ _ _ _ st h=>wpAny_pyIter_listiter st h
def RW{P:bD}{w:World}{K:aB}{L:Expr}(a t:Addr):Turn P w K L (EG K a) [t] t (λ i h=>h.IsTupleIter t a i) where
 mem:=by simp
 obj:=λ i h st b f=>by
  have e:b=t:=by simpa using f
  subst e;obtain⟨o,e,c,d⟩:=st;exact⟨o,e,λ v z=>by rw[d]at z;cases z⟩
 keep:=λ i h h' st k=>st.at λ o e=>k t (by simp) o e
 item:=by
  intro X m n hK J i Q s Z H E I l st r;subst m n hK;obtain⟨xs,x,q,y⟩:=r;obtain⟨g,A,p,hz⟩:=I.tuple q;obtain⟨u,M,N⟩:=A.get y;obtain⟨B,C,O,D,F,G⟩:=l t (by simp);refine JW st (show s.heap.IsTuple a g.toArray from p) (x:=u) (by simpa using M) λ h' j R=>?_
  have S:Inv X Q Z H {s with heap:=h'}:=I.turned (t':=s.toks) (λ b o f e=>(R.2 b f).trans e) B C D F G;obtain⟨o,e,c,d⟩:=id j;exact⟨u,rfl,AJ (s:={s with heap:=h'}) e c d (by decide) ⟨x,H,S,N,⟨rfl,λ ys T=>by rw[I.tuple_inj T q];exact y⟩,j,λ b f=>(l b f).1⟩⟩
 done:=by
  intro X m n hK J i Q s Z H E I l st r;subst m n hK;obtain⟨xs,q,y⟩:=r;obtain⟨g,A,p,hz⟩:=I.tuple q;obtain⟨B,C,O,D,F,G⟩:=l t (by simp);have V:=A.length;exact JZ (I.ok.hd J) st (show s.heap.IsTuple a g.toArray from p) (by simp;lia) λ h' U=>⟨rfl,I.turned (t':=s.toks) (λ b o f e=>U b o f e) B C D F G⟩
 self:=λ _ _ _ _ _ st h=>wpAny_pyIter_tupleiter st h
def RX{P:bD}{w:World}{K:aB}{B:Expr}(a:Addr)(l:Int)(n:Nat):Turn P w K B (rP l n) [a] a (λ i h=>IsRangeIter h a (l+(i:Nat)*1) ((n:Int)-(i:Nat)) 1) where
 mem:=by simp
 obj:=λ i h st b c=>by
  have e:b=a:=by simpa using c
  subst e;exact⟨_,st,λ v z=>by
   have C:Data.fields _=Data.cell v:=z;cases C⟩
 keep:=λ i h h' st k=>k a (by simp) _ st
 item:=by
  intro X g j hK m i Q s Z H E I f st p;subst g j hK;obtain⟨q,r,D,u,x,y⟩:=f a (by simp);have W:=Walks.range (prog:=X.prog) (w:=X.w) (I.ok.hd m) a l 1 n;refine W.item i s _ _ p st λ v h' A F d G=>?_
  obtain⟨t,rfl⟩:=F;have J:Inv X Q Z H {s with heap:=h',toks:=A}:=I.turned (λ b o c e=>G b o (by simpa using c) e) q r u x y;refine⟨_,rfl,AJ (s:={s with heap:=h',toks:=A}) (n:="range_iterator") d rfl rfl (by decide) ⟨.int (l+i),H,J,⟨t,?_⟩,⟨rfl,rfl⟩,d,λ b c=>(f b c).1⟩⟩;rw[Int.mul_one]
 done:=by
  intro X g j hK m i Q s Z H E I f st p;subst g j hK;obtain⟨q,r,D,u,x,y⟩:=f a (by simp);exact wpAny_pyNext_range_end (I.ok.hd m) st (by have:n<=i:=p;lia) λ h' L=>⟨rfl,I.turned (t':=s.toks) (λ b o c e=>L b o c e) q r u x y⟩
 self:=λ _ _ _ _ _ st h=>wpAny_pyIter_rangeiter st h
section
variable{X:aZ}{c:Expr}
def Lv{k:bZ}{Z:St}{H:au}{s:ax}{R:kA->au->Prop}{E:Value->ax->Prop}{l h:Int}{t u v:Tok}{a:Nat}(I:Inv X k Z H s)(f: -(2^62)<=l)(g:l<2^62)(i: -(2^62)<=h)(j:h<2^62)
  (q:R (rP l (h-l).toNat) H):wpAny (model X.prog X.w) X.A (oU (.ref s.heap.objs.size)) (Lu X k Z c R) E {s with heap:=s.heap.push {cls:=.type "range",data:=.fields #[.int l t,.int h u,.int 1 v]},toks:=a}:=by
 refine wpAny_pyIter_range (IsRange.new ..) (small_one f g i j) ?_;have d:Inv X k Z H {s with heap:=s.heap.push {cls:=.type "range",data:=.fields #[.int l t,.int h u,.int 1 v]},toks:=a}:=I.kept λ b o e=>bM _ e
 refine⟨_,_,_,_,H,rfl,
  d.kept (t':=a) λ b o e=>bM _ e,RX _ l (h-l).toNat,?_,λ b m=>?_,q⟩
 .have n:l+((0:Nat):Int)*1=l:=by simp
  have p:(((h-l).toNat:Nat):Int)-((0:Nat):Int)=D6 l h 1:=by rw[rangeSize_one];split<;>lia
  rw[n,p];exact dy _ rfl
 .have e:b=(s.heap.push {cls:=.type "range",data:=.fields #[.int l t,.int h u,.int 1 v]}).objs.size:=by simpa using m
  subst e;exact d.fpOk (bJ _) (d.hok.fresh (bJ _))
def RY(t:fZ):iS:=λ Z H R=>t Z H λ vs a=>∃j:Int,vs=[.int j]/\-(2^62)<=j/\j<2^62/\R (rP 0 j.toNat) a
def RZ(t:fZ):iS:=λ Z H R=>t Z H λ vs a=>∃i j:Int,vs=[.int i,.int j]/\(-(2^62)<=i/\i<2^62/\-(2^62)<=j/\j<2^62)/\R (rP i (j-i).toNat) a
def R2{a:Expr}{d:fZ}{p pos:Pos}(g:dA X "range")(m:X.mg "range"=none)(f:iM X [a] d)(i:bf [a] X.env=[(false,eval a X.env)]:=by rfl):lj X c (.Call (.Name "range" p) [a] [] pos) (RY d):=by
 intro Q s Z H R I h;refine Call_ (um I g m Dq (z0 (aX (f _ _ s Z H _ I h) λ u v ⟨vs,w,k,l,b⟩=>?_) i rfl));obtain⟨j,e,b,n,q⟩:=b;subst e;cases l with
 |cons r o=>
  cases o;obtain⟨t,rfl⟩:=r;exact call_range_1 (Lv k (by lia) (by lia) b n (by simp_all))
def R5(k:dA X "range")(m:X.mg "range"=none)(l:iM X [a,b] ta)(y:bf [a,b] X.env=[(false,eval a X.env),(false,eval b X.env)]:=by rfl)(d:bf [b] X.env=[(false,eval b X.env)]:=by rfl):
  lj X c (.Call (.Name "range" p) [a,b] [] pos) (RZ ta):=by
 intro Q s Z H R I h;refine Call_ (um I k m Dq (z0 (aX (l _ _ s Z H _ I h) λ z A ⟨vs,B,n,o,f⟩=>?_) (by simp_all) (by rw[d];rfl)));obtain⟨i,j,e,⟨f,u,v,w⟩,q⟩:=f;subst e;cases o with
 |cons r g=>
  cases g with
  |cons x g=>
   cases g;obtain⟨t,rfl⟩:=r;obtain⟨t',rfl⟩:=x;exact call_range_2 (Lv n f u v w q)
def R8(w:iS)(g:iP)(t:hL):hL:=λ D Z H=>w Z H λ J c=>∃W:Nat->Nat->St->au->Prop,(∃m,W 0 m Z c)/\∀i m Z H,W i m Z H->
 (J.stop i H/\D.nx Z H)\/(J.go i H/\∃N:St->au->Prop,(∀a H',N a H'->∃b,b<m/\W (i+1) b a H')/\∀x H',J.yld i H x H'->g x Z H' λ d e=>t {D with nx:=N,ct:=N,bk:=D.nx} d e)
noncomputable def rQ(f:List Addr)(h:Heap):bZ:=f.filterMap λ b=>(h.get? b).map λ o=>(b,o)
def xf(a:b∈fp)(e:h.get? b=some o):(b,o)∈rQ fp h:=tK.mpr ⟨b,a,by simp_all⟩
def Lw(ah:p∈rQ fp h):p.1∈fp/\h.get? p.1=some p.2:=by
 obtain⟨b,a,e⟩:=tK.mp ah;cases q:h.get? b<;>grind
def Inv.pinned(I:Inv X kQ Z H s)(h:∀b∈fp,jW X kQ H b)(d:∀b∈fp,∃o,s.heap.get? b=some o/\∀v,o.data≠.cell v):Inv X (kQ++rQ fp s.heap) Z H s:=
 I.pins_of (λ p ah=>(dH.mp ah).elim (λ z=>I.pin p (fU _ z)) λ z=>by
  obtain⟨a,e⟩:=Lw z;obtain⟨f,g,i,_⟩:=h _ a
  grind) λ q c p ah=>(dH.mp c).elim (λ z=>(I.tab p ah).2.2.2.1 q (fU _ z)) λ z=>((h _ (Lw z).1).2.2.2.2.2 p (eW _ ah)).symm
def Inv.unpinned(I:Inv X (kQ++pl) Z H s):Inv X kQ Z H s:=I.pins_of (λ p ah=>I.pin p (fU _ (eW _ ah))) λ q h p ah=>(I.tab p ah).2.2.2.1 q (fU _ (eW _ h))
def Lx(ah:Am (model X.prog X.w) X.A X.env X.xe)(O:X.calm=true)(U:lj X c iter wi)(V:l5 X c g)(a:lh X body tb)
  (Y:∀x,kn iter X.env x=pure x:=by z_go):iN X (.For c iter body [] pos) (R8 wi g tb):=by
 intro Q s Z H D I h;refine wpAny_For (aX (U Q s Z H _ I h) λ v s1 h1=>aX h1 λ itv s2 h2=>?_) Y;obtain⟨it,w,tn,J,H2,e,I2,T,G,P,W,⟨m0,w0⟩,y⟩:=h2;subst e;have K:∀{H':au},(∀b∈w,H' b=none)->∀b∈w,jW X Q H' b:=λ hn b a=>⟨hn b a,(P b a).2⟩
 refine codeAny_forLoop_any (λ n s'=>∃i z H',Inv X Q z H' s'/\tn i s'.heap/\(∀b∈w,H' b=none)/\W i n z H') ?_ m0 ⟨0,Z,H2,I2,G,λ b a=>(P b a).1,w0⟩;rintro n s3 ⟨i,A,F,R,B,C,w3⟩;rcases y i n A F w3 with ⟨stop,qn⟩|⟨go,N,hN,step⟩
 .refine rF ah (aX (T.done X rfl rfl rfl O i Q s3 A F X.xe R (K C) B stop) λ r s4 ⟨hr,I4⟩=>?_)
  subst hr;exact Ag ⟨A,F,I4,qn⟩
 .refine rF ah (aX (T.item X rfl rfl rfl O i Q s3 A F X.xe R (K C) B go) λ r s4 ⟨u,hr,h4⟩=>?_)
  subst hr;refine rF ah (aX h4 λ _ s5 ⟨x,S,I5,r5,y5,t,L⟩=>?_);have M:=I5.pinned (K L) (T.obj _ _ t);refine rF ah (aX (V _ s5 A S x u _ M r5 (step x S y5)) λ _ s6 ⟨Z6,H6,I6,q6⟩=>?_);refine rF ah (aX (a _ s6 Z6 H6 _ I6 q6) λ f s7 q=>?_);have j:∀{k:St} {l:au},Inv X (Q++rQ w s5.heap) k l s7->N k l->∃m,m<n/\∃i z H',Inv X Q z H' s7/\tn i s7.heap/\(∀b∈w,H' b=none)/\W i m z H':=λ{k l} p E=>by
   obtain⟨m',hm,w7⟩:=hN k l E;refine⟨m',hm,i+1,k,l,p.unpinned,T.keep _ _ _ t λ b a o e=>(p.pin (b,o) (fU _ (fU _ (xf a e)))).1,λ b a=>?_,w7⟩;obtain⟨o,e,d⟩:=T.obj _ _ t b a;exact(p.pin (b,o) (fU _ (fU _ (xf a e)))).2.1
  cases f with
  |next=>obtain⟨k,l,p,E⟩:=q;exact j p E
  |cont=>obtain⟨k,l,p,E⟩:=q;exact j p E
  |brk=>obtain⟨k,l,p,q⟩:=q;exact⟨k,l,p.unpinned,q⟩
  |ret v=>obtain⟨x7,k,l,p,r7,q⟩:=q;exact⟨x7,k,l,p.unpinned,r7,q⟩
end
abbrev bA:=V->V->au->bC->Prop
def bT(X:aZ)(f:Value->Value->Sem Value)(r:bA):Prop:=
 ∀(k:bZ) (s:ax) (Z:St) (H:au) (x y:V) (v u:Value) (Q:bC),Inv X k Z H s->RelV x v->RelV y u->r x y H Q->
  wpAny (model X.prog X.w) X.A (f v u) (hO X k Z Q) X.xe s
def AK(X:aZ)(f:Value->Sem Value)(r:V->au->bC->Prop):Prop:=
 ∀(k:bZ) (s:ax) (Z:St) (H:au) (x:V) (v:Value) (Q:bC),Inv X k Z H s->RelV x v->r x H Q->
  wpAny (model X.prog X.w) X.A (f v) (hO X k Z Q) X.xe s
def fM(X:aZ)(f:Value)(r:List V->au->bC->Prop):Prop:=
 ∀(k:bZ) (s:ax) (Z:St) (H:au) (xs:List V) (u:List Value) (Q:bC),Inv X k Z H s->Vals xs u->r xs H Q->
  wpAny (model X.prog X.w) X.A (call f u) (hO X k Z Q) X.xe s
def Sa(X:aZ)(r:V->au->(Bool->au->Prop)->Prop):Prop:=
 ∀(k:bZ) (s:ax) (Z:St) (H:au) (x:V) (v:Value) (Q:Bool->au->Prop),Inv X k Z H s->RelV x v->r x H Q->
  wpAny (model X.prog X.w) X.A (truthy v) (AG X k Z Q) X.xe s
def mM(r:bA)(t b:bw):bw:=λ Z H Q=>t Z H λ x a=>b Z a λ y c=>r x y c Q
def EH(r:V->au->bC->Prop)(t:bw):bw:=λ Z H Q=>t Z H λ x a=>r x a Q
def rR(C:Int->Int->Prop)(g:Int->Int->V):bA:=λ x y H Q=>∃i j,x= .int i/\y= .int j/\C i j/\Q (g i j) H
def i9(g:Int->Int->V):bA:=λ x y H Q=>∃i j,x= .int i/\y= .int j/\Q (g i j) H
def AL(g:Int->V):V->au->bC->Prop:=λ x H Q=>∃i,x= .int i/\Q (g i) H
section
variable{X:aZ}{a b:Expr}{c d:bw}{pos:Pos}
def EI(i:bq X a c)(j:bq X b d){k:bZ}{s:ax}{Z:St}{H:au}{R:V->V->au->Prop}(I:Inv X k Z H s)
  (h:c Z H λ x g=>d Z g λ y e=>R x y e){Q:Value->ax->Prop}{f:Value->Value->Sem Value}
  (l:∀v u s2 x y e,Inv X k Z e s2->RelV x v->RelV y u->R x y e->wpAny (model X.prog X.w) X.A (f v u) Q X.xe s2):
  wpAny (model X.prog X.w) X.A (eval a X.env) (λ v z=>wpAny (model X.prog X.w) X.A (eval b X.env) (λ u m=>wpAny (model X.prog X.w) X.A (f v u) Q X.xe m) X.xe z) X.xe s:=by
 refine aX (i _ s Z H _ I h) λ v n ⟨x,g,o,r,q⟩=>?_
 refine aX (j _ n Z g _ o q) λ u s2 ⟨y,e,p,t,w⟩=>?_
 exact l v u s2 x y e p r t w
def Ly{op:Operator}{r:bA}(o:bT X (iJ op) r)(e:bq X a c)(f:bq X b d):bq X (.BinOp a op b pos) (mM r c d):=by
 intro l s Z H Q I h;exact wpAny_BinOp (EI e f I h λ v u s2 x y g i j k q=>o _ s2 Z g x y v u Q i j k q)
def Lz(o:AK X (unaryOp op) r)(b:bq X a c):bq X (.UnaryOp op a pos) (EH r c):=by
 intro k s Z H Q I h;exact UnaryOp_ (aX (b _ s Z H _ I h) λ v d ⟨x,e,f,g,q⟩=>o _ d Z e x v Q f g q)
def AM{f:Value->Value->Sem Value}{C:Int->Int->Prop}{g:Int->Int->Int}
  (r:∀(i j:Int) (t u:Tok) (s:ax) (Q:Value->ax->Prop) (E:Value->ax->Prop),C i j->Q (.int (g i j) s.toks) {s with toks:=s.toks+1}->wpAny (model X.prog X.w) X.A (f (.int i t) (.int j u)) Q E s):
  bT X f (rR C λ i j=>.int (g i j)):=by
 intro k s Z H x y v u Q I a b h;obtain⟨i,j,rfl,rfl,c,q⟩:=h;obtain⟨t,rfl⟩:=a;obtain⟨t',rfl⟩:=b;exact r i j t t' s _ _ c ⟨.int _,H,I.tok _,⟨_,rfl⟩,q⟩
def LA{f:Value->Value->Sem Value}{g:Int->Int->Int}
  (r:∀(i j:Int) (t u:Tok) (s:ax) (Q:Value->ax->Prop) (E:Value->ax->Prop),Q (.int (g i j) s.toks) {s with toks:=s.toks+1}->wpAny (model X.prog X.w) X.A (f (.int i t) (.int j u)) Q E s):
  bT X f (i9 λ i j=>.int (g i j)):=by
 intro k s Z H x y v u Q I a b h;obtain⟨i,j,rfl,rfl,q⟩:=h;obtain⟨t,rfl⟩:=a;obtain⟨t',rfl⟩:=b;exact r i j t t' s _ _ ⟨.int _,H,I.tok _,⟨_,rfl⟩,q⟩
def AN{f:Value->Value->Sem Value}{g:Int->Int->Bool}
  (r:∀(i j:Int) (t u:Tok) (s:ax) (Q:Value->ax->Prop) (E:Value->ax->Prop),Q (.bool (g i j)) s->wpAny (model X.prog X.w) X.A (f (.int i t) (.int j u)) Q E s):
  bT X f (i9 λ i j=>.bl (g i j)):=by
 intro k s Z H x y v u Q I a b h;obtain⟨i,j,rfl,rfl,q⟩:=h;obtain⟨t,rfl⟩:=a;obtain⟨t',rfl⟩:=b;exact r i j t t' s _ _ ⟨.bl _,H,I,rfl,q⟩
def LB(i j:Int):Prop:=0<j/\j<1073741824
def Sb(i j:Int):Prop:=0<=j/\j<=1000000/\i.natAbs<2^64
def AO(i j:Int):Prop:=(-(2^64)<i/\i<2^64)\/(-(2^64)<j/\j<2^64)
def AO.ok(h:AO i j):IntMulOk i j:=by
 rcases h with ⟨a,b⟩|⟨a,b⟩
 .exact .of_left (intBits_le_64 a b)
 .exact .of_right (intBits_le_64 a b)
def Sd:bT X (iJ .Add) (i9 λ i j=>.int (i+j)):=LA λ _ _ _ _ _ _ _ q=>add_int q
def Se:bT X (iJ .Sub) (i9 λ i j=>.int (i-j)):=LA λ _ _ _ _ _ _ _ q=>sub_int q
def Sf:bT X (iJ .Mult) (rR AO λ i j=>.int (i*j)):=AM λ _ _ _ _ _ _ _ h q=>mul_int q h.ok
def Sg:bT X (iJ .FloorDiv) (rR LB λ i j=>.int (i / j)):=AM λ i j _ _ _ _ _ h q=>by
 have a:=h.1;have b:=h.2;exact floordiv_int (by lia) (by rw[Int.fdiv_eq_ediv_of_nonneg i (by lia)];assumption) (.inl (PyProof.noPylong_small (by lia)))
def Sh:bT X (iJ .Mod) (rR (λ _ j=>0<j) λ i j=>.int (i%j)):=AM λ i j _ _ _ _ _ h q=>mod_int' (by lia) (by rw[Int.fmod_eq_emod_of_nonneg i (by lia)];assumption)
def Si:bT X (iJ .Pow) (rR Sb λ i j=>.int (i^j.toNat)):=AM λ _ _ _ _ _ _ _ h q=>pow_int_small h.1 h.2.1 h.2.2 q
def Sj{f:Value->Sem Value}{g:Int->Int}
  (r:∀(i:Int) (t:Tok) (s:ax) (Q:Value->ax->Prop) (E:Value->ax->Prop),Q (.int (g i) s.toks) {s with toks:=s.toks+1}->wpAny (model X.prog X.w) X.A (f (.int i t)) Q E s):
  AK X f (AL λ i=>.int (g i)):=by
 intro k s Z H x v Q I a h;obtain⟨i,rfl,q⟩:=h;obtain⟨t,rfl⟩:=a;exact r i t s _ _ ⟨.int _,H,I.tok _,⟨_,rfl⟩,q⟩
def LC:AK X (unaryOp .USub) (AL λ i=>.int (-i)):=Sj λ _ _ _ _ _ q=>neg_int q
end
section
variable{X:aZ}{a b c:Expr}{f g l:bw}{pos:Pos}
def LD(I:Inv X kQ Z H s)(q:Q (.bl k) H)(e:k=k'):hO X kQ Z Q (.bool k') s:=by
 subst e;exact⟨.bl k,H,I,rfl,q⟩
def Sk:bT X (dP .Lt) (i9 λ i j=>.bl (decide (i<j))):=AN λ _ _ _ _ _ _ _ q=>lt_int q
def Sl:bT X (dP .LtE) (i9 λ i j=>.bl (decide (i<=j))):=AN λ _ _ _ _ _ _ _ q=>le_int q
def Sm:bT X (dP .Gt) (i9 λ i j=>.bl (decide (j<i))):=AN λ _ _ _ _ _ _ _ q=>gt_int q
def Sn:bT X (dP .GtE) (i9 λ i j=>.bl (decide (j<=i))):=AN λ _ _ _ _ _ _ _ q=>ge_int q
def So:bT X (dP .Is) (λ x y H Q=>y= .non/\Q (.bl (decide (x= .non))) H):=by
 intro k s Z H x y v u Q I r a h;obtain⟨rfl,q⟩:=h;cases a;refine is_none_gen (LD I q ?_);cases x<;>first
  |lia
  |(obtain⟨t,rfl⟩:=r;rfl)
noncomputable def isObj:HO->Bool
 | .lst _=>true
 | .ins _ _ _=>true
 |_=>false
def LF(b:Expr)(h:op≠.In:=by decide)(c:op≠.NotIn:=by decide):lU op b=false:=by
 have e:(op==CmpOp.In)=false:=by lia
 have a:(op==CmpOp.NotIn)=false:=by lia
 cases b<;>simp[lU,e,a]
def Sp{op:CmpOp}{r:bA}(o:bT X (dP op) r)(c:bq X a f)(d:bq X b g)(m:lU op b=false):bq X (.Compare a [op] [b] pos) (mM r f g):=by
 intro l s Z H Q I h;exact wpAny_Compare1 (EI c d I h λ v u s2 x y e i j k q=>o _ s2 Z e x y v u Q i j k q) m
def EJ(t:bw):gk:=λ Z H Q=>t Z H λ x H'=>∃k,x= .bl k/\Q k H'
def LG(o:bT X (dP op) r)(d:bq X a f)(i:bq X b g)(m:lU op b=false):jV X (.Compare a [op] [b] pos) (EJ (mM r f g)):=by
 intro G s Z H Q I h;refine wpAny_isTrue_Compare1 (aX (d _ s Z H _ I h) λ v j ⟨x,l,n,p,q⟩=>aX (i _ j Z l _ n q) λ u s2 ⟨y,t,w,A,B⟩=>
  aX (o _ s2 Z t x y v u _ w p A B) λ c s3 ⟨z,C,D,E,k,e,F⟩=>?_) m
 subst e;cases E;exact qg ⟨C,D,F⟩
def LH(r b:bA)(f g l:bw):bw:=λ Z H Q=>f Z H λ x c=>g Z c λ y d=>r x y d λ z a=>∃k,z= .bl k/\
 (if k=true then l Z a λ w e=>b y w e Q else Q (.bl false) a)
def Sq(n:bT X (dP op) r)(o:bT X (dP op') r')(p:bq X a f)(t:bq X b g)(w:bq X c l)
  (A:An [op,op'] [b,c]=false:=by by_in):bq X (.Compare a [op,op'] [b,c] pos) (LH r r' f g l):=by
 intro B s Z H Q I h;refine Compare_chain (aX (p B s Z H _ I h) λ v C ⟨x,D,E,F,G⟩=>chain_link (aX (t _ C Z D _ E G) λ u s2 ⟨y,J,K,i,L⟩=>
  aX (n _ s2 Z J x y v u _ K F i L) λ d s3 ⟨z,j,m,M,k,e,q⟩=>?_)) A
 subst e;cases M;refine qg ?_;cases k with
 |false=>exact ite_ff ⟨.bl false,j,m,rfl,q⟩
 |true=>exact ite_tt (chain_last (aX (w _ s3 Z j _ m q) λ N s4 ⟨O,P,R,S,T⟩=>o _ s4 Z P y O u N Q R i S T))
def EK(K:aB)(x:V)(H:au)(k:Bool):Prop:=
 match x with
 | .non=>k=false
 | .bl b=>k=b
 | .int i=>k=(i !=0)
 | .str y=>y.length<=aQ/\k=((y.length:Int)!=0)
 | .byt y=>y.size<=aQ/\k=((y.size:Int)!=0)
 | .ref p=>(∃xs,cu K H p xs/\k= !xs.isEmpty)\/(∃xs,bQ K H p xs/\k= !xs.isEmpty)\/∃v,H p=some (.dK v)/\k= !v.isEmpty
 |_=>False
def Sr(r:fu kvs vs):(!vs.isEmpty)= !kvs.isEmpty:=by
 cases r<;>rfl
def LI(r:Vals xs its):(!its.toArray.isEmpty)= !xs.isEmpty:=by
 cases r<;>simp
def rS:(aQ:Nat)<2^63:=by decide
def Ss:Sa X (λ x H Q=>∃k,EK X.K x H k/\Q k H):=by
 intro n s Z H x v Q I d h;obtain⟨k,e,q⟩:=h;have o:=rS;have u:aQ=16777216:=ko;cases x with
 |non=>
  cases d;have a:k=false:=e;subst a;exact truthy_none ⟨H,I,q⟩
 |bl b=>
  cases d;have a:k=b:=e;subst a;exact qg ⟨H,I,q⟩
 |int i=>
  obtain⟨t,rfl⟩:=d;have a:k=(i !=0):=e;subst a;exact PySem.P.truthy_int ⟨H,I,q⟩
 |str y=>
  obtain⟨t,rfl⟩:=d;obtain⟨l,a⟩:y.length<=aQ/\k=((y.length:Int)!=0):=e;subst a;exact PySem.P.truthy_str (by lia) ⟨H,I.tok _,q⟩
 |byt y=>
  obtain⟨t,rfl⟩:=d;obtain⟨l,a⟩:y.size<=aQ/\k=((y.size:Int)!=0):=e;subst a;exact PySem.W.truthy_bytes (by lia) ⟨H,I.tok _,q⟩
 |ref p=>
  cases d;have a:(∃xs,cu X.K H p xs/\k= !xs.isEmpty)\/(∃xs,bQ X.K H p xs/\k= !xs.isEmpty)\/∃c,H p=some (.dK c)/\k= !c.isEmpty:=e
  rcases a with ⟨xs,f,a⟩|⟨xs,f,a⟩|⟨c,f,a⟩
  .subst a
   obtain⟨g,r,pl,hz⟩:=I.list f;have j:=r.length;exact wpAny_truthy_list pl.isList (by simp only[et];lia) ⟨H,I.tok _,by rw[LI r];exact q⟩
  .subst a
   obtain⟨g,r,pl,hz⟩:=I.tuple f;have j:=r.length;exact truthy_tuple pl (by simp only[et];lia) ⟨H,I.tok _,by rw[LI r];exact q⟩
  .subst a
   obtain⟨hz,S,vs,r,m⟩:c.length<=aQ/\(p==iI)=false/\∃vs,fu c vs/\s.heap.DictOf (gR X.prog X.w) p vs:=I.hok p _ f
   have j:c.length=vs.length:=Ay r;exact wpAny_truthy_dict S m (by lia) ⟨H,I.tok _,by rw[Sr r];exact q⟩
 |_=>exact(show False from e).elim
def Su(b:bq X a f)(e:∀w,isTrue a X.env w=(do let v <-w;oT a.pos;ju [v] (truthy v))):
  jV X a (λ Z H Q=>f Z H λ x H'=>∃k,EK X.K x H' k/\Q k H'):=by
 intro i s Z H Q I h;exact isTrue_plain (aX (b _ s Z H _ I h) λ v c ⟨x,d,g,r,q⟩=>Ss _ c Z d x v Q g r q) (e _)
def vals1(r:Vals [x] us):∃u,us=[u]/\RelV x u:=by
 cases r with
 |cons a b=>cases b;exact⟨_,rfl,a⟩
def vals2(r:Vals [x,y] us):∃u w,us=[u,w]/\RelV x u/\RelV y w:=by
 cases r with
 |cons a b=>
  cases b with
  |cons c d=>cases d;exact⟨_,_,rfl,a,c⟩
def Sv(c:X.calm=true):fM X (.builtin "max") (λ xs H Q=>∃i j,xs=[.int i,.int j]/\Q (.int (if j>i then j else i)) H):=by
 intro b s Z H xs d Q I r h;obtain⟨i,j,rfl,q⟩:=h;obtain⟨u,w,rfl,⟨t,rfl⟩,⟨t',rfl⟩⟩:=vals2 r;refine max_two_ints (I.ok.hd c) λ h' e k=>⟨_,H,I.kept k,?_,q⟩
 by_cases a:j>i
 .rw[if_pos a,if_pos a];exact⟨_,rfl⟩
 .rw[if_neg a,if_neg a];exact⟨_,rfl⟩
def Sw(c:X.calm=true):fM X (.builtin "min") (λ xs H Q=>∃i j,xs=[.int i,.int j]/\Q (.int (if j<i then j else i)) H):=by
 intro b s Z H xs d Q I r h;obtain⟨i,j,rfl,q⟩:=h;obtain⟨u,w,rfl,⟨t,rfl⟩,⟨t',rfl⟩⟩:=vals2 r;refine min_two_ints (I.ok.hd c) λ h' e k=>⟨_,H,I.kept k,?_,q⟩
 by_cases a:j<i
 .rw[if_pos a,if_pos a];exact⟨_,rfl⟩
 .rw[if_neg a,if_neg a];exact⟨_,rfl⟩
end
structure AP(h:Heap)(x dx C:Addr)(mA:Str->Option Value):Prop where
 obj:h.get? x=some (uj C dx)
 ns:h.Ns1 dx mA
 ne:dx≠x
def Sx{h:Heap}{d:Addr}{m:Str->Option Value}(n:h.Ns1 d m):∃b,h.get? d=some b/\∀name,AE name b=some (m name):=by
 obtain⟨o,es,ep,c,f,g,_,i⟩:=n;refine⟨o,c,λ name=>?_⟩;have e:=i name;unfold nsFind findBy at e;rw[<-Array.find?_toList]at e;unfold AE;rw[f];cb_eq;split
 .rename_i y q
  rw[q]at e;exact congrArg some e
 .rename_i q
  rw[q]at e;have a:es.toList.any (·.refKey)=false:=by
   rw[Jn];intro y j;obtain⟨z,t,k⟩:=g y (Array.mem_toList_iff.mp j);simp[DictEntry.refKey,k]
  grind
def AP.look(I:AP h x dx C mA):∃o,K6 h x (uj C dx) C (some o)/\∀name,AE name o=some (mA name):=
 let⟨o,ho,hl⟩:=Sx I.ns
 ⟨o,⟨I.obj,rfl,rfl,ho⟩,hl⟩
section
variable{prog:bD}{w:World}{A:cg}{E:Value->ax->Prop}{s:ax}{K:aB}{x d C f:Addr}{m:Str->Option Value}{name:Str}
def Sy(X:K.In s.heap)(I:AP s.heap x d C m)(g:Es K C name=true)
  (a:l3 K (.ref C) name=some (some (.ref f)))(t:La K (.ref f)=true)(v:m name=none)(h:Q (.ref f,[.ref x]) s):
  wpAny (model prog w) A (getMethod (.ref x) name pl) Q E s:=by
 obtain⟨o,J,l⟩:=I.look;exact PySem.W.method_fn X J (K0 g).1 (K0 g).2 a (beq_iff_eq.mp t) (by show(AE _ o).map _=some _;simp_all) h
def make_map(X:K.In s.heap)(m:PySem.W.makesIn K C=true)
  (i:l3 K (.ref C) "__init__"=some (some (.ref f)))(a:PySem.W.typeIn K (.ref f)=some (.type "function"))
  (h:fV (model prog w) (A.under (.builtin "type.__call__" ⟨.ref C::vs,kw⟩)) (.call (.ref f) ⟨.ref (s.heap.objs.size+1)::vs,kw⟩) (PySem.W.InitBack (s.heap.objs.size+1) R)
   {s with heap:=(s.heap.push rM).push (uj C s.heap.objs.size)}):
  fV (model prog w) A (.call (.ref C) ⟨vs,kw⟩) R s:=PySem.W.make_core (PySem.W.makes_of X m) (AC X i) (λ e=>PySem.W.bind_fn X _ a) (.inl rfl) h
end
def ku.some_of(r:ku (some v) o):∃u,o=some u/\RelV v u:=by
 cases o with
 |none=>exact(r).elim
 |some u=>exact⟨u,rfl,r⟩
def ku.none_of(r:ku none o):o=none:=by
 cases o with
 |none=>rfl
 |some u=>exact(r).elim
section
variable{P:bD}{w:World}{H:au}{h:Heap}{a C x:Addr}{fs:List (Str×V)}
def AQ(o:eL P w H h)(e:H a=some (.ins C x fs)):∃m,AP h a x C m/\(∀f,ku (fs.lookup f) (m f))/\J6 m (fs.map (·.1))/\fs.length<=1000/\H x=some (.own a):=by
 obtain⟨d,z,b,ob,m,n,r,q⟩:=(o a _ e);exact⟨m,⟨ob,n,b⟩,r,q,z,d⟩
end
structure uq(K:aB)(C:Addr):Prop where
 pg:Es K C Str.empty=true
 hd:PySem.W.hasDictIn K C=true
 po:PySem.W.plainOver K C=true
 sa:l3 K (.ref C) "__setattr__"=some (some (.builtin "object.__setattr__"))
def uq.get{K:aB}{C:Addr}(c:uq K C)(f:Str):Es K C f=true:=c.pg
def Sz(K:aB)(C:Addr)(f:Str):Prop:=l3 K (.ref C) f=some none
structure Meth(K:aB)(C:Addr)(m:Str)(f:Addr):Prop where
 at_:l3 K (.ref C) m=some (some (.ref f))
 fn:La K (.ref f)=true
 kp:qv K (.ref f)=true
section
variable{X:aZ}{d:bZ}{Z:St}{H:au}{s:ax}{a C x:Addr}{fs:List (Str×V)}{A:cg}{E:Value->ax->Prop}
def SA(I:Inv X d Z H s)(e:H a=some (.ins C x fs))(c:uq X.K C)(k:Meth X.K C m g)(l:fs.lookup m=none)
  (h:Q (.ref g,[.ref a]) s):wpAny (model X.prog X.w) A (getMethod (.ref a) m pl) Q E s:=by
 obtain⟨b,O,r,_,_,_⟩:=AQ I.hok e;have n:=ku.none_of (by rw[<-l];exact r m);exact Sy I.kIn O (c.get m) k.at_ k.fn n h
def Inv.made(I:Inv X d Z H s):Inv X d Z (bt (bt H s.heap.objs.size (.own (s.heap.objs.size+1))) (s.heap.objs.size+1) (.ins C s.heap.objs.size []))
  {s with heap:=(s.heap.push rM).push (uj C s.heap.objs.size)}:=by
 have a:(s.heap.push rM).get? s.heap.objs.size=some rM:=dy s.heap rfl;have c:=by
  have:=dy (s.heap.push rM) (o:=uj C s.heap.objs.size) rfl
  rwa [k9]at this
 have f:(s.heap.push rM).Ns s.heap.objs.size (λ _=>none):=⟨rM,#[],_,a,rfl,(λ e h=>absurd h (by simp)),λ _=>rfl⟩;have g:=I.laid (o:=.own (s.heap.objs.size+1)) (t':=s.toks) (λ b u q=>bM _ q) (bJ _) ⟨_,a⟩;refine g.laid (t':=s.toks) (λ b u q=>bM _ q) (Dh (k9 _ _)) ?_;have n:s.heap.objs.size≠s.heap.objs.size+1:=cC (nF _);refine⟨by rw[cp n,dQ],dI _,n,c,λ _=>none,(Heap.Ns1.of_empty f).at λ o q=>bM _ q,λ _=>l4,λ y i=>absurd rfl i⟩
end
def tFld(K:aB)(t:bw)(f:Str):bw:=λ Z H Q=>t Z H λ x b=>∃a C d fs v,x= .ref a/\b a=some (.ins C d fs)/\uq K C/\Sz K C f/\fs.lookup f=some v/\Q v b
section
variable{X:aZ}{e:Expr}{f:Str}{pos:Pos}
def methcall_of(n:bq X e te)(I:Inv X kQ Z H s)
  (h:te Z H λ x d=>∃a C i fs g,x= .ref a/\d a=some (.ins C i fs)/\uq X.K C/\Meth X.K C m g/\fs.lookup m=none/\
   ∀b,Inv X kQ Z d b->wpAny (model X.prog X.w) X.A (callWith pos (.ref g) [.ref a] (fW pos (bf args X.env)) (ql pos (qh [] X.env))) Q X.xe b)
  (t:eval (.Call (.Attribute e m apos) args [] pos) X.env=(do
   let ov <-eval e X.env
   oT apos.atName
   let(f,first) <-ju [ov] (getMethod ov m pl)
   callWith pos f first (fW pos (bf args X.env)) (ql pos (qh [] X.env)))):
  wpAny (model X.prog X.w) X.A (eval (.Call (.Attribute e m apos) args [] pos) X.env) Q X.xe s:=by
 refine PySem.W.methodCall_KW (aX (n _ s Z H _ I h) λ u b ⟨x,d,j,r,a,C,i,fs,g,o,p,c,k,l,q⟩=>?_) t;subst o;obtain rfl:u=fX a:=r;exact SA j p c k l (q b j)
end
section
variable{X:aZ}{k:bZ}{Z:St}{H:au}{s:ax}{A:cg}{E:Value->ax->Prop}{Q:Value->ax->Prop}{c:Value}{b:Bool}
inductive lp(K:aB)(H:au):V->Value->Prop where
 |non:lp K H .non (.type "NoneType")
 |bl (x:Bool):lp K H (.bl x) (.type "bool")
 |int (i:Int):lp K H (.int i) (.type "int")
 |str (x:Str):lp K H (.str x) (.type "str")
 |flt (x:UInt64):lp K H (.flt x) (.type "float")
 |lst {a:Addr} {xs:List V} (e:H a=some (.lst xs)):lp K H (.ref a) (.type "list")
 |frz {a:Addr} {o:Obj} {xs:List V} (e:H a=some (.frz o (.lst xs))):lp K H (.ref a) (.type "list")
 |tup {a:Addr} {xs:List V} (e:H a=some (.tup xs)):lp K H (.ref a) (.type "tuple")
 |dK {a:Addr} {kvs:List (bz×V)} (e:H a=some (.dK kvs)):lp K H (.ref a) (.type "dict")
 |dT {a:Addr} {kvs:List (List bz×V)} (e:H a=some (.dT kvs)):lp K H (.ref a) (.type "dict")
 |ins {a C dx:Addr} {fs:List (Str×V)} (e:H a=some (.ins C dx fs)) (cl:uq K C) (ha:l3 K (.ref C) "__class__"=some (some (.builtin "object.__class__")))
   (hn:PySem.W.specialIn K (.builtin "object.__class__") "__get__"=some (some (.builtin "getset_descriptor.__get__"))) (htk:PySem.W.takesIn K (.builtin "object.__class__")=some true)
   (hm:PySem.W.mroIn K C (.type "object")=some true):lp K H (.ref a) (.ref C)
def SB(I:Inv X k Z H s)(r:RelV x u)(ty:lp X.K H x t)(e:w4 X.K t c=some b)(h:∀m,Q (.bool b) {s with toks:=m}):
  wpAny (model X.prog X.w) A (call (.builtin "isinstance") [u,c]) Q E s:=by
 cases ty with
 |non=>cases (show u=fE from r);exact kr PySem.W.kitx_none I.kIn l4 e (λ z=>nomatch z) h
 |bl y=>cases (show u=AB y from r);exact kr PySem.W.kitx_bool I.kIn l4 e (λ z=>nomatch z) h
 |int i=>obtain⟨t,q⟩:=(show∃t,u=jx i t from r);cases q;exact kr PySem.W.kitx_int I.kIn l4 e (λ z=>nomatch z) h
 |str y=>obtain⟨t,q⟩:=(show∃t,u=Eo y t from r);cases q;exact kr PySem.W.kitx_str I.kIn l4 e (λ z=>nomatch z) h
 |flt y=>obtain⟨t,q⟩:=(show∃t,u=KX y t from r);cases q;exact kr PySem.W.kitx_float I.kIn l4 e (λ z=>nomatch z) h
 |@lst a xs d=>
  cases (show u=fX a from r);obtain⟨_,_,n,_,f⟩:=(show fY X.prog X.w H s.heap a (.lst xs)from I.hok a _ d);exact kr K5 I.kIn ⟨_,f,rfl⟩ e (λ z=>nomatch z) h
 |@frz a ob xs d=>
  cases (show u=fX a from r);obtain⟨_,_,_,n,_,f⟩:=(show fY X.prog X.w H s.heap a (.frz ob (.lst xs))from I.hok a _ d);exact kr K5 I.kIn ⟨_,f,rfl⟩ e (λ z=>nomatch z) h
 |@tup a xs d=>
  cases (show u=fX a from r);obtain⟨_,_,_,p⟩:=(show fY X.prog X.w H s.heap a (.tup xs)from I.hok a _ d);obtain⟨o,f,g,_⟩:=p;exact kr K2 I.kIn ⟨o,f,g⟩ e (λ z=>nomatch z) h
 |@dK a v d=>
  cases (show u=fX a from r);obtain⟨_,_,vs,_,p⟩:=(show fY X.prog X.w H s.heap a (.dK v)from I.hok a _ d);obtain⟨o,es,ep,f,g,_⟩:=p;exact kr Ep I.kIn ⟨o,f,g.1⟩ e (λ z=>nomatch z) h
 |@dT a v d=>
  cases (show u=fX a from r);obtain⟨_,_,xs,_,o,es,ep,f,g,_⟩:=(show fY X.prog X.w H s.heap a (.dT v)from I.hok a _ d);exact kr Ep I.kIn ⟨o,f,g.1⟩ e (λ z=>nomatch z) h
 |@ins a C F fs d l w B j D=>
  cases (show u=fX a from r);obtain⟨G,O,_⟩:=AQ I.hok d;obtain⟨K,J,_⟩:=O.look;exact kr (PySem.W.kitx_own (l.get _) l.hd w B j D) I.kIn J e (λ z=>nomatch z) h
end
structure gS(k:Nat)(A:cg):Prop where
 hd:A.handled=none
 dp:A.depth+3*k+5<DQ
 un:A.units+16*k+200<cLine
def gS.mono(r:gS k A)(h:j<=k):gS j A:=⟨r.hd,by have:=r.dp;lia,by have:=r.un;lia⟩
theorem gS.deeper(r:gS (k+1) A)(env:Env):gS k (A.deeper env):=
 ⟨r.hd,by have:=r.dp;show A.depth+1+3*k+5<_;lia,by have:=r.un;show A.units+3+16*k+200<_;lia⟩
theorem gS.depth(r:gS k A):A.depth<DQ:=by have:=r.dp;lia
theorem gS.units(r:gS k A):A.units+64<cLine:=by have:=r.un;lia
def gS.units0(r:gS k A):A.units<cLine:=by have:=r.un;lia
def jX:fZ:=λ _ H Q=>Q [] H
def gm(t:bw)(r:fZ):fZ:=λ Z H Q=>t Z H λ x a=>r Z a λ xs b=>Q (x::xs) b
section
variable{X:aZ}{e:Expr}{es:List Expr}{a:bw}{t:fZ}{pos:Pos}
def kB:iM X [] jX:=λ _ _ _ _ H Q I h=>Calls.spliced_nil ⟨[],H,I,.nil,h⟩
def g9(b:bq X e a)(hr:iM X es t)(c:bf (e::es) X.env=(false,eval e X.env)::bf es X.env:=by rfl):iM X (e::es) (gm a t):=by
 intro pos m s Z H Q I h;rw[c];refine Calls.spliced_cons (aX (b _ s Z H _ I h) λ u d ⟨x,f,g,r,q⟩=>?_);exact aX (hr _ _ d Z f _ g q) λ n s2 ⟨xs,i,j,k,l⟩=>⟨_,i,j,.cons r k,l⟩
def SC(t:fZ):bw:=λ Z H Q=>t Z H λ xs a=>xs.length<=aQ/\∀p,a p=none->Q (.ref p) (bt a p (.tup xs))
def SD(t:fZ):bw:=λ Z H Q=>t Z H λ xs a=>xs.length<=aQ/\∀p,a p=none->Q (.ref p) (bt a p (.lst xs))
def SE{x1}(h:iM X es t):bq X (.Tuple es x1 pos) (SC t):=by
 intro k s Z H Q I c;refine wpAny_Tuple_spliced (aX (h _ _ s Z H _ I c) λ d g ⟨xs,i,a,r,z,q⟩=>⟨by rw[<-r.length];simp_all,?_⟩);have f:=a.hok.fresh (bJ _);refine⟨.ref _,_,a.laid (λ b u e=>bM _ e) (bJ _) ?_,rfl,q _ f⟩;exact⟨⟨z,NoD.push _⟩,d,r,⟨_,dy _ rfl,rfl,_,rfl⟩⟩
def SF(h:iM X es t):bq X (.List es pos) (SD t):=by
 intro k s Z H Q I c;refine wpAny_List_spliced (aX (h _ _ s Z H _ I c) λ d g ⟨xs,i,a,r,z,q⟩=>⟨by rw[<-r.length];assumption,?_⟩);have f:=a.hok.fresh (bJ _);refine⟨.ref _,_,a.laid (λ b u e=>bM _ e) (bJ _) ?_,rfl,q _ f⟩;exact⟨z,d,0,r,dy _ rfl⟩
end
abbrev lq:=List V->au->bC->gj->Prop
abbrev l6:=List Env->au->ax->gj->Value->ax->Prop
structure xh(P:bD)(w:World)(K:aB)(mg:Str->Option Value)(base:Heap)(A:cg)(outer:List Env)(s:ax)(H:au):Prop where
 frames:A.frames=some outer
 mod:Mod K mg base
 bs:∀b o,base.get? b=some o->s.heap.get? b=some o/\H b=none
 bsz:base.objs.size<=s.heap.objs.size
 funs:s.heap.FunFrames base outer
 frf:∀b∈eX outer,H b=none
 hok:eL P w H s.heap
 bare:nI s.gens
def EL(o:List Env)(P:bD)(w:World)(H:au)(s:ax)(Q:bC)(u:Value)(s':ax):Prop:=
 ∃v H',s'.os=s.os/\nI s'.gens/\gG (eX o) [] H H' s.heap s'.heap/\eL P w H' s'.heap/\RelV v u/\Q v H'
def LJ(CX:l6)(o:List Env)(P:bD)(w:World)(H:au)(s:ax)(Q:bC)(E:gj)(r:mG)(s':ax):Prop:=
 match r with
 | .ok (.ret u)=>EL o P w H s Q u s'
 | .ok _=>False
 | .error e=>CX o H s E e s'
structure gb(P:bD)(w:World)(K:aB)(mg:Str->Option Value)(base:Heap)(CX:l6)(k:Nat)(f:Addr)(fd:bO)(ps:List Str)(sp:lq):Prop where
 len:∀vs H Q E,sp vs H Q E->vs.length=ps.length
 run:∀(A:cg) (outer:List Env) (s:ax) (H:au) (args:Args) (us:List Value) (vs:List V) (Q:bC) (E:gj),gS k A->xh P w K mg base A outer s H->qm s fd args (ps.zip us)->Vals vs us->sp vs H Q E->
  fV (model P w) A (.call (.ref f) args) (LJ CX outer P w H s Q E) s
def gb.imp{P:bD}{w:World}{K:aB}{mg:Str->Option Value}{base:Heap}{CX:l6}{k:Nat}{f:Addr}{d:bO}{ps:List Str}{sp p:lq}(F:gb P w K mg base CX k f d ps sp)
  (h:∀vs H Q E,p vs H Q E->sp vs H Q E):gb P w K mg base CX k f d ps p:=
 ⟨λ vs H Q E q=>F.len vs H Q E (h _ _ _ _ q),λ A o s H a u vs Q E hr e b v c=>F.run A _ s H _ u vs Q E hr e b v (h _ _ _ _ c)⟩
section
variable{X:aZ}{k:bZ}{Z:St}{H:au}{s s':ax}
def Inv.env0(I:Inv X k Z H s):xh X.prog X.w X.K X.mg X.base X.A X.stack s H:=
 ⟨I.ok.frames,I.ok.mod,I.bs,fD I.ok.bsz I.sz,I.stack,I.stkFree,I.hok,I.bare⟩
def Inv.after(I:Inv X k Z H s)(h:EL X.stack X.prog X.w H s Q u s'):hO X k Z Q u s':=by
 obtain⟨v,H',os,a,un,o,r,q⟩:=h;obtain⟨e,g,d,t,c⟩:=s';obtain rfl:c=s.os:=os;exact⟨v,H',I.call un o a (λ b z=>absurd z (by simp)),r,q⟩
end
def ur(sp:lq)(d:List V)(E:gj)(t:fZ):bw:=λ Z H Q=>t Z H λ vs a=>sp (vs++d) a Q E
def tMeth(C:Addr)(m:Str)(sp:lq)(d:List V)(E:gj)(c:bw)(t:fZ):bw:=λ Z H Q=>c Z H λ x b=>∃a e fs,x= .ref a/\b a=some (.ins C e fs)/\fs.lookup m=none/\
 t Z b λ vs f=>sp (x::(vs++d)) f Q E
def tMake(C:Addr)(sp:lq)(s:List V)(E:gj)(t:fZ):bw:=λ Z H Q=>t Z H λ vs a=>∀x d,a x=none->a d=none->d≠x->
 sp (.ref x::(vs++s)) (bt (bt a d (.own x)) x (.ins C d [])) (λ v b=>v= .non/\Q (.ref x) b) E
def Binds(K:aB)(f:bO)(ps:List Str)(ds:List Value):Prop:=
 ∀(s:ax) (u:List Value),K.In s.heap->(u++ds).length=ps.length->qm s f ⟨u,[]⟩ (ps.zip (u++ds))
def Binds.all{K:aB}{f:bO}{ps:List Str}(h:∀u:List Value,u.length=ps.length->bindArgs f ⟨u,[]⟩=pure (ps.zip u)):Binds K f ps []:=λ s u _ l=>by
 rw[g6]at l ⊢;exact .of_eq (h u l)
def AR(CX:l6)(X:aZ)(E:gj):Prop:=∀(k:bZ) (Z:St) (H:au) (s:ax) (e:Value) (s':ax),Inv X k Z H s->CX X.stack H s E e s'->X.xe e s'
section
variable{X:aZ}{CX:l6}{k:Nat}{f:Addr}{a:bO}{ps:List Str}{sp:lq}{d:List V}{ds:List Value}{E:gj}{x:Str}{p pos:Pos}{e:Expr}{es:List Expr}{t:fZ}
def LK(F:gb X.prog X.w X.K X.mg X.base CX k f a ps sp)(hr:gS k X.A)(c:Binds X.K a ps ds)(g:Vals d ds)(x:AR CX X E)
  (I:Inv X kQ Z H s)(r:Vals vs us)(h:sp (vs++d) H Q E):wpAny (model X.prog X.w) X.A (call (.ref f) us) (hO X kQ Z Q) X.xe s:=by
 have b:=r.append g;have l:(us++ds).length=ps.length:=by rw[<-b.length];exact F.len _ _ _ _ h
 refine wpAny_call (rH (F.run X.A _ s H _ _ _ Q E hr I.env0 (c s us I.kIn l) b h) λ r s' q=>?_);cases r with
 |error e=>exact x kQ Z H s e s' I q
 |ok fl=>
  cases fl with
  |ret u=>exact I.after q
  |next=>assumption
  |brk=>assumption
  |cont=>assumption
def EM(F:gb X.prog X.w X.K X.mg X.base CX k f a ps sp)(hr:gS k X.A)(g:dA X x)(m:X.mg x=some (.ref f))(i:qv X.K (.ref f)=true)(j:Binds X.K a ps ds)(l:Vals d ds)(n:AR CX X E)
  (o:iM X (e::es) t)(b:Nd x:=by decide)(u:bf (e::es) X.env=(false,eval e X.env)::bf es X.env:=by rfl)(hpl:(fW pos (bf es X.env)).any (·.1)=false:=by rfl):
  bq X (.Call (.Name x p) (e::es) [] pos) (ur sp d E t):=by
 intro v s Z H Q I h;refine wy (EA I g m ?_ b);refine K1 I.ok.mod.kin i (aX (o _ _ s Z H _ I h) λ w y ⟨vs,z,c,r,q⟩=>⟨c.kIn,?_⟩) u hpl;exact LK F hr j l n c r q
end
structure cq(N P:List Str)(sc:Scope):Prop where
 kind:sc.kind= .function
 co:sc.isCoroutine=false
 gen:sc.isGenerator=false
 nd:N.Nodup
 pre:N.take P.length=P
 par:∀x∈P,sc.names.lookup x=some .local\/sc.names.lookup x=some .cell
 nofree:∀y∈sc.names,y.2≠.free
theorem LL{iu:Str->Option nK}{x:Str}:∀{binds:List (Str×Value)} {m:Str->Option Value},(∀v,(x,v)∉binds)->bindL iu binds m x=m x
 |[],_,_=>rfl
 |(n,v)::r,m,h=>by
  unfold bindL;rw[LL λ w a=>h w (dN _ a)];split
  .have:x≠n:=by rintro rfl;exact h v c0
   simp_all
  simp_all
theorem LM{iu:Str->Option nK}{x:Str}:∀{binds:List (Str×Value)} {m:Str->Option Value},(∀v,(x,v)∉binds)->bindC iu binds m x=m x
 |[],_,_=>rfl
 |(n,v)::r,m,h=>by
  unfold bindC;rw[LM λ w a=>h w (dN _ a)];split
  .rfl
  .have:x≠n:=by rintro rfl;exact h v c0
   simp_all
theorem LN{iu:Str->Option nK}{x:Str}{v:Value}:∀{P:List Str} {vs:List Value} {i:Nat} {m:Str->Option Value},P.Nodup->P[i]? =some x->vs[i]? =some v->iu x=some .local->
  bindL iu (P.zip vs) m x=some v
 |[],_,_,_,_,h,_,_=>by simp at h
 |_::_,[],_,_,_,_,h,_=>by simp at h
 |p::P,w::vs,0,m,n,a,b,k=>by
  simp at a b;subst a;subst b;show bindL iu ((p,w)::P.zip vs) m p=_;unfold bindL;rw[LL λ v c=>(iq.mp n).1 (zN c).1,if_pos k];simp
 |p::P,w::vs,i+1,m,n,a,b,k=>by
  unfold bindL;exact LN (i:=i) (iq.mp n).2 (by simpa using a) (by assumption) k
theorem LO{iu:Str->Option nK}{x:Str}{v:Value}:∀{P:List Str} {vs:List Value} {i:Nat} {m:Str->Option Value},P.Nodup->P[i]? =some x->vs[i]? =some v->iu x≠some .local->
  bindC iu (P.zip vs) m x=some v
 |[],_,_,_,_,h,_,_=>by simp at h
 |_::_,[],_,_,_,_,h,_=>by simp at h
 |p::P,w::vs,0,m,n,a,b,k=>by
  simp at a b;subst a;subst b;show bindC iu ((p,w)::P.zip vs) m p=_;unfold bindC;rw[LM λ v c=>(iq.mp n).1 (zN c).1,if_neg k];simp
 |p::P,w::vs,i+1,m,n,a,b,k=>by
  show bindC iu ((p,w)::P.zip vs) m x=_;unfold bindC;exact LO (i:=i) (iq.mp n).2 (by simpa using a) (by simpa using b) k
noncomputable def start(N:List Str)(vs:List V):St:=vs.map some++cG (N.length-vs.length) none
noncomputable def o4(CX:l6)(P:bD)(w:World)(K:aB)(mg:Str->Option Value)(base:Heap)(N:List Str)(q:Str)(c:Scope)(f:Addr)(d:Value)(A:cg)(outer:List Env)(s:ax)(H:au)(E:gj):aZ where
 prog:=P
 w:=w
 K:=K
 mg:=mg
 base:=base
 A:=A.deeper (jT q c s.heap.objs.size f d)
 N:=N
 zS:=s
 zD:=H
 env:=jT q c s.heap.objs.size f d
 outer:=outer
 stack:=jT q c s.heap.objs.size f d::outer
 ex:=[]
 calm:=true
 fn:=λ _=>true
 pn:=[]
 xe:=λ e s'=>wpAny (model P w) (A.deeper (jT q c s.heap.objs.size f d)) (leaving (jT q c s.heap.objs.size f d) e) (λ _ a=>CX outer H s E e a) (λ b a=>CX outer H s E b a) s'
def AS{s:Scope}{n:Nat}{x:Str}(h:s.names.lookup x=some .cell):∃c,(oR n s.names []).lookup x=some c:=by
 have q:=KZ _ n [] (.inl h);exact Option.isSome_iff_exists.mp q
def SG{CX:l6}{P:bD}{w:World}{K:aB}{mg:Str->Option Value}{base:Heap}{N ps:List Str}{l:Str}{o:Scope}{f:Addr}{B:Value}{A:cg}{t:List Env}{s G:ax}{H:au}{E:gj}{F:List Value}{vs:List V}
  (S:cq N ps o)(L:A.handled=none)(g:xh P w K mg base A t s H)(Q:vs.length=ps.length)(r:Vals vs F)
  (x:InCallC s s.heap.objs.size (bindL (jT l o s.heap.objs.size f B).kindOf (ps.zip F) λ _=>none) (oR (s.heap.objs.size+1) o.names []) (bindC (jT l o s.heap.objs.size f B).kindOf (ps.zip F) λ _=>none) G):
  Inv (o4 CX P w K mg base N l o f B A t s H E) [] (start N vs) H G:=by
 have hpl:ps.length<=N.length:=by have:=congrArg qc S.pre;rw[rA]at this;lia
 obtain⟨C,R,rfl,I⟩:=x.done;have j:∀b:Addr,b∉(o4 CX P w K mg base N l o f B A t s H E).ex:=λ b z=>absurd (show b∈([]:List Addr)from z) (by simp)
 refine⟨⟨g.mod,S.kind,rfl,rfl,bJ _,λ y z c C d=>?_,λ y m=>?_,λ y c _ h=>?_,λ _=>L,Around.frames_deeper g.frames,.inr ⟨rfl,rfl⟩,λ b z=>absurd z (j b),g.bs,g.bsz,λ b _ _=>j b,λ b z=>absurd z (j b),g.funs,g.frf⟩,
  rfl,g.bare,gG.kept I,⟨_,x.toInCall.ns,λ i y v C d T=>?_⟩,λ y c h=>⟨_,x.cell y c h⟩,g.hok.fresh (bJ _),λ y c h=>?_,λ p ah=>absurd (show p∈([]:bZ)from ah) (by simp),g.hok.kept I,?_,λ p ah=>absurd (show p∈([]:bZ)from ah) (by simp)⟩
 .exact name_of_addr x.apart (k6 C) (k6 d)
 .have m:o.names.lookup y=some .cell\/o.names.lookup y=some .free:=m
  rcases m with m|m
  .exact AS m
  .exact absurd rfl (S.nofree _ (k6 m))
 .exact jS (x.above y c (k6 h))
 .have D:i<vs.length:=by
   unfold start at d;by_cases D:i<vs.length
   .exact D
   .rw[zw (by simpa using D)]at d
    rw[tI]at d;split at d<;>cases d
  have M:vs[i]? =some v:=by
   unfold start at d;rw[ry (by simpa using D),da]at d;cases e:vs[i]? with
   |none=>rw[e]at d;cases d
   |some a=>rw[e]at d;cases d;rfl
  obtain⟨u,J,O⟩:=r.get M;have ah:ps[i]? =some y:=by
   rw[<-S.pre,List.getElem?_take_of_lt (by lia)];exact C
  have AU:ps.Nodup:=by rw[<-S.pre];exact S.nd.sublist (List.take_sublist _ _)
  refine⟨u,O,?_⟩;rcases S.par y (jK ah)with k|k
  .exact .inl ⟨k,LN AU ah J k⟩
  .obtain⟨c,e⟩:=AS (n:=s.heap.objs.size+1) k
   refine .inr ⟨.inl k,c,e,?_⟩;have q:=x.cell y c e;rw[LO AU ah J (by show o.names.lookup y≠_;rw[k];decide)]at q;exact q
 .exact g.hok.fresh (jS (x.above y c (k6 h)))
 .unfold start
  show _=N.length;rw[eJ,bg,pU];lia
def SH{CX:l6}{P:bD}{w:World}{K:aB}{mg:Str->Option Value}{base:Heap}{k:Nat}{f:Addr}{name l:Str}{p:Dy}{g:List Stmt}{c:Scope}{M eu m O d R Y:Value}{T od:Option Addr}
  {D:Array (Option Value)}{N ps:List Str}{sp:lq}(lk:K.lookup f=some ⟨Y,od,.func (nP name l p g c M eu m O T d R),D⟩)(F:w1 K d l=true)(S:cq N ps c)
  (len:∀vs H Q E,sp vs H Q E->vs.length=ps.length)
  (h:∀(A:cg) (a:List Env) (s:ax) (H:au) (vs:List V) (Q:bC) (E:gj),gS k (A.deeper (jT l c s.heap.objs.size f d))->sp vs H Q E->
   ∃t,lh (o4 CX P w K mg base N l c f d A a s H E) g t/\t {nx:=λ _ H'=>Q .non H',rt:=Q} (start N vs) H):
  gb P w K mg base CX (k+1) f (nP name l p g c M eu m O T d R) ps sp:=by
 refine⟨len,λ A a s H U us vs Q E hr z hb r B=>?_⟩;have hl:=len _ _ _ _ B;have X:K.In s.heap:=z.mod.kin.keeps λ b o e=>(z.bs b o e).1
 have G:s.heap.NoLimit:=z.mod.nolimit.keeps λ b o e=>(z.bs b o e).1
 have i:∀y∈ps.zip us,c.names.lookup y.1=some .local\/(c.names.lookup y.1=some .cell/\((oR (s.heap.objs.size+1) c.names []).lookup y.1).isSome=true):=λ⟨n,v⟩ hy=>by
  rcases S.par n (zN hy).1 with q|q
  .exact .inl q
  .exact .inr ⟨q,KZ _ _ _ (.inl q)⟩
 refine codeAny_call_function hr.depth (X _ _ lk) rfl S.co S.gen rfl (PySem.W.codeRec_of X F) (hb _ _ _ _ ?_);refine wpAny_newFunctionEnv_cells S.kind i λ env he W x=>?_
 subst he;refine⟨G.keeps x.toInCall.keep,codeAny_func ?_⟩;obtain⟨t,ht,hq⟩:=h A a s H vs Q E (hr.deeper _) B;have I:Inv (o4 CX P w K mg base N l c f d A a s H E) [] (start N vs) H W:=SG S hr.hd z hl r x;refine g7 (ht [] W (start N vs) H _ I hq) (λ fl s' j=>?_) λ e s' j=>j
 have C:∀{Z:St} {H':au} {v:V} {u:Value},Inv (o4 CX P w K mg base N l c f d A a s H E) [] Z H' s'->RelV v u->Q v H'->EL a P w H s Q u s':=
  λ{Z H' v u} J L q=>⟨v,H',J.os,J.bare,J.base,J.hok,L,q⟩
 cases fl with
 |ret u=>
  obtain⟨v,Z,H',J,L,q⟩:=j;exact C J L q
 |next=>
  obtain⟨Z,H',J,q⟩:=j;exact C (v:=V.non) (u:=fE) J rfl q
 |brk=>
  obtain⟨_,_,_,q⟩:=j;exact aV q
 |cont=>
  obtain⟨_,_,_,q⟩:=j;exact aV q
section
variable{X:aZ}{x:Str}{p pos:Pos}{e:Expr}{es:List Expr}{t:fZ}{i T:String}{r:List V->au->bC->Prop}
def mO(r:List V->au->bC->Prop)(t:fZ):bw:=λ Z H Q=>t Z H λ vs a=>r vs a Q
def uu(c:fM X (.builtin i) r)(g:dA X x)(m:X.mg x=none)(v:gx x=some (.builtin i))(a:iM X (e::es) t)(n:x≠"__name__":=by decide)(d:Nd x:=by decide)
  (b:bf (e::es) X.env=(false,eval e X.env)::bf es X.env:=by rfl)(hpl:(fW pos (bf es X.env)).any (·.1)=false:=by rfl):bq X (.Call (.Name x p) (e::es) [] pos) (mO r t):=by
 intro o s Z H Q I h;refine wy (um I g m v ?_ n d);exact PyProof.Rows.callWith_builtin1 (aX (a _ _ s Z H _ I h) λ u f ⟨vs,j,k,l,q⟩=>c _ f Z j vs u Q k l q) b hpl
def uv(c:fM X (.type T) r)(g:dA X x)(m:X.mg x=none)(v:gx x=some (.type T))(a:iM X (e::es) t)(n:x≠"__name__":=by decide)(d:Nd x:=by decide)
  (b:bf (e::es) X.env=(false,eval e X.env)::bf es X.env:=by rfl)(hpl:(fW pos (bf es X.env)).any (·.1)=false:=by rfl):bq X (.Call (.Name x p) (e::es) [] pos) (mO r t):=by
 intro l s Z H Q I h;refine wy (um I g m v ?_ n d);exact z0 (aX (a _ _ s Z H _ I h) λ u f ⟨vs,i,j,k,q⟩=>c _ f Z i vs u Q j k q) b hpl
end
end L2
namespace HT
open PySem PyProof.Rows
noncomputable def lexLt:List Int->List Int->Bool
 |[],[]=>false
 |[],_::_=>true
 |_::_,[]=>false
 |x::xs,y::ys=>if x=y then lexLt xs ys else decide (x<y)
def nQ(x y:Int)(xs ys:List Int):lexLt (x::xs) (y::ys)=if x=y then lexLt xs ys else decide (x<y):=rfl
def SI:lexLt [] []=false:=rfl
def SJ(y:Int)(ys:List Int):lexLt [] (y::ys)=true:=rfl
def SK(x:Int)(xs:List Int):lexLt (x::xs) []=false:=rfl
def LP(A:cg)(s:ax)(a:Int)(t:Tok)(c:Int)(u:Tok):∃e,nN A s (.int a t) (.int c u) e/\(e=true↔a=c):=
 ⟨_,KH a t c u,by simp⟩
def SL(A:cg)(s:ax)(a:Int)(t:Tok)(c:Int)(u:Tok)(prog:bD)(w:World)(E:Value->ax->Prop)(Q:Value->ax->Prop)(h:Q (.bool (decide (a<c))) s):
  wpAny (model prog w) A (Aj .Lt (.int a t) (.int c u)) Q E s:=
 (JR h)
section
open PySem.SeqAt
open PySem.AutoSeq1(wpAny_loadPart')
open PySem.MeetsSeq PySem.MeetsSeq2 PySem.MeetsSeq3
def SM(l b:Addr)(items i:Array Value)(n J:Nat)(dd D:Option Addr)(sl E:Array (Option Value))(ns B:List Int)(G:dO items.toList ns)(H:dO i.toList B):
  Meets (hY.«tuple.__lt__» ⟨[.ref l,.ref b],[]⟩)
   (λ _ R s=>s.heap.get? l=some {cls:=.type "tuple",dict:=dd,data:=.seq items n,slots:=sl}/\s.heap.get? b=some {cls:=.type "tuple",dict:=D,data:=.seq i J,slots:=E}/\
    R (.ok (.ret (.bool (lexLt ns B)))) s):=
 .of_wp λ prog w A R s h=>by
  obtain⟨ah,g,d,C,os⟩:=s;obtain⟨K,L,h⟩:=h;have O:=Kb;have P:items.size=ns.length:=by rw[<-G.length];simp
  have Q:i.size=B.length:=by rw[<-H.length];simp
  wp_walk using oP K,oP L,wpAny_forIn_list _ (λ rest b s'=>b.1=none/\s'=⟨ah,g,d,C,os⟩/\∃(vs ws:List Value) (f m:List Int),rest=vs.zip ws/\
   dO vs f/\dO ws m/\f.length+i.size=m.length+items.size/\R (.ok (.ret (.bool (lexLt f m)))) ⟨ah,g,d,C,os⟩) _
  case turn=>
   rintro⟨y,x⟩ rest b s' ⟨p,rfl,vs,ws,f,m,hz,v,j,X,k⟩;cases v with
   |nil=>rw[Jr]at hz;cases hz
   |cons a t r=>
    cases j with
    |nil=>rw[Jm]at hz;cases hz
    |cons c u z=>
     rw[qa]at hz;injection hz with hyx aT
     injection hyx with hy hx
     subst hy hx;rw[nQ]at k;simp only[g0]at X;obtain⟨e,M,o⟩:=LP A.in1 ⟨ah,g,d,C,os⟩ a t c u;refine av (M prog w _ _ ?_);cases e with
     |true=>
      rw[if_pos (o.mp rfl)]at k;wp_walk;exact⟨rfl,rfl,_,_,_,_,aT,r,z,by lia,k⟩
     |false=>
      rw[if_neg (λ q=>absurd (o.mpr q) gh)]at k;have F:=SL A.in1 ⟨ah,g,d,C,os⟩ a t c u prog w;wp_walk using F;exact⟨_,rfl,by simpa using k⟩
  case fin=>
   rintro⟨S,T⟩ s' ⟨p,rfl,vs,ws,f,m,hz,v,j,X,k⟩;simp only at p;subst p;have I:lexLt f m=decide (items.size<i.size):=by
    cases v with
    |nil=>
     cases j with
     |nil=>
      simp only[kk]at X;rw[SI];exact(decide_eq_false (by lia)).symm
     |cons c u N=>
      simp only[kk,g0]at X;rw[SJ];exact(decide_eq_true (by lia)).symm
    |cons a t I=>
     cases j with
     |nil=>
      simp only[kk,g0]at X;rw[SK];exact(decide_eq_false (by lia)).symm
     |cons c u N=>
      rw[qa]at hz;cases hz
   rw[I]at k;wp_walk;exact⟨_,rfl,by simpa[Kf]using k⟩
  case h=>
   exact⟨rfl,rfl,items.toList,i.toList,ns,B,rfl,G,H,by lia,h⟩
end
section
variable{prog:bD}{w:World}{A:cg}{E:Value->ax->Prop}{s:ax}
def aGg(g:IsTup s.heap l items)(i:IsTup s.heap b items2)(j:dO items.toList ns)(k:dO items2.toList ms)
  (u:A.units<cLine)(h:Q (.bool (lexLt ns ms)) s):wpAny (model prog w) A (dP .Lt (.ref l) (.ref b)) Q E s:=by
 obtain⟨⟨m,dd,t,sl⟩,e,p,n,q⟩:=id g;obtain⟨⟨f,r,d,v⟩,o,c,y,a⟩:=id i;subst p q c a;exact JX (op:=.Lt) ⟨_,e,rfl⟩ ⟨_,o,rfl⟩ PySem.F.slot_tuple_lt PySem.F.entry_tuple_lt (PySem.F.args_tuple_lt_2 _ _) (SM l b _ _ n y dd _ sl _ ns ms j k)
  ⟨e,o,⟨(λ x=>nomatch x),h⟩⟩ u
def aOZ(p:IsTup s.heap t vs.toArray)(q:IsTup s.heap b ws.toArray)(v:vs≠[])
  (r:ws=[]->Q (.ref t) s)(u:ws≠[]->Q (.ref s.heap.objs.size) {s with heap:=s.heap.push {cls:=.type "tuple",data:=.seq (vs++ws).toArray}})
  (hsz:vs.length+ws.length<=aQ):wpAny (model prog w) A (iJ .Add (.ref t) (.ref b)) Q E s:=by
 obtain⟨⟨cls,dd,data,sl⟩,o,i,n,j⟩:=id p;obtain⟨⟨k,d,f,l⟩,h,c,m,a⟩:=id q;simp only at i j c a;subst i j c a;have e:vs.toArray++ws.toArray=(vs++ws).toArray:=by simp
 by_cases g:ws=[]
 .exact DZ ⟨_,o,rfl⟩ ⟨_,h,rfl⟩ DH DV Ed Ea (D9 _ _)
   (tuple_addW1 t b vs.toArray ws.toArray n m dd d sl l (by simpa using v) (by simp[g])) ⟨o,h,r g⟩
 .refine DZ ⟨_,o,rfl⟩ ⟨_,h,rfl⟩ DH DV Ed Ea (D9 _ _)
   (tuple_addW2 t b vs.toArray ws.toArray n m dd d sl l (by simpa using v) (by simp_all) (by simp_all)) ⟨o,h,?_⟩
  rw[e];exact u g
noncomputable def sIx(n d:Nat):Option Int->Nat
 |none=>d
 |some v=>if v<0 then(v+(n:Int)).toNat else min v.toNat n
def SN(n d:Nat)(a:d<=n)(o:Option Int):sIx n d o<=n:=by
 cases o with
 |none=>assumption
 |some v=>
  show(if v<0 then(v+(n)).toNat else min _ n)<=n
  by_cases h:v<0
  .rw[if_pos h];lia
  .rw[if_neg h];exact Nat.min_le_right _ _
def LQ(v:Int)(n d:Nat):(if v<0 then max (v+(n:Int)) 0 else min v (n:Int))=((sIx n d (some v):Nat):Int):=by
 show(if v<0 then max _ 0 else min v _)=(((if v<0 then(v+(n)).toNat else min _ n)))
 grind
def SO(l h:Option Int)(n:Nat):Ar l h 1 (n:Int)=(((sIx n 0 l:Nat):Int),((sIx n n h:Nat):Int)):=by
 have a:¬((1:Int)<0):=by lia
 refine tT ?_ ?_
 .cases l with
  |none=>rfl
  |some v=>exact LQ v n 0
 .cases h with
  |none=>rfl
  |some v=>exact LQ v n n
def SP(i j:Nat):rK (i:Int) (j:Int) 1=j-i:=by
 unfold rK;have h:(1:Int)>0:=by lia
 simp only[h,if_true,Int.ediv_one];split<;>lia
def LR(p:nL v o)(h:Q o s):wpAny (model prog w) A (QX v) Q E s:=by
 cases p with
 |none=>exact z6 h
 |int i t=>exact slicePart_int h
def LS{sl:Addr}{v u:Value}{l i:Option Int}{n:Nat}{Q:Int×Int×Nat->ax->Prop}(a:s.heap.IsSliceOf sl v u .none)(pl:nL v l)(p:nL u i)
  (h:Q (((sIx n 0 l:Nat):Int),1,sIx n n i-sIx n 0 l) s):wpAny (model prog w) A (D7 (.ref sl) (pure (n:Int))) Q E s:=by
 obtain⟨os,o,c,d⟩:=id a;refine av (av (lW o d (x:=v) rfl (av (lW o d (x:=u) rfl (av (lW o d (x:=.none) rfl (aL ?_)))))));refine av (z6 ?_);refine av (LR pl (av (LR p (av (aL ?_)))));show wpAny _ _ (match Ar l i 1 (n:Int)with|(l,i)=>pure (l,(1:Int),rK l i 1)) _ _ s;rw[SO l i n];show wpAny _ _ (pure _) _ _ s;rw[SP];exact aL h
def SQ(xs:Array Value)(i k:Nat):((dY k).filterMap λ(m:Nat)=>xs[((i:Int)+(m:Int)*1).toNat]?).toArray=((xs.toList.drop i).take k).toArray:=by
 have e:(λ(m:Nat)=>xs[((i:Int)+(m:Int)*1).toNat]?)=λ m=>xs[i+m]?:=by
  funext m
  have:((i:Int)+(m:Int)*1).toNat=i+m:=by lia
  rw[this]
 rw[e]
 have:=pick_run xs i k
 have a:((λ x=>xs[x]?)∘λ x=>i+x)=λ m=>xs[i+m]?:=rfl
 simp_all
def xm{t sl:Addr}{items:Array Value}{v u:Value}{l i:Option Int}{Q:Value->ax->Prop}(a:IsTup s.heap t items)(b:s.heap.IsSliceOf sl v u .none)(pl:nL v l)(p:nL u i)
  (d:¬(sIx items.size 0 l=0/\sIx items.size items.size i=items.size))
  (h:Q (.ref s.heap.objs.size) {s with heap:=s.heap.push {cls:=.type "tuple",data:=.seq ((items.toList.drop (sIx items.size 0 l)).take (sIx items.size items.size i-sIx items.size 0 l)).toArray}})
  (hsz:items.size<=aQ):wpAny (model prog w) A (k8 (.ref t) (.ref sl)) Q E s:=by
 have S:sizeOk (.seq ((items.toList.drop (sIx items.size 0 l)).take (sIx items.size items.size i-sIx items.size 0 l)).toArray):=by
  show((items.toList.drop (sIx items.size 0 l)).take (sIx items.size items.size i-sIx items.size 0 l)).toArray.size<=aQ
  rw[et,rA,wg,gZ];lia
 have j:sIx items.size items.size i<=items.size:=SN _ _ (bJ _) i;obtain⟨os,o,c,e⟩:=id b;have T:s.TypeIs (.ref sl) "slice":=⟨os,o,c⟩;unfold k8
 try with_reducible refine jt ?_
 first|refine av (aL ?_)|skip
 refine av (DF a.typeIs (by decide) ?_);refine av (nJ (name:=nO "__getitem__") a.typeIs qf
  (jU qf a.typeIs Dl ?_ (Dm _ _)))
 show wpAny _ _ (D8 (.ref t)>>=_) _ _ s;refine av (Do a ?_);refine av (rI T ?_);rw[if_pos (by decide)];refine av (LS b pl p ?_);have n:¬((((sIx items.size 0 l:Nat):Int)==0&&(1:Int)==1&&(sIx items.size items.size i-sIx items.size 0 l)==items.size)=true):=by
  intro q;rw[cM,cM]at q;have f:((sIx items.size 0 l:Nat):Int)=0:=tG q.1.1;have g:sIx items.size items.size i-sIx items.size 0 l=items.size:=tG q.2;exact d ⟨by lia,by lia⟩
 show wpAny _ _ (if (((sIx items.size 0 l:Nat):Int)==0&&(1:Int)==1&&(sIx items.size items.size i-sIx items.size 0 l)==items.size)=true then _ else _) _ _ s;rw[if_neg n,SQ]
 first
  |exact av (m:=qr _) (hG (aL ⟨_,rfl,aL h⟩) S)
  |exact av (m:=qr _) (hG (av (aL (aL ⟨_,rfl,aL h⟩))) S)
  |exact av (av (m:=qr _) (hG (aL (aL ⟨_,rfl,aL h⟩)) S))
  |exact av (av (m:=qr _) (hG (aL ⟨_,rfl,aL h⟩) S))
end
end HT
namespace L2
open PySem PySem.Spec PyProof.Rows
abbrev uw:=St->au->(Option Int->au->Prop)->Prop
def xi(X:aZ)(e:Option Expr)(t:uw):Prop:=
 ∀(k:bZ) (s:ax) (Z:St) (H:au) (Q:Option Int->au->Prop),Inv X k Z H s->t Z H Q->
  wpAny (model X.prog X.w) X.A (evalPart e X.env) (λ u s'=>∃o H',Inv X k Z H' s'/\nL u o/\Q o H') X.xe s
def SR:uw:=λ _ H Q=>Q none H
def SS(t:bw):uw:=λ Z H Q=>t Z H λ x a=>∃i,x= .int i/\Q (some i) a
def intsAre_of:∀{u:List Value},Vals (ns.map V.int) u->dO u ns:=by
 induction ns with
 |nil=>intro u r;cases r;exact .nil
 |cons n ns i=>
  intro u r;cases r with
  |cons a b=>
   obtain⟨t,e⟩:=a;subst e;exact .cons n t (i b)
section
variable{X:aZ}{e:Expr}{d:bw}{o c:Option Expr}{g j:uw}{pos f:Pos}
def SU:xi X none SR:=by
 intro k s Z H Q I h;exact aL ⟨_,H,I,.none,h⟩
def SV(h:bq X e d):xi X (some e) (SS d):=by
 intro k s Z H Q I w;refine aX (h _ s Z H _ I w) λ u f ⟨x,a,b,r,c⟩=>?_
 obtain⟨i,rfl,q⟩:=c;obtain⟨t,rfl⟩:=r;exact⟨_,a,b,.int i t,q⟩
def qz(X:aZ)(r:V->Option Int->Option Int->au->bC->Prop):Prop:=
 ∀(k:bZ) (s:ax) (Z:St) (H:au) (x:V) (v l u:Value) (o c:Option Int) (sl:Addr) (Q:bC),Inv X k Z H s->RelV x v->s.heap.IsSliceOf sl l u .none->nL l o->nL u c->r x o c H Q->
  ∃T i,qj (.type T) "__getitem__"=pure (some (.builtin i))/\s.TypeIs v T/\wpAny (model X.prog X.w) X.A (k8 v (.ref sl)) (hO X k Z Q) X.xe s
def qz.or(h:qz X r)(h':qz X r'):qz X (λ x o c H Q=>r x o c H Q\/r' x o c H Q):=by
 intro k s Z H x v l u o c sl Q I a b pl p q;rcases q with q|q
 .exact h _ s Z H x v l u o c sl Q I a b pl p q
 .exact h' _ s Z H x v l u o c sl Q I a b pl p q
def LU(r:V->Option Int->Option Int->au->bC->Prop)(d:bw)(g j:uw):bw:=λ Z H Q=>d Z H λ x a=>g Z a λ l b=>j Z b λ u c=>r x l u c Q
def SW(hr:qz X r)(n:bq X e d)(p:xi X o g)(t:xi X c j):bq X (.Subscript e (.Slice o c none f) pos) (LU r d g j):=by
 intro k s Z H Q I h;refine z7 (aX (n k s Z H _ I h) λ v w ⟨x,y,z,A,B⟩=>?_);refine wpAny_Slice (aX (p k w Z y _ z B) λ a s2 ⟨l,C,D,pl,E⟩=>aX (t k s2 Z C _ D E) λ i s3 ⟨u,m,F,G,J⟩=>?_);rw[evalPart_none];refine aL ?_;have K:Inv X k Z m {s3 with heap:=s3.heap.push {cls:=.type "slice",data:=.fields #[a,i,.none]}}:=F.kept (t':=s3.toks) λ b ob q=>bM _ q
 obtain⟨T,O,L,M,N⟩:=hr k {s3 with heap:=s3.heap.push {cls:=.type "slice",data:=.fields #[a,i,.none]}} Z m x v a i l u _ Q K A (KD ..) pl G J;exact tail_any M L N (by by_in)
noncomputable def nS(xs:List V)(o c:Option Int):List V:=(xs.drop (HT.sIx xs.length 0 o)).take (HT.sIx xs.length xs.length c-HT.sIx xs.length 0 o)
def LV(xs:List V)(o c:Option Int):(nS xs o c).length<=xs.length:=by
 unfold nS;rw[rA,wg];lia
def AV(K:aB):bA:=λ x y H Q=>∃a b ns m,x= .ref a/\y= .ref b/\bQ K H a (ns.map V.int)/\bQ K H b (m.map V.int)/\Q (.bl (HT.lexLt ns m)) H
def SX(c:X.A.units<cLine):bT X (dP .Lt) (AV X.K):=by
 intro m s Z H x y v u Q I r d h;obtain⟨a,b,ns,n,rfl,rfl,e,g,q⟩:=h;cases r;cases d;obtain⟨t,j,p,_⟩:=I.tuple e;obtain⟨i,k,f,_⟩:=I.tuple g;have l:=intsAre_of j;have dg:=intsAre_of k;exact HT.aGg p f l dg c ⟨.bl _,H,I,rfl,q⟩
def SY(K:aB):bA:=λ x y H Q=>∃a b xs ys,x= .ref a/\y= .ref b/\bQ K H a xs/\bQ K H b ys/\xs≠[]/\xs.length+ys.length<=aQ/\
 (ys=[]->Q (.ref a) H)/\(ys≠[]->∀p,H p=none->Q (.ref p) (bt H p (.tup (xs++ys))))
def Vals.nil_iff(r:Vals xs us):us=[]↔xs=[]:=by
 cases r<;>simp_all
def SZ:bT X (iJ .Add) (SY X.K):=by
 intro n s Z H x y v u Q I d e h;obtain⟨a,b,xs,ys,rfl,rfl,g,j,k,hz,l,m⟩:=h;cases d;cases e;obtain⟨t,c,p,_⟩:=I.tuple g;obtain⟨i,r,f,_⟩:=I.tuple j;refine HT.aOZ p f (λ z=>k (c.nil_iff.mp z)) (λ z=>⟨.ref a,H,I,rfl,l (r.nil_iff.mp z)⟩) (λ z=>?_) (by rw[<-c.length,<-r.length];assumption);refine⟨.ref _,_,I.laid (λ b ob q=>bM _ q) (bJ _) ?_,rfl,m (λ w=>z (r.nil_iff.mpr w)) _ (I.hok.fresh (bJ _))⟩;exact⟨⟨by simp_all,NoD.push _⟩,_,c.append r,z8 _ _⟩
end
noncomputable def hh(n:Nat)(i:Int):Option Nat:=if 0<=i then(if i<n then some i.toNat else none)else if -(n:Int)<=i then some (i+n).toNat else none
noncomputable def l7{α:Type}(xs:List α)(i:Int):Option α:=(hh xs.length i).bind λ j=>xs[j]?
def EN(h:hh n i=some j):seqIndex? i n=some j/\j<n/\-(n:Int)<=i/\i<n:=by
 unfold hh at h;by_cases b:0<=i
 .rw[if_pos b]at h
  by_cases a:i<n
  .rw[if_pos a]at h
   have e:i.toNat=j:=i7 h;exact⟨by rw[Ak b a,e],by lia,by lia,a⟩
  simp_all
 .rw[if_neg b]at h
  by_cases a: -(n:Int)<=i
  .rw[if_pos a]at h
   have e:=i7 h;exact⟨by rw[Ah (by lia) a,e],by lia,a,by lia⟩
  simp_all
def EO(h:l7 xs i=some v):∃j,seqIndex? i xs.length=some j/\xs[j]? =some v/\j<xs.length/\-(xs.length:Int)<=i/\i<xs.length:=by
 unfold l7 at h;cases e:hh xs.length i with
 |none=>simp_all
 |some j=>
  rw[e]at h;obtain⟨a,b,c,d⟩:=EN e;exact⟨j,a,h,b,c,d⟩
def xk(b:Expr):Prop:=∀o i,Al b false o i=operate [o,i] (k8 o i)
def o5(X:aZ)(r:bA):Prop:=
 ∀(a l:Expr) (k:bZ) (s:ax) (Z:St) (H:au) (x y:V) (v u:Value) (Q:bC),Inv X k Z H s->RelV x v->RelV y u->r x y H Q->
  Al l false v u=operate [v,u] (k8 v u)->wpAny (model X.prog X.w) X.A (subscriptTail a l v u) (hO X k Z Q) X.xe s
def EP(X:aZ)(i:String)(r:V->List V->au->bC->Prop):Prop:=
 ∀(k:bZ) (s:ax) (Z:St) (H:au) (x:V) (xs:List V) (v:Value) (u:List Value) (Q:bC),Inv X k Z H s->RelV x v->Vals xs u->r x xs H Q->
  wpAny (model X.prog X.w) X.A (call (.builtin i) (v::u)) (hO X k Z Q) X.xe s
section
variable{X:aZ}{a b:Expr}{m g:bw}{pos:Pos}
def o5.or(h:o5 X r)(h':o5 X r'):o5 X (λ x y H Q=>r x y H Q\/r' x y H Q):=by
 intro a l k s Z H x y v u Q I b c q d;rcases q with q|q
 .exact h _ _ _ s Z H x y v u Q I b c q d
 .exact h' _ _ _ s Z H x y v u Q I b c q d
def LW{r:bA}(hr:o5 X r)(c:bq X a m)(d:bq X b g)(e:xk b):bq X (.Subscript a b pos) (mM r m g):=by
 intro l s Z H Q I h;exact z7 (EI c d I h λ v u s2 x y f i j k q=>hr a b _ s2 Z f x y v u Q i j k q (e _ _))
def ER(K:aB):bA:=λ x y H Q=>∃p xs i v,x= .ref p/\y= .int i/\cu K H p xs/\l7 xs i=some v/\Q v H
def LX(K:aB):bA:=λ x y H Q=>∃p xs i v,x= .ref p/\y= .int i/\bQ K H p xs/\l7 xs i=some v/\Q v H
def LY:bA:=λ x y H Q=>∃z i c,x= .str z/\y= .int i/\z.length<=aQ/\l7 z.cps.toList i=some c/\Q (.str ⟨#[c]⟩) H
def LZ:o5 X (ER X.K):=by
 intro l c n s Z H x y v u Q I o A h g;obtain⟨p,xs,i,z,rfl,rfl,B,C,q⟩:=h;cases o;obtain⟨t,rfl⟩:=A;obtain⟨b,r,pl,hz⟩:=I.list B;obtain⟨j,a,D,J,E,F⟩:=EO C;obtain⟨w,k,d⟩:=r.get D;have G:=r.length;have K:=rS;have f:hO X n Z Q w s:=⟨z,H,I,d,q⟩;by_cases m:0<=i
 .have e:i.toNat=j:=by
   rw[Ak m F]at a;exact i7 a
  exact item_listR pl.isList m (by lia) (by rw[e];simpa using k) f g
 .have e:(i+(b.toArray.size:Int)).toNat=j:=by
   rw[Ah (by lia) E]at a;rw[et,<-G];exact i7 a
  exact JS (x:=w) pl.isList.typeIs J8.lookup
   (JY pl.isList (by lia) (by rw[et]<;>lia) (by lia) (by rw[e];simpa using k) ⟨rfl,f⟩) g
def S0:o5 X (LX X.K):=by
 intro a l A s Z H x y v u Q I c d h e;obtain⟨p,xs,i,z,rfl,rfl,g,k,q⟩:=h;cases c;obtain⟨t,rfl⟩:=d;obtain⟨m,r,pl,hz⟩:=I.tuple g;obtain⟨j,B,n,C,D,E⟩:=EO k;obtain⟨w,o,b⟩:=r.get n;have F:=r.length;have G:=rS;have f:hO X _ Z Q w s:=⟨z,H,I,b,q⟩;exact JS pl.typeIs slot_tuple_getitem.lookup
  (getItem_tuple (j:=j) pl (by lia) (by lia) (by simp_all) (by simpa using o) ⟨rfl,f⟩) e
def S1:o5 X LY:=by
 intro a l o s Z H x y v u Q I r d h e;obtain⟨z,i,c,rfl,rfl,hz,f,q⟩:=h;obtain⟨t,rfl⟩:=r;obtain⟨t',rfl⟩:=d;obtain⟨j,b,g,p,k,m⟩:=EO f;have n:z.cps.toList.length=z.length:=by rfl
 rw[n]at b k m;have w:=rS;exact tail_any (typeIs_str s z t) slot_str_getitem.lookup (getItem_str (by lia) (by rw[b];simpa using g) ⟨.str _,H,I.tok _,⟨_,rfl⟩,q⟩) e
def ES(K:aB):bA:=λ x y H Q=>ER K x y H Q\/LX K x y H Q\/LY x y H Q
def S2:o5 X (ES X.K):=LZ.or (S0.or S1)
def S3(i:List Value)(n j:Nat)(u:Value):lZ (·.setIfInBounds j u) {cls:=.type "list",data:=.seq i.toArray n}={cls:=.type "list",data:=.seq (i.set j u).toArray n}:=by
 simp[lZ]
theorem Inv.lst(I:Inv X kQ Z H s)(h:H p=some (.lst xs)):
  ∃(i:List Value) (n:Nat),Vals xs i/\s.heap.get? p=some {cls:=.type "list",data:=.seq i.toArray n}/\xs.length<=aQ:=by
 obtain⟨z,i,n,r,e⟩:=I.hok p _ h;exact⟨_,n,r,e,z⟩
def Inv.lstUpd{k:bZ}{Z:St}{H:au}{s:ax}{p:Addr}{xs ys:List V}{i its':List Value}{n a:Nat}{f:Obj->Obj}(I:Inv X k Z H s)(h:H p=some (.lst xs))
  (o:s.heap.get? p=some {cls:=.type "list",data:=.seq i.toArray n})(c:f {cls:=.type "list",data:=.seq i.toArray n}={cls:=.type "list",data:=.seq its'.toArray a})(r:Vals ys its')(hz:ys.length<=aQ)(t:Nat):
  Inv X k Z (bt H p (.lst ys)) {s with heap:=s.heap.update p f,toks:=t}:=by
 have e:(s.heap.update p f).get? p=some {cls:=.type "list",data:=.seq its'.toArray a}:=by
  rw[wN f o (by rw[c]<;>rfl),c]
 refine I.write (by rw[h];trivial) (.inl rfl) (λ b u d q=>(KB _ _ (ir d)).trans q) ⟨_,e⟩ ?_;exact⟨hz,_,a,r,e⟩
def L0:V->V->V->au->(au->Prop)->Prop:=λ o i v H Q=>∃p xs k j,o= .ref p/\i= .int k/\H p=some (.lst xs)/\hh xs.length k=some j/\Q (bt H p (.lst (xs.set j v)))
def set_list:Lp X L0:=by
 intro A s Z H o i v B C u Q I w x y h;obtain⟨p,xs,k,j,rfl,rfl,ah,z,q⟩:=h;cases w;obtain⟨t,rfl⟩:=x;obtain⟨a,n,r,b,hz⟩:=I.lst ah;obtain⟨c,D,e,f⟩:=EN z;have l:=r.length;have E:=rS;have g:=
  I.lstUpd ah b (S3 a n j u) (r.set y j) (by rw[kU];exact hz) s.toks
 by_cases m:0<=k
 .have d:k.toNat=j:=by
   rw[Ak m f]at c;exact i7 c
  exact PySem.W.ki_setAt b m (by lia) (by rw[et,<-l];exact f) (by rw[d];exact⟨_,g,q⟩)
 .have d:(k+(a.toArray.size:Int)).toNat=j:=by
   rw[Ah (by lia) e]at c;simp_all
  exact PySem.W.ki_setBack b (by lia) (by rw[et,<-l];exact e) (by lia) (by rw[d];exact⟨_,g,q⟩)
def S4(l a:Option Int)(n:Nat):(wC l a none n).1=((HT.sIx n 0 l:Nat):Int)/\(wC l a none n).2.1=((HT.sIx n n a:Nat):Int)/\(wC l a none n).2.2=1:=by
 refine⟨?_,?_,rfl⟩
 .cases l with
  |none=>rfl
  |some i=>
   simp only[wC,HT.sIx,JN,show(1:Int)>0 by decide,if_true];by_cases h:i<0
   .simp only[h,if_true]<;>lia
   .simp only[h,if_false]<;>lia
 .cases a with
  |none=>rfl
  |some i=>
   simp only[wC,HT.sIx,JN,show(1:Int)>0 by decide,if_true];by_cases h:i<0
   .simp only[h,if_true]<;>lia
   .simp only[h,if_false]<;>lia
def S5(i:List Value)(l h:Option Int):slicePick i.toArray l h none=((i.drop (HT.sIx i.length 0 l)).take (HT.sIx i.length i.length h-HT.sIx i.length 0 l)).toArray:=by
 obtain⟨a,b,c⟩:=S4 l h _;unfold slicePick;rw[a,b,c];simp only[sliceRange_one,pick_run]<;>rfl
def L1(K:aB):V->Option Int->Option Int->au->bC->Prop:=λ x l h H Q=>∃a xs,x= .ref a/\cu K H a xs/\∀p,H p=none->Q (.ref p) (bt H p (.lst (nS xs l h)))
def S6:qz X (L1 X.K):=by
 intro g s Z H x v j u l i sl Q I c d pl p h;obtain⟨a,xs,rfl,e,q⟩:=h;cases c;obtain⟨f,r,t,hz⟩:=I.list e;have k:=r.length;refine⟨"list",_,J8.lookup,t.isList.typeIs,?_⟩;refine wpAny_getItem_list_slice t.isList d pl p .none (by simp) ?_ (by simp_all);rw[S5,<-k];refine⟨.ref s.heap.objs.size,_,I.laid (t':=s.toks) (λ b ob q=>bM _ q) (bJ _) ?_,rfl,q _ (I.hok.fresh (bJ _))⟩;exact⟨fD (LV xs l i) hz,_,0,(r.drop _).take _,dy _ rfl⟩
def L3:fM X (.builtin "len") (λ xs H Q=>∃p ys,xs=[.ref p]/\(cu X.K H p ys\/bQ X.K H p ys)/\Q (.int ys.length) H):=by
 intro c s Z H xs d Q I r h;obtain⟨p,ys,rfl,a,q⟩:=h;obtain⟨u,rfl,x⟩:=vals1 r;cases x;have n:=rS;rcases a with a|a
 .obtain⟨i,b,pl,hz⟩:=I.list a
  have k:=b.length;exact Calls.call_len_list pl.isList (by simp only[et]<;>lia) ⟨.int _,H,I.tok _,⟨_,by rw[et,k]⟩,q⟩
 .obtain⟨i,b,pl,hz⟩:=I.tuple a
  have k:=b.length;exact len_tuple pl (by simp only[et]<;>lia) ⟨.int _,H,I.tok _,⟨_,by rw[et,k]⟩,q⟩
def fM.or(h:fM X f r)(h':fM X f r'):fM X f (λ xs H Q=>r xs H Q\/r' xs H Q):=by
 intro k s Z H xs u Q I a q;rcases q with q|q
 .exact h _ s Z H xs u Q I a q
 .exact h' _ s Z H xs u Q I a q
def S7:fM X (.type "list") (λ xs H Q=>∃p ys,xs=[.ref p]/\(cu X.K H p ys\/bQ X.K H p ys)/\∀l,H l=none->Q (.ref l) (bt H l (.lst ys))):=by
 intro v s Z H xs y Q I r h;obtain⟨p,ys,rfl,d,q⟩:=h;obtain⟨u,rfl,x⟩:=vals1 r;cases x;have f:∀(i:List Value),Vals ys i->ys.length<=aQ->∀(h':Heap) (c:Nat),(∀b t,s.heap.get? b=some t->h'.get? b=some t)->
   h'.get? s.heap.objs.size=some _->hO X v Z Q (.ref s.heap.objs.size) {s with heap:=h'}:=λ i a hz h' c k e=>
  ⟨.ref s.heap.objs.size,_,I.laid (t':=s.toks) k (bJ _) (show fY X.prog X.w _ h' _ (.lst ys)from⟨hz,i,c,a,e⟩),rfl,q _ (I.hok.fresh (bJ _))⟩
 rcases d with d|d
 .obtain⟨i,a,pl,hz⟩:=I.list d
  have w:=a.length;obtain⟨o,g,j,n,m⟩:=pl.isList;exact call_list_seq p (.inl rfl) g j m (λ h' c k e=>f i a hz h' c k e) (by simp_all)
 .obtain⟨i,a,pl,hz⟩:=I.tuple d
  have w:=a.length;obtain⟨o,g,j,n,m⟩:=pl;exact call_list_seq p (.inr rfl) g j m (λ h' c k e=>f i a hz h' c k e) (by simp_all)
def S8:fM X (.type "tuple") (λ xs H Q=>∃p ys,xs=[.ref p]/\((cu X.K H p ys/\∀l,H l=none->Q (.ref l) (bt H l (.tup ys)))\/(bQ X.K H p ys/\Q (.ref p) H))):=by
 intro g s Z H xs j Q I r h;obtain⟨p,ys,rfl,h⟩:=h;obtain⟨u,rfl,x⟩:=vals1 r;cases x;rcases h with ⟨a,q⟩|⟨a,q⟩
 .obtain⟨i,c,pl,hz⟩:=I.list a
  have m:=c.length;refine call_tuple_list pl.isList (λ h' k=>?_) (by simp_all);have d:=I.kept (t':=s.toks) k;have f:=
   d.laid (t':=s.toks) (λ b o e=>bM _ e) (bJ _) (show fY X.prog X.w _ _ _ (.tup ys)from⟨⟨hz,NoD.push _⟩,i,c,z8 _ _⟩)
  exact⟨.ref _,_,f,rfl,q _ (d.hok.fresh (bJ _))⟩
 .obtain⟨i,c,pl,hz⟩:=I.tuple a
  exact call_tuple_same pl ⟨.ref p,H,I,rfl,q⟩
def ET(K:aB)(T:String)(x:V)(H:au):Prop:=match x with
 | .str _=>T="str"
 | .int _=>T="int"
 | .ref p=>(T="list"/\∃xs,cu K H p xs)\/(T="tuple"/\∃o,K.lookup p=some o/\o.cls= .type "tuple"/\o.dict=none)\/
   (T="dict"/\((∃k,H p=some (.dK k))\/∃k,H p=some (.dT k)))\/(T="set"/\∃S n,H p=some (.set S n))
 |_=>False
def L4(I:Inv X kQ Z H s)(r:RelV x v)(ty:ET X.K T x H):
  s.TypeIs v T/\∀a,v= .ref a->∃ob,s.heap.get? a=some ob/\ob.dict=none:=by
 cases x with
 |str z=>
  obtain⟨t,rfl⟩:=r;cases (show T="str" from ty);exact⟨typeIs_str s z t,λ _ e=>nomatch e⟩
 |int i=>
  obtain⟨t,rfl⟩:=r;cases (ty);exact⟨D3 s i t,λ _ e=>nomatch e⟩
 |ref p=>
  cases r;rcases ty with ⟨rfl,xs,q⟩|⟨rfl,o,h,g,d⟩|⟨rfl,h⟩|⟨rfl,S,n,h⟩
  .obtain⟨j,_,pl,_⟩:=I.list q
   refine⟨pl.isList.typeIs,λ a e=>?_⟩;cases e;obtain⟨o,n,e,c,d,_⟩:=pl;exact⟨o,e,d⟩
  .refine⟨⟨o,I.kIn p o h,g⟩,λ a e=>?_⟩
   cases e;exact⟨o,I.kIn _ o h,d⟩
  .have z:∃o,s.heap.get? p=some o/\o.ExactDict:=by
    rcases h with ⟨k,h⟩|⟨k,h⟩
    .obtain⟨_,_,_,_,o,_,_,e,b,_⟩:=I.hok p _ h
     exact⟨o,e,b⟩
    .obtain⟨_,_,_,_,o,_,_,e,b,_⟩:=I.hok p _ h
     exact⟨o,e,b⟩
   obtain⟨o,e,b⟩:=z;refine⟨⟨o,e,b.1⟩,λ a f=>?_⟩;cases f;exact⟨o,e,b.2.1⟩
  .obtain⟨o,_,_,_,e,b,_⟩:=I.hok p _ h
   refine⟨⟨o,e,b.1⟩,λ a f=>?_⟩;cases f;exact⟨o,e,b.2.1⟩
 |_=>exact aV ty
def EU(K:aB)(T:String)(r:V->List V->au->bC->Prop)(t:bw):bw:=λ Z H Q=>t Z H λ x a=>ET K T x a/\r x [] a Q
def ux(K:aB)(T:String)(r:V->List V->au->bC->Prop)(o:bw)(t:fZ):bw:=λ Z H Q=>o Z H λ x a=>ET K T x a/\t Z a λ xs b=>r x xs b Q
variable{o e:Expr}{es:List Expr}{d:bw}{t:fZ}{name:Str}{p c:Pos}{T i:String}{r:V->List V->au->bC->Prop}
def S9(f:PlainAttrs T)(t:Slot T name i)(y:typeOf (.builtin i)=pure (.type "method_descriptor"))(m:EP X i r)(g:bq X o d)
  (b:lT o name X.env (eval o X.env)=eval o X.env:=by rfl)(l:(p.endLine==c.line)=true:=by rfl):bq X (.Call (.Attribute o name p) [] [] c) (EU X.K T r d):=by
 intro w s Z H Q I h;refine Dw b l (aX (g _ s Z H _ I h) λ v j ⟨x,k,a,e,ty,q⟩=>?_);obtain⟨n,u⟩:=L4 a e ty;exact⟨T,i,f,t,y,n,u,Au rfl (Dx (m _ j Z k x [] v [] Q a e .nil q))⟩
def xl(m:PlainAttrs T)(a:Slot T name i)(y:typeOf (.builtin i)=pure (.type "method_descriptor"))(q:EP X i r)(u:bq X o d)(w:iM X (e::es) t)
  (b:lT o name X.env (eval o X.env)=eval o X.env:=by rfl)
  (f:((fW c (bf (e::es) X.env)).all (λ x=>!x.1)&&(ql c (qh [] X.env)).all (λ x=>x.1.isSome)
   &&decide ((e::es).length+([]:List iK).length+(if ([]:List iK).isEmpty then 0 else 1)<30))=true:=by rfl)
  (l:(p.endLine==c.line)=true:=by rfl)(z:bf (e::es) X.env=(false,eval e X.env)::bf es X.env:=by rfl)(n:(fW c (bf es X.env)).any (·.1)=false:=by rfl):
  bq X (.Call (.Attribute o name p) (e::es) [] c) (ux X.K T r d t):=by
 intro k s Z H Q I h;refine wpAny_Call_method_late b f l rfl (aX (u k s Z H _ I h) λ v B ⟨x,C,g,j,ty,D⟩=>?_);obtain⟨E,F⟩:=L4 g j ty;refine⟨T,i,m,a,y,E,F,?_⟩;have A:=w c k B Z C _ g D;rw[z]at A ⊢;refine Au (by assumption) (Kh ?_);exact aX A λ G s2 ⟨vs,J,K,L,M⟩=>q _ s2 Z J x vs v G Q K j L M
end
def xo(X:aZ)(i:String)(r:V->List V->au->bC->Prop):Prop:=
 ∀(k:bZ) (s:ax) (Z:St) (H:au) (x:V) (xs:List V) (v:Value) (u:List Value) (Q:bC),Inv X k Z H s->RelV x v->Vals xs u->r x xs H Q->
  wpAny (model X.prog X.w) X.A (call (.builtin i) (v::u)) (hO X k Z Q) X.xe s
def Vals.one:∀{x:V} {s:List Value},Vals [x] s->∃u,s=[u]/\RelV x u
 |_,_,.cons r .nil=>⟨_,rfl,r⟩
theorem Vals.eraseIdx:∀{xs:List V} {u:List Value} (i:Nat),Vals xs u->Vals (xs.eraseIdx i) (u.eraseIdx i)
 |_,_,_,.nil=>.nil
 |_,_,0,.cons _ t=>t
 |_,_,i+1,.cons r t=>.cons r (Vals.eraseIdx i t)
theorem Vals.reverse(h:Vals xs us):Vals xs.reverse us.reverse:=by
 induction h with
 |nil=>exact .nil
 |cons r t i=>rw[wd,wd];exact Vals.append i (.cons r .nil)
theorem Vals.rep(h:Vals xs us):∀k:Nat,Vals (cG k xs).flatten (cG k us).flatten
 |0=>.nil
 |k+1=>Vals.append h (Vals.rep h k)
theorem foldl_rep(i:List Value):∀(k:Nat) (acc:List Value),
  List.foldl (λ x a=>x++a) acc.toArray (cG k i.toArray)=(acc++(cG k i).flatten).toArray
 |0,acc=>by simp
 |k+1,acc=>by
  have e:acc.toArray++i.toArray=(acc++i).toArray:=by simp
  have b:(acc++i)++(cG k i).flatten=acc++(cG (k+1) i).flatten:=by
   rw[Jj,oK,iG]
  rw[<-b,<-foldl_rep _ k _,<-e,Jj,mD]
section
variable{X:aZ}{k:bZ}{Z:St}{H:au}{s:ax}{l:Addr}{xs ys:List V}
def Inv.lset{i its':List Value}{n:Nat}{f:Array Value->Array Value}{t':Nat}(I:Inv X k Z H s)(h:H l=some (.lst xs))
  (e:s.heap.get? l=some {cls:=.type "list",data:=.seq i.toArray n})(a:f i.toArray=its'.toArray)(v:Vals ys its')(hz:ys.length<=aQ):
  Inv X k Z (bt H l (.lst ys)) {s with heap:=s.heap.update l (lZ f),toks:=t'}:=by
 have q:=PySem.IsL.update e f;rw[a]at q;refine I.write (by rw[h];exact trivial) (.inl rfl) (λ d u b c=>(KB _ _ (ir b)).trans c) ⟨_,q⟩ ?_;exact⟨hz,_,_,v,q⟩
def Inv.lnew(I:Inv X k Z H s)(h:Vals ys its)(hz:ys.length<=aQ):
  Inv X k Z (bt H s.heap.objs.size (.lst ys)) {s with heap:=s.heap.push {cls:=.type "list",data:=.seq its.toArray},toks:=t'}:=
 I.laid (λ _ _ q=>bM _ q) (bJ _) ⟨hz,_,0,h,dy _ rfl⟩
theorem Inv.fresh(I:Inv X k Z H s):H s.heap.objs.size=none:=I.hok.fresh (bJ _)
def Inv.lstM(I:Inv X k Z H s)(h:H l=some (.lst xs)):xs.length<=aQ/\∃(i:List Value) (n:Nat),Vals xs i/\xs.length=i.length/\s.heap.get? l=some {cls:=.type "list",data:=.seq i.toArray n}:=by
 obtain⟨z,i,n,r,e⟩:=I.hok l _ h;exact⟨z,_,n,r,r.length,e⟩
def L5(h:n<=aQ):Aq n=false:=decide_eq_false (by lia)
end
section
variable{X:aZ}
def Ta:V->List V->au->bC->Prop:=λ x vs H Q=>∃l xs y,x= .ref l/\vs=[y]/\H l=some (.lst xs)/\xs.length<aQ/\Q .non (bt H l (.lst (xs++[y])))
def EV:xo X "list.append" Ta:=by
 intro k s Z H x vs v f Q I b c h;obtain⟨l,xs,y,rfl,rfl,a,hz,q⟩:=h;cases b;obtain⟨u,rfl,d⟩:=c.one;obtain⟨z,i,n,r,g,e⟩:=I.lstM a;refine rJ Ee ⟨_,e,rfl⟩ F.entry_list_append (F.args_list_append_2 _ _) (PySem.list_append l _ n u (by simp_all)) ⟨e,?_⟩;refine⟨.non,_,I.lset a e (by simp) (r.append (.cons d .nil)) ?_,rfl,q⟩;rw[eJ,Jb];lia
def Tb:bA:=λ x y H Q=>∃l b xs z,x= .ref l/\y= .ref b/\H l=some (.lst xs)/\H b=some (.lst z)/\xs.length+z.length<=aQ/\∀p,H p=none->Q (.ref p) (bt H p (.lst (xs++z)))
def Tc:bT X (iJ .Add) Tb:=by
 intro m s Z H x y v u Q I a c h;obtain⟨l,b,xs,o,rfl,rfl,d,B,hz,q⟩:=h;cases a;cases c;obtain⟨z,t,n,r,p,e⟩:=I.lstM d;obtain⟨w,i,A,f,g,j⟩:=I.lstM B;refine PySem.P.add_list e j ?_ (by simp_all);have k:t.toArray++i.toArray=(t++i).toArray:=by simp
 rw[k];exact⟨.ref _,_,I.lnew (r.append f) (by rw[eJ];lia),rfl,q _ I.fresh⟩
def L6:bA:=λ x y H Q=>∃l k xs,x= .ref l/\y= .int k/\H l=some (.lst xs)/\-(2^63)<=k/\k<2^63/\xs.length*k.toNat<=aQ/\
 ∀p,H p=none->Q (.ref p) (bt H p (.lst (cG k.toNat xs).flatten))
def len_rep(xs:List α)(k:Nat):(cG k xs).flatten.length=k*xs.length:=by simp_all
def Td:bT X (iJ .Mult) L6:=by
 intro E s Z H x y v u Q I b d h;obtain⟨l,k,xs,rfl,rfl,g,j,o,hz,q⟩:=h;cases b;obtain⟨t,rfl⟩:=d;obtain⟨z,i,n,r,p,e⟩:=I.lstM g;have A:i.toArray.size*k.toNat<=aQ:=by rw[et,<-p];exact hz
 have c:¬i.toArray.size*k.toNat>(2^63-1) / 8:=by
  have:(aQ:Nat)<=(2^63-1) / 8:=by decide
  lia
 have f:¬(!D5 k)=true:=by
  rw[fitsIndex_both j o];exact gh
 have S:¬Aq (i.toArray.size*k.toNat)=true:=by
  rw[L5 A];exact gh
 have w:List.foldl (λ B C=>B++C) #[] (cG (if i.toArray.isEmpty=true then 0 else k.toNat) i.toArray)=(cG k.toNat i).flatten.toArray:=by
  have D:=λ m=>by
   have:=foldl_rep i m []
   rw[rB]at this;exact this
  rw[D];cases i with
  |nil=>simp
  |cons a G=>rw[if_neg (by simp)]
 refine wpAny_binaryOp_repeat_ref (T:="list") (U:="int") (by decide) ⟨_,e,rfl⟩ (λ s'=>D3 s' k t) noFill_list_mul F.fills_int_mul KA repeat_list F.slot_int_index.lookup
  (rJ KA (D3 s k t) F.entry_int_rmul (F.args_int_rmul_2 _ _) (int___rmul___int_list k t l i.toArray n)
   ⟨e,rfl,⟨_,e,rfl⟩,rJ F.slot_list_mul ⟨_,e,rfl⟩ F.entry_list_mul (F.args_list_mul_2 _ _) (AutoListH.list___mul___list_int_3 l i.toArray n k t f c S) ⟨e,?_⟩⟩)
 rw[w];exact⟨.ref _,_,I.lnew (t':=s.toks) (r.rep k.toNat) (by rw[len_rep,Nat.mul_comm];exact hz),rfl,q _ I.fresh⟩
end
end L2
namespace Att
open PySem PySem.W PySem.Calls PyProof.Rows
def Te:∀(ns:List Int) (vs:List Value),WellAll P h vs (ns.map WData.int)->dO vs ns:=by
 intro ns;induction ns with
 |nil=>
  intro vs w;cases w;exact .nil
 |cons n ns i=>
  intro vs w;cases w with
  |cons a b=>
   cases a;exact .cons _ _ (i _ b)
def Tf{l:OpenLaw}{n:Nat}(e:l.most=some n){P:Params}{h:Heap}{args:List WData}{vals:List Value}
  (p:l.row.toRowW.claim.pre args=true)(w:WellAll P h vals args):
  ∃a vs ns,vals=[fX a]/\args=[WData.list (ns.map WData.int)]/\h.get? a=some {cls:=.type "list",data:=.seq vs.toArray}/\dO vs ns/\ns.length<=n:=by
 have uy:WShape.hasAll [] args [.list .int]=true:=(pre_splitW p).1;have c:l.pre.holds [] {args:=args}=true:=(pre_splitW p).2;obtain⟨d,r,rfl,f,g⟩:=hasAllW_cons uy;obtain rfl:=hasAllW_nil g;obtain⟨xs,rfl,i⟩:=hasW_list f;obtain⟨ns,rfl⟩:=items_int i;have k:ns.length<=n:=by
  unfold OpenLaw.pre at c;have b:=by
   have b:=(holds_andW c).1;rw[e]at b;exact b
  have q:=condW_of b (w_not (w_lt w_lit (w_len_list (w_arg rfl))));simp_all
 cases w with
 |cons j m=>
  cases m;cases j with
  |list o K=>exact⟨_,_,ns,rfl,rfl,o,Te ns _ K,k⟩
def Tg(l:OpenLaw)(a:List WData):l.row.toRowW.claim.post a (.bool true) a=true:=
 postW_of
  (show WShape.has [] _ _=true by rfl)
  (w_eq_bool (w_res rfl) w_lit) rfl
def aFs{l:OpenLaw}{n:Nat}{q:bD}{s:List Str}{X:(Str->Option Value)->Heap->Prop}{P:World->Heap->Prop}{d:DefRec}
  (x:l.most=some n)(g:d.params.defaults=[])
  (call:∀(w:World) (S z:ax) (mg m:Str->Option Value) (b:Addr) (o:Obj) (i e c:Value) (a:Addr) (vs:List Value) (ns:List Int),
   Ground q s [] X w S mg m z.heap->P w z.heap->
   z.heap.get? b=some o->o.data= .func (docDef d.name d.params d.body d.scope i e c)->z.heap.CodeRec e d.name->mg d.name=some (.ref b)->
   z.heap.get? a=some {cls:=.type "list",data:=.seq vs.toArray}->dO vs ns->ns.length<=n->z.gens=#[]->
   fV (model l.prog w) oS (.call (.ref b) ⟨[.ref a],[]⟩) (λ r s'=>r= .ok (.ret (.bool true))/\OldK z.heap s'.heap/\s'.os=z.os/\nI s'.gens) z):
  WalkO q s X P l.row.toRowW d [] (λ f vs=>DT f vs):=by
 intro w S z mg m G Y b o i e c V eu A B k D t C v vals N p y E u F;obtain rfl:V= .none:=Dflts.none D g;obtain rfl:eu= .none:=Dflts.noKw D;obtain⟨a,vs,ns,rfl,rfl,j,h,H⟩:=Tf x p u;refine enter_call (rH (call w S z mg m b o i e c a vs ns G Y A (fd_plain B) k t j h H C) λ r s' I=>?_);obtain⟨rfl,J,K,L⟩:=I;exact⟨.inl ⟨_,.bool true,[],rfl,λ _=>rfl,.bool true,Tg l _,λ _=>⟨JG,λ _ M=>(nomatch M)⟩⟩,J,K,L⟩
section
variable{prog:bD}{w:World}{A:cg}{E:Value->ax->Prop}{s:ax}{K:Frag}
def make_obj(X:K.In s.heap)(m:makesIn K C=true)(i:findIn K (.ref C) "__init__"=some (some (.ref fI)))(f:isFn K (.ref fI)=true)
  (h:fV (model prog w) (A.under (.builtin "type.__call__" ⟨.ref C::rest,kw⟩)) (.call (.ref fI) ⟨.ref (s.heap.objs.size+1)::rest,kw⟩) (InitBack (s.heap.objs.size+1) R)
   {s with heap:=(s.heap.push emptyDict).push (instObj C s.heap.objs.size)}):fV (model prog w) A (.call (.ref C) ⟨rest,kw⟩) R s:=make_core (makes_of X m) (looks_findIn X i) (λ e=>bind_fn X _ (beq_iff_eq.mp f)) (.inl rfl) h
def get_field(X:K.In s.heap)(I:K6 s.heap x ox C (some (dictOf es n)))(g:plainGet K C name=true)(a:hasDictIn K C=true)(b:findIn K (.ref C) name=some none)
  (l:getL name es=some (some v))(c:handedIn v=true)(h:Q v {s with toks:=s.toks+1}):wpAny (model prog w) A (getAttr (.ref x) name expr) Q E s:=
 get_value X I (plainGet_of g).1 (findObj_own a b rfl l) c h
def ledger(h:Heap)(L d:Addr):bZ:=(dY h.objs.size).filterMap λ a=>if a=L\/a=d then none else(h.get? a).map λ o=>(a,o)
end
end Att
namespace L2
open PySem PySem.Spec PyProof.Rows
theorem L7:∀{vs:List Value} {ns:List Int},dO vs ns->Vals (ns.map V.int) vs
 |_,_,.nil=>.nil
 |_,_,.cons n t h=>.cons ⟨t,rfl⟩ (L7 h)
def Only(H:au):Prop:=∀b,H b=none\/∃o xs,H b=some (.frz o (.lst xs))
def Th{P:bD}{w:World}{K:aB}{mg I:Str->Option Value}{CX:l6}{k:Nat}{J a:Addr}{R:bO}{x:Str}{sp:lq}{C:ax}{vs:List Value}{ns:List Int}
  (S:K.In C.heap)(l:C.heap.Ns dv mg)(c:C.heap.Ns D1 I)(L:∀x:Str,x≠"__name__"->I x=gx x)(p:C.heap.NoLimit)(hg:C.gens=#[])
  (G:C.heap.get? a=some {cls:=.type "list",data:=.seq vs.toArray})(T:dO vs ns)(U:ns.length<=aQ)(hr:gS k oS)
  (F:∀base:Heap,K.In base->base.Ns dv mg->gb P w K mg base CX k J R [x] sp)(j:∀(s:ax) (u:Value),qm s R ⟨[u],[]⟩ [(x,u)])
  (M:∀H:au,Only H->cu K H a (ns.map V.int)->sp [.ref a] H (λ v _=>v= .bl true) λ _ _ _=>False)
  (X:∀H e s',CX [] H C (λ _ _ _=>False) e s'->False):
  fV (model P w) oS (.call (.ref J) ⟨[.ref a],[]⟩) (λ r s'=>r= .ok (.ret (.bool true))/\OldK C.heap s'.heap/\s'.os=C.os/\nI s'.gens) C:=by
 have W:=L7 T;have t:=T.length;have i:∀H:au,Only H->cu K H a (ns.map V.int)->eL P w H C.heap->(∀b,H b≠none->b=a)->(H a≠none->K.lookup a=none)->
   fV (model P w) oS (.call (.ref J) ⟨[.ref a],[]⟩) (λ r s'=>r= .ok (.ret (.bool true))/\OldK C.heap s'.heap/\s'.os=C.os/\nI s'.gens) C:=by
  intro H Y hS y Z hK;have f:∀{b:Addr} {o:Obj},C.heap.get? b=some o->H b=none->(o1 C.heap H).get? b=some o:=λ e n=>Rg e n
  have N:∀{b:Addr} {o:Obj} {es:Array ud} {ep:Nat},C.heap.get? b=some o->o.data= .dict es ep->H b=none:=λ{b o es ep} e d=>by
   cases q:H b with
   |none=>rfl
   |some u=>
    have O:b=a:=Z b (by rw[q];simp);subst O;rw[G]at e;cases e;have d':Data.seq vs.toArray _=Data.dict es ep:=d;cases d'
  have g:∀{b:Addr} {m:Str->Option Value},C.heap.Ns b m->(o1 C.heap H).Ns b m:=λ{b m} ⟨o,es,ep,e,d,r⟩=>⟨o,es,ep,f e (N e d),d,r⟩
  have A:K.In (o1 C.heap H):=λ b o e=>f (S b o e) (by
   cases q:H b with
   |none=>rfl
   |some u=>
    have O:b=a:=Z b (by rw[q];simp);subst O;rw[hK (by rw[q];simp)]at e;cases e)
  have hM:Mod K mg (o1 C.heap H):=⟨A,g l,⟨I,g c,L⟩,let⟨mc,h1,h2⟩:=p;⟨mc,g h1,h2⟩⟩;have e0:xh P w K mg (o1 C.heap H) oS [] C H:=⟨rfl,hM,λ b o e=>Rh e,Dh (Rf _ _),trivial,λ b c=>absurd (show b∈([]:List Addr)from c) (by simp),y,.of_eq hg⟩;refine rH ((F _ A (g l)).run oS [] C H ⟨[.ref a],[]⟩ [.ref a] [.ref a] _ _ hr e0 (j C (.ref a)) (.cons rfl .nil) (M H Y hS)) λ r s' h=>?_
  cases r with
  |error e=>exact(X H e s' h).elim
  |ok fl=>
   cases fl with
   |next=>exact aV h
   |brk=>exact aV h
   |cont=>exact aV h
   |ret u=>
    obtain⟨v,H',os,B,un,D,r',q⟩:=h;have q':v= .bl true:=q;subst q';obtain rfl:u=AB true:=r';refine⟨rfl,OldK.of_keep λ b o e=>?_,os,B⟩;cases q:H b with
    |none=>exact un.keep b o e q (by intro z;exact absurd (show b∈([]:List Addr)from z) (by simp)) (by simp)
    |some u=>
     rcases Y b with z|⟨ob,xs,z⟩
     .rw[q]at z;cases z
     .have z2:=un.frzs b ob _ z
      obtain⟨e1,_⟩:=y b _ z;obtain⟨e2,_⟩:=D b _ z2;rw[e]at e1;cases e1;exact e2
 cases Q:K.lookup a with
 |some o=>
  have e:=S a o Q;rw[G]at e;cases e;refine i (λ _=>none) (λ _=>.inl rfl) (.inr ⟨_,vs.toArray,_,Q,rfl,rfl,rfl,by rw[et,t];exact U,by simpa using W⟩) (λ b u z=>by have E:(none:Option HO)=some u:=z;cases E) (λ b z=>absurd rfl z) λ z=>absurd rfl z
 |none=>
  refine i (λ b=>if b=a then some (.frz {cls:=.type "list",data:=.seq vs.toArray} (.lst (ns.map V.int)))else none) (λ b=>?_) (.inl (.inr ⟨{cls:=.type "list",data:=.seq vs.toArray},if_pos rfl⟩)) (λ b u z=>?_) (λ b z=>?_) λ _=>Q
  .by_cases c:b=a
   .exact .inr ⟨_,_,if_pos c⟩
   .exact .inl (if_neg c)
  .by_cases c:b=a
   .have E:=(if_pos c).symm.trans z
    cases E;subst c;exact⟨G,by rw[bg];exact U,vs,_,W,G⟩
   .have E:=(if_neg c).symm.trans z
    cases E
  .by_cases c:b=a
   .exact c
   .exact absurd (if_neg c) z
def aMd{l:Et}{n k:Nat}{q:bD}{b:List Str}{z:(Str->Option Value)->Heap->Prop}{P:World->Heap->Prop}{d:DefRec}{K:Params->aB}{CX:World->l6}{sp:World->lq}{x:Str}
  (A:l.most=some n)(g:n<=aQ)(m:d.params.defaults=[])(hr:gS k oS)
  (B:∀(w:World) (h:Heap),P w h->(K w.params).In h)
  (F:∀(w:World) (mg:Str->Option Value) (c:Addr) (h:Heap),(K w.params).In h->h.Ns dv mg->mg d.name=some (.ref c)->
   ∃p:bO,(∀(s:ax) (u:Value),qm s p ⟨[u],[]⟩ [(x,u)])/\
    ∀base:Heap,(K w.params).In base->base.Ns dv mg->gb l.prog w (K w.params) mg base (CX w) k c p [x] (sp w))
  (r:∀(w:World) (H:au) (a:Addr) (ns:List Int),ns.length<=n->Only H->cu (K w.params) H a (ns.map V.int)->sp w [.ref a] H (λ v _=>v= .bl true) λ _ _ _=>False)
  (C:∀(w:World) (H:au) (s:ax) (e:Value) (s':ax),CX w [] H s (λ _ _ _=>False) e s'->False):
  K8 q b z P l.row.toRowW d [] (λ f vs=>DT f vs):=by
 refine Att.aFs A m λ w M N mg Q c o R T D a vs ns G Y U W E t j i X I=>?_
 have y:=B w _ Y;obtain⟨p,J,L⟩:=F w mg c _ y G.T.g t;exact Th y G.T.g G.T.b G.T.builtins G.T.nolimit I j i (fD X g) hr L J (λ H O S=>r w H a ns X O S) λ H e s'=>C w H _ e s'
noncomputable def uz(s:Stmt):Dy:=match s with
 | .FunctionDef _ a _ _ _ _ _ _ _ _=>a
 |_=>{posonlyargs:=[],args:=[],vararg:=none,kwonlyargs:=[],kw_defaults:=[],kwarg:=none,defaults:=[]}
def lr(s:Stmt):List Stmt:=match s with
 | .FunctionDef _ _ b _ _ _ _ _ _ _=>b
 |_=>[]
noncomputable def bU(s:Stmt):Scope:=match s with
 | .FunctionDef _ _ _ _ _ _ c _ _ _=>c
 |_=>{kind:=.function,names:=[],isGenerator:=false,isCoroutine:=false}
abbrev Ti:l6:=λ _ _ _ _ _ _=>False
abbrev EW:gj:=λ _ _ _=>False
structure Fun(K:aB)(x qual:Str)(st:Stmt)(f:Addr)(fd:bO):Prop where
 ex:∃(oc:Value) (od:Option Addr) (eu doc pm:Value) (an:Option Addr) (cdv ct:Value) (osl:Array (Option Value)),
  fd=nP x qual (uz st) (lr st) (bU st) .none eu doc pm an cdv ct/\K.lookup f=some ⟨oc,od,.func fd,osl⟩/\w1 K cdv qual=true
 kp:qv K (.ref f)=true
section
variable{K:aB}
def Fun.binds{x q:Str}{st:Stmt}{f:Addr}{b:bO}{ps:List Str}(F:Fun K x q st f b)
  (h:∀(eu d p:Value) (a:Option Addr) (c t:Value) (u:List Value),u.length=ps.length->bindArgs (nP x q (uz st) (lr st) (bU st) .none eu d p a c t) ⟨u,[]⟩=pure (ps.zip u)):Binds K b ps []:=by
 obtain⟨g,i,eu,d,p,a,c,t,o,rfl,l,e⟩:=F.ex;exact .all (h eu _ p a _ t)
def Tj{x q:Str}{st:Stmt}{f:Addr}{b:Value}{e a:Option Addr}{s:Array (Option Value)}{eu o p d t:Value}(l:K.lookup f=some ⟨b,e,.func (nP x q (uz st) (lr st) (bU st) .none eu o p a d t),s⟩)
  (c:w1 K d q=true)(k:qv K (.ref f)=true):Fun K x q st f (nP x q (uz st) (lr st) (bU st) .none eu o p a d t):=⟨⟨b,e,eu,_,p,a,_,t,_,rfl,l,c⟩,k⟩
end
def aU(H H':au):Prop:=∀b o,H b=some o->H' b=some o
def aU.refl(H:au):aU H H:=λ _ _ h=>h
def aU.trans(a:aU H H1)(b:aU H1 H2):aU H H2:=λ c o h=>b c o (a c o h)
def aU.free(e:aU H H')(h:H' l=JP):H l=JP:=by
 cases q:H l with
 |none=>rfl
 |some o=>
  rw[e l o q]at h;lia
end L2
set_option maxHeartbeats 4000000
namespace HT
open PySem PyProof.Rows
noncomputable def lexLe:List Int->List Int->Bool
 |[],_=>true
 |_::_,[]=>false
 |x::xs,y::ys=>if x=y then lexLe xs ys else decide (x<=y)
def Tn(x y:Int)(xs ys:List Int):lexLe (x::xs) (y::ys)=if x=y then lexLe xs ys else decide (x<=y):=rfl
def To(A:cg)(s:ax)(a:Int)(t:Tok)(c:Int)(u:Tok)(prog:bD)(w:World)(E:Value->ax->Prop)(Q:Value->ax->Prop)(h:Q (.bool (decide (a<=c))) s):
  wpAny (model prog w) A (Aj .LtE (.int a t) (.int c u)) Q E s:=
 (PyProof.Rows.le_int h)
section
open PySem.SeqAt
open PySem.AutoSeq1(wpAny_loadPart')
open PySem.MeetsSeq PySem.MeetsSeq2 PySem.MeetsSeq3
def Tp(l b:Addr)(items i:Array Value)(n J:Nat)(dd D:Option Addr)(sl E:Array (Option Value))(ns B:List Int)(G:dO items.toList ns)(H:dO i.toList B):
  Meets (hY.«tuple.__le__» ⟨[.ref l,.ref b],[]⟩)
   (λ _ R s=>s.heap.get? l=some {cls:=.type "tuple",dict:=dd,data:=.seq items n,slots:=sl}/\s.heap.get? b=some {cls:=.type "tuple",dict:=D,data:=.seq i J,slots:=E}/\
    R (.ok (.ret (.bool (lexLe ns B)))) s):=
 .of_wp λ prog w A R s h=>by
  obtain⟨ah,g,d,C,os⟩:=s;obtain⟨K,L,h⟩:=h;have N:=Kb;have O:items.size=ns.length:=by rw[<-G.length];simp
  have P:i.size=B.length:=by rw[<-H.length];simp
  wp_walk using oP K,oP L,wpAny_forIn_list _ (λ rest b s'=>b.1=none/\s'=⟨ah,g,d,C,os⟩/\∃(vs ws:List Value) (f m:List Int),rest=vs.zip ws/\
   dO vs f/\dO ws m/\f.length+i.size=m.length+items.size/\R (.ok (.ret (.bool (lexLe f m)))) ⟨ah,g,d,C,os⟩) _
  case turn=>
   rintro⟨y,x⟩ rest b s' ⟨o,rfl,vs,ws,f,m,hz,v,p,X,j⟩;cases v with
   |nil=>rw[Jr]at hz;cases hz
   |cons a t r=>
    cases p with
    |nil=>rw[Jm]at hz;cases hz
    |cons c u z=>
     rw[qa]at hz;injection hz with hyx aT
     injection hyx with hy hx
     subst hy hx;rw[Tn]at j;simp only[g0]at X;obtain⟨e,M,k⟩:=LP A.in1 ⟨ah,g,d,C,os⟩ a t c u;refine av (M prog w _ _ ?_);cases e with
     |true=>
      rw[if_pos (k.mp rfl)]at j;wp_walk;exact⟨rfl,rfl,_,_,_,_,aT,r,z,by lia,j⟩
     |false=>
      rw[if_neg (λ q=>absurd (k.mpr q) gh)]at j;have F:=To A.in1 ⟨ah,g,d,C,os⟩ a t c u prog w;wp_walk using F;exact⟨_,rfl,by simpa using j⟩
  case fin=>
   rintro⟨Q,S⟩ s' ⟨o,rfl,vs,ws,f,m,hz,v,p,X,j⟩;simp only at o;subst o;have I:lexLe f m=decide (items.size<=i.size):=by
    cases v with
    |nil=>
     simp only[kk]at X;have e:lexLe [] m=true:=by cases m<;>rfl
     rw[e];exact(decide_eq_true (by lia)).symm
    |cons a t I=>
     cases p with
     |nil=>
      simp only[kk,g0]at X;show false=_;exact(decide_eq_false (by lia)).symm
     |cons c u T=>
      rw[qa]at hz;cases hz
   rw[I]at j;wp_walk;exact⟨_,rfl,by simpa[Kf]using j⟩
  case h=>
   exact⟨rfl,rfl,items.toList,i.toList,ns,B,rfl,G,H,by lia,h⟩
end
section
variable{prog:bD}{w:World}{A:cg}{E:Value->ax->Prop}{s:ax}
def aGm(g:IsTup s.heap l items)(i:IsTup s.heap b items2)(j:dO items.toList ns)(k:dO items2.toList ms)
  (u:A.units<cLine)(h:Q (.bool (lexLe ns ms)) s):wpAny (model prog w) A (dP .LtE (.ref l) (.ref b)) Q E s:=by
 obtain⟨⟨m,dd,t,sl⟩,e,p,n,q⟩:=id g;obtain⟨⟨f,r,d,v⟩,o,c,y,a⟩:=id i;subst p q c a;exact JX (op:=.LtE) ⟨_,e,rfl⟩ ⟨_,o,rfl⟩ PySem.F.slot_tuple_le PySem.F.entry_tuple_le (PySem.F.args_tuple_le_2 _ _) (Tp l b _ _ n y dd _ sl _ ns ms j k)
  ⟨e,o,⟨(λ x=>nomatch x),h⟩⟩ u
def aMT{ws:List Value}(f:IsTup s.heap t #[])(g:IsTup s.heap b ws.toArray)(i:Q (.ref b) s):wpAny (model prog w) A (iJ .Add (.ref t) (.ref b)) Q E s:=by
 obtain⟨⟨j,dd,e,sl⟩,o,k,n,m⟩:=id f;obtain⟨⟨l,p,d,q⟩,h,c,r,a⟩:=id g;subst k m c a;exact DZ ⟨_,o,rfl⟩ ⟨_,h,rfl⟩ DH DV Ed Ea (D9 _ _)
   (tuple_addW0 t b _ _ n r dd _ sl _ (by simp)) ⟨o,h,i⟩
def xn{l i:Option Int}(a:IsTup s.heap t items)(b:s.heap.IsSliceOf sl vl vu .none)(pl:nL vl l)(p:nL vu i)
  (d:sIx items.size 0 l=0)(e:sIx items.size items.size i=items.size)
  (h:Q (.ref t) s):wpAny (model prog w) A (k8 (.ref t) (.ref sl)) Q E s:=by
 obtain⟨os,o,c,f⟩:=id b;have T:s.TypeIs (.ref sl) "slice":=⟨os,o,c⟩;obtain⟨m,g,j,k⟩:=id a;unfold k8
 try with_reducible refine jt ?_
 first|refine av (aL ?_)|skip
 refine av (DF a.typeIs (by decide) ?_);refine av (nJ (name:=nO "__getitem__") a.typeIs qf
  (jU qf a.typeIs Dl ?_ (Dm _ _)))
 show wpAny _ _ (D8 (.ref t)>>=_) _ _ s;refine av (Do a ?_);refine av (rI T ?_);rw[if_pos (by decide)];refine av (LS b pl p ?_);have y:(((sIx items.size 0 l:Nat):Int)==0&&(1:Int)==1&&(sIx items.size items.size i-sIx items.size 0 l)==items.size)=true:=by
  rw[d,e];simp
 show wpAny _ _ (if (((sIx items.size 0 l:Nat):Int)==0&&(1:Int)==1&&(sIx items.size items.size i-sIx items.size 0 l)==items.size)=true then _ else _) _ _ s;rw[if_pos y];unfold QZ;refine av (av (rI a.typeIs (aL ?_)));rw[if_pos (by decide)];exact av (qk (aL ⟨_,rfl,aL h⟩))
def Tq(n:Nat):Ar none none (-1) (n:Int)=((n:Int)-1,-1):=by rfl
def Tr(n:Nat):rK ((n:Int)-1) (-1) (-1)=n:=by
 unfold rK;rw[if_neg (by decide)];by_cases h:n=0
 .subst h;rfl
 .rw[if_pos (by lia)]
  simp_all
def Ts(xs:Array Value):((dY xs.size).filterMap λ(m:Nat)=>xs[(((xs.size:Int)-1)+(m:Int)*(-1)).toNat]?)=xs.toList.reverse:=by
 apply Jo;intro i;have k:∀n,n<=xs.size->((dY n).filterMap λ(m:Nat)=>xs[(((xs.size:Int)-1)+(m:Int)*(-1)).toNat]?)=xs.toList.reverse.take n:=by
  intro n;induction n with
  |zero=>intro _;simp
  |succ n a=>
   intro c;rw[Dd,List.filterMap_append,a (by lia),Jq];congr 1;have e:(((xs.size:Int)-1)+(n:Int)*(-1)).toNat=xs.size-1-n:=by lia
   simp only[pZ,List.filterMap_nil,e];rw[List.getElem?_reverse (by rw[gZ];lia)];have b:xs.toList.length-1-n=xs.size-1-n:=by simp
   rw[b,rq];have h:xs.size-1-n<xs.size:=by lia
   rw[ro h];rfl
 rw[k xs.size (bJ _),Ja (by simp)]
def Tt{n:Nat}(a:s.heap.IsSliceOf sl .none .none (.int (-1) u))
  (h:Q ((n:Int)-1,-1,n) s):wpAny (model prog w) A (D7 (.ref sl) (pure (n:Int))) Q E s:=by
 obtain⟨os,o,c,d⟩:=id a;unfold D7 QW;refine av (av (lW o d (x:=.none) rfl (av (lW o d (x:=.none) rfl (av (lW o d (x:=.int (-1) u) rfl (aL ?_)))))));refine av (slicePart_int ?_);show wpAny _ _ (if ((-1:Int)==0)=true then _ else _) _ _ s;rw[if_neg (by decide)];refine av (z6 (av (z6 (av (aL ?_)))));show wpAny _ _ (match Ar none none (-1) (n:Int)with|(l,i)=>pure (l,(-1:Int),rK l i (-1))) _ _ s;rw[Tq n];show wpAny _ _ (pure ((n:Int)-1,(-1:Int),rK ((n:Int)-1) (-1) (-1))) _ _ s;rw[Tr];exact aL h
def xg(a:IsTup s.heap t items)(b:s.heap.IsSliceOf sl .none .none (.int (-1) u))
  (h:Q (.ref s.heap.objs.size) {s with heap:=s.heap.push {cls:=.type "tuple",data:=.seq items.toList.reverse.toArray}})
  (hsz:items.size<=aQ):wpAny (model prog w) A (k8 (.ref t) (.ref sl)) Q E s:=by
 have S:sizeOk (.seq items.toList.reverse.toArray):=by
  show items.toList.reverse.toArray.size<=aQ;rw[et,Jh,gZ];lia
 obtain⟨os,o,c,d⟩:=id b;have T:s.TypeIs (.ref sl) "slice":=⟨os,o,c⟩;unfold k8
 try with_reducible refine jt ?_
 first|refine av (aL ?_)|skip
 refine av (DF a.typeIs (by decide) ?_);refine av (nJ (name:=nO "__getitem__") a.typeIs qf
  (jU qf a.typeIs Dl ?_ (Dm _ _)))
 show wpAny _ _ (D8 (.ref t)>>=_) _ _ s;refine av (Do a ?_);refine av (rI T ?_);rw[if_pos (by decide)];refine av (Tt b ?_);show wpAny _ _ (if (((items.size:Int)-1==0&&(-1:Int)==1&&items.size==items.size))=true then _ else _) _ _ s;rw[if_neg (by simp)];rw[show((dY items.size).filterMap λ(k:Nat)=>items[(((items.size:Int)-1)+(k:Int)*(-1)).toNat]?)=items.toList.reverse from Ts items]
 first
  |exact av (m:=qr _) (hG (aL ⟨_,rfl,aL h⟩) S)
  |exact av (m:=qr _) (hG (av (aL (aL ⟨_,rfl,aL h⟩))) S)
  |exact av (av (m:=qr _) (hG (aL (aL ⟨_,rfl,aL h⟩)) S))
  |exact av (av (m:=qr _) (hG (aL ⟨_,rfl,aL h⟩) S))
end
end HT
namespace L2
open PySem PySem.Spec PyProof.Rows
noncomputable def L8(t T:String):Bool:=decide (t=T)||(decide (t="bool")&&decide (T="int"))
def Tu{K:aB}(h:t∈["NoneType","bool","int","str","list","tuple","dict"])(a:T∈["bool","int","str","list","tuple","dict"]):
  w4 K (.type t) (.type T)=some (L8 t T):=by
 simp only[b8,lR,or_false]at h a;rcases h with rfl|rfl|rfl|rfl|rfl|rfl|rfl<;>rcases a with rfl|rfl|rfl|rfl|rfl|rfl<;>kernel_rfl
noncomputable def mP(t T:String)(b:Bool):Bool:=decide (t∈["NoneType","bool","int","str","list","tuple","dict"])&&decide (T∈["bool","int","str","list","tuple","dict"])&&(L8 t T==b)
def EX{K:aB}(h:mP t T b=true):w4 K (.type t) (.type T)=some b:=by
 unfold mP at h;rw[cM,cM]at h;rw[Tu (of_decide_eq_true h.1.1) (of_decide_eq_true h.1.2),tG h.2]
def eM(h:H p=none)(o:HO):aU H (bt H p o):=λ b u q=>by rw[cp (lb q h)];assumption
section
variable{X:aZ}
def Tv(K:aB):List V->au->bC->Prop:=λ xs H Q=>∃x T t b,xs=[x,.ty T]/\lp K H x (.type t)/\mP t T b=true/\Q (.bl b) H
def uA:fM X (.builtin "isinstance") (Tv X.K):=by
 intro d s Z H xs e Q I r h;obtain⟨x,T,t,b,rfl,ty,ok,q⟩:=h;obtain⟨u,w,rfl,a,c⟩:=vals2 r;obtain rfl:w=mJ T:=c;exact SB I a ty (EX ok) λ k=>⟨.bl b,H,I.tok k,rfl,q⟩
def AW(K:aB):bA:=λ x y H Q=>∃a b ns m,x= .ref a/\y= .ref b/\bQ K H a (ns.map V.int)/\bQ K H b (m.map V.int)/\Q (.bl (HT.lexLe ns m)) H
def Tw(c:X.A.units<cLine):bT X (dP .LtE) (AW X.K):=by
 intro m s Z H x y v u Q I r d h;obtain⟨a,b,ns,n,rfl,rfl,e,f,q⟩:=h;cases r;cases d;obtain⟨t,g,p,_⟩:=I.tuple e;obtain⟨i,j,k,_⟩:=I.tuple f;have l:=intsAre_of g;have dg:=intsAre_of j;exact HT.aGm p k l dg c ⟨.bl _,H,I,rfl,q⟩
def Tx:bT X (dP .Is) (λ x y H Q=>∃b c,x= .bl b/\y= .bl c/\Q (.bl (b==c)) H):=by
 intro k s Z H x y v u Q I r a h;obtain⟨b,c,rfl,rfl,q⟩:=h;cases r;cases a;exact is_bool (LD I q rfl)
def Inv.big'(I:Inv X kQ Z H s):iI<s.heap.objs.size:=by
 have h:=(I.mod.glob.keeps I.bk).lt;exact qd (by decide) h
def Tz:bw:=λ _ H Q=>∀p,H p=none->Q (.ref p) (bt H p (.dK []))
def TA:bq X (.Dict [] [] pos) Tz:=λ k s Z H Q I h=>
 wpAny_Dict_empty ⟨.ref _,_,I.laid (o:=.dK []) (λ _ _ q=>bM _ q) (bJ _)
  ⟨dI _,beq_eq_false_iff_ne.mpr (ir (cC I.big')),[],.nil,KC _⟩,rfl,h _ (I.hok.fresh (bJ _))⟩
end
def gz(l:Addr)(H H':au):Prop:=∀b o,b≠l->H b=some o->H' b=some o
def aU.sqt{K:aB}(e:aU H H')(h:bQ K H a xs):bQ K H' a xs:=by
 rcases h with (h|⟨o,h⟩)|h
 .exact .inl (.inl (e _ _ h))
 .exact .inl (.inr ⟨o,e _ _ h⟩)
 .exact .inr h
inductive D where
 |non|bl (b:Bool)|int (i:Int)|str (x:Str)|tup (l:List D)|lst (l:List D)|dct
mutual
inductive qA(H:au):V->D->Prop where
 |non:qA H .non .non
 |bl (b:Bool):qA H (.bl b) (.bl b)
 |int (i:Int):qA H (.int i) (.int i)
 |str (x:Str):qA H (.str x) (.str x)
 |tup {a:Addr} {xs:List V} {ds:List D} (h:H a=some (.tup xs)) (r:xp H xs ds):qA H (.ref a) (.tup ds)
 |lst {a:Addr} {xs:List V} {ds:List D} (h:H a=some (.lst xs)) (r:xp H xs ds):qA H (.ref a) (.lst ds)
 |dct {a:Addr} (h:H a=some (.dK [])):qA H (.ref a) .dct
inductive xp(H:au):List V->List D->Prop where
 |nil:xp H [] []
 |cons {x:V} {d:D} {xs:List V} {ds:List D} (h:qA H x d) (r:xp H xs ds):xp H (x::xs) (d::ds)
end
def bq.weaken(h:bq X e t)(imp:∀Z H Q,t' Z H Q->t Z H Q):bq X e t':=λ k s Z H Q I q=>h _ s Z H Q I (imp Z H Q q)
def bT.weaken(h:bT X f r)(imp:∀x y H Q,r' x y H Q->r x y H Q):bT X f r':=λ k s Z H x y v u Q I a b q=>h _ s Z H x y v u Q I a b (imp x y H Q q)
def mQ(H:au)(o:HO)(Q:bC):Prop:=∀p H',aU H H'->H' p=some o->H p=none->Q (.ref p) H'
def mQ.at(n:mQ H o Q)(ah:H p=none):Q (.ref p) (bt H p o):=n p _ (eM ah o) dQ ah
section
variable{X:aZ}{es:List Expr}{t:fZ}{pos:Pos}
def TB(t:fZ):bw:=λ Z H Q=>t Z H λ xs a=>xs.length<=aQ/\mQ a (.tup xs) Q
def L9(t:fZ):bw:=λ Z H Q=>t Z H λ xs a=>xs.length<=aQ/\mQ a (.lst xs) Q
def TC{x1}(h:iM X es t):bq X (.Tuple es x1 pos) (TB t):=by
 have h':iM X es (λ Z H Q=>∃R:List V->au->Prop,t Z H R/\∀xs H',R xs H'->Q xs H'):=by
  intro pos k s Z H Q I ⟨R,q,imp⟩;exact aX (h _ _ s Z H R I q) λ u s' ⟨vs,H',a,r,b⟩=>⟨vs,H',a,r,imp _ _ b⟩
 exact(SE h').weaken λ Z H Q q=>⟨_,q,λ xs H' ⟨z,n⟩=>⟨z,λ p ah=>n.at ah⟩⟩
def EY(h:iM X es t):bq X (.List es pos) (L9 t):=by
 have h':iM X es (λ Z H Q=>∃R:List V->au->Prop,t Z H R/\∀xs H',R xs H'->Q xs H'):=by
  intro pos k s Z H Q I ⟨R,q,imp⟩;exact aX (h _ _ s Z H R I q) λ u s' ⟨vs,H',a,r,b⟩=>⟨vs,H',a,r,imp _ _ b⟩
 exact(SF h').weaken λ Z H Q q=>⟨_,q,λ xs H' ⟨z,n⟩=>⟨z,λ p ah=>n.at ah⟩⟩
def TF:bw:=λ _ H Q=>mQ H (.dK []) Q
def TG:bq X (.Dict [] [] pos) TF:=TA.weaken λ Z H Q n p ah=>n.at ah
def Ma:bA:=λ x y H Q=>∃l b xs z,x= .ref l/\y= .ref b/\H l=some (.lst xs)/\H b=some (.lst z)/\xs.length+z.length<=aQ/\mQ H (.lst (xs++z)) Q
def TH:bT X (iJ .Add) Ma:=Tc.weaken λ x y H Q ⟨l,b,xs,s,e,a,h,c,z,n⟩=>⟨l,b,xs,s,e,a,h,c,z,λ p ah=>n.at ah⟩
def EZ:V->List V->au->bC->Prop:=λ x vs H Q=>∃l xs y,x= .ref l/\vs=[y]/\H l=some (.lst xs)/\xs.length<aQ/\∀H',gz l H H'->H' l=some (.lst (xs++[y]))->Q .non H'
def Mb:xo X "list.append" EZ:=λ k s Z H x xs v u Q I r a ⟨l,ys,y,e,c,h,z,n⟩=>
 EV _ s Z H x xs v u Q I r a ⟨l,ys,y,e,c,h,z,n _ (λ b o d f=>by rw[cp d];assumption) dQ⟩
end
noncomputable def eN(s:Scope)(env:Env):List (Str×Addr):=(s.names.filterMap λ y=>if y.2== .free then(env.cells.lookup y.1).map λ c=>(y.1,c)else none).reverse
theorem Mc(env:Env):∀(a:List (Str×nK)) (acc:List (Str×Addr)),(∀y∈a,y.2= .free->∃c,env.cells.lookup y.1=some c)->
  (forIn a acc λ(x:Str×nK) r=>if (x.2== .free)=true then do let c <-cellOf env x.1;pure (pR ((x.1,c)::r))else pure (pR r):Sem (List (Str×Addr)))=
   pure ((a.filterMap λ y=>if y.2== .free then(env.cells.lookup y.1).map λ c=>(y.1,c)else none).reverse++acc)
 |[],acc,_=>rfl
 |(n,k)::r,acc,h=>by
  rw[List.forIn_cons];have i:=λ b=>Mc env r b λ y f=>h y (dN _ f)
  by_cases e:k= .free
  .subst e
   obtain⟨c,g⟩:=h (n,.free) c0 rfl;have d:env.cells.lookup n=some c:=g;simp only[beq_self_eq_true,if_true,cellOf,d,pZ,qe,wd,iG,List.singleton_append];exact i _
  .have j:(k==oZ)=false:=by simpa using e
   simp only[j,jr,if_false,pZ];exact i _
def E0(h:∀y∈scope.names,y.2= .free->∃c,env.cells.lookup y.1=some c):wF scope env=pure (eN scope env):=by
 have e:=Mc _ _ [] h;rw[g6]at e;have a:wF scope env=((forIn _ _ _)>>=λ r=>pure r):=rfl;rw[a,e];rfl
def Md(h:(eN scope env).lookup x=some c):env.cells.lookup x=some c:=by
 have m:=k6 h;unfold eN at m;rw[tN,tK]at m;obtain⟨y,a,e⟩:=m;split at e
 .cases q:env.cells.lookup y.1<;>grind
 grind
def Me(a:scope.names.lookup x=some .free)(h:env.cells.lookup x=some c):(eN scope env).lookup x=some c:=by
 have b:=k6 a
 have:(x,c)∈eN scope env:=by
  unfold eN;rw[tN,tK];exact⟨_,b,by simp_all⟩
 cases q:(eN _ _).lookup x with
 |none=>
  exact absurd this (by
   intro m
   have:=List.lookup_eq_none_iff.mp q _ m
   simp_all)
 |some d=>
  have:=Md q
  grind
noncomputable def l8(s:Scope)(C:Addr):List (Str×Addr):=oR (C+1) s.names []
theorem xq:∀(a:List (Str×nK)) (n:Nat) (acc:List (Str×Addr)),oR n a acc=oR n a []++acc
 |[],_,_=>rfl
 |(x,k)::r,n,acc=>by
  unfold oR;split
  .rw[xq r _ _,xq r _ [(x,n)],iG];rfl
  .exact xq r n _
theorem E1:∀{a:List (Str×nK)} {n:Nat} {x:Str} {c:Addr},(x,c)∈oR n a []->(x,wO)∈a
 |(y,k)::r,n,x,c,h=>by
  unfold oR at h;split at h
  .rw[xq,dH]at h
   rcases h with h|h
   .exact dN _ (E1 h)
   grind
  .exact dN _ (E1 h)
 |[],_,_,_,h=>by cases h
def uB{l m:List (Str×Addr)}(h:(l++m).lookup x=some c):l.lookup x=some c\/(l.lookup x=none/\m.lookup x=some c):=by
 rw[zJ]at h;simp_all
def Mf{M:Model}{A:cg}{E:Value->ax->Prop}{s:ax}{scope:Scope}{globals:Addr}{c:List (Str×Addr)}{qual:Str}{env:Env}{Q:Env->ax->Prop}
  (h:∀h':Heap,h'.Ns s.heap.objs.size (λ _=>none)->(∀b o,s.heap.get? b=some o->h'.get? b=some o)->CellsOk h' (s.heap.objs.size+1) (l8 scope s.heap.objs.size)->
   Q {scope:=scope,locals:=s.heap.objs.size,globals:=globals,cells:=l8 scope s.heap.objs.size++c,qual:=qual,func:=none,code:=env.code,frame:=env.frame,builtins:=env.builtins} {s with heap:=h'}):
  wpAny M A (DP scope globals c [] qual none .none (some env)) Q E s:=by
 refine av (wpAny_alloc ?_);refine av (wpAny_layCells _ (λ name k cells=>by lia) _ _ _ _ ?_);have ok:=cellsFrom_ok scope.names (s.heap.push {cls:=.type "dict",data:=.dict #[]}) (s.heap.objs.size+1) [] ⟨λ _ _ m=>(nomatch m),JG⟩ (by simp);rw[k9]at ok;rw[k9 ..,xq];refine aL ?_;exact h _ ((Heap.Ns.new s.heap _).keeps (pushCells_keeps _ _)) (λ b o e=>pushCells_keeps _ _ b o (bM _ e)) ok
noncomputable def aZ.block(X:aZ)(s:Scope)(C:Addr)(N:List Str)(f:List Addr)(zS:ax)(zD:au):aZ:=
  {prog:=X.prog,w:=X.w,K:=X.K,mg:=X.mg,base:=X.base,A:=X.A,N:=N,zS:=zS,zD:=zD,env:=compEnvC s (l8 s C++eN s X.env) C X.env,outer:=X.stack,stack:=X.stack,ex:=f,
    fn:=λ x=>s.names.lookup x==some .cell,calm:=X.calm,pn:=[],xe:=λ _ _=>False}
structure l9(X:aZ)(scope:Scope)(N:List Str)(st:St->St)(ks:List Nat):Prop where
 kind:scope.kind= .function
 sep:∀y∈scope.names,y.2= .cell->scope.names.lookup y.1=some .cell
 loc:∀y∈scope.names,y.2= .local->scope.names.lookup y.1=some .local
 free:∀y∈scope.names,y.2= .free->X.env.kindOf y.1=some .cell\/X.env.kindOf y.1=some .free
 len:∀Z,(st Z).length=N.length
 val:∀Z (i:Nat) x v,N[i]? =some x->(st Z)[i]? =some (some v)->scope.names.lookup x=some .free/\i∉ks/\∃j:Nat,X.N[j]? =some x/\Z[j]? =some (some v)
def TI(h:(qp scope env).names.lookup x=some .cell\/(qp scope env).names.lookup x=some .free):scope.names.lookup x=some .free\/scope.names.lookup x=some .cell:=by
 have g:∀a:List (Str×nK),((a.map λ(n,k)=>if (k==oZ&&env.scope.kind== .function&&env.kindOf n==some .cell)then(n,wO)else(n,k)).lookup x=some .cell\/
   (a.map λ(n,k)=>if (k==oZ&&env.scope.kind== .function&&env.kindOf n==some .cell)then(n,wO)else(n,k)).lookup x=some .free)->a.lookup x=some .free\/a.lookup x=some .cell:=by
  intro a;induction a with
  |nil=>intro h;simp at h
  |cons y r i=>
   obtain⟨n,k⟩:=y;intro h;rw[bu]at h;by_cases d:x==n
   .rw[fm,d]
    show some k=some .free\/some k=some .cell;by_cases c:(k==oZ&&env.scope.kind== .function&&env.kindOf n==some .cell)=true
    .simp_all
    .simp only[if_neg c,fm,d]at h
     exact h.elim .inr .inl
   .have b:(x==n)=false:=by simpa using d
    rw[fm,b];refine i ?_;by_cases c:(k==oZ&&env.scope.kind== .function&&env.kindOf n==some .cell)=true
    .simp only[if_pos c,fm,b]at h
     exact h
    .simp only[if_neg c,fm,b]at h
     exact h
 exact g scope.names h
def TJ(h:scope.names.lookup x=some .free):(qp scope env).names.lookup x=some .cell\/(qp scope env).names.lookup x=some .free:=by
 have g:∀a:List (Str×nK),a.lookup x=some .free->((a.map λ(n,k)=>if (k==oZ&&env.scope.kind== .function&&env.kindOf n==some .cell)then(n,wO)else(n,k)).lookup x=some .cell\/
   (a.map λ(n,k)=>if (k==oZ&&env.scope.kind== .function&&env.kindOf n==some .cell)then(n,wO)else(n,k)).lookup x=some .free):=by
  intro a;induction a with
  |nil=>intro h;simp at h
  |cons y r i=>
   obtain⟨n,k⟩:=y;intro h;rw[bu];by_cases d:x==n
   .rw[fm,d]at h
    have e:k= .free:=i7 h;by_cases c:(k==oZ&&env.scope.kind== .function&&env.kindOf n==some .cell)=true
    .simp only[if_pos c,fm,d]
     exact .inl trivial
    .simp only[if_neg c,fm,d]
     exact .inr (by rw[e])
   .have b:(x==n)=false:=by simpa using d
    rw[fm,b]at h;by_cases c:(k==oZ&&env.scope.kind== .function&&env.kindOf n==some .cell)=true
    .simp only[if_pos c,fm,b]
     exact i h
    .simp only[if_neg c,fm,b]
     exact i h
 exact g scope.names h
section
variable{X:aZ}{Q:bZ}{Z:St}{H:au}{s:ax}
theorem Inv.block{st:St->St}{D C:Addr}(I:Inv X Q Z H s)(B:l9 X scope N st ks)
  (g:∀b∈fp,jW X Q H b)(G:∀b∈fp,∃ob,s.heap.get? b=some ob)
  (F:s.heap.objs.size<=D)(q:s.heap.objs.size<=C)(J:D≠C)(keep:∀b u,s.heap.get? b=some u->h'.get? b=some u)(K:h'.Ns C λ _=>none)(w:CellsOk h' (C+1) (l8 scope C))(L:∀c,C<c->D≠c)(aE:fY X.prog X.w (bt H D o) h' D o):
  Inv (X.block scope C N fp s H) [] (st Z) (bt H D o) {s with heap:=h',toks:=tk}:=by
 have M:H D=none:=I.hok.fresh F;have l:∀x c,(eN scope X.env).lookup x=some c->X.env.cells.lookup x=some c:=λ x c e=>Md e
 have d:∀x c,(l8 scope C).lookup x=some c->C<c/\h'.IsCell c none:=λ x c e=>let⟨q1,q2⟩:=w.empty x c (k6 e);⟨q2,q1⟩
 have A:∀x c,(eN scope X.env).lookup x=some c->c<s.heap.objs.size:=λ x c e=>let⟨v,r⟩:=I.cell x c (l x c e);r.lt
 have U:∀b∈fp,b<s.heap.objs.size:=λ b f=>by
  obtain⟨ob,e⟩:=G b f;exact cb e
 refine⟨⟨I.mod,?_,I.ok.glob,I.ok.blt,q,λ x y c O P=>?_,λ x hx=>?_,λ x c hf e=>?_,I.ok.hd,I.ok.frames,.inl rfl,λ b f=>⟨?_,λ x c e z=>?_⟩,
  I.bs,?_,λ b ob e f=>?_,λ b f hs=>?_,I.stack,I.stkFree⟩,rfl,I.bare,gG.laid keep F M,⟨_,K,λ i x v O P hv=>?_⟩,λ x c e=>?_,?_,λ x c e=>?_,λ p ah=>absurd (show p∈([]:bZ)from ah) (by simp),I.hok.laid keep F aE,B.len Z,λ p ah=>absurd (show p∈([]:bZ)from ah) (by simp)⟩
 .show(qp scope X.env).kind= .function
  exact B.kind
 .rcases uB O with a|⟨_,a⟩<;>rcases uB P with E|⟨_,E⟩
  .exact PySem.name_of_addr w.apart (k6 a) (k6 E)
  .exact absurd (A y c E) (zY.mpr (fD q (jS (d x c a).1)))
  .exact absurd (A x c a) (zY.mpr (fD q (jS (d y c E).1)))
  .exact I.ok.inj x y c (l x c a) (l y c E)
 .show∃c,(l8 scope C++eN scope X.env).lookup x=some c
  rw[zJ];cases e:(l8 scope C).lookup x with
  |some c=>exact⟨c,rfl⟩
  |none=>
   rcases TI hx with h|t
   .obtain⟨c,R⟩:=I.ok.has x (B.free (x,.free) (k6 h) rfl)
    exact⟨c,Me h R⟩
   .obtain⟨c,R⟩:=AS (n:=C+1) t
    rw[show(l8 scope C).lookup x=some c from R]at e;cases e
 .rcases uB e with a|⟨V,_⟩
  .exact fD q (jS (d x c a).1)
  .obtain⟨W,S⟩:=AS (n:=C+1) (tG hf)
   rw[show(l8 scope C).lookup x=some W from S]at V;cases V
 .exact cC (fq (U b f) q)
 .rcases uB e with a|⟨_,a⟩
  .exact absurd (U b f) (zY.mpr (by rw[<-z];exact fD q (jS (d x c a).1)))
  .exact(g b f).2.2.2.2.1 x c (l x c a) z
 .exact fD I.ok.bsz I.sz
 .rcases(g b f).2.2.2.1 with z|z
  .exact I.ok.noex b ob e z
  .exact absurd (fq (cb (I.ok.bs b ob e).1) z) (jL _)
 .rcases b8.mp (I.stkSub b hs)with z|z
  .exact(g b f).2.1 z
  .exact(g b f).2.2.1 z
 .obtain⟨h,_,j,f1,f2⟩:=B.val Z i x v O P
  obtain⟨m,hn,hl⟩:=I.loc;have Y:=B.free (x,.free) (k6 h) rfl;obtain⟨u,ru,hu⟩:=hl j x v f1 f2 (Y.elim (λ z=>.inr (.inl z)) λ z=>.inr (.inr z));rcases hu with ⟨k,_⟩|⟨_,c,ec,r⟩
  .rcases Y with z|z
   .exact absurd (k.symm.trans z) (by decide)
   .exact absurd (k.symm.trans z) (by decide)
  .have T:(l8 scope C).lookup x=none:=by
    cases e:(l8 scope C).lookup x with
    |none=>rfl
    |some W=>
     have:=B.sep _ (E1 (k6 e)) rfl
     rw[h]at this;cases this
   refine⟨u,ru,.inr ⟨?_,c,by show(l8 scope C++eN scope X.env).lookup x=some c;rw[zJ,T];exact Me h ec,r.keeps keep⟩⟩;rcases hv with z|z|z
   .have z':(qp scope X.env).names.lookup x=some .local:=z
    rcases TJ (env:=X.env) h with y|y
    .exact absurd (z'.symm.trans y) (by decide)
    .exact absurd (z'.symm.trans y) (by decide)
   .exact .inl z
   .exact .inr z
 .rcases uB e with a|⟨_,a⟩
  .exact⟨_,(d x c a).2⟩
  .obtain⟨v,r⟩:=I.cell x c (l x c a)
   exact⟨v,r.keeps keep⟩
 .show bt H D o C=none
  rw[cp (ir J)];exact I.hok.fresh q
 .show bt H D o c=none
  rcases uB e with a|⟨_,a⟩
  .rw[cp (ir (L c (d x c a).1))]
   exact I.hok.fresh (fD q (jS (d x c a).1))
  .obtain⟨v,r⟩:=I.cell x c (l x c a)
   rw[cp (cC (fq r.lt F))];exact I.freeC x c (l x c a)
end
section
variable{prog:bD}{w:World}{A:cg}{R:mG->ax->Prop}{s:ax}
def TK(I:Nat->ax->Prop)
  (t:∀n s,I n s->wpAny (model prog w) A (jv it) (λ r z=>match r with
   |none=>R (.ok .next) z
   |some v=>wpAny (model prog w) A (tY target it v) (λ _ z=>wpAny (model prog w) A (lX target env v) (λ _ f=>
     wpAny (model prog w) A (forIn ifs true λ c r=>if r=true then do let ok <-isTrue c env (eval c env);pure (pR ok)else pure (pR r)) (λ ok e=>
      if ok=true then wpAny (model prog w) A (eval elt env) (λ x T=>
       wpAny (model prog w) A (call (.builtin "list.append") [acc,x]) (λ _ a=>∃m,m<n/\I m a) (λ _ _=>False) T) (λ _ _=>False) e
      else∃m,m<n/\I m e) (λ _ _=>False) f) (λ _ _=>False) z) (λ _ _=>False) z) (λ _ _=>False) s)
  (n:Nat)(h:I n s):fV (model prog w) A (.compLoop (.ListComp elt [⟨target,iter,ifs,0⟩] scope pos) 0 it acc env) R s:=by
 refine codeAny_loop rfl I (λ n s g=>?_) n h;show wpAny _ A ((Ao (.ListComp elt [⟨target,iter,ifs,0⟩] scope pos) 0 it acc env).onRaise (λ x=>do noteFrame x env;theTreesLotGoes x)) _ _ s;refine wpAny_noted ?_;rw[compTurn_list];refine av (ub (av (g7 (t n s g) (λ r z y=>?_) λ _ _ h'=>h'.elim)));cases r with
 |none=>exact aL y
 |some v=>
  refine av (g7 y (λ _ z y=>?_) λ _ _ h'=>h'.elim);refine av (g7 y (λ _ f i=>av (g7 i (λ ok e B=>?_) λ _ _ h'=>h'.elim)) λ _ _ h'=>h'.elim);cases ok with
  |false=>exact aL ⟨rfl,B⟩
  |true=>
   exact av (av (g7 B (λ x T b=>av (g7 b (λ _ a d=>aL (aL ⟨rfl,d⟩)) λ _ _ h'=>h'.elim)) λ _ _ h'=>h'.elim))
end
def ma(g:iP)(ks:List Nat):Prop:=∀v Z H (Q:St->au->Prop),g v Z H Q->g v Z H (λ a H'=>Q a H'/\a.length=Z.length/\∀k,k∉ks->a[k]? =Z[k]?)
def xt(g:qx)(ks:List Nat):Prop:=∀vs Z H (Q:St->au->Prop),g vs Z H Q->g vs Z H (λ a H'=>Q a H'/\a.length=Z.length/\∀k,k∉ks->a[k]? =Z[k]?)
def TL(h:i∈ks):ma (qy i) ks:=λ v Z H Q q=>⟨q,kU,λ k a=>oJ (λ(e:i=k)=>a (e▸h))⟩
def TM:xt ED ks:=λ vs Z H Q ⟨e,q⟩=>⟨e,q,rfl,λ _ _=>rfl⟩
def uC(g:iP):Prop:=∀v Z H (Q a:St->au->Prop),(∀b H',Q b H'->a b H')->g v Z H Q->g v Z H a
def uD(g:qx):Prop:=∀v Z H (Q a:St->au->Prop),(∀b H',Q b H'->a b H')->g v Z H Q->g v Z H a
def TN:uC (qy i):=λ v Z H Q a imp q=>imp _ _ q
def TO:uD ED:=λ v Z H Q a imp ⟨e,q⟩=>⟨e,imp _ _ q⟩
def TP(h:uC t)(a:uD u):uD (EE t u):=λ vs Z H Q c imp ⟨v,r,e,q⟩=>⟨v,r,e,h _ _ _ _ _ (λ d H' b=>a _ _ _ _ _ imp b) q⟩
def TQ(a:ma t ks)(m:uC t)(b:xt u ks)(c:uD u):xt (EE t u) ks:=λ vs Z H Q ⟨v,r,e,q⟩=>
 ⟨v,r,e,m _ _ _ _ _ (λ i H' ⟨d,l',f⟩=>c _ _ _ _ _ (λ j n ⟨g,l,k2⟩=>⟨g,l.trans l',λ k h=>(k2 k h).trans (f k h)⟩) (b _ _ _ _ d)) (a _ _ _ _ q)⟩
def AX{K:aB}(h:xt t ks):ma (AI K n t) ks:=λ v Z H Q ⟨a,xs,e,b,c,q⟩=>⟨a,xs,e,b,c,h _ _ _ _ q⟩
def TR{K:aB}(h:uD t):uC (AI K n t):=λ v Z H Q d imp ⟨a,xs,e,b,c,q⟩=>⟨a,xs,e,b,c,h _ _ _ _ _ imp q⟩
def o6(X:aZ)(i:List Expr)(t:gk):Prop:=
 ∀(k:bZ) (s:ax) (Z:St) (H:au) (Q:Bool->au->Prop),Inv X k Z H s->t Z H Q->
  wpAny (model X.prog X.w) X.A (forIn i true λ c r=>if r=true then do let ok <-isTrue c X.env (eval c X.env);pure (pR ok)else pure (pR r)) (AG X k Z Q) X.xe s
def TS:gk:=λ _ H Q=>Q true H
def TT:o6 X [] TS:=λ _ _ _ H _ I h=>wpAny_tests_nil ⟨H,I,h⟩
def TU(h:jV X c t):o6 X [c] t:=λ k s Z H Q I q=>wpAny_tests_one (h _ s Z H Q I q)
def AY(w:iS)(st:St->St)(g:iP)(t:gk)(j:bw):bw:=λ Z H Q=>w Z H λ J c=>∀l,c l=none->∃W:Nat->Nat->List V->au->Prop,(∃m,W 0 m [] (bt c l (.lst [])))/\
 ∀i m acc a,W i m acc a->a l=some (.lst acc)/\acc.length<aQ/\((J.stop i a/\Q (.ref l) a)\/(J.go i a/\∀x d,J.yld i a x d->g x (st Z) d λ e k=>t e k λ ok f=>
  if ok=true then j e f λ y h=>h l=some (.lst acc)/\∃b,b<m/\W (i+1) b (acc++[y]) (bt h l (.lst (acc++[y])))else∃b,b<m/\W (i+1) b acc f))
section
variable{X:aZ}{d j t:Expr}{f:List Expr}{scope:Scope}{pos:Pos}{N:List Str}{st:St->St}{ks:List Nat}{F:iS}{g:iP}{w:gk}{A:bw}
def Mg(B:l9 X scope N st ks)(hc:X.calm=true)(hg:∀C a U Y,l5 (X.block scope C N a U Y) j g)(hgo:ma g ks)(ht:∀C a U Y,o6 (X.block scope C N a U Y) f w)
  (he:∀C a U Y,bq (X.block scope C N a U Y) d A){H:au}{Q:bC}{RR:Value->Addr->mG->ax->Prop}
  (I:Inv X kQ Z H zI)(T:Turn X.prog X.w X.K j J a it tn)(h0:tn 0 zI.heap)(hfp:∀b∈a,jW X kQ H b)
  (h:∀l,H l=none->∃W:Nat->Nat->List V->au->Prop,(∃m,W 0 m [] (bt H l (.lst [])))/\
   ∀i m acc s,W i m acc s->s l=some (.lst acc)/\acc.length<aQ/\((J.stop i s/\Q (.ref l) s)\/(J.go i s/\∀x H3,J.yld i s x H3->g x (st Z) H3 λ Z4 H4=>w Z4 H4 λ ok H5=>
    if ok=true then A Z4 H5 λ y H6=>H6 l=some (.lst acc)/\∃L,L<m/\W (i+1) L (acc++[y]) (bt H6 l (.lst (acc++[y])))else∃L,L<m/\W (i+1) L acc H5)))
  (hRR:∀D C H' s',(∃Z',Inv (X.block scope C N a zI H) [] Z' H' s')->zI.heap.objs.size<=C->Q (.ref D) H'->RR (.ref D) C (.ok .next) s'):
  wpAny (model X.prog X.w) X.A (qo []) (λ acc y8=>wpAny (model X.prog X.w) X.A (DP scope X.env.globals (eN scope X.env) [] X.env.qual none .none (some X.env)) (λ M yT=>
   fV (model X.prog X.w) X.A (.compStart (.ListComp d [⟨j,t,f,0⟩] scope pos) 0 (.ref it) acc {M with scope:=qp scope X.env}) (RR acc M.locals) yT) E y8) E zI:=by
 refine hG (Mf λ y9 y3 y7 yY=>?_);dsimp only at y3 y7 yY ⊢;generalize R:zI.heap.push {cls:=.type "list",dict:=none,data:=.seq ([]:List Value).toArray}=P2 at y3 y7 yY ⊢;have hC:P2.objs.size=zI.heap.objs.size+1:=by rw[<-R,k9]
 have hDC:zI.heap.objs.size≠P2.objs.size:=by rw[hC];exact cC (nF _)
 have oQ:zI.heap.objs.size<=P2.objs.size:=by rw[hC];exact nG _
 have old:∀b o,zI.heap.get? b=some o->y9.get? b=some o:=λ b o e=>y7 b o (R▸bM _ e)
 have aE:y9.get? zI.heap.objs.size=some {cls:=.type "list",dict:=none,data:=.seq ([]:List Value).toArray}:=y7 _ _ (R▸dy _ rfl);generalize hCe:P2.objs.size=C at y3 y7 yY hDC oQ hC ⊢;have hHD:H zI.heap.objs.size=none:=I.hok.fresh (bJ _);have I0:Inv (X.block scope C N a zI H) [] (st Z) (bt H zI.heap.objs.size (.lst [])) {zI with heap:=y9,toks:=zI.toks}:=
  I.block B hfp (λ b F=>by obtain⟨o,e,_⟩:=T.obj 0 _ h0 b F;exact⟨o,e⟩) (bJ _) oQ hDC old y3 yY (λ c hc=>cC (zU oQ hc)) ⟨dI _,[],0,.nil,aE⟩
 obtain⟨W,⟨m0,w0⟩,step⟩:=h _ hHD;have h01:tn 0 y9:=T.keep 0 _ _ h0 λ b _ o e=>old b o e
 have aI:∀{H':au},(∀b∈a,H' b=none)->∀b∈a,jW (X.block scope C N a zI H) [] H' b:=λ{H'} hn b F=>
  ⟨hn b F,(I0.ok.exf b F).1,I0.ok.exfs b F,.inl F,λ x c e=>(I0.ok.exf b F).2 x c e,λ p ah=>absurd (show p∈([]:bZ)from ah) (by simp)⟩
 have fr0:∀b∈a,bt H zI.heap.objs.size (.lst []) b=none:=λ b F=>by
  obtain⟨o,e,_⟩:=T.obj 0 _ h0 b F;rw[cp (cC (cb e))];exact(hfp b F).1
 have O:∀y8:ax,y8={zI with heap:=y9,toks:=zI.toks}->
   fV (model X.prog X.w) X.A (.compLoop (.ListComp d [⟨j,t,f,0⟩] scope pos) 0 (.ref it) (.ref zI.heap.objs.size) (X.block scope C N a zI H).env) (RR (.ref zI.heap.objs.size) C) y8:=by
  rintro y8 rfl;refine TK (λ n s'=>∃i acc s,Inv (X.block scope C N a zI H) [] (st Z) s s'/\tn i s'.heap/\(∀b∈a,s b=none)/\W i n acc s) ?_ m0 ⟨0,[],_,I0,h01,fr0,w0⟩;rintro n s3 ⟨i,acc,s,I2,st2,fr2,w2⟩;obtain⟨hl,hz,alt⟩:=step i n acc s w2;rcases alt with ⟨stop,q⟩|⟨go,nxt⟩
  .refine aX (T.done (X.block scope C N a zI H) rfl rfl rfl hc i [] s3 (st Z) s _ I2 (aI fr2) st2 stop) λ r s4 ⟨hr,I4⟩=>?_
   subst hr;exact hRR _ C s s4 ⟨_,I4⟩ oQ q
  .refine aX (T.item (X.block scope C N a zI H) rfl rfl rfl hc i [] s3 (st Z) s _ I2 (aI fr2) st2 go) λ r s4 ⟨u,hr,h4⟩=>?_
   subst hr;refine aX h4 λ _ s5 ⟨x,H5,I5,r5,y5,S,fr5⟩=>?_
   have I5':=I5.pinned (aI fr5) (T.obj _ _ S);refine aX (hg C a zI H _ s5 (st Z) H5 x u _ I5' r5 (hgo _ _ _ _ (nxt x H5 y5))) λ _ s6 ⟨Z6,H6,I6,q6,uE,ag6⟩=>?_
   refine aX (ht C a zI H _ s6 Z6 H6 _ I6 q6) λ ok s7 ⟨H7,I7,q7⟩=>?_
   have G:∀{P:au} {s9:ax} {K:List V},Inv (X.block scope C N a zI H) ([]++rQ a s5.heap) Z6 P s9->(∃L,L<n/\W (i+1) L K P)->
     ∃m,m<n/\∃i acc s,Inv (X.block scope C N a zI H) [] (st Z) s s9/\tn i s9.heap/\(∀b∈a,s b=none)/\W i m acc s:=λ{P s9 K} I9 ⟨L,hm,w9⟩=>by
    have b6:∀b∈a,∀o,s5.heap.get? b=some o->s9.heap.get? b=some o/\P b=none:=λ b F o e=>by
     have z:=I9.pin (b,o) (fU _ (fU _ (xf F e)));exact⟨z.1,z.2.1⟩
    refine⟨L,hm,i+1,K,P,I9.unpinned.weak (by rw[uE]) (λ k v e=>?_),T.keep _ _ _ S λ b F o e=>(b6 b F o e).1,λ b F=>?_,w9⟩
    .have hk:k<(st Z).length:=(fC.mp e).1
     have hkN:k<N.length:=by rw[<-B.len Z];exact hk
     obtain⟨_,hks,_⟩:=B.val Z k _ v (bP hkN) e;rw[ag6 k hks];exact e
    .obtain⟨o,e,_⟩:=T.obj _ _ S b F
     exact(b6 b F o e).2
   cases ok with
   |false=>
    rw[if_neg gh]at q7 ⊢;exact G I7 q7
   |true=>
    rw[if_pos rfl]at q7 ⊢;refine aX (he C a zI H _ s7 Z6 H7 _ I7 q7) λ u8 s8 ⟨y,H8,I8,r8,hl8,q8⟩=>?_
    refine aX (EV _ s8 Z6 H8 (.ref zI.heap.objs.size) [y] (.ref zI.heap.objs.size) [u8] (λ _ P=>P=bt H8 zI.heap.objs.size (.lst (acc++[y]))) I8 rfl (.cons r8 .nil) ⟨_,acc,y,rfl,rfl,hl8,hz,rfl⟩) λ _ s9 ⟨_,P,I9,_,e9⟩=>?_
    subst e9;exact G I9 q8
 exact codeAny_compStart_list (O _ rfl) (T.self X.A 0 _ _ _ h01 (O _ rfl))
def E2(I:Inv X kQ Z H1 zI)(f:∀b∈fp,jW X kQ H1 b)(h:∃c,Inv (X.block scope C N fp zI H1) [] c H' s'):Inv X kQ Z H' s':=by
 obtain⟨c,J⟩:=h;exact I.call' J.os J.base J.hok J.bare λ b a=>⟨(f b a).2.2.2.1,(f b a).2.1,(f b a).2.2.2.2.1,(f b a).2.2.2.2.2⟩
def TV(B:l9 X scope N st ks)(O:X.calm=true)(P:lj X j t F)(R:∀C a S k,l5 (X.block scope C N a S k) j g)(r:ma g ks)(U:∀C a S k,o6 (X.block scope C N a S k) f w)
  (V:∀C a S k,bq (X.block scope C N a S k) d A)(W:∀x,kn t X.env x=pure x:=by z_go):bq X (.ListComp d [⟨j,t,f,0⟩] scope pos) (AY F st g w A):=by
 intro Y s Z H Q I h;have u:wF scope X.env=pure (eN scope X.env):=E0 λ y hy hk=>I.ok.has _ (B.free y hy hk)
 rw[eval_ListComp];refine Dv (use:=none) rfl W u B.kind B.loc (aX (P Y s Z H _ I h) λ v s1 h1=>aX h1 λ itv s2 h2=>?_);obtain⟨it,a,tn,J,H2,e,i,T,E,K,hq⟩:=h2;subst e;refine Mg B O R r U V i T E K hq ?_;intro D C H' s' L n q;have I3:=E2 i K L;obtain⟨Z',M⟩:=L;obtain⟨m,hn,_⟩:=id M.loc;have G:H' C=none:=M.free;refine⟨m,hn,λ h'' l=>⟨.ref D,H',?_,rfl,q⟩⟩;exact I3.turned (t':=s'.toks) (λ b o ne e=>(l.2 b ne).trans e) G (kV (fq i.lt n)) (.inr (fD i.sz n))
  (λ x c e z=>by obtain⟨v,ic⟩:=i.cell x c e;exact absurd (fq ic.lt (by rw[z];exact n)) (jL _))
  (λ p ah z=>absurd (fq (i.pinL ah) (by rw[z];exact n)) (jL _))
def Mh(hN:X.N.Nodup)(G:X.N[i]? =some x)(K:lg X.env.scope x)(B:l9 X scope N st ks)(hc:X.calm=true)(hi:lj X j t F)(hg:∀C k S n,l5 (X.block scope C N k S n) j g)(M:ma g ks)
  (ht:∀C k S n,o6 (X.block scope C N k S n) f w)(he:∀C k S n,bq (X.block scope C N k S n) d A)(O:i8 (.ListComp d [⟨j,t,f,0⟩] scope pos) (some (.Name x pos')) spos.line X.env=pure true)
  (hs:∀x,kn t X.env x=pure x:=by z_go)(hf:X.fn x=true\/X.env.scope.names.lookup x=some .local:=by k_go):
  iN X (.Assign [.Name x pos'] (.ListComp d [⟨j,t,f,0⟩] scope pos) spos) (xb (AY F st g w A) (qy i)):=by
 intro P s Z H D I h;have R:wF scope X.env=pure (eN scope X.env):=E0 λ y hy hk=>I.ok.has _ (B.free y hy hk)
 rw[exec_Assign_Name_used _ _ _ _ O];refine av (ub (av ?_));show wpAny _ _ (do let _ <-comprehension (.ListComp d [⟨j,t,f,0⟩] scope pos) scope X.env _ (qo []) false (eval t X.env) (some (lX (.Name x pos') X.env))) _ _ s;refine av (g7 (Dv (use:=some (lX (.Name x pos') X.env)) (Q:=λ _ s'=>w8 X P D .next s') rfl hs R B.kind B.loc (aX (hi P s Z H _ I h) λ v s1 h1=>aX h1 λ itv s2 h2=>?_)) (λ _ s' U=>aL (aL U)) λ _ _ e=>e);obtain⟨it,k,tn,J,H2,e,l,T,V,f2,U⟩:=h2;subst e;refine Mg (Q:=λ x H1=>qy i x Z H1 D.nx) (RR:=λ acc C=>compPost (model X.prog X.w) X.A X.xe (some (lX (.Name x pos') X.env)) (λ _ s'=>w8 X P D .next s') acc C) B hc hg M ht he l T V f2 U ?_;intro W C H' s' hJ E q;have I3:=E2 l f2 hJ;obtain⟨Z',J'⟩:=hJ;obtain⟨m,hn,_⟩:=id J'.loc;have Y:H' C=none:=J'.free;have L:C≠X.env.locals:=kV (fq l.lt E);have r:∀x c,X.env.cells.lookup x=some c->c≠C:=λ x c e z=>by obtain⟨v,ic⟩:=l.cell x c e;exact absurd (fq ic.lt (by rw[z];exact E)) (jL _)
 show wpAny _ _ (lX (.Name x pos') X.env (.ref W)) _ _ _;refine J9 ?_;refine Ld I3 hN G K (show RelV (.ref W) (.ref W)from rfl) (λ s4 I4 ⟨a,hsa,ha⟩=>?_) hf;have nea:C≠a:=by
  rcases ha with z|z
  .rw[z];exact L
  .exact ir (r _ _ z)
 refine⟨m,hn.sameBut hsa nea,λ h'' u=>⟨_,H',?_,q⟩⟩;exact I4.turned (t':=s4.toks) (λ b o ne e=>(u.2 b ne).trans e) Y L (.inr (fD l.sz E)) r
  (λ p ah z=>absurd (fq (l.pinL ah) (by rw[z];exact E)) (jL _))
end
def eZ(P:bD)(w:World):l6:=λ u H s E e s'=>∃(a:Addr) (c d:Value) (B:Heap) (H':au),e= .ref a/\s'.os=s.os/\nI s'.gens/\gG (eX u) [] H H' s.heap s'.heap/\eL P w H' B/\Heap.FlyingW B u a c d s'.heap/\
 (∀b o,s.heap.get? b=some o->H b=none->b∉eX u->B.get? b=some o)/\(∀b o,s.heap.get? b=some o->b∉eX u->∃f,B.get? b=some f)/\E c none H'
structure ia(X:aZ)(E:gj):Prop where
 stk:X.stack=X.env::X.outer
 fr:X.env.frame=some X.env.locals
 ex:X.ex=[]
 xe:X.xe=λ e s'=>wpAny (model X.prog X.w) X.A (leaving X.env e) (λ _ s''=>eZ X.prog X.w X.outer X.zD X.zS E e s'') (λ e' s''=>eZ X.prog X.w X.outer X.zD X.zS E e' s'') s'
def ia.of{K:aB}:
  ia (o4 (eZ P w) P w K mg base N qual scope f cd A outer zS zD E) E:=⟨rfl,rfl,rfl,rfl⟩
section
variable{X:aZ}{E:gj}
def Mi{B h':Heap}(p:X.ex=[])(I:Inv X kQ Z H s)
  (r:∀b o,s.heap.get? b=some o->H b=none->b∉eX X.stack->B.get? b=some o)(t:∀b o,s.heap.get? b=some o->b∉eX X.stack->∃a,B.get? b=some a)
  (k:B.StaysIn h')(v:∀b o,b∈eX X.outer->s.heap.get? b=some o->H b=none->(∀vs,o.data≠.fields vs)->∃sl,h'.get? b=some {o with slots:=sl})
  (w:∀b o,s.heap.get? b=some o->H b=none->H' b=none)(x:∀b xs,H b=some (.tup xs)->H' b=some (.tup xs))(y:∀b o u,H b=some (.frz o u)->H' b=some (.frz o u))(A:∀b q,H b=some (.tbl q)->H' b=some (.tbl q)):
  gG (eX X.outer) [] X.zD H' X.zS.heap h'/\(∀b o,X.zS.heap.get? b=some o->X.zD b=none->b∉eX X.outer->B.get? b=some o)/\(∀b o,X.zS.heap.get? b=some o->b∉eX X.outer->∃a,B.get? b=some a):=by
 have nx:∀b,b∉X.ex:=λ b z=>by rw[p]at z;cases z
 have S:∀b o,X.zS.heap.get? b=some o->b∉eX X.outer->b∉eX X.stack:=λ b o e f h=>by
  rcases b8.mp (I.stkSub b h)with z|z
  .exact absurd z (cC (fq (cb e) I.ok.above))
  .exact f z
 have bk:=λ b o e n f=>
  r b o (I.base.keep b o e n f (nx b)) (I.base.free b o e n (nx b)) (S b o e f)
 have m:∀b o,X.zS.heap.get? b=some o->b∉eX X.outer->∃a,B.get? b=some a:=λ b o e f=>by
  obtain⟨g,c⟩:=I.base.there b o e (nx b);exact t b g c (S b o e f)
 have sl:∀b o,X.zS.heap.get? b=some o->X.zD b=none->b∈eX X.outer->∃sl,h'.get? b=some {o with slots:=sl}:=λ b o e n h=>by
  obtain⟨C,c⟩:=I.base.slot b o e n h (nx b);obtain⟨_,o2,d,i⟩:=I.ok.funs.mem h;rw[e]at d;cases d;obtain⟨l,j⟩:=v b _ h c (I.base.free b o e n (nx b)) i;exact⟨l,j⟩
 refine⟨⟨λ b o e n f _=>k b o (bk b o e n f),λ b o e n h _=>sl b o e n h,λ b o e n _=>?_,λ b o e _=>?_,λ b xs e=>x b xs (I.base.tups b xs e),λ b o u e=>y b o u (I.base.frzs b o u e),λ b q e=>A b q (I.base.tbls b q e)⟩,bk,m⟩
 .obtain⟨g,c⟩:=I.base.there b o e (nx b)
  exact w b g c (I.base.free b o e n (nx b))
 .by_cases h:b∈eX X.outer
  .obtain⟨s2,j⟩:=sl b o e (I.ok.frf b h) h
   exact⟨_,j⟩
  .obtain⟨a,D⟩:=m b o e h
   exact⟨a,k b a D⟩
def ia.pass(D:ia X E):AR (eZ X.prog X.w) X E:=by
 intro Q Z H s e s' I h;obtain⟨g,c,i,B,H',rfl,os,a,un,k,l,bk,j,m⟩:=h;rw[D.xe];have f:=l;rw[D.stk]at f;have r:=I.ok.frames;rw[D.stk]at r;refine wpAny_leaves_onW r D.fr f λ h' fl up=>?_
 have p:∀b o,b∈eX X.outer->s.heap.get? b=some o->H b=none->(∀vs,o.data≠.fields vs)->∃sl,h'.get? b=some {o with slots:=sl}:=λ b o q e n t=>by
  have d:b∈eX X.stack:=by
   rw[D.stk];unfold eX;rw[pZ,D.fr];exact dN _ q
  obtain⟨A,u⟩:=un.slot b o e n d (λ z=>nomatch z);obtain⟨s2,v⟩:=up b _ u t;exact⟨s2,v⟩
 obtain⟨w,x,y⟩:=Mi (B:=B) D.ex I bk j fl.1 p (λ b o e n=>un.free b o e n (λ z=>nomatch z)) un.tups un.frzs un.tbls;exact⟨g,c,i,B,H',rfl,os.trans I.os,a,w,k,fl,x,y,m⟩
def ia.raise(D:ia X E){d:Addr}(I:Inv X kQ Z H s)
  (x:Heap.MadeExcOf s.heap h1 d cls vs)(l:E cls none H):X.xe (.ref d) {s with heap:=h1}:=by
 rw[D.xe];have g:=I.stack;have i:∀env∈X.stack,∀a,env.frame=some a->a∈eX X.stack:=λ env m a p=>tK.mpr ⟨env,m,p⟩
 have k:=PySem.W.funFrames_hide g i;have h:=I.ok.frames;rw[D.stk]at h;have c:s.heap.FunFrames (Eu s.heap (eX X.stack)) (X.env::X.outer):=by rw[<-D.stk];exact k
 refine wpAny_leaves_madeW h D.fr (λ b o q=>K3 _ q) c x λ h' t fl tup B up=>?_
 have j:eL X.prog X.w H (Eu s.heap (eX X.stack)):=λ a o e=>by
  refine(I.hok a o e).stay (λ b u r q=>AD _ q λ v=>?_) (λ _ z=>z) λ _ _ z=>z
  have C:=I.stkFree b v;simp_all
 obtain⟨w,y,A⟩:=Mi (H':=H) D.ex I (λ b o e n f=>AD _ e f) (λ b o e f=>⟨o,AD _ e f⟩) fl.1
  (λ b o r e n f=>up b o (x.keeps b o e) f) (λ b o e n=>n) (λ _ _ e=>e) (λ _ _ _ e=>e) (λ _ _ e=>e)
 exact⟨d,cls,.ref t,_,H,rfl,I.os,I.bare,w,j,fl,y,A,l⟩
def ia.own(D:ia X E):Am (model X.prog X.w) X.A X.env X.xe:=λ e s' h=>by
 rw[D.xe]at h ⊢;exact wpAny_leaving_again (SameStack.refl _) h
end
section
variable{P:bD}{w:World}{K:aB}{mg:Str->Option Value}{base:Heap}
def Fun.okX{st:Stmt}(F:Fun K x q st f fd)(S:cq N ps (bU st))(len:∀vs H Q E,sp vs H Q E->vs.length=ps.length)
  (h:∀(c:Value) (A:cg) (o:List Env) (s:ax) (H:au) (vs:List V) (Q:bC) (E:gj),gS k (A.deeper (jT q (bU st) s.heap.objs.size f c))->sp vs H Q E->
   ∃t,lh (o4 (eZ P w) P w K mg base N q (bU st) f c A o s H E) (lr st) t/\t {nx:=λ _ H'=>Q .non H',rt:=Q} (start N vs) H):gb P w K mg base (eZ P w) (k+1) f fd ps sp:=by
 obtain⟨e,g,eu,a,m,n,c,i,l,rfl,b,d⟩:=F.ex;exact SH b d S len λ A o s H vs Q E hr p=>h _ A _ s H vs Q E hr p
end
def wj(K:aB)(C:Addr):Prop:=K9 K C [.type "ValueError",.type "Exception",.type "BaseException",.type "object"] "ValueError.__new__"=true
def AZ{K:aB}(X:K.In h)(b:mg x=some (.ref C))(q:wj K C):OwnCls x C [.type "ValueError",.type "Exception",.type "BaseException",.type "object"] "ValueError.__new__" mg h:=by
 refine⟨b,?_⟩;unfold wj K9 at q;split at q
 .rename_i dd c sl e
  split at q
  .rename_i k bm k0 k1 k2 k3 n k5 m a
   simp only[cM,beq_iff_eq,zi]at q;obtain⟨⟨⟨⟨⟨rfl,rfl⟩,d⟩,t⟩,o⟩,i⟩:=q;obtain⟨nm,bs,r,ns,f,g,sn,sub,ab,col,j⟩:=c;dsimp only at m d o i;subst m d;have s:sl=#[k0,k1,k2,k3,some (.builtin "ValueError.__new__"),k5]:=by
    obtain⟨l⟩:=sl;simp only at a;rw[a]
   subst s;exact⟨bm,ns,nm,f,bs,g,sn,sub,ab,col,dd,k0,k1,k2,k3,k5,_,X _ _ e,.of_isNs (PySem.W.isNs_of_in X o),PySem.W.nsMap_none_of_in X o i,PySem.W.tail_of_in X t⟩
  .cases q
 .cases q
def TX(C:Addr)(E:gj)(t:fZ):hL:=λ _ Z H=>t Z H λ vs a=>vs.length<=aQ/\E (.ref C) none a
section
variable{X:aZ}{E:gj}
def TY(D:ia X E)(c:X.calm=true){rest:List Expr}(m:X.mg x=some (.ref C))(d:wj X.K C)(g:dA X x)
  (f:iM X (A::rest) ta)(e:bf (A::rest) X.env=(false,eval A X.env)::bf rest X.env:=by rfl)
  (p:(fW cpos (bf rest X.env)).any (·.1)=false:=by rfl)(i:Nd x:=by decide):
  iN X (.Raise (some (.Call (.Name x np) (A::rest) [] cpos)) none pos) (TX C E ta):=by
 intro k s Z H z I h;obtain⟨t,j,nm,q,bs,hdct,sn,sub,ab,col,dd,k0,k1,k2,k3,k5,mN,o,l,n,T⟩:=(AZ (h:=X.base) I.mod.kin m d).obj;have gB:=PySem.F.excBase_ValueError;refine wpAny_Raise_call_subU (C:=C) (nm:=nm) (q:=q) (N:=j) (bs:=bs) (bm:=t) (hdct:=hdct) (sn:=sn) (sub:=sub) (ab:=ab) (col:=col) (dd:=dd) (k0:=k0) (k1:=k1) (k2:=k2) (k3:=k3) (k5:=k5)
  gB gB.hasB gB (mN:=mN) (T.hasType gB.hasBase) (I.ok.hd c) (by rw[e];assumption) n
  (EA I g m ⟨rfl,?_⟩ i)
 have a:=f cpos k s Z H _ I h;rw[e]at a ⊢;refine Kh (g7 a (λ vs B r=>?_) λ _ _ y=>y);obtain⟨xs,F,b,v,hz,u⟩:=r;refine⟨rfl,by show vs.length<=aQ;rw[<-v.length];exact hz,b.bk _ _ o,l.keeps b.bk,T.keeps b.bk,λ h' G w=>D.raise b w u⟩
end
section
variable{κ:Type}[DecidableEq κ]
noncomputable def jy(v:List (κ×V))(k:κ):Option V:=(v.find? λ a=>decide (a.1=k)).map (·.2)
noncomputable def putK(s:List (κ×V))(k:κ)(v:V):List (κ×V):=
 if (s.any λ a=>decide (a.1=k))=true then s.map (λ a=>if a.1=k then(a.1,v)else a)else s++[(k,v)]
def xv{p:κ×V}{r:List (κ×V)}{k:κ}(e:p.1=k):jy (p::r) k=some p.2:=by simp[jy,e]
def xw{p:κ×V}{r:List (κ×V)}{k:κ}(e:¬p.1=k):jy (p::r) k=jy r k:=by simp[jy,e]
theorem Mj(k:κ):∀v:List (κ×V),(v.any λ a=>decide (a.1=k))=(jy v k).isSome
 |[]=>rfl
 |p::r=>by
  rw[wh];by_cases e:p.1=k
  .simp only[xv e,decide_eq_true e,CY,Di]
  .rw[xw e,decide_eq_false e];exact Mj k r
def xy(s:List (κ×V))(k:κ)(v:V):(putK s k v).length<=s.length+1:=by
 unfold putK;split<;>simp_all
def ku.isSome_eq{o:Option V}{u:Option Value}(r:ku o u):o.isSome=u.isSome:=by
 cases o with
 |none=>cases u with
  |none=>rfl
  |some _=>exact(r).elim
 |some _=>cases u with
  |none=>exact(r).elim
  |some _=>rfl
def fu.val{v:List (κ×V)}{vs:List (κ×Value)}(r:fu v vs)(k:κ):ku (jy v k) (ue vs k):=by
 induction r with
 |nil=>exact l4
 |@cons p q ps qs h t i=>
  obtain⟨c,d⟩:=h;by_cases e:p.1=k
  .have a:=c.symm.trans e
   have b:ue (q::qs) k=some q.2:=by simp[ue,a]
   rw[xv e,b];assumption
  .have a:¬q.1=k:=λ z=>e (c.trans z)
   have b:ue (q::qs) k=ue qs k:=by simp[ue,a]
   rw[xw e,b];assumption
theorem fu.any{v:List (κ×V)}{vs:List (κ×Value)}(r:fu v vs)(k:κ):(v.any λ a=>decide (a.1=k))=vs.any λ a=>decide (a.1=k):=by
 induction r<;>simp_all
def fu.repl{s:List (κ×V)}{vs:List (κ×Value)}(r:fu s vs)(k:κ){y:V}{u:Value}(a:RelV y u):
  fu (s.map λ v=>if v.1=k then(v.1,y)else v) (vs.map λ v=>if v.1=k then(v.1,u)else v):=by
 unfold fu at r ⊢;induction r with
 |nil=>exact .nil
 |@cons p q ps qs h t i=>
  rw[bu,bu];refine .cons ?_ i;obtain⟨b,c⟩:=h;by_cases e:p.1=k<;>simp_all
def fu.put{v:List (κ×V)}{vs:List (κ×Value)}(r:fu v vs)(k:κ){y:V}{u:Value}(a:RelV y u):fu (putK v k y) (ug vs k u):=by
 unfold putK ug;rw[r.any k];by_cases e:(vs.any λ b=>decide (b.1=k))=true
 .rw[if_pos e,if_pos e];exact r.repl k a
 .rw[if_neg e,if_neg e];exact KG r ⟨rfl,a⟩
theorem fu.length{k:List (κ×V)}{vs:List (κ×Value)}(r:fu k vs):k.length=vs.length:=Ay r
end
def rT{P:bD}{w:World}{k:bz}{u:Value}(r:RelV (eu k) u):(gR P w).is k u=true:=by
 cases k with
 |inl i=>obtain⟨t,e⟩:=(r);subst e;exact Rb P w i t
 |inr x=>obtain⟨t,e⟩:=(r);subst e;exact Rc P w x t
theorem Mk{P:bD}{w:World}:∀{ks:List bz} {u:List Value},Vals (ks.map eu) u->ItemsAre (gR P w) ks u
 |[],_,r=>by cases r;exact .nil
 |k::ks,_,r=>by
  cases r with
  |cons h t=>exact .cons (rT h) (Mk t)
abbrev kC(H:au):List (List bz×V)->List (List bz×Addr×Value)->Prop:=qq λ p q=>p.1=q.1/\H q.2.1=some (.tup (p.1.map eu))/\RelV p.2 q.2.2
def kC.val{H:au}{v:List (List bz×V)}{xs:List (List bz×Addr×Value)}(r:kC H v xs)(k:List bz):ku (jy v k) ((atKey xs k).map (·.2)):=by
 induction r with
 |nil=>exact l4
 |@cons p q ps qs h t i=>
  obtain⟨c,_,d⟩:=h;by_cases e:p.1=k
  .have a:=c.symm.trans e
   have b:atKey (q::qs) k=some q.2:=by simp[atKey,a]
   rw[xv e,b];assumption
  .have a:¬q.1=k:=λ z=>e (c.trans z)
   have b:atKey (q::qs) k=atKey qs k:=by simp[atKey,a]
   rw[xw e,b];simp_all
def kC.repl{H:au}{v:List (List bz×V)}{xs:List (List bz×Addr×Value)}(r:kC H v xs)(k:List bz){y:V}{u:Value}(b:RelV y u):
  kC H (v.map λ a=>if a.1=k then(a.1,y)else a) (xs.map (putAt k u)):=by
 induction r with
 |nil=>exact .nil
 |@cons p q ps qs h t i=>
  rw[bu,bu];refine .cons ?_ i;obtain⟨c,d,f⟩:=h;unfold putAt;by_cases e:p.1=k<;>simp_all
def kC.put{H:au}{v:List (List bz×V)}{xs:List (List bz×Addr×Value)}(r:kC H v xs)(k:List bz){b:Addr}{y:V}{u:Value}(h:H b=some (.tup (k.map eu)))(a:RelV y u):
  kC H (putK v k y) (storedH xs k b u):=by
 have e:(v.any λ c=>decide (c.1=k))=(atKey xs k).isSome:=by
  rw[Mj,(r.val k).isSome_eq,Dj]
 unfold putK storedH;rw[e];by_cases q:(atKey xs k).isSome=true
 .rw[if_pos q,if_pos q];exact r.repl k a
 .rw[if_neg q,if_neg q];exact KG r ⟨rfl,h,a⟩
def kC.keeps{H H':au}{k:List (List bz×V)}{xs:List (List bz×Addr×Value)}(r:kC H k xs)(h:∀b ys,H b=some (.tup ys)->H' b=some (.tup ys)):kC H' k xs:=
 Paired.mapP r λ _ _ z=>⟨z.1,h _ _ z.2.1,z.2.2⟩
section
variable{P:bD}{w:World}{H:au}{h:Heap}{a:Addr}
def Ml{u:HO}(ok:eL P w H h)(e:mL H a u):fY P w H h a u:=e.ok ok
def uF{k:List (bz×V)}(ok:eL P w H h)(e:mL H a (.dK k)):k.length<=aQ/\(a==iI)=false/\∃vs,fu k vs/\h.DictOf (gR P w) a vs:=
 Ml ok e
def uG{k:List (bz×V)}(ok:eL P w H h)(e:H a=some (.dK k)):k.length<=aQ/\(a==iI)=false/\∃vs,fu k vs/\h.DictOf (gR P w) a vs:=uF ok (.inl e)
def xA{ks:List bz}(ok:eL P w H h)(e:H a=some (.tup (ks.map eu))):(wI (gR P w)).is h ks a:=by
 obtain⟨_,i,r,o,b,c,n,d⟩:=(ok a _ e);exact⟨o,_,n,b,c,d,by simpa using Mk r⟩
def uH{k:List (List bz×V)}(ok:eL P w H h)(e:mL H a (.dT k)):k.length<=aQ/\(a==iI)=false/\
  ∃xs,kC H k xs/\h.DictOfH (wI (gR P w)) a xs:=by
 obtain⟨z,y,xs,r,o,es,ep,c,d,f,g,i⟩:=(Ml ok e);refine⟨z,y,xs,r,o,es,ep,c,d,f,g,λ x b=>?_,i⟩;have all:∀{l:List _} {m:List _},kC H l m->∀x∈m,(wI (gR P w)).is h x.1 x.2.1:=by
  intro l m q;induction q with
  |nil=>simp
  |@cons p q ps qs n t j=>
   intro x b;rcases b8.mp b with e|b
   .subst e
    exact xA ok (by simp_all)
   .exact j x b
 exact all r x b
def TZ{k:List (List bz×V)}(ok:eL P w H h)(e:H a=some (.dT k)):k.length<=aQ/\(a==iI)=false/\
  ∃xs,kC H k xs/\h.DictOfH (wI (gR P w)) a xs:=uH ok (.inl e)
end
def lu(H:au)(a:Addr)(y:V)(r:Option V):Prop:=
 (∃v k,mL H a (.dK v)/\y=eu k/\r=jy v k)\/∃v k b,mL H a (.dT v)/\y= .ref b/\H b=some (.tup (k.map eu))/\r=jy v k
def uI(H:au)(a:Addr)(y v:V)(H':au):Prop:=
 (∃s k,H a=some (.dK s)/\y=eu k/\s.length<aQ/\H'=bt H a (.dK (putK s k v)))\/
 ∃s k b,H a=some (.dT s)/\y= .ref b/\H b=some (.tup (k.map eu))/\s.length<aQ/\H'=bt H a (.dT (putK s k v))
theorem lu.k{H:au}{a:Addr}{v:List (bz×V)}{k:bz}(e:H a=some (.dK v)):lu H a (eu k) (jy v k):=.inl ⟨_,k,.inl e,rfl,rfl⟩
theorem uI.k{H:au}{a:Addr}{s:List (bz×V)}{k:bz}{v:V}(e:H a=some (.dK s))(h:s.length<aQ):uI H a (eu k) v (bt H a (.dK (putK s k v))):=.inl ⟨_,k,e,rfl,h,rfl⟩
section
variable{X:aZ}{d:bZ}{Z:St}{H:au}{s:ax}{a:Addr}{y v:V}{u r:Value}{o:Option V}{A:cg}{E:Value->ax->Prop}
def Inv.big(I:Inv X d Z H s):iI<s.heap.objs.size:=by
 have h:=(I.mod.glob.keeps I.bk).lt;exact qd (by decide) h
def T3{Q:Value->ax->Prop}(o:A.units+1<cLine)(I:Inv X d Z H s)(g:lu H a y (some v))(n:RelV y u)(h:∀c s',Inv X d Z H s'->RelV v c->Q c s'):
  wpAny (model X.prog X.w) A (k8 (.ref a) u) Q E s:=by
 rcases g with ⟨f,k,e,i,l⟩|⟨f,k,b,e,i,q,l⟩
 .subst i
  obtain⟨z,t,vs,r,dd⟩:=uF I.hok e;obtain⟨c,j,w⟩:=ku.some_of (by rw[l];exact r.val k);exact wpAny_getItem_of (rT n) dd.mapOf j (h c _ (I.tok _) w)
 .subst i
  cases (n);obtain⟨z,t,xs,r,dd⟩:=uH I.hok e;obtain⟨c,j,w⟩:=ku.some_of (by rw[l];exact r.val k);obtain⟨p,ah,m⟩:=zZ.mp j;refine wpAny_getItem_heap (Ad o) (xA I.hok q) dd ah ?_;rw[m];exact h c _ (I.tok _) w
def T4{Q:Value->ax->Prop}(j:A.units+1<cLine)(I:Inv X d Z H s)(g:lu H a y o)(i:RelV y u)(h:∀s',Inv X d Z H s'->Q (.bool o.isSome) s'):
  wpAny (model X.prog X.w) A (dP .In u (.ref a)) Q E s:=by
 rcases g with ⟨v,k,e,c,l⟩|⟨v,k,b,e,c,m,l⟩
 .subst c
  obtain⟨z,f,vs,r,dd⟩:=uF I.hok e;refine wpAny_in_of (rT i) f dd.mapOf ?_;rw[<-(r.val k).isSome_eq,<-l];exact h _ (I.tok _)
 .subst c
  cases (i);obtain⟨z,f,xs,r,dd⟩:=uH I.hok e;refine wpAny_in_heap (Ad j) (xA I.hok m) f dd ?_;have q:=(r.val k).isSome_eq;rw[Dj]at q;rw[<-q,<-l];exact h _ (I.tok _)
def T5{Q:Value->ax->Prop}(j:A.units+1<cLine)(I:Inv X d Z H s)(g:lu H a y o)(i:RelV y u)(h:∀s',Inv X d Z H s'->Q (.bool (!o.isSome)) s'):
  wpAny (model X.prog X.w) A (dP .NotIn u (.ref a)) Q E s:=by
 rcases g with ⟨v,k,e,c,l⟩|⟨v,k,b,e,c,m,l⟩
 .subst c
  obtain⟨z,f,vs,r,dd⟩:=uF I.hok e;refine wpAny_notIn_of (rT i) f dd.mapOf ?_;rw[<-(r.val k).isSome_eq,<-l];exact h _ (I.tok _)
 .subst c
  cases (i);obtain⟨z,f,xs,r,dd⟩:=uH I.hok e;refine wpAny_notIn_heap (Ad j) (xA I.hok m) f dd ?_;have q:=(r.val k).isSome_eq;rw[Dj]at q;rw[<-q,<-l];exact h _ (I.tok _)
def E3{h':Heap}{t':Nat}{ob:HO}(I:Inv X d Z H s)(m:w6 (H a))(h:qu a s.heap h')(e:∃q,h'.get? a=some q)(n:fY X.prog X.w (bt H a ob) h' a ob):
  Inv X d Z (bt H a ob) {s with heap:=h',toks:=t'}:=
 I.write m (.inl rfl) (λ b q c z=>(h.2 b c).trans z) e n
def E4{P:bD}{w:World}{H':au}{h':Heap}{k:List (bz×V)}{vs:List (bz×Value)}(z:k.length<=aQ)(h:(a==iI)=false)(r:fu k vs)(dd:h'.DictOf (gR P w) a vs):
  fY P w H' h' a (.dK k):=⟨z,h,vs,r,dd⟩
def T6{H':au}{Q:Unit->ax->Prop}(F:A.units+1<cLine)(I:Inv X d Z H s)(g:uI H a y v H')(x:RelV y u)(B:RelV v r)(h:∀s',Inv X d Z H' s'->Q () s'):
  wpAny (model X.prog X.w) A (setItem (.ref a) u r) Q E s:=by
 rcases g with ⟨f,k,e,n,l,o⟩|⟨f,k,b,e,n,C,l,o⟩
 .subst n o
  obtain⟨z,p,vs,i,dd⟩:=uG I.hok e;have hz:vs.length<=aQ:=by rw[<-i.length];exact z
  have t:(putK f k v).length<=aQ:=by have:=xy f k v;omega
  refine wpAny_setItem_pairs (hsz:=hz) (rT x) dd λ h' j w=>h _ ?_
  have G:∃q,h'.get? a=some q:=let⟨q,_,_,m,_⟩:=j;⟨q,m⟩
  exact E3 I (by rw[e];exact l4) w G (E4 t p (i.put k B) j)
 .subst n o
  cases (x);obtain⟨z,p,xs,i,dd⟩:=TZ I.hok e;have hz:xs.length<=aQ:=by rw[<-Ay i];exact z
  have t:(putK f k v).length<=aQ:=by have:=xy f k v;omega
  refine wpAny_setItem_heap (hsz:=hz) (Ad F) (xA I.hok C) dd λ h' j w=>h _ ?_
  obtain⟨q,es,ep,m,J,K,L,_,M⟩:=j;refine E3 I (by rw[e];exact l4) w ⟨q,m⟩ ⟨t,p,_,(i.put k C B).keeps λ c ys D=>?_,q,es,ep,m,J,K,L,M⟩;rw[cp (Rd D e (λ z=>nomatch z))];exact D
end
def Mm(i:Expr):Prop:=∀o v,Al i false o v=operate [o,v] (k8 o v)
def T7{prog:bD}{w:World}{A:cg}{E:Value->ax->Prop}{s:ax}{env:Env}{v l:Expr}{pos:Pos}{T d:String}{Q:Value->ax->Prop}
  (b:qj (.type T) "__getitem__"=pure (some (.builtin d)))(c:Mm l)
  (h:wpAny (model prog w) A (eval v env) (λ o C=>wpAny (model prog w) A (eval l env) (λ i z=>z.TypeIs o T/\wpAny (model prog w) A (k8 o i) Q E z) E C) E s):
  wpAny (model prog w) A (eval (.Subscript v l pos) env) Q E s:=by
 refine z7 (g7 h (λ o C e=>g7 e (λ i z y=>?_) λ _ _ x=>x) λ _ _ x=>x);obtain⟨g,y⟩:=y;refine av ?_;refine av (DM g b ?_);have f:wpAny (model prog w) A (Al l false o i) (λ r a=>wpAny (model prog w) A (letTemporaryGo v o r>>=λ _=>pure r) Q E a) E z:=by
  rw[c o i];exact wpAny_operating (g7 y (λ r a B=>av (wpAny_letTemporaryGo (aL B))) λ _ _ x=>x)
 first
  |exact aL (av f)
  |lia
  |simp_all
def T8{X:aZ}{Q:bZ}{Z:St}{H:au}{s:ax}{a:Addr}{y:V}{o:Option V}(I:Inv X Q Z H s)(g:lu H a y o):s.TypeIs (.ref a) "dict":=by
 rcases g with ⟨v,k,e,_,_⟩|⟨v,k,b,e,_,_,_⟩
 .obtain⟨_,_,vs,_,dd⟩:=uF I.hok e
  exact dd.typeIs
 .obtain⟨_,_,xs,_,dd⟩:=uH I.hok e
  exact dd.typeIs
def T9(t ty:bw):bw:=λ Z H Q=>t Z H λ x c=>ty Z c λ y b=>∃a v,x= .ref a/\lu b a y (some v)/\Q v b
def E5(t ty c:bw):hL:=λ D Z H=>c Z H λ v d=>t Z d λ x e=>ty Z e λ y f=>∃a b,x= .ref a/\uI f a y v b/\D.nx Z b
section
variable{X:aZ}{o i l:Expr}{pos p:Pos}{t ty b:bw}
def Mn(c:X.A.units+1<cLine)(d:bq X o t)(e:bq X i ty)(f:Mm i):bq X (.Subscript o i pos) (T9 t ty):=by
 intro B s Z H Q I h;refine T7 PySem.F.slot_dict_getitem.lookup f (aX (d _ s Z H _ I h) λ u j ⟨x,k,l,m,q⟩=>aX (e _ j Z k _ l q) λ C s2 ⟨y,n,b,p,a,v,w,g,z⟩=>?_);subst w;obtain rfl:u=fX a:=m;exact⟨T8 b g,T3 c b g p λ D s3 A r=>⟨v,n,A,r,z⟩⟩
def Mo(c:X.A.units+1<cLine)(d:bq X o t)(e:bq X i ty)(f:bq X l b)(j:i8 l (some (.Subscript o i p)) pos.line X.env=pure false):
  iN X (.Assign [.Subscript o i p] l pos) (E5 t ty b):=by
 intro Q s Z H D I h;refine wpAny_Assign_Subscript (aX (f _ s Z H _ I h) λ r k ⟨v,m,n,q,w⟩=>aX (d _ k Z m _ n w) λ u s2 ⟨x,z,A,B,C⟩=>aX (e _ s2 Z z _ A C) λ M s3 ⟨y,N,E,F,a,G,J,g,K⟩=>?_) j;subst J;obtain rfl:u=fX a:=B;exact T6 c E g F q λ s4 L=>⟨Z,G,L,K⟩
end
def Ua{P:bD}{w:World}{H:au}(h:Heap)(b:iI<h.objs.size):fY P w H (h.push {cls:=.type "dict",data:=.dict #[]}) h.objs.size (.dK []):=
 ⟨dI _,beq_eq_false_iff_ne.mpr (ir (cC b)),[],.nil,KC h⟩
def Mp:bw:=λ _ H Q=>∀p,H p=none->Q (.ref p) (bt H p (.dK []))
section
variable{X:aZ}{pos:Pos}
def Ub:bq X (.Dict [] [] pos) Mp:=λ k s Z H Q I h=>
 wpAny_Dict_empty ⟨.ref _,_,I.laid (λ _ _ q=>bM _ q) (bJ _) (Ua _ I.big),rfl,h _ (I.hok.fresh (bJ _))⟩
end
end L2
namespace Att
open PySem PySem.W PySem.Calls PyProof.Rows
end Att
namespace L2
open PySem PySem.Spec PyProof.Rows
section
variable{κ:Type}[DecidableEq κ]
end
section
variable{κ:Type}[DecidableEq κ]
end
def Uc(H:au)(a:Addr):Prop:=(∃k,mL H a (.dK k))\/∃k,mL H a (.dT k)
def Ud{X:aZ}{Q:bZ}{Z:St}{H:au}{s:ax}{a:Addr}(I:Inv X Q Z H s)(d:Uc H a):
  s.TypeIs (.ref a) "dict"/\(∀b,fX a= .ref b->∃ob,s.heap.get? b=some ob/\ob.dict=none)/\(a==iI)=false:=by
 rcases d with ⟨k,e⟩|⟨k,e⟩
 .obtain⟨_,h,vs,_,dd⟩:=uF I.hok e
  refine⟨dd.typeIs,λ b q=>?_,h⟩;cases q;obtain⟨ob,_,_,c,f,_⟩:=dd;exact⟨ob,c,f.2.1⟩
 .obtain⟨_,h,xs,_,dd⟩:=uH I.hok e
  refine⟨dd.typeIs,λ b q=>?_,h⟩;cases q;obtain⟨ob,_,_,c,f,_⟩:=dd;exact⟨ob,c,f.2.1⟩
end L2
namespace Att
open PySem PySem.W PySem.Calls PyProof.Rows
end Att
namespace L2
open PySem PySem.Spec PyProof.Rows
section
variable{κ:Type}[DecidableEq κ]
end
section
variable{X:aZ}
structure Ue(X:aZ)(P:Addr):Prop where
 ta:∃o,X.ta=[(P,o)]
 ex:P∈X.ex
 tq:X.tq=X.env.qual++"<lambda>"
 code:∃c,X.env.code= .ref c/\PySem.W.CodeHd X.base c P
 blt:X.base.BuiltinsAt X.mg P
 gne:dv≠P
end
abbrev A3:List Value:=[.type "ValueError",.type "Exception",.type "BaseException",.type "object"]
section
variable{prog:bD}{w:World}{A:cg}{E:Value->ax->Prop}{h:Heap}{g:Array Du}{d:Drawn}{t:Nat}{os:OsState}{a:Addr}{o:Obj}
 {nm q:Str}{C N:Addr}{bs bm:List Value}{hdct:Bool}{sn:List Str}{sub:List Value}{ab:Bool}{col:Option Bool}{dd:Option Addr}{k0 k1 k2 k3 k5:Option Value}{I:String}{K:aB}
def Ug{R:mG->ax->Prop}(f:h.get? C=some (Ai nm q C N bs bm hdct sn sub ab col dd k0 k1 k2 k3 k5 I))(T:OwnTail h A3 bm)
  (x:h.get? a=some o)(e:o.cls= .ref C)(i:R (.ok (.ret (.ref C))) ⟨h,g,d,t,os⟩):
  fV (model prog w) A (.call (.builtin "getset_descriptor.__get__") ⟨[.builtin "object.__class__",.ref a,.ref C],[]⟩) R ⟨h,g,d,t,os⟩:=by
 have c:(⟨h,g,d,t,os⟩:ax).TypeIs (.builtin "object.__class__") "getset_descriptor":=Ef;have B:(fX C::bm).contains (.type (".".intercalate ("object.__class__".cutAt '.').dropLast))=true:=by
  rw[F.owner_object_class,Jk,T.hasType (X:="object") (b:=true) (by f_are)];rfl
 refine DA Eg.plain F.entry_gs_get (Eg.check _ _ _ _ _ _ _ _ c (F.args_gs_get _ _ _) ?_)
 repeat (any_goals (first|assumption|(with_reducible refine wA x ?_;rw[e])|(with_reducible refine J4 f ?_;rw[B])|wp_step))
 refine⟨wK _ (by f_are),mE F.entry_object_class ?_⟩
 repeat (any_goals (first|assumption|(with_reducible refine wA x ?_;rw[e])|wp_step))
def Uh{M:Model}{n:Value}{Q:Unit->ax->Prop}(e:h.get? C=some (Ai nm q C N bs bm hdct sn sub ab col dd k0 k1 k2 k3 k5 I))(T:OwnTail h A3 bm)
  (x:h.get? a=some o)(f:o.cls= .ref C)(i:Q () ⟨h,g,d,t,os⟩):wpAny M A (DG "BaseException.__getattribute__" ⟨[.ref a,n],[]⟩) Q E ⟨h,g,d,t,os⟩:=by
 have k:builtinKind "BaseException.__getattribute__"=some .slot:=by f_are
 have j:splitId "BaseException.__getattribute__"=some ("BaseException","__getattribute__"):=by f_are
 have c:(fX C::bm).contains (.type "BaseException")=true:=by rw[Jk,T.hasType (X:="BaseException") (b:=true) (by f_are)];rfl
 have l:=F.args_bexc_ga (.ref a) n;simp only[DG,k,j];refine av ?_
 .unfold isInstance
  repeat (first|(with_reducible refine wA x ?_;rw[f])|(with_reducible refine J4 e ?_;rw[c])|wp_step)
  exact i
def Ui{k:Tok}{Q:Fin->ax->Prop}(b:h.get? C=some (Ai nm q C N bs bm hdct sn sub ab col dd k0 k1 k2 k3 k5 I))(T:OwnTail h A3 bm)(l:∀M:Model,AF M h (qj (.ref C) "__class__") (some (.builtin "object.__class__")))
  (x:h.get? a=some o)(c:o.cls= .ref C)(f:Q (.done (.ret (.ref C))) ⟨h,g,d,t,os⟩):
  wpAny (model prog w) A (hY.«object.__getattribute__» ⟨[.ref a,.str "__class__" k],[]⟩) Q E ⟨h,g,d,t,os⟩:=by
 have e:(⟨h,g,d,t,os⟩:ax).TypeIs (.builtin "object.__class__") "getset_descriptor":=Ef;have i:=Ef;have j:=Eg.lookup;have m:=F.slot_gs_set.lookup
 repeat (any_goals (first|assumption|(with_reducible refine wA x ?_;rw[c])|with_reducible refine(l _).here ?_|wp_step))
 refine Ug b T x c ?_
 repeat (any_goals (first|assumption|wp_step))
def Uj{Q:Option Value->ax->Prop}(f:h.get? C=some (Ai nm q C N bs bm hdct sn sub ab col dd k0 k1 k2 k3 k5 I))(T:OwnTail h A3 bm)(l:∀M:Model,AF M h (qj (.ref C) "__class__") (some (.builtin "object.__class__")))
  (i:∀M:Model,AF M h (qj (.ref C) "__getattribute__") (some (.builtin "BaseException.__getattribute__")))(n:∀M:Model,AF M h (qj (.ref C) "__getattr__") none)
  (x:h.get? a=some o)(c:o.cls= .ref C)(j:Q (some (.ref C)) ⟨h,g,d,t+1,os⟩):wpAny (model prog w) A (Ap (.ref a) "__class__") Q E ⟨h,g,d,t,os⟩:=by
 have b:∀{E:Value->ax->Prop} {t:Nat} {k:Tok} {Q:Value->ax->Prop},Q (.ref C) ⟨h,g,d,t,os⟩->wpAny (model prog w) A (getAttrBy (.ref a) (.str "__class__" k) false) Q E ⟨h,g,d,t,os⟩:=by
  intro E t k Q j;have gB:=PySem.F.excAttr_ValueError;have r:=gB.ga.bind (.ref a);have m:(false&&onTheHeap (ui "BaseException.__getattribute__"))=false:=rfl;have e:(ui "BaseException.__getattribute__"==ui "object.__getattribute__")=false:=by f_are
  have p:(onTheHeap (fX C)&&ui "BaseException.__getattribute__"==ui "object.__getattribute__")=false:=by rw[e];rfl
  repeat (any_goals (first|assumption|(with_reducible refine wA x ?_;rw[c])|with_reducible refine(i _).here ?_|with_reducible refine(n _).here ?_|wp_step))
  refine DA gB.ga.plain F.entry_bexc_ga (Uh f T x c (Ui f T l x c ?_))
  repeat (any_goals (first|assumption|wp_step))
 unfold Ap getAttrBy?
 repeat (any_goals (first|assumption|with_reducible apply b|wp_step))
def Uk(c:wj K C)(m:l3 K (.ref C) "__class__"=some (some (.builtin "object.__class__")))(f:l3 K (.ref C) "__getattribute__"=some (some (.builtin "BaseException.__getattribute__")))
  (i:l3 K (.ref C) "__getattr__"=some none):PySem.W.KitX K (.ref a) (.ref C) (λ h=>∃o,h.get? a=some o/\o.cls= .ref C) where
 ty:=λ M h _ ⟨o,j,l⟩=>l▸(Q2 j).andThen .now
 it:=λ M h X _=>by
  obtain⟨bm,N,nm,q,bs,hdct,sn,sub,ab,col,dd,k0,k1,k2,k3,k5,mN,b,_⟩:=(AZ (h:=h) (mg:=λ _=>some (.ref C)) (x:="x") X rfl c).obj;intro A' y B s' k q;unfold isType loadHead;exact av (wpAny_loadPart (k _ _ b) (aL q))
 ne:=λ h r dd u n sl X p=>by
  obtain⟨bm,N,nm,q,bs,hdct,sn,sub,ab,col,dd,k0,k1,k2,k3,k5,mN,b,_⟩:=(AZ (h:=h) (mg:=λ _=>some (.ref C)) (x:="x") X rfl c).obj;refine IS.mpr λ z=>?_
  have e:C=r:=Value.ref.inj (beq_iff_eq.mp z);subst e;rw[b]at p;exact absurd (congrArg Obj.cls (i7 p)) (by show mJ "type"≠mJ "tuple";f_are)
 ca:=λ{prog w A E Q s} X ⟨o,j,l⟩ k=>by
  obtain⟨h,g,d,t,os⟩:=s;obtain⟨bm,N,nm,q,bs,hdct,sn,sub,ab,col,dd,k0,k1,k2,k3,k5,mN,b,D,v,T⟩:=(AZ (h:=h) (mg:=λ _=>some (.ref C)) (x:="x") X rfl c).obj;exact Uj b T (λ M=>AC X m) (λ M=>AC X f) (λ M=>AC X i) j l k
end
def excφ(a C:Addr):Heap->Prop:=λ h=>∃o,h.get? a=some o/\o.cls= .ref C
structure Ul(K:aB)(C:Addr):Prop where
 ex:wj K C
 ca:l3 K (.ref C) "__class__"=some (some (.builtin "object.__class__"))
 gt:l3 K (.ref C) "__getattribute__"=some (some (.builtin "BaseException.__getattribute__"))
 ga:l3 K (.ref C) "__getattr__"=some none
section
variable{X:aZ}
def Mq(K:aB):List V->au->bC->Prop:=λ xs H Q=>∃a C y c b,xs=[.ref a,y]/\RelV y c/\H a=some (.ext (excφ a C))/\Ul K C/\w4 K (.ref C) c=some b/\Q (.bl b) H
def Um:fM X (.builtin "isinstance") (Mq X.K):=by
 intro l s Z H xs m Q I r h;obtain⟨a,C,y,c,b,rfl,d,g,k,e,q⟩:=h;obtain⟨u,w,rfl,i,f⟩:=vals2 r;cases i;have j:w=c:=by
  cases y<;>first
   |(cases f;cases d;rfl)
   |(obtain⟨n,rfl⟩:=f;obtain⟨o,rfl⟩:=d;exact absurd e (by simp[w4,PySem.W.kitCls]))
 subst j;obtain⟨p,_⟩:excφ a C s.heap/\_:=I.hok a _ g;exact kr (Uk k.ex k.ca k.gt k.ga) I.kIn p e (λ z=>nomatch z) λ t=>⟨.bl b,H,I.tok t,rfl,q⟩
end
structure Un(k:Nat)(A:cg):Prop where
 dp:A.depth+3*k+5<DQ
 un:A.units+16*k+200<cLine
structure abG(P:bD)(w:World)(K:aB)(mg:Str->Option Value)(base:Heap)(k:Nat)(f:Addr)(fd:bO)(ps:List Str)(sp:lq):Prop where
 len:∀vs H Q E,sp vs H Q E->vs.length=ps.length
 run:∀(A:cg) (outer:List Env) (s:ax) (H:au) (args:Args) (us:List Value) (vs:List V) (Q:bC) (E:gj),Un k A->xh P w K mg base A outer s H->qm s fd args (ps.zip us)->Vals vs us->sp vs H Q E->
  fV (model P w) A (.call (.ref f) args) (LJ Ti outer P w H s Q E) s
def Uo(K:aB)(c:V):bw:=mO (Mq K) (gm (g8 0) (gm (nR c) jX))
section
variable{X:aZ}{n0 n1 n2 F:Str}{c1 c2:V}{k1 k2 k3 k4:List V}{l1 l2:List Str}{a1 a2:Expr}{K J e1 e2 e3 e4 N M:List Expr}{I G:List iK}{Q:bC}{H:au}{vs:List V}
 {p1 p2 p3 p4 p5 p6 p7 Z Y E D C B A z y x w v u t s r q o n m l k j i h g f e d c b a p:Pos}{W U T S R P O:Pos}{j1 j2 j3 j4 j5:Nat}{EW:gj}{L:Addr->Option Str}
end
structure rU(d:Nat)(e tg iter:Expr)(ifs:List Expr)(body:Env->Addr->Sem Unit):Prop where
 under:∀(A:cg) (it:Value) (D:Addr) (env:Env),A.under (.compLoop e d it (.ref D) env)=A
 den:∀(prog:bD) (w:World) (it:Value) (D:Addr) (env:Env),(model prog w).den (.compLoop e d it (.ref D) env)=(Ao e d it (.ref D) env).onRaise (λ x=>do noteFrame x env;theTreesLotGoes x)
 turn:∀(it:Value) (D:Addr) (env:Env),Ao e d it (.ref D) env=(do
   oT iter.pos
   match <-jv it with
   |none=>pure (.done .next)
   |some v=>
    tY tg it v
    lX tg env v
    let mut ok:=true
    for c in ifs do if ok then ok <-isTrue c env (eval c env)
    if ok then
     body env D
    again (.compLoop e d it (.ref D) env))
section
variable{s:ax}{A:cg}{prog:bD}{w:World}{R:mG->ax->Prop}
def Mr{D:Addr}(f:rU d e tg iter ifs body)(I:Nat->ax->Prop)
  (one:∀n s,I n s->wpAny (model prog w) A (jv it) (λ r z=>match r with
   |none=>R (.ok .next) z
   |some v=>wpAny (model prog w) A (tY tg it v) (λ _ z=>wpAny (model prog w) A (lX tg env v) (λ _ i=>
     wpAny (model prog w) A (forIn ifs true λ c r=>if r=true then do let ok <-isTrue c env (eval c env);pure (pR ok)else pure (pR r)) (λ ok g=>if ok=true then wpAny (model prog w) A (body env D) (λ _ a=>∃m,m<n/\I m a) (λ _ _=>False) g
      else∃m,m<n/\I m g) (λ _ _=>False) i) (λ _ _=>False) z) (λ _ _=>False) z) (λ _ _=>False) s)
  (n:Nat)(h:I n s):fV (model prog w) A (.compLoop e d it (.ref D) env) R s:=by
 refine codeAny_loop rfl I (λ n s J=>?_) n h;rw[f.under,f.den];refine wpAny_noted ?_;rw[f.turn];refine av (ub (av (g7 (one n s J) (λ r z y=>?_) λ _ _ h'=>h'.elim)));cases r with
 |none=>exact aL y
 |some v=>
  refine av (g7 y (λ _ z y=>?_) λ _ _ h'=>h'.elim);refine av (g7 y (λ _ i j=>av (g7 j (λ ok g B=>?_) λ _ _ h'=>h'.elim)) λ _ _ h'=>h'.elim);cases ok with
  |false=>exact aL (CS rfl B)
  |true=>exact av (g7 B (λ _ T b=>aL ⟨rfl,b⟩) λ _ _ h'=>h'.elim)
end
def xB(d:Nat)(e:Expr):Prop:=∀{prog:bD} {w:World} {A:cg} {R:mG->ax->Prop} {s:ax} {i acc:Value} {env:Env},
  fV (model prog w) A (.compLoop e d i acc env) R s->
  wpAny (model prog w) A (oU i) (λ t s'=>fV (model prog w) A (.compLoop e d t acc env) R s') (notedBy (model prog w) A env λ x s'=>R (.error x) s') s->
  fV (model prog w) A (.compStart e d i acc env) R s
structure A4(prog:bD)(w:World)(mk:Sem Value)(obs:Obj->Prop)(o:Addr->HO):Prop where
 make:∀{A:cg} {Q:Value->ax->Prop} {E:Value->ax->Prop} {s:ax},(∀ob,obs ob->Q (.ref s.heap.objs.size) {s with heap:=s.heap.push ob})->wpAny (model prog w) A mk Q E s
 live:∀ob,obs ob->ob.isFreed=false
 ok:∀{H:au} {h:Heap} {a:Addr} {ob:Obj},obs ob->h.get? a=some ob->iI<a->fY prog w H h a (o a)
def uJ(X:aZ)(b:Env->Addr->Sem Unit)(t:Addr->St->au->(au->Prop)->Prop):Prop:=
 ∀(D:Addr) (k:bZ) (s:ax) (Z:St) (H:au) (Q:au->Prop),Inv X k Z H s->t D Z H Q->wpAny (model X.prog X.w) X.A (b X.env D) (λ _ s'=>∃H',Inv X k Z H' s'/\Q H') X.xe s
def Up(I:Inv X kQ Z H s):iI<s.heap.objs.size:=
 qd (by decide) (I.mod.glob.keeps I.bk).lt
def E6(o:Addr->HO)(w:iS)(st:St->St)(g:iP)(t:gk)(h:Addr->St->au->(au->Prop)->Prop):bw:=λ Z H Q=>w Z H λ J c=>∀l,c l=none->∃W:Nat->Nat->au->Prop,(∃m,W 0 m (bt c l (o l)))/\
 ∀i m a,W i m a->((J.stop i a/\Q (.ref l) a)\/(J.go i a/\∀x d,J.yld i a x d->g x (st Z) d λ e j=>t e j λ ok f=>
  if ok=true then h l e f λ k=>∃b,b<m/\W (i+1) b k else∃b,b<m/\W (i+1) b f))
section
variable{X:aZ}{e a t:Expr}{f:List Expr}{scope:Scope}{N:List Str}{st:St->St}{ks:List Nat}{F:iS}{g:iP}{w:gk}{d:Env->Addr->Sem Unit}{A:Addr->St->au->(au->Prop)->Prop}{pos:Pos}{mk:Sem Value}{j:Obj->Prop}{o:Addr->HO}
def Uq(B:l9 X scope N st ks)(hc:X.calm=true)(hT:rU 0 e a t f d)(hS:xB 0 e)(hA:A4 X.prog X.w mk j o)(hg:∀C s S P,l5 (X.block scope C N s S P) a g)(hgo:ma g ks)(ht:∀C s S P,o6 (X.block scope C N s S P) f w)
  (he:∀C s S P,uJ (X.block scope C N s S P) d A){Q:bC}{RR:Value->Addr->mG->ax->Prop}
  (I:Inv X kQ Z H1 zI)(T:Turn X.prog X.w X.K a J s it tn)(h0:tn 0 zI.heap)(R:∀b∈s,jW X kQ H1 b)
  (h:∀l,H1 l=none->∃W:Nat->Nat->au->Prop,(∃m,W 0 m (bt H1 l (o l)))/\
   ∀i m H,W i m H->((J.stop i H/\Q (.ref l) H)\/(J.go i H/\∀x H3,J.yld i H x H3->g x (st Z) H3 λ Z4 H4=>w Z4 H4 λ ok U=>
    if ok=true then A l Z4 U λ H6=>∃G,G<m/\W (i+1) G H6 else∃G,G<m/\W (i+1) G U)))
  (hRR:∀D C H' s',(∃Z',Inv (X.block scope C N s zI H1) [] Z' H' s')->zI.heap.objs.size<=C->Q (.ref D) H'->RR (.ref D) C (.ok .next) s'):
  wpAny (model X.prog X.w) X.A mk (λ acc y8=>wpAny (model X.prog X.w) X.A (DP scope X.env.globals (eN scope X.env) [] X.env.qual none .none (some X.env)) (λ K yT=>
   fV (model X.prog X.w) X.A (.compStart e 0 (.ref it) acc {K with scope:=qp scope X.env}) (RR acc K.locals) yT) E y8) E zI:=by
 refine hA.make λ ob V=>Mf λ Y y3 y7 yY=>?_
 dsimp only at y3 y7 yY ⊢;generalize M:zI.heap.push ob=P2 at y3 y7 yY ⊢;have hC:P2.objs.size=zI.heap.objs.size+1:=by rw[<-M,k9]
 have hDC:zI.heap.objs.size≠P2.objs.size:=by rw[hC];exact cC (nF _)
 have oQ:zI.heap.objs.size<=P2.objs.size:=by rw[hC];exact nG _
 have old:∀b o,zI.heap.get? b=some o->Y.get? b=some o:=λ b o e=>y7 b o (M▸bM _ e)
 have aE:Y.get? zI.heap.objs.size=some ob:=y7 _ _ (M▸dy _ (hA.live ob V));generalize hCe:P2.objs.size=C at y3 y7 yY hDC oQ hC ⊢;have hHD:H1 zI.heap.objs.size=none:=I.hok.fresh (bJ _);have I0:Inv (X.block scope C N s zI H1) [] (st Z) (bt H1 zI.heap.objs.size (o zI.heap.objs.size)) {zI with heap:=Y,toks:=zI.toks}:=
  I.block B R (λ b y=>by obtain⟨o,e,_⟩:=T.obj 0 _ h0 b y;exact⟨o,e⟩) (bJ _) oQ hDC old y3 yY (λ c hc=>cC (zU oQ hc)) (hA.ok V aE (Up I))
 obtain⟨W,⟨m0,w0⟩,step⟩:=h _ hHD;have h01:tn 0 Y:=T.keep 0 _ _ h0 λ b _ o e=>old b o e
 have aI:∀{H':au},(∀b∈s,H' b=none)->∀b∈s,jW (X.block scope C N s zI H1) [] H' b:=λ{H'} hn b y=>
  ⟨hn b y,(I0.ok.exf b y).1,I0.ok.exfs b y,.inl y,λ x c e=>(I0.ok.exf b y).2 x c e,λ p ah=>absurd (show p∈([]:bZ)from ah) (by simp)⟩
 have fr0:∀b∈s,bt H1 zI.heap.objs.size (o zI.heap.objs.size) b=none:=λ b y=>by
  obtain⟨o,e,_⟩:=T.obj 0 _ h0 b y;rw[cp (cC (cb e))];exact(R b y).1
 have L:∀sx:ax,sx={zI with heap:=Y,toks:=zI.toks}->
   fV (model X.prog X.w) X.A (.compLoop e 0 (.ref it) (.ref zI.heap.objs.size) (X.block scope C N s zI H1).env) (RR (.ref zI.heap.objs.size) C) sx:=by
  rintro sx rfl;refine Mr hT (λ n s'=>∃i H,Inv (X.block scope C N s zI H1) [] (st Z) H s'/\tn i s'.heap/\(∀b∈s,H b=none)/\W i n H) ?_ m0 ⟨0,_,I0,h01,fr0,w0⟩;rintro n s3 ⟨i,H,I2,st2,fr2,w2⟩;rcases step i n H w2 with ⟨stop,q⟩|⟨go,nxt⟩
  .refine aX (T.done (X.block scope C N s zI H1) rfl rfl rfl hc i [] s3 (st Z) H _ I2 (aI fr2) st2 stop) λ r s4 ⟨hr,I4⟩=>?_
   subst hr;exact hRR _ C H s4 ⟨_,I4⟩ oQ q
  .refine aX (T.item (X.block scope C N s zI H1) rfl rfl rfl hc i [] s3 (st Z) H _ I2 (aI fr2) st2 go) λ r s4 ⟨u,hr,h4⟩=>?_
   subst hr;refine aX h4 λ _ s5 ⟨x,U,I5,r5,y5,O,fr5⟩=>?_
   have I5p:=I5.pinned (aI fr5) (T.obj _ _ O);refine aX (hg C s zI H1 _ s5 (st Z) U x u _ I5p r5 (hgo _ _ _ _ (nxt x U y5))) λ _ s6 ⟨Z6,H6,I6,q6,uE,ag6⟩=>?_
   refine aX (ht C s zI H1 _ s6 Z6 H6 _ I6 q6) λ ok s7 ⟨H7,I7,q7⟩=>?_
   have F:∀{H9:au} {s9:ax},Inv (X.block scope C N s zI H1) ([]++rQ s s5.heap) Z6 H9 s9->(∃G,G<n/\W (i+1) G H9)->
     ∃m,m<n/\∃i H,Inv (X.block scope C N s zI H1) [] (st Z) H s9/\tn i s9.heap/\(∀b∈s,H b=none)/\W i m H:=λ{H9 s9} I9 ⟨G,hm,w9⟩=>by
    have b6:∀b∈s,∀o,s5.heap.get? b=some o->s9.heap.get? b=some o/\H9 b=none:=λ b y o e=>by
     have z:=I9.pin (b,o) (fU _ (fU _ (xf y e)));exact⟨z.1,z.2.1⟩
    refine⟨G,hm,i+1,H9,I9.unpinned.weak (by rw[uE]) (λ k v e=>?_),T.keep _ _ _ O λ b y o e=>(b6 b y o e).1,λ b y=>?_,w9⟩
    .have hk:k<(st Z).length:=(fC.mp e).1
     have hkN:k<N.length:=by rw[<-B.len Z];exact hk
     obtain⟨_,hks,_⟩:=B.val Z k _ v (bP hkN) e;rw[ag6 k hks];exact e
    .obtain⟨o,e,_⟩:=T.obj _ _ O b y
     exact(b6 b y o e).2
   cases ok with
   |false=>
    rw[if_neg gh]at q7 ⊢;exact F I7 q7
   |true=>
    rw[if_pos rfl]at q7 ⊢;exact aX (he C s zI H1 _ _ s7 Z6 H7 _ I7 q7) λ _ s8 ⟨H8,I8,q8⟩=>F I8 q8
 exact hS (L _ rfl) (T.self X.A 0 _ _ _ h01 (L _ rfl))
def Ms(B:l9 X scope N st ks)(U:X.calm=true)(V:lj X a t F)(W:∀C i S l,l5 (X.block scope C N i S l) a g)(u:ma g ks)(Y:∀C i S l,o6 (X.block scope C N i S l) f w)
  (hT:rU 0 e a t f d)(hS:xB 0 e)(hA:A4 X.prog X.w mk j o)(he:∀C i S l,uJ (X.block scope C N i S l) d A)(E:clausesOf e=⟨a,t,f,0⟩::gs)(G:eval e X.env=comprehension e scope X.env (firstIterPos (⟨a,t,f,0⟩::gs) pos) mk false (eval t X.env))(hs:∀x,kn t X.env x=pure x:=by z_go):bq X e (E6 o F st g w A):=by
 intro kQ s Z H Q I h;have K:wF scope X.env=pure (eN scope X.env):=E0 λ y hy hk=>I.ok.has _ (B.free y hy hk)
 rw[G];refine Dv (use:=none) E hs K B.kind B.loc (aX (V kQ s Z H _ I h) λ v s1 h1=>aX h1 λ itv s2 h2=>?_);obtain⟨it,i,tn,J,H2,e,k,T,L,O,hq⟩:=h2;subst e;refine Uq B U hT hS hA W u Y he k T L O hq ?_;intro D C H' s' P r q;have I3:=E2 k O P;obtain⟨Z',R⟩:=P;obtain⟨m,hn,_⟩:=id R.loc;have M:H' C=none:=R.free;refine⟨m,hn,λ h'' n=>⟨.ref D,H',?_,rfl,q⟩⟩;exact I3.turned (t':=s'.toks) (λ b o ne e=>(n.2 b ne).trans e) M (kV (fq k.lt r)) (.inr (fD k.sz r))
  (λ x c e z=>by obtain⟨v,ic⟩:=k.cell x c e;exact absurd (fq ic.lt (by rw[z];exact r)) (jL _))
  (λ p ah z=>absurd (fq (k.pinL ah) (by rw[z];exact r)) (jL _))
end
noncomputable def E7(k v:Expr)(env:Env)(D:Addr):Sem Unit:=do
 let kv <-eval k env;let vv <-ju [kv] (eval v env);oT {k.pos with endLine:=v.pos.endLine,endCol:=v.pos.endCol}
 ju [kv,vv] (dictSet D kv vv)
def Ur(k v t i:Expr)(f:List Expr)(s:Scope)(pos:Pos):rU 0 (.DictComp k v [⟨t,i,f,0⟩] s pos) t i f (E7 k v):=
 ⟨λ _ _ _ _=>rfl,λ _ _ _ _ _=>rfl,λ _ _ _=>rfl⟩
def Us(k v t i:Expr)(f:List Expr)(s:Scope)(pos:Pos):xB 0 (.DictComp k v [⟨t,i,f,0⟩] s pos):=λ a h=>codeAny_compStart_dict a h
noncomputable def Mt(e:Expr)(env:Env)(D:Addr):Sem Unit:=do let _ <-call (.builtin "list.append") [.ref D,<-eval e env]
def Mu(t:bw):Addr->St->au->(au->Prop)->Prop:=λ D Z H Q=>t Z H λ y a=>∃acc,a D=some (.lst acc)/\acc.length<aQ/\Q (bt a D (.lst (acc++[y])))
def Ut(b:bq X elt te):uJ X (Mt elt) (Mu te):=by
 intro D k s Z H Q I h;refine av (aX (b _ s Z H _ I h) λ u c ⟨y,a,d,r,acc,f,hz,q⟩=>av ?_);refine aX (EV _ c Z a (.ref D) _ _ _ (λ _ g=>g=bt a D _) d rfl (.cons r .nil) ⟨_,acc,y,rfl,rfl,f,hz,rfl⟩) λ _ s2 ⟨_,j,i,_,e⟩=>?_
 subst e;exact aL ⟨_,i,q⟩
def Uu:A4 prog w (qo []) (λ ob=>ob={cls:=.type "list",data:=.seq #[]}) (λ _=>.lst []) where
 make:=λ h=>hG (h _ rfl)
 live:=by rintro ob rfl;rfl
 ok:=by
  rintro H h a ob rfl g b;exact⟨dI _,[],_,.nil,g⟩
noncomputable def A5(e i:Expr)(env:Env)(D:Addr):Sem Unit:=do
 let x <-eval i env
 oT i.pos
 let x <-kn i env x;let _ <-runOwn (.compStart e 1 (<-ju [x] (oU x)) (.ref D) env) env
def Uv(e b t g i:Expr)(a f:List Expr)(s:Scope)(pos:Pos):rU 0 (.ListComp e [⟨b,t,a,0⟩,⟨g,i,f,0⟩] s pos) b t a (A5 (.ListComp e [⟨b,t,a,0⟩,⟨g,i,f,0⟩] s pos) i):=
 ⟨λ _ _ _ _=>rfl,λ _ _ _ _ _=>rfl,λ _ _ _=>by unfold A5 Ao;simp only[bind_assoc];rfl⟩
def Uw(e b t g i:Expr)(a f:List Expr)(s:Scope)(pos:Pos):rU 1 (.ListComp e [⟨b,t,a,0⟩,⟨g,i,f,0⟩] s pos) g i f (Mt e):=
 ⟨λ _ _ _ _=>rfl,λ _ _ _ _ _=>rfl,λ _ _ _=>rfl⟩
def Mv(c:(clausesOf e)[d]? =some ⟨tg,iter,ifs,0⟩)(u:∀(A:cg) (i acc:Value) (env:Env),A.under (.compStart e d i acc env)=A)
  (a:∀(prog:bD) (w:World) (i acc:Value) (env:Env),(model prog w).den (.compStart e d i acc env)=(compStart e d i acc env).onRaise (λ x=>do noteFrame x env;oT theWindowsPlace)):xB d e:=by
 intro prog w A R s i acc env b h;refine DJ ?_;rw[u,a];refine wpAny_notedAt ?_;unfold compStart;rw[c];show wpAny _ A (ask>>=_) _ _ s;refine av (tX (wpAny_ite ?_));split
 .first|grind|exact aL (CS rfl b)
 .first
   |exact av (qk (av (ub (av (g7 h (λ t s2 f=>aL (CS rfl f)) λ _ _ x=>x)))))
   |simp
def Mw(ks:List Nat)(w:iS)(g:iP)(t:gk)(f:Addr->St->au->(au->Prop)->Prop):Addr->St->au->(au->Prop)->Prop:=λ D Z H Q=>(∀k∈ks,∀v,Z[k]?≠some (some v))/\w Z H λ J h=>∃W:Nat->Nat->au->Prop,(∃m,W 0 m h)/\
 ∀i m a,W i m a->((J.stop i a/\Q a)\/(J.go i a/\∀x c,J.yld i a x c->g x Z c λ d j=>t d j λ ok e=>
  if ok=true then f D d e λ l=>∃b,b<m/\W (i+1) b l else∃b,b<m/\W (i+1) b e))
def Ux(S:X.calm=true)(hx:∀v s,X.xe v s->False)(hT:rU 1 e tg iter ifs body)(hS:xB 1 e)
  (hi:lj X tg iter wi)(hg:l5 X tg g)(F:ma g ks)(ht:o6 X ifs tt)(he:uJ X body tb)(hs:∀x,kn iter X.env x=pure x:=by z_go):uJ X (A5 e iter) (Mw ks wi g tt tb):=by
 have G:∀{α:Type} {m:Sem α} {Q:α->ax->Prop} {s:ax},wpAny (model X.prog X.w) X.A m Q X.xe s->wpAny (model X.prog X.w) X.A m Q (λ _ _=>False) s:=λ h=>g7 h (λ _ _ q=>q) hx
 intro D j s Z H Q I h;obtain⟨K,h⟩:=h;unfold A5;refine av (aX (hi j s Z H _ I h) λ v s1 h1=>av (ub (av (wD (hs v) (av (jt (aX h1 λ itv s2 h2=>av ?_)))))));obtain⟨it,p,tn,J,H1,e1,I1,T,w,U,W,⟨m0,w0⟩,step⟩:=h2;subst e1;have L:∀{H':au},(∀b∈p,H' b=none)->∀b∈p,jW X j H' b:=λ{H'} hn b c=>⟨hn b c,(U b c).2⟩
 have l:fV (model X.prog X.w) X.A (.compLoop e 1 (.ref it) (.ref D) X.env) (λ r s'=>match r with| .ok _=>(∃H',Inv X j Z H' s'/\Q H')| .error _=>False) s2:=by
  refine Mr hT (λ n s'=>∃i a,Inv X j Z a s'/\tn i s'.heap/\(∀b∈p,a b=none)/\W i n a) ?_ m0 ⟨0,H1,I1,w,λ b c=>(U b c).1,w0⟩;rintro n s3 ⟨i,a,V,y,A,w2⟩;rcases step i n a w2 with ⟨stop,q⟩|⟨go,M⟩
  .refine aX (T.done X rfl rfl rfl S i j s3 Z a _ V (L A) y stop) λ r s4 ⟨hr,I4⟩=>?_
   subst hr;exact⟨a,I4,q⟩
  .refine aX (T.item X rfl rfl rfl S i j s3 Z a _ V (L A) y go) λ r s4 ⟨u,hr,h4⟩=>?_
   subst hr;refine aX h4 λ _ s5 ⟨x,Y,I5,r5,y5,t,N⟩=>?_
   have O:=I5.pinned (L N) (T.obj _ _ t);refine aX (G (hg _ s5 Z Y x u _ O r5 (F _ _ _ _ (M x Y y5)))) λ _ s6 ⟨P,H6,I6,q6,uE,R⟩=>?_
   refine aX (G (ht _ s6 P H6 _ I6 q6)) λ ok s7 ⟨H7,I7,C⟩=>?_
   have d:∀{B:au} {s9:ax},Inv X (j++rQ p s5.heap) P B s9->(∃E,E<n/\W (i+1) E B)->∃m,m<n/\∃i a,Inv X j Z a s9/\tn i s9.heap/\(∀b∈p,a b=none)/\W i m a:=λ{B s9} I9 ⟨E,hm,w9⟩=>by
    have b6:∀b∈p,∀o,s5.heap.get? b=some o->s9.heap.get? b=some o/\B b=none:=λ b c o e=>by
     have z:=I9.pin (b,o) (fU _ (fU _ (xf c e)));exact⟨z.1,z.2.1⟩
    refine⟨E,hm,i+1,B,I9.unpinned.weak (by rw[uE]) (λ k v e=>?_),T.keep _ _ _ t λ b c o e=>(b6 b c o e).1,λ b c=>?_,w9⟩
    .by_cases hk:k∈ks
     .exact absurd e (K k hk v)
     .rw[R k hk];exact e
    .obtain⟨o,e,_⟩:=T.obj _ _ t b c
     exact(b6 b c o e).2
   cases ok with
   |false=>
    rw[if_neg gh]at C ⊢;exact d I7 C
   |true=>
    rw[if_pos rfl]at C ⊢;exact aX (G (he D _ s7 P H7 _ I7 C)) λ _ s8 ⟨H8,I8,q8⟩=>d I8 q8
 refine wpAny_runOwn (h:=none) (rH (hS l (T.self X.A 0 _ _ _ w l)) λ r s' hr=>?_);cases r with
 |ok f=>exact aL hr
 |error x=>exact hr.elim
end L2
namespace VL
open PySem PySem.Spec PyProof.Rows L2
inductive D where
 |non|bl (b:Bool)|int (i:Int)|str (x:Str)|tup (l:List D)|lst (l:List D)|dct (ks vs:List D)|set (l:List Int)|scr (l:List Int)|fn (x:Str)|itm (o:Option Nat) (l:aJ)|itx (o:Option Nat) (l:List (List Int×Int))
instance:Inhabited D:=⟨.non⟩
noncomputable def A6:bz->D
 | .inl i=>.int i
 | .inr x=>.str x
variable{K:aB}
def md(K:aB)(H:au)(a:Addr)(ns:List Int):Prop:=(∃o,H a=some (.frz o (.lst (ns.map V.int))))\/
 ∃(o:Obj) (i:Array Value) (n:Nat),K.lookup a=some o/\o.cls= .type "list"/\o.dict=none/\o.data= .seq i n/\i.size<=aQ/\Vals (ns.map V.int) i.toList
def md.sq(h:md K H a ns):cu K H a (ns.map V.int):=by
 rcases h with h|h
 .exact .inl (.inr h)
 .exact .inr h
def o7(H:au)(a:Addr)(b:Option Nat)(l:aJ):Prop:=∃o es ep,o.data= .dict es ep/\(b=none\/b=some ep)/\H a=some (.frz o (.dK (l.map λ p=>(.inl p.1,V.int p.2))))
noncomputable def uy(ns:List Int):Int:=reduceHash (QY (ns.map hashInt))
def E8(a:Addr)(es:List (List Int×Addr×V)):HO:=.ext λ h=>es.length<=aQ/\(a==iI)=false/\∃(xs:List (List Int×Addr×Value)) (o:Obj) (t:Array ud) (ep:Nat),qq (λ e x=>e.1=x.1/\e.2.1=x.2.1/\RelV e.2.2 x.2.2) es xs/\
 h.get? a=some o/\o.ExactDict/\o.data= .dict t ep/\t.toList=xs.map λ x=>⟨uy x.1,.ref x.2.1,x.2.2⟩
structure qB(K:aB)(H:au)(a:Addr)(es:List (List Int×Addr×V)):Prop where
 at_:H a=some (E8 a es)
 ks:∀e∈es,bQ K H e.2.1 (e.1.map V.int)
 nd:(es.map (·.1)).Nodup
def qC(K:aB)(H:au)(a:Addr)(b:Option Nat)(l:List (List Int×Int)):Prop:=∃o t ep es,o.data= .dict t ep/\(b=none\/b=some ep)/\(es.map λ e=>(e.1,e.2.2))=(l.map λ p=>(p.1,V.int p.2))/\(es.map (·.1)).Nodup/\(∀e∈es,bQ K H e.2.1 (e.1.map V.int))/\H a=some (.frz o (E8 a es))
mutual
inductive aA(K:aB):(Addr->Prop)->au->V->D->Prop where
 |non {A:Addr->Prop} {H:au}:aA K A H .non .non
 |bl {A:Addr->Prop} {H:au} (b:Bool):aA K A H (.bl b) (.bl b)
 |int {A:Addr->Prop} {H:au} (i:Int):aA K A H (.int i) (.int i)
 |str {A:Addr->Prop} {H:au} (x:Str):aA K A H (.str x) (.str x)
 |tup {A:Addr->Prop} {H:au} {a:Addr} {xs:List V} {ds:List D} (h:bQ K H a xs) (r:aM K A H xs ds):aA K A H (.ref a) (.tup ds)
 |lst {A:Addr->Prop} {H:au} {a:Addr} {xs:List V} {ds:List D} (h:H a=some (.lst xs)) (m:A a) (r:aM K (λ p=>A p/\p≠a) H xs ds):aA K A H (.ref a) (.lst ds)
 |dK {A:Addr->Prop} {H:au} {a:Addr} {kvs:List (bz×V)} {ds:List D} (h:H a=some (.dK kvs)) (m:A a) (r:aM K (λ p=>A p/\p≠a) H (kvs.map (·.2)) ds):aA K A H (.ref a) (.dct (kvs.map λ p=>A6 p.1) ds)
 |dT {A:Addr->Prop} {H:au} {a:Addr} {es:List (List Int×Addr×V)} {ds:List D} (h:qB K H a es) (m:A a) (r:aM K (λ p=>A p/\p≠a) H (es.map (·.2.2)) ds):aA K A H (.ref a) (.dct (.non::es.map λ e=>.tup (e.1.map .int)) ds)
 |set {A:Addr->Prop} {H:au} {a:Addr} {S:Int->Bool} {l:List Int} (h:H a=some (.set S l.length)) (m:A a) (hS:∀i,S i=decide (i∈l)) (nd:l.Nodup):aA K A H (.ref a) (.set l)
 |scr {A:Addr->Prop} {H:au} {a:Addr} {ns:List Int} (h:md K H a ns):aA K A H (.ref a) (.scr ns)
 |fn {A:Addr->Prop} {H:au} {a:Addr} {x:Str} (h:fL K dv x=some (some (.ref a))):aA K A H (.ref a) (.fn x)
 |itm {A:Addr->Prop} {H:au} {a:Addr} {oo:Option Nat} {l:aJ} (h:o7 H a oo l):aA K A H (.ref a) (.itm oo l)
 |itx {A:Addr->Prop} {H:au} {a:Addr} {oo:Option Nat} {l:List (List Int×Int)} (h:qC K H a oo l):aA K A H (.ref a) (.itx oo l)
inductive aM(K:aB):(Addr->Prop)->au->List V->List D->Prop where
 |nil {A:Addr->Prop} {H:au}:aM K A H [] []
 |cons {A:Addr->Prop} {H:au} {x:V} {d:D} {xs:List V} {ds:List D} (h:aA K A H x d) (r:aM K A H xs ds):aM K A H (x::xs) (d::ds)
end
def md.mono(s:aU H H')(h:md K H a ns):md K H' a ns:=by
 rcases h with ⟨o,h⟩|h
 .exact .inl ⟨o,s _ _ h⟩
 .exact .inr h
def o7.mono(h:o7 H a oo l)(s:aU H H'):o7 H' a oo l:=let⟨o,es,ep,y,z,e⟩:=h;⟨o,es,ep,y,z,s _ _ e⟩
def qC.mono(h:qC K H a oo l)(s:aU H H'):qC K H' a oo l:=let⟨o,ts,ep,es,y,z,q,n,k,e⟩:=h;⟨o,ts,ep,es,y,z,q,n,λ e b=>s.sqt (k e b),s _ _ e⟩
def qB.mono(h:qB K H a es)(s:aU H H'):qB K H' a es:=⟨s _ _ h.at_,λ e b=>s.sqt (h.ks e b),h.nd⟩
def aA.mono'(s:aU H H')(r:aA K A H x d)(a:∀p o,H p=some o->A p->A' p):aA K A' H' x d:=
 aA.rec (motive_2:=λ A H xs ds _=>∀H',aU H H'->∀A',(∀p o,H p=some o->A p->A' p)->aM K A' H' xs ds)
  (λ _ _ _ _=>.non) (λ b _ _ _ _=>.bl b) (λ i _ _ _ _=>.int i) (λ x _ _ _ _=>.str x) (λ h _ c _ s _ a=>.tup (s.sqt h) (c _ s _ a))
  (λ h m _ c _ s _ a=>.lst (s _ _ h) (a _ _ h m) (c _ s _ λ p o e z=>⟨a p o e z.1,z.2⟩)) (λ h m _ c _ s _ a=>.dK (s _ _ h) (a _ _ h m) (c _ s _ λ p o e z=>⟨a p o e z.1,z.2⟩))
  (λ h m _ c _ s _ a=>.dT (h.mono s) (a _ _ h.at_ m) (c _ s _ λ p o e z=>⟨a p o e z.1,z.2⟩)) (λ h m S n _ s _ a=>.set (s _ _ h) (a _ _ h m) S n) (λ h _ s _ _=>.scr (h.mono s)) (λ h _ _ _ _=>.fn h) (λ h _ s _ _=>.itm (h.mono s)) (λ h _ s _ _=>.itx (h.mono s)) (λ _ _ _ _=>.nil) (λ _ _ c f _ s _ a=>.cons (c _ s _ a) (f _ s _ a)) r H' s A' a
def aM.mono'(s:aU H H')(r:aM K A H xs ds)(a:∀p o,H p=some o->A p->A' p):aM K A' H' xs ds:=
 aM.rec (motive_1:=λ A H x d _=>∀H',aU H H'->∀A',(∀p o,H p=some o->A p->A' p)->aA K A' H' x d)
  (λ _ _ _ _=>.non) (λ b _ _ _ _=>.bl b) (λ i _ _ _ _=>.int i) (λ x _ _ _ _=>.str x) (λ h _ c _ s _ a=>.tup (s.sqt h) (c _ s _ a))
  (λ h m _ c _ s _ a=>.lst (s _ _ h) (a _ _ h m) (c _ s _ λ p o e z=>⟨a p o e z.1,z.2⟩)) (λ h m _ c _ s _ a=>.dK (s _ _ h) (a _ _ h m) (c _ s _ λ p o e z=>⟨a p o e z.1,z.2⟩))
  (λ h m _ c _ s _ a=>.dT (h.mono s) (a _ _ h.at_ m) (c _ s _ λ p o e z=>⟨a p o e z.1,z.2⟩)) (λ h m S n _ s _ a=>.set (s _ _ h) (a _ _ h m) S n) (λ h _ s _ _=>.scr (h.mono s)) (λ h _ _ _ _=>.fn h) (λ h _ s _ _=>.itm (h.mono s)) (λ h _ s _ _=>.itx (h.mono s)) (λ _ _ _ _=>.nil) (λ _ _ c f _ s _ a=>.cons (c _ s _ a) (f _ s _ a)) r H' s A' a
def aA.mono(s:aU H H')(h:∀p o,H p=some o->A p->A' p)(r:aA K A H x d):aA K A' H' x d:=r.mono' s h
def aM.mono(s:aU H H')(h:∀p o,H p=some o->A p->A' p)(r:aM K A H x d):aM K A' H' x d:=r.mono' s h
def aA.up(s:aU H H')(r:aA K A H x d):aA K A H' x d:=r.mono s λ _ _ _ h=>h
def aA.wk(h:∀p o,H p=some o->A p->A' p)(r:aA K A H x d):aA K A' H x d:=r.mono (aU.refl H) h
def aM.up(s:aU H H')(r:aM K A H x d):aM K A H' x d:=r.mono s λ _ _ _ h=>h
def aM.wk(h:∀p o,H p=some o->A p->A' p)(r:aM K A H x d):aM K A' H x d:=r.mono (aU.refl H) h
noncomputable def jz:HO->Bool
 | .lst _=>true| .dK _=>true| .dT _=>true| .set _ _=>true| .ext _=>true|_=>false
def A7(s:gz l H H')(b:H l=some o)(c:jz o=true)(h:bQ K H a xs):bQ K H' a xs:=by
 rcases h with (h|⟨u,h⟩)|h
 .refine .inl (.inl (s _ _ (λ e=>?_) h))
  subst e;rw[b]at h;cases h;cases c
 .refine .inl (.inr ⟨u,s _ _ (λ e=>?_) h⟩)
  subst e;rw[b]at h;cases h;cases c
 .exact .inr h
def Mx(s:gz l H H')(b:H l=some o)(c:jz o=true)(h:md K H a ns):md K H' a ns:=by
 rcases h with ⟨u,h⟩|h
 .exact .inl ⟨u,s _ _ (λ e=>by subst e;rw[b]at h;cases h;cases c) h⟩
 .exact .inr h
def o7.but(h:o7 H a oo q)(s:gz l H H')(b:H l=some o)(c:jz o=true):o7 H' a oo q:=let⟨u,es,ep,y,z,e⟩:=h;⟨u,es,ep,y,z,s _ _ (λ z=>by subst z;rw[b]at e;cases e;cases c) e⟩
def qC.but(h:qC K H a oo q)(s:gz l H H')(b:H l=some o)(c:jz o=true):qC K H' a oo q:=let⟨u,ts,ep,es,y,z,q,n,k,e⟩:=h;⟨u,ts,ep,es,y,z,q,n,λ e d=>A7 s b c (k e d),s _ _ (λ z=>by subst z;rw[b]at e;cases e;cases c) e⟩
def qB.but(h:qB K H a es)(s:gz l H H')(b:H l=some o)(c:jz o=true)(n:a≠l):qB K H' a es:=
 ⟨s _ _ n h.at_,λ e d=>A7 s b c (h.ks e d),h.nd⟩
def aA.but'(s:gz l H H')(a:H l=some o)(c:jz o=true)(r:aA K A H x d)(f:¬A l):aA K A H' x d:=
 aA.rec (motive_2:=λ A H xs ds _=>∀H',gz l H H'->∀o,H l=some o->jz o=true->¬A l->aM K A H' xs ds)
  (λ _ _ _ _ _ _=>.non) (λ b _ _ _ _ _ _=>.bl b) (λ i _ _ _ _ _ _=>.int i) (λ x _ _ _ _ _ _=>.str x) (λ h _ g _ s o a c f=>.tup (A7 s a c h) (g _ s o a c f))
  (λ h m _ g _ s o a c f=>.lst (s _ _ (λ e=>f (e▸m)) h) m (g _ s o a c λ z=>f z.1)) (λ h m _ g _ s o a c f=>.dK (s _ _ (λ e=>f (e▸m)) h) m (g _ s o a c λ z=>f z.1))
  (λ h m _ g _ s o a c f=>.dT (h.but s a c λ e=>f (e▸m)) m (g _ s o a c λ z=>f z.1)) (λ h m S n _ s o a c f=>.set (s _ _ (λ e=>f (e▸m)) h) m S n) (λ h _ s o a c _=>.scr (Mx s a c h)) (λ h _ _ _ _ _ _=>.fn h) (λ h _ s o a c _=>.itm (h.but s a c)) (λ h _ s o a c _=>.itx (h.but s a c)) (λ _ _ _ _ _ _=>.nil) (λ _ _ g j _ s o a c f=>.cons (g _ s o a c f) (j _ s o a c f)) r H' s o a c f
def aM.but'(s:gz l H H')(a:H l=some o)(c:jz o=true)(r:aM K A H xs ds)(f:¬A l):aM K A H' xs ds:=
 aM.rec (motive_1:=λ A H x d _=>∀H',gz l H H'->∀o,H l=some o->jz o=true->¬A l->aA K A H' x d)
  (λ _ _ _ _ _ _=>.non) (λ b _ _ _ _ _ _=>.bl b) (λ i _ _ _ _ _ _=>.int i) (λ x _ _ _ _ _ _=>.str x) (λ h _ g _ s o a c f=>.tup (A7 s a c h) (g _ s o a c f))
  (λ h m _ g _ s o a c f=>.lst (s _ _ (λ e=>f (e▸m)) h) m (g _ s o a c λ z=>f z.1)) (λ h m _ g _ s o a c f=>.dK (s _ _ (λ e=>f (e▸m)) h) m (g _ s o a c λ z=>f z.1))
  (λ h m _ g _ s o a c f=>.dT (h.but s a c λ e=>f (e▸m)) m (g _ s o a c λ z=>f z.1)) (λ h m S n _ s o a c f=>.set (s _ _ (λ e=>f (e▸m)) h) m S n) (λ h _ s o a c _=>.scr (Mx s a c h)) (λ h _ _ _ _ _ _=>.fn h) (λ h _ s o a c _=>.itm (h.but s a c)) (λ h _ s o a c _=>.itx (h.but s a c)) (λ _ _ _ _ _ _=>.nil) (λ _ _ g j _ s o a c f=>.cons (g _ s o a c f) (j _ s o a c f)) r H' s o a c f
def aA.but(s:gz l H H')(h:H l=some o)(a:jz o=true)(b:¬A l)(r:aA K A H x d):aA K A H' x d:=r.but' s h a b
def aM.but(s:gz l H H')(h:H l=some o)(a:jz o=true)(b:¬A l)(r:aM K A H x d):aM K A H' x d:=r.but' s h a b
mutual
def imm:D->Bool
 | .tup l=>gc l
 | .lst _=>false
 | .dct _ _=>false
 | .set _=>false
 |_=>true
def gc:List D->Bool
 |[]=>true
 |d::r=>imm d&&gc r
end
def Mz(e:gc (d::r)=true):imm d=true/\gc r=true:=by
 simp only[gc,cM]at e;assumption
def Uy(e:imm (.tup l)=true):gc l=true:=by assumption
def Uz(e:imm (.lst l)=true):False:=by simp[imm]at e
def MA(e:imm (.dct l k)=true):False:=by simp[imm]at e
def UA(e:imm (.set l)=true):False:=by simp[imm]at e
def aA.imm'(r:aA K A H x d)(e:VL.imm d=true):aA K A' H x d:=
 aA.rec (motive_2:=λ _ H xs ds _=>gc ds=true->aM K A' H xs ds)
  (λ _=>.non) (λ b _=>.bl b) (λ i _=>.int i) (λ x _=>.str x) (λ h _ a e=>.tup h (a (Uy e)))
  (λ _ _ _ _ e=>(Uz e).elim) (λ _ _ _ _ e=>(MA e).elim) (λ _ _ _ _ e=>(MA e).elim) (λ _ _ _ _ e=>(UA e).elim) (λ h _=>.scr h) (λ h _=>.fn h) (λ h _=>.itm h) (λ h _=>.itx h) (λ _=>.nil) (λ _ _ a c e=>.cons (a (Mz e).1) (c (Mz e).2)) r e
theorem aA.imm(r:aA K A H x d)(h:VL.imm d=true):aA K A' H x d:=r.imm' h
def aA.int_inv(r:aA K A H v (.int i)):v= .int i:=by cases r;rfl
def aA.bl_inv(r:aA K A H v (.bl b)):v= .bl b:=by cases r;rfl
def aA.tup_inv(r:aA K A H v (.tup ds)):∃a xs,v= .ref a/\bQ K H a xs/\aM K A H xs ds:=by cases r with|tup h r=>exact⟨_,_,rfl,h,r⟩
def aA.lst_inv(r:aA K A H v (.lst ds)):∃a xs,v= .ref a/\H a=some (.lst xs)/\A a/\aM K (λ p=>A p/\p≠a) H xs ds:=by cases r with|lst h m r=>exact⟨_,_,rfl,h,m,r⟩
def aA.scr_inv(r:aA K A H v (.scr ns)):∃a,v= .ref a/\md K H a ns:=by cases r with|scr h=>exact⟨_,rfl,h⟩
def aM.one_inv(r:aM K A H vs [d]):∃v,vs=[v]/\aA K A H v d:=by cases r with|cons h r=>cases r;exact⟨_,rfl,h⟩
section
variable{A:Addr->Prop}{H:au}
theorem aM.length:∀{xs:List V} {ds:List D},aM K A H xs ds->xs.length=ds.length:=by
 intro xs ds h;induction xs generalizing ds with
 |nil=>cases h;rfl
 |cons x xs i=>cases h with|cons _ r=>exact congrArg _ (i r)
theorem aM.get:∀{xs:List V} {ds:List D} {i:Nat} {x:V},aM K A H xs ds->xs[i]? =some x->∃d,ds[i]? =some d/\aA K A H x d
 |_,_,_,_,.nil,e=>by simp_all
 |_,_,0,_,.cons h _,e=>by simp at e;subst e;exact⟨_,rfl,h⟩
 |_,_,i+1,x,.cons _ r,e=>by
  obtain⟨d,b,a⟩:=aM.get r (by assumption);exact⟨d,by assumption,a⟩
theorem aM.getD:∀{xs:List V} {ds:List D} {i:Nat} {d:D},aM K A H xs ds->ds[i]? =some d->∃x,xs[i]? =some x/\aA K A H x d
 |_,_,_,_,.nil,e=>by simp_all
 |_,_,0,_,.cons h _,e=>by simp at e;subst e;exact⟨_,rfl,h⟩
 |_,_,i+1,d,.cons _ r,e=>by
  obtain⟨x,b,a⟩:=aM.getD r (by assumption);exact⟨x,by assumption,a⟩
def aM.append:∀{xs ys:List V} {ds es:List D},aM K A H xs ds->aM K A H ys es->aM K A H (xs++ys) (ds++es):=by
 intro xs ys ds es h s;induction xs generalizing ds with
 |nil=>cases h;assumption
 |cons x xs i=>cases h with|cons h r=>exact .cons h (i r)
theorem aM.take:∀{xs:List V} {ds:List D} (n:Nat),aM K A H xs ds->aM K A H (xs.take n) (ds.take n)
 |_,_,0,_=>.nil
 |_,_,_+1,.nil=>.nil
 |_,_,n+1,.cons h r=>.cons h (aM.take n r)
theorem aM.drop:∀{xs:List V} {ds:List D} (n:Nat),aM K A H xs ds->aM K A H (xs.drop n) (ds.drop n)
 |_,_,0,r=>r
 |_,_,_+1,.nil=>.nil
 |_,_,n+1,.cons _ r=>aM.drop n r
theorem aM.reverse:∀{xs:List V} {ds:List D},aM K A H xs ds->aM K A H xs.reverse ds.reverse:=by
 intro xs ds h;induction xs generalizing ds with
 |nil=>cases h;exact .nil
 |cons x xs i=>
  cases h with
  |cons h r=>
   rw[wd,wd];exact aM.append (i r) (.cons h .nil)
theorem aM.set(h:aA K A H x d):∀{xs:List V} {ds:List D} (n:Nat),aM K A H xs ds->aM K A H (xs.set n x) (ds.set n d)
 |_,_,_,.nil=>.nil
 |_,_,0,.cons _ r=>.cons h r
 |_,_,n+1,.cons k r=>.cons k (aM.set h n r)
theorem aM.ints:∀{ns:List Int},aM K A H (ns.map V.int) (ns.map D.int)
 |[]=>.nil
 |n::ns=>.cons (.int n) aM.ints
theorem aM.ints_of:∀{xs:List V} {ns:List Int},aM K A H xs (ns.map D.int)->xs=ns.map V.int
 |_,[],.nil=>rfl
 |_,n::ns,.cons h r=>by
  cases h;rw[bu,aM.ints_of r]
end
def bF(h:a=b):a=b:=h
inductive ag(α:Type) where
 |ok (a:α)|ex (c:Str)|st
noncomputable def ag.bd{α β:Type}:ag α->(α->ag β)->ag β
 | .ok a,f=>f a
 | .ex c,_=>.ex c
 | .st,_=>.st
@[simp] def aO(a:α)(f:α->ag β):(ag.ok a).bd f=f a:=bF rfl
@[simp] def bd_ex(c:Str)(f:α->ag β):(ag.ex c:ag α).bd f= .ex c:=bF rfl
@[simp] def bd_st(f:α->ag β):(ag.st:ag α).bd f= .st:=bF rfl
def iX{r:ag α}(h:r.bd f= .ok b):∃a,r= .ok a/\f a= .ok b:=by
 cases r<;>simp_all
abbrev jb:=List (List D)
inductive Slot where
 |no|sh (d:D)|nw (d:D)|ow (d:D)|oz (d:D)|o2 (l:jb)
abbrev af:=List Slot
abbrev kD:=Addr->Nat×Nat
abbrev Mode:=Option (List Nat)
def qD(m:Mode)(n:Nat):Prop:=match m with
 |none=>True
 |some L=>n∈L
noncomputable def me:Mode->Mode->Mode
 |some a,some b=>some (a++b)
 |_,_=>none
def UB(h:qD a n):qD (me a b) n:=by
 cases a with
 |none=>assumption
 |some L=>
  cases b with
  |none=>exact trivial
  |some M=>exact eW _ h
def UC(h:qD b n):qD (me a b) n:=by
 cases a with
 |none=>cases b<;>exact trivial
 |some L=>
  cases b with
  |none=>assumption
  |some M=>exact fU _ h
def lx(m:Mode)(lab:kD)(H:au):Addr->Prop:=λ p=>H p=none\/qD m (lab p).1
def A8(h:lx a lab H p):lx (me a b) lab H p:=h.imp id UB
def A9(h:lx b lab H p):lx (me a b) lab H p:=h.imp id UC
def rV(s:aU H H')(h:lx m lab H' p):lx m lab H p:=h.imp (λ z=>s.free z) id
structure eK where
 H0:au
 E:gj
 cl:Str->Addr
noncomputable def uK:D->Bool
 | .lst _=>true
 | .dct _ _=>true
 | .set _=>true
 |_=>false
def ly(K:aB)(H:au)(lab:kD)(i:Nat)(v:V):Slot->Prop
 | .no=>True
 | .sh d=>aA K (λ p=>(lab p).1<=1) H v d
 | .nw d=>aA K (λ p=>(lab p).1=1) H v d
 | .ow d=>aA K (λ p=>(lab p).1=1\/(lab p).1=i+2) H v d/\(uK d=true->∃a,v= .ref a/\(lab a).1=i+2)
 | .oz d=>∃a xs ds,v= .ref a/\d= .lst ds/\H a=some (.lst xs)/\(lab a).1=i+2/\aM K (λ p=>(lab p).1<=1) H xs ds
 | .o2 l=>∃a xs,v= .ref a/\H a=some (.lst xs)/\lab a=(i+2,0)/\xs.length=l.length/\∀(j:Nat) x ds,xs[j]? =some x->l[j]? =some ds->aA K (λ p=>lab p=(i+2,j+1)) H x (.lst ds)
structure RR(K:aB)(G:eK)(τ:List (V×D))(ρ:af)(Z:L2.St)(H:au)(lab:kD):Prop where
 len:Z.length=ρ.length
 sl:∀(i:Nat) (s:Slot),ρ[i]? =some s->s= .no\/∃v,Z[i]? =some (some v)/\ly K H lab i v s
 old:aU G.H0 H
 new:∀p,(lab p).1≠0->G.H0 p=none
 tm:∀q∈τ,aA K (λ p=>(lab p).1<=1) H q.1 q.2
theorem ly.up(s:aU H H')(h:ly K H lab i v x):ly K H' lab i v x:=by
 cases x with
 |no=>assumption
 |sh d=>exact aA.up s h
 |nw d=>exact aA.up s h
 |ow d=>exact⟨aA.up s h.1,h.2⟩
 |oz d=>
  obtain⟨a,xs,ds,e,b,c,f,g⟩:=h;exact⟨a,xs,ds,e,b,s _ _ c,f,g.up s⟩
 |o2 l=>
  obtain⟨a,xs,e,b,c,f,g⟩:=h;exact⟨a,xs,e,s _ _ b,c,f,λ j x ds k m=>(g j x ds k m).up s⟩
def MB(r:aA K A H (.ref a) d)(b:uK d=true):∃o,H a=some o/\jz o=true/\A a:=by
 cases r with
 |lst h m _=>exact⟨_,h,rfl,m⟩
 |dK h m _=>exact⟨_,h,rfl,m⟩
 |dT h m _=>exact⟨_,h.at_,rfl,m⟩
 |set h m _ _=>exact⟨_,h,rfl,m⟩
 |tup _ _=>cases b
 |scr _=>cases b
 |fn _=>cases b
 |itm _=>cases b
 |itx _=>cases b
def UD(r:aA K A H v d)(b:uK d=true):∃a,v= .ref a:=by
 cases r with
 |lst h m _=>exact⟨_,rfl⟩
 |dK h m _=>exact⟨_,rfl⟩
 |dT h m _=>exact⟨_,rfl⟩
 |set h m _ _=>exact⟨_,rfl⟩
 |_=>cases b
theorem ly.lab{lab b:kD}(c:∀p o,H p=some o->b p=lab p)(h:ly K H lab i v x):ly K H b i v x:=by
 cases x with
 |no=>assumption
 |sh d=>exact aA.wk (λ p o e q=>(c p o e).symm▸q) h
 |nw d=>exact aA.wk (λ p o e q=>(c p o e).symm▸q) h
 |ow d=>
  obtain⟨h,t⟩:=h;refine⟨aA.wk (λ p o e q=>(c p o e).symm▸q) h,λ m=>?_⟩;obtain⟨a,rfl,s⟩:=t m;obtain⟨o,u,_⟩:=MB h m;exact⟨a,rfl,(congrArg _ (c a o u)).trans s⟩
 |oz d=>
  obtain⟨a,xs,ds,k,f,g,n,r⟩:=h;exact⟨a,xs,ds,k,f,g,(congrArg _ (c _ _ g)).trans n,aM.wk (λ p o e q=>(c p o e).symm▸q) r⟩
 |o2 l=>
  obtain⟨a,xs,k,f,g,n,r⟩:=h;exact⟨a,xs,k,f,(c _ _ f).trans g,n,λ j x ds w y=>aA.wk (λ p o e q=>(c p o e).symm▸q) (r j x ds w y)⟩
section
variable{G:eK}{τ:List (V×D)}{ρ:af}{Z:L2.St}{H H':au}{lab l:kD}
theorem RR.up(R:RR K G τ ρ Z H lab)(s:aU H H'):RR K G τ ρ Z H' lab:=
 ⟨R.len,λ i x e=>(R.sl i x e).imp id λ⟨v,a,b⟩=>⟨v,a,b.up s⟩,R.old.trans s,R.new,λ q h=>(R.tm q h).up s⟩
def RR.relab(R:RR K G τ ρ Z H lab)(h:∀p o,H p=some o->l p=lab p)(n:∀p,(l p).1≠0->G.H0 p=none):RR K G τ ρ Z H l:=
 ⟨R.len,λ i x e=>(R.sl i x e).imp id λ⟨v,a,b⟩=>⟨v,a,b.lab h⟩,R.old,n,λ q c=>aA.wk (λ p o e z=>by rw[h p o e];simp_all) (R.tm q c)⟩
def RR.drop(R:RR K G (τ'++τ) ρ Z H lab):RR K G τ ρ Z H lab:=⟨R.len,R.sl,R.old,R.new,λ z hz=>R.tm z (fU _ hz)⟩
def RR.put(R:RR K G τ ρ Z H lab)(h:ly K H lab i v s):RR K G τ (ρ.set i s) (Z.set i (some v)) H lab:=by
 refine⟨by rw[kU,kU,R.len],λ j x e=>?_,R.old,R.new,R.tm⟩;by_cases a:i=j
 .subst a
  have b:i<ρ.length:=by
   have:=(fC.mp e).1
   simp_all
  rw[pT b]at e;cases e;exact .inr ⟨v,by rw[pT (by rw[R.len];assumption)],h⟩
 .rw[oJ a]at e
  rcases R.sl j x e with z|⟨u,d,c⟩
  .exact .inl z
  .exact .inr ⟨u,by rw[oJ a];assumption,c⟩
noncomputable def fF(H:au)(n:Nat)(lab:kD):kD:=λ p=>match H p with
 |none=>(n,0)
 |some _=>lab p
def ib(h:H p=some o):fF H n lab p=lab p:=by unfold fF;rw[h]
def MC(h:H p=none):fF H n lab p=(n,0):=by unfold fF;rw[h]
def RR.fresh{P:Nat->Prop}(h:P 1)(a:∀k,qD m k->P k)(R:RR K G τ ρ Z H lab)(s:aU H H')(r:aA K (lx m lab H) H' v d):
  RR K G τ ρ Z H' (fF H 1 lab)/\aA K (λ p=>P (fF H 1 lab p).1) H' v d:=by
 refine⟨(R.relab (λ p o e=>ib e) λ p ah=>?_).up s,aA.wk (λ p o e z=>?_) r⟩
 .cases e:H p with
  |none=>exact R.old.free e
  |some o=>rw[ib e]at ah;exact R.new p ah
 .rcases z with z|z
  .rw[MC z];assumption
  .cases e:H p with
   |none=>rw[MC e];assumption
   |some o=>rw[ib e];simp_all
def RR.freshO(i:Nat)(f:∀k,qD m k->k=1\/k=i+2)(R:RR K G τ ρ Z H lab)(s:aU H H')(r:aA K (lx m lab H) H' v d)(t:uK d=true->∃a,v= .ref a/\H a=none):
  ∃l,RR K G τ ρ Z H' l/\ly K H' l i v (.ow d):=by
 obtain⟨b,c⟩:=R.fresh (.inl rfl) f s r;cases h:uK d with
 |false=>exact⟨_,b,c,λ z=>absurd z (by simp[h])⟩
 |true=>
  obtain⟨a,rfl,g⟩:=t h;refine⟨λ p=>if p=a then(i+2,0)else fF H 1 lab p,?_,aA.wk (λ p o e z=>?_) c,λ _=>⟨a,rfl,by lia⟩⟩
  .refine(R.relab (λ p o e=>?_) λ p ah=>?_).up s
   .rw[if_neg (λ z=>by lia),ib e]
   .by_cases z:p=a
    .subst z;exact R.old.free g
    .rw[if_neg z]at ah;exact b.new p ah
  .cb_eq
   by_cases q:p=a
   .rw[if_pos q];exact .inr rfl
   .rw[if_neg q];exact z
def MD(h:ly K H lab i v (.oz d)):aA K (λ p=>(lab p).1<=1\/(lab p).1=i+2) H v d:=by
 obtain⟨a,xs,ds,rfl,rfl,b,c,f⟩:=h;exact .lst b (.inr c) (f.wk λ p o e z=>⟨.inl z,λ q=>by simp_all⟩)
end
def aA.cs{K:aB}{A:Addr->Prop}{H:au}{o:(v:V)->(d:D)->aA K A H v d->Prop}
  (non:o .non .non .non)(bl:∀b,o (.bl b) (.bl b) (.bl b))(int:∀i,o (.int i) (.int i) (.int i))(str:∀x,o (.str x) (.str x) (.str x))
  (tup:∀{a xs ds} (h:bQ K H a xs) (r:aM K A H xs ds),o (.ref a) (.tup ds) (.tup h r))
  (lst:∀{a xs ds} (h:H a=some (.lst xs)) (m:A a) (r:aM K (λ p=>A p/\p≠a) H xs ds),o (.ref a) (.lst ds) (.lst h m r))
  (dK:∀{a k ds} (h:H a=some (.dK k)) (m:A a) (r:aM K (λ p=>A p/\p≠a) H (k.map (·.2)) ds),o (.ref a) _ (.dK h m r))
  (dT:∀{a es ds} (h:qB K H a es) (m:A a) (r:aM K (λ p=>A p/\p≠a) H (es.map (·.2.2)) ds),o (.ref a) _ (.dT h m r))
  (set:∀{a S l} (h:H a=some (.set S l.length)) (m:A a) (e:∀i,S i=decide (i∈l)) (n:l.Nodup),o (.ref a) (.set l) (.set h m e n))
  (scr:∀{a ns} (h:md K H a ns),o (.ref a) (.scr ns) (.scr h))
  (fn:∀{a x} (h:fL K dv x=some (some (.ref a))),o (.ref a) (.fn x) (.fn h))
  (itm:∀{a c l} (h:o7 H a c l),o (.ref a) (.itm c l) (.itm h))
  (itx:∀{a c l} (h:qC K H a c l),o (.ref a) (.itx c l) (.itx h)){v:V}{d:D}(r:aA K A H v d):o v d r:=by
 cases r with
 |non=>exact non
 |bl b=>exact bl b
 |int i=>exact int i
 |str x=>exact str x
 |tup h r=>exact tup h r
 |lst h m r=>exact lst h m r
 |dK h m r=>exact dK h m r
 |dT h m r=>exact dT h m r
 |set h m e n=>exact set h m e n
 |scr h=>exact scr h
 |fn h=>exact fn h
 |itm h=>exact itm h
 |itx h=>exact itx h
def aM.cs{K:aB}{A:Addr->Prop}{H:au}{m:(xs:List V)->(ds:List D)->aM K A H xs ds->Prop}(nil:m [] [] .nil)
  (cons:∀{x d xs ds} (h:aA K A H x d) (r:aM K A H xs ds),m (x::xs) (d::ds) (.cons h r)){xs:List V}{ds:List D}(r:aM K A H xs ds):m xs ds r:=by
 cases r with
 |nil=>exact nil
 |cons h r=>exact cons h r
structure bB where
 ι:Type
 X:ι->aZ
 prog:bD
 w:World
 K:aB
 mg:Str->Option Value
 base:Heap
 k:Nat
 G:eK
 cx:∀i,(X i).prog=prog/\(X i).w=w/\(X i).K=K/\(X i).mg=mg/\(X i).base=base
 calm:∀i,(X i).calm=true
 room:∀i,gS k (X i).A
 own:∀i,Am (model (X i).prog (X i).w) (X i).A (X i).env (X i).xe
 pass:∀i,AR (eZ (X i).prog (X i).w) (X i) G.E
 dOk:Bool
 dcx:dOk=true->∀i,ia (X i) G.E
def bB.hK(C:bB)(i:C.ι):(C.X i).K=C.K:=(C.cx i).2.2.1
def iv{α:Type}(G:eK)(r:ag α)(P:α->Prop):Prop:=match r with
 | .ok a=>P a
 | .ex c=>∀H',aU G.H0 H'->G.E (.ref (G.cl c)) none H'
 | .st=>False
theorem iv.bd(h:iv G (r.bd k) P):iv G r (λ a=>iv G (k a) P):=by
 cases r with
 |ok a=>assumption
 |ex c=>assumption
 |st=>assumption
def iv.imp(h:iv G r P)(f:∀a,r= .ok a->P a->P' a):iv G r P':=by
 cases r with
 |ok a=>exact f a rfl h
 |ex c=>assumption
 |st=>assumption
abbrev Ba(K:aB)(m:Mode)(lab:kD)(H:au)(Q:bC):D->Prop:=λ d=>∀v H',aU H H'->aA K (lx m lab H) H' v d->Q v H'
abbrev UE(K:aB)(m:Mode)(lab:kD)(H:au)(Q:List V->au->Prop):List D->Prop:=λ ds=>∀vs H',aU H H'->aM K (lx m lab H) H' vs ds->Q vs H'
abbrev UF(H:au)(Q:Bool->au->Prop):Bool->Prop:=λ b=>∀H',aU H H'->Q b H'
def eO(K:aB)(G:eK)(m:Mode)(t:bw)(f:af->ag D):Prop:=∀τ Z H ρ lab (Q:bC),RR K G τ ρ Z H lab->iv G (f ρ) (Ba K m lab H Q)->t Z H Q
def Bb(K:aB)(G:eK)(m:Mode)(t:fZ)(f:af->ag (List D)):Prop:=∀τ Z H ρ lab (Q:List V->au->Prop),RR K G τ ρ Z H lab->iv G (f ρ) (UE K m lab H Q)->t Z H Q
def o8(K:aB)(G:eK)(t:gk)(f:af->ag Bool):Prop:=∀τ Z H ρ lab (Q:Bool->au->Prop),RR K G τ ρ Z H lab->iv G (f ρ) (UF H Q)->t Z H Q
def aF(C:bB)(m:Mode)(e:Expr)(f:af->ag D):Prop:=∃t,(∀i,bq (C.X i) e t)/\eO C.K C.G m t f
def fN(C:bB)(m:Mode)(es:List Expr)(f:af->ag (List D)):Prop:=∃t,(∀i,iM (C.X i) es t)/\Bb C.K C.G m t f
def gp(C:bB)(e:Expr)(f:af->ag Bool):Prop:=∃t,(∀i,jV (C.X i) e t)/\o8 C.K C.G t f
def gd(C:bB)(e:Expr)(f:af->ag Bool):Prop:=∃t,(∀i,o3 (C.X i) e t)/\o8 C.K C.G t f
def gd.st(h:gd C e f):gp C e f:=let⟨t,h1,h2⟩:=h;⟨t,λ i=>(h1 i).pt,h2⟩
noncomputable def cc(i:Nat):af->ag D:=λ ρ=>match ρ[i]? with
 |some (.sh d)=>.ok d
 |some (.nw d)=>.ok d
 |some (.ow d)=>.ok d
 |some (.oz d)=>.ok d
 |some (.o2 l)=>.ok (.lst (l.map .lst))
 |_=>.st
noncomputable def aa(i:Nat):af->ag D:=λ ρ=>match ρ[i]? with
 |some (.sh d)=>.ok d
 |some (.nw d)=>.ok d
 |_=>.st
noncomputable def fG(i:Nat):af->ag D:=λ ρ=>match ρ[i]? with
 |some (.nw d)=>.ok d
 |_=>.st
noncomputable def jc(i:Nat):af->ag D:=λ ρ=>match ρ[i]? with
 |some (.ow d)=>.ok d
 |some (.o2 l)=>.ok (.lst (l.map .lst))
 |_=>.st
noncomputable def aq(d:D):af->ag D:=λ _=>.ok d
def E9{K:aB}{H:au}{lab:kD}{i:Nat}{v:V}{l:jb}(h:ly K H lab i v (.o2 l)):aA K (λ p=>(lab p).1=i+2) H v (.lst (l.map .lst)):=by
 obtain⟨a,xs,rfl,k,c,X,d⟩:=h;refine .lst k (by rw[c]) ?_;have m:∀(xs:List V) (l:jb) (n:Nat),xs.length=l.length->0<n->(∀(j:Nat) x ds,xs[j]? =some x->l[j]? =some ds->aA K (λ p=>lab p=(i+2,n+j)) H x (.lst ds))->aM K (λ p=>(lab p).1=i+2/\p≠a) H xs (l.map .lst):=by
  intro xs;induction xs with
  |nil=>intro l n b _ _;cases l with|nil=>exact .nil|cons _ _=>simp at b
  |cons x xs q=>
   intro l n b r h;cases l with
   |nil=>simp at b
   |cons ds l=>
    refine .cons (aA.wk (λ p o e z=>⟨by rw[z],λ e=>by simp_all⟩) (h 0 x ds rfl rfl)) (q l (n+1) (by simpa using b) (by lia) λ j y es f g=>?_);have z:=h (j+1) y es (by simpa using f) (by simpa using g);rw[show n+1+j=n+(j+1)by lia];exact z
 exact m xs l 1 X (by lia) λ j x ds f g=>by have z:=d j x ds f g;rw[show 1+j=j+1 by lia];exact z
section
variable{C:bB}{pos:Pos}
def ME(K:aB)(G:eK)(i:Nat):eO K G (some [0,1,i+2]) (g8 i) (cc i):=by
 intro τ Z H ρ lab Q R W;unfold cc at W;cases e:ρ[i]? with
 |none=>rw[e]at W;exact W.elim
 |some s=>
  rw[e]at W;rcases R.sl i s e with rfl|⟨v,a,h⟩
  .exact aV W
  .cases s with
   |no=>exact aV W
   |sh d=>exact⟨v,a,W v H (aU.refl H) (aA.wk (λ p o e z=>.inr (by show(lab p).1∈[0,1,i+2];rcases(show(lab p).1=0\/(lab p).1=1 by lia)with q|q<;>rw[q]<;>simp)) h)⟩
   |nw d=>exact⟨v,a,W v H (aU.refl H) (aA.wk (λ p o e z=>.inr (by show(lab p).1∈[0,1,i+2];rw[z];simp)) h)⟩
   |ow d=>exact⟨v,a,W v H (aU.refl H) (aA.wk (λ p o e z=>.inr (by show(lab p).1∈[0,1,i+2];simp_all)) h.1)⟩
   |oz d=>exact⟨v,a,W v H (aU.refl H) (aA.wk (λ p o e z=>.inr (by show(lab p).1∈[0,1,i+2];rcases(show(lab p).1=0\/(lab p).1=1\/(lab p).1=i+2 by lia)with q|q|q<;>rw[q]<;>simp)) (MD h))⟩
   |o2 l=>exact⟨v,a,W v H (aU.refl H) (aA.wk (λ p o e z=>.inr (by show(lab p).1∈[0,1,i+2];rw[z];simp)) (E9 h))⟩
def UG(K:aB)(G:eK)(i:Nat):eO K G (some [0,1]) (g8 i) (aa i):=by
 intro τ Z H ρ lab Q R W;unfold aa at W;cases e:ρ[i]? with
 |none=>rw[e]at W;exact W.elim
 |some s=>
  rw[e]at W;rcases R.sl i s e with rfl|⟨v,a,h⟩
  .exact aV W
  .cases s with
   |sh d=>exact⟨v,a,W v H (aU.refl H) (aA.wk (λ p o e z=>.inr (by show(lab p).1∈[0,1];rcases(show(lab p).1=0\/(lab p).1=1 by lia)with q|q<;>rw[q]<;>simp)) h)⟩
   |nw d=>exact⟨v,a,W v H (aU.refl H) (aA.wk (λ p o e z=>.inr (by show(lab p).1∈[0,1];simp_all)) h)⟩
   |_=>exact aV W
def UH(K:aB)(G:eK)(i:Nat):eO K G (some [1]) (g8 i) (fG i):=by
 intro τ Z H ρ lab Q R W;unfold fG at W;cases e:ρ[i]? with
 |none=>rw[e]at W;exact W.elim
 |some s=>
  rw[e]at W;rcases R.sl i s e with rfl|⟨v,a,h⟩
  .exact aV W
  .cases s with
   |nw d=>exact⟨v,a,W v H (aU.refl H) (aA.wk (λ p o e z=>.inr (by show(lab p).1∈[1];simp_all)) h)⟩
   |_=>exact aV W
def UI(K:aB)(G:eK)(i:Nat):eO K G (some [1,i+2]) (g8 i) (jc i):=by
 intro τ Z H ρ lab Q R W;unfold jc at W;cases e:ρ[i]? with
 |none=>rw[e]at W;exact W.elim
 |some s=>
  rw[e]at W;rcases R.sl i s e with rfl|⟨v,a,h⟩
  .exact aV W
  .cases s with
   |ow d=>exact⟨v,a,W v H (aU.refl H) (aA.wk (λ p o e z=>.inr (by show(lab p).1∈[1,i+2];simp_all)) h.1)⟩
   |o2 l=>exact⟨v,a,W v H (aU.refl H) (aA.wk (λ p o e z=>.inr (by show(lab p).1∈[1,i+2];simp_all)) (E9 h))⟩
   |_=>exact aV W
def hp(i:Nat)(N:∀j,(C.X j).N[i]? =some x:=by z_go)(v:∀j,hI (C.X j).env.scope x:=by x_go)(d:Nd x:=by decide)
  (h:(x==("__classdict__":Str))=false:=by decide):aF C (some [0,1,i+2]) (.Name x pos) (cc i):=⟨_,λ j=>iO (N j) (v j) d h,ME _ _ i⟩
def ai(i:Nat)(N:∀j,(C.X j).N[i]? =some x:=by z_go)(v:∀j,hI (C.X j).env.scope x:=by x_go)(d:Nd x:=by decide)
  (h:(x==("__classdict__":Str))=false:=by decide):aF C (some [0,1]) (.Name x pos) (aa i):=⟨_,λ j=>iO (N j) (v j) d h,UG _ _ i⟩
def iw(i:Nat)(N:∀j,(C.X j).N[i]? =some x:=by z_go)(v:∀j,hI (C.X j).env.scope x:=by x_go)(d:Nd x:=by decide)
  (h:(x==("__classdict__":Str))=false:=by decide):aF C (some [1]) (.Name x pos) (fG i):=⟨_,λ j=>iO (N j) (v j) d h,UH _ _ i⟩
def mR(i:Nat)(N:∀j,(C.X j).N[i]? =some x:=by z_go)(v:∀j,hI (C.X j).env.scope x:=by x_go)(d:Nd x:=by decide)
  (h:(x==("__classdict__":Str))=false:=by decide):aF C (some [1,i+2]) (.Name x pos) (jc i):=⟨_,λ j=>iO (N j) (v j) d h,UI _ _ i⟩
def aG:aF C (some []) (.Constant (.int i) j pos) (aq (.int i)):=⟨_,λ _=>Le,λ τ Z H ρ lab Q R W=>W _ H (aU.refl H) (.int i)⟩
def dZ:aF C (some []) (.Constant (.bool b) j pos) (aq (.bl b)):=⟨_,λ _=>Rk,λ τ Z H ρ lab Q R W=>W _ H (aU.refl H) (.bl b)⟩
def qE:aF C (some []) (.Constant .none j pos) (aq .non):=⟨_,λ _=>Rl,λ τ Z H ρ lab Q R W=>W _ H (aU.refl H) .non⟩
def rW:aF C (some []) (.Constant (.str x) j pos) (aq (.str x)):=⟨_,λ _=>Rm,λ τ Z H ρ lab Q R W=>W _ H (aU.refl H) (.str x)⟩
def MF(m:C.mg x=some u)(r:RelV v u)(a:∀A H,aA C.K A H v d)(h:Nd x:=by decide)(g:∀i,dA (C.X i) x:=by z_go):aF C (some []) (.Name x pos) (aq d):=
 ⟨_,λ i=>Rn (g i) (by rw[(C.cx i).2.2.2.1];assumption) r h,λ τ Z H ρ lab Q R W=>W _ H (aU.refl H) (a _ _)⟩
def gD(d:D):ag D:=if imm d=true then .ok d else .st
def aK(f:af->ag D):af->ag D:=λ ρ=>(f ρ).bd gD
def bG(h:aF C m e f):aF C (some []) e (aK f):=by
 obtain⟨t,b,c⟩:=h;refine⟨t,b,λ τ Z H ρ lab Q R W=>c τ Z H ρ _ Q R (W.bd.imp λ d _ w v H' s r=>?_)⟩;unfold gD at w;by_cases a:imm d=true
 .rw[if_pos a]at w
  exact w v H' s (r.imm a)
 .rw[if_neg a]at w
  exact aV w
def ak:af->ag (List D):=λ _=>.ok []
def ae(f:af->ag D)(g:af->ag (List D)):af->ag (List D):=λ ρ=>(f ρ).bd λ d=>(g ρ).bd λ ds=>.ok (d::ds)
variable{m E B:Mode}{e a b:Expr}{es:List Expr}{f j n:af->ag D}{g:af->ag (List D)}
def aw:fN C (some []) [] ak:=⟨_,λ _=>kB,λ τ Z H ρ lab Q R W=>W _ H (aU.refl H) .nil⟩
def ao(h:aF C E e f)(hr:fN C B es g)(a:∀i,bf (e::es) (C.X i).env=(false,eval e (C.X i).env)::bf es (C.X i).env:=by z_go):fN C (me E B) (e::es) (ae f g):=by
 obtain⟨t,b,c⟩:=h;obtain⟨u,k1,k2⟩:=hr;refine⟨_,λ i=>g9 (b i) (k1 i) (a i),λ τ Z H ρ lab Q R W=>?_⟩;refine c τ Z H ρ _ _ R (W.bd.imp λ d _ w x j s r=>?_);refine k2 τ Z j ρ _ _ (R.up s) (w.bd.imp λ ds _ w xs k s2 l=>?_);exact w _ k (s.trans s2) (.cons (r.mono s2 λ p o _ z=>A8 z) (l.wk λ p o _ z=>A9 (rV s z)))
def ck(g:af->ag (List D)):af->ag D:=λ ρ=>(g ρ).bd λ ds=>if ds.length<=aQ then .ok (.tup ds)else .st
def dC(g:af->ag (List D)):af->ag D:=λ ρ=>(g ρ).bd λ ds=>if ds.length<=aQ then .ok (.lst ds)else .st
def cW{x1}(h:fN C m es g):aF C m (.Tuple es x1 pos) (ck g):=by
 obtain⟨t,a,b⟩:=h;refine⟨_,λ i=>TC (a i),λ τ Z H ρ lab Q R W=>b τ Z H ρ _ _ R (W.bd.imp λ ds _ w xs d c r=>?_)⟩;by_cases hz:ds.length<=aQ
 .rw[if_pos hz]at w
  exact⟨by rw[r.length];simp_all,λ p H' s ah _=>w _ H' (c.trans s) (.tup (bQ.of ah) (r.up s))⟩
 .rw[if_neg hz]at w
  exact aV w
def jA(h:fN C m es g):aF C m (.List es pos) (dC g):=by
 obtain⟨t,b,c⟩:=h;refine⟨_,λ i=>EY (b i),λ τ Z H ρ lab Q R W=>c τ Z H ρ _ _ R (W.bd.imp λ ds _ w xs d a r=>?_)⟩;by_cases hz:ds.length<=aQ
 .rw[if_pos hz]at w
  exact⟨by rw[r.length];assumption,λ p H' s ah n=>w _ H' (a.trans s) (.lst ah (.inl (a.free n)) ((r.wk λ q o e z=>⟨z,λ f=>by lia⟩).up s))⟩
 .rw[if_neg hz]at w
  exact aV w
def Fb:aF C (some []) (.Dict [] [] pos) (aq (.dct [] [])):=
 ⟨_,λ _=>TG,λ τ Z H ρ lab Q R W p H' s ah h=>W _ H' s (.dK ah (.inl h) .nil)⟩
def MG(H:au)(v:V)(d:D):Prop:=uK d=true->∃a,v= .ref a/\H a=none
def Fc(K:aB)(G:eK)(m:Mode)(t:bw)(f:af->ag D):Prop:=∀τ Z H ρ lab (Q:bC),RR K G τ ρ Z H lab->iv G (f ρ) (λ d=>∀v H',aU H H'->aA K (lx m lab H) H' v d->MG H v d->Q v H')->t Z H Q
def Bc(C:bB)(m:Mode)(e:Expr)(f:af->ag D):Prop:=∃t,(∀i,bq (C.X i) e t)/\Fc C.K C.G m t f
def eO.toF{K:aB}{G:eK}{t:bw}{f:af->ag D}(h:eO K G (some []) t f):Fc K G (some []) t f:=λ τ Z H ρ lab Q R W=>
 h τ Z H ρ _ Q R (W.imp λ d _ w v H' s r=>w v H' s r λ m=>by
  obtain⟨a,rfl⟩:=UD r m;obtain⟨o,_,_,z⟩:=MB r m;rcases z with z|z
  .exact⟨a,rfl,z⟩
  .cases z)
def Bd(h:aF C (some []) e f):Bc C (some []) e f:=let⟨t,h1,h2⟩:=h;⟨t,h1,h2.toF⟩
def mS(h:fN C m es g):Bc C m (.List es pos) (dC g):=by
 obtain⟨t,b,c⟩:=h;refine⟨_,λ i=>EY (b i),λ τ Z H ρ lab Q R W=>c τ Z H ρ _ _ R (W.bd.imp λ ds _ w xs d a r=>?_)⟩;by_cases hz:ds.length<=aQ
 .rw[if_pos hz]at w
  exact⟨by rw[r.length];assumption,λ p H' s ah n=>w _ H' (a.trans s) (.lst ah (.inl (a.free n)) ((r.wk λ q o e z=>⟨z,λ f=>by simp_all⟩).up s)) λ _=>⟨p,rfl,a.free n⟩⟩
 .rw[if_neg hz]at w
  exact aV w
def gf(K:aB)(r:bA)(f:D->D->ag D):Prop:=∀(A:Addr->Prop) x y d e H (Q:bC) z,aA K A H x d->aA K A H y e->f d e= .ok z->(∀v H',aU H H'->aA K (λ p=>H p=none\/A p) H' v z->Q v H')->r x y H Q
def Fd(K:aB)(r:V->au->bC->Prop)(f:D->ag D):Prop:=∀(A:Addr->Prop) x d H (Q:bC) z,aA K A H x d->f d= .ok z->(∀v H',aU H H'->aA K (λ p=>H p=none\/A p) H' v z->Q v H')->r x H Q
def nT(K:aB)(r:List V->au->bC->Prop)(f:List D->ag D):Prop:=∀(A:Addr->Prop) xs ds H (Q:bC) z,aM K A H xs ds->f ds= .ok z->(∀v H',aU H H'->aA K (λ p=>H p=none\/A p) H' v z->Q v H')->r xs H Q
def okD(r:ag D):ag D:=match r with
 | .ok d=>.ok d
 |_=>.st
def aj(f:D->D->ag D)(j n:af->ag D):af->ag D:=λ ρ=>(j ρ).bd λ x=>(n ρ).bd λ y=>okD (f x y)
def dq(f:D->ag D)(j:af->ag D):af->ag D:=λ ρ=>(j ρ).bd λ x=>okD (f x)
def aN(f:List D->ag D)(j:af->ag (List D)):af->ag D:=λ ρ=>(j ρ).bd λ x=>okD (f x)
theorem iv.okD(h:iv G (okD r) P):∃z,r= .ok z/\P z:=by
 cases r with
 |ok z=>exact⟨z,rfl,h⟩
 |ex c=>exact aV h
 |st=>exact aV h
def Fe{K:aB}{G:eK}{r:bA}{t b:bw}{f:D->D->ag D}(h:gf K r f)(c:eO K G E t j)(g:eO K G B b n):eO K G (me E B) (mM r t b) (aj f j n):=by
 intro τ Z H ρ lab Q R W;refine c τ Z H ρ _ _ R (W.bd.imp λ d _ w x i a k=>?_);refine g τ Z i ρ _ _ (R.up a) (w.bd.imp λ e _ w y l s2 m=>?_);obtain⟨z,u,w⟩:=w.okD;refine h _ x y d e l Q z (k.mono s2 λ p o _ q=>A8 q) (m.wk λ p o _ q=>A9 (rV a q)) u λ v H' s r=>w v H' ((a.trans s2).trans s) (r.wk λ p o _ q=>?_)
 rcases q with q|q
 .exact .inl ((a.trans s2).free q)
 simp_all
def UJ{K:aB}{G:eK}{r:V->au->bC->Prop}{t:bw}{f:D->ag D}(h:Fd K r f)(b:eO K G m t j):eO K G m (EH r t) (dq f j):=by
 intro τ Z H ρ lab Q R W;refine b τ Z H ρ _ _ R (W.bd.imp λ d _ w x c a e=>?_);obtain⟨z,g,w⟩:=w.okD;refine h _ x d c Q z e g λ v H' s r=>w v H' (a.trans s) (r.wk λ p o _ q=>?_)
 rcases q with q|q
 .exact .inl (a.free q)
 assumption
def MH{K:aB}{G:eK}{r:List V->au->bC->Prop}{t:fZ}{f:List D->ag D}(h:nT K r f)(b:Bb K G m t g):eO K G m (mO r t) (aN f g):=by
 intro τ Z H ρ lab Q R W;refine b τ Z H ρ _ _ R (W.bd.imp λ d _ w x c a e=>?_);obtain⟨z,i,w⟩:=w.okD;refine h _ x d c Q z e i λ v H' s r=>w v H' (a.trans s) (r.wk λ p o _ q=>?_)
 rcases q with q|q
 .exact .inl (a.free q)
 assumption
def jY(h:aF C m e f)(i:∀ρ d,f ρ= .ok d->imm d=true):aF C (some []) e f:=by
 obtain⟨t,a,b⟩:=h;exact⟨t,a,λ τ Z H ρ lab Q R W=>b τ Z H ρ _ Q R (W.imp λ d c w v H' s r=>w v H' s (r.imm (i ρ d c)))⟩
def qF(h:∀x y z,fd x y= .ok z->imm z=true)(e:aj fd j n ρ= .ok d):imm d=true:=by
 obtain⟨x,_,e⟩:=iX e;obtain⟨y,_,e⟩:=iX e;unfold okD at e;split at e<;>grind
def UK(h:∀x z,fd x= .ok z->imm z=true)(e:dq fd j ρ= .ok d):imm d=true:=by
 obtain⟨x,_,e⟩:=iX e;unfold okD at e;split at e<;>grind
def uL(h:∀x z,fd x= .ok z->imm z=true)(e:aN fd g ρ= .ok d):imm d=true:=by
 obtain⟨x,_,e⟩:=iX e;unfold okD at e;split at e<;>grind
def uM(o:∀i,bT (C.X i) (iJ op) r)(h:gf C.K r fd)(c:aF C E a j)(d:aF C B b n):aF C (me E B) (.BinOp a op b pos) (aj fd j n):=by
 obtain⟨t,e,f⟩:=c;obtain⟨u,k1,k2⟩:=d;exact⟨_,λ i=>Ly (o i) (e i) (k1 i),Fe h f k2⟩
def UL(o:∀i,AK (C.X i) (unaryOp op) r)(h:Fd C.K r fd)(b:aF C m a j):aF C m (.UnaryOp op a pos) (dq fd j):=by
 obtain⟨t,c,d⟩:=b;exact⟨_,λ i=>Lz (o i) (c i),UJ h d⟩
def Be(o:∀i,bT (C.X i) (dP op) r)(h:gf C.K r fd)(c:aF C E a j)(d:aF C B b n)(m:lU op b=false:=by first|exact LF _|(with_unfolding_all rfl)):
  aF C (me E B) (.Compare a [op] [b] pos) (aj fd j n):=by
 obtain⟨t,e,f⟩:=c;obtain⟨u,k1,k2⟩:=d;exact⟨_,λ i=>Sp (o i) (e i) (k1 i) m,Fe h f k2⟩
variable{p:Pos}{x:Str}{F T:String}
def uN(o:∀i,fM (C.X i) (.builtin F) r)(s:nT C.K r fd)(a:∀i,dA (C.X i) x)(j:C.mg x=none)(v:gx x=some (.builtin F))(b:fN C m (e::es) g)
  (n:x≠"__name__":=by decide)(h:Nd x:=by decide)(c:∀i,bf (e::es) (C.X i).env=(false,eval e (C.X i).env)::bf es (C.X i).env:=by z_go)
  (hpl:∀i,(fW pos (bf es (C.X i).env)).any (·.1)=false:=by z_go):aF C m (.Call (.Name x p) (e::es) [] pos) (aN fd g):=by
 obtain⟨t,d,f⟩:=b;exact⟨_,λ i=>uu (o i) (a i) (by rw[(C.cx i).2.2.2.1];assumption) v (d i) n h (c i) (hpl i),MH s f⟩
def MI(o:∀i,fM (C.X i) (.type T) r)(s:nT C.K r fd)(a:∀i,dA (C.X i) x)(j:C.mg x=none)(v:gx x=some (.type T))(b:fN C m (e::es) g)
  (n:x≠"__name__":=by decide)(h:Nd x:=by decide)(c:∀i,bf (e::es) (C.X i).env=(false,eval e (C.X i).env)::bf es (C.X i).env:=by z_go)
  (hpl:∀i,(fW pos (bf es (C.X i).env)).any (·.1)=false:=by z_go):aF C m (.Call (.Name x p) (e::es) [] pos) (aN fd g):=by
 obtain⟨t,d,f⟩:=b;exact⟨_,λ i=>uv (o i) (a i) (by rw[(C.cx i).2.2.2.1];assumption) v (d i) n h (c i) (hpl i),MH s f⟩
def lA(f g:af->ag D):af->ag D:=λ ρ=>(f ρ).bd λ d=>match d with
 | .bl true=>g ρ
 | .bl false=>.ok (.bl false)
 |_=>.st
def Bf(f g:af->ag D):af->ag D:=λ ρ=>(f ρ).bd λ d=>match d with
 | .bl false=>g ρ
 | .bl true=>.ok (.bl true)
 |_=>.st
noncomputable def Bg:D->ag D
 | .bl b=>.ok (.bl (!b))
 |_=>.st
variable{rest:List Expr}
def mT{op}(h:aF C m a j):aF C m (.BoolOp op [a] pos) j:=by assumption
def m4(h:aF C E a j)(g:aF C B (.BoolOp .And (b::rest) pos) n):aF C B (.BoolOp .And (a::b::rest) pos) (lA j n):=by
 obtain⟨t,k,l⟩:=h;obtain⟨u,k1,k2⟩:=g;refine⟨_,λ i=>Rz (k i) (k1 i),λ τ Z H ρ lab Q R W=>l τ Z H ρ lab _ R (W.bd.imp λ d _ w x f e m=>?_)⟩;induction m using aA.cs with
 |bl c=>
  refine⟨c,rfl,?_⟩;cases c with
  |true=>
   exact k2 τ Z f ρ lab Q (R.up e) (w.imp λ z _ w v H' s r=>w v H' (e.trans s) (r.wk λ p o _ q=>rV e q))
  |false=>
   exact w _ f e (.bl false)
 |_=>exact aV w
def UM(h:aF C E a j)(g:aF C B (.BoolOp .Or (b::rest) pos) n):aF C B (.BoolOp .Or (a::b::rest) pos) (Bf j n):=by
 obtain⟨t,k,l⟩:=h;obtain⟨u,k1,k2⟩:=g;refine⟨_,λ i=>RA (k i) (k1 i),λ τ Z H ρ lab Q R W=>l τ Z H ρ lab _ R (W.bd.imp λ d _ w x f e m=>?_)⟩;induction m using aA.cs with
 |bl c=>
  refine⟨c,rfl,?_⟩;cases c with
  |false=>
   exact k2 τ Z f ρ lab Q (R.up e) (w.imp λ z _ w v H' s r=>w v H' (e.trans s) (r.wk λ p o _ q=>rV e q))
  |true=>
   exact w _ f e (.bl true)
 |_=>exact aV w
def MJ(h:aF C m a j):aF C (some []) (.UnaryOp .Not a pos) (dq Bg j):=by
 obtain⟨t,b,e⟩:=h;refine⟨_,λ i=>RC (b i),λ τ Z H ρ lab Q R W=>e τ Z H ρ _ _ R (W.bd.imp λ d _ w x f s r=>?_)⟩;obtain⟨z,g,w⟩:=w.okD;induction r using aA.cs with
 |bl c=>exact⟨c,rfl,w _ f s (.bl _)⟩
 |_=>cases g
def Ff(c:af->ag Bool)(f g:af->ag D):af->ag D:=λ ρ=>(c ρ).bd λ k=>if k=true then f ρ else g ρ
def UN(h:gp C c fc)(f:aF C E a j)(g:aF C B b n):aF C (me E B) (.IfExp c a b pos) (Ff fc j n):=by
 obtain⟨A,l,m⟩:=h;obtain⟨t,x,y⟩:=f;obtain⟨u,k1,k2⟩:=g;refine⟨_,λ i=>RE (l i) (x i) (k1 i),λ τ Z H ρ lab Q R W=>m τ Z H ρ _ _ R (W.bd.imp λ k _ w e d=>?_)⟩;cases k with
 |true=>
  exact y τ Z e ρ _ Q (R.up d) (w.imp λ z _ w v H' s r=>w v H' (d.trans s) (r.wk λ p o _ q=>A8 (rV d q)))
 |false=>
  exact k2 τ Z e ρ _ Q (R.up d) (w.imp λ z _ w v H' s r=>w v H' (d.trans s) (r.wk λ p o _ q=>A9 (rV d q)))
def o9(d f:D->D->ag D)(j n c:af->ag D):af->ag D:=λ ρ=>(j ρ).bd λ x=>(n ρ).bd λ y=>(okD (d x y)).bd λ z=>match z with
 | .bl true=>(c ρ).bd λ w=>okD (f y w)
 | .bl false=>.ok (.bl false)
 |_=>.st
def UO{K:aB}{G:eK}{r b:bA}{t g i:bw}{k f:D->D->ag D}{l:af->ag D}{A:Mode}(C:gf K r k)(h:gf K b f)(F:∀x y z,f x y= .ok z->imm z=true)(I:eO K G E t j)(J:eO K G B g n)(L:eO K G A i l):
  eO K G (some []) (LH r b t g i) (o9 k f j n l):=by
 intro τ Z H ρ lab Q R W;refine I τ Z H ρ lab _ R (W.bd.imp λ d _ w x M s N=>?_);refine J τ Z M ρ lab _ (R.up s) (w.bd.imp λ e _ w y O s2 m=>?_);obtain⟨z,P,w⟩:=w.bd.okD;refine C (λ _=>True) x y d e O _ z (N.mono s2 λ p o _ q=>trivial) (m.wk λ p o _ q=>trivial) P λ v u s3 S=>?_
 induction S using aA.cs with
 |bl c=>
  refine⟨c,rfl,?_⟩;cases c with
  |false=>
   rw[if_neg gh];exact w _ u ((s.trans s2).trans s3) (.bl false)
  |true=>
   rw[if_pos rfl];refine L τ Z u ρ lab _ ((R.up s).up (s2.trans s3)) (w.bd.imp λ T _ w U V s4 X=>?_);obtain⟨Y,a,w⟩:=w.okD;exact h (λ _=>True) y U e T V Q Y (m.mono (s3.trans s4) λ p o _ q=>trivial) (X.wk λ p o _ q=>trivial) a λ v H5 s5 r5=>w v H5 ((((s.trans s2).trans s3).trans s4).trans s5) (r5.imm (F _ _ _ a))
 |_=>exact aV w
def MK(d:∀i,bT (C.X i) (dP op) r)(s:gf C.K r fd)(o:∀i,bT (C.X i) (dP op') r')(h:gf C.K r' fd')(e:∀x y z,fd' x y= .ok z->imm z=true)
  (f:aF C E a j)(g:aF C B b n)(k:aF C m3 c fc)(m:An [op,op'] [b,c]=false:=by by_in):aF C (some []) (.Compare a [op,op'] [b,c] pos) (o9 fd fd' j n fc):=by
 obtain⟨t,l,p⟩:=f;obtain⟨u,k1,k2⟩:=g;obtain⟨v,q,w⟩:=k;exact⟨_,λ i=>Sq (d i) (o i) (l i) (k1 i) (q i) m,UO s h e p k2 w⟩
noncomputable def Bh:D->ag Bool
 | .non=>.ok false
 | .bl b=>.ok b
 | .int i=>.ok (i !=0)
 | .tup l=>.ok (!l.isEmpty)
 | .lst l=>.ok (!l.isEmpty)
 |_=>.st
def nV:D->ag Bool
 | .bl b=>.ok b
 |_=>.st
def cX(f:af->ag D):af->ag Bool:=λ ρ=>(f ρ).bd Bh
def bh(f:af->ag D):af->ag Bool:=λ ρ=>(f ρ).bd nV
def ML{K:aB}{A:Addr->Prop}{H:au}{xs:List V}{ds:List D}(r:aM K A H xs ds):(!ds.isEmpty)= !xs.isEmpty:=by induction r using aM.cs<;>rfl
def eP(e:aF C m a j)(f:∀i o,isTrue a (C.X i).env o=(do let v <-o;oT a.pos;ju [v] (truthy v)):=by intro _ _;rfl):gp C a (cX j):=by
 obtain⟨t,g,l⟩:=e;refine⟨λ Z H Q=>t Z H λ x H'=>∃k,EK C.K x H' k/\Q k H',λ i=>by rw[<-C.hK i];exact Su (g i) (f i),λ τ Z H ρ lab Q R W=>l τ Z H ρ lab _ R (W.bd.imp λ d _ w x c s n=>?_)⟩;induction n using aA.cs with
 |non=>exact⟨_,rfl,w c s⟩
 |bl b=>exact⟨b,rfl,w c s⟩
 |int i=>exact⟨_,rfl,w c s⟩
 |tup h r=>exact⟨_,.inr (.inl ⟨_,h,rfl⟩),by rw[<-ML r];exact w c s⟩
 |lst h m r=>exact⟨_,.inl ⟨_,cu.of h,rfl⟩,by rw[<-ML r];exact w c s⟩
 |_=>exact aV w
def MM{K:aB}{G:eK}{t:bw}{f:af->ag D}(h:eO K G m t f):o8 K G (EJ t) (bh f):=λ τ Z H ρ lab Q R W=>h τ Z H ρ _ _ R (W.bd.imp λ d _ w x a s r=>by
 induction r using aA.cs with
 |bl b=>exact⟨b,rfl,w a s⟩
 |_=>exact aV w)
def nX(o:∀i,bT (C.X i) (dP op) r)(h:gf C.K r fd)(c:aF C E a j)(d:aF C B b n)(m:lU op b=false:=by first|exact LF _|(with_unfolding_all rfl)):
  gp C (.Compare a [op] [b] pos) (bh (aj fd j n)):=by
 obtain⟨t,e,f⟩:=c;obtain⟨u,k1,k2⟩:=d;exact⟨_,λ i=>LG (o i) (e i) (k1 i) m,MM (Fe h f k2)⟩
variable{c d:af->ag Bool}
def uO(f g:af->ag Bool):af->ag Bool:=λ ρ=>(f ρ).bd λ k=>if k=true then g ρ else .ok false
def gq(f g:af->ag Bool):af->ag Bool:=λ ρ=>(f ρ).bd λ k=>if k=true then .ok true else g ρ
def dc(f:af->ag Bool):af->ag Bool:=λ ρ=>(f ρ).bd λ k=>.ok (!k)
def Fg(h:gp C a c):gd C (.BoolOp .And [a] pos) c:=let⟨t,h1,h2⟩:=h;⟨t,λ i=>Rt (h1 i),h2⟩
def jB(h:gp C a c):gd C (.BoolOp .Or [a] pos) c:=let⟨t,h1,h2⟩:=h;⟨t,λ i=>Lh (h1 i),h2⟩
def Fh(h:gp C a c)(g:gd C (.BoolOp .And (b::rest) pos) d):gd C (.BoolOp .And (a::b::rest) pos) (uO c d):=by
 obtain⟨t,j,l⟩:=h;obtain⟨u,k1,k2⟩:=g;refine⟨_,λ i=>Ru (j i) (k1 i),λ τ Z H ρ lab Q R W=>l τ Z H ρ _ _ R (W.bd.imp λ k _ w f e=>?_)⟩;cases k with
 |true=>
  exact k2 τ Z f ρ _ Q (R.up e) (w.imp λ z _ w H' s=>w H' (e.trans s))
 |false=>
  exact w f e
def iY(h:gp C a c)(g:gd C (.BoolOp .Or (b::rest) pos) d):gd C (.BoolOp .Or (a::b::rest) pos) (gq c d):=by
 obtain⟨t,j,l⟩:=h;obtain⟨u,k1,k2⟩:=g;refine⟨_,λ i=>Li (j i) (k1 i),λ τ Z H ρ lab Q R W=>l τ Z H ρ _ _ R (W.bd.imp λ k _ w f e=>?_)⟩;cases k with
 |false=>
  exact k2 τ Z f ρ _ Q (R.up e) (w.imp λ z _ w H' s=>w H' (e.trans s))
 |true=>
  exact w f e
def e7(h:gp C a c):gp C (.UnaryOp .Not a pos) (dc c):=by
 obtain⟨t,b,d⟩:=h;exact⟨_,λ i=>Rv (b i),λ τ Z H ρ lab Q R W=>d τ Z H ρ _ _ R (W.bd.imp λ k _ w e s=>w e s)⟩
end
inductive aC where
 |nx (ρ:af)|rt (d:D)|bk (ρ:af)|ct (ρ:af)|ex (c:Str)|st
noncomputable def ag.bo{α:Type}:ag α->(α->aC)->aC
 | .ok a,f=>f a
 | .ex c,_=>.ex c
 | .st,_=>.st
@[simp] def cv(a:α)(f:α->aC):(ag.ok a).bo f=f a:=bF rfl
noncomputable def aC.sq:aC->(af->aC)->aC
 | .nx ρ,f=>f ρ
 |o,_=>o
@[simp] def bj(ρ:af)(f:af->aC):(aC.nx ρ).sq f=f ρ:=bF rfl
@[simp] def sq_rt(d:D)(f:af->aC):(aC.rt d).sq f= .rt d:=bF rfl
def nZ(K:aB)(G:eK)(τ:List (V×D))(o:aC)(e:Ends):Prop:=match o with
 | .nx ρ=>∀Z H lab,RR K G τ ρ Z H lab->e.nx Z H
 | .bk ρ=>∀Z H lab,RR K G τ ρ Z H lab->e.bk Z H
 | .ct ρ=>∀Z H lab,RR K G τ ρ Z H lab->e.ct Z H
 | .rt d=>∀v H,aU G.H0 H->aA K (λ p=>G.H0 p=none) H v d->e.rt v H
 | .ex c=>∀H',aU G.H0 H'->G.E (.ref (G.cl c)) none H'
 | .st=>False
theorem nZ.bo{K:aB}(h:nZ K G τ (r.bo k) De):iv G r (λ a=>nZ K G τ (k a) De):=by
 cases r with
 |ok a=>assumption
 |ex c=>assumption
 |st=>assumption
def MN(K:aB)(G:eK)(t:hL)(f:af->aC):Prop:=∀τ Z H ρ lab (D:Ends),RR K G τ ρ Z H lab->nZ K G τ (f ρ) D->t D Z H
def hB(C:bB)(s:Stmt)(f:af->aC):Prop:=∃t,(∀i,iN (C.X i) s t)/\MN C.K C.G t f
def mf(C:bB)(s:List Stmt)(f:af->aC):Prop:=∃t,(∀i,lh (C.X i) s t)/\MN C.K C.G t f
section
variable{C:bB}{pos:Pos}{s:Stmt}{F:List Stmt}{f g:af->aC}{e:Expr}{m:Mode}{fe:af->ag D}
def ez:mf C [] .nx:=⟨_,λ _=>EB,λ τ Z H ρ lab D R W=>W Z H _ R⟩
def aP(f g:af->aC):af->aC:=λ ρ=>(f ρ).sq g
def aY(h:hB C s f):mf C [s] f:=let⟨t,h1,h2⟩:=h;⟨t,λ i=>Ll (h1 i),h2⟩
def aR(h:hB C s f)(k:mf C F g):mf C (s::F) (aP f g):=by
 obtain⟨t,b,e⟩:=h;obtain⟨u,k1,k2⟩:=k;refine⟨_,λ i=>Lk (b i) (k1 i),λ τ Z H ρ lab D R W=>e τ Z H ρ _ _ R ?_⟩;unfold aP at W;cases h:f ρ with
 |nx a=>rw[h]at W;exact λ m H' l j=>k2 τ _ H' _ _ D j W
 |rt d=>rw[h]at W;assumption
 |bk a=>rw[h]at W;assumption
 |ct a=>rw[h]at W;assumption
 |ex c=>rw[h]at W;assumption
 |st=>rw[h]at W;assumption
noncomputable def frz(i:Nat)(ρ:af):af:=match ρ[i]? with
 |some (.ow d)=>ρ.set i (.nw d)
 |some (.o2 l)=>ρ.set i (.nw (.lst (l.map .lst)))
 |_=>ρ
noncomputable def UP:Mode->Bool
 |some L=>L.all (·!=0)
 |none=>false
def retS(fe:af->ag D):af->aC:=λ ρ=>(fe ρ).bo .rt
def bN(a:aF C m e fe)(h:UP m=true:=by rfl):hB C (.Return (some e) pos) (retS fe):=by
 obtain⟨t,b,c⟩:=a;refine⟨_,λ i=>Lm (b i),λ τ Z H ρ lab D R W=>c τ Z H ρ _ _ R (W.bo.imp λ d _ w v H' s r=>w v H' (R.old.trans s) (r.wk λ p o _ z=>?_))⟩;rcases z with z|z
 .exact R.old.free z
 .cases m with
  |none=>cases h
  |some L=>
   refine R.new p λ f=>?_
   have:=gF.mp h _ z
   simp_all
def kE(fe:af->ag D):af->aC:=λ ρ=>(fe ρ).bo λ _=>.nx ρ
def rX(h:aF C m e fe)(a:∀i,i8 e none pos.line (C.X i).env=pure false:=by z_go):hB C (.Expr e pos) (kE fe):=by
 obtain⟨t,b,c⟩:=h;exact⟨_,λ i=>rO (b i) (a i),λ τ Z H ρ lab D R W=>c τ Z H ρ _ _ R (W.bo.imp λ d _ w v H' s r=>w Z H' _ (R.up s))⟩
def cI(c:af->ag Bool)(f g:af->aC):af->aC:=λ ρ=>(c ρ).bo λ k=>if k=true then f ρ else g ρ
def ee{a b:List Stmt}(h:gp C c fc)(e:mf C a f)(j:mf C b g):hB C (.If c a b pos) (cI fc f g):=by
 obtain⟨p,l,m⟩:=h;obtain⟨t,n,o⟩:=e;obtain⟨u,k1,k2⟩:=j;refine⟨_,λ i=>EC (l i) (n i) (k1 i),λ τ Z H ρ lab D R W=>m τ Z H ρ _ _ R (W.bo.imp λ k _ w d s=>?_)⟩;cases k with
 |true=>exact o τ Z d ρ _ D (R.up s) w
 |false=>exact k2 τ Z d ρ _ D (R.up s) w
def xC(C:bB)(i:Nat)(s:Stmt)(m:Mode)(f:af->ag D):Prop:=∃t,(∀j,iN (C.X j) s (xb t (qy i)))/\eO C.K C.G m t f
def dr(h:aF C m e fe)(N:∀j,(C.X j).N[i]? =some x:=by z_go)(a:∀j,lg (C.X j).env.scope x:=by f_tup)(s:∀j,i8 e (some (.Name x pos')) pos.line (C.X j).env=pure false:=by z_go)(f:∀j,(C.X j).fn x=true\/(C.X j).env.scope.names.lookup x=some .local:=by fin2)(n:∀j,(C.X j).N.Nodup:=by intro _;assumption):
  xC C i (.Assign [.Name x pos'] e pos) m fe:=by
 obtain⟨t,b,c⟩:=h;exact⟨t,λ j=>Lq (n j) (N j) (a j) (b j) (s j) (f j),c⟩
def Fi(C:bB)(i:Nat)(s:Stmt)(m:Mode)(f:af->ag D):Prop:=∃t,(∀j,iN (C.X j) s (xb t (qy i)))/\Fc C.K C.G m t f
def jC(h:Bc C m e fe)(N:∀j,(C.X j).N[i]? =some x:=by z_go)(a:∀j,lg (C.X j).env.scope x:=by f_tup)(s:∀j,i8 e (some (.Name x pos')) pos.line (C.X j).env=pure false:=by z_go)(f:∀j,(C.X j).fn x=true\/(C.X j).env.scope.names.lookup x=some .local:=by fin2)(n:∀j,(C.X j).N.Nodup:=by intro _;assumption):
  Fi C i (.Assign [.Name x pos'] e pos) m fe:=by
 obtain⟨t,b,c⟩:=h;exact⟨t,λ j=>Lq (n j) (N j) (a j) (b j) (s j) (f j),c⟩
def UQ(h:xC C i s (some []) fe):Fi C i s (some []) fe:=let⟨t,h1,h2⟩:=h;⟨t,h1,h2.toF⟩
noncomputable def Bi(P:Nat->Bool):Mode->Bool
 |some L=>L.all P
 |none=>false
def pa(h:Bi P m=true):∀k,qD m k->P k=true:=by
 intro k a;cases m with
 |none=>cases h
 |some L=>exact gF.mp h k a
abbrev xD:Mode->Bool:=Bi λ k=>decide (k<=1)
abbrev r9:Mode->Bool:=Bi λ k=>k==1
abbrev UR(i:Nat):Mode->Bool:=Bi λ k=>k==1||k==i+2
def cJ(i:Nat)(fe:af->ag D):af->aC:=λ ρ=>(fe ρ).bo λ d=>.nx (ρ.set i (.sh d))
def ie(i:Nat)(fe:af->ag D):af->aC:=λ ρ=>(fe ρ).bo λ d=>.nx (ρ.set i (.nw d))
def eQ(i:Nat)(fe:af->ag D):af->aC:=λ ρ=>(fe ρ).bo λ d=>.nx (ρ.set i (.ow d))
def RR.shared{K:aB}(h:xD m=true)(R:RR K G τ ρ Z H lab)(s:aU H H')(r:aA K (lx m lab H) H' v d):
  RR K G τ ρ Z H' (fF H 1 lab)/\aA K (λ p=>(fF H 1 lab p).1<=1) H' v d:=R.fresh (by decide) (λ k a=>of_decide_eq_true (pa h k a)) s r
def fH{i:Nat}(h:xC C i s m fe)(a:xD m=true:=by rfl):hB C s (cJ i fe):=by
 obtain⟨t,b,c⟩:=h;refine⟨_,b,λ τ Z H ρ lab D R W=>c τ Z H ρ _ _ R (W.bo.imp λ d _ w v H' s r=>?_)⟩;obtain⟨e,f⟩:=R.shared a s r;exact w _ _ _ (e.put f)
def jZ(h:xC C i s m fe)(a:r9 m=true:=by rfl):hB C s (ie i fe):=by
 obtain⟨t,b,c⟩:=h;refine⟨_,b,λ τ Z H ρ lab D R W=>c τ Z H ρ _ _ R (W.bo.imp λ d _ w v H' s r=>?_)⟩;obtain⟨e,f⟩:=R.fresh (P:=λ k=>k=1) rfl (λ k g=>beq_iff_eq.mp (pa a k g)) s r;exact w _ _ _ (e.put f)
def jd(h:Fi C i s m fe)(a:UR i m=true:=by rfl):hB C s (eQ i fe):=by
 obtain⟨t,b,c⟩:=h;refine⟨_,b,λ τ Z H ρ lab D R W=>c τ Z H ρ _ _ R (W.bo.imp λ d _ w v H' s r e=>?_)⟩;obtain⟨l,f,g⟩:=R.freshO i (λ k j=>by have:=pa a k j;simp_all) s r e;exact w _ _ _ (f.put g)
def uS(K:aB)(G:eK)(g:iP)(fg:D->af->ag af):Prop:=∀τ v d Z H ρ lab (Q:L2.St->au->Prop) ρ',RR K G τ ρ Z H lab->aA K (λ p=>(lab p).1<=1) H v d->fg d ρ= .ok ρ'->(∀a,RR K G τ ρ' a H lab->Q a H)->g v Z H Q
def US(K:aB)(G:eK)(g:qx)(fg:List D->af->ag af):Prop:=∀τ vs ds Z H ρ lab (Q:L2.St->au->Prop) ρ',RR K G τ ρ Z H lab->aM K (λ p=>(lab p).1<=1) H vs ds->fg ds ρ= .ok ρ'->(∀a,RR K G τ ρ' a H lab->Q a H)->g vs Z H Q
def lB(C:bB)(t:Expr)(ks:List Nat)(fg:D->af->ag af):Prop:=∃g,(∀i,l5 (C.X i) t g)/\uS C.K C.G g fg/\ma g ks/\uC g
def Bj(C:bB)(t:List Expr)(ks:List Nat)(fg:List D->af->ag af):Prop:=∃g,(∀i,xa (C.X i) t g)/\US C.K C.G g fg/\xt g ks/\uD g
noncomputable def aD(i:Nat):D->af->ag af:=λ d ρ=>.ok (ρ.set i (.sh d))
def eD:List D->af->ag af:=λ ds ρ=>match ds with
 |[]=>.ok ρ
 |_=>.st
def bR(f:D->af->ag af)(g:List D->af->ag af):List D->af->ag af:=λ ds ρ=>match ds with
 |d::r=>(f d ρ).bd (g r)
 |_=>.st
noncomputable def eA(n:Nat)(g:List D->af->ag af):D->af->ag af:=λ d ρ=>match d with
 | .tup ds=>if ds.length=n then g ds ρ else .st
 |_=>.st
variable{ks:List Nat}{fg:D->af->ag af}{E:List D->af->ag af}{B:Expr}{A:List Expr}
def fb(h:∀j,(C.X j).N[i]? =some x:=by z_go)(a:∀j,lg (C.X j).env.scope x:=by f_tup)(f:∀j,(C.X j).fn x=true\/(C.X j).env.scope.names.lookup x=some .local:=by fin2)(n:∀j,(C.X j).N.Nodup:=by intro _;assumption)(k:i∈ks:=by decide):lB C (.Name x pos) ks (aD i):=
 ⟨_,λ j=>RI (n j) (h j) (a j) (f j),λ τ v d Z H ρ lab Q b R r e q=>by cases e;exact q _ (R.put r),TL k,TN⟩
def m5:Bj C [] ks eD:=by
 refine⟨_,λ _=>RJ,λ τ vs ds Z H ρ lab Q a R r e q=>?_,TM,TO⟩;induction r using aM.cs with
 |nil=>cases e;exact⟨rfl,q _ R⟩
 |cons _ _=>cases e
def hD(h:lB C B ks fg)(k:Bj C A ks E)(s:∀i,(mF (B::A) (C.X i).env).map (·.2)=lX B (C.X i).env::(mF A (C.X i).env).map (·.2):=by z_go):Bj C (B::A) ks (bR fg E):=by
 obtain⟨g,c,d,f,a⟩:=h;obtain⟨u,k1,k2,k3,b⟩:=k;refine⟨_,λ i=>RK (c i) (k1 i) (s i),λ τ vs ds Z H ρ lab Q j R r e q=>?_,TQ f a k3 b,TP a b⟩;induction r using aM.cs with
 |nil=>cases e
 |cons h r=>
  obtain⟨l,m,n⟩:=iX e;exact⟨_,_,rfl,d τ _ _ Z H ρ _ _ _ R h m λ p o=>k2 τ _ _ _ H _ _ Q _ o r n q⟩
def m6(h:Bj C A ks E)(b:∀i,(mF A (C.X i).env).length=n:=by z_go)(s:∀i,(mF A (C.X i).env).findIdx? (·.1)=none:=by z_go):lB C (.Tuple A k pos) ks (eA n E):=by
 obtain⟨u,k1,k2,k3,c⟩:=h;refine⟨AI C.K n u,λ i=>by rw[<-C.hK i];exact RL (C.calm i) (k1 i) (b i) (s i),λ τ v d Z H ρ lab Q a R r e q=>?_,AX k3,TR c⟩;induction r using aA.cs with
 |tup h r=>
  unfold eA at e;dsimp only at e;split at e
  .rename_i l
   exact⟨_,_,rfl,h,by rw[r.length];exact l,k2 τ _ _ Z H ρ lab Q a R r e q⟩
  lia
 |_=>cases e
def qH(fe:af->ag D)(fg:D->af->ag af):af->aC:=λ ρ=>(fe ρ).bo λ d=>match fg d ρ with
 | .ok a=>.nx a
 |_=>.st
def Fj(a:aF C m e fe)(b:lB C B ks fg)(f:xD m=true:=by rfl)(j:∀i,swapsWithSole [B] e pos.line (C.X i).env=pure false:=by z_go)(k:∀i,swappedStores [B] e (C.X i).env=pure none:=by z_go)
  (l:∀i,(mF [B] (C.X i).env).map (·.2)=[lX B (C.X i).env]:=by z_go):hB C (.Assign [B] e pos) (qH fe fg):=by
 obtain⟨t,p,n⟩:=a;obtain⟨g,q,o,_,_⟩:=b;refine⟨_,λ i=>RM (p i) (q i) (j i) (k i) (l i),λ τ Z H ρ lab D R W=>n τ Z H ρ lab _ R (W.bo.imp λ d _ w v H' s r=>?_)⟩;obtain⟨u,x⟩:=R.shared f s r;cases h:fg d ρ with
 |ok y=>rw[h]at w;exact o τ v d Z H' ρ _ _ _ u x h λ z bA=>w z H' _ bA
 |ex c=>rw[h]at w;exact aV w
 |st=>rw[h]at w;exact aV w
def xE(K:aB)(lab:kD)(J:kA)(H:au)(ds:List D):Prop:=∀i,(ds.length<=i->J.stop i H)/\(i<ds.length->J.go i H/\∀x H',J.yld i H x H'->aU H H'/\∃d,ds[i]? =some d/\aA K (λ p=>(lab p).1<=1) H' x d)
def uX(K:aB)(G:eK)(w:iS)(f:af->ag (List D)):Prop:=∀τ Z H ρ lab (R:kA->au->Prop),RR K G τ ρ Z H lab->
 iv G (f ρ) (λ ds=>∀J c l b,aU H c->(∀p o,H p=some o->l p=lab p)->RR K G (b++τ) ρ Z c l->(∀a H',(∀q∈b,aA K (λ p=>(a p).1<=1) H' q.1 q.2)->xE K a J H' ds)->R J c)->w Z H R
def kF(C:bB)(B t:Expr)(f:af->ag (List D)):Prop:=∃w,(∀i,lj (C.X i) B t w)/\uX C.K C.G w f
def MO(K:aB)(t:bw):iS:=λ Z H R=>t Z H λ x b=>∃a,x= .ref a/\(((∃xs,cu K b a xs)/\R (EF K a) b)\/((∃xs,bQ K b a xs)/\R (EG K a) b))
def UT(j:bq X l tl):lj X B l (MO X.K tl):=by
 intro k s Z H R I h;refine aX (j k s Z H _ I h) λ v d ⟨x,f,c,r,a,e,m⟩=>?_
 subst e;cases r;have ah:∀b∈[d.heap.objs.size],jW X k f b:=λ b n=>by
  have e:b=d.heap.objs.size:=by simpa using n
  rw[e];exact c.fpOk (bJ _) (c.hok.fresh (bJ _))
 rcases m with ⟨⟨xs,g⟩,q⟩|⟨⟨xs,g⟩,q⟩
 .obtain⟨i,t,p,hz⟩:=c.list g
  refine Ae p.isList ?_;exact⟨_,_,_,_,f,rfl,c.kept (t':=d.toks) λ b o e=>bM _ e,RV a _,⟨_,dy _ rfl,rfl,rfl⟩,ah,q⟩
 .obtain⟨i,t,p,hz⟩:=c.tuple g
  refine wz (p) ?_;exact⟨_,_,_,_,f,rfl,c.kept (t':=d.toks) λ b o e=>bM _ e,RW a _,⟨_,dy _ rfl,rfl,rfl⟩,ah,q⟩
noncomputable def Bk:D->ag (List D)
 | .tup l=>.ok l
 | .lst l=>.ok l
 | .scr l=>.ok (l.map .int)
 |_=>.st
def bS(fe:af->ag D):af->ag (List D):=λ ρ=>(fe ρ).bd Bk
def MP{K:aB}(h:cu K H a xs)(r:aM K (λ p=>(lab p).1<=1) H xs ds):xE K lab (EF K a) H ds:=by
 have l:=r.length;refine λ i=>⟨λ b=>⟨xs,h,by lia⟩,λ b=>⟨⟨xs,xs[i]'(by lia),h,by simp_all⟩,λ x H' y=>?_⟩⟩
 obtain⟨e,y⟩:=y;subst e;obtain⟨d,c,f⟩:=r.get (y xs h);exact⟨aU.refl _,d,c,f⟩
def UU{K:aB}(h:bQ K H a xs)(r:aM K (λ p=>(lab p).1<=1) H xs ds):xE K lab (EG K a) H ds:=by
 have l:=r.length;refine λ i=>⟨λ b=>⟨xs,h,by lia⟩,λ b=>⟨⟨xs,xs[i]'(by lia),h,by simp_all⟩,λ x H' y=>?_⟩⟩
 obtain⟨e,y⟩:=y;subst e;obtain⟨d,c,f⟩:=r.get (y xs h);exact⟨aU.refl _,d,c,f⟩
def gr(n:aF C m e fe)(u:xD m=true:=by rfl):kF C B e (bS fe):=by
 obtain⟨t,x,y⟩:=n;refine⟨MO C.K t,λ i=>by rw[<-C.hK i];exact UT (x i),λ τ Z H ρ lab D R W=>y τ Z H ρ lab _ R (W.bd.imp λ d _ w v g s r=>?_)⟩;obtain⟨b,j⟩:=R.shared u s r;cases d with
 |tup l=>
  obtain⟨a,xs,rfl,h,q⟩:=j.tup_inv
  .refine⟨_,rfl,.inr ⟨⟨_,h⟩,w _ g _ [(.ref a,.tup l)] s (λ p o e=>ib e) ⟨b.len,b.sl,b.old,b.new,λ z hz=>?_⟩ λ c H' f=>?_⟩⟩
   .rcases b8.mp hz with rfl|hz
    .exact .tup h q
    .exact b.tm z hz
   .have z:=f _ (c0 ..)
    obtain⟨_,_,e,h',k⟩:=z.tup_inv;cases e;exact UU h' k
 |lst l=>
  obtain⟨a,xs,rfl,h,A,q⟩:=j.lst_inv
  .refine⟨_,rfl,.inl ⟨⟨_,cu.of h⟩,w _ g _ [(.ref a,.lst l)] s (λ p o e=>ib e) ⟨b.len,b.sl,b.old,b.new,λ z hz=>?_⟩ λ c H' f=>?_⟩⟩
   .rcases b8.mp hz with rfl|hz
    .exact .lst h A q
    .exact b.tm z hz
   .have z:=f _ (c0 ..)
    obtain⟨_,_,e,h',_,k⟩:=z.lst_inv;cases e;exact MP (cu.of h') (k.wk λ _ _ _ z=>z.1)
 |scr l=>
  obtain⟨a,rfl,h⟩:=j.scr_inv
  .refine⟨_,rfl,.inl ⟨⟨_,h.sq⟩,w _ g _ [(.ref a,.scr l)] s (λ p o e=>ib e) ⟨b.len,b.sl,b.old,b.new,λ z hz=>?_⟩ λ c H' f=>?_⟩⟩
   .rcases b8.mp hz with rfl|hz
    .exact .scr h
    .exact b.tm z hz
   .have z:=f _ (c0 ..)
    obtain⟨_,e,h'⟩:=z.scr_inv;cases e;exact MP h'.sq aM.ints
 |_=>exact aV w
end
section
variable{C:bB}{pos:Pos}{s:Stmt}{u:List Stmt}{f:af->aC}{e a b:Expr}{es:List Expr}{m:Mode}{A:af->ag D}{ks:List Nat}{fg:D->af->ag af}{l:Expr}{fi:af->ag (List D)}{g:af->ag (List D)}
noncomputable def cw(l h:Int):List D:=(dY (h-l).toNat).map λ(k:Nat)=>.int (l+(k:Int))
noncomputable def eG:List D->ag (List D)
 |[.int j]=>if -(2^62)<=j/\j<2^62 then .ok (cw 0 j)else .st
 |_=>.st
noncomputable def mh:List D->ag (List D)
 |[.int i,.int j]=>if (-(2^62)<=i/\i<2^62)/\(-(2^62)<=j/\j<2^62)then .ok (cw i j)else .st
 |_=>.st
def di(r:List D->ag (List D))(g:af->ag (List D)):af->ag (List D):=λ ρ=>(g ρ).bd r
def MQ{K:aB}{l a:Int}:xE K lab (rP l (a-l).toNat) H (cw l a):=by
 have b:(cw l a).length=(a-l).toNat:=by unfold cw;simp
 refine λ i=>⟨λ h=>by show(a-l).toNat<=i;lia,λ h=>⟨by show i<(a-l).toNat;lia,λ x H' y=>?_⟩⟩
 obtain⟨e,rfl⟩:=y;subst e;refine⟨aU.refl _,_,?_,.int _⟩;unfold cw;rw[da,zF (by lia)];rfl
def kG(d:fN C m [a] g)(e:C.mg "range"=none)(f:∀i,bf [a] (C.X i).env=[(false,eval a (C.X i).env)]:=by z_go)(k:∀i,dA (C.X i) "range":=by z_go):kF C l (.Call (.Name "range" p) [a] [] pos) (di eG g):=by
 obtain⟨t,n,o⟩:=d;refine⟨_,λ i=>R2 (k i) (by rw[(C.cx i).2.2.2.1];exact e) (n i) (f i),λ τ Z H ρ lab u R W=>o τ Z H ρ lab _ R (W.bd.imp λ ds _ w vs q s r=>?_)⟩;unfold eG at w;split at w
 .rename_i j _
  split at w
  .rename_i b
   cases r with
   |cons h r=>
    cases h;cases r;refine⟨j,rfl,b.1,b.2,?_⟩;have z:=w (rP 0 (j-0).toNat) q lab [] s (λ _ _ _=>rfl) (R.up s) λ c H' _=>MQ
    rwa [Int.sub_zero]at z
  .exact aV w
 .exact aV w
def Fk(f:fN C m [a,b] g)(k:C.mg "range"=none)(n:∀i,bf [a,b] (C.X i).env=[(false,eval a (C.X i).env),(false,eval b (C.X i).env)]:=by z_go)(d:∀i,bf [b] (C.X i).env=[(false,eval b (C.X i).env)]:=by z_go)(o:∀i,dA (C.X i) "range":=by z_go):kF C l (.Call (.Name "range" p) [a,b] [] pos) (di mh g):=by
 obtain⟨t,q,u⟩:=f;refine⟨_,λ i=>R5 (o i) (by rw[(C.cx i).2.2.2.1];exact k) (q i) (n i) (d i),λ τ Z H ρ lab x R W=>u τ Z H ρ lab _ R (W.bd.imp λ ds _ w vs v s r=>?_)⟩;unfold mh at w;split at w
 .rename_i i j _
  split at w
  .rename_i c
   cases r with
   |cons h r=>
    cases h;cases r with
    |cons h r=>
     cases h;cases r;exact⟨i,j,rfl,⟨c.1.1,c.1.2,c.2.1,c.2.2⟩,w (rP i (j-i).toNat) v lab [] s (λ _ _ _=>rfl) (R.up s) λ e H' _=>MQ⟩
  .exact aV w
 .exact aV w
noncomputable def forL(fg:D->af->ag af)(b:af->aC):List D->af->aC
 |[],ρ=>.nx ρ
 |d::ds,ρ=>match fg d ρ with
  | .ok a=>match b a with
   | .nx ρ2=>forL fg b ds ρ2
   | .ct ρ2=>forL fg b ds ρ2
   | .bk ρ2=>.nx ρ2
   |o=>o
  |_=>.st
def ff(fi:af->ag (List D))(fg:D->af->ag af)(b:af->aC):af->aC:=λ ρ=>(fi ρ).bo λ ds=>forL fg b ds ρ
def ig(D:kF C l e fi)(G:lB C l ks fg)(I:mf C u f)(K:∀i,∀x,kn e (C.X i).env x=pure x:=by intro _ _;rfl):hB C (.For l e u [] pos) (ff fi fg f):=by
 obtain⟨wi,L,dg⟩:=D;obtain⟨gg,M,N,_,g4⟩:=G;obtain⟨tb,O,P⟩:=I;refine⟨_,λ i=>Lx (C.own i) (C.calm i) (L i) (M i) (O i) (K i),λ τ Z H ρ lab E R W=>dg τ Z H ρ lab _ R (W.bo.imp λ ds _ w J H1 r j s1 _ Q S=>?_)⟩;refine⟨λ i n v H'=>∃h g,RR C.K C.G (j++τ) h v H' g/\n=ds.length-i/\i<=ds.length/\nZ C.K C.G τ (forL fg f (ds.drop i) h) E,⟨ds.length,ρ,r,Q,by lia,by lia,w⟩,?_⟩;rintro i n v H' ⟨h,g,s,rfl,D,b⟩;have F:=S g H' λ q T=>s.tm q (eW _ T)
 by_cases t:i<ds.length
 .obtain⟨U,V⟩:=(F i).2 t
  refine .inr ⟨U,λ m o=>∃ρ2 a,RR C.K C.G (j++τ) ρ2 m o a/\nZ C.K C.G τ (forL fg f (ds.drop (i+1)) ρ2) E,λ m o ⟨ρ2,a,bA,X⟩=>⟨ds.length-(i+1),by lia,ρ2,a,bA,rfl,t,X⟩,λ x o Y=>?_⟩;obtain⟨s2,d,ed,rx⟩:=V x o Y;replace s:=s.up s2;have z:ds.drop i=d::ds.drop (i+1):=by
   rw[tH t]
   have:=bP t
   rw[ed]at this;cases this;rfl
  rw[z]at b;unfold forL at b;cases y:fg d h with
  |ex c=>rw[y]at b;exact aV b
  |st=>rw[y]at b;exact aV b
  |ok k=>
   rw[y]at b;refine N (j++τ) x d v o h g _ k s rx y λ Z1 A=>P (j++τ) Z1 o k g _ A ?_
   dsimp only at b;cases p:f k with
   |nx ρ2=>rw[p]at b;exact λ m B a bA=>⟨ρ2,a,bA,b⟩
   |ct ρ2=>rw[p]at b;exact λ m B a bA=>⟨ρ2,a,bA,b⟩
   |bk ρ2=>rw[p]at b;exact λ m B a bA=>b m B a bA.drop
   |rt d=>rw[p]at b;exact b
   |ex c=>rw[p]at b;exact b
   |st=>rw[p]at b;exact b
 .have e:i=ds.length:=by lia
  subst e;rw[tL]at b;exact .inl ⟨(F _).1 (bJ _),b v H' g s.drop⟩
def qI(c:af->ag Bool)(b:af->aC):Nat->af->aC
 |0,_=>.st
 |n+1,ρ=>(c ρ).bo λ k=>if k=true then(match b ρ with
   | .nx ρ2=>qI c b n ρ2
   | .ct ρ2=>qI c b n ρ2
   | .bk ρ2=>.nx ρ2
   |o=>o)else .nx ρ
def fuel:Nat:=1000000
def mi(c:af->ag Bool)(b:af->aC):af->aC:=qI c b fuel
def uZ(q:gp C c fc)(r:mf C u f):hB C (.While c u [] pos) (mi fc f):=by
 obtain⟨B,t,v⟩:=q;obtain⟨E,x,y⟩:=r;refine⟨_,λ i=>RU (C.own i) (t i) (x i),λ τ Z H ρ lab D R W=>?_⟩;refine⟨λ n g H'=>∃b a,RR C.K C.G τ b g H' a/\nZ C.K C.G τ (qI fc f n b) D,⟨fuel,ρ,lab,R,W⟩,?_⟩;rintro n g H' ⟨b,a,j,m⟩;cases n with
 |zero=>exact aV m
 |succ n=>
  refine v τ g H' b a _ j (nZ.bo (m) |>.imp λ k _ w o s=>?_);cases k with
  |false=>
   rw[if_neg gh]at w ⊢;exact w g o a (j.up s)
  |true=>
   rw[if_pos rfl]at w ⊢;refine⟨λ h p=>∃ρ2 l,RR C.K C.G τ ρ2 h p l/\nZ C.K C.G τ (qI fc f n ρ2) D,λ h p ⟨ρ2,l,bA,z⟩=>⟨n,nF n,ρ2,l,bA,z⟩,?_⟩;refine y τ g o b a _ (j.up s) ?_;cases e:f b with
   |nx ρ2=>rw[e]at w;exact λ h A l bA=>⟨ρ2,l,bA,w⟩
   |ct ρ2=>rw[e]at w;exact λ h A l bA=>⟨ρ2,l,bA,w⟩
   |bk ρ2=>rw[e]at w;exact w
   |rt d=>rw[e]at w;exact w
   |ex c=>rw[e]at w;exact w
   |st=>rw[e]at w;exact w
def Bl(x:Str)(g:af->ag (List D)):af->aC:=λ ρ=>(g ρ).bo λ ds=>if ds.length<=aQ then .ex x else .st
def MR{rest:List Expr}(a:C.dOk=true)(b:C.mg x=some (.ref Ca))(c:C.G.cl x=Ca)(e:wj C.K Ca)(f:fN C m (y::rest) g)(j:∀i,bf (y::rest) (C.X i).env=(false,eval y (C.X i).env)::bf rest (C.X i).env:=by z_go)(h:∀i,(fW cpos (bf rest (C.X i).env)).any (·.1)=false:=by z_go)(d:Nd x:=by decide)(k:∀i,dA (C.X i) x:=by z_go):hB C (.Raise (some (.Call (.Name x np) (y::rest) [] cpos)) none pos) (Bl x g):=by
 obtain⟨t,l,n⟩:=f;refine⟨_,λ i=>TY (C.dcx a i) (C.calm i) (by rw[(C.cx i).2.2.2.1];exact b) (by rw[C.hK i];exact e) (k i) (l i) (j i) (h i) d,λ τ Z H ρ lab D R W=>n τ Z H ρ lab _ R (W.bo.imp λ ds _ w vs o s r=>?_)⟩;by_cases hz:ds.length<=aQ
 .rw[if_pos hz]at w
  refine⟨by rw[r.length];exact hz,?_⟩
  have:=w o (R.old.trans s)
  rwa [c]at this
 .rw[if_neg hz]at w
  exact aV w
def mj(K:aB)(c:Str->Addr)(n:Nat)(F:List D->ag D):lq:=λ vs H Q E=>∃ds,vs.length=n/\aM K (λ _=>True) H vs ds/\iv ⟨H,E,c⟩ (F ds) (λ d=>∀v H',aU H H'->aA K (λ p=>H p=none) H' v d->Q v H')
def aW(F:List D->ag D)(g:af->ag (List D)):af->ag D:=λ ρ=>(g ρ).bd F
def MS{K:aB}(b:∀ρ ds,g ρ= .ok ds->ds.length=n)(h:Bb K G m t g):eO K G (some []) (ur (mj K G.cl n F) [] G.E t) (aW F g):=by
 intro τ Z H ρ lab Q R W;refine h τ Z H ρ _ _ R (W.bd.imp λ ds e w vs i s r=>⟨ds,by rw[g6,r.length];exact b ρ ds e,by rw[g6];exact r.wk λ _ _ _ _=>trivial,?_⟩);cases a:F ds with
 |ok d=>
  rw[a]at w;exact λ v H' s' f=>w v H' (s.trans s') (f.wk λ p o _ z=>.inl (s.free z))
 |ex c=>rw[a]at w;exact λ H' s'=>w H' ((R.old.trans s).trans s')
 |st=>rw[a]at w;assumption
variable{k:Nat}{fn:Addr}{c:bO}{ps:List Str}{x:Str}{p:Pos}{F:List D->ag D}{n:Nat}
def UV(d:gb C.prog C.w C.K C.mg C.base (eZ C.prog C.w) k fn c ps (mj C.K C.G.cl n F))(hr:k<=C.k)(f:C.mg x=some (.ref fn))(z:qv C.K (.ref fn)=true)(j:Binds C.K c ps [])(l:fN C m (e::es) g)(o:∀ρ ds,g ρ= .ok ds->ds.length=n)(h:Nd x:=by decide)(q:∀i,bf (e::es) (C.X i).env=(false,eval e (C.X i).env)::bf es (C.X i).env:=by z_go)(hpl:∀i,(fW pos (bf es (C.X i).env)).any (·.1)=false:=by z_go)(r:∀i,dA (C.X i) x:=by z_go):aF C (some []) (.Call (.Name x p) (e::es) [] pos) (aW F g):=by
 obtain⟨t,s,u⟩:=l;refine⟨_,λ i=>?_,MS o u⟩;obtain⟨v,w,a,b,y⟩:=C.cx i;refine EM (by rw[v,w,a,b,y];exact d) ((C.room i).mono hr) (r i) (by rw[b];exact f) (by rw[a];assumption) (by rw[a];exact j) .nil (C.pass i) (s i) h (q i) (hpl i)
def MT(h:ak ρ= .ok ds):ds.length=0:=by cases h;rfl
def Fl(h:∀ρ ds,g ρ= .ok ds->ds.length=n):∀ρ ds,ae A g ρ= .ok ds->ds.length=n+1:=λ ρ ds e=>by
 obtain⟨d,_,e⟩:=iX e;obtain⟨r,a,e⟩:=iX e;cases e;rw[g0,h ρ r a]
end
noncomputable def eN(mg:Str->Option Value):Str->Addr:=λ x=>match mg x with
 |some (.ref a)=>a
 |_=>0
abbrev Bm(P:bD)(w:World)(K:aB)(mg:Str->Option Value)(base:Heap)(N:List Str)(q:Str)(a:Scope)(f:Addr)(c:Value)(A:cg)(o:List Env)(s:ax)(H:au)(E:gj)(k:Nat)(hr:gS k (A.deeper (jT q a s.heap.objs.size f c))):bB where
 ι:=Unit
 X:=λ _=>o4 (eZ P w) P w K mg base N q a f c A o s H E
 prog:=P
 w:=w
 K:=K
 mg:=mg
 base:=base
 k:=k
 G:=⟨H,E,eN mg⟩
 cx:=λ _=>⟨rfl,rfl,rfl,rfl,rfl⟩
 calm:=λ _=>rfl
 room:=λ _=>hr
 own:=λ _=>ia.own ia.of
 pass:=λ _=>ia.pass ia.of
 dOk:=true
 dcx:=λ _ _=>ia.of
noncomputable def cf(n:Nat)(ds:List D):af:=ds.map .sh++cG (n-ds.length) .no
noncomputable def cD(n:Nat)(f:af->aC):List D->ag D:=λ ds=>match f (cf n ds)with
 | .nx _=>.ok .non
 | .rt d=>.ok d
 | .ex c=>.ex c
 |_=>.st
theorem RR.start{K:aB}(r:aM K (λ _=>True) H vs ds):RR K ⟨H,E,cl⟩ [] (cf N.length ds) (start N vs) H (λ _=>(0,0)):=by
 have l:=r.length;refine⟨by unfold cf L2.start;simp[l],λ i s e=>?_,aU.refl H,λ p ah=>absurd rfl ah,λ q b=>by cases b⟩;unfold cf at e;by_cases h:i<ds.length
 .rw[ry (by simpa using h),da]at e
  cases a:ds[i]? with
  |none=>rw[a]at e;cases e
  |some d=>
   rw[a]at e;cases e;obtain⟨x,c,f⟩:=r.getD a;refine .inr ⟨x,?_,f.wk λ _ _ _ _=>dI _⟩;unfold L2.start;rw[ry (by simpa[l]using h),da,c];rfl
 .rw[zw (by simpa using h),tI]at e
  split at e
  .cases e;exact .inl rfl
  .cases e
section
variable{P:bD}{w:World}{K:aB}{mg:Str->Option Value}{base:Heap}
def UW{x q:Str}{st:Stmt}(F:L2.Fun K x q st fn fd)(S:cq N ps (bU st))
  (b:∀v A o s H E hr,mf (Bm P w K mg base N q (bU st) fn v A o s H E k hr) (lr st) f):
  gb P w K mg base (eZ P w) (k+1) fn fd ps (mj K (eN mg) ps.length (cD N.length f)):=by
 refine F.okX S (λ vs H Q E ⟨ds,h,_⟩=>h) λ v A o s H vs Q E hr ⟨ds,h,r,W⟩=>?_
 obtain⟨t,a,g⟩:=b v A o s H E hr;refine⟨t,a (),g [] _ H _ _ _ (RR.start r) ?_⟩;unfold cD at W;cases e:f (cf N.length ds)with
 |nx ρ=>rw[e]at W;exact λ Z H' lab R=>W .non H' R.old .non
 |rt d=>rw[e]at W;assumption
 |ex c=>rw[e]at W;exact W
 |bk ρ=>rw[e]at W;exact aV W
 |ct ρ=>rw[e]at W;exact aV W
 |st=>rw[e]at W;exact aV W
def UX{st:Stmt}(F:L2.Fun K x q st fn fd)(S:cq N ps (bU st))
  (h:∀c A o s H E hr,mf (Bm P w K mg base N q (bU st) fn c A o s H E k hr) (lr st) f)(a:ps.length=n)(b:cD N.length f=FF):
  gb P w K mg base (eZ P w) (k+1) fn fd ps (mj K (eN mg) n FF):=by
 subst a b;exact UW F S h
end
def bT.or(h:bT X f r)(h':bT X f r'):bT X f (λ x y H Q=>r x y H Q\/r' x y H Q):=by
 intro k s Z H x y v u Q I a b q;rcases q with q|q
 .exact h _ s Z H x y v u Q I a b q
 .exact h' _ s Z H x y v u Q I a b q
def gf.or{K:aB}(h:gf K r fd)(h':gf K r' fd'):gf K (λ x y H Q=>r x y H Q\/r' x y H Q) (λ d e=>match fd d e with
  | .ok z=>.ok z
  |_=>fd' d e):=by
 intro A x y d e H Q z f g a q;dsimp only at a;cases b:fd d e with
 |ok w=>rw[b]at a;cases a;exact .inl (h A x y d e H Q _ f g b q)
 |ex c=>rw[b]at a;exact .inr (h' A x y d e H Q z f g a q)
 |st=>rw[b]at a;exact .inr (h' A x y d e H Q z f g a q)
section
variable{K:aB}
noncomputable def dg(p:Int->Int->Bool)(g:Int->Int->D):D->D->ag D
 | .int i,.int j=>if p i j=true then .ok (g i j)else .st
 |_,_=>.st
def Fm{g:Int->Int->Int}(ah:∀i j,p i j=true->c i j):gf K (rR c λ i j=>.int (g i j)) (dg p λ i j=>.int (g i j)):=by
 intro A x y d e H Q z r b a q;unfold dg at a;split at a
 .rename_i i j
  split at a
  .rename_i h
   cases a;obtain rfl:=r.int_inv;obtain rfl:=b.int_inv;exact⟨i,j,rfl,rfl,ah i j h,q _ H (aU.refl H) (.int _)⟩
  simp_all
 simp_all
def UY{g:Int->Int->Int}:gf K (i9 λ i j=>.int (g i j)) (dg (λ _ _=>true) λ i j=>.int (g i j)):=by
 intro A x y d e H Q z r b a q;unfold dg at a;split at a
 .rename_i i j
  cases a;obtain rfl:=r.int_inv;obtain rfl:=b.int_inv;exact⟨i,j,rfl,rfl,q _ H (aU.refl H) (.int _)⟩
 simp_all
def Bn{g:Int->Int->Bool}:gf K (i9 λ i j=>.bl (g i j)) (dg (λ _ _=>true) λ i j=>.bl (g i j)):=by
 intro A x y d e H Q z r b a q;unfold dg at a;split at a
 .rename_i i j
  cases a;obtain rfl:=r.int_inv;obtain rfl:=b.int_inv;exact⟨i,j,rfl,rfl,q _ H (aU.refl H) (.bl _)⟩
 simp_all
def Bo{g:Int->Int->Int}:∀x y z,dg p (λ i j=>.int (g i j)) x y= .ok z->imm z=true:=by
 intro x y z e;unfold dg at e;split at e
 .split at e
  .cases e;rfl
  grind
 lia
def MU{g:Int->Int->Bool}:∀x y z,dg p (λ i j=>.bl (g i j)) x y= .ok z->imm z=true:=by
 intro x y z e;unfold dg at e;split at e
 .split at e
  .cases e;rfl
  grind
 lia
noncomputable def bK:D->D->ag D
 | .int i,.int j=>.ok (.int (i+j))
 | .lst l,.lst m=>if l.length+m.length<=aQ then .ok (.lst (l++m))else .st
 | .tup l,.tup m=>if l.length+m.length<=aQ then .ok (.tup (l++m))else .st
 |_,_=>.st
def MV(K:aB):bA:=λ x y H Q=>∃a b xs ys,x= .ref a/\y= .ref b/\bQ K H a xs/\bQ K H b ys/\xs.length+ys.length<=aQ/\
 (xs=[]->Q (.ref b) H)/\(ys=[]->Q (.ref a) H)/\mQ H (.tup (xs++ys)) Q
def UZ:bT X (iJ .Add) (MV X.K):=by
 intro n s Z H x y v u Q I r c h;obtain⟨a,b,xs,ys,rfl,rfl,d,e,hz,q,g,j⟩:=h;by_cases f:xs=[]
 .subst f
  cases r;cases c;obtain⟨t,k,l,_⟩:=I.tuple d;obtain⟨i,o,m,_⟩:=I.tuple e;cases k;exact HT.aMT l m ⟨.ref b,H,I,rfl,q rfl⟩
 .exact SZ _ s Z H _ _ v u Q I r c ⟨a,b,xs,ys,rfl,rfl,d,e,f,hz,g,λ _ p ah=>j.at ah⟩
def Bp(K:aB):bA:=λ x y H Q=>i9 (λ i j=>.int (i+j)) x y H Q\/(Ma x y H Q\/MV K x y H Q)
def U0:bT X (iJ .Add) (Bp X.K):=bT.or Sd (bT.or TH UZ)
def MW:gf K (Bp K) bK:=by
 intro A x y d e H Q z i j a q;unfold bK at a;split at a
 .cases a;obtain rfl:=i.int_inv;obtain rfl:=j.int_inv;exact .inl ⟨_,_,rfl,rfl,q _ H (aU.refl H) (.int _)⟩
 .split at a
  .rename_i l
   cases a;obtain⟨_,_,rfl,h,m,c⟩:=i.lst_inv;obtain⟨_,_,rfl,g,t,f⟩:=j.lst_inv;refine .inr (.inl ⟨_,_,_,_,rfl,rfl,h,g,by rw[c.length,f.length];exact l,λ p H' s ah n=>q _ H' s (.lst ah (.inl n) ?_)⟩);exact(((c.wk λ _ _ _ z=>z.1).append (f.wk λ _ _ _ z=>z.1)).wk (A':=λ q=>(H q=none\/A q)/\q≠p) λ q o e z=>⟨.inr z,λ k=>by subst k;rw[n]at e;cases e⟩).up s
  .cases a
 .split at a
  .rename_i l
   cases a;obtain⟨_,_,rfl,h,c⟩:=i.tup_inv;obtain⟨_,_,rfl,g,f⟩:=j.tup_inv;have r:=c.wk (A':=λ p=>H p=none\/A p) λ _ _ _ z=>.inr z
   have b:=f.wk (A':=λ p=>H p=none\/A p) λ _ _ _ z=>.inr z
   refine .inr (.inr ⟨_,_,_,_,rfl,rfl,h,g,by rw[c.length,f.length];exact l,λ e=>?_,λ e=>?_,λ p H' s ah n=>q _ H' s (.tup (bQ.of ah) ((r.append b).up s))⟩)
   .subst e
    cases r;exact q _ H (aU.refl H) (.tup g b)
   .subst e
    cases b;rw[g6]at q;exact q _ H (aU.refl H) (.tup h r)
  .cases a
 .cases a
noncomputable def gu:D->D->ag D
 | .int i,.int j=>if (decide (-(2^64)<i)&&decide (i<2^64))||(decide (-(2^64)<j)&&decide (j<2^64))then .ok (.int (i*j))else .st
 | .lst l,.int k=>if decide (-(2^63)<=k)&&decide (k<2^63)&&decide (l.length*k.toNat<=aQ)&&gc l then .ok (.lst (cG k.toNat l).flatten)else .st
 |_,_=>.st
theorem aM.rep(r:aM K A H xs ds):∀k:Nat,aM K A H (cG k xs).flatten (cG k ds).flatten
 |0=>.nil
 |k+1=>r.append (aM.rep r k)
def MX:bA:=λ x y H Q=>rR AO (λ i j=>.int (i*j)) x y H Q\/L6 x y H Q
def U1:bT X (iJ .Mult) MX:=bT.or Sf Td
def U2:gf K MX gu:=by
 intro A x y d e H Q z r b a q;unfold gu at a;split at a
 .split at a
  .rename_i h
   cases a;obtain rfl:=r.int_inv;obtain rfl:=b.int_inv;refine .inl ⟨_,_,rfl,rfl,?_,q _ H (aU.refl H) (.int _)⟩;simp only[Bool.or_eq_true,cM,decide_eq_true_eq]at h;exact h
  .cases a
 .split at a
  .rename_i h
   simp only[cM,decide_eq_true_eq]at h;cases a;obtain⟨_,_,rfl,f,m,c⟩:=r.lst_inv;obtain rfl:=b.int_inv;refine .inr ⟨_,_,_,rfl,rfl,f,h.1.1.1,h.1.1.2,by rw[c.length];exact h.1.2,λ p ah=>q _ _ (eM ah _) (.lst dQ (.inl ah) ?_)⟩;exact((c.rep _).wk λ q o e z=>⟨.inr z.1,λ g=>by subst g;rw[ah]at e;cases e⟩).up (eM ah _)
  .cases a
 .cases a
noncomputable def intsOf:List D->Option (List Int)
 |[]=>some []
 | .int i::r=>(intsOf r).map (i::·)
 |_=>none
theorem mn:∀{l:List D} {ns:List Int},intsOf l=some ns->l=ns.map .int
 |[],ns,h=>by cases h;rfl
 | .int i::r,ns,h=>by
  simp only[intsOf,zZ]at h;obtain⟨m,a,rfl⟩:=h;rw[mn a];rfl
 | .non::_,_,h=>by cases h
 | .bl _::_,_,h=>by cases h
 | .str _::_,_,h=>by cases h
 | .tup _::_,_,h=>by cases h
 | .lst _::_,_,h=>by cases h
 | .dct _ _::_,_,h=>by cases h
 | .set _::_,_,h=>by cases h
 | .scr _::_,_,h=>by cases h
theorem m8:∀ns:List Int,intsOf (ns.map .int)=some ns
 |[]=>rfl
 |n::ns=>by simp only[bu,intsOf,m8 ns,qe]
noncomputable def sd(p:List Int->List Int->Bool):D->D->ag D
 | .tup l,.tup m=>match intsOf l,intsOf m with
  |some ns,some s=>.ok (.bl (p ns s))
  |_,_=>.st
 |_,_=>.st
def MY(r:aA K A H x (.tup l))(e:intsOf l=some ns):∃a,x= .ref a/\bQ K H a (ns.map V.int):=by
 have:=mn e
 subst this;cases r with
 |tup h r=>
  have:=r.ints_of
  simp_all
def MZ(hr:∀x y H Q,(∃a b ns m,x= .ref a/\y= .ref b/\bQ K H a (ns.map V.int)/\bQ K H b (m.map V.int)/\Q (.bl (p ns m)) H)->r x y H Q):gf K r (sd p):=by
 intro A x y d e H Q z f g c q;unfold sd at c;split at c
 .split at c
  .rename_i ns m h i
   cases c;obtain⟨a,rfl,j⟩:=MY f h;obtain⟨b,rfl,k⟩:=MY g i;exact hr _ _ _ _ ⟨a,b,ns,m,rfl,rfl,j,k,q _ H (aU.refl H) (.bl _)⟩
  simp_all
 .cases c
noncomputable def fh:D->D->ag D:=λ d e=>match dg (λ _ _=>true) (λ i j=>.bl (decide (i<j))) d e with
 | .ok z=>.ok z
 |_=>sd HT.lexLt d e
noncomputable def mq:D->D->ag D:=λ d e=>match dg (λ _ _=>true) (λ i j=>.bl (decide (i<=j))) d e with
 | .ok z=>.ok z
 |_=>sd HT.lexLe d e
noncomputable def Bq:D->D->ag D:=dg (λ _ _=>true) (λ i j=>.bl (decide (j<i)))
def Fn:D->D->ag D:=dg (λ _ _=>true) (λ i j=>.bl (decide (j<=i)))
def U3(h:X.A.units<cLine):bT X (dP .Lt) (λ x y H Q=>i9 (λ i j=>.bl (decide (i<j))) x y H Q\/AV X.K x y H Q):=bT.or Sk (SX h)
def U4(h:X.A.units<cLine):bT X (dP .LtE) (λ x y H Q=>i9 (λ i j=>.bl (decide (i<=j))) x y H Q\/AW X.K x y H Q):=bT.or Sl (Tw h)
def Fo:gf K (λ x y H Q=>i9 (λ i j=>.bl (decide (i<j))) x y H Q\/AV K x y H Q) fh:=gf.or Bn (MZ λ _ _ _ _ h=>h)
def Fp:gf K (λ x y H Q=>i9 (λ i j=>.bl (decide (i<=j))) x y H Q\/AW K x y H Q) mq:=gf.or Bn (MZ λ _ _ _ _ h=>h)
def M0(e:sd p x y= .ok z):imm z=true:=by
 unfold sd at e;split at e
 .split at e
  .cases e;rfl
  lia
 lia
def M1:∀x y z,fh x y= .ok z->imm z=true:=by
 intro x y z e;unfold fh at e;split at e
 .rename_i w h;cases e;exact MU _ _ _ h
 .exact M0 e
def U5:∀x y z,mq x y= .ok z->imm z=true:=by
 intro x y z e;unfold mq at e;split at e
 .rename_i w h;cases e;exact MU _ _ _ h
 .exact M0 e
noncomputable def xF(n:Bool):D->D->ag D
 | .bl a,.bl b=>if n then .st else .ok (.bl (a==b))
 |d,.non=>match d with
  | .non=>.ok (.bl (!n))
  |_=>.ok (.bl n)
 |_,_=>.st
def U6:bT X (dP .Is) (λ x y H Q=>(∃b c,x= .bl b/\y= .bl c/\Q (.bl (b==c)) H)\/(y= .non/\Q (.bl (decide (x= .non))) H)):=bT.or Tx So
def U7(r:aA K A H x d)(h:d≠.non):x≠.non:=by
 induction r using aA.cs<;>grind
def aA.non_inv(r:aA K A H v .non):v= .non:=by cases r;rfl
def U8:gf K (λ x y H Q=>(∃b c,x= .bl b/\y= .bl c/\Q (.bl (b==c)) H)\/(y= .non/\Q (.bl (decide (x= .non))) H)) (xF false):=by
 intro A x y d e H Q z r f a q;unfold xF at a;split at a
 .cases a;exact .inl ⟨_,_,r.bl_inv,f.bl_inv,q _ H (aU.refl H) (.bl _)⟩
 .have g:=f.non_inv
  subst g;split at a
  .cases a;have h:=r.non_inv;subst h;exact .inr ⟨rfl,by rw[decide_eq_true rfl];exact q _ H (aU.refl H) (.bl _)⟩
  .rename_i n
   cases a;exact .inr ⟨rfl,by rw[decide_eq_false (U7 r n)];exact q _ H (aU.refl H) (.bl _)⟩
 .cases a
noncomputable def pb:D->ag D
 | .int i=>.ok (.int (-i))
 |_=>.st
def U9:Fd K (AL λ i=>.int (-i)) pb:=by
 intro A x d H Q z r e q;induction r using aA.cs with
 |int i=>cases e;exact⟨i,rfl,q _ H (aU.refl H) (.int _)⟩
 |_=>cases e
def Va:∀x z,pb x= .ok z->imm z=true:=by
 intro x z e;cases x with
 |int i=>cases e;rfl
 |_=>cases e
noncomputable def cN(l:List D)(i:Int):ag D:=match l7 l i with
 |some d=>.ok d
 |none=>.st
noncomputable def aH:D->D->ag D
 | .tup l,.int i=>cN l i
 | .lst l,.int i=>cN l i
 | .scr l,.int i=>cN (l.map .int) i
 |_,_=>.st
theorem aM.at(r:aM K A H xs ds)(e:l7 ds i=some d):∃x,l7 xs i=some x/\aA K A H x d:=by
 unfold l7 at e ⊢;rw[r.length];cases h:hh _ i with
 |none=>simp_all
 |some j=>
  rw[h]at e;obtain⟨x,a,b⟩:=r.getD e;exact⟨x,a,b⟩
def Vb:gf K (ES K) aH:=by
 intro A x y d e H Q z g i a q;unfold aH at a;split at a
 .unfold cN at a
  split at a
  .rename_i w b
   cases a;obtain⟨_,_,rfl,h,r⟩:=g.tup_inv;obtain rfl:=i.int_inv;obtain⟨v,c,f⟩:=r.at b;exact .inr (.inl ⟨_,_,_,v,rfl,rfl,h,c,q v H (aU.refl H) (f.wk λ _ _ _ z=>.inr z)⟩)
  .cases a
 .unfold cN at a
  split at a
  .rename_i w b
   cases a;obtain⟨_,_,rfl,h,m,r⟩:=g.lst_inv;obtain rfl:=i.int_inv;obtain⟨v,c,f⟩:=r.at b;exact .inl ⟨_,_,_,v,rfl,rfl,cu.of h,c,q v H (aU.refl H) (f.wk λ _ _ _ z=>.inr z.1)⟩
  .cases a
 .unfold cN at a
  split at a
  .rename_i w b
   cases a;obtain⟨_,rfl,h⟩:=g.scr_inv;obtain rfl:=i.int_inv;obtain⟨v,c,f⟩:=(aM.ints (K:=K) (A:=A) (H:=H)).at b;exact .inl ⟨_,_,_,v,rfl,rfl,h.sq,c,q v H (aU.refl H) (f.wk λ _ _ _ z=>.inr z)⟩
  .cases a
 .cases a
noncomputable def b0:List D->ag D
 |[.tup l]=>.ok (.int l.length)
 |[.lst l]=>.ok (.int l.length)
 |[.scr l]=>.ok (.int l.length)
 |_=>.st
def M3:nT K (λ xs H Q=>∃p ys,xs=[.ref p]/\(cu K H p ys\/bQ K H p ys)/\Q (.int ys.length) H) b0:=by
 intro A xs ds H Q z r e q;unfold b0 at e;split at e
 .cases e
  obtain⟨_,rfl,a⟩:=r.one_inv;obtain⟨_,_,rfl,h,r⟩:=a.tup_inv;exact⟨_,_,rfl,.inr h,by rw[r.length];exact q _ H (aU.refl H) (.int _)⟩
 .cases e
  obtain⟨_,rfl,a⟩:=r.one_inv;obtain⟨_,_,rfl,h,m,r⟩:=a.lst_inv;exact⟨_,_,rfl,.inl (cu.of h),by rw[r.length];exact q _ H (aU.refl H) (.int _)⟩
 .cases e
  obtain⟨_,rfl,a⟩:=r.one_inv;obtain⟨_,rfl,h⟩:=a.scr_inv;exact⟨_,_,rfl,.inl h.sq,by rw[bg];exact q _ H (aU.refl H) (.int _)⟩
 simp_all
def M4:∀x z,b0 x= .ok z->imm z=true:=by
 intro x z e;unfold b0 at e;split at e<;>first|(cases e;rfl)|lia
noncomputable def qJ:D->String
 | .non=>"NoneType"| .bl _=>"bool"| .int _=>"int"| .str _=>"str"| .tup _=>"tuple"| .lst _=>"list"| .dct _ _=>"dict"| .set _=>"set"| .scr _=>"script"| .fn _=>"function"| .itm _ _=>"items"| .itx _ _=>"items"
noncomputable def eR(T:String):D->ag D:=λ d=>if mP (qJ d) T true=true then .ok (.bl true)else if mP (qJ d) T false=true then .ok (.bl false)else .st
def M5(K:aB)(T:String):List V->au->bC->Prop:=λ xs H Q=>∃x d A b,xs=[x,.ty T]/\aA K A H x d/\mP (qJ d) T b=true/\Q (.bl b) H
def Vc:fM X (.builtin "isinstance") (M5 X.K T):=by
 intro k s Z H xs a Q I v h;obtain⟨x,d,A,b,rfl,i,ok,q⟩:=h;induction i using aA.cs with
 |tup h r=>
  obtain⟨u,j,rfl,e,w⟩:=vals2 v;cases e;cases w;obtain⟨t,_,⟨o,f,g,_⟩,_⟩:=I.tuple h;exact kr K2 I.kIn ⟨o,f,g⟩ (EX ok) (λ z=>nomatch z) λ l=>⟨.bl b,H,I.tok _,rfl,q⟩
 |set h m S n=>cases b<;>simp[mP,qJ]at ok
 |scr h=>cases b<;>simp[mP,qJ]at ok
 |fn h=>cases b<;>simp[mP,qJ]at ok
 |itm h=>cases b<;>simp[mP,qJ]at ok
 |itx h=>cases b<;>simp[mP,qJ]at ok
 |non=>exact uA k s Z H _ a Q I v ⟨_,T,_,b,rfl,.non,ok,q⟩
 |bl c=>exact uA k s Z H _ a Q I v ⟨_,T,_,b,rfl,.bl c,ok,q⟩
 |int c=>exact uA k s Z H _ a Q I v ⟨_,T,_,b,rfl,.int c,ok,q⟩
 |str c=>exact uA k s Z H _ a Q I v ⟨_,T,_,b,rfl,.str c,ok,q⟩
 |lst h m r=>exact uA k s Z H _ a Q I v ⟨_,T,_,b,rfl,.lst h,ok,q⟩
 |dK h m r=>exact uA k s Z H _ a Q I v ⟨_,T,_,b,rfl,.dK h,ok,q⟩
 |dT h m r=>
  obtain⟨u,j,rfl,e,w⟩:=vals2 v;cases e;cases w;obtain⟨⟨_,_,_,o,_,_,_,f,g,_⟩,_⟩:=(show fY X.prog X.w H s.heap _ (E8 _ _)from I.hok _ _ h.at_);exact kr Ep I.kIn ⟨o,f,g.1⟩ (EX ok) (λ z=>nomatch z) λ l=>⟨.bl b,H,I.tok _,rfl,q⟩
end
section
variable{C:bB}{pos p b:Pos}{m:Mode}{a:Expr}{f:af->ag D}
def ix(n:aF C m a f)(o:C.mg "isinstance"=none)(c:C.mg x=none)(q:x≠"__name__":=by decide)(u:Nd x:=by decide)(k:∀i,bf [a,.Name x b] (C.X i).env=(false,eval a (C.X i).env)::bf [.Name x b] (C.X i).env:=by z_go)(hpl:∀i,(fW pos (bf [.Name x b] (C.X i).env)).any (·.1)=false:=by z_go)(y:∀i,dA (C.X i) "isinstance":=by z_go)(A:gx "isinstance"=some (.builtin "isinstance"):=by f_are)(g:∀i,dA (C.X i) x:=by z_go)(j:gx x=some (.type T):=by f_are):
  aF C (some []) (.Call (.Name "isinstance" p) [a,.Name x b] [] pos) (dq (eR T) f):=by
 obtain⟨t,B,D⟩:=n;refine⟨mO (M5 C.K T) (gm t (gm (nR (.ty T)) jX)),λ i=>?_,λ τ Z H ρ lab Q R W=>?_⟩
 .rw[<-C.hK i]
  exact uu Vc (y i) (by rw[(C.cx i).2.2.2.1];exact o) A (g9 (B i) (g9 (Ro (v:=.ty T) (g i) (by rw[(C.cx i).2.2.2.1];exact c) j rfl q u) kB) (k i)) (by decide) (by decide) (k i) (hpl i)
 .refine D τ Z H ρ lab _ R (W.bd.imp λ d _ w x l s r=>?_)
  obtain⟨z,e,w⟩:=w.okD;unfold eR at e;split at e
  .rename_i h;cases e;exact⟨x,d,_,true,rfl,r,h,w _ l s (.bl _)⟩
  .split at e
   .rename_i h;cases e;exact⟨x,d,_,false,rfl,r,h,w _ l s (.bl _)⟩
   .cases e
end
noncomputable def iy:Slot->Slot
 | .ow d=>.sh d
 | .nw d=>.sh d
 | .oz d=>.sh d
 | .o2 l=>.sh (.lst (l.map .lst))
 |s=>s
noncomputable def shE(ρ:af):af:=ρ.map iy
noncomputable def gI(js:iL)(Z:L2.St):L2.St:=js.map λ o=>o.bind λ j=>(Z[j]?).join
noncomputable def fj(js:iL)(ρ:af):af:=js.map λ o=>match o with
 |none=>.no
 |some j=>(ρ[j]?).getD .no
def Vd{K:aB}(h:ly K H lab i v s):∃d,(s= .no\/iy s= .sh d)/\(s= .no\/aA K (λ _=>True) H v d):=by
 cases s with
 |no=>exact⟨.non,.inl rfl,.inl rfl⟩
 |sh d=>exact⟨d,.inr rfl,.inr (aA.wk (λ _ _ _ _=>trivial) h)⟩
 |nw d=>exact⟨d,.inr rfl,.inr (aA.wk (λ _ _ _ _=>trivial) h)⟩
 |ow d=>exact⟨d,.inr rfl,.inr (aA.wk (λ _ _ _ _=>trivial) h.1)⟩
 |oz d=>exact⟨d,.inr rfl,.inr (aA.wk (λ _ _ _ _=>trivial) (MD h))⟩
 |o2 l=>exact⟨_,.inr rfl,.inr (aA.wk (λ _ _ _ _=>trivial) (E9 h))⟩
theorem RR.shE{K:aB}(R:RR K G τ ρ Z H lab):RR K G τ (shE ρ) Z H (λ _=>(0,0)):=by
 refine⟨by unfold VL.shE;rw[bg];exact R.len,λ i s e=>?_,R.old,λ p ah=>absurd rfl ah,λ q c=>(R.tm q c).wk λ _ _ _ _=>dI _⟩;unfold VL.shE at e;rw[da]at e;cases a:ρ[i]? with
 |none=>rw[a]at e;cases e
 |some f=>
  rw[a]at e;cases e;rcases R.sl i f a with rfl|⟨v,g,j⟩
  .exact .inl rfl
  .obtain⟨d,h,b⟩:=Vd j
   rcases h with rfl|h
   .exact .inl rfl
   .rcases b with rfl|b
    .exact .inl rfl
    .exact .inr ⟨v,g,by rw[h];exact b.wk λ _ _ _ _=>dI _⟩
def M6{i:Nat}(e:(fj js ρ)[i]? =some s):s= .no\/∃j,js[i]? =some (some j)/\ρ[j]? =some s:=by
 unfold fj at e;rw[da]at e;cases a:js[i]? with
 |none=>simp_all
 |some o=>
  rw[a]at e;cases o with
  |none=>simp_all
  |some j=>
   cases r:ρ[j]? with
   |none=>simp[r]at e;exact .inl e.symm
   |some s'=>simp_all
def RR.block{K:aB}{τ:List (V×D)}(R:RR K G τ (VL.shE ρ) Z H lab)(hz:∀p,(lab p).1<=1)(b:H l=none):
  RR K G τ (fj js (VL.shE ρ)) (gI js Z) H (λ p=>if p=l then(2,0)else(0,0)):=by
 have n:∀p o,H p=some o->p≠l:=λ p o e z=>by subst z;rw[b]at e;cases e
 refine⟨by unfold fj gI;rw[bg,bg],λ i s e=>?_,R.old,λ p ah=>?_,λ q f=>(R.tm q f).wk λ p o e _=>by rw[if_neg (n p o e)];exact dI _⟩
 .rcases M6 e with rfl|⟨j,g,es⟩
  .exact .inl rfl
  .rcases R.sl j s es with rfl|⟨v,k,h⟩
   .exact .inl rfl
   .refine .inr ⟨v,?_,?_⟩
    .unfold gI
     rw[da,g];simp[k]
    .unfold VL.shE at es
     rw[da]at es;cases c:ρ[j]? with
     |none=>rw[c]at es;cases es
     |some m=>
      rw[c]at es;cases es;cases m with
      |no=>trivial
      |oz d=>exact aA.wk (λ p o e _=>by show(if p=l then((2,0):Nat×Nat)else(0,0)).1<=1;rw[if_neg (n p o e)];exact dI _) h
      |nw d=>exact aA.wk (λ p o e _=>by show(if p=l then((2,0):Nat×Nat)else(0,0)).1<=1;rw[if_neg (n p o e)];exact dI _) h
      |sh d=>exact aA.wk (λ p o e _=>by show(if p=l then((2,0):Nat×Nat)else(0,0)).1<=1;rw[if_neg (n p o e)];exact dI _) h
      |ow d=>exact aA.wk (λ p o e _=>by show(if p=l then((2,0):Nat×Nat)else(0,0)).1<=1;rw[if_neg (n p o e)];exact dI _) h
      |o2 d=>exact aA.wk (λ p o e _=>by show(if p=l then((2,0):Nat×Nat)else(0,0)).1<=1;rw[if_neg (n p o e)];exact dI _) h
 .by_cases a:p=l
  .subst a;exact R.old.free b
  .exact absurd (show(if p=l then((2,0):Nat×Nat)else(0,0)).1=0 by rw[if_neg a]) ah
noncomputable def Ve(X N:List Str)(js:iL)(ks:List Nat)(s:Scope):Bool:=(dY js.length).all λ i=>match js[i]? with
 |some (some j)=>match N[i]?,X[j]? with
  |some x,some y=>x==y&&s.names.lookup x==some .free&& !ks.contains i
  |_,_=>false
 |_=>true
def xG(g:sc.kind= .function)(k:(sc.names.all λ y=>y.2 != .cell||sc.names.lookup y.1==some .cell)=true)(l:(sc.names.all λ y=>y.2 != .local||sc.names.lookup y.1==some .local)=true)
  (m:(sc.names.all λ y=>y.2 != .free||(X.env.kindOf y.1==some .cell||X.env.kindOf y.1==some .free))=true)(n:js.length=N.length)(p:Ve X.N N js ks sc=true):l9 X sc N (gI js) ks:=by
 refine⟨g,λ y b e=>?_,λ y b e=>?_,λ y b e=>?_,λ Z=>by unfold gI;rw[bg];exact n,λ Z i x v q a=>?_⟩
 .have:=gF.mp k y b
  rw[e]at this;simpa using this
 .have:=gF.mp l y b
  rw[e]at this;simpa using this
 .have:=gF.mp m y b
  rw[e]at this;simpa using this
 .unfold gI at a
  rw[da]at a;cases d:js[i]? with
  |none=>rw[d]at a;cases a
  |some o=>
   rw[d]at a;cases o with
   |none=>cases a
   |some j=>
    have r:i<js.length:=(fC.mp d).1
    have:=gF.mp p i (oN.mpr r)
    rw[d,q]at this;dsimp only at this;cases f:X.N[j]? with
    |none=>rw[f]at this;cases this
    |some y=>
     rw[f]at this;simp only[cM,beq_iff_eq,zi]at this;obtain⟨⟨h,h'⟩,c⟩:=this;subst h;refine⟨h',λ s=>?_,j,f,?_⟩
     .rw[List.contains_iff_mem.mpr s]at c;cases c
     .simp only[qe,tS,JQ]at a
      cases es:Z[j]? with
      |none=>rw[es]at a;cases a
      |some w=>rw[es]at a;simp at a;subst a;rfl
abbrev bB.blk(C:bB)(c:Scope)(N:List Str):bB where
 ι:=C.ι×Addr×List Addr×ax×au
 X:=λ i=>(C.X i.1).block c i.2.1 N i.2.2.1 i.2.2.2.1 i.2.2.2.2
 prog:=C.prog
 w:=C.w
 K:=C.K
 mg:=C.mg
 base:=C.base
 k:=C.k
 G:={C.G with E:=λ _ _ _=>False}
 cx:=λ i=>C.cx i.1
 calm:=λ i=>C.calm i.1
 room:=λ i=>C.room i.1
 own:=λ i=>PassesOwn.never
 pass:=λ i Q Z H s e s' I h=>by obtain⟨_,_,_,_,_,_,_,_,_,_,_,_,_,a⟩:=h;exact a
 dOk:=false
 dcx:=λ h=>absurd h gh
def eS(ρ:af)(fg:D->af->ag af)(ft:af->ag Bool)(fe:af->ag D):List D->ag (List D)
 |[]=>.ok []
 |d::ds=>(fg d ρ).bd λ a=>(ft a).bd λ k=>if k=true then(fe a).bd λ y=>(eS ρ fg ft fe ds).bd λ ys=>.ok (y::ys)else eS ρ fg ft fe ds
def dD(fi:af->ag (List D))(js:iL)(fg:D->af->ag af)(ft:af->ag Bool)(fe:af->ag D):af->ag D:=λ ρ=>(fi (shE ρ)).bd λ ds=>
 if ds.length<aQ then(match eS (fj js (shE ρ)) fg ft fe ds with
  | .ok l=>.ok (.lst l)
  |_=>.st)else .st
def se(C:bB)(s:List Expr)(f:af->ag Bool):Prop:=∃t,(∀i,o6 (C.X i) s t)/\o8 C.K C.G t f
def cE:af->ag Bool:=λ _=>.ok true
def jD:se C [] cE:=⟨_,λ _=>TT,λ τ Z H ρ lab Q R W=>W H (aU.refl H)⟩
def qK(h:gp C c f):se C [c] f:=let⟨t,h1,h2⟩:=h;⟨t,λ i=>TU (h1 i),h2⟩
def Fq(h:eS ρ fg ft fe (d::ds)= .ok l):
  ∃a k,fg d ρ= .ok a/\ft a= .ok k/\((k=true/\∃y ys,fe a= .ok y/\eS ρ fg ft fe ds= .ok ys/\l=y::ys)\/(k=false/\eS ρ fg ft fe ds= .ok l)):=by
 unfold eS at h;obtain⟨a,e,h⟩:=iX h;obtain⟨k,b,h⟩:=iX h;refine⟨a,k,e,b,?_⟩;cases k with
 |true=>
  obtain⟨y,c,h⟩:=iX h;obtain⟨ys,f,h⟩:=iX h
  grind
 |false=>
  exact .inr ⟨rfl,h⟩
def RR.but_blk{K:aB}{τ:List (V×D)}(R:RR K G τ (fj js (VL.shE ρ)) Z H (λ p=>if p=l then(2,0)else(0,0)))(B:gz l H H')(h:H l=some o)(a:jz o=true)(n:G.H0 l=none):
  RR K G τ (fj js (VL.shE ρ)) Z H' (λ p=>if p=l then(2,0)else(0,0)):=by
 have c:¬((λ p=>if p=l then((2,0):Nat×Nat)else(0,0)) l).1<=1:=by simp
 refine⟨R.len,λ j s e=>?_,λ b o f=>?_,R.new,λ q g=>(R.tm q g).but B h a c⟩
 .rcases R.sl j s e with z|⟨u,i,k⟩
  .exact .inl z
  .refine .inr ⟨u,i,?_⟩
   rcases M6 e with rfl|⟨x,r,es⟩
   .trivial
   .unfold VL.shE at es
    rw[da]at es;cases d:ρ[x]? with
    |none=>rw[d]at es;cases es
    |some m=>rw[d]at es;cases es;cases m<;>first|trivial|exact aA.but B h a c k
 .exact B b o (λ z=>by lia) (R.old b o f)
def RR.blk0{K:aB}(R:RR K G τ (VL.shE ρ) Z H lab)(h:G'.H0=G.H0):RR K G' τ (VL.shE ρ) Z H (λ _=>(0,0)):=by
 refine⟨R.len,λ i s e=>?_,by rw[h];exact R.old,λ p ah=>absurd rfl ah,λ q a=>(R.tm q a).wk λ _ _ _ _=>dI _⟩;rcases R.sl i s e with rfl|⟨v,b,c⟩
 .exact .inl rfl
 .unfold VL.shE at e
  rw[da]at e;cases d:ρ[i]? with
  |none=>simp_all
  |some f=>rw[d]at e;cases e;cases f<;>first|exact .inl rfl|exact .inr ⟨v,b,aA.wk (λ _ _ _ _=>dI _) c⟩
section
variable{K:aB}{G:eK}{a:iS}{fi:af->ag (List D)}{js:iL}{g:iP}{fg:D->af->ag af}{t:gk}{ft:af->ag Bool}{f:bw}{fe:af->ag D}
def M7(hi:uX K G a fi)(hg:uS K {G with E:=λ _ _ _=>False} g fg)(ht:o8 K {G with E:=λ _ _ _=>False} t ft)(he:eO K {G with E:=λ _ _ _=>False} (some []) f fe):
  eO K G (some []) (AY a (gI js) g t f) (dD fi js fg ft fe):=by
 intro τ Z H ρ lab Q R W;refine hi τ Z H _ _ _ R.shE (W.bd.imp λ ds _ w J H1 lab1 A s1 _ R1 jl=>?_);intro l M;obtain⟨X,u,V,w⟩:ds.length<aQ/\∃u,eS (fj js (VL.shE ρ)) fg ft fe ds= .ok u/\Ba K (some []) lab H Q (.lst u):=by
  by_cases X:ds.length<aQ
  .rw[if_pos X]at w
   cases V:eS (fj js (VL.shE ρ)) fg ft fe ds with
   |ok u=>rw[V]at w;exact⟨X,u,rfl,w⟩
   |ex c=>rw[V]at w;exact aV w
   |st=>rw[V]at w;exact aV w
  .rw[if_neg X]at w
   exact aV w
 have R0:RR K {G with E:=λ _ _ _=>False} (A++τ) (VL.shE ρ) Z H1 (λ _=>(0,0)):=R1.blk0 rfl;have RB:=R0.block (js:=js) (λ _=>dI _) M;have N:H l=none:=s1.free M;have cK:¬((λ p=>if p=l then((2,0):Nat×Nat)else(0,0)) l).1<=1:=by simp
 refine⟨λ i n acc F=>∃C,n=ds.length-i/\i<=ds.length/\F l=some (.lst acc)/\RR K {G with E:=λ _ _ _=>False} (A++τ) (fj js (VL.shE ρ)) (gI js Z) F (λ p=>if p=l then(2,0)else(0,0))/\aU H F/\acc.length<=i/\
  aM K (λ p=>H p=none/\p≠l) F acc C/\∃s,eS (fj js (VL.shE ρ)) fg ft fe (ds.drop i)= .ok s/\u=C++s,⟨ds.length,[],by lia,by lia,dQ,RB.up (eM M _),s1.trans (eM M _),bJ _,.nil,u,V,rfl⟩,?_⟩
 rintro i n acc F ⟨C,rfl,hi,j,bA,s2,aE,r,s,h,m⟩;refine⟨j,by lia,?_⟩;have jj:=jl _ F λ q hq=>bA.tm q (eW _ hq)
 by_cases D:i<ds.length
 .obtain⟨go,yl⟩:=(jj i).2 D
  refine .inr ⟨go,λ x P hy=>?_⟩;obtain⟨s3,d,ed,rx⟩:=yl x P hy;replace bA:=bA.up s3;replace j:=s3 _ _ j;replace s2:=s2.trans s3;replace r:=r.up s3;have S:ds.drop i=d::ds.drop (i+1):=by
   rw[tH D]
   have:=bP D
   rw[ed]at this;cases this;rfl
  rw[S]at h;obtain⟨I,k,e1,e2,T⟩:=Fq h;refine hg (A++τ) x d _ P _ _ _ I bA rx e1 λ Z4 R4=>?_
  refine ht (A++τ) Z4 P I _ _ R4 ?_;rw[e2];intro H5 s5;rcases T with ⟨rfl,y,ys,T,U,rfl⟩|⟨rfl,U⟩
  .rw[if_pos rfl]
   refine he (A++τ) Z4 H5 I _ _ (R4.up s5) ?_;rw[T];intro v Y s6 r6;have L:Y l=some (.lst acc):=s6 _ _ (s5 _ _ j);have B:gz l Y (bt Y l (.lst (acc++[v]))):=λ b o ne O=>by rw[cp ne];exact O
   refine⟨L,ds.length-(i+1),by lia,C++[y],rfl,D,dQ,?_,?_,by rw[eJ];simp;lia,?_,ys,U,by rw[m];simp⟩
   .exact(bA.up (s5.trans s6)).but_blk B L rfl (R1.old.free M)
   .exact λ b o O=>B b o (λ z=>by subst z;rw[N]at O;cases O) (((s2.trans s5).trans s6) b o O)
   .refine((r.up (s5.trans s6)).append (.cons (r6.wk λ p o _ z=>?_) .nil)).but B L rfl λ z=>z.2 rfl
    rcases z with z|z
    .exact⟨(s2.trans s5).free z,λ e=>by subst e;rw[s5 _ _ j]at z;cases z⟩
    .cases z
  .rw[if_neg gh]
   exact⟨ds.length-(i+1),by lia,C,rfl,D,s5 _ _ j,bA.up s5,s2.trans s5,by lia,r.up s5,s,U,m⟩
 .have ei:i=ds.length:=by lia
  subst ei;rw[tL]at h;cases h;rw[g6]at m;subst m;exact .inl ⟨(jj _).1 (bJ _),w _ F s2 (.lst j (.inl N) (r.wk λ p o _ z=>⟨.inl z.1,z.2⟩))⟩
end
section
variable{C:bB}{pos:Pos}{e a t:Expr}{f:List Expr}{s:Scope}{N:List Str}{js:iL}{ks:List Nat}{fi:af->ag (List D)}{fg:D->af->ag af}{ft:af->ag Bool}{fe:af->ag D}
def fx{C:bB}(n:N.Nodup:=by f_are)(h:i∈ks:=by decide)(a:∀j,((C.blk s N).X j).N[i]? =some x:=by z_go)(b:∀j,lg ((C.blk s N).X j).env.scope x:=by f_tup)
  (f:∀j,((C.blk s N).X j).fn x=true\/((C.blk s N).X j).env.scope.names.lookup x=some .local:=by fin2):lB (C.blk s N) (.Name x pos) ks (aD i):=
 fb a b f (λ _=>n) h
def j0(h:kF C a t fi)(b:lB (C.blk s N) a ks fg)(d:se (C.blk s N) f ft)(j:aF (C.blk s N) (some []) e fe)(k:∀i x,kn t (C.X i).env x=pure x:=by intro _ _;rfl)(B:∀i,l9 (C.X i) s N (gI js) ks:=by intro _;exact xG rfl rfl rfl rfl rfl rfl):aF C (some []) (.ListComp e [⟨a,t,f,0⟩] s pos) (dD fi js fg ft fe):=by
 obtain⟨w,l,dg⟩:=h;obtain⟨g,m,n,o,y⟩:=b;obtain⟨A,q,r⟩:=d;obtain⟨E,u,v⟩:=j;exact⟨_,λ i=>TV (B i) (C.calm i) (l i) (λ c p z D=>m (i,c,p,z,D)) o (λ c p z D=>q (i,c,p,z,D)) (λ c p z D=>u (i,c,p,z,D)) (k i),M7 dg n r v⟩
def Fs(b:kF C a t fi)(d:lB (C.blk s N) a ks fg)(k:se (C.blk s N) f ft)(l:aF (C.blk s N) (some []) e fe)(m:∀j,(C.X j).N[i]? =some x:=by z_go)(n:∀j,lg (C.X j).env.scope x:=by f_tup)(h:∀j,i8 (.ListComp e [⟨a,t,f,0⟩] s pos) (some (.Name x pos')) spos.line (C.X j).env=pure true:=by z_go)(o:∀i x,kn t (C.X i).env x=pure x:=by intro _ _;rfl)(q:∀j,(C.X j).fn x=true\/(C.X j).env.scope.names.lookup x=some .local:=by fin2)(r:∀j,(C.X j).N.Nodup:=by intro _;assumption)(B:∀i,l9 (C.X i) s N (gI js) ks:=by intro _;exact xG rfl rfl rfl rfl rfl rfl):
  xC C i (.Assign [.Name x pos'] (.ListComp e [⟨a,t,f,0⟩] s pos) spos) (some []) (dD fi js fg ft fe):=by
 obtain⟨H,u,dg⟩:=b;obtain⟨g,v,w,y,I⟩:=d;obtain⟨J,A,E⟩:=k;obtain⟨K,F,G⟩:=l;exact⟨_,λ j=>Mh (r j) (m j) (n j) (B j) (C.calm j) (u j) (λ c p z D=>v (j,c,p,z,D)) y (λ c p z D=>A (j,c,p,z,D)) (λ c p z D=>F (j,c,p,z,D)) (h j) (o j) (q j),M7 dg w E G⟩
end
def RR.mut{K:aB}(R:RR K G τ ρ Z H lab)(t:Z[i]? =some (some v))(h:H l=some o)(c:jz o=true)(S:(lab l).1=i+2)
  (B:gz l H H')(h':ly K H' lab i v s'):RR K G τ (ρ.set i s') Z H' lab:=by
 refine⟨by rw[kU];exact R.len,λ j x e=>?_,λ b u g=>B b u (λ z=>?_) (R.old b u g),R.new,λ q w=>(R.tm q w).but B h c λ z=>by lia⟩
 .by_cases k:i=j
  .subst k
   have A:i<ρ.length:=by
    have:=(fC.mp e).1
    rwa [kU]at this
   rw[pT A]at e;cases e;exact .inr ⟨v,t,h'⟩
  .rw[oJ k]at e
   rcases R.sl j x e with z|⟨u,C,f⟩
   .exact .inl z
   .refine .inr ⟨u,C,?_⟩
    cases x with
    |no=>trivial
    |sh d=>exact aA.but B h c (λ z=>by lia) f
    |nw d=>exact aA.but B h c (λ z=>by lia) f
    |ow d=>exact⟨aA.but B h c (λ z=>by lia) f.1,f.2⟩
    |oz d=>
     obtain⟨a,xs,ds,m,n,p,r,s⟩:=f;exact⟨a,xs,ds,m,n,B a _ (λ z=>by subst z;exact k (by lia)) p,r,aM.but B h c (λ z=>by lia) s⟩
    |o2 ll=>
     obtain⟨a,xs,m,n,p,r,s⟩:=f;refine⟨a,xs,m,B a _ (λ z=>?_) n,p,r,λ D y ds E F=>(s D y ds E F).but B h c λ z=>?_⟩<;>simp_all
 .subst z
  have:=R.new b (by rw[S];lia)
  rw[this]at g;cases g
section
variable{C:bB}{pos b c p:Pos}{e a:Expr}{fe f:af->ag D}{i:Nat}{x:Str}{m:Mode}
def fy(i:Nat)(fe:af->ag D):af->aC:=λ ρ=>match ρ[i]? with
 |some (.ow (.lst ds))=>(fe ρ).bo λ d=>if ds.length<aQ then .nx (ρ.set i (.ow (.lst (ds++[d]))))else .st
 |_=>.st
def m9(i:Nat)(L:aF C m e fe)(M:r9 m=true:=by rfl)(N:∀j,(C.X j).N[i]? =some x:=by z_go)(O:∀j,hI (C.X j).env.scope x:=by x_go)(Q:Nd x:=by decide)
  (D:(x==("__classdict__":Str))=false:=by decide)(f:∀j,bf [e] (C.X j).env=[(false,eval e (C.X j).env)]:=by z_go)
  (a:∀j,lT (.Name x p) "append" (C.X j).env (eval (.Name x p) (C.X j).env)=eval (.Name x p) (C.X j).env:=by z_go)
  (g:∀j,((fW c (bf [e] (C.X j).env)).all (λ x=>!x.1)&&(ql c (qh [] (C.X j).env)).all (λ x=>x.1.isSome)&&decide ([e].length+([]:List iK).length+(if ([]:List iK).isEmpty then 0 else 1)<30))=true:=by z_go)
  (l:(b.endLine==c.line)=true:=by rfl)
  (E:∀j,i8 (.Call (.Attribute (.Name x p) "append" b) [e] [] c) none pos.line (C.X j).env=pure false:=by z_go):
  hB C (.Expr (.Call (.Attribute (.Name x p) "append" b) [e] [] c) pos) (fy i fe):=by
 obtain⟨t,S,T⟩:=L;refine⟨rN (ux C.K "list" EZ (g8 i) (gm t jX)),λ j=>rO (by rw[<-C.hK j];exact xl wM Ee Kp Mb (iO (N j) (O j) Q D) (g9 (S j) kB (f j)) (a j) (g j) l (f j) rfl) (E j),λ τ Z H ρ lab De R W=>?_⟩;unfold fy at W;cases es:ρ[i]? with
 |none=>rw[es]at W;exact aV W
 |some s=>
  rw[es]at W;split at W
  .rename_i ds U
   cases U;rcases R.sl i _ es with z|⟨v,K,F⟩
   .cases z
   .obtain⟨G,n⟩:=F
    obtain⟨u,I,J⟩:=n rfl;subst I;obtain⟨_,xs,V,h,mm,r⟩:=G.lst_inv;cases V;refine⟨.ref u,K,.inl ⟨rfl,xs,cu.of h⟩,T τ Z H ρ lab _ R (W.bo.imp λ d _ w y X s2 Y=>?_)⟩;by_cases hz:ds.length<aQ
    .rw[if_pos hz]at w
     refine⟨u,xs,y,rfl,rfl,s2 _ _ h,by rw[r.length];exact hz,λ H3 B h3=>?_⟩;obtain⟨R',r'⟩:=R.fresh (P:=λ k=>k=1) rfl (λ k hk=>beq_iff_eq.mp (pa M k hk)) s2 Y;have A:(fF H 1 lab u).1=i+2:=by rw[ib h];exact J
     refine w Z H3 _ (R'.mut K (s2 _ _ h) rfl A B ⟨.lst h3 (.inr A) ?_,λ _=>⟨u,rfl,A⟩⟩);have ra:aM C.K (λ p=>((fF H 1 lab p).1=1\/(fF H 1 lab p).1=i+2)/\p≠u) X (xs++[y]) (ds++[d]):=by
      refine(r.mono s2 λ p o e z=>⟨by rw[ib e];exact z.1,z.2⟩).append (.cons (r'.wk λ p o e z=>⟨.inl z,λ q=>?_⟩) .nil);subst q;rw[A]at z;lia
     exact ra.but B (s2 _ _ h) rfl λ z=>z.2 rfl
    .rw[if_neg hz]at w
     exact aV w
  .exact aV W
noncomputable def qL(ll:jb):D->Option (Nat×List D)
 | .int n=>(hh ll.length n).bind λ j=>(ll[j]?).map λ ds=>(j,ds)
 |_=>none
noncomputable def ij(i:Nat)(f fe:af->ag D):af->aC:=λ ρ=>match ρ[i]? with
 |some (.o2 ll)=>(f ρ).bo λ k=>match qL ll k with
  |some (j,ds)=>(fe ρ).bo λ d=>if ds.length<aQ then .nx (ρ.set i (.o2 (ll.set j (ds++[d]))))else .st
  |none=>.st
 |_=>.st
def Vf(h:qL ll k=some (j,ds)):∃n,k= .int n/\hh ll.length n=some j/\ll[j]? =some ds:=by
 cases k with
 |int n=>
  simp only[qL,Option.bind_eq_some_iff]at h;simp_all
 |_=>cases h
def M8(i:Nat){J:Pos}(ha:aF C m a f)(he:aF C (some []) e fe)(hN:∀j,(C.X j).N[i]? =some x:=by z_go)(hv:∀j,hI (C.X j).env.scope x:=by x_go)(hd:Nd x:=by decide)
  (S:(x==("__classdict__":Str))=false:=by decide)(K:∀j,bf [e] (C.X j).env=[(false,eval e (C.X j).env)]:=by z_go)(ah:xk a:=by exact λ _ _=>rfl)
  (u:∀j,lT (.Subscript (.Name x p) a J) "append" (C.X j).env (eval (.Subscript (.Name x p) a J) (C.X j).env)=eval (.Subscript (.Name x p) a J) (C.X j).env:=by z_go)
  (L:∀j,((fW c (bf [e] (C.X j).env)).all (λ x=>!x.1)&&(ql c (qh [] (C.X j).env)).all (λ x=>x.1.isSome)&&decide ([e].length+([]:List iK).length+(if ([]:List iK).isEmpty then 0 else 1)<30))=true:=by z_go)
  (A:(b.endLine==c.line)=true:=by rfl)
  (T:∀j,i8 (.Call (.Attribute (.Subscript (.Name x p) a J) "append" b) [e] [] c) none pos.line (C.X j).env=pure false:=by z_go):
  hB C (.Expr (.Call (.Attribute (.Subscript (.Name x p) a J) "append" b) [e] [] c) pos) (ij i f fe):=by
 obtain⟨t,h1,h2⟩:=he;obtain⟨ta,a1,a2⟩:=ha;refine⟨rN (ux C.K "list" EZ (mM (ER C.K) (g8 i) ta) (gm t jX)),λ j=>rO (by rw[<-C.hK j];exact xl wM Ee Kp Mb (LW LZ (iO (hN j) (hv j) hd S) (a1 j) ah) (g9 (h1 j) kB (K j)) (u j) (L j) A (K j) rfl) (T j),λ τ Z H ρ lab De R W=>?_⟩;unfold ij at W;cases es:ρ[i]? with
 |none=>rw[es]at W;exact aV W
 |some s=>
  rw[es]at W;cases s with
  |o2 ll=>
   dsimp only at W;rcases R.sl i _ es with z|⟨v,ev,top,xs,rfl,U,M,X,N⟩
   .cases z
   .refine⟨.ref top,ev,a2 τ Z H ρ lab _ R (W.bo.imp λ k _ w kv D r r1=>?_)⟩
    cases V:qL ll k with
    |none=>rw[V]at w;exact aV w
    |some q=>
     obtain⟨j,ds⟩:=q;rw[V]at w;dsimp only at w;obtain⟨n,rfl,hj,E⟩:=Vf V;have ey:=r1.int_inv;subst ey;have Y:∃xj,xs[j]? =some xj:=by
      have:j<xs.length:=by rw[X];exact(fC.mp E).1
      exact⟨_,bP this⟩
     obtain⟨xj,F⟩:=Y;have hr:=N j xj ds F E;obtain⟨l,ys,e0,G,ml,rl⟩:=hr.lst_inv;cases e0;refine⟨top,xs,n,.ref l,rfl,rfl,cu.of (r _ _ U),by unfold l7;rw[X,hj];exact F,.inl ⟨rfl,ys,cu.of (r _ _ G)⟩,h2 τ Z D ρ lab _ (R.up r) (w.bo.imp λ d _ w y H2 s2 r2=>?_)⟩;by_cases hz:ds.length<aQ
     .rw[if_pos hz]at w
      have h:=r.trans s2;refine⟨l,ys,y,rfl,rfl,h _ _ G,by rw[rl.length];exact hz,λ H3 B h3=>?_⟩;have O:l≠top:=λ e=>by rw[e,M]at ml;cases ml
      let g:kD:=λ p=>match D p with
       |none=>(i+2,j+1)
       |some _=>lab p
      have I:∀{p o},D p=some o->g p=lab p:=λ{p o} e=>by show(match D p with|none=>_|some _=>_)=_;rw[e]
      have ln:∀{p},D p=none->g p=(i+2,j+1):=λ{p} e=>by show(match D p with|none=>_|some _=>_)=_;rw[e]
      have R':RR C.K C.G τ ρ Z H2 g:=((R.up r).relab (λ p o e=>I e) λ p ah=>by
       cases e:D p with
       |none=>exact(R.old.trans r).free e
       |some o=>rw[I e]at ah;exact R.new p ah).up s2
      have bE:g l=(i+2,j+1):=by rw[I (r _ _ G)];exact ml
      refine w Z H3 g (R'.mut ev (h _ _ G) rfl (by rw[bE]) B ⟨top,xs,rfl,B _ _ (ir O) (h _ _ U),by rw[I (r _ _ U)];exact M,by rw[kU];exact X,λ jj z dz f1 Q=>?_⟩);by_cases P:j=jj
      .subst P
       rw[F]at f1;cases f1;rw[pT (fC.mp E).1]at Q;cases Q;refine .lst h3 bE ?_;have ra:aM C.K (λ p=>g p=(i+2,j+1)/\p≠l) H2 (ys++[y]) (ds++[d]):=by
        refine(rl.mono h λ p o e z=>⟨by rw[I (r _ _ e)];exact z.1,z.2⟩).append (.cons (r2.wk λ p o e z=>?_) .nil);rcases z with z|z
        .exact⟨ln z,λ q=>by subst q;rw[r _ _ G]at z;cases z⟩
        .cases z
       exact ra.but B (h _ _ G) rfl λ z=>z.2 rfl
      .rw[oJ P]at Q
       refine((N jj z dz f1 Q).mono h (A':=λ p=>g p=(i+2,jj+1)) λ p o e q=>by rw[I (r _ _ e)];exact q).but B (h _ _ G) rfl λ q=>?_
       rw[bE]at q;simp only[Prod.mk.injEq]at q;lia
     .rw[if_neg hz]at w
      exact aV w
  |_=>exact aV W
end
mutual
def dE:D->D->Bool
 | .non,.non=>true
 | .bl a,.bl b=>a==b
 | .bl a,.int b=>(if a then 1 else 0)==b
 | .int a,.bl b=>a==(if b then 1 else 0)
 | .int a,.int b=>a==b
 | .str a,.str b=>a==b
 | .tup l,.tup m=>hP l m
 | .lst l,.lst m=>hP l m
 |_,_=>false
def hP:List D->List D->Bool
 |[],[]=>true
 |x::xs,y::ys=>dE x y&&hP xs ys
 |_,_=>false
end
mutual
def jE:D->Nat
 | .tup l=>gK l+1
 | .lst l=>gK l+1
 |_=>0
def gK:List D->Nat
 |[]=>0
 |d::r=>max (jE d) (gK r)
end
mutual
def cz:D->Bool
 | .tup l=>dS l
 | .lst l=>dS l
 | .dct _ _=>false
 | .set _=>false
 | .scr _=>false
 | .fn _=>false
 | .itm _ _=>false
 | .itx _ _=>false
 |_=>true
def dS:List D->Bool
 |[]=>true
 |d::r=>cz d&&dS r
end
mutual
theorem Ft:∀d:D,cz d=true->dE d d=true
 | .non,_=>by simp[dE]
 | .bl b,_=>by simp[dE]
 | .int i,_=>by simp[dE]
 | .str x,_=>by simp[dE]
 | .tup l,h=>by exact Fu l (by simpa[cz]using h)
 | .lst l,h=>by exact Fu l (by simpa[cz]using h)
 | .dct _ _,h=>by simp[cz]at h
 | .set _,h=>by simp[cz]at h
 | .scr _,h=>by simp[cz]at h
theorem Fu:∀l:List D,dS l=true->hP l l=true
 |[],_=>by simp[hP]
 |d::r,h=>by
  simp only[dS,cM]at h;simp only[hP,cM];exact⟨Ft d h.1,Fu r h.2⟩
end
structure lC(K:aB)(H:au)(s:ax):Prop where
 tup:∀{a:Addr} {xs:List V},bQ K H a xs->∃its:List Value,Vals xs its/\s.heap.IsTuple a its.toArray
 lst:∀{a:Addr} {xs:List V},H a=some (.lst xs)->∃its:List Value,Vals xs its/\s.heap.IsList a its.toArray
 inj:∀{a:Addr} {xs ys:List V},bQ K H a xs->bQ K H a ys->xs=ys
 ne:∀{a:Addr} {xs ys:List V},bQ K H a xs->H a=some (.lst ys)->False
def Inv.seqOk(I:L2.Inv X kQ Z H s):lC X.K H s where
 tup:=λ h=>let⟨i,r,p,_⟩:=I.tuple h;⟨_,r,p⟩
 lst:=λ h=>let⟨i,r,p,_⟩:=I.list (cu.of h);⟨i,r,p.isList⟩
 inj:=λ h h'=>I.tuple_inj h h'
 ne:=λ h h'=>by
  obtain⟨i,_,⟨o,e,c,_⟩,_⟩:=I.tuple h;obtain⟨t,_,⟨o2,n,a,b,_⟩,_⟩:=I.list (cu.of h');lia
section
variable{K:aB}{H:au}{s:ax}
def AU:D->Prop
 | .dct _ _=>False
 | .set _=>False
 | .scr _=>False
 | .fn _=>False
 | .itm _ _=>False
 | .itx _ _=>False
 |_=>True
def qM{d:D}(h:cz d=true):AU d:=by cases d<;>first|exact l4|(simp[cz]at h)
def iZ(h:cz (.dct a b)=true):False:=by simp[cz]at h
def pd(h:cz (.set a)=true):False:=by simp[cz]at h
def pe(h:cz (.scr a)=true):False:=by simp[cz]at h
def pf(h:cz (.fn a)=true):False:=by simp[cz]at h
def ph(h:cz (.itm o a)=true):False:=by simp[cz]at h
def pj(h:cz (.itx o a)=true):False:=by simp[cz]at h
def u3(h:cz (.tup a)=true):dS a=true:=by assumption
def u4(h:cz (.lst a)=true):dS a=true:=by assumption
def Br(h:dS (d::a)=true):cz d=true/\dS a=true:=by
 simp only[dS,cM]at h;assumption
def Fv(K:aB)(s:ax)(H:au)(x:V)(d:D):Prop:=lC K H s->∀(A':Addr->Prop) (e:D),aA K A' H x e->cz d=true->cz e=true->d=e
def Bs(K:aB)(s:ax)(H:au)(xs:List V)(ds:List D):Prop:=lC K H s->∀(A':Addr->Prop) (es:List D),aM K A' H xs es->dS ds=true->dS es=true->ds=es
def Vg(c:bQ K H a xs)(i:Bs K s H xs ds):Fv K s H (.ref a) (.tup ds):=λ ok A' e h d n=>by
 cases h with
 |tup b r=>
  have e:=ok.inj c b;subst e;rw[i ok _ _ r (u3 d) (u3 n)]
 |lst b _ _=>exact(ok.ne c b).elim
 |_=>exact aV (qM n)
def Vh(c:H a=some (.lst xs))(i:Bs K s H xs ds):Fv K s H (.ref a) (.lst ds):=λ ok A' e h d n=>by
 cases h with
 |tup b r=>exact(ok.ne b c).elim
 |lst b _ r=>
  rw[c]at b;cases b;rw[i ok _ _ r (u4 d) (u4 n)]
 |_=>exact aV (qM n)
def Vi(b:Fv K s H x d)(c:Bs K s H xs ds):Bs K s H (x::xs) (d::ds):=λ ok A' es h n a=>by
 cases h with
 |cons k r=>rw[b ok _ _ k (Br n).1 (Br a).1,c ok _ _ r (Br n).2 (Br a).2]
def aA.inj(ok:lC K H s)(r:aA K A H x d)(h:aA K A' H x e)(n:cz d=true)(b:cz e=true):d=e:=
 aA.rec
  (λ _ _ _ h _ _=>by cases h;rfl) (λ _ _ _ _ h _ _=>by cases h;rfl) (λ _ _ _ _ h _ _=>by cases h;rfl) (λ _ _ _ _ h _ _=>by cases h;rfl) (λ a _ i=>Vg a i) (λ a _ _ i=>Vh a i)
  (λ _ _ _ _ _ _ _ _ n _=>(iZ n).elim) (λ _ _ _ _ _ _ _ _ n _=>(iZ n).elim) (λ _ _ _ _ _ _ _ _ n _=>(pd n).elim) (λ _ _ _ _ _ n _=>(pe n).elim) (λ _ _ _ _ _ n _=>(pf n).elim) (λ _ _ _ _ _ n _=>(ph n).elim) (λ _ _ _ _ _ n _=>(pj n).elim)
  (λ _ _ _ h _ _=>by cases h;rfl) (λ _ _ c f=>Vi c f) r ok A' e h n b
end
theorem M9:∀(l m:List D),hP l m=((dY (min l.length m.length)).all (λ j=>match l[j]?,m[j]? with|some a,some b=>dE a b|_,_=>true)&&l.length==m.length)
 |[],[]=>by simp[hP]
 |[],y::ys=>by simp[hP]
 |x::xs,[]=>by simp[hP]
 |x::xs,y::ys=>by
  have i:=M9 xs ys;simp only[hP,i,g0,Nat.succ_min_succ,List.range_succ_eq_map,tO,zO,nD,CZ,Nat.add_one_inj,CV];simp
theorem Na:∀{l:List D} {d:D},d∈l->jE d<=gK l
 |x::r,d,h=>by
  rcases b8.mp h with rfl|h
  .exact JK _ _
  .exact fD (Na h) (JJ _ _)
theorem Fw:∀{l:List D} {d:D},d∈l->dS l=true->cz d=true
 |x::r,d,h,n=>by
  simp only[dS,cM]at n;rcases b8.mp h with rfl|h
  .exact n.1
  .exact Fw h n.2
def xH(h:n=ds.length)(c:m=es.length):((dY (min n m)).all (λ j=>match ds[j]?,es[j]? with|some a,some b=>dE a b|_,_=>true)&&n==m)=hP ds es:=by
 subst h c;exact(M9 ds es).symm
section
variable{K:aB}{H:au}{s:ax}
def Fx(K:aB)(H:au)(s:ax)(n:Nat):Prop:=∀(a b:Addr->Prop) (x y:V) (d e:D) (A:cg) (u v:Value),aA K a H x d->aA K b H y e->RelV x u->RelV y v->jE d<=n->cz d=true->cz e=true->A.units+n<cLine->nN A s u v (dE d e)
def Nb(K:aB)(H:au)(s:ax)(n:Nat):Prop:=∀(c d:Addr->Prop) (xs ys:List V) (ds es:List D) (A:cg) (u vs:List Value),aM K c H xs ds->aM K d H ys es->Vals xs u->Vals ys vs->gK ds<=n->dS ds=true->dS es=true->A.units+n<cLine->
  ∀(j:Nat) (h:j<u.toArray.size) (e:j<vs.toArray.size),nN A s u.toArray[j] vs.toArray[j] (match ds[j]?,es[j]? with|some a,some b=>dE a b|_,_=>true)
def Nc(ok:lC K H s)(n:Nat)(N:∀k,n=k+1->Nb K H s k):Fx K H s n:=by
 intro S T x y d e A u v R E F r O w c U;have h:A.units<cLine:=by lia
 induction R using aA.cs with
 |tup G B=>
  rename_i a xs ds;cases F;obtain⟨C,I,l⟩:=ok.tup G;induction E using aA.cs with
  |tup f q=>
   rename_i b ys es;cases r;obtain⟨j,D,t⟩:=ok.tup f;by_cases m:a=b
   .subst m
    have e:=aA.inj ok (aA.tup G B) (aA.tup f q) w c;rw[<-e,Ft _ w];exact El _
   .simp only[jE]at O
    obtain⟨k,rfl⟩:∃k,n=k+1:=⟨n-1,by lia⟩
    have z:=KM l t h (N k rfl _ _ _ _ _ _ _ _ _ B q I D (by lia) (u3 w) (u3 c) (by show A.units+1+k<cLine;lia));rw[xH (by rw[et,<-I.length,B.length]) (by rw[et,<-D.length,q.length])]at z;simp only[dE];exact Ek m z
  |lst f o q=>
   cases r;obtain⟨j,D,t⟩:=ok.lst f;simp only[dE];exact SeqAt.EqAt.tuple_list l t h
  |non=>cases r;exact SeqAt.EqAt.tuple_none l h
  |bl b=>cases r;exact SeqAt.EqAt.tuple_bool b l h
  |int i=>obtain⟨g,rfl⟩:=r;exact SeqAt.EqAt.tuple_int i g l h
  |str i=>obtain⟨g,rfl⟩:=r;exact SeqAt.EqAt.tuple_str i g l h
  |_=>exact aV (qM c)
 |lst G M B=>
  rename_i a xs ds;cases F;obtain⟨C,I,l⟩:=ok.lst G;induction E using aA.cs with
  |lst f o q=>
   rename_i b ys es;cases r;obtain⟨j,D,t⟩:=ok.lst f;by_cases m:a=b
   .subst m
    have e:=aA.inj ok (aA.lst G M B) (aA.lst f o q) w c;rw[<-e,Ft _ w];exact El _
   .simp only[jE]at O
    obtain⟨k,rfl⟩:∃k,n=k+1:=⟨n-1,by lia⟩
    have P:C.toArray.size=ds.length:=by rw[et,<-I.length,B.length]
    have Q:j.toArray.size=es.length:=by rw[et,<-D.length,q.length]
    by_cases L:C.toArray.size=j.toArray.size
    .have z:=KN l t L h (N k rfl _ _ _ _ _ _ _ _ _ B q I D (by lia) (u4 w) (u4 c) (by show A.units+1+k<cLine;lia))
     have J:=xH (ds:=ds) (es:=es) P Q;rw[<-L,zX,beq_self_eq_true,mB]at J;rw[J]at z;simp only[dE];exact Ek m z
    .have z:=KL l t (by simpa using L) h
     have J:=xH (ds:=ds) (es:=es) P Q;rw[beq_eq_false_iff_ne.mpr L,zk]at J;simp only[dE];rw[<-J];exact Ek m z
  |tup f q=>
   cases r;obtain⟨j,D,t⟩:=ok.tup f;simp only[dE];exact SeqAt.EqAt.list_tuple l t h
  |non=>cases r;exact SeqAt.EqAt.list_none l h
  |bl b=>cases r;exact SeqAt.EqAt.list_bool b l h
  |int i=>obtain⟨g,rfl⟩:=r;exact SeqAt.EqAt.list_int i g l h
  |str i=>obtain⟨g,rfl⟩:=r;exact SeqAt.EqAt.list_str i g l h
  |_=>exact aV (qM c)
 |non=>
  cases F;induction E using aA.cs with
  |tup f q=>cases r;obtain⟨_,_,t⟩:=ok.tup f;exact SeqAt.EqAt.none_tuple t h
  |lst f o q=>cases r;obtain⟨_,_,t⟩:=ok.lst f;exact SeqAt.EqAt.none_list t h
  |dK _ _ _=>exact(iZ c).elim
  |dT _ _ _=>exact(iZ c).elim
  |set _ _ _ _=>exact(pd c).elim
  |scr _=>exact(pe c).elim
  |fn _=>exact(pf c).elim
  |itm _=>exact(ph c).elim
  |itx _=>exact(pj c).elim
  |non=>cases r;exact El _
  |bl b=>cases r;exact SeqAt.EqAt.none_bool b
  |int i=>obtain⟨g,rfl⟩:=r;exact SeqAt.EqAt.none_int i g
  |str i=>obtain⟨g,rfl⟩:=r;exact SeqAt.EqAt.none_str i g
 |bl a=>
  cases F;induction E using aA.cs with
  |tup f q=>cases r;obtain⟨_,_,t⟩:=ok.tup f;exact SeqAt.EqAt.bool_tuple a t h
  |lst f o q=>cases r;obtain⟨_,_,t⟩:=ok.lst f;exact SeqAt.EqAt.bool_list a t h
  |dK _ _ _=>exact(iZ c).elim
  |dT _ _ _=>exact(iZ c).elim
  |set _ _ _ _=>exact(pd c).elim
  |scr _=>exact(pe c).elim
  |fn _=>exact(pf c).elim
  |itm _=>exact(ph c).elim
  |itx _=>exact(pj c).elim
  |non=>cases r;exact SeqAt.EqAt.bool_none a
  |bl b=>cases r;exact SeqAt.EqAt.bool_bool a b
  |int i=>obtain⟨g,rfl⟩:=r;exact SeqAt.EqAt.bool_int a i g
  |str i=>obtain⟨g,rfl⟩:=r;exact SeqAt.EqAt.bool_str a i g
 |int a=>
  obtain⟨p,rfl⟩:=F;induction E using aA.cs with
  |tup f q=>cases r;obtain⟨_,_,t⟩:=ok.tup f;exact SeqAt.EqAt.int_tuple a p t h
  |lst f o q=>cases r;obtain⟨_,_,t⟩:=ok.lst f;exact SeqAt.EqAt.int_list a p t h
  |dK _ _ _=>exact(iZ c).elim
  |dT _ _ _=>exact(iZ c).elim
  |set _ _ _ _=>exact(pd c).elim
  |scr _=>exact(pe c).elim
  |fn _=>exact(pf c).elim
  |itm _=>exact(ph c).elim
  |itx _=>exact(pj c).elim
  |non=>cases r;exact SeqAt.EqAt.int_none a p
  |bl b=>cases r;exact SeqAt.EqAt.int_bool a p b
  |int i=>obtain⟨g,rfl⟩:=r;exact KH a p i g
  |str i=>obtain⟨g,rfl⟩:=r;exact KI a p i g
 |str a=>
  obtain⟨p,rfl⟩:=F;induction E using aA.cs with
  |tup f q=>cases r;obtain⟨_,_,t⟩:=ok.tup f;exact SeqAt.EqAt.str_tuple a p t h
  |lst f o q=>cases r;obtain⟨_,_,t⟩:=ok.lst f;exact SeqAt.EqAt.str_list a p t h
  |dK _ _ _=>exact(iZ c).elim
  |dT _ _ _=>exact(iZ c).elim
  |set _ _ _ _=>exact(pd c).elim
  |scr _=>exact(pe c).elim
  |fn _=>exact(pf c).elim
  |itm _=>exact(ph c).elim
  |itx _=>exact(pj c).elim
  |non=>cases r;exact SeqAt.EqAt.str_none a p
  |bl b=>cases r;exact SeqAt.EqAt.str_bool a p b
  |int i=>obtain⟨g,rfl⟩:=r;exact KJ a p i g
  |str i=>obtain⟨g,rfl⟩:=r;exact SeqAt.EqAt.str_str a p i g
 |_=>exact aV (qM w)
def Nf(ok:lC K H s)(n:Nat)(I:Fx K H s n):Nb K H s n:=by
 intro J L xs ys ds es A c vs q i w f k l m o j p r;have h:j<c.length:=by simpa using p
 have a:j<vs.length:=by simpa using r
 have t:j<xs.length:=by rw[w.length];exact h
 have z:j<ys.length:=by rw[f.length];exact a
 have x:=bP t;have y:=bP z;obtain⟨d,b,B⟩:=q.get x;obtain⟨e,g,C⟩:=i.get y;obtain⟨u,M,D⟩:=w.get x;obtain⟨v,N,E⟩:=f.get y;have F:c.toArray[j]=u:=by simp_all
 have G:vs.toArray[j]=v:=by simp_all
 rw[F,G,b,g];exact I _ _ _ _ _ _ _ _ _ B C D E (fD (Na (jK b)) k) (Fw (jK b) l) (Fw (jK g) m) o
theorem Fy(ok:lC K H s):∀n,Fx K H s n
 |0=>Nc ok 0 λ k h=>absurd h (by simp)
 |n+1=>Nc ok _ λ k h=>by
  have h':=JL h;subst h';exact Nf ok n (Fy ok n)
def Vj(ok:lC K H s):∀{a b:Addr->Prop} {x y:V} {d e:D} (n:Nat) {A:cg} {u v:Value},aA K a H x d->aA K b H y e->RelV x u->RelV y v->jE d<=n->cz d=true->cz e=true->A.units+n<cLine->nN A s u v (dE d e)
 |_,_,_,_,_,_,n,A,u,v,r,c,f,g,h,i,j,k=>Fy ok n _ _ _ _ _ _ _ _ _ r c f g h i j k
def Ng(ok:lC K H s):∀{d e:Addr->Prop} {xs ys:List V} {ds es:List D} (n:Nat) {A:cg} {u vs:List Value},aM K d H xs ds->aM K e H ys es->Vals xs u->Vals ys vs->gK ds<=n->dS ds=true->dS es=true->A.units+n<cLine->
  ∀(j:Nat) (h:j<u.toArray.size) (c:j<vs.toArray.size),nN A s u.toArray[j] vs.toArray[j] (match ds[j]?,es[j]? with|some a,some b=>dE a b|_,_=>true)
 |_,_,xs,ys,ds,es,n,A,u,vs,q,f,w,g,i,k,l,m,j,h,c=>Nf ok n (Fy ok n) _ _ _ _ _ _ _ _ _ q f w g i k l m j h c
def Nh(ok:lC K H s)(n:Nat)(O:aA K A1 H x d)(B:aA K A2 H y e)(C:RelV x u)(r:RelV y v)(N:jE d<=n)(L:cz d=true)(f:cz e=true)(S:A.units+n<cLine):
  SeqAt.RcAt A s u v (dE d e)/\SeqAt.RcNeAt A s u v (!dE d e):=by
 have h:A.units<cLine:=by lia
 induction O using aA.cs with
 |tup M E=>
  rename_i a xs ds;cases C;obtain⟨p,F,g⟩:=ok.tup M;induction B using aA.cs with
  |tup l q=>
   rename_i b ys es;cases r;obtain⟨m,w,t⟩:=ok.tup l;simp only[jE]at N;obtain⟨k,rfl⟩:∃k,n=k+1:=⟨n-1,by lia⟩
   have G:=Ng ok (A:=A.in1) k E q F w (by lia) (u3 L) (u3 f) (by show A.units+1+k<cLine;lia);have z:=KM g t h G;have I:=SeqAt.RcNeAt.tuples g t h G;rw[xH (by rw[et,<-F.length,E.length]) (by rw[et,<-w.length,q.length])]at z I;simp only[dE];exact⟨z,I⟩
  |lst l o q=>
   cases r;obtain⟨m,w,t⟩:=ok.lst l;simp only[dE];exact⟨SeqAt.RcAt.tuple_list g t h,SeqAt.RcNeAt.tuple_list g t h⟩
  |non=>cases r;exact⟨SeqAt.RcAt.tuple_none g h,SeqAt.RcNeAt.tuple_none g h⟩
  |bl b=>cases r;exact⟨SeqAt.RcAt.tuple_bool b g h,SeqAt.RcNeAt.tuple_bool b g h⟩
  |int i=>obtain⟨c,rfl⟩:=r;exact⟨SeqAt.RcAt.tuple_int i c g h,SeqAt.RcNeAt.tuple_int i c g h⟩
  |str i=>obtain⟨c,rfl⟩:=r;exact⟨SeqAt.RcAt.tuple_str i c g h,SeqAt.RcNeAt.tuple_str i c g h⟩
  |_=>exact aV (qM f)
 |lst M P E=>
  rename_i a xs ds;cases C;obtain⟨p,F,g⟩:=ok.lst M;induction B using aA.cs with
  |lst l o q=>
   rename_i b ys es;cases r;obtain⟨m,w,t⟩:=ok.lst l;simp only[jE]at N;obtain⟨k,rfl⟩:∃k,n=k+1:=⟨n-1,by lia⟩
   have Q:p.toArray.size=ds.length:=by rw[et,<-F.length,E.length]
   have R:m.toArray.size=es.length:=by rw[et,<-w.length,q.length]
   have J:=xH (ds:=ds) (es:=es) Q R;by_cases D:p.toArray.size=m.toArray.size
   .have G:=Ng ok (A:=A.in1) k E q F w (by lia) (u4 L) (u4 f) (by show A.units+1+k<cLine;lia)
    have z:=KN g t D h G;have I:=SeqAt.RcNeAt.lists g t D h G;rw[<-D,zX,beq_self_eq_true,mB]at J;rw[J]at z I;simp only[dE];exact⟨z,I⟩
   .rw[beq_eq_false_iff_ne.mpr D,zk]at J
    simp only[dE];rw[<-J];exact⟨KL g t (by simpa using D) h,SeqAt.RcNeAt.lists_lengths g t (by simpa using D) h⟩
  |tup l q=>
   cases r;obtain⟨m,w,t⟩:=ok.tup l;simp only[dE];exact⟨SeqAt.RcAt.list_tuple g t h,SeqAt.RcNeAt.list_tuple g t h⟩
  |non=>cases r;exact⟨SeqAt.RcAt.list_none g h,SeqAt.RcNeAt.list_none g h⟩
  |bl b=>cases r;exact⟨SeqAt.RcAt.list_bool b g h,SeqAt.RcNeAt.list_bool b g h⟩
  |int i=>obtain⟨c,rfl⟩:=r;exact⟨SeqAt.RcAt.list_int i c g h,SeqAt.RcNeAt.list_int i c g h⟩
  |str i=>obtain⟨c,rfl⟩:=r;exact⟨SeqAt.RcAt.list_str i c g h,SeqAt.RcNeAt.list_str i c g h⟩
  |_=>exact aV (qM f)
 |non=>
  cases C;induction B using aA.cs with
  |tup l q=>cases r;obtain⟨_,_,t⟩:=ok.tup l;exact⟨SeqAt.RcAt.none_tuple t h,SeqAt.RcNeAt.none_tuple t h⟩
  |lst l o q=>cases r;obtain⟨_,_,t⟩:=ok.lst l;exact⟨SeqAt.RcAt.none_list t h,SeqAt.RcNeAt.none_list t h⟩
  |dK _ _ _=>exact(iZ f).elim
  |dT _ _ _=>exact(iZ f).elim
  |set _ _ _ _=>exact(pd f).elim
  |scr _=>exact(pe f).elim
  |fn _=>exact(pf f).elim
  |itm _=>exact(ph f).elim
  |itx _=>exact(pj f).elim
  |non=>cases r;exact⟨SeqAt.RcAt.none_none,SeqAt.RcNeAt.none_none⟩
  |bl b=>cases r;exact⟨SeqAt.RcAt.none_bool b,SeqAt.RcNeAt.none_bool b⟩
  |int i=>obtain⟨c,rfl⟩:=r;exact⟨SeqAt.RcAt.none_int i c,SeqAt.RcNeAt.none_int i c⟩
  |str i=>obtain⟨c,rfl⟩:=r;exact⟨SeqAt.RcAt.none_str i c,SeqAt.RcNeAt.none_str i c⟩
 |bl a=>
  cases C;induction B using aA.cs with
  |tup l q=>cases r;obtain⟨_,_,t⟩:=ok.tup l;exact⟨SeqAt.RcAt.bool_tuple a t h,SeqAt.RcNeAt.bool_tuple a t h⟩
  |lst l o q=>cases r;obtain⟨_,_,t⟩:=ok.lst l;exact⟨SeqAt.RcAt.bool_list a t h,SeqAt.RcNeAt.bool_list a t h⟩
  |dK _ _ _=>exact(iZ f).elim
  |dT _ _ _=>exact(iZ f).elim
  |set _ _ _ _=>exact(pd f).elim
  |scr _=>exact(pe f).elim
  |fn _=>exact(pf f).elim
  |itm _=>exact(ph f).elim
  |itx _=>exact(pj f).elim
  |non=>cases r;exact⟨SeqAt.RcAt.bool_none a,SeqAt.RcNeAt.bool_none a⟩
  |bl b=>cases r;exact⟨SeqAt.RcAt.bool_bool a b,SeqAt.RcNeAt.bool_bool a b⟩
  |int i=>obtain⟨c,rfl⟩:=r;exact⟨SeqAt.RcAt.bool_int a i c,SeqAt.RcNeAt.bool_int a i c⟩
  |str i=>obtain⟨c,rfl⟩:=r;exact⟨SeqAt.RcAt.bool_str a i c,SeqAt.RcNeAt.bool_str a i c⟩
 |int a=>
  obtain⟨j,rfl⟩:=C;induction B using aA.cs with
  |tup l q=>cases r;obtain⟨_,_,t⟩:=ok.tup l;exact⟨SeqAt.RcAt.int_tuple a j t h,SeqAt.RcNeAt.int_tuple a j t h⟩
  |lst l o q=>cases r;obtain⟨_,_,t⟩:=ok.lst l;exact⟨SeqAt.RcAt.int_list a j t h,SeqAt.RcNeAt.int_list a j t h⟩
  |dK _ _ _=>exact(iZ f).elim
  |dT _ _ _=>exact(iZ f).elim
  |set _ _ _ _=>exact(pd f).elim
  |scr _=>exact(pe f).elim
  |fn _=>exact(pf f).elim
  |itm _=>exact(ph f).elim
  |itx _=>exact(pj f).elim
  |non=>cases r;exact⟨SeqAt.RcAt.int_none a j,SeqAt.RcNeAt.int_none a j⟩
  |bl b=>cases r;exact⟨SeqAt.RcAt.int_bool a j b,SeqAt.RcNeAt.int_bool a j b⟩
  |int i=>obtain⟨c,rfl⟩:=r;exact⟨SeqAt.RcAt.int_int a j i c,SeqAt.RcNeAt.int_int a j i c⟩
  |str i=>obtain⟨c,rfl⟩:=r;exact⟨SeqAt.RcAt.int_str a j i c,SeqAt.RcNeAt.int_str a j i c⟩
 |str a=>
  obtain⟨j,rfl⟩:=C;induction B using aA.cs with
  |tup l q=>cases r;obtain⟨_,_,t⟩:=ok.tup l;exact⟨SeqAt.RcAt.str_tuple a j t h,SeqAt.RcNeAt.str_tuple a j t h⟩
  |lst l o q=>cases r;obtain⟨_,_,t⟩:=ok.lst l;exact⟨SeqAt.RcAt.str_list a j t h,SeqAt.RcNeAt.str_list a j t h⟩
  |dK _ _ _=>exact(iZ f).elim
  |dT _ _ _=>exact(iZ f).elim
  |set _ _ _ _=>exact(pd f).elim
  |scr _=>exact(pe f).elim
  |fn _=>exact(pf f).elim
  |itm _=>exact(ph f).elim
  |itx _=>exact(pj f).elim
  |non=>cases r;exact⟨SeqAt.RcAt.str_none a j,SeqAt.RcNeAt.str_none a j⟩
  |bl b=>cases r;exact⟨SeqAt.RcAt.str_bool a j b,SeqAt.RcNeAt.str_bool a j b⟩
  |int i=>obtain⟨c,rfl⟩:=r;exact⟨SeqAt.RcAt.str_int a j i c,SeqAt.RcNeAt.str_int a j i c⟩
  |str i=>obtain⟨c,rfl⟩:=r;exact⟨SeqAt.RcAt.str_str a j i c,SeqAt.RcNeAt.str_str a j i c⟩
 |_=>exact aV (qM L)
end
section
variable{K:aB}{H:au}{s:ax}
open Classical in
def kH(K:aB)(H:au)(d:D)(u:Value):Bool:=if h:∃e,cz e=true/\∃y,RelV y u/\aA K (λ _=>True) H y e then dE (choose h) d else false
def Ni(ok:lC K H s)(r:RelV y u)(h:aA K A H y e)(n:cz e=true):kH K H d u=dE e d:=by
 have x:∃e,cz e=true/\∃y,RelV y u/\aA K (λ _=>True) H y e:=⟨e,n,y,r,h.wk λ _ _ _ _=>trivial⟩
 unfold kH;rw[dif_pos x];obtain⟨a,f,b,h'⟩:=Classical.choose_spec x;have c:=RelV.inj r b;subst c;rw[aA.inj ok h' h a n]
noncomputable def nf(d:D)(es:List D):Bool:=es.any λ e=>dE e d
def Bt(ok:lC K H s):∀{A:Addr->Prop} {xs:List V} {es:List D} {u:List Value},aM K A H xs es->Vals xs u->dS es=true->u.any (kH K H d)=nf d es:=by
 intro A xs es u h v n;induction v generalizing es with
 |nil=>cases h;rfl
 |cons k t i=>
  cases h with
  |cons h r=>
   simp only[dS,cM]at n;rw[wh,Ni ok k h n.1,i r n.2];rfl
def Bu(ok:lC K H s)(f:aA K A0 H x d)(g:RelV x v)(i:A.units+n<cLine)(j:cz d=true):∀{b:Addr->Prop} {xs:List V} {es:List D} {a:List Value},aM K b H xs es->Vals xs a->gK es<=n->dS es=true->∀u∈a,nN A s u v (kH K H d u):=by
 intro b xs es a h l c e u m;induction l generalizing es with
 |nil=>simp_all
 |cons k t o=>
  cases h with
  |cons h r=>
   simp only[dS,cM]at e;rcases b8.mp m with z|z
   .subst z
    rw[Ni ok k h e.1];exact Vj ok n h f k g (fD (JK _ _) c) e.1 j i
   .exact o r (fD (JJ _ _) c) e.2 z
end
section
variable{X:aZ}
def xI(K:aB)(n:Bool):bA:=λ x y H Q=>∃A B d e,aA K A H x d/\aA K B H y e/\jE d<=60/\cz d=true/\cz e=true/\Q (.bl (if n then !dE d e else dE d e)) H
def Vk(i:X.A.units+64<cLine):bT X (dP .Eq) (xI X.K false):=by
 intro k s Z H x y v u Q I r a h;obtain⟨A,B,d,e,b,c,f,n,g,q⟩:=h;exact(Nh (Inv.seqOk I) 60 b c r a f n g (by lia)).1 _ _ _ _ ⟨.bl _,H,I,rfl,q⟩
def Vl(i:X.A.units+64<cLine):bT X (dP .NotEq) (xI X.K true):=by
 intro k s Z H x y v u Q I r a h;obtain⟨A,B,d,e,b,c,f,n,g,q⟩:=h;exact(Nh (Inv.seqOk I) 60 b c r a f n g (by lia)).2 _ _ _ _ ⟨.bl _,H,I,rfl,q⟩
def xJ(K:aB)(n:Bool):bA:=λ x y H Q=>∃A B d a es,aA K A H x d/\y= .ref a/\(aA K B H (.ref a) (.lst es)\/aA K B H (.ref a) (.tup es))/\gK es<=60/\cz d=true/\dS es=true/\Q (.bl (if n then !nf d es else nf d es)) H
def Vm(z:X.A.units+64<cLine):bT X (dP .In) (xJ X.K false):=by
 intro C s Z H x y v u Q I k p h;obtain⟨A,B,d,a,es,l,rfl,b,m,o,n,q⟩:=h;cases p;have ok:=Inv.seqOk I;have c:X.A.in1.units+60<cLine:=by lia
 rcases b with b|b
 .obtain⟨_,_,f,g,_,r⟩:=b.lst_inv
  cases f;obtain⟨i,e,t⟩:=ok.lst g;refine SeqAt.in_listAt _ t (λ w j=>Bu ok l k c o r e m n w (by simpa using j)) ⟨.bl _,H,I,rfl,?_⟩;rw[show i.toArray.any (kH X.K H d)=i.any (kH X.K H d)by simp,Bt ok r e n];exact q
 .obtain⟨_,_,f,g,r⟩:=b.tup_inv
  cases f;obtain⟨i,e,t⟩:=ok.tup g;refine SeqAt.in_tupleAt (kH X.K H d) t (λ w j=>Bu ok l k c o r e m n w (by simpa using j)) ⟨.bl _,H,I,rfl,?_⟩;rw[show i.toArray.any (kH X.K H d)=i.any (kH X.K H d)by simp,Bt ok r e n];exact q
def Vn(z:X.A.units+64<cLine):bT X (dP .NotIn) (xJ X.K true):=by
 intro C s Z H x y v u Q I j p h;obtain⟨A,B,d,a,es,k,rfl,b,l,m,n,q⟩:=h;cases p;have ok:=Inv.seqOk I;have c:X.A.in1.units+60<cLine:=by grind
 rcases b with b|b
 .obtain⟨_,_,f,g,_,r⟩:=b.lst_inv
  cases f;obtain⟨i,e,t⟩:=ok.lst g;refine SeqAt.notIn_listAt _ t (λ w o=>Bu ok k j c m r e l n w (by simp_all)) ⟨.bl _,H,I,rfl,?_⟩;rw[show i.toArray.any (kH X.K H d)=i.any (kH X.K H d)by simp,Bt ok r e n];exact q
 .obtain⟨_,_,f,g,r⟩:=b.tup_inv
  cases f;obtain⟨i,e,t⟩:=ok.tup g;refine SeqAt.notIn_tupleAt (kH X.K H d) t (λ w o=>Bu ok k j c m r e l n w (by simpa using o)) ⟨.bl _,H,I,rfl,?_⟩;rw[show i.toArray.any (kH X.K H d)=i.any (kH X.K H d)by simp,Bt ok r e n];exact q
end
section
variable{K:aB}
noncomputable def b9(n:Bool):D->D->ag D:=λ d e=>if decide (jE d<=60)&&cz d&&cz e then .ok (.bl (if n then !dE d e else dE d e))else .st
noncomputable def eI(n:Bool):D->D->ag D:=λ d e=>match e with
 | .lst es=>if decide (gK es<=60)&&cz d&&dS es then .ok (.bl (if n then !nf d es else nf d es))else .st
 | .tup es=>if decide (gK es<=60)&&cz d&&dS es then .ok (.bl (if n then !nf d es else nf d es))else .st
 |_=>.st
def os_eq:gf K (xI K n) (b9 n):=by
 intro A x y d e H Q z r b a q;unfold b9 at a;split at a
 .rename_i h
  simp only[cM,decide_eq_true_eq]at h;cases a;exact⟨A,A,d,e,r,b,h.1.1,h.1.2,h.2,q _ H (aU.refl H) (.bl _)⟩
 lia
def Fz:gf K (xJ K n) (eI n):=by
 intro A x y d e H Q z f g a q;unfold eI at a;split at a
 .split at a
  .rename_i h
   simp only[cM,decide_eq_true_eq]at h;cases a;obtain⟨_,_,b,c,m,r⟩:=g.lst_inv;cases b;exact⟨A,A,d,_,_,f,rfl,.inl (.lst c m r),h.1.1,h.1.2,h.2,q _ H (aU.refl H) (.bl _)⟩
  .cases a
 .split at a
  .rename_i h
   simp only[cM,decide_eq_true_eq]at h;cases a;obtain⟨_,_,b,c,r⟩:=g.tup_inv;cases b;exact⟨A,A,d,_,_,f,rfl,.inr (.tup c r),h.1.1,h.1.2,h.2,q _ H (aU.refl H) (.bl _)⟩
  .cases a
 simp_all
def Nj:∀x y z,b9 n x y= .ok z->imm z=true:=by
 intro x y z e;unfold b9 at e;split at e
 .cases e;rfl
 lia
def Vo:∀x y z,eI n x y= .ok z->imm z=true:=by
 intro x y z e;unfold eI at e;split at e
 .split at e
  .cases e;rfl
  grind
 .split at e
  .cases e;rfl
  grind
 grind
end
section
variable{K:aB}
noncomputable def boolsOf:List D->Option (List Bool)
 |[]=>some []
 | .bl i::r=>(boolsOf r).map (i::·)
 |_=>none
theorem Nk:∀{l:List D} {ns:List Bool},boolsOf l=some ns->l=ns.map .bl
 |[],ns,h=>by cases h;rfl
 | .bl i::r,ns,h=>by
  simp only[boolsOf,zZ]at h;obtain⟨m,a,rfl⟩:=h;rw[Nk a];rfl
 | .non::_,_,h=>by cases h
 | .int _::_,_,h=>by cases h
 | .str _::_,_,h=>by cases h
 | .tup _::_,_,h=>by cases h
 | .lst _::_,_,h=>by cases h
 | .dct _ _::_,_,h=>by cases h
 | .set _::_,_,h=>by cases h
 | .scr _::_,_,h=>by cases h
theorem Nl:∀ns:List Bool,boolsOf (ns.map .bl)=some ns
 |[]=>rfl
 |n::ns=>by simp only[bu,boolsOf,Nl ns,qe]
theorem Nm{X:aZ}:∀{bs:List Bool} {u:List Value},Vals (bs.map V.bl) u->LSm.BoolsAre u bs
 |[],_,.nil=>.nil
 |b::bs,_,.cons r t=>by
  have e:=r;subst e;exact .cons b (Nm (X:=X) t)
theorem aM.bools_of:∀{xs:List V} {bs:List Bool},aM K A H xs (bs.map D.bl)->xs=bs.map V.bl
 |_,[],.nil=>rfl
 |_,n::ns,.cons h r=>by
  cases h;rw[bu,aM.bools_of r]
noncomputable def ik(f:List Bool->Bool):List D->ag D
 |[.lst l]=>match boolsOf l with
  |some bs=>.ok (.bl (f bs))
  |none=>.st
 |_=>.st
def Vp{X:aZ}(f:X.calm=true):fM X (.builtin "all") (λ xs H Q=>∃(p:Addr) (bs:List Bool),xs=[.ref p]/\H p=some (.lst (bs.map V.bl))/\Q (.bl (bs.all id)) H):=by
 intro m s Z H xs n Q I r h;obtain⟨p,bs,rfl,ah,q⟩:=h;obtain⟨u,rfl,g⟩:=vals1 r;cases g;obtain⟨t,j,pl,hz⟩:=I.list (cu.of ah);have c:=Nm (X:=X) j;have l:=pl.isList;have a:p<s.heap.objs.size:=by obtain⟨_,e,_⟩:=l;exact cb e
 refine call_all_walk (Ae l ?_);refine⟨s.heap.objs.size,_,_,t.toArray.size,_,_,λ i=>(bs[i]?).getD true,rfl,Ey (A:=X.A.in1) (I.ok.hd f) _ p (cC a) t.toArray,
  ⟨⟨_,dy _ rfl,rfl,rfl⟩,l.push _⟩,λ i v s' o E P d=>?_,λ h' w k=>?_⟩
 .obtain⟨b,e,rfl⟩:=c.get i v (by simpa using P)
  simp only[e,Option.getD_some]at d;exact qg d
 .have e:((dY t.toArray.size).all λ i=>(bs[i]?).getD true)=bs.all id:=by
   rw[et,c.length];exact LSm.range_all bs
  rw[e];exact⟨.bl _,H,I.kept (LSm.kept_iter k),rfl,q⟩
def Vq:nT K (λ xs H Q=>∃(p:Addr) (bs:List Bool),xs=[.ref p]/\H p=some (.lst (bs.map V.bl))/\Q (.bl (f bs)) H) (ik f):=by
 intro A xs ds H Q z r a q;unfold ik at a;split at a
 .split at a
  .rename_i l bs e
   cases a
   have:=Nk e
   subst this;cases r with
   |cons h r=>
    cases r;replace h:=h.lst_inv;obtain⟨_,_,b,h,m,r⟩:=h;cases b
    have:=r.bools_of
    subst this;exact⟨_,bs,rfl,h,q _ H (aU.refl H) (.bl _)⟩
  simp_all
 simp_all
def Vr:∀x z,ik f x= .ok z->imm z=true:=by
 intro x z e;unfold ik at e;split at e
 .split at e
  .cases e;rfl
  simp_all
 lia
noncomputable def pk(f:Int->Int->Int):List D->ag D
 |[.int i,.int j]=>.ok (.int (f i j))
 |_=>.st
def Nn:nT K (λ xs H Q=>∃i j,xs=[.int i,.int j]/\Q (.int (f i j)) H) (pk f):=by
 intro A xs ds H Q z r e q;unfold pk at e;split at e
 .cases e
  cases r with
  |cons h r=>
   cases h;cases r with
   |cons h r=>
    cases h;cases r;exact⟨_,_,rfl,q _ H (aU.refl H) (.int _)⟩
 simp_all
def Np:∀x z,pk f x= .ok z->imm z=true:=by
 intro x z e;unfold pk at e;split at e
 .cases e;rfl
 lia
noncomputable def gT:List D->ag D
 |[.lst l]=>.ok (.tup l)
 |[.tup l]=>.ok (.tup l)
 |_=>.st
def qS:List D->ag D
 |[.lst l]=>.ok (.lst l)
 |[.tup l]=>.ok (.lst l)
 |_=>.st
def Vs:nT K (λ xs H Q=>∃p ys,xs=[.ref p]/\((cu K H p ys/\∀l,H l=none->Q (.ref l) (bt H l (.tup ys)))\/(bQ K H p ys/\Q (.ref p) H))) gT:=by
 intro A xs ds H Q z r e q;unfold gT at e;split at e
 .cases e
  cases r with
  |cons h r=>
   cases r;replace h:=h.lst_inv;obtain⟨_,_,a,h,m,r⟩:=h;cases a;exact⟨_,_,rfl,.inl ⟨cu.of h,λ l b=>q _ _ (eM b _) (.tup (bQ.of dQ) ((r.wk λ _ _ _ z=>.inr z.1).up (eM b _)))⟩⟩
 .cases e
  cases r with
  |cons h r=>
   cases r;replace h:=h.tup_inv;obtain⟨_,_,a,h,r⟩:=h;cases a;exact⟨_,_,rfl,.inr ⟨h,q _ H (aU.refl H) (.tup h (r.wk λ _ _ _ z=>.inr z))⟩⟩
 lia
def Vt:nT K (λ xs H Q=>∃p ys,xs=[.ref p]/\(cu K H p ys\/bQ K H p ys)/\∀l,H l=none->Q (.ref l) (bt H l (.lst ys))) qS:=by
 intro A xs ds H Q z r b q;unfold qS at b;split at b
 .cases b
  cases r with
  |cons h r=>
   cases r;replace h:=h.lst_inv;obtain⟨_,_,c,h,m,r⟩:=h;cases c;exact⟨_,_,rfl,.inl (cu.of h),λ l a=>q _ _ (eM a _) (.lst dQ (.inl a) ((r.wk λ p o e z=>⟨.inr z.1,λ d=>by simp_all⟩).up (eM a _)))⟩
 .cases b
  cases r with
  |cons h r=>
   cases r;replace h:=h.tup_inv;obtain⟨_,_,c,h,r⟩:=h;cases c;exact⟨_,_,rfl,.inr h,λ l a=>q _ _ (eM a _) (.lst dQ (.inl a) ((r.wk λ p o e z=>⟨.inr z,λ d=>by grind⟩).up (eM a _)))⟩
 .cases b
end
noncomputable def cutD(l:List D)(o h:Option Int):List D:=(l.drop (HT.sIx l.length 0 o)).take (HT.sIx l.length l.length h-HT.sIx l.length 0 o)
def aM.cut{K:aB}(r:aM K A H xs ds)(l h:Option Int):aM K A H (nS xs l h) (cutD ds l h):=by
 unfold nS cutD;rw[r.length];exact(r.drop _).take _
noncomputable def Bv(d:D)(o h:Option Int):ag D:=match d with
 | .tup l=>.ok (.tup (cutD l o h))
 | .lst l=>.ok (.lst (cutD l o h))
 |_=>.st
def Nq(K:aB):V->Option Int->Option Int->au->bC->Prop:=λ x l h H Q=>(∃a xs,x= .ref a/\bQ K H a xs/\∀c H',aU H H'->bQ K H' c (nS xs l h)->Q (.ref c) H')\/L1 K x l h H Q
def Vu:qz X (λ x l i H Q=>∃a xs,x= .ref a/\bQ X.K H a xs/\∀c H',aU H H'->bQ X.K H' c (nS xs l i)->Q (.ref c) H'):=by
 intro j s Z H x v m u l i sl Q I g e pl p h;obtain⟨a,xs,rfl,f,q⟩:=h;cases g;obtain⟨t,r,d,hz⟩:=I.tuple f;have k:t.toArray.size=xs.length:=by rw[et];exact r.length.symm
 refine⟨"tuple",_,qf.lookup,d.typeIs,?_⟩;by_cases w:HT.sIx xs.length 0 l=0/\HT.sIx xs.length xs.length i=xs.length
 .refine HT.xn d e pl p (by rw[k];exact w.1) (by rw[k];exact w.2) ⟨.ref a,H,I,rfl,q a H (aU.refl H) ?_⟩
  have:nS xs l i=xs:=by
   unfold nS;simp_all
  rw[this];exact f
 .refine HT.xm d e pl p (by rw[k];exact w) ?_ (by rw[k];exact hz)
  rw[k];refine⟨.ref s.heap.objs.size,_,I.laid (t':=s.toks) (o:=.tup (nS xs l i)) (λ b ob q=>bM _ q) (bJ _) ?_,rfl,q _ _ (eM (I.hok.fresh (bJ _)) _) (bQ.of dQ)⟩;exact⟨⟨fD (LV xs l i) hz,NoD.push _⟩,_,(r.drop (HT.sIx xs.length 0 l)).take _,z8 _ _⟩
def Vv:qz X (Nq X.K):=Vu.or S6
section
variable{C:bB}{pos k:Pos}{m:Mode}{a e:Expr}{g fe:af->ag D}{n A:Option Expr}
def Vw(K:aB)(G:eK)(t:uw)(f:af->ag (Option Int)):Prop:=∀τ Z H ρ lab (Q:Option Int->au->Prop),RR K G τ ρ Z H lab->iv G (f ρ) (λ o=>∀H',aU H H'->Q o H')->t Z H Q
def Bw(C:bB)(e:Option Expr)(f:af->ag (Option Int)):Prop:=∃t,(∀i,xi (C.X i) e t)/\Vw C.K C.G t f
def iz:af->ag (Option Int):=λ _=>.ok none
def iA(fe:af->ag D):af->ag (Option Int):=λ ρ=>(fe ρ).bd λ d=>match d with
 | .int i=>.ok (some i)
 |_=>.st
def je:Bw C none iz:=⟨_,λ _=>SU,λ τ Z H ρ lab Q R W=>W H (aU.refl H)⟩
def jf(h:aF C m e fe):Bw C (some e) (iA fe):=by
 obtain⟨t,a,b⟩:=h;refine⟨_,λ i=>SV (a i),λ τ Z H ρ lab Q R W=>b τ Z H ρ _ _ R (W.bd.imp λ d _ w x c s r=>?_)⟩;induction r using aA.cs with
 |int i=>exact⟨i,rfl,w c s⟩
 |_=>exact aV w
def iB(g:af->ag D)(fl f:af->ag (Option Int)):af->ag D:=λ ρ=>(g ρ).bd λ d=>(fl ρ).bd λ l=>(f ρ).bd λ h=>okD (Bv d l h)
def jg{fl u:af->ag (Option Int)}(D:aF C m a g)(E:Bw C n fl)(F:Bw C A u):aF C m (.Subscript a (.Slice n A none k) pos) (iB g fl u):=by
 obtain⟨t,G,I⟩:=D;obtain⟨J,K,L⟩:=E;obtain⟨M,k1,k2⟩:=F;refine⟨LU (Nq C.K) t J M,λ i=>by rw[<-C.hK i];exact SW Vv (G i) (K i) (k1 i),λ τ Z H ρ lab Q R W=>I τ Z H ρ lab _ R (W.bd.imp λ d _ w x N b O=>?_)⟩;refine L τ Z N ρ lab _ (R.up b) (w.bd.imp λ v _ w P s2=>?_);refine k2 τ Z P ρ lab _ ((R.up b).up s2) (w.bd.imp λ y _ w T s3=>?_);obtain⟨z,f,w⟩:=w.okD;have s:=b.trans (s2.trans s3);have B:=O.up (s2.trans s3);cases d with
 |tup l=>
  cases f;obtain⟨_,_,j,h,r⟩:=B.tup_inv;cases j;exact .inl ⟨_,_,rfl,h,λ c H' s' S=>w _ H' (s.trans s') (.tup S ((r.cut v y).up s'))⟩
 |lst l=>
  cases f;obtain⟨_,_,j,h,U,r⟩:=B.lst_inv;cases j;exact .inr ⟨_,_,rfl,cu.of h,λ p ah=>w _ _ (s.trans (eM ah _)) (.lst dQ (.inl (s.free ah)) (((r.cut v y).wk λ q o e z=>⟨z.1,λ V=>by lia⟩).up (eM ah _)))⟩
 |_=>cases f
def u5:D->ag D
 | .tup l=>.ok (.tup l.reverse)
 |_=>.st
def Nr(K:aB)(t:bw):bw:=λ Z H Q=>t Z H λ x b=>∃a xs,x= .ref a/\bQ K b a xs/\∀c H',aU b H'->H' c=some (.tup xs.reverse)->Q (.ref c) H'
def Vx(m:bq X e te):bq X (.Subscript e (.Slice none none (some (.UnaryOp .USub (.Constant (.int 1) j p3) p4)) k) pos) (Nr X.K te):=by
 intro c s Z H Q I h;refine z7 (aX (m c s Z H _ I h) λ v n ⟨x,g,p,w,y⟩=>?_);obtain⟨a,xs,rfl,A,q⟩:=y;cases w;have B:bq X (.UnaryOp .USub (.Constant (.int 1) j p3) p4) (EH (AL λ i=>.int (-i)) (nR (.int 1))):=Lz LC Le;refine wpAny_Slice ?_;rw[evalPart_none];refine aL (aL ?_);rw[evalPart_some];refine aX (B c n Z g (λ z d=>z= .int (-1)/\d=g) p ⟨1,rfl,rfl,rfl⟩) λ u s2 ⟨z,d,C,D,E,F⟩=>?_
 subst E F;obtain⟨G,rfl⟩:=D;have f:Inv X c Z d {s2 with heap:=s2.heap.push {cls:=.type "slice",data:=.fields #[.none,.none,.int (-1) G]}}:=C.kept (t':=s2.toks) λ b ob q=>bM _ q
 obtain⟨t,r,l,hz⟩:=f.tuple A;have J:t.toArray.size=xs.length:=by rw[et];exact r.length.symm
 show wpAny (model X.prog X.w) X.A (subscriptTail e _ (.ref a) (.ref s2.heap.objs.size)) (hO X c Z Q) X.xe _;refine tail_any (ops:=[.ref a,.ref s2.heap.objs.size]) l.typeIs qf.lookup ?_ (by by_in);refine HT.xg l (KD ..) ?_ (by rw[J];exact hz);refine⟨.ref _,_,f.laid (t':=s2.toks) (o:=.tup xs.reverse) (λ b ob q=>bM _ q) (bJ _) ?_,rfl,q _ _ (eM (f.hok.fresh (bJ _)) _) dQ⟩;exact⟨⟨by rw[Jh];exact hz,NoD.push _⟩,_,r.reverse,z8 _ _⟩
def FA(h:aF C m e fe):aF C m (.Subscript e (.Slice none none (some (.UnaryOp .USub (.Constant (.int 1) j p3) p4)) k) pos) (dq u5 fe):=by
 obtain⟨t,a,b⟩:=h;refine⟨Nr C.K t,λ i=>by rw[<-C.hK i];exact Vx (a i),λ τ Z H ρ lab Q R W=>b τ Z H ρ _ _ R (W.bd.imp λ d _ w x q f g=>?_)⟩;obtain⟨z,n,w⟩:=w.okD;cases d with
 |tup l=>
  obtain⟨_,_,o,h,r⟩:=g.tup_inv;cases o;exact⟨_,_,rfl,h,λ c H' s p=>w _ H' (f.trans s) (.tup (bQ.of p) (r.reverse.up s))⟩
 |_=>cases n
def Bx(f:D->D->ag D)(i:Nat)(fe:af->ag D):af->aC:=λ ρ=>(aj f (cc i) fe ρ).bo λ d=>.nx (ρ.set i (.sh d))
def Vy(h:aF C m e fe)(o:∀j,uo (C.X j) op (xc f))(N:∀j,(C.X j).N[i]? =some x:=by z_go)(g:∀j,lg (C.X j).env.scope x:=by f_tup)(k:∀j,(C.X j).fn x=true\/(C.X j).env.scope.names.lookup x=some .local:=by fin2)(n:∀j,(C.X j).N.Nodup:=by intro _;assumption):hB C (.AugAssign (.Name x pos') op e pos) (Bx (dg (λ _ _=>true) λ a b=>.int (f a b)) i fe):=by
 obtain⟨t,l,p⟩:=h;refine⟨_,λ j=>RO (n j) (N j) (g j) (l j) (o j) (k j),λ τ Z H ρ lab D R W=>?_⟩;have q:=(nZ.bo W).bd;refine ME C.K C.G i τ Z H ρ lab _ R (q.imp λ d _ w v H' s r=>p τ Z H' ρ lab _ (R.up s) (w.bd.imp λ e _ w y B u A=>?_));obtain⟨z,c,w⟩:=w.okD;unfold dg at c;split at c
 .cases c
  cases r;cases A;exact⟨_,_,rfl,rfl,w _ _ _ (((R.up s).up u).put (s:=.sh (.int _)) (aA.int _))⟩
 .cases c
end
section
variable{C:bB}{pos p:Pos}{m k n I:Mode}{a b c e:Expr}{f g G:af->ag D}{B:af->ag (List D)}
def bB.u0(C:bB)(i:C.ι):(C.X i).A.units<cLine:=(C.room i).units0
def bB.u64(C:bB)(i:C.ι):(C.X i).A.units+64<cLine:=(C.room i).units
def bB.ltR(C:bB)(i:C.ι):bT (C.X i) (dP .Lt) (λ x y H Q=>i9 (λ i j=>.bl (decide (i<j))) x y H Q\/AV C.K x y H Q):=by have h:=U3 (C.u0 i);rw[C.hK i]at h;assumption
def bB.leR(C:bB)(i:C.ι):bT (C.X i) (dP .LtE) (λ x y H Q=>i9 (λ i j=>.bl (decide (i<=j))) x y H Q\/AW C.K x y H Q):=by have h:=U4 (C.u0 i);rw[C.hK i]at h;assumption
def bB.eqRl(C:bB)(i:C.ι):bT (C.X i) (dP .Eq) (xI C.K false):=by have h:=Vk (C.u64 i);rw[C.hK i]at h;assumption
def bB.neRl(C:bB)(i:C.ι):bT (C.X i) (dP .NotEq) (xI C.K true):=by have h:=Vl (C.u64 i);rw[C.hK i]at h;assumption
def bB.inRl(C:bB)(i:C.ι):bT (C.X i) (dP .In) (xJ C.K false):=by have h:=Vm (C.u64 i);rw[C.hK i]at h;assumption
def bB.ninRl(C:bB)(i:C.ι):bT (C.X i) (dP .NotIn) (xJ C.K true):=by have h:=Vn (C.u64 i);rw[C.hK i]at h;assumption
def bB.aRR(C:bB)(i:C.ι):bT (C.X i) (iJ .Add) (Bp C.K):=by have h:=U0 (X:=C.X i);rw[C.hK i]at h;assumption
noncomputable def jh:D->D->ag D:=dg (λ _ _=>true) λ i j=>.int (i-j)
noncomputable def sf:D->D->ag D:=dg (λ _ j=>decide (0<j)&&decide (j<1073741824)) λ i j=>.int (i / j)
noncomputable def j6:D->D->ag D:=dg (λ _ j=>decide (0<j)) λ i j=>.int (i%j)
noncomputable def xK:D->D->ag D:=dg (λ i j=>decide (0<=j)&&decide (j<=1000000)&&decide (i.natAbs<2^64)) λ i j=>.int (i^j.toNat)
def de(h:aF C k a f)(c:aF C n b g):aF C (me k n) (.BinOp a .Add b pos) (aj bK f g):=uM C.aRR MW h c
def sg(h:aF C k a f)(c:aF C n b g):aF C (me k n) (.BinOp a .Mult b pos) (aj gu f g):=uM (λ _=>U1) U2 h c
def si(c:aF C k a f)(d:aF C n b g):aF C (some []) (.BinOp a .Sub b pos) (aj jh f g):=jY (uM (λ _=>Se) UY c d) λ _ _ h=>qF Bo h
def Nt(c:aF C k a f)(d:aF C n b g):aF C (some []) (.BinOp a .FloorDiv b pos) (aj sf f g):=jY (uM (λ _=>Sg) (Fm λ i j h=>by simpa[LB]using h) c d) λ _ _ h=>qF Bo h
def sj(c:aF C k a f)(d:aF C n b g):aF C (some []) (.BinOp a .Mod b pos) (aj j6 f g):=jY (uM (λ _=>Sh) (Fm λ i j h=>by simp_all) c d) λ _ _ h=>qF Bo h
def Nu(c:aF C k a f)(d:aF C n b g):aF C (some []) (.BinOp a .Pow b pos) (aj xK f g):=jY (uM (λ _=>Si) (Fm λ i j h=>by simp only[cM,decide_eq_true_eq]at h;exact⟨h.1.1,h.1.2,h.2⟩) c d) λ _ _ h=>qF Bo h
def pq(b:aF C m a f):aF C (some []) (.UnaryOp .USub a pos) (dq pb f):=jY (UL (λ _=>LC) U9 b) λ _ _ h=>UK Va h
def Vz(c:aF C k a f)(d:aF C n b g):aF C (some []) (.Compare a [.Lt] [b] pos) (aj fh f g):=jY (Be C.ltR Fo c d) λ _ _ h=>qF M1 h
def u6(c:aF C k a f)(d:aF C n b g):aF C (some []) (.Compare a [.Eq] [b] pos) (aj (b9 false) f g):=jY (Be C.eqRl os_eq c d) λ _ _ h=>qF Nj h
def VA(c:aF C k a f)(d:aF C n b g):aF C (some []) (.Compare a [.NotEq] [b] pos) (aj (b9 true) f g):=jY (Be C.neRl os_eq c d) λ _ _ h=>qF Nj h
def FB(c:aF C k a f)(d:aF C n b g)(m:lU .In b=false:=by by_in):aF C (some []) (.Compare a [.In] [b] pos) (aj (eI false) f g):=jY (Be C.inRl Fz c d m) λ _ _ h=>qF Vo h
def xM(h:aF C k a f)(c:aF C n b g):gp C (.Compare a [.Lt] [b] pos) (bh (aj fh f g)):=nX C.ltR Fo h c
def VB(h:aF C k a f)(c:aF C n b g):gp C (.Compare a [.Gt] [b] pos) (bh (aj Bq f g)):=nX (λ _=>Sm) Bn h c
def VC(h:aF C k a f)(c:aF C n b g):gp C (.Compare a [.GtE] [b] pos) (bh (aj Fn f g)):=nX (λ _=>Sn) Bn h c
def pv(h:aF C k a f)(c:aF C n b g):gp C (.Compare a [.Eq] [b] pos) (bh (aj (b9 false) f g)):=nX C.eqRl os_eq h c
def ng(h:aF C k a f)(c:aF C n b g):gp C (.Compare a [.NotEq] [b] pos) (bh (aj (b9 true) f g)):=nX C.neRl os_eq h c
def VD(h:aF C k a f)(c:aF C n b g)(m:lU .In b=false:=by by_in):gp C (.Compare a [.In] [b] pos) (bh (aj (eI false) f g)):=nX C.inRl Fz h c m
def u7(h:aF C k a f)(c:aF C n b g)(m:lU .NotIn b=false:=by by_in):gp C (.Compare a [.NotIn] [b] pos) (bh (aj (eI true) f g)):=nX C.ninRl Fz h c m
def VE(h:aF C k a f)(c:aF C n b g):gp C (.Compare a [.Is] [b] pos) (bh (aj (xF false) f g)):=nX (λ _=>U6) U8 h c
def VF(h:aF C k a f)(d:aF C n b g)(e:aF C I c G)(m:An [.LtE,.LtE] [b,c]=false:=by by_in):aF C (some []) (.Compare a [.LtE,.LtE] [b,c] pos) (o9 mq mq f g G):=MK C.leR Fp C.leR Fp U5 h d e m
def FC(h:aF C k a f)(d:aF C n b g)(e:aF C I c G)(m:An [.LtE,.Lt] [b,c]=false:=by by_in):aF C (some []) (.Compare a [.LtE,.Lt] [b,c] pos) (o9 mq fh f g G):=MK C.leR Fp C.ltR Fo M1 h d e m
def br(j:aF C k a f)(l:aF C n b g)(ah:xk b:=by exact λ _ _=>rfl):aF C k (.Subscript a b pos) (aj aH f g):=by
 obtain⟨t,m,A⟩:=j;obtain⟨u,k1,k2⟩:=l;refine⟨mM (ES C.K) t u,λ i=>by rw[<-C.hK i];exact LW S2 (m i) (k1 i) ah,λ τ Z H ρ lab Q R W=>?_⟩;refine A τ Z H ρ lab _ R (W.bd.imp λ d _ w x B h D=>?_);refine k2 τ Z B ρ lab _ (R.up h) (w.bd.imp λ e _ w y E s2 F=>?_);obtain⟨z,c,w⟩:=w.okD;have G:imm e=true:=by
  unfold aH at c;split at c<;>first|rfl|cases c
 refine Vb _ x y d e E Q z (D.up s2) (F.imm G) c λ v H' s r=>w v H' ((h.trans s2).trans s) (r.wk λ p o _ q=>?_)
 rcases q with q|q
 .exact .inl ((h.trans s2).free q)
 simp_all
def fR(b:C.mg "len"=none)(c:fN C m [a] B)(e:∀i,bf [a] (C.X i).env=[(false,eval a (C.X i).env)]:=by z_go)(g:∀i,dA (C.X i) "len":=by z_go):aF C (some []) (.Call (.Name "len" p) [a] [] pos) (aN b0 B):=
 jY (uN (λ i=>by have h:=L3 (X:=C.X i);rw[C.hK i]at h;assumption) M3 g b J1 c (by decide) (by decide) e) λ _ _ h=>uL M4 h
def sk(b:C.mg "all"=none)(c:fN C m [a] B)(e:∀i,bf [a] (C.X i).env=[(false,eval a (C.X i).env)]:=by z_go)(g:∀i,dA (C.X i) "all":=by z_go)(v:gx "all"=some (.builtin "all"):=by f_are):aF C (some []) (.Call (.Name "all" p) [a] [] pos) (aN (ik λ bs=>bs.all id) B):=
 jY (uN (λ i=>Vp (C.calm i)) Vq g b v c (by decide) (by decide) e) λ _ _ h=>uL Vr h
def VG(c:C.mg "min"=none)(d:fN C m [a,b] B)(e:∀i,bf [a,b] (C.X i).env=(false,eval a (C.X i).env)::bf [b] (C.X i).env:=by z_go)(hpl:∀i,(fW pos (bf [b] (C.X i).env)).any (·.1)=false:=by z_go)(g:∀i,dA (C.X i) "min":=by z_go)(v:gx "min"=some (.builtin "min"):=by f_are):aF C (some []) (.Call (.Name "min" p) [a,b] [] pos) (aN (pk λ i j=>if j<i then j else i) B):=
 jY (uN (λ i=>Sw (C.calm i)) Nn g c v d (by decide) (by decide) e hpl) λ _ _ h=>uL Np h
def VH(c:C.mg "max"=none)(d:fN C m [a,b] B)(e:∀i,bf [a,b] (C.X i).env=(false,eval a (C.X i).env)::bf [b] (C.X i).env:=by z_go)(hpl:∀i,(fW pos (bf [b] (C.X i).env)).any (·.1)=false:=by z_go)(g:∀i,dA (C.X i) "max":=by z_go)(v:gx "max"=some (.builtin "max"):=by f_are):aF C (some []) (.Call (.Name "max" p) [a,b] [] pos) (aN (pk λ i j=>if j>i then j else i) B):=
 jY (uN (λ i=>Sv (C.calm i)) Nn g c v d (by decide) (by decide) e hpl) λ _ _ h=>uL Np h
def lD(b:C.mg "tuple"=none)(c:fN C m [a] B)(e:∀i,bf [a] (C.X i).env=[(false,eval a (C.X i).env)]:=by z_go)(g:∀i,dA (C.X i) "tuple":=by z_go)(v:gx "tuple"=some (.type "tuple"):=by f_are):aF C m (.Call (.Name "tuple" p) [a] [] pos) (aN gT B):=
 MI (λ i=>by have h:=S8 (X:=C.X i);rw[C.hK i]at h;assumption) Vs g b v c (by decide) (by decide) e
def FD(b:C.mg "list"=none)(c:fN C m [a] B)(e:∀i,bf [a] (C.X i).env=[(false,eval a (C.X i).env)]:=by z_go)(g:∀i,dA (C.X i) "list":=by z_go)(v:gx "list"=some (.type "list"):=by f_are):aF C m (.Call (.Name "list" p) [a] [] pos) (aN qS B):=
 MI (λ i=>by have h:=S7 (X:=C.X i);rw[C.hK i]at h;assumption) Vt g b v c (by decide) (by decide) e
def VI(K:aB)(r:bA)(f:D->D->ag D):Prop:=∀(A:Addr->Prop) x y d e H (Q:bC) z,aA K A H x d->aA K A H y e->f d e= .ok z->(∀v H',aU H H'->aA K (λ p=>H p=none\/A p) H' v z->MG H v z->Q v H')->r x y H Q
def VJ{K:aB}:VI K (Bp K) bK:=by
 intro A x y d e H Q z b c a q;cases z with
 |lst l=>
  unfold bK at a;split at a
  .cases a
  .split at a
   .rename_i i
    cases a;obtain⟨_,_,rfl,j,k,f⟩:=b.lst_inv
    .obtain⟨_,_,rfl,m,n,g⟩:=c.lst_inv
     .refine .inr (.inl ⟨_,_,_,_,rfl,rfl,j,m,by rw[f.length,g.length];exact i,λ p H' s ah h=>q _ H' s (.lst ah (.inl h) ?_) λ _=>⟨p,rfl,h⟩⟩)
      exact(((f.wk λ _ _ _ z=>z.1).append (g.wk λ _ _ _ z=>z.1)).wk (A':=λ q=>(H q=none\/A q)/\q≠p) λ q o e z=>⟨.inr z,λ t=>by subst t;rw[h]at e;cases e⟩).up s
   .cases a
  .split at a<;>cases a
  .cases a
 |dct ks vs=>
  unfold bK at a;split at a
  .cases a
  .split at a<;>cases a
  .split at a<;>cases a
  .cases a
 |set l=>
  unfold bK at a;split at a
  .cases a
  .split at a<;>cases a
  .split at a<;>cases a
  .cases a
 |_=>exact MW A x y d e H Q _ b c a λ v H' s r=>q v H' s r λ u=>by cases u
def VK(h:aF C k a f)(j:aF C n b g):Bc C (me k n) (.BinOp a .Add b pos) (aj bK f g):=by
 obtain⟨t,l,m⟩:=h;obtain⟨u,k1,k2⟩:=j;refine⟨_,λ i=>Ly (C.aRR i) (l i) (k1 i),?_⟩;intro τ Z H ρ lab Q R W;refine m τ Z H ρ lab _ R (W.bd.imp λ d _ w x A c B=>?_);refine k2 τ Z A ρ lab _ (R.up c) (w.bd.imp λ e _ w y D s2 E=>?_);obtain⟨z,F,w⟩:=w.okD;refine VJ _ x y d e D Q z (B.mono s2 λ p o _ q=>A8 q) (E.wk λ p o _ q=>A9 (rV c q)) F λ v H' s r G=>w v H' ((c.trans s2).trans s) (r.wk λ p o _ q=>?_) λ I=>?_
 .rcases q with q|q
  .exact .inl ((c.trans s2).free q)
  simp_all
 .obtain⟨a,J,K⟩:=G I
  exact⟨a,J,(c.trans s2).free K⟩
def By(K:aB):lq:=λ vs H Q E=>∃a ns,vs=[.ref a]/\md K H a ns/\ns.length<=63/\∀H',Q (.bl true) H'
def VM{K:aB}(h:∀ns:List Int,ns.length<=63->F [.scr ns]= .ok (.bl true)):∀vs H Q E,By K vs H Q E->mj K cl 1 F vs H Q E:=by
 rintro vs H Q E ⟨a,ns,rfl,b,l,q⟩;refine⟨_,rfl,.cons (.scr b) .nil,?_⟩;rw[h ns l];intro v H' s r;cases r;exact q H'
def VN{K:aB}{a:Addr}(O:Only H)(h:cu K H a (ns.map V.int)):md K H a ns:=by
 rcases h with (h|⟨o,h⟩)|h
 .rcases O a with z|⟨o,xs,z⟩<;>grind
 .exact .inl ⟨o,h⟩
 .exact .inr h
end
section
variable{K:aB}
theorem Nv:∀{ns:List Int} {u:List Value},Vals (ns.map V.int) u->∃s:List (Int×Tok),u=s.map (λ q=>jx q.1 q.2)/\s.map rE=ns
 |[],_,.nil=>⟨[],rfl,rfl⟩
 |n::ns,_,.cons r t=>by
  obtain⟨k,e⟩:∃k,_=jx n k:=r
  obtain⟨s,a,b⟩:=Nv t;subst e;exact⟨(n,k)::s,by rw[a];rfl,by rw[<-b];rfl⟩
def VO(e:X.calm=true):fM X (.builtin "min") (λ xs H Q=>∃(p:Addr) (ns:List Int) (m:Int),xs=[.ref p]/\H p=some (.lst (ns.map V.int))/\ns.min?=some m/\Q (.int m) H):=by
 intro z s Z H xs A Q I r h;obtain⟨p,ns,m,rfl,ah,d,q⟩:=h;obtain⟨u,rfl,f⟩:=vals1 r;cases f;obtain⟨g,k,pl,hz⟩:=I.list (cu.of ah);obtain⟨c,rfl,rfl⟩:=Nv k;have hsz:0<c.toArray.size:=by
  cases c with
  |nil=>cases d
  |cons a b=>simp
 refine min_intList (xs:=c.toArray) (I.ok.hd e) (by have:=pl.isList;simpa[intItems]using this) hsz λ v h' B l n=>?_
 obtain⟨t,rfl⟩:=intItems_at l;obtain⟨o,w⟩:=argBest_lt (numAt c.toArray) (c.toArray.size-1);have M:(c.map rE).min?=some (numAt c.toArray (argBest (λ i j=>decide (numAt c.toArray i<numAt c.toArray j)) (c.toArray.size-1))):=by
  rw[List.min?_eq_some_iff];refine⟨?_,λ a x=>?_⟩
  .rw[numAt_eq];exact getD_mem (by rw[bg];simp at o hsz ⊢;omega)
  .obtain⟨j,y,rfl⟩:=mem_getD x
   have:=w j (by rw[bg]at y;simp;omega)
   rw[numAt_eq _ j]at this;exact this
 rw[d]at M;injection M with M
 exact⟨.int m,H,I.kept n,⟨t,by rw[M]⟩,q⟩
noncomputable def n3(f:List Int->Option Int):List D->ag D
 |[.lst l]=>match intsOf l with
  |some ns=>match f ns with
   |some m=>.ok (.int m)
   |none=>.st
  |none=>.st
 |_=>.st
def VP:nT K (λ xs H Q=>∃(p:Addr) (ns:List Int) (m:Int),xs=[.ref p]/\H p=some (.lst (ns.map V.int))/\f ns=some m/\Q (.int m) H) (n3 f):=by
 intro A xs ds H Q z r a q;unfold n3 at a;split at a
 .split at a
  .rename_i l ns e
   split at a
   .rename_i m b
    cases a
    have:=mn e
    subst this;cases r with
    |cons h r=>
     cases r;replace h:=h.lst_inv;obtain⟨_,_,c,h,_,r⟩:=h;cases c
     have:=r.ints_of
     subst this;exact⟨_,ns,m,rfl,h,b,q _ H (aU.refl H) (.int _)⟩
   .cases a
  simp_all
 .cases a
def VQ:∀x z,n3 f x= .ok z->imm z=true:=by
 intro x z e;unfold n3 at e;split at e
 .split at e
  .split at e
   .cases e;rfl
   lia
  lia
 simp_all
end
section
variable{C:bB}{pos p:Pos}{a:Expr}{g:af->ag (List D)}{m:Mode}
def VR(b:C.mg "min"=none)(c:fN C m [a] g)(e:∀i,bf [a] (C.X i).env=[(false,eval a (C.X i).env)]:=by z_go)(d:∀i,dA (C.X i) "min":=by z_go)(v:gx "min"=some (.builtin "min"):=by f_are):aF C (some []) (.Call (.Name "min" p) [a] [] pos) (aN (n3 wm) g):=
 jY (uN (λ i=>VO (C.calm i)) VP d b v c (by decide) (by decide) e) λ _ _ h=>uL VQ h
end
end VL
namespace L2
open PySem PySem.Spec PyProof.Rows
noncomputable def Nw(P:bD)(w:World)(K:aB)(mg:Str->Option Value)(base:Heap)(N:List Str)(q:Str)(c:Scope)(f:Addr)(d:Value)(A:cg)(s:ax)(H:au)(t:Addr):aZ where
 prog:=P
 w:=w
 K:=K
 mg:=mg
 base:=base
 A:=A.deeper (jT q c s.heap.objs.size f d)
 N:=N
 zS:=s
 zD:=H
 env:=jT q c s.heap.objs.size f d
 outer:=[]
 stack:=[jT q c s.heap.objs.size f d]
 ex:=[t]
 calm:=true
 fn:=λ _=>true
 pn:=[]
 xe:=λ _ _=>False
 ta:=[(t,PySem.W.tabObj #[])]
 tq:=q++".<locals>."++"<lambda>"
end L2
namespace VL
open PySem PySem.Spec PyProof.Rows L2
end VL
namespace L2
open PySem PySem.Spec PyProof.Rows
def pe_isi{X:aZ}{n:Str}{e:Expr}{c:V}{p a pos:Pos}(N:X.N[0]? =some n)(v:X.env.scope.names.lookup n=some .local)(g:dA X "isinstance")(m:X.mg "isinstance"=none)(b:bq X e (nR c))(h:bf [e] X.env=(false,eval e X.env)::bf [] X.env:=by rfl)
  (hpl:(fW pos (bf [e] X.env)).any (·.1)=false:=by rfl)(d:Nd n:=by decide)(f:(n==("__classdict__":Str))=false:=by decide):bq X (.Call (.Name "isinstance" p) [.Name n a,e] [] pos) (Uo X.K c):=
 uu Um g m rfl (g9 (iO N (.inl v) d f) (g9 b kB h)) (hpl:=hpl)
section
variable{P:bD}{w:World}{K:aB}{mg:Str->Option Value}{base:Heap}{x q n0 n1 n2 L:Str}{st:Stmt}{f:Addr}{fd:bO}{k:Nat}{R:Addr->Option Str}{c1 c2:V}{k1 k2 k3 k4:List V}{l1 l2:List Str}{a1 a2:Expr}{Q O e1 e2 e3 e4 T S:List Expr}{N M:List iK}
 {p1 p2 p3 p4 p5 p6 p7 p8 p9 J I H G F E D C B A z y v u t s r o n m l j i h g e d c b a p:Pos}{q1 q2 Z Y X W U:Pos}{j1 j2 j3 j4 j5:Nat}
end
structure LawOk(P:bD)(w:World)(K:aB)(mg:Str->Option Value)(fa Pt:Addr)(k n:Nat):Prop where
 ex:∃(x name qual:Str) (params:Dy) (body:List Stmt) (scope:Scope) (dV eu doc pm ct oc:Value) (an od:Option Addr) (c:Addr) (osl:Array (Option Value)) (N:List Str),
  K.lookup Pt=none/\PySem.W.codeHdIn K c Pt=true/\K.lookup fa=some ⟨oc,od,.func (nP name qual params body scope dV eu doc pm an (.ref c) ct),osl⟩/\w1 K (.ref c) qual=true/\cq N [x] scope/\
  (∀(s:ax) (u:Value),qm s (nP name qual params body scope dV eu doc pm an (.ref c) ct) ⟨[u],[]⟩ [(x,u)])/\
  ∀(a:Addr) (ns:List Int),ns.length<=n->∀(base:Heap) (s:ax) (H:au),gS k (callerA.deeper (jT qual scope s.heap.objs.size fa (.ref c)))->Ue (Nw P w K mg base N qual scope fa (.ref c) oS s H Pt) Pt->Only H->cu K H a (ns.map V.int)->
   ∃t,lh (Nw P w K mg base N qual scope fa (.ref c) oS s H Pt) body t/\t {nx:=λ _ _=>False,rt:=λ v _=>v= .bl true} (start N [.ref a]) H
end L2
namespace VL
open PySem PySem.Spec PyProof.Rows L2
section
variable{O:kl}{kz:Nat->O.α}{n:Nat}
def il{α:Type}(kz:Nat->O.α)(n:Nat):Ex α->(α->Prop)->Prop
 | .ret a,Q=>Q a
 | .ask i j k,Q=>i<n/\j<n/\il kz n (k (O.blt (kz i) (kz j))) Q
theorem il.bindI:∀{t:Ex α},il kz n t (λ a=>il kz n (g a) Q)->il kz n (t.bind g) Q
 | .ret _,h=>h
 | .ask _ _ _,⟨b,c,d⟩=>⟨b,c,il.bindI d⟩
abbrev gM(n:Nat)(p:Array Nat):Prop:=p.Perm (dY n).toArray
def gM.sz(h:gM n p):p.size=n:=by
 have:=h.size_eq
 simpa using this
def gM.in(h:gM n p)(a:i<n):p.getD i 0<n:=by
 have s:i<p.size:=by rw[h.sz];simp_all
 have e:p.getD i 0=p[i]:=by simp_all
 rw[e];have m:=h.mem_iff.mp (Array.getElem_mem s);simp_all
noncomputable def bY(kz:Nat->O.α)(p:Array Nat)(i:Nat):O.α:=kz (p.getD i 0)
def xN(h:p[i]? =q[j]?):bY kz p i=bY kz q j:=by
 unfold bY;simp_all
def Nx(h:c<p.size)(b:d<=c)(k:Nat):
  bY kz (bubble p c d) k=if k=c-d then bY kz p c else if c-d<k/\k<=c then bY kz p (k-1)else bY kz p k:=by
 have e:=getElem?_bubble h d b k;by_cases u:k=c-d
 .rw[if_pos u]at e ⊢
  exact xN e
 .rw[if_neg u]at e ⊢
  by_cases a:c-d<k/\k<=c
  .rw[if_pos a]at e ⊢
   exact xN e
  .rw[if_neg a]at e ⊢
   exact xN e
def FE(h:j<=p.size)(k:Nat):bY kz (Ew p i j) k=if i<=k/\k<j then bY kz p (i+j-1-k)else bY kz p k:=by
 have e:=getElem?_mirror_all (i:=i) h k;by_cases u:i<=k/\k<j
 .rw[if_pos u]at e ⊢
  exact xN e
 .rw[if_neg u]at e ⊢
  exact xN e
def u9(h:j<=p.size)(e:∀k,i<=k->k<j->bY kz p k=bY kz p (j-1))(k:Nat):bY kz (Ew p i j) k=bY kz p k:=by
 rw[FE h]
 grind
def gE(kz:Nat->O.α)(p:Array Nat)(k:Nat):Prop:=∀i j,i<=j->j<k->O.kle (bY kz p i) (bY kz p j)
def qV(kz:Nat->O.α)(p:Array Nat)(k:Nat):Prop:=∀i j,i<=j->j<k->O.kle (bY kz p j) (bY kz p i)
def xO(h:gM n p)(i j:Nat):gM n (Ew p i j):=(mirror_perm _ _ _ _).trans h
def gE.succ(h:gE kz p m)(d:1<=m)(l:O.kle (bY kz p (m-1)) (bY kz p m)):gE kz p (m+1):=by
 intro i j a e;by_cases q:j<m
 .exact h i j a q
 .have b:j=m:=by lia
  subst b;by_cases c:i=j
  .rw[c];exact tV _
  .exact z9 (h i _ (by lia) (by lia)) l
def qV.succ(h:qV kz p m)(d:1<=m)(l:O.kle (bY kz p m) (bY kz p (m-1))):qV kz p (m+1):=by
 intro i j a e;by_cases q:j<m
 .exact h i j a q
 .have b:j=m:=by lia
  subst b;by_cases c:i=j
  .rw[c];exact tV _
  .exact z9 l (h i _ (by lia) (by lia))
theorem FG(ah:gM n p)(hr:r<=n):∀(f m:Nat),1<=m->m+f=r->gE kz p m->
  (∀a,1<=a->a<=r->gE kz p a->(a=r\/O.klt (bY kz p a) (bY kz p (a-1)))->Q a)->il kz n (PySem.W.kas_asc p f m) Q
 |0,m,h,c,u,k=>k m h (by lia) u (.inl (by lia))
 |f+1,m,h,c,u,k=>by
  refine⟨ah.in (by lia),ah.in (by lia),?_⟩;have d:O.blt (kz _) (kz _)=O.blt (bY kz p m) (bY kz p (m-1)):=rfl;rw[d];cases b:O.blt (bY kz p m) (bY kz p (m-1))with
  |true=>exact k m h (by lia) u (.inr b)
  |false=>exact FG ah hr f _ (by lia) (by lia) (u.succ h b) k
theorem Bz(hr:r<=n):∀(f:Nat) (p:Array Nat) (m e:Nat),gM n p->1<=m->m+f=r->qV kz p m->e+1<=m->(∀i,m-(e+1)<=i->i<m->bY kz p i=bY kz p (m-1))->
  (∀b a l,gM n b->1<=a->a<=r->qV kz b a->l+1<=a->(∀i,a-(l+1)<=i->i<a->bY kz b i=bY kz b (a-1))->Q (b,a,l))->il kz n (PySem.W.kas_desc f p m e) Q
 |0,p,m,e,ah,c,x,d,o,h,k=>k p m e ah c (by lia) d o h
 |f+1,p,m,e,ah,c,x,d,o,h,k=>by
  have hsz:m<=p.size:=by rw[ah.sz];lia
  refine⟨ah.in (by lia),ah.in (by lia),?_⟩;have y:O.blt (kz (p.getD m 0)) (kz (p.getD (m-1) 0))=O.blt (bY kz p m) (bY kz p (m-1)):=rfl;rw[y];cases t:O.blt (bY kz p m) (bY kz p (m-1))with
  |true=>
   have g:qV kz p (m+1):=d.succ c (Dt t);cb_eq;rw[if_pos rfl];by_cases hz:e>0
   .rw[if_pos hz]
    refine Bz hr f _ (m+1) 0 (xO ah _ _) (by lia) (by lia) (λ i j q z=>?_) (by lia) (λ i u v=>by congr 1;lia) k;rw[u9 hsz h,u9 hsz h];exact g i j q z
   .rw[if_neg hz]
    exact Bz hr f p (m+1) 0 ah (by lia) (by lia) g (by lia) (λ i u v=>by congr 1;lia) k
  |false=>
   cb_eq;rw[if_neg (by simp)];refine⟨ah.in (by lia),ah.in (by lia),?_⟩;have A:O.blt (kz (p.getD (m-1) 0)) (kz (p.getD m 0))=O.blt (bY kz p (m-1)) (bY kz p m):=rfl;rw[A];cases w:O.blt (bY kz p (m-1)) (bY kz p m)with
   |true=>exact k p m e ah c (by lia) d o h
   |false=>
    cb_eq;rw[if_neg (by simp)];have s:bY kz p m=bY kz p (m-1):=JV w t;refine Bz hr f p (m+1) (e+1) ah (by lia) (by lia) (d.succ c w) (by lia) (λ i u v=>?_) k;rw[show m+1-1=m by lia];by_cases B:i=m
    .rw[B]
    .rw[s]
     exact h i (by lia) (by lia)
def Ny(hr:r<=n)(ah:gM n p)(h:1<=m)(l:m<=r)(d:qV kz p m)(k:∀a b,gM n b->1<=a->a<=r->gE kz b a->Q (a,b)):il kz n (PySem.W.kas_tail3 m r p) Q:=by
 have hsz:m<=p.size:=by rw[ah.sz];lia
 refine il.bindI (FG (xO ah 0 m) hr _ m h (by lia) (λ i j c o=>?_) λ a e f g _=>k a _ (xO ah 0 m) e f g);rw[FE hsz,FE hsz,if_pos (by lia),if_pos (by lia)];exact d _ _ (by lia) (by lia)
def Nz(hr:r<=n)(ah:gM n p)(s:m+1<=r)(l:qV kz p (m+1))(k:∀a b,gM n b->1<=a->a<=r->gE kz b a->Q (a,b)):il kz n (PySem.W.kas_descPart m r p) Q:=by
 refine il.bindI (Bz hr _ p (m+1) 0 ah (by lia) (by lia) l (by lia) (λ i u v=>by congr 1;lia) λ b a o c d e f t g=>?_);have hsz:a<=b.size:=by rw[c.sz];lia
 cb_eq;by_cases hz:o>0
 .rw[if_pos hz]
  refine Ny hr (xO c _ _) d e (λ i j h q=>?_) k;rw[u9 hsz g,u9 hsz g];exact f i j h q
 .rw[if_neg hz]
  exact Ny hr c d e f k
def VS(hr:r<=n)(ah:gM n p)(A:1<=r)(k:∀b d,gM n d->1<=b->b<=r->gE kz d b->Q (b,d)):il kz n (PySem.W.kas_count r p) Q:=by
 refine il.bindI (FG ah hr (r-1) 1 (bJ 1) (by lia) (λ i j h o=>by rw[show i=j by lia];exact tV _) λ m q s c v=>?_);by_cases e:m=r
 .rw[if_pos (by simpa using e)]
  exact k m p ah q s c
 .rw[if_neg (by simpa using e)]
  have t:O.klt (bY kz p m) (bY kz p (m-1)):=v.resolve_left e;by_cases u:m>1
  .rw[if_pos u]
   refine⟨ah.in (by lia),ah.in (by lia),?_⟩;have x:O.blt (kz (p.getD 0 0)) (kz (p.getD (m-1) 0))=O.blt (bY kz p 0) (bY kz p (m-1)):=rfl;rw[x];cases w:O.blt (bY kz p 0) (bY kz p (m-1))with
   |true=>exact k m p ah q s c
   |false=>
    cb_eq;rw[if_neg (by simp)];have hsz:m<=p.size:=by rw[ah.sz];lia
    have K:∀i,0<=i->i<m->bY kz p i=bY kz p (m-1):=λ i _ a=>JV (c i (m-1) (by lia) (by lia)) (z9 w (c 0 i (by lia) a))
    refine Nz hr (xO ah 0 m) (by lia) (λ i j h o=>?_) k;rw[u9 hsz K,u9 hsz K];by_cases f:j<m
    .rw[K i (by lia) (by lia),K j (by lia) f];exact tV _
    .have g:j=m:=by lia
     subst g;by_cases a:i=j
     .rw[a];exact tV _
     .rw[K i (by lia) (by lia)];exact Dt t
  .rw[if_neg u]
   have l:m=1:=by lia
   subst l;refine Nz hr ah (by lia) (λ i j h o=>?_) k;by_cases a:i=j
   .rw[a];exact tV _
   .have y:i=0:=by lia
    have z:j=1:=by lia
    subst y z;exact Dt t
theorem FH(ah:gM n p)(g:c<n)(h:gE kz p c):∀(f l r:Nat),l<=r->r<=c->r-l<=f->(∀i,i<l->O.kle (bY kz p i) (bY kz p c))->(∀i,r<=i->i<c->O.klt (bY kz p c) (bY kz p i))->
  (∀l',l'<=c->(∀i,i<l'->O.kle (bY kz p i) (bY kz p c))->(∀i,l'<=i->i<c->O.klt (bY kz p c) (bY kz p i))->Q l')->il kz n (K4 p c f l r) Q
 |0,l,r,o,a,q,b,d,k=>by
  have e:l=r:=by lia
  subst e;exact k l a b d
 |f+1,l,r,o,a,q,b,d,k=>by
  unfold K4;by_cases j:l ≥ r
  .rw[if_pos j]
   have e:l=r:=by lia
   subst e;exact k l a b d
  .rw[if_neg j]
   refine⟨ah.in g,ah.in (by lia),?_⟩;have x:O.blt (kz (p.getD c 0)) (kz (p.getD ((l+r) / 2) 0))=O.blt (bY kz p c) (bY kz p ((l+r) / 2)):=rfl;rw[x];cases m:O.blt (bY kz p c) (bY kz p ((l+r) / 2))with
   |true=>exact FH ah g h f l ((l+r) / 2) (by lia) (by lia) (by lia) b (λ i u v=>KeyOrd.klt_of_klt_of_kle m (h _ _ u v)) k
   |false=>exact FH ah g h f ((l+r) / 2+1) r (by lia) a (by lia) (λ i u=>z9 (h i ((l+r) / 2) (by lia) (by lia)) m) d k
theorem NA:∀(f:Nat) (p:Array Nat) (c:Nat),gM n p->c+f=n->gE kz p c->(∀a,gM n a->gE kz a n->Q a)->il kz n (PySem.W.kas_bin f p c) Q
 |0,p,c,ah,b,h,k=>k p ah (by lia)
 |f+1,p,c,ah,b,h,k=>by
  refine il.bindI (FH ah (by lia) h c 0 c (by lia) (bJ c) (by lia) (λ i u=>by lia) (λ i u v=>by lia) λ l m d e=>?_);refine NA f _ (c+1) ((bubble_perm _ _ _).trans ah) (by lia) (λ i j g o=>?_) k;have s:c<p.size:=by rw[ah.sz];lia
  rw[Nx s (by lia),Nx s (by lia),show c-(c-l)=l by lia]
  repeat' split
  all_goals first
   |(exfalso;lia)
   |exact O.irrefl _
   |exact d _ (by lia)
   |exact KeyOrd.klt_asymm (e _ (by lia) (by lia))
   |exact h _ _ (by lia) (by lia)
def VT(b:1<=n)(k:∀p,gM n p->gE kz p n->Q p):il kz n (PySem.W.kas_sort n) Q:=by
 refine il.bindI (VS (bJ n) (IR _) b λ m p a c d e=>?_);by_cases h:m<n
 .rw[if_pos h]
  exact NA _ p _ a (by lia) (by simp_all) k
 .rw[if_neg h]
  exact k p a (by rw[show n=m by lia];simp_all)
theorem NB{I:ax->Prop}(d:∀i j (C:Bool->ax->Prop) s,I s->i<n->j<n->(∀s',I s'->C (O.blt (kz i) (kz j)) s')->cmp i j C s):
  ∀(t:Ex α) (s:ax),I s->il kz n t (λ a=>∀s',I s'->Q a s')->t.kasWp cmp Q s
 | .ret a,s,b,h=>h s b
 | .ask i j k,s,b,⟨e,f,g⟩=>d i j _ s b e f λ s' c=>NB d _ s' c g
end
theorem BA:∀a:List Int,HT.lexLt a a=false
 |[]=>rfl
 |x::a=>by rw[HT.nQ,if_pos rfl];exact BA a
theorem BB:∀a b c:List Int,HT.lexLt a b=true->HT.lexLt b c=true->HT.lexLt a c=true
 |[],[],c,h,_=>by lia
 |[],_::_,[],_,h=>by assumption
 |[],_::_,_::_,_,_=>rfl
 |_::_,[],_,h,_=>by cases h
 |_::_,_::_,[],_,h=>by assumption
 |x::a,y::b,z::c,d,e=>by
  rw[HT.nQ]at d e ⊢;by_cases f:x=y
  .subst f
   rw[if_pos rfl]at d;by_cases g:x=z
   .rw[if_pos g]at e ⊢
    exact BB a b c d e
   simp_all
  .rw[if_neg f]at d
   grind
theorem xP:∀a b:List Int,HT.lexLt a b=false->HT.lexLt b a=false->a=b
 |[],[],_,_=>rfl
 |[],_::_,h,_=>by cases h
 |_::_,[],_,h=>by cases h
 |x::a,y::b,c,d=>by
  rw[HT.nQ]at c d;by_cases e:x=y
  .subst e
   rw[if_pos rfl]at c d;rw[xP a b c d]
  lia
def NC(a b c:List Int)(h:HT.lexLt a c=true):HT.lexLt a b=true\/HT.lexLt b c=true:=by
 cases d:HT.lexLt a b with
 |true=>exact .inl rfl
 |false=>
  right;cases e:HT.lexLt b a with
  |true=>exact BB b a c e h
  |false=>rw[<-xP a b d e];assumption
def sm:kl:=⟨List Int,HT.lexLt,BA,BB,NC,xP⟩
inductive i0(h:Heap):List Value->List (List Int)->Prop where
 |nil:i0 h [] []
 |cons {x:Addr} {o:Obj} {xs:Array Value} {k:Nat} {ns:List Int} {vs:List Value} {nss:cS} (ho:h.get? x=some o) (hc:o.cls= .type "tuple") (hd:o.data= .seq xs k) (hi:dO xs.toList ns) (hne:ns≠[]) (r:i0 h vs nss):i0 h (.ref x::vs) (ns::nss)
theorem i0.mono(k:∀x o,h.get? x=some o->o.cls= .type "tuple"->h'.get? x=some o):∀{vs:List Value} {nss:cS},i0 h vs nss->i0 h' vs nss
 |_,_,.nil=>.nil
 |_,_,.cons a c d i n r=>.cons (k _ _ a c) c d i n (i0.mono k r)
theorem i0.at:∀{vs:List Value} {nss:cS} {i:Nat},i0 h vs nss->i<vs.length->∃x o xs k,vs.getD i fE= .ref x/\h.get? x=some o/\o.cls= .type "tuple"/\o.data= .seq xs k/\dO xs.toList (nss.getD i [])/\nss.getD i []≠[]
 |_,_,_,.nil,a=>by simp_all
 |_,_,0,.cons b c d a n _,_=>⟨_,_,_,_,rfl,b,c,d,a,n⟩
 |_,_,i+1,.cons _ _ _ _ _ r,a=>by
  obtain⟨x,o,xs,k,q⟩:=i0.at (i:=i) r (by simp_all);exact⟨x,o,xs,k,by assumption⟩
theorem i0.firsts:∀{vs:List Value} {nss:cS},i0 h vs nss->∃fs,PySem.W.KatTups h vs fs/\fs.length=vs.length/\∀f∈fs,∃n t,f=jx n t
 |_,_,.nil=>⟨[],.nil,rfl,λ f a=>by simp_all⟩
 |_,_,.cons (xs:=xs) ho hc hd hi _ r=>by
  obtain⟨fs,b,c,d⟩:=i0.firsts r;obtain⟨l,rfl⟩:∃l:List _,xs=l.toArray:=⟨xs.toList,by simp⟩
  cases hi with
  |nil=>simp_all
  |cons n t q=>
   refine⟨.int n t::fs,.cons ho hc hd (by simp) b,by simp_all,λ f a=>?_⟩;rcases b8.mp a with rfl|a
   .exact⟨n,t,rfl⟩
   simp_all
section
variable{prog:bD}{w:World}{A:cg}{E:Value->ax->Prop}{s:ax}
def VU:∀{xs ys:List Value} {ns m:List Int} (i:Nat),dO xs ns->dO ys m->fin=decide (xs.length<ys.length)->Q (HT.lexLt ns m) s->PySem.W.KatLex prog w A b fin Q (xs.zip ys) i s:=by
 intro xs ys ns m i c;induction c generalizing ys m i with
 |nil=>intro a h q;cases a<;>(subst h;exact q)
 |@cons x t xs ns r d=>
  intro a h q;cases a with
  |nil=>subst h;exact q
  |@cons y u ys m f=>?_
  rw[qa];refine PySem.W.kat_cons (DI ?_);rw[HT.nQ]at q;by_cases e:x=y
  .rw[if_pos e]at q
   rw[show(x==y)=true by simpa using e];exact PySem.W.kat_yes (d (i+1) f (by rw[h];simp) q)
  .rw[if_neg e]at q
   rw[show(x==y)=false by simpa using e];refine PySem.W.kat_no ?_;cases g:(b&&i==0)with
   |true=>exact oneLt_int q
   |false=>exact PySem.W.kat_one _ _ (JR q)
def VV(h:s.heap.get? x=some ox)(d:ox.data= .seq xs n)(a:s.heap.get? y=some oy)(c:oy.data= .seq ys k)(i:dO xs.toList ns)(j:dO ys.toList ms)
  (q:Q (HT.lexLt ns ms) s):wpAny (model prog w) A (keyLt' (tuples' b) (.ref x) (.ref y)) Q E s:=
 PySem.W.kat_lt h d a c (VU 0 i j (by simp) q)
noncomputable def jF(vs:List Value)(p:Array Nat):Array Value:=(p.toList.map λ i=>vs.getD i fE).toArray
def VW(h:vs.length<2):(vs.toArray.zip vs.toArray).map (·.2)=jF vs (dY vs.length).toArray:=by
 cases vs with
 |nil=>simp[jF]
 |cons v t=>
  cases t with
  |nil=>simp[jF]
  |cons u t=>exact absurd h (zY.mpr (Nat.le_add_left 2 _))
def VX(l:s.heap.get? a=some (eB "list" vs.toArray c))(N:i0 s.heap vs nss)(B:vs.length<64)
  (h:∀p:Array Nat,gM vs.length p->gE (O:=sm) (λ i=>nss.getD i []) p vs.length->P (.done (.ret .none)) {s with heap:=wu s.heap a vs (jF vs p)}):
  wpAny (model prog w) A (hY.«list.sort» ⟨[.ref a],[]⟩) P E s:=by
 have R:a<s.heap.objs.size:=cb l;have hz:vs.length<=aQ:=by rw[ko];lia
 obtain⟨D,m⟩:∃D,(s.heap.update a (lZ λ _=>(#[]:Array Value))).get? a=some (eB "list" #[] D):=⟨_,wt l λ _=>#[]⟩
 have keep:∀x o,s.heap.get? x=some o->o.cls= .type "tuple"->(((s.heap.update a (lZ λ _=>(#[]:Array Value))).push (eB "tuple" vs.toArray 0)).push (eB "list" #[] 0)).get? x=some o:=λ x o e q=>by
  have F:x≠a:=λ z=>by
   subst z;rw[l]at e;cases e;exact absurd q (show¬(mJ "list"=mJ "tuple")by decide)
  refine bM _ (bM _ ?_);rw[uh _ _ _ _ F];exact e
 have b:(((s.heap.update a (lZ λ _=>(#[]:Array Value))).push (eB "tuple" vs.toArray 0)).push (eB "list" #[] 0)).get? a=some (eB "list" #[] D):=bM _ (bM _ m);have d:=N.mono keep;rw[list_sort_plain];refine av (listItems_at l rfl (av (Dn l rfl ?_ (by rw[et];exact hz) (dI _))));refine av (Dp m rfl (av (wpAny_newTuple ?_ (by show vs.length<=_;exact hz))));refine av (DX (jt ?_) (dI _));show wpAny (model prog w) A _ P E {s with heap:=((s.heap.update a (lZ λ _=>(#[]:Array Value))).push (eB "tuple" vs.toArray 0)).push (eB "list" #[] 0)};cb_eq;have hsz:∀p:Array Nat,gM vs.length p->(jF vs p).size=vs.length:=λ p g=>by unfold jF;rw[et,bg,gZ,g.sz]
 by_cases k:vs.toArray.size<2
 .rw[if_pos k,if_pos k]
  refine av (aL ?_);rw[StateT.run_pure];refine av (aL ?_);have f:vs.length<2:=by simpa using k
  have g:gM vs.length (dY vs.length).toArray:=IR _;have S:=VW f;cb_eq;refine av (Dp b rfl ?_);show wpAny (model prog w) A (Builtin.List.listUpdate (.ref a) (λ _=>(vs.toArray.zip vs.toArray).map (·.2))>>=_) P E _;rw[S];refine av (Dn b rfl ?_ (dI _) (by show(jF vs _).size<=_;rw[hsz _ g];lia));simp only[bne_self_eq_false,jr,if_false];exact aL (h _ g λ i j U L=>by rw[show i=j by lia];exact BA _)
 .rw[if_neg k,if_neg k]
  have f:2<=vs.length:=Nat.le_of_not_lt (show¬vs.length<2 by simpa using k);obtain⟨fs,V,f2,W⟩:=d.firsts;refine av (PySem.W.kat_kind (T:=.type "int") V (by lia) (λ v X=>?_) (by decide) ?_)
  .obtain⟨n,t,rfl⟩:=W v X
   exact Q3
  rw[show(mJ "int" !=mJ "tuple")=true by decide];refine av (g7 (PySem.W.kat_run (κ:=tuples' true) (ks:=vs) (vs:=vs) (Q:=λ st s'=>s'={s with heap:=((s.heap.update a (lZ λ _=>(#[]:Array Value))).push (eB "tuple" vs.toArray 0)).push (eB "list" #[] 0)}/\∃p:Array Nat,gM vs.length p/\gE (O:=sm) (λ i=>nss.getD i []) p vs.length/\(arrOf st).map (·.2)=jF vs p/\tU st=none)
   (G:=λ p s'=>s'={s with heap:=((s.heap.update a (lZ λ _=>(#[]:Array Value))).push (eB "tuple" vs.toArray 0)).push (eB "list" #[] 0)}/\gM vs.length p/\gE (O:=sm) (λ i=>nss.getD i []) p vs.length)
   rfl f B (λ p st s' _ H J u=>⟨u.1,p,u.2.1,u.2.2,PySem.W.kat_snds rfl H,J⟩) ?_) (λ r s' hr=>?_) λ _ _ e=>e)
  .refine NB (O:=sm) (kz:=λ i=>nss.getD i []) (n:=vs.length) (I:=λ s'=>s'={s with heap:=((s.heap.update a (lZ λ _=>(#[]:Array Value))).push (eB "tuple" vs.toArray 0)).push (eB "list" #[] 0)}) (λ i j C s' Y Z L hC=>?_) _ _ rfl (VT (by lia) λ p g a2 s' K=>⟨K,g,a2⟩)
   subst Y;unfold PySem.W.kas_ask;obtain⟨x,ox,xs,kx,x1,x2,_,x4,x5,_⟩:=d.at Z;obtain⟨y,oy,ys,ky,y1,y2,_,y4,y5,_⟩:=d.at L;rw[x1,y1];exact VV x2 x4 y2 y4 x5 y5 (hC _ rfl)
  .obtain⟨⟨⟩,st⟩:=r
   obtain⟨e,p,M,H,J,u⟩:=hr;subst e;refine av (Dp b rfl ?_);rw[J,u];refine av (Dn b rfl ?_ (dI _) (by show(jF vs p).size<=_;rw[hsz p M];lia));simp only[bne_self_eq_false,jr,if_false];exact aL (h p M H)
end
theorem sub_len[BEq α][LawfulBEq α]:∀{l l':List α},l.Nodup->(∀x∈l,x∈l')->l.length<=l'.length
 |[],_,_,_=>dI _
 |x::l,l',n,h=>by
  have a:=h x c0;have i:=sub_len (l':=l'.erase x) (iq.mp n).2 λ y b=>(Jf λ e=>by grind).mpr (h y (dN _ b))
  rw[C4 a]at i
  have:=C6 a
  rw[g0];lia
def xQ(xs:Array Nat):Prop:=∀i j,i<j->j<xs.size->xs.getD i 0<xs.getD j 0
theorem FI(hr:xQ xs):∀(f l h:Nat),l<=h->h<=xs.size->h-l<=f->(∀i,i<l->xs.getD i 0<j)->(∀i,h<=i->i<xs.size->j<=xs.getD i 0)->
  AA xs j f l h<=xs.size/\(∀i,i<AA xs j f l h->xs.getD i 0<j)/\∀i,AA xs j f l h<=i->i<xs.size->j<=xs.getD i 0
 |0,l,h,k,a,n,b,c=>by
  have e:l=h:=by lia
  subst e;exact⟨a,b,c⟩
 |f+1,l,h,k,a,n,b,c=>by
  unfold AA;by_cases g:l<h
  .rw[if_pos g]
   cb_eq;have m:(l+h) / 2<xs.size:=by lia
   have e:xs.getD ((l+h) / 2) j=xs.getD ((l+h) / 2) 0:=by simp[tF,m]
   rw[e];by_cases d:xs.getD ((l+h) / 2) 0<j
   .rw[if_pos d]
    refine FI hr f _ h (by lia) a (by lia) (λ i o=>?_) c;by_cases q:i=(l+h) / 2
    .rw[q];exact d
    .exact qd (hr i ((l+h) / 2) (by lia) m) d
   .rw[if_neg d]
    refine FI hr f l _ (by lia) (by lia) (by lia) b λ i r p=>?_
    by_cases q:i=(l+h) / 2
    .rw[q];lia
    .have:=hr ((l+h) / 2) i (by lia) p
     lia
  .rw[if_neg g]
   have e:l=h:=by lia
   subst e;exact⟨a,b,c⟩
def BC(hr:xQ xs)(j:Nat):gQ xs j<=xs.size/\(∀i,i<gQ xs j->xs.getD i 0<j)/\∀i,gQ xs j<=i->i<xs.size->j<=xs.getD i 0:=
 FI hr _ 0 _ (dI _) (bJ _) (by lia) (λ i h=>by lia) λ i a b=>by lia
structure fJ(t:k7)(n:Nat):Prop where
 dum:t.dummies=#[]
 siz:t.place.size=n
 ris:xQ t.place
 top:∀i,i<n->t.place.getD i 0<=t.mask
 msk:t.mask=7/\n<5\/t.mask=31/\n<19\/t.mask=127/\n<77
 pla:t.plain=true
def fJ.fresh(led:Bool):fJ (KR 0 0 led) 0:=⟨rfl,rfl,λ i j _ h=>by simp[KR]at h,λ i h=>by lia,.inl ⟨rfl,by lia⟩,rfl⟩
def fJ.few(h:fJ t n):n<t.mask:=by
 rcases h.msk with ⟨e,l⟩|⟨e,l⟩|⟨e,l⟩<;>lia
theorem fJ.fill(h:fJ t n):t.fill=n:=by unfold KS;rw[h.dum,h.siz];rfl
theorem fJ.fits(h:fJ t n):t.fits n=true:=by
 unfold KU;rw[h.fill,h.siz]
 have:=h.few
 simp;lia
def FJ(h:fJ t n)(j:Nat):t.slot j= .empty\/∃i,i<n/\t.slot j= .live i/\t.place.getD i 0=j:=by
 unfold KV;cb_eq;by_cases e:(t.place[gQ t.place j]? ==some j)=true
 .rw[if_pos e]
  have a:=beq_iff_eq.mp e;obtain⟨b,c⟩:=CT.mp a;exact .inr ⟨_,by rw[<-h.siz];exact b,rfl,by simp_all⟩
 .rw[if_neg e]
  have:wR t.dummies j=false:=by rw[h.dum];unfold wR;simp
  rw[this];exact .inl (by simp)
def VY(h:fJ t n)(e:t.slot j= .empty):∀i,i<n->t.place.getD i 0≠j:=by
 intro i a q;obtain⟨k,b,c⟩:=BC h.ris j;have d:gQ t.place j=i:=by
  rcases JI (gQ t.place j) i with z|z|z
  .have l:=c _ (bJ _) (by rw[h.siz];lia)
   have m:=h.ris _ i z (by rw[h.siz];exact a);lia
  .exact z
  .have:=b i z
   lia
 have f:i<t.place.size:=by rw[h.siz];exact a
 have g:t.place[i]? =some j:=by simp_all
 unfold KV at e;dsimp only at e;rw[d,g]at e;simp at e
noncomputable def i2(m:Nat):Nat->Nat×Nat->Nat×Nat
 |0,st=>st
 |k+1,st=>i2 m k (mI m st.1 st.2)
theorem ND(m:Nat):∀(k:Nat) (st:Nat×Nat),(i2 m k st).2=st.2 / 32^k
 |0,st=>by simp[i2]
 |k+1,st=>by
  show(i2 _ k _).2=_
  rw[ND _ k];show st.2 / 32 / 32^k=_;rw[Nat.div_div_eq_div_mul,Nat.pow_succ,Nat.mul_comm]
theorem NF(m:Nat):∀(j k:Nat) (st:Nat×Nat),i2 m (j+k) st=i2 m k (i2 m j st)
 |0,k,st=>by rw[Nat.zero_add];rfl
 |j+1,k,st=>by
  rw[show j+1+k=(j+k)+1 by lia];exact NF _ j k _
noncomputable def qW(M:Nat):Nat->Nat->Nat
 |0,i=>i
 |k+1,i=>qW M k ((i*5+1)%M)
theorem BD(M:Nat):∀(j k i:Nat),qW M (j+k) i=qW M k (qW M j i)
 |0,k,i=>by rw[Nat.zero_add];rfl
 |j+1,k,i=>by
  rw[show j+1+k=(j+k)+1 by lia];exact BD M j k _
theorem NG(m:Nat):∀(k i:Nat),i2 m k (i,0)=(qW (m+1) k i,0)
 |0,i=>rfl
 |k+1,i=>by
  show i2 _ k _=_
  have:mI m i 0=((i*5+1)%(m+1),0):=by rfl
  rw[this];exact NG _ k _
def VZ:∀M∈[8,32,128],(∀t∈dY M,∃k∈dY M,qW M k 0=t)/\qW M M 0=0:=by f_are
def V0(m:mask=7\/mask=31\/mask=127)(n:i<=mask)(o:t<=mask):∃k,k<=mask/\qW (mask+1) k i=t:=by
 have M:mask+1∈[8,32,128]:=by rcases m with e|e|e<;>subst e<;>decide
 obtain⟨h,f⟩:=VZ _ M;obtain⟨a,g,c⟩:=h i (by simp;lia);obtain⟨b,j,d⟩:=h t (by simp;lia);simp only[oN]at g j;by_cases l:a<=b
 .refine⟨b-a,by lia,?_⟩
  rw[<-c,<-BD,show a+(b-a)=b by lia,d]
 .refine⟨mask+1-a+b,by lia,?_⟩
  rw[<-c,<-BD,show a+(mask+1-a+b)=(mask+1)+b by lia,BD,f,d]
def V1(h:Int):jw h<2^64:=by
 unfold jw;lia
def NH(m:mask=7\/mask=31\/mask=127)(h:Int)(a:t<=mask)(x:Nat):∃k,k<mask+15/\(i2 mask k (x,jw h)).1=t:=by
 have e:(i2 mask 13 (x,jw h)).2=0:=by
  rw[ND]
  have:=V1 h
  exact Nat.div_eq_of_lt (qd this (by decide))
 have b:(i2 mask 13 (x,jw h)).1<=mask:=by
  show(i2 mask 12 (mI mask x (jw h))).1<=mask
  have g:∀k (st:Nat×Nat),st.1<=mask->(i2 mask k st).1<=mask:=by
   intro k;induction k with
   |zero=>intro st q;exact q
   |succ k i=>
    intro st q;refine i _ ?_
    show(st.1*5+1+st.2 / 32)%(mask+1)<=mask
    exact tP (rD _ (tR _))
  refine g 12 _ ?_
  show(x*5+1+jw h / 32)%(mask+1)<=mask
  exact tP (rD _ (tR _))
 obtain⟨k,f,c⟩:=V0 m b a;refine⟨13+k,by lia,?_⟩;rw[NF];have d:i2 mask 13 (x,jw h)=((i2 mask 13 (x,jw h)).1,0):=by rw[<-e]
 rw[d,NG];exact c
def NI(h:i<=mask):i<=mH mask i/\mH mask i<=mask/\mH mask i<=i+9:=by
 unfold mH;split<;>lia
section
variable{t:k7}{n:Nat}{hashAt:Nat->Int}{h:Int}
abbrev BE(t:k7)(i p:Nat):Em:={j:=i,more:=mH t.mask i-i,i:=i,perturb:=p,dummy:=none}
def NJ(fuel:Nat)(p:Em):rL t hashAt h (fuel+1) p=(match t.slot p.j with
  | .empty=>some (.empty p.j p.dummy)
  | .dummy=>rL t hashAt h fuel (t.advance {p with dummy:=some p.j})
  | .live i=>if hashAt i==h then some (.candidate p.j i (t.advance p))else rL t hashAt h fuel (t.advance p)):=rfl
theorem NK(T:fJ t n)(a:∀i,i<n->hashAt i≠h):∀(m fuel:Nat) (p:Em),p.more=m->p.dummy=none->
  (∃j,p.j<=j/\j<=p.j+m/\t.slot j= .empty/\rL t hashAt h (fuel+m+1) p=some (.empty j none))\/
  (t.slot p.j≠.empty/\rL t hashAt h (fuel+m+1) p=rL t hashAt h fuel (BE t (mI t.mask p.i p.perturb).1 (mI t.mask p.i p.perturb).2))
 |0,fuel,p,c,d=>by
  rw[show fuel+0+1=fuel+1 from rfl,NJ];rcases FJ T p.j with e|⟨i,b,e,_⟩
  .rw[e]
   exact .inl ⟨p.j,bJ _,bJ _,e,by rw[d]⟩
  .rw[e]
   right;refine⟨by simp,?_⟩;cb_eq;rw[if_neg (by simpa using a i b)];congr 1;unfold KQ;rw[if_neg (by lia)];simp[BE,d]
 |m+1,fuel,p,c,d=>by
  rw[NJ];rcases FJ T p.j with e|⟨i,b,e,_⟩
  .rw[e]
   exact .inl ⟨p.j,bJ _,by lia,e,by rw[d]⟩
  .rw[e]
   cb_eq;rw[if_neg (by simpa using a i b)];have f:t.advance p={p with j:=p.j+1,more:=p.more-1}:=by
    unfold KQ;rw[if_pos (by lia)]
   rw[f];rcases NK T a m fuel {p with j:=p.j+1,more:=p.more-1} (by show p.more-1=m;lia) d with ⟨j,q1,q2,q3,q4⟩|⟨q1,q2⟩
   .exact .inl ⟨j,by show p.j<=j;have:p.j+1<=j:=q1;lia,by have:j<=p.j+1+m:=q2;lia,q3,q4⟩
   .exact .inr ⟨by simp,q2⟩
theorem NL(T:fJ t n)(a:∀i,i<n->hashAt i≠h):∀(N fuel i p:Nat),i<=t.mask->10*N<=fuel->
  (∃j,j<=t.mask/\t.slot j= .empty/\rL t hashAt h fuel (BE t i p)=some (.empty j none))\/∀k,k<N->t.slot (i2 t.mask k (i,p)).1≠.empty
 |0,fuel,i,p,b,d=>.inr λ k e=>by lia
 |N+1,fuel,i,p,b,d=>by
  obtain⟨r,u,v⟩:=NI b;obtain⟨f,rfl⟩:∃f,fuel=f+(mH t.mask i-i)+1:=⟨fuel-(mH t.mask i-i)-1,by lia⟩
  rcases NK T a (mH t.mask i-i) f (BE t i p) rfl rfl with ⟨j,c,q,g,l⟩|⟨c,q⟩
  .exact .inl ⟨j,by have:j<=i+(mH t.mask i-i):=q;lia,g,l⟩
  .have m:(mI t.mask i p).1<=t.mask:=tP (rD _ (tR _))
   rcases NL T a N f _ (mI t.mask i p).2 m (by lia)with ⟨j,o,s2,s3⟩|s
   .exact .inl ⟨j,o,s2,q.trans s3⟩
   .right
    intro k e;cases k with
    |zero=>exact c
    |succ k=>exact s k (by lia)
def fJ.mask3(T:fJ t n):t.mask=7\/t.mask=31\/t.mask=127:=by
 rcases T.msk with ⟨e,_⟩|⟨e,_⟩|⟨e,_⟩
 .exact .inl e
 .exact .inr (.inl e)
 .exact .inr (.inr e)
def V2(T:fJ t n)(b:∀i,i<n->hashAt i≠h):∃j,j<=t.mask/\t.slot j= .empty/\t.probe hashAt h (t.probeStart h)=some (.empty j none):=by
 have s:jw h%(t.mask+1)<=t.mask:=tP (rD _ (tR _));rcases NL T b (t.mask+15) (10*Az t.mask) _ (jw h) s (by unfold Az;lia)with z|z
 .exact z
 .exfalso
  have K:∀x∈dY (t.mask+1),x∈t.place.toList:=by
   intro x c;simp only[oN]at c;obtain⟨k,d,f⟩:=NH T.mask3 h (t:=x) (by lia) (jw h%(t.mask+1))
   have:=z k d
   rw[f]at this;rcases FJ T x with e|⟨i,g,_,e⟩
   .exact absurd e this
   .rw[<-e]
    have a:i<t.place.size:=by rw[T.siz];exact g
    rw[show t.place.getD i 0=t.place[i]by simp[tF,a]];exact Array.getElem_mem_toList a
  have:=sub_len Jz K
  have l:=T.few;rw[zL,gZ,T.siz]at this;lia
end
def AQ(xs:Array α)(p:Nat)(x d:α)(ah:p<=xs.size)(i:Nat):(l0 xs p x).getD i d=if i<p then xs.getD i d else if i=p then x else xs.getD (i-1) d:=by
 have e:∀(ys:Array α) i,ys.getD i d=(ys.toList[i]?).getD d:=λ ys i=>by simp_all
 rw[e,e,e,SetTable.toList_insertAt];have l:p<=xs.toList.length:=by simpa using ah
 by_cases h:i<p
 .rw[if_pos h,ry (by simp_all),List.getElem?_take,if_pos h]
 .rw[if_neg h,zw (by simp_all),rA,Nat.min_eq_left l]
  by_cases a:i=p
  .rw[if_pos a,a,Nat.sub_self]
   rfl
  .rw[if_neg a,show i-p=(i-p-1)+1 by lia,nC,List.getElem?_drop]
   congr 2;lia
def BF(xs:Array α)(p:Nat)(x:α):(l0 xs p x).size=xs.size+1:=by
 rw[<-gZ,(KO xs p x).length_eq];simp
def NM{t:k7}(h:t.fill=n):t.tooFull=decide (t.mask*3<=n*5):=by unfold SetTable.tooFull;rw[h]
structure nh(t:k7)(n:Nat):Prop where
 dum:t.dummies=#[]
 siz:t.place.size=n
 ris:xQ t.place
 top:∀i,i<n->t.place.getD i 0<=t.mask
 msk:t.mask=7/\n<=5\/t.mask=31/\n<=19\/t.mask=127/\n<77
 pla:t.plain=true
theorem nh.fill(h:nh t n):t.fill=n:=by unfold KS;rw[h.dum,h.siz];rfl
theorem nh.fits(h:nh t n):t.fits n=true:=by
 unfold KU;rw[h.fill,h.siz]
 have:=h.msk
 simp;lia
def V3(T:fJ t n)(m:n<76)(o:j<=t.mask)(p:t.slot j= .empty):nh (t.put j).1 (n+1)/\(t.put j).2=gQ t.place j/\(t.put j).2<=n/\(t.put j).1.mask=t.mask/\(t.put j).1.led=t.led:=by
 have h:=VY T p;obtain⟨e,q,r⟩:=BC T.ris j;have hsz:=T.siz;have g:=AQ t.place (gQ t.place j) j 0 e;refine⟨⟨?_,?_,?_,?_,?_,T.pla⟩,rfl,by rw[<-hsz];exact e,rfl,rfl⟩
 .show(if wR t.dummies j then SetTable.eraseAt t.dummies (gQ t.dummies j)else t.dummies)=#[]
  rw[T.dum]
  have:wR #[] j=false:=by unfold wR;simp
  rw[this];rfl
 .show(l0 t.place _ j).size=n+1
  rw[BF,hsz]
 .intro a b c s
  have u:b<n+1:=by
   have:b<(l0 t.place (gQ t.place j) j).size:=s
   rw[BF,hsz]at this;exact this
  show(l0 t.place (gQ t.place j) j).getD a 0<(l0 t.place (gQ t.place j) j).getD b 0
  rw[g,g];by_cases d:a<gQ t.place j
  .rw[if_pos d]
   by_cases f:b<gQ t.place j
   .rw[if_pos f];exact T.ris a b c (by lia)
   .rw[if_neg f]
    by_cases k:b=gQ t.place j
    .rw[if_pos k];exact q a d
    .rw[if_neg k]
     exact T.ris a (b-1) (by lia) (by lia)
  .rw[if_neg d,if_neg (show¬b<gQ t.place j by lia),if_neg (show¬b=gQ t.place j by lia)]
   by_cases l:a=gQ t.place j
   .rw[if_pos l]
    have v:=r (b-1) (by lia) (by lia);have w:=h (b-1) (by lia);lia
   .rw[if_neg l]
    exact T.ris (a-1) (b-1) (by lia) (by lia)
 .intro i x
  show(l0 t.place (gQ t.place j) j).getD i 0<=t.mask
  rw[g];split
  .exact T.top i (by lia)
  .split
   .exact o
   .exact T.top (i-1) (by lia)
 .have:=T.msk
  show t.mask=7/\n+1<=5\/t.mask=31/\n+1<=19\/t.mask=127/\n+1<77;lia
def nh.still{t:k7}(h:nh t n)(f:t.tooFull=false):fJ t n:=by
 rw[NM h.fill]at f;refine⟨h.dum,h.siz,h.ris,h.top,?_,h.pla⟩;rcases h.msk with ⟨e,l⟩|⟨e,l⟩|⟨e,l⟩<;>rw[]at f
 .exact .inl ⟨e,by lia⟩
 .exact .inr (.inl ⟨e,by lia⟩)
 simp_all
def nh.full{t:k7}(h:nh t n)(a:n<=76)(f:t.tooFull=true):n=5\/n=19:=by
 rw[NM h.fill]at f;simp only[decide_eq_true_eq]at f
 have:=h.msk
 lia
noncomputable def heldBy(owner:Array (Option Nat)):List Nat:=owner.toList.filterMap id
theorem FK:∀(l:iL) (j x:Nat),l[j]? =some none->((l.set j (some x)).filterMap id).Perm (x::l.filterMap id)
 |[],j,x,h=>by simp_all
 |a::l,0,x,h=>by
  simp at h;subst h;rfl
 |none::l,j+1,x,h=>by
  have i:=FK l j x (by assumption);assumption
 |some a::l,j+1,x,h=>by
  have i:=FK l j x (by assumption)
  have:(((some a::l).set (j+1) (some x)).filterMap id).Perm (a::x::l.filterMap id):=by simp_all
  exact this.trans (oO _ _ _)
theorem NN:∀(l:iL),(∀j,j<l.length->∃x,l[j]? =some (some x))->(l.filterMap id).length=l.length
 |[],_=>rfl
 |a::l,h=>by
  obtain⟨x,e⟩:=h 0 (by simp);have b:=by simpa using e
  subst b;have i:=NN l λ j c=>by simpa using h (j+1) (by simp_all)
  simp[i]
theorem NO(d:owner.size=mask+1):∀(N i p:Nat),i<=mask->
  (∃j,owner.toList[j]? =some none/\wU mask owner N i p=some j)\/∀k,k<N->∃x,owner.toList[(i2 mask k (i,p)).1]? =some (some x)
 |0,i,p,b=>.inr λ k g=>by lia
 |N+1,i,p,b=>by
  obtain⟨r,t,u⟩:=NI b;have o:wU mask owner (N+1) i p=(match (dY (mH mask i+1-i)).find? λ k=>(owner.getD (i+k) (some 0)).isNone with
   |some k=>some (i+k)
   |none=>wU mask owner N (mI mask i p).1 (mI mask i p).2):=rfl
  rw[o];cases f:(dY (mH mask i+1-i)).find? λ k=>(owner.getD (i+k) (some 0)).isNone with
  |some k=>
   left;have l:=List.mem_of_find?_eq_some f;have c:=List.find?_some f;simp only[oN]at l;have h:i+k<owner.size:=by lia
   refine⟨i+k,?_,rfl⟩;have e:owner.getD (i+k) (some 0)=owner[i+k]:=by simp[tF,h]
   rw[e]at c;rw[rq,CT];exact⟨h,by simpa using c⟩
  |none=>
   have a:=List.find?_eq_none.mp f 0 (by simp;lia);have h:i<owner.size:=by lia
   have e:owner.getD (i+0) (some 0)=owner[i]:=by simp[tF,h]
   rw[e]at a;have m:(mI mask i p).1<=mask:=tP (rD _ (tR _));rcases NO d N _ (mI mask i p).2 m with ⟨j,n,s2⟩|s
   .exact .inl ⟨j,n,s2⟩
   .right
    intro k g;cases k with
    |zero=>
     show∃x,owner.toList[i]? =some (some x)
     rw[rq];cases q:owner[i]with
     |none=>rw[q]at a;simp at a
     |some x=>exact⟨x,by rw[CT];exact⟨h,q⟩⟩
    |succ k=>exact s k (by lia)
def V4(m:mask=7\/mask=31\/mask=127)(o:owner.size=mask+1)(f:(heldBy owner).length<mask+1)(h:Int):
  ∃j,owner.toList[j]? =some none/\wU mask owner (Az mask) (jw h%(mask+1)) (jw h)=some j:=by
 rcases NO o _ _ _ (tP (rD _ (tR mask)))with z|z
 .exact z
 .exfalso
  have:=NN _ λ j a=>by
   rw[gZ,o]at a;obtain⟨k,c,b⟩:=NH m h (t:=j) (by lia) _;obtain⟨x,e⟩:=z k (by assumption);rw[b]at e;exact⟨x,e⟩
  unfold heldBy at f
  grind
noncomputable def BG(m:Nat)(acc:Option (Array (Option Nat)×Nat))(h:Int):Option (Array (Option Nat)×Nat):=do
 let(owner,k) <-acc
 let j <-wU m owner (Az m) (jw h%(m+1)) (jw h)
 pure (owner.setIfInBounds j (some k),k+1)
theorem NP(m:mask=7\/mask=31\/mask=127):∀(s:List Int) (owner:Array (Option Nat)) (k:Nat),owner.size=mask+1->(heldBy owner).Perm (dY k)->k+s.length<=mask->
  ∃o,s.foldl (BG mask) (some (owner,k))=some (o,k+s.length)/\o.size=mask+1/\(heldBy o).Perm (dY (k+s.length))
 |[],owner,k,a,ah,l=>⟨owner,rfl,a,ah⟩
 |h::s,owner,k,a,ah,l=>by
  rw[g0]at l;obtain⟨j,e,b⟩:=V4 m a (by rw[ah.length_eq,zL];lia) h;have t:BG mask (some (owner,k)) h=some (owner.setIfInBounds j (some k),k+1):=by
   unfold BG;simp[b]
  rw[mD,t];obtain⟨c,f,d,g⟩:=NP m s (owner.setIfInBounds j (some k)) (k+1) (by simpa using a) (by
   unfold heldBy;rw[Array.toList_setIfInBounds];refine(FK owner.toList j k e).trans ?_;rw[Dd];exact(List.Perm.cons k ah).trans (List.perm_append_singleton k _).symm) (by lia)
  refine⟨c,?_,d,?_⟩
  .rw[f,g0,show k+1+s.length=k+(s.length+1)by lia]
  .rw[g0,show k+(s.length+1)=k+1+s.length by lia]
   exact g
def V5(m:Nat):heldBy (IQ m none)=[]:=by
 unfold heldBy;simp
def V6(m:mask=7\/mask=31\/mask=127)(h:Array Int)(l:h.size<=mask):∃owner,KP mask h=some owner/\owner.size=mask+1/\(heldBy owner).Perm (dY h.size):=by
 obtain⟨o,a,f,b⟩:=NP m h.toList (IQ (mask+1) _) 0 (by simp) (by rw[V5];simp_all) (by simp_all);refine⟨o,?_,f,by simp_all⟩;have e:KP mask h=(h.foldl (BG _) _).map _:=rfl;simp_all
noncomputable def n4(owner:Array (Option Nat))(m:Nat):List (Nat×Nat):=(dY m).filterMap λ j=>(owner.getD j none).map (j,·)
theorem NQ:∀(l:iL) (b:Nat) (f:Nat->Option Nat),(∀i,i<l.length->f (b+i)=(l[i]?).getD none)->
  ((Dg b l.length).filterMap λ j=>(f j).map (j,·)).map (·.2)=l.filterMap id
 |[],_,_,_=>rfl
 |a::l,b,f,h=>by
  have c:=h 0 (by simp);simp at c;have d:=NQ l _ f λ i e=>by
   have:=h (i+1) (by simp_all)
   rw[show b+(i+1)=b+1+i by lia]at this;assumption
  rw[g0,JA];cases a<;>simp_all
def V7(owner:Array (Option Nat)):(n4 owner owner.size).map (·.2)=heldBy owner:=by
 have:=NQ owner.toList 0 (λ j=>owner.getD j none) λ i h=>by simp
 unfold n4 heldBy;rw[Jg,<-this,gZ]
theorem NR(f:Nat->Option Nat):∀(m b:Nat),(((Dg b m).filterMap λ j=>(f j).map (j,·)).map (·.1)).Pairwise (·< ·)/\∀x∈((Dg b m).filterMap λ j=>(f j).map (j,·)).map (·.1),b<=x/\x<b+m
 |0,b=>⟨.nil,λ x h=>by simp_all⟩
 |m+1,b=>by
  obtain⟨a,i⟩:=NR f m _;rw[JA,pZ];cases c:f b with
  |none=>
   simp only[JO];exact⟨a,λ x h=>by have:=i x h;lia⟩
  |some y=>
   simp only[qe,bu];refine⟨hV.mpr ⟨λ x h=>by have:=i x h;lia,a⟩,λ x h=>?_⟩;rcases b8.mp h with e|h
   .lia
   .have:=i x h
    lia
def NS{l:List Nat}(h:l.Pairwise (·< ·)):xQ l.toArray:=by
 intro i j b c;have a:=by simpa using c
 have:=zB.mp h i j (by lia) a b
 simp[a,show i<l.length by lia];simp_all
def V8{t:k7}(ah:t.plain=true)(d:n=5\/n=19)(s:Array Int)(l:s.size=n):
  ∃t' o,t.relaid s (En n)=some (t',o)/\fJ t' n/\t'.led=t.led/\o.toList.Perm (dY n):=by
 have g:∃mask,SetTable.sizeAbove (En n)-1=mask/\(mask=31/\n=5\/mask=127/\n=19):=by
  rcases d with e|e<;>subst e
  .exact⟨31,by decide,.inl ⟨rfl,rfl⟩⟩
  .exact⟨127,by decide,.inr ⟨rfl,rfl⟩⟩
 obtain⟨mask,p,q⟩:=g;have m:mask=7\/mask=31\/mask=127:=by lia
 obtain⟨owner,u,o2,b⟩:=V6 m s (by lia);have h:=V7 owner;obtain⟨r,c⟩:=NR (λ j=>owner.getD j none) (mask+1) 0;rw[<-Jg]at r c;have k:((n4 owner (mask+1)).map (·.1)).length=n:=by
  rw[bg,<-bg (f:=(·.2)),<-o2,h,b.length_eq,zL,l]
 refine⟨{mask:=mask,place:=((n4 owner (mask+1)).map (·.1)).toArray,dummies:=#[],finger:=t.finger,led:=t.led,moves:=t.movedTo mask,plain:=t.plain},((n4 owner (mask+1)).map (·.2)).toArray,?_,⟨rfl,?_,NS r,?_,?_,ah⟩,rfl,?_⟩
 .unfold SetTable.relaid SetTable.laid
  rw[p,u];rfl
 .simpa using k
 .intro i v
  have a:i<((n4 owner (mask+1)).map (·.1)).length:=by rw[k];exact v
  show((n4 owner (mask+1)).map (·.1)).toArray.getD i 0<=mask
  have:((n4 owner (mask+1)).map (·.1)).toArray.getD i 0=((n4 owner (mask+1)).map (·.1))[i]:=by
   rw[Array.getD_eq_getD_getElem?,List.getElem?_toArray,bP a];rfl
  rw[this]
  have:=c _ (qb a)
  lia
 .show mask=7/\n<5\/mask=31/\n<19\/mask=127/\n<77
  lia
 .show((n4 owner (mask+1)).map (·.2)).Perm (dY n)
  rw[<-o2,h,<-l];exact b
abbrev cH(es:Array (Int×Value))(ep:Nat)(t:k7):Obj:={cls:=.type "set",dict:=none,data:=.set es ep t}
structure TupAt(h:Heap)(x:Addr)(ns:List Int):Prop where
 ex:∃o xs k,h.get? x=some o/\o.cls= .type "tuple"/\o.data= .seq xs k/\dO xs.toList ns
section
variable{prog:bD}{w:World}{A:cg}{E:Value->ax->Prop}{s:ax}
def NT(o:s.heap.get? a=some (cH es ep t))(hz:es'.size<=4000)
  (h:(s.heap.update a (Ej es' t')).get? a=some (cH es' (ep+1) t')->Q () {s with heap:=s.heap.update a (Ej es' t')}):wpAny (model prog w) A (storeSet a es' t') Q E s:=by
 refine wpAny_storeSet_of o rfl (h ?_) (by rw[ko];lia)
 have:=wN (Ej es' t') o (by rw[putSet_of es' t' rfl];rfl)
 rw[putSet_of es' t' rfl]at this;exact this
end
end VL
namespace PySem
section
variable{prog:bD}{w:World}{A:cg}{E:Value->ax->Prop}{s:ax}
def V9(a:Value)(h:Q₁ (.ref s.heap.objs.size) {s with heap:=s.heap.push (VL.cH #[] 0 (.fresh 0 0 (!w.params.followText "set-order")))}):
  fV (model prog w) A (.call (.builtin "set.__new__") ⟨[.type "set",a],[]⟩) (wants Q₁ E) s:=by
 refine DJ ?_;show wpAny _ A.in1 (DG "set.__new__" ⟨[.type "set",a],[]⟩>>=λ _=>again (.builtin "set.__new__" ⟨[.type "set",a],[]⟩)) _ _ s;refine av (wD (F.newCall_set_1 a) (aL ⟨DU Ku _,mE PySem.F.entry_set_new ?_⟩));rw[oV Ku _];unfold hY.«set.__new__» QR;have c:=sub_set_self;obtain⟨ah,g,d,t,os⟩:=s;cb_eq;wp_walk;refine tX (aL ?_);cb_eq;simp only[newObj];exact av (wpAny_alloc (aL (aL h)))
set_option maxHeartbeats 3200000 in
def uY{l:Addr}{T:String}{I:Obj}{Φ:Heap->Prop}{Q:Value->ax->Prop}(v:s.TypeIs (.ref l) T)(G:isSubtype (.type T) (.type "set")=pure false)(H:isSubtype (.type T) (.type "frozenset")=pure false)(O:(mJ T==mJ "dict")=false)
  (x:∀(y:Heap) (i:cg) (j:Value->ax->Prop) (Q₁:Value->ax->Prop),(∀b o,s.heap.get? b=some o->y.get? b=some o)->Q₁ (.ref y.objs.size) {s with heap:=y.push I}->wpAny (model prog w) i (oU (.ref l)) Q₁ j {s with heap:=y})
  (u:∀R:mG->ax->Prop,(∀h' k,Φ h'->(∀b o,s.heap.get? b=some o->h'.get? b=some o)->R (.ok (.ret .none)) {s with heap:=h',toks:=k})->
   fV (model prog w) A.in1.in1 (.builtin "set.update.loop" ⟨[.ref s.heap.objs.size,.ref (s.heap.push (VL.cH #[] 0 (.fresh 0 0 (!w.params.followText "set-order")))).objs.size],[]⟩) R {s with heap:=(s.heap.push (VL.cH #[] 0 (.fresh 0 0 (!w.params.followText "set-order")))).push I})
  (h:∀h' k,Φ h'->(∀b o,s.heap.get? b=some o->h'.get? b=some o)->Q (.ref s.heap.objs.size) {s with heap:=h',toks:=k}):
  wpAny (model prog w) A (call (.type "set") [.ref l]) Q E s:=by
 obtain⟨c,Z,J⟩:=qt.mro;have z:=qt.made;have c6:=qt.sub
 refine wpAny_call (DJ ?_);show wpAny _ _ (callAny (.type "set") _) _ _ _;refine aL ⟨wK _ (by f_are),mE PySem.F.entry_type_call ?_⟩;rw[Around.under_plain (weight_type_call_type "set" [.ref l] []) rfl];have h1:=qt.notType;have h2:=qt.canCreate
 have S:=F.typeCall_set_1 (.ref l);repeat (any_goals (first|assumption|wp_step))
 generalize m:(!w.params.followText "set-order")=led at u;refine rH (V9 (.ref l) (E:=E) (Q₁:=λ n K=>n= .ref s.heap.objs.size/\K={s with heap:=s.heap.push (VL.cH #[] 0 (.fresh 0 0 led))}) ⟨rfl,by rw[m]⟩) λ r K hr=>?_
 cases r with
 |error e=>exact hr
 |ok fl=>
  cases fl with
  |ret n=>
   obtain⟨rfl,rfl⟩:=hr;have U:(s.heap.push (VL.cH #[] 0 (.fresh 0 0 led))).get? s.heap.objs.size=some (VL.cH #[] 0 (.fresh 0 0 led)):=dy _ rfl;have V:wX {s with heap:=s.heap.push (VL.cH #[] 0 (.fresh 0 0 led))} (.ref s.heap.objs.size) "set":=⟨_,U,rfl⟩;have W:=qt.init.lookup;have X:=qt.init.bind (.ref s.heap.objs.size)
   repeat (any_goals (first|assumption|wp_step))
   refine rH (DA (R:=wants (λ r L=>r= .none/\∃h' k,L={s with heap:=h',toks:=k}/\Φ h'/\(∀b o,s.heap.get? b=some o->h'.get? b=some o)) E) qt.init.plain F.entry_set_init (check_set_init_1 V ?_)) λ p L a=>?_
   .obtain⟨Y,B,q⟩:=v
    obtain⟨M,d,f,t⟩:=Y;simp only at q;subst q;have N:(s.heap.push (VL.cH #[] 0 (.fresh 0 0 led))).get? l=some {cls:=.type T,dict:=d,data:=f,slots:=t}:=bM _ B;unfold hY.«set.__init__» noKeywords QU;generalize P:oU=lj;wp_walk;subst P;refine x _ _ _ _ (λ b o e=>bM _ e) (av (DR (u _ λ h' k C D=>?_)));show wpAny _ _ _ _ _ _;refine aL ?_;show wpAny _ _ (ret fE) _ _ _;exact aL ⟨rfl,h',k,rfl,C,D⟩
   .cases p with
    |error e=>exact a
    |ok g=>
     cases g with
     |ret r=>
      obtain⟨rfl,h',k,rfl,C,D⟩:=a
      repeat (any_goals (first|assumption|wp_step))
      exact h _ _ C D
     |_=>exact a.elim
  |_=>exact hr.elim
end
end PySem
namespace VL
open PySem PySem.Spec PyProof.Rows L2
theorem NU:∀{l:List α} {i:Nat} (h:i<l.length),(l[i]::l.eraseIdx i).Perm l
 |a::l,0,_=>lS _
 |a::l,i+1,h=>by
  have h':i<l.length:=by simpa using h
  have b:=NU (l:=l) (i:=i) h'
  show(l[i]::a::l.eraseIdx i).Perm (a::l)
  exact(oO _ _ _).trans (b.cons a)
theorem NV(next:Nat->Nat):∀(f k:Nat) (left:List α) (o:Array α),left.length<=f->(pickOrder.go next f k left o).toList.Perm (o.toList++left)
 |0,k,left,o,h=>by
  have:left=[]:=C5.mp (by omega)
  subst this;rw[g6];exact lS _
 |f+1,k,left,o,h=>by
  unfold pickOrder.go;cases left with
  |nil=>simp
  |cons a l=>
   have t:next k%(a::l).length<(a::l).length:=rD _ (by simp)
   rw[bP t];cb_eq;refine(NV next f (k+1) _ _ (by rw[Je];simp only[t,if_true];simp at h ⊢;omega)).trans ?_;rw[IP,iG];exact List.Perm.append_left _ (NU t)
def Wa(next:Nat->Nat)(xs:Array α):(pickOrder next xs).toList.Perm xs.toList:=by
 have:=NV next xs.size 0 xs.toList #[] (by simp)
 unfold pickOrder;simpa using this
noncomputable def j7(w:World)(d:Addr)(ep:Nat)(es:Array (Int×Value)):Array (Int×Value):=if w.params.followText "set-order" then pickOrder (w.params.setOrder d ep) es else es
def BH(w:World)(d:Addr)(ep:Nat)(es:Array (Int×Value)):(j7 w d ep es).toList.Perm es.toList:=by
 unfold j7;split
 .exact Wa _ _
 .exact lS _
noncomputable def slotAt(w:World)(t:k7):Nat->Nat
 |0=>0
 |i+1=>if w.params.followText "set-order" then 0 else t.place.getD i 0+1
def Wb(T:fJ t n)(f:w.params.followText "set-order"=false):∀i,i<=n->gQ t.place (slotAt w t i)=i
 |0,_=>by
  obtain⟨c,b,a⟩:=BC T.ris 0;show gQ t.place 0=0;cases h:gQ t.place 0 with
  |zero=>rfl
  |succ k=>
   rw[h]at b
   have:=b 0 (by omega)
   omega
 |i+1,d=>by
  unfold slotAt;rw[f];simp only[jr,if_false];obtain⟨c,b,a⟩:=BC T.ris (t.place.getD i 0+1);have s:=T.siz;rcases JI (gQ t.place (t.place.getD i 0+1)) (i+1)with z|z|z
  .have:=a i (by omega) (by omega)
   omega
  .exact z
  .have e:=b (i+1) (by omega)
   have g:=T.ris i (i+1) (by omega) (by omega);omega
section
variable{prog:bD}{w:World}{A:cg}{E:Value->ax->Prop}{s:ax}{d:Addr}{es:Array (Int×Value)}{ep:Nat}{t:k7}
def NW(c:s.heap.get? d=some (cH es ep t))(T:fJ t es.size)(l:t.led= !w.params.followText "set-order")(j:i<=es.size)
  (h:Q (((j7 w d ep es)[i]?).map λ e=>(e.2,slotAt w t (i+1))) s):wpAny (model prog w) A (setNext d (slotAt w t i) i ep) Q E s:=by
 unfold setNext;refine av (tW c rfl T.fits ?_);cb_eq;unfold D2;refine av (av (tX (aL ?_)));show wpAny _ _ (if w.params.followText "set-order"=true then _ else _) _ _ _;unfold j7 at h;cases f:w.params.followText "set-order" with
 |true=>
  rw[f]at h;simp only[if_true]at h ⊢;simp only[bne_self_eq_false,jr,if_false];unfold setWalk;refine av (av (tW c rfl T.fits ?_));cb_eq;unfold D2;refine av (av (tX (aL ?_)));show wpAny _ _ (if w.params.followText "set-order"=true then _ else _) _ _ _;rw[f];simp only[if_true];refine av (tX (aL (aL ?_)));have k:slotAt w t (i+1)=slotAt w t i:=by
   unfold slotAt;cases i with
   |zero=>simp[f]
   |succ i=>simp[f]
  rw[k]at h;exact h
 |false=>
  rw[f]at h l;simp only[jr,if_false]at h ⊢;have m:(!t.plain&&decide (es.size>1))=false:=by rw[T.pla];rfl
  show wpAny _ _ (if (!t.plain&&decide (es.size>1))=true then _ else _) _ _ _;rw[m];simp only[jr,if_false];refine av ?_;show wpAny _ _ (if (!t.led&& !es.isEmpty)=true then _ else _) _ _ _;rw[l];simp only[zl,CW,IT,jr,if_false];refine aL ?_;rw[Wb T f i j];have o:slotAt w t (i+1)=t.place.getD i 0+1:=by unfold slotAt;rw[f];rfl
  rw[o]at h;by_cases a:i<es.size
  .have b:es[i]? =some es[i]:=ro a
   have g:i<t.place.size:=by rw[T.siz];exact a
   have n:t.place[i]? =some (t.place.getD i 0):=by
    rw[ro g];simp[tF,g]
   rw[b,n];rw[b]at h;exact aL h
  .have b:es[i]? =none:=CU (by omega)
   rw[b];rw[b]at h;exact aL h
def va:PySem.Slot "set_iterator" "__next__" "set_iterator.__next__":=
 .of (owner:="set_iterator") (n:="__next__") (by rw[DK,Dz];kernel_rfl) (by f_are) (by f_are) (by f_are) (.inl (by f_are)) (by rw[DO];kernel_rfl)
def NX:PySem.Slot "set_iterator" "__iter__" "set_iterator.__iter__":=
 .of (owner:="set_iterator") (n:="__iter__") (by rw[DK,Dz];kernel_rfl) (by f_are) (by f_are) (by f_are) (.inl (by f_are)) (by rw[DO];kernel_rfl)
def NY:wJ table "set_iterator.__next__"=some hY.«set_iterator.__next__»:=entryFor_of_fast (by kernel_rfl)
def Wc:wJ table "set_iterator.__iter__"=some hY.«dict_keyiterator.__iter__»:=entryFor_alias (id':="dict_keyiterator.__iter__") (by kernel_rfl) rfl (by f_are) (by kernel_rfl)
def Wd:wJ table "set.__iter__"=some hY.«frozenset.__iter__»:=entryFor_alias (id':="frozenset.__iter__") (by kernel_rfl) rfl (by f_are) (by kernel_rfl)
def NZ(a:Value):argsOk "set_iterator.__next__" ⟨[a],[]⟩:=by unfold argsOk;kernel_rfl
def We(a:Value):argsOk "set_iterator.__iter__" ⟨[a],[]⟩:=by unfold argsOk;kernel_rfl
end
section
variable{prog:bD}{w:World}{A:cg}{E:Value->ax->Prop}{s:ax}{d I:Addr}{es:Array (Int×Value)}{ep:Nat}{t:k7}{c:Nat}
abbrev FL(d:Addr)(sl i n ep:Nat):Obj:={cls:=.type "set_iterator",data:=.fields #[.int sl 0,.int i 0,.ref d,.int n 0,.int ep 0]}
def BI(h:Heap)(I d:Addr)(sl i n ep:Nat):Prop:=h.get? I=some (FL d sl i n ep)
def N0{h:Heap}{sl i n ep k:Nat}(e:h.get? I=some {cls:=.type "set_iterator",data:=.fields vs}):(h.update I (Ax (·.setIfInBounds k x))).get? I=some {cls:=.type "set_iterator",data:=.fields (vs.setIfInBounds k x)}:=by
 have:=wN (Ax (·.setIfInBounds k x)) e (Ei (wQ rfl _))
 rw[this];rfl
def Wf(a:BI s.heap I d (slotAt w t c) c es.size ep)(o:s.heap.get? d=some (cH es ep t))(T:fJ t es.size)(l:t.led= !w.params.followText "set-order"){v:Value}(j:c<es.size)(b:((j7 w d ep es)[c]?).map (·.2)=some v){Q:Option Value->ax->Prop}
  (h:∀h',BI h' I d (slotAt w t (c+1)) (c+1) es.size ep->qu I s.heap h'->Q (some v) {s with heap:=h'}):wpAny (model prog w) A (jv (.ref I)) Q E s:=by
 have f:s.TypeIs (.ref I) "set_iterator":=⟨_,a,rfl⟩;unfold jv;refine av (wB (nJ (name:=nO "__next__") f va (jU va f NY ?_ (NZ _))));show wpAny _ _ (fieldsOf (.ref I)>>=_) _ _ s;refine av (ua a rfl ?_);cb_eq;refine av ?_;unfold setEntries;refine av (tW o rfl T.fits (aL ?_));simp only[bne_self_eq_false,jr,if_false];refine av ?_;simp only[kT];refine NW o T l (jS j) ?_;cases q:(j7 w d ep es)[c]? with
 |none=>rw[q]at b;cases b
 |some e=>
  rw[q]at b;cases b;dsimp only[qe];refine av (rG a rfl (by simp) ?_);have g:=N0 (h:=s.heap) (I:=I) (k:=0) (x:=lY (slotAt w t (c+1))) (sl:=0) (i:=0) (n:=0) (ep:=0) a;refine av (rG g rfl (by simp) ?_);have m:=N0 (k:=1) (x:=lY (c+1)) (sl:=0) (i:=0) (n:=0) (ep:=0) g;exact aL ⟨_,rfl,aL (h _ m ((nM ..).trans (nM ..)))⟩
def Wg(f:A.handled=none)(c:BI s.heap I d (slotAt w t es.size) es.size es.size ep)(o:s.heap.get? d=some (cH es ep t))(T:fJ t es.size)(l:t.led= !w.params.followText "set-order")
  (h:∀h',Eh I s.heap h'->Q none {s with heap:=h'}):wpAny (model prog w) A (jv (.ref I)) Q E s:=by
 have e:s.TypeIs (.ref I) "set_iterator":=⟨_,c,rfl⟩;unfold jv;refine av (wB (nJ (name:=nO "__next__") e va (jU va e NY ?_ (NZ _))));show wpAny _ _ (fieldsOf (.ref I)>>=_) _ _ s;refine av (ua c rfl ?_);cb_eq;refine av ?_;unfold setEntries;refine av (tW o rfl T.fits (aL ?_));simp only[bne_self_eq_false,jr,if_false];refine av ?_;simp only[kT];refine NW o T l (bJ _) ?_;have q:(j7 w d ep es)[es.size]? =none:=CU (by
  have:=(BH w d ep es).length_eq
  rw[gZ,gZ]at this;lia)
 rw[q];dsimp only[JO];refine av (rG c rfl (by simp) ?_);show wpAny _ _ (uf (.type "StopIteration") []>>=_) _ _ _;refine av ?_;simp only[uf,newTuple];refine av (hG (av (m:=tZ _ _) (wD (a:=fE) (by first|rfl|(simp only[tZ];rfl)) (hG ?_ (by size_fits)))) (by size_fits));simp only[raiseNew];refine av (DW ?_);rw[show A.in1.handled=none from f];refine av (aL (D0 ?_));refine av (Af (T:="StopIteration") (b:=true) ⟨_,dy _ rfl,rfl⟩ DN ?_);exact aL (h _ (((nM ..).extBut.push _).push _))
def Wh(q:A.handled=none)(I d:Addr)(n:d≠I)(es:Array (Int×Value))(ep:Nat)(t:k7)(T:fJ t es.size)(l:t.led= !w.params.followText "set-order"):
  Walks prog w A I [I,d] [I] es.size (λ i v=>((j7 w d ep es)[i]?).map (·.2)=some v) (λ i h=>BI h I d (slotAt w t i) i es.size ep/\h.get? d=some (cH es ep t)) where
 sub:=λ b a=>by simp at a;simp[a]
 frame:=λ _ _ _ st m=>⟨m I (by simp) _ st.1,m d (by simp) _ st.2⟩
 item:=λ i s Q E r st c=>by
  have u:i<(j7 w d ep es).size:=by
   have:=(BH w d ep es).length_eq
   rw[gZ,gZ]at this;lia
  have p:((j7 w d ep es)[i]?).map (·.2)=some (j7 w d ep es)[i].2:=by rw[ro u];rfl
  refine Wf st.1 st.2 T l r p λ h' g f=>?_
  exact c _ h' s.toks p ⟨g,by rw[f.2 d n];exact st.2⟩ λ b o a e=>f.extBut b o (λ h=>a (by simp[h])) e
 done:=λ s Q E st c=>Wg q st.1 st.2 T l λ h' j=>c h' s.toks λ b o a e=>j b o (λ h=>a (by simp[h])) e
 self:=λ i s Q E st c=>by
  have k:s.TypeIs (.ref I) "set_iterator":=⟨_,st.1,rfl⟩;refine DE k NX (jU NX k Wc ?_ (We _));show wpAny _ _ (ret (.ref I)) _ _ s;exact aL ⟨_,rfl,"set_iterator",_,k,va.lookup,c⟩
def Wi(o:s.heap.get? d=some (cH es ep t))(T:fJ t es.size)(h:Q (.ref s.heap.objs.size) {s with heap:=s.heap.push (FL d 0 0 es.size ep)}):wpAny (model prog w) A (oU (.ref d)) Q E s:=by
 have a:s.TypeIs (.ref d) "set":=⟨_,o,rfl⟩;refine DE a Kv (jU Kv a Wd ?_ (PySem.F.args_set_iter_1 _));unfold hY.«frozenset.__iter__» QT slotArgs;simp only[List.isEmpty_nil,CW,jr,↓reduceIte,bind_assoc,kk,bne_self_eq_false];unfold QQ QS;refine av (aL (av (aL (av (av (wpAny_setEntries_of o rfl T.fits (aL ?_)))))));unfold setDrawn;refine av (av (tW o rfl T.fits ?_));cb_eq;unfold D2;refine av (av (tX (aL (aL ?_))));have b:(!w.params.followText "set-order"&&(!t.plain&&decide (es.size>1)))=false:=by rw[T.pla];simp
 show wpAny _ _ (if (!w.params.followText "set-order"&&(!t.plain&&decide (es.size>1)))=true then _ else _) _ _ _;rw[b];simp only[jr,if_false];refine av (aL (av (wpAny_setEpoch_of o rfl T.fits ?_)));simp only[newFields];refine av (hG (aL ⟨_,rfl,"set_iterator",_,⟨_,dy _ rfl,rfl⟩,va.lookup,?_⟩));exact h
def Wj(c:s.TypeIs (.ref r) "set")(h:Q false s):wpAny (model prog w) A (Kd (.ref r)) Q E s:=by
 unfold Kd;refine av (DM c PySem.F.slot_set_len.lookup ?_);generalize i:("set.__len__":String)=d;wp_delta;rw[show splitId d=some ("set","__len__")from by subst i;decide+kernel];subst i;refine av (Af (T:="set") (b:=true) c (by rw[DO];kernel_rfl) ?_);refine wpAny_ite_split (λ a=>absurd a (by decide)) λ _=>wpAny_ite_split (λ _=>?_) λ a=>absurd (by f_are) a
 exact av (rI c (aL h))
def Wk(T:fJ t es.size)(l:t.led= !w.params.followText "set-order"):K7 prog w "set" d d es.size (λ i v=>((j7 w d ep es)[i]?).map (·.2)=some v) (λ h=>h.get? d=some (cH es ep t)) where
 type:=λ _ m=>⟨_,m,rfl⟩
 there:=λ _ m=>⟨cb m,cb m⟩
 keep:=λ _ _ m k=>k d (.inl rfl) _ m
 notList:=by decide
 notTuple:=by decide
 hint:=λ _ _ _ _ m q=>Wj ⟨_,m,rfl⟩ q
 iter:=λ A s a m=>⟨FL d 0 0 es.size ep,_,(λ _ _ q=>Wi m T q),Wh a _ d (cC (cb m)) es ep t T l,⟨dy _ rfl,bM _ m⟩⟩
end
section
variable{prog:bD}{w:World}{A:cg}{E:Value->ax->Prop}{s:ax}{T:String}{r d:Addr}{n:Nat}{P:Nat->Value->Prop}{O:Heap->Prop}
def N1(K:K7 prog w T r d n P O)(F:A.handled=none)(k:O s.heap)(G:n<=aQ)
  (h:∀h' t vs,s.heap.objs.size<h'.objs.size->(∀b o,s.heap.get? b=some o->h'.get? b=some o)->vs.length=n->(∀(j:Nat) v,vs[j]? =some v->P j v)->Q vs {s with heap:=h',toks:=t}):wpAny (model prog w) A (collect (.ref r)) Q E s:=by
 have m:=K.there _ k;unfold collect;refine av (DR (mE PySem.F.entry_proto_collect ?_));rw[oV PySem.F.plain_proto_collect _];show wpAny _ A.in1 (qo []>>=λ l=>again (.builtin "list.__iadd__" ⟨[l,.ref r],[]⟩)) _ _ s;refine av (hG (aL ⟨DU Kq _,mE PySem.F.entry_list_iadd ?_⟩));rw[oV Kq _];show wpAny _ A.in1 (Builtin.List.listExtendWith (.ref s.heap.objs.size) (.ref r) (.ref s.heap.objs.size)) _ _ _;have p:∀h' t g i,(∀b o,b≠s.heap.objs.size->(s.heap.push (eB "list" #[] 0)).get? b=some o->h'.get? b=some o)->h'.get? s.heap.objs.size=some {cls:=.type "list",dict:=none,data:=.seq g i,slots:=#[]}->ItemsOf P g n->
   wpAny (model prog w) A (do match (fX s.heap.objs.size)with
    | .ref a=>match (<-load a).data with
     | .seq xs _=>pure xs.toList
     |_=>unsupported "internal:collect"
    |_=>unsupported "internal:collect") Q E {s with heap:=h',toks:=t}:=λ h' t g i x S u=>
  av (wpAny_load S (aL (h h' t g.toList (cb S) (λ b o e=>x b o (cC (cb e)) (bM _ e)) (by rw[gZ];exact u.1) λ j v e=>u.2 j v (by rw[<-rq];exact e))))
 refine g7 (PySem.W.kdl_extend (A:=A) (s:={s with heap:=s.heap.push (eB "list" #[] 0)}) (R:=λ r s'=>∃h' t g i,r= .ok (.ret (.ref s.heap.objs.size))/\s'={s with heap:=h',toks:=t}/\(∀b o,b≠s.heap.objs.size->(s.heap.push (eB "list" #[] 0)).get? b=some o->h'.get? b=some o)/\h'.get? s.heap.objs.size=some {cls:=.type "list",dict:=none,data:=.seq g i,slots:=#[]}/\ItemsOf P g n)
  K F (K.keep _ _ k λ b _ o e=>bM _ e) s.heap.objs.size (kV m.1) (kV m.2) (.ref s.heap.objs.size) 0 (dy _ rfl) (λ h' t g i x S u=>⟨h',t,g,i,rfl,rfl,x,S,u⟩) G) (λ f s' y=>?_) λ e s' H=>?_
 .cases f with
  |done f=>
   obtain⟨h',t,g,i,q,z,B,C,D⟩:=y;cases q;subst z;exact p h' t g i B C D
  |again c=>
   refine⟨y.1,rH y.2 λ r s' hr=>?_⟩;obtain⟨h',t,g,i,q,z,B,C,D⟩:=hr;subst q z;exact p h' t g i B C D
 .obtain⟨h',t,g,i,q,_⟩:=H
  cases q
end
def BJ(h:Heap)(p:Value×List Int):Prop:=∃x o xs k,p.1= .ref x/\h.get? x=some o/\o.cls= .type "tuple"/\o.data= .seq xs k/\dO xs.toList p.2/\p.2≠[]
theorem i0.all:∀{vs:List Value} {nss:cS},i0 h vs nss->∀p∈vs.zip nss,BJ h p
 |_,_,.nil,p,ah=>by simp_all
 |_,_,.cons o c d i n r,p,ah=>by
  rcases b8.mp ah with e|ah
  .subst e;exact⟨_,_,_,_,rfl,o,c,d,i,n⟩
  .exact r.all p ah
theorem N2:∀{z:List (Value×List Int)},(∀p∈z,BJ h p)->i0 h (z.map (·.1)) (z.map (·.2))
 |[],_=>.nil
 |p::z,hz=>by
  obtain⟨x,o,xs,k,e,a,b,c,d,f⟩:=hz p c0;rw[bu,e];exact .cons a b c d f (N2 λ q g=>hz q (dN _ g))
def FM(h:l.Perm m'):∀{m:List α},m'=m.map f->∃c:List α,c.Perm m/\l=c.map f:=by
 induction h with
 |nil=>intro m e;exact⟨m,lS _,e⟩
 |cons x p g=>
  intro m e;cases m with
  |nil=>cases e
  |cons a m=>
   injection e with e1 e2
   obtain⟨c,j,t⟩:=g e2;exact⟨_,j.cons a,by simp_all⟩
 |swap x y l=>
  intro m e;cases m with
  |nil=>cases e
  |cons a m=>
   cases m with
   |nil=>simp_all
   |cons b m=>
    exact⟨_,oO _ _ _,by simp_all⟩
 |trans p q i d=>
  intro m e;obtain⟨c,k,n⟩:=d e;obtain⟨o,r,s⟩:=i n;exact⟨o,r.trans k,s⟩
def pw(l:cS):Prop:=l.Pairwise λ a b=>HT.lexLt b a=false
section
variable{prog:bD}{w:World}{A:cg}{E:Value->ax->Prop}{s:ax}
def Wl{Q:Value->ax->Prop}(hz:∀p∈z,BJ s.heap p)(J:z.length<64)
  (h:∀(a:List (Value×List Int)) h' e,a.Perm z->pw (a.map (·.2))->(∀b o,s.heap.get? b=some o->h'.get? b=some o)->h'.get? s.heap.objs.size=some (eB "list" (a.map (·.1)).toArray e)->Q (.ref s.heap.objs.size) {s with heap:=h'}):
  wpAny (model prog w) A (qo (z.map (·.1))>>=λ l=>ju [l] (call (.builtin "list.sort") [l])>>=λ _=>ret l) (λ m s'=>∃r,m= .done (.ret r)/\Q r s') E s:=by
 have X:(z.map (·.1)).length=z.length:=bg _;refine av (DX ?_ (by rw[ko];omega));have L:(s.heap.push (eB "list" (z.map (·.1)).toArray 0)).get? s.heap.objs.size=some (eB "list" (z.map (·.1)).toArray 0):=dy _ rfl;refine av (jt (jU slot_list_sort ⟨_,L,rfl⟩ entry_list_sort ?_ (args_list_sort _)));refine VX (s:={s with heap:=s.heap.push (eB "list" (z.map (·.1)).toArray 0)}) L (N2 λ p ah=>?_) (by omega) λ p q B=>⟨_,rfl,?_⟩
 .obtain⟨x,o,xs,k,d,K,M⟩:=hz p ah
  exact⟨x,o,xs,k,d,bM _ K,M⟩
 rw[X]at q B;have S:p.toList.map (λ i=>(z.map (·.1)).getD i fE)=(p.toList.map λ i=>z.getD i (fE,[])).map (·.1):=by
  rw[cV];refine rz λ i t=>?_
  show(z.map (·.1)).getD i fE=(z.getD i (fE,[])).1
  rw[hE,hE,da];cases z[i]?<;>rfl
 have N:(p.toList.map λ i=>z.getD i (fE,[])).Perm z:=by
  have C:p.toList.Perm (dY z.length):=by
   have:=Array.perm_iff_toList_perm.mp q
   simpa using this
  refine(C.map _).trans ?_
  have:(dY z.length).map (λ i=>z.getD i (fE,[]))=z:=by
   refine Dc (by simp) λ i C P=>?_
   rw[tM,List.getElem_range,hE,bP P];rfl
  rw[this]
 have f:∀b o,s.heap.get? b=some o->b≠s.heap.objs.size:=λ b o e=>cC (cb e)
 obtain⟨d,u⟩:∃d,((s.heap.push (eB "list" (z.map (·.1)).toArray 0)).update s.heap.objs.size (lZ λ _=>(#[]:Array Value))).get? s.heap.objs.size=some (eB "list" #[] d):=⟨_,wt L λ _=>#[]⟩
 have R:=bM (eB "list" #[] 0) (bM (eB "tuple" (z.map (·.1)).toArray 0) u);have D:=wt R (λ _=>jF (z.map (·.1)) p);generalize (if ((jF (z.map (·.1)) p).size==(#[]:Array Value).size)=true then d else d+1)=F at D;have n:(wu (s.heap.push (eB "list" (z.map (·.1)).toArray 0)) s.heap.objs.size (z.map (·.1)) (jF (z.map (·.1)) p)).get? s.heap.objs.size=some (eB "list" (jF (z.map (·.1)) p) F):=D;have V:jF (z.map (·.1)) p=((p.toList.map λ i=>z.getD i (fE,[])).map (·.1)).toArray:=by unfold jF;rw[S]
 have g:pw ((p.toList.map λ i=>z.getD i (fE,[])).map (·.2)):=by
  unfold pw;rw[cV];refine zB.mpr λ i j t v y=>?_
  rw[bg,gZ,q.sz]at t v;have c:∀k (c:k<z.length),bY (O:=sm) (λ i=>(z.map (·.2)).getD i []) p k=(z.getD (p.getD k 0) (fE,[])).2:=λ k c=>by
   show(z.map (·.2)).getD (p.getD k 0) []=_
   rw[hE,hE,da];cases z[p.getD k 0]?<;>rfl
  have G:∀k (c:k<p.toList.length),p.toList[k]=p.getD k 0:=λ k c=>by
   have:k<p.size:=by simpa using c
   simp[tF,this]
  have this:HT.lexLt (bY (O:=sm) (λ i=>(z.map (·.2)).getD i []) p j) (bY (O:=sm) (λ i=>(z.map (·.2)).getD i []) p i)=false:=B i j (jS y) v;rw[c i t,c j v]at this;rw[tM,tM,G,G];exact this
 have H:∀b o,s.heap.get? b=some o->(wu (s.heap.push (eB "list" (z.map (·.1)).toArray 0)) s.heap.objs.size (z.map (·.1)) (jF (z.map (·.1)) p)).get? b=some o:=λ b o e=>by
  unfold wu;rw[uh _ _ _ _ (f b o e)];refine bM _ (bM _ ?_);rw[uh _ _ _ _ (f b o e)];exact bM _ e
 rw[V]at n H;have I:=h (p.toList.map λ i=>z.getD i (fE,[])) _ F N g H n;rw[<-V]at I;exact aL ⟨_,rfl,I⟩
def FN(h:wpAny (model prog w) A.in1 (collect v) (λ vs s'=>wpAny (model prog w) A.in1 (qo vs>>=λ l=>ju [l] (call (.builtin "list.sort") [l])>>=λ _=>ret l) (λ f s'=>∃r,f= .done (.ret r)/\Q r s') E s') E s):
  wpAny (model prog w) A (call (.builtin "sorted") [v]) Q E s:=by
 refine Calls.call_function_entry kind_sorted plain_sorted entry_sorted (args_sorted1 _) ?_;refine av (aL (av ?_));assumption
end
inductive iC(K:aB)(H:au):List V->List (List Int)->Prop where
 |nil:iC K H [] []
 |cons {a:Addr} {ns:List Int} {vs:List V} {nss:cS} (h:bQ K H a (ns.map V.int)) (hne:ns≠[]) (r:iC K H vs nss):iC K H (.ref a::vs) (ns::nss)
def ji:V->Value
 | .ref a=>.ref a
 |_=>.none
def iC.vals{K:aB}:∀{vs:List V} {nss:cS} {u:List Value},iC K H vs nss->Vals vs u->u=vs.map ji:=by
 intro vs nss u t v;induction v generalizing nss with
 |nil=>rfl
 |cons q s i=>
  cases t with
  |cons _ _ r=>
   cases q;rw[bu,i r];rfl
theorem iC.len{K:aB}:∀{vs:List V} {nss:cS},iC K H vs nss->vs.length=nss.length
 |_,_,.nil=>rfl
 |_,_,.cons _ _ r=>by rw[g0,g0,r.len]
theorem iC.refs{K:aB}:∀{vs:List V} {nss:cS},iC K H vs nss->∀v∈vs,RelV v (ji v)
 |_,_,.nil,v,h=>by simp at h
 |_,_,.cons _ _ r,v,h=>by
  rcases b8.mp h with e|h
  .subst e;exact rfl
  .exact r.refs v h
theorem iC.at(I:Inv X kQ Z H s):∀{vs:List V} {nss:cS},iC X.K H vs nss->i0 s.heap (vs.map ji) nss
 |_,_,.nil=>.nil
 |_,_,.cons h e r=>by
  obtain⟨i,v,⟨o,a,c,n,d⟩,_⟩:=I.tuple h;exact .cons a c d (by simpa using intsAre_of v) e (r.at I)
theorem N3:∀{vs:List V},(∀v∈vs,RelV v (ji v))->Vals vs (vs.map ji)
 |[],_=>.nil
 |v::vs,h=>.cons (h v c0) (N3 λ u a=>h u (dN _ a))
section
variable{X:aZ}
def FO(H:au)(vs:List V)(nss:cS)(Q:bC):Prop:=∀z:List (V×List Int),z.Perm (vs.zip nss)->pw (z.map (·.2))->mQ H (.lst (z.map (·.1))) Q
def Wm{y:bZ}(I:Inv X y Z H s)(t:iC X.K H vs nss)(d:vs.length<64)(q:FO H vs nss Q)
  (g:∃h a,s1={s with heap:=h,toks:=a}/\s.heap.objs.size<=h.objs.size/\∀b o,s.heap.get? b=some o->h.get? b=some o){c:List (Value×List Int)}(hz:c.Perm ((vs.map ji).zip nss))(u:us=c.map (·.1)):
  wpAny (model X.prog X.w) X.A.in1 (qo us>>=λ l=>ju [l] (call (.builtin "list.sort") [l])>>=λ _=>ret l) (λ i s'=>∃r,i= .done (.ret r)/\hO X y Z Q r s') X.xe s1:=by
 obtain⟨h,a,rfl,hsz,keep⟩:=g;subst u;have K:∀p∈c,BJ h p:=λ p ah=>by
  obtain⟨x,o,xs,k,B,C,D⟩:=(t.at I).all p (hz.mem_iff.mp ah);exact⟨x,o,xs,k,B,keep _ _ C,D⟩
 have E:c.length<64:=by
  rw[hz.length_eq,JC,bg,<-t.len,zX];exact d
 refine Wl (s:={s with heap:=h,toks:=a}) K E λ z h' e F G J L=>?_
 have S:(vs.map ji).zip nss=(vs.zip nss).map λ p=>(ji p.1,p.2):=by rw[List.zip_map_left];rfl
 obtain⟨ws,w,A⟩:=FM (f:=λ p:V×List Int=>(ji p.1,p.2)) (F.trans hz) S;have j:H h.objs.size=none:=I.hok.fresh hsz;have M:∀v∈ws.map (·.1),RelV v (ji v):=λ v N=>by
  obtain⟨p,ah,rfl⟩:=dj.mp N;exact t.refs p.1 (zN (w.mem_iff.mp ah)).1
 have m:z.map (·.1)=(ws.map (·.1)).map ji:=by rw[A,cV,cV];rfl
 have n:(ws.map (·.1)).length<=aQ:=by
  rw[bg,w.length_eq,JC,<-t.len,zX,ko];lia
 refine⟨.ref h.objs.size,bt H h.objs.size (.lst (ws.map (·.1))),I.laid (t':=a) (λ b o e=>J b o (keep b o e)) hsz ⟨n,(ws.map (·.1)).map ji,e,N3 M,?_⟩,rfl,(q ws w ?_).at j⟩
 .rw[<-m];exact L
 .have:ws.map (·.2)=z.map (·.2):=by rw[A,cV];rfl
  rw[this];exact G
def FP(K:aB):List V->au->bC->Prop:=λ xs H Q=>∃p vs nss,xs=[.ref p]/\cu K H p vs/\iC K H vs nss/\vs.length<64/\FO H vs nss Q
def Wn:fM X (.builtin "sorted") (FP X.K):=by
 intro k s Z H xs d Q I r h;obtain⟨p,vs,nss,rfl,ah,t,a,q⟩:=h;obtain⟨u,rfl,c⟩:=vals1 r;cases c;obtain⟨i,v,pl,hz⟩:=I.list ah;have e:=t.vals v;subst e;have l:(vs.map ji).length=nss.length:=by rw[bg];exact t.len
 refine FN (collect_list pl.isList ?_ (by rw[bg];exact hz));refine Wm I t a q ⟨_,_,rfl,?_,λ b o e=>?_⟩ (lS _) ?_
 .rw[Heap.size_update,size_push']
  exact nG _
 .rw[uh _ _ _ _ (cC (cb e))]
  exact bM _ e
 .exact(Jw (by lia)).symm
end
noncomputable def vb(a:List Int):cS->List (List Int)
 |[]=>[a]
 |b::l=>if HT.lexLt b a then b::vb a l else a::b::l
noncomputable def sr:cS->List (List Int)
 |[]=>[]
 |a::l=>vb a (sr l)
theorem FQ(a:List Int):∀l,(vb a l).Perm (a::l)
 |[]=>lS _
 |b::l=>by
  unfold vb;split
  .exact((FQ a l).cons b).trans (oO _ _ _)
  .exact lS _
theorem FR:∀l,(sr l).Perm l
 |[]=>lS _
 |a::l=>(FQ a _).trans ((FR l).cons a)
def Wo(h:HT.lexLt a b=true):HT.lexLt b a=false:=by
 cases e:HT.lexLt b a with
 |false=>rfl
 |true=>have:=BB a b a h e;rw[BA]at this;cases this
def Wp(h:HT.lexLt b a=false)(d:HT.lexLt c b=false):HT.lexLt c a=false:=by
 cases e:HT.lexLt c a with
 |false=>rfl
 |true=>
  rcases NC c b a e with z|z
  .rw[d]at z;cases z
  .rw[h]at z;cases z
theorem N4(a:List Int):∀l,pw l->pw (vb a l)
 |[],_=>hV.mpr ⟨λ _ h=>by simp at h,.nil⟩
 |b::l,h=>by
  obtain⟨d,f⟩:=hV.mp h;unfold vb;cases e:HT.lexLt b a with
  |true=>
   rw[if_pos rfl];refine hV.mpr ⟨λ x c=>?_,N4 a l f⟩;rcases b8.mp ((FQ a l).mem_iff.mp c)with q|q
   .subst q;exact Wo e
   .exact d x q
  |false=>
   rw[if_neg (by simp)];refine hV.mpr ⟨λ x c=>?_,h⟩;rcases b8.mp c with q|q
   .subst q;exact e
   .exact Wp e (d x q)
theorem FS:∀l,pw (sr l)
 |[]=>.nil
 |a::l=>N4 a _ (FS l)
theorem N5:∀{a b:cS},a.Perm b->pw a->pw b->a=b
 |[],b,p,_,_=>p.nil_eq
 |x::a,b,p,d,f=>by
  cases b with
  |nil=>exact absurd p.length_eq (by simp)
  |cons y b=>
   have h:x=y:=by
    obtain⟨q,_⟩:=hV.mp d;obtain⟨g,_⟩:=hV.mp f;have m:x∈y::b:=p.mem_iff.mp c0;have c:y∈x::a:=p.mem_iff.mpr c0;rcases b8.mp m with e|m
    .exact e
    .rcases b8.mp c with e|c
     .exact e.symm
     .exact xP _ _ (g x m) (q y c)
   subst h;rw[N5 (List.Perm.cons_inv p) (hV.mp d).2 (hV.mp f).2]
abbrev tupI(ns:List Int):D:=.tup (ns.map .int)
noncomputable def px:List D->Option cS
 |[]=>some []
 | .tup l::r=>match intsOf l,px r with
  |some (n::ns),some nss=>some ((n::ns)::nss)
  |_,_=>none
 |_=>none
theorem FT:∀{l:List D} {nss:cS},px l=some nss->l=nss.map tupI/\∀ns∈nss,ns≠[]
 |[],nss,h=>by cases h;exact⟨rfl,λ ns h=>by simp at h⟩
 | .tup l::r,nss,h=>by
  unfold px at h;split at h
  .rename_i n ns s a b
   cases h;obtain⟨q,c⟩:=FT b;rw[mn a,q];refine⟨rfl,λ d m=>?_⟩;rcases b8.mp m with e|m
   .subst e;simp
   .exact c d m
  .cases h
 | .non::_,_,h=>by cases h
 | .int _::_,_,h=>by cases h
 | .bl _::_,_,h=>by cases h
 | .str _::_,_,h=>by cases h
 | .lst _::_,_,h=>by cases h
 | .dct _ _::_,_,h=>by cases h
 | .set _::_,_,h=>by cases h
 | .scr _::_,_,h=>by cases h
theorem N6:∀{nss:cS},(∀ns∈nss,ns≠[])->px (nss.map tupI)=some nss
 |[],_=>rfl
 |[]::nss,h=>absurd rfl (h [] c0)
 |(n::ns)::nss,h=>by
  have i:=N6 λ m a=>h m (dN _ a)
  rw[bu];unfold px;rw[i,show intsOf (List.map D.int (n::ns))=some (n::ns)from m8 _]
theorem FU{K:aB}:∀{xs:List V} {nss:cS},aM K A H xs (nss.map tupI)->(∀ns∈nss,ns≠[])->iC K H xs nss
 |_,[],.nil,_=>.nil
 |_,ns::nss,.cons h r,n=>by
  replace h:=h.tup_inv;obtain⟨_,_,a,h,b⟩:=h;cases a;have e:=b.ints_of;subst e;exact .cons h (n ns c0) (FU r λ m c=>n m (dN _ c))
theorem N7{K:aB}:∀{z:List (V×List Int)},(∀p∈z,∃a,p.1= .ref a/\bQ K H a (p.2.map V.int))->aM K A H (z.map (·.1)) ((z.map (·.2)).map tupI)
 |[],_=>.nil
 |p::z,h=>by
  obtain⟨a,e,b⟩:=h p c0;rw[bu,bu,bu,e];exact .cons (.tup b .ints) (N7 λ q c=>h q (dN _ c))
theorem iC.all{K:aB}:∀{vs:List V} {nss:cS},iC K H vs nss->∀p∈vs.zip nss,∃a,p.1= .ref a/\bQ K H a (p.2.map V.int)
 |_,_,.nil,p,ah=>by simp at ah
 |_,_,.cons h _ r,p,ah=>by
  rw[qa]at ah;rcases b8.mp ah with e|ah
  .subst e;exact⟨_,rfl,h⟩
  .exact r.all p ah
def Wq{K:aB}(h:iC K H vs nss)(q:∀v H',aU H H'->aA K (λ p=>H p=none) H' v (.lst ((sr nss).map tupI))->Q v H'):FO H vs nss Q:=by
 intro z hz hr p H' s ah n;have e:z.map (·.2)=sr nss:=N5 (((hz.map (·.2)).trans (by rw[Jx (by rw[h.len];exact bJ _)])).trans (FR nss).symm) hr (FS nss);refine q _ H' s (.lst ah n ?_);rw[<-e];exact N7 λ p ah=>by
  obtain⟨a,b,c⟩:=h.all p (hz.mem_iff.mp ah);exact⟨a,b,s.sqt c⟩
noncomputable def insI(a:Int):List Int->List Int
 |[]=>[a]
 |b::l=>if b<a then b::insI a l else a::b::l
noncomputable def sortI:List Int->List Int
 |[]=>[]
 |a::l=>insI a (sortI l)
theorem insI_perm(a:Int):∀l,(insI a l).Perm (a::l)
 |[]=>lS _
 |b::l=>by
  unfold insI;split
  .exact((insI_perm a l).cons b).trans (oO _ _ _)
  .exact lS _
theorem sortI_perm:∀l,(sortI l).Perm l
 |[]=>lS _
 |a::l=>(insI_perm a _).trans ((sortI_perm l).cons a)
theorem N8(a:Int):∀l:List Int,l.Pairwise (·<=·)->(insI a l).Pairwise (·<=·)
 |[],_=>hV.mpr ⟨λ _ h=>by simp at h,.nil⟩
 |b::l,h=>by
  obtain⟨d,f⟩:=hV.mp h;unfold insI;by_cases e:b<a
  .rw[if_pos e]
   refine hV.mpr ⟨λ x c=>?_,N8 a l f⟩;rcases b8.mp ((insI_perm a l).mem_iff.mp c)with q|q
   .lia
   .exact d x q
  .rw[if_neg e]
   refine hV.mpr ⟨λ x c=>?_,h⟩;rcases b8.mp c with q|q
   .lia
   .have:=d x q;lia
theorem su:∀l,(sortI l).Pairwise (·<=·)
 |[]=>.nil
 |a::l=>N8 a _ (su l)
theorem FV:∀{u:List Value} {ns:List Int},dO u ns->Vals (ns.map V.int) u
 |_,_,.nil=>.nil
 |_,_,.cons n t r=>.cons ⟨t,rfl⟩ (FV r)
section
variable{X:aZ}
def FW(K:aB):List V->au->bC->Prop:=λ xs H Q=>∃p ns,xs=[.ref p]/\cu K H p (ns.map V.int)/\ns.length<64/\mQ H (.lst ((sortI ns).map V.int)) Q
def Wr:fM X (.builtin "sorted") (FW X.K):=by
 intro w s Z H xs x Q I r h;obtain⟨p,ns,rfl,ah,a,q⟩:=h;obtain⟨u,rfl,d⟩:=vals1 r;cases d;obtain⟨i,v,pl,hz⟩:=I.list ah;have g:dO i ns:=intsAre_of v;have k:i.length<64:=by
  have:=v.length
  rw[bg]at this;lia
 refine sorted_ints pl.isList g k λ t n j c l=>?_
 have e:n=sortI ns:=Er (c.trans (sortI_perm ns).symm) l (su ns);subst e;obtain⟨e,m⟩:=sortedAll_at s.heap i t;have f:H (s.heap.objs.size+1)=none:=I.hok.fresh (nG _);refine⟨.ref (s.heap.objs.size+1),bt H (s.heap.objs.size+1) (.lst ((sortI ns).map V.int)),I.laid (t':=s.toks) (λ b o q=>sortedAll_old q) (nG _) ?_,rfl,q.at f⟩;refine⟨?_,t.toList,e,FV j,?_⟩
 .rw[bg,c.length_eq]
  exact fD (jS a) (by decide)
 .rw[IM]
  exact m
end
def BK(K:aB)(r:List V->au->bC->Prop)(f:List D->ag D):Prop:=∀(A:Addr->Prop) xs ds H (Q:bC) z,aM K A H xs ds->f ds= .ok z->(∀v H',aU H H'->aA K (λ p=>H p=none) H' v z->Q v H')->r xs H Q
def FX{K:aB}(h:BK K r fd)(b:Bb K G m ta g):eO K G (some []) (mO r ta) (aN fd g):=by
 intro τ Z H ρ lab Q R W;refine b τ Z H ρ lab _ R (W.bd.imp λ d _ w x c a e=>?_);obtain⟨z,f,w⟩:=w.okD;exact h (lx m lab H) x d c Q z e f λ v H' s r=>w v H' (a.trans s) (r.wk λ p o _ q=>.inl (a.free q))
noncomputable def j8:List D->ag D
 |[.lst l]=>match px l with
  |some nss=>if nss.length<64 then .ok (.lst ((sr nss).map tupI))else .st
  |none=>match intsOf l with
   |some ns=>if ns.length<64 then .ok (.lst ((sortI ns).map .int))else .st
   |none=>.st
 |_=>.st
def Ws{K:aB}:BK K (λ xs H Q=>FP K xs H Q\/FW K xs H Q) j8:=by
 intro A xs ds H Q z r a q;unfold j8 at a;split at a
 .cases r with
  |cons h r=>
   cases r;replace h:=h.lst_inv;obtain⟨_,_,d,h,m,r⟩:=h;cases d;split at a
   .rename_i nss e
    obtain⟨b,c⟩:=FT e;subst b;split at a
    .rename_i l
     cases a;have t:=FU r c;exact .inl ⟨_,_,nss,rfl,cu.of h,t,by rw[t.len];exact l,Wq t q⟩
    .cases a
   .split at a
    .rename_i ns e
     have b:=mn e;subst b;split at a
     .rename_i l
      cases a;have c:=r.ints_of;subst c;exact .inr ⟨_,ns,rfl,cu.of h,l,λ p H' s ah n=>q _ H' s (.lst ah n .ints)⟩
     .cases a
    .cases a
 .cases a
section
variable{C:bB}{pos p:Pos}{m:Mode}{a:Expr}{g:af->ag (List D)}
def BL(h:C.mg "sorted"=none)(b:fN C m [a] g)(e:∀i,bf [a] (C.X i).env=[(false,eval a (C.X i).env)]:=by z_go)(c:∀i,dA (C.X i) "sorted":=by z_go)(v:gx "sorted"=some (.builtin "sorted"):=by f_are):aF C (some []) (.Call (.Name "sorted" p) [a] [] pos) (aN j8 g):=by
 obtain⟨t,d,f⟩:=b;refine⟨_,λ i=>uu (r:=λ xs H Q=>FP C.K xs H Q\/FW C.K xs H Q) (by rw[<-C.hK i];exact Wn.or Wr) (c i) (by rw[(C.cx i).2.2.2.1];exact h) v (d i) (by decide) (by decide) (e i) rfl,FX Ws f⟩
end
structure N9{β:Type}(r:β->β->Prop)(T out ra rb:List β):Prop where
 pm:(out++(ra++rb)).Perm T
 so:out.Pairwise r
 lo:∀x∈out,∀y∈ra++rb,r x y
 sa:ra.Pairwise r
 sb:rb.Pairwise r
section
variable{β:Type}{r:β->β->Prop}{T:List β}
def Oa(r:β->β->Prop)(T o:List β):Prop:=o.Perm T/\o.Pairwise r
end
structure pz(prog:bD)(w:World)(A:cg)(s:ax)(κ:wq)(O:kl)(kf:Keyed->O.α)(G:Keyed->Prop):Prop where
 lt:∀x y,G x->G y->∀C:Bool->ax->Prop,C (O.blt (kf x) (kf y)) s->wpAny (model prog w) A (keyLt' κ x.1 y.1) C (λ _ _=>False) s
structure BM(st st':km):Prop where
 k:iu st'=iu st
 a:arrOf st'=arrOf st
 p:wx st'=wx st
 f:tU st'=tU st
abbrev Ob:=Option (Array Keyed)×Array Keyed×Nat×Nat×Nat×Nat×Nat
section
variable{O:kl}{k:Keyed->O.α}{T:List Keyed}{a b u:Array Keyed}{c i mg e d m:Nat}{st:km}{Q:ForInStep Ob->km->Prop}
abbrev BN(O:kl)(k:Keyed->O.α)(x y:Keyed):Prop:=O.kle (k x) (k y)
abbrev Wt(O:kl)(k:Keyed->O.α)(T:List Keyed)(a b u:Array Keyed)(c i:Nat):Prop:=N9 (BN O k) T u.toList (a.toList.drop c) (b.toList.drop i)
structure abH(O:kl)(k:Keyed->O.α)(T:List Keyed)(a b:Array Keyed)(m:Nat)(st:km)(Q:ForInStep Ob->km->Prop):Prop where
 ret:∀o u c i mg e d st',BM st st'->Oa (BN O k) T o.toList->Q (.done (some o,u,c,i,mg,e,d)) st'
 on:∀u c i mg e d st',BM st st'->Wt O k T a b u c i->c+1<a.size->i<b.size->m<c+i->Q (.done (none,u,c,i,mg,e,d)) st'/\Q (.yield (none,u,c,i,mg,e,d)) st'
end
abbrev Oc:=Option (Array Keyed)×Nat×Nat×Array Keyed×Nat×Nat×Nat
section
variable{O:kl}{k:Keyed->O.α}{T:List Keyed}{a b u:Array Keyed}{c n mg e d m:Nat}{st:km}{Q:ForInStep Oc->km->Prop}
abbrev Wu(O:kl)(k:Keyed->O.α)(x y:Keyed):Prop:=O.kle (k y) (k x)
abbrev Wv(O:kl)(k:Keyed->O.α)(T:List Keyed)(a b u:Array Keyed)(c n:Nat):Prop:=N9 (Wu O k) T u.toList (a.toList.take c).reverse (b.toList.take n).reverse
structure abI(O:kl)(k:Keyed->O.α)(T:List Keyed)(a b:Array Keyed)(m:Nat)(st:km)(Q:ForInStep Oc->km->Prop):Prop where
 ret:∀o c n u mg e d st',BM st st'->Oa (BN O k) T o.toList->Q (.done (some o,c,n,u,mg,e,d)) st'
 on:∀c n u mg e d st',BM st st'->Wv O k T a b u c n->0<c->1<n->c<=a.size->n<=b.size->c+n<m->Q (.done (none,c,n,u,mg,e,d)) st'/\Q (.yield (none,c,n,u,mg,e,d)) st'
end
structure abJ(st st':km):Prop where
 k:iu st'=iu st
 p:wx st'=wx st
 f:tU st'=tU st
section
variable{κ:wq}{G:Keyed->Prop}{st:km}{P R:List Keyed}{o:Nat}
structure abK(κ:wq)(G:Keyed->Prop)(st:km)(o:Nat)(P R:List Keyed):Prop where
 k:iu st=κ
 l:(arrOf st).toList=P++R
 p:P.length=o
 g:∀x∈R,G x
end
def Od(O:kl)(k:Keyed->O.α):Nat->List (List Keyed)->List (Nat×Nat×Nat)->Prop
 |_,[],[]=>True
 |o,x::s,p::ps=>p.1=o/\p.2.1=x.length/\0<x.length/\x.Pairwise (BN O k)/\Od O k (o+x.length) s ps
 |_,_,_=>False
section
variable{κ:wq}{O:kl}{a:Keyed->O.α}{st:km}{T R:List Keyed}{s:List (List Keyed)}
structure abL(κ:wq)(O:kl)(a:Keyed->O.α)(T:List Keyed)(st:km)(s:List (List Keyed))(R:List Keyed):Prop where
 k:iu st=κ
 f:tU st=none
 l:(arrOf st).toList=s.flatten++R
 pm:(arrOf st).toList.Perm T
 pr:Od O a 0 s (wx st).toList
end
def dJ(ns:List Int):List Int:=ns.foldl iH []
def Ww(ns:List Int)(n:Int):dJ (ns++[n])=iH (dJ ns) n:=by unfold dJ;simp_all
def Wx(ns:List Int):nH (λ i=>ns.getD i 0) ns.length=dJ ns:=by
 unfold nH dJ;congr 1;refine Dc (by simp) λ i h a=>?_
 simp_all
def Wy(a:l.Nodup)(n:Int):(iH l n).Nodup/\∀x,x∈iH l n↔x∈l\/x=n:=by
 unfold iH;by_cases h:l.any (·==n)=true
 .simp_all
 .rw[if_neg h]
  have:n∉l:=by simpa using h
  refine⟨hW.mpr ⟨a,by simp,λ x b y c e=>?_⟩,λ x=>by simp⟩
  grind
theorem FY:∀(ns acc:List Int),acc.Nodup->(ns.foldl iH acc).Nodup/\∀x,x∈ns.foldl iH acc↔x∈acc\/x∈ns
 |[],acc,h=>⟨h,λ x=>by simp⟩
 |n::ns,acc,h=>by
  obtain⟨a,b⟩:=Wy h n;obtain⟨c,d⟩:=FY ns _ a;refine⟨c,λ x=>?_⟩;rw[mD,d,b,b8];lia
def BO(ns:List Int):(dJ ns).Nodup:=(FY ns [] (by simp)).1
def Oe(ns:List Int)(x:Int):x∈dJ ns↔x∈ns:=by
 have:=(FY ns [] (by simp)).2 x
 unfold dJ;simpa using this
def FZ(ns:List Int):(dJ ns).length<=ns.length:=sub_len (BO ns) λ x h=>(Oe ns x).mp h
section
variable{X:aZ}
def Of(K:aB):List V->au->bC->Prop:=λ xs H Q=>∃p ns,xs=[.ref p]/\(cu K H p (ns.map V.int)\/bQ K H p (ns.map V.int))/\ns.length<4000/\∀a H',aU H H'->H' a=some (.set (λ k=>(dJ ns).any (·==k)) (dJ ns).length)->H a=none->Q (.ref a) H'
def Og(I:Inv X kQ Z H s)(q:∀a H',aU H H'->H' a=some (.set (λ k=>(dJ ns).any (·==k)) (dJ ns).length)->H a=none->Q (.ref a) H')
  (g:h'.SetOf (hZ X.prog X.w) s.heap.objs.size (λ c=>(nH (λ i=>ns.getD i 0) ns.length).any (·==c)) (nH (λ i=>ns.getD i 0) ns.length).length)(d:∀b o,s.heap.get? b=some o->h'.get? b=some o):hO X kQ Z Q (.ref s.heap.objs.size) {s with heap:=h',toks:=tk}:=by
 rw[Wx]at g;have h:=I.hok.fresh (bJ _);exact⟨.ref _,bt H _ (.set _ _),I.laid d (bJ _) g,rfl,q _ _ (eM h _) dQ h⟩
def Oh{s:ax}{St:Nat->ax->Prop}(j:l<s.heap.objs.size)(d:dO its ns)(hz:ns.length<4000)
  (W:WalksS prog w A.in1 (s.heap.objs.size+1) [s.heap.objs.size+1,l] [s.heap.objs.size+1] (λ a b=>b=a) its.toArray.size (λ i v=>its.toArray[i]? =some v) St)(st:St 0 {s with heap:=(s.heap.push (cH #[] 0 (.fresh 0 0 led))).push oI})
  (R:mG->ax->Prop)(k:∀h' n,h'.SetOf (hZ prog w) s.heap.objs.size (λ p=>(nH (λ i=>ns.getD i 0) ns.length).any (·==p)) (nH (λ i=>ns.getD i 0) ns.length).length->(∀b o,s.heap.get? b=some o->h'.get? b=some o)->R (.ok (.ret .none)) {s with heap:=h',toks:=n}):
  fV (model prog w) A (.builtin "set.update.loop" ⟨[.ref s.heap.objs.size,.ref (s.heap.objs.size+1)],[]⟩) R {s with heap:=(s.heap.push (cH #[] 0 (.fresh 0 0 led))).push oI}:=by
 have X:its.length=ns.length:=Ds d;have S:s.heap.objs.size∉[s.heap.objs.size+1,l]:=by
  simp only[b8,lR,or_false,not_or];exact⟨cC (nF _),kV j⟩
 have hsz:its.toArray.size=ns.length:=by rw[et];exact X
 refine PyProof.Rows.codeAny_set_update_loopS W s.heap.objs.size S (λ i=>ns.getD i 0) (λ i v q=>JU d i v (by simpa using q)) (by rw[hsz];unfold wH;lia) (its.toArray.size-0) 0 _ (by lia) (dI _) st ?_ λ s' m h=>?_
 .have g:((s.heap.push (cH #[] 0 (.fresh 0 0 led))).push oI).get? s.heap.objs.size=some (cH #[] 0 (.fresh 0 0 led)):=bM _ (dy _ rfl)
  exact PyProof.Rows.SetOf_congr ((PyProof.Rows.setObjOf_fresh (knd:=hZ prog w) led).setOf g (by unfold wH;lia)) (λ _=>rfl) rfl
 .obtain⟨h',r,u,t,c⟩:=s'
  have x:r=s.gens:=m.gens;have y:u=s.drawn:=m.drawn;have z:c=s.os:=m.os;subst x;subst y;subst z;rw[hsz]at h;refine k h' t h λ b o e=>m.heap b o ?_ (bM _ (bM _ e))
  have f:=cb e;simp only[b8,lR,or_false,not_or];exact⟨cC f,cC (tQ f)⟩
def Wz(x:X.calm=true):fM X (.type "set") (Of X.K):=by
 intro D s Z H xs G Q I r h;obtain⟨p,ns,rfl,ah,hz,q⟩:=h;obtain⟨u,rfl,z⟩:=vals1 r;cases z;have w:X.A.in1.in1.in1.handled=none:=I.ok.hd x;have hsz:∀o:Obj,(s.heap.push o).objs.size=s.heap.objs.size+1:=λ o=>k9 _ _
 rcases ah with ah|ah
 .obtain⟨t,v,pl,_⟩:=I.list ah
  have b:dO t ns:=intsAre_of v;have B:=pl.isList;obtain⟨a,l,c,n,d⟩:=pl.isList;have S:p<s.heap.objs.size:=cb l;refine PySem.uY (T:="list") (Φ:=λ h'=>h'.SetOf (hZ X.prog X.w) s.heap.objs.size (λ f=>(nH (λ i=>ns.getD i 0) ns.length).any (·==f)) (nH (λ i=>ns.getD i 0) ns.length).length) ⟨a,l,c⟩ F.sub_list_set Kz (by decide)
   (λ y A E Q₁ k q=>Ae (s:={s with heap:=y}) (items:=t.toArray) ⟨a,k _ _ l,c,n,d⟩ q) (λ R g=>?_) λ h' C j m=>Og I q j m
  rw[hsz];refine Oh S b hz ((Ey w _ p (cC (tQ S)) t.toArray).toS) ⟨?_,?_⟩ R g
  .have e:=dy (s.heap.push (cH #[] 0 (.fresh 0 0 (!X.w.params.followText "set-order")))) (o:={cls:=.type "list_iterator",data:=.fields #[.ref p,.int 0 0]}) rfl
   rw[hsz]at e;exact⟨_,e,rfl,rfl⟩
  .exact⟨a,bM _ (bM _ l),c,n,d⟩
 .obtain⟨t,v,pl,_⟩:=I.tuple ah
  have b:dO t ns:=intsAre_of v;obtain⟨a,l,c,n,d⟩:=id pl;have S:p<s.heap.objs.size:=cb l;refine PySem.uY (T:="tuple") (Φ:=λ h'=>h'.SetOf (hZ X.prog X.w) s.heap.objs.size (λ f=>(nH (λ i=>ns.getD i 0) ns.length).any (·==f)) (nH (λ i=>ns.getD i 0) ns.length).length) ⟨a,l,c⟩ F.sub_tuple_set F.sub_tuple_frozenset (by decide)
   (λ y A E Q₁ k q=>wz (s:={s with heap:=y}) (items:=t.toArray) ⟨a,k _ _ l,c,n,d⟩ q) (λ R g=>?_) λ h' C j m=>Og I q j m
  rw[hsz];refine Oh S b hz ((Walks.tuple w _ p (cC (tQ S)) t.toArray).toS) ⟨?_,?_⟩ R g
  .have e:=dy (s.heap.push (cH #[] 0 (.fresh 0 0 (!X.w.params.followText "set-order")))) (o:={cls:=.type "tuple_iterator",data:=.fields #[.ref p,.int 0 0]}) rfl
   rw[hsz]at e;exact⟨_,e,rfl,rfl⟩
  .exact⟨a,bM _ (bM _ l),c,n,d⟩
def WA:fM X (.builtin "len") (λ xs H Q=>∃p S n,xs=[.ref p]/\H p=some (.set S n)/\Q (.int n) H):=by
 intro k s Z H xs i Q I r h;obtain⟨p,S,n,rfl,ah,q⟩:=h;obtain⟨u,rfl,a⟩:=vals1 r;cases a;obtain⟨o,es,ep,t,b,e,d,_,_,c,f,g⟩:=I.hok p _ ah
 have:(es.size:Int)<2^63:=by unfold wH at c;lia
 refine PySem.call_len_set b e d f this ⟨_,H,(I.tok _).tok _,?_,q⟩;exact⟨_,by rw[g]⟩
end
def Oi{K:aB}(n:l.Nodup)(h:H a=some (.set (λ k=>l.any (·==k)) l.length))(m:A a):aA K A H (.ref a) (.set l):=.set h m (λ i=>by
 rw[oH];simp) n
noncomputable def kI:List D->ag D
 |[.lst l]=>match intsOf l with
  |some ns=>if ns.length<4000 then .ok (.set (dJ ns))else .st
  |none=>.st
 |[.tup l]=>match intsOf l with
  |some ns=>if ns.length<4000 then .ok (.set (dJ ns))else .st
  |none=>.st
 |_=>.st
def WB{K:aB}:BK K (Of K) kI:=by
 intro A xs ds H Q z r b q;unfold kI at b;split at b
 .cases r with
  |cons h r=>
   cases r;replace h:=h.lst_inv;obtain⟨_,_,c,h,m,r⟩:=h;cases c;split at b
   .rename_i ns e
    have d:=mn e;subst d;split at b
    .rename_i l
     cases b;have f:=r.ints_of;subst f;exact⟨_,ns,rfl,.inl (cu.of h),l,λ a H' s g n=>q _ H' s (Oi (BO ns) g n)⟩
    .cases b
   .cases b
 .cases r with
  |cons h r=>
   cases r;replace h:=h.tup_inv;obtain⟨_,_,c,h,r⟩:=h;cases c;split at b
   .rename_i ns e
    have d:=mn e;subst d;split at b
    .rename_i l
     cases b;have f:=r.ints_of;subst f;exact⟨_,ns,rfl,.inr h,l,λ a H' s g n=>q _ H' s (Oi (BO ns) g n)⟩
    .cases b
   .cases b
 .cases b
noncomputable def lE:List D->ag D
 |[.set l]=>.ok (.int l.length)
 |ds=>b0 ds
def WC{K:aB}:nT K (λ xs H Q=>(∃p ys,xs=[.ref p]/\(cu K H p ys\/bQ K H p ys)/\Q (.int ys.length) H)\/∃p S n,xs=[.ref p]/\H p=some (.set S n)/\Q (.int n) H) lE:=by
 intro A xs ds H Q z r e q;unfold lE at e;split at e
 .cases e
  cases r with
  |cons h r=>
   cases r;cases h with
   |set h m a d=>exact .inr ⟨_,_,_,rfl,h,q _ H (aU.refl H) (.int _)⟩
 .exact .inl (M3 A xs _ H Q z r e q)
def WD:∀x z,lE x= .ok z->imm z=true:=by
 intro x z e;unfold lE at e;split at e
 .cases e;rfl
 .exact M4 _ _ e
section
variable{C:bB}{pos p:Pos}{m:Mode}{a:Expr}{g:af->ag (List D)}
def Oj(f:C.mg "set"=none)(h:fN C m [a] g)(e:∀i,bf [a] (C.X i).env=[(false,eval a (C.X i).env)]:=by z_go)(b:∀i,dA (C.X i) "set":=by z_go)(v:gx "set"=some (.type "set"):=by f_are):aF C (some []) (.Call (.Name "set" p) [a] [] pos) (aN kI g):=by
 obtain⟨t,c,d⟩:=h;refine⟨_,λ i=>uv (by rw[<-C.hK i];exact Wz (C.calm i)) (b i) (by rw[(C.cx i).2.2.2.1];assumption) v (c i) (by decide) (by decide) (e i) rfl,FX WB d⟩
def Ol(b:C.mg "len"=none)(c:fN C m [a] g)(e:∀i,bf [a] (C.X i).env=[(false,eval a (C.X i).env)]:=by z_go)(d:∀i,dA (C.X i) "len":=by z_go):aF C (some []) (.Call (.Name "len" p) [a] [] pos) (aN lE g):=
 jY (uN (λ i=>by have h:=(L3 (X:=C.X i)).or WA;rw[C.hK i]at h;assumption) WC d b J1 c (by decide) (by decide) e) λ _ _ h=>uL WD h
end
section
variable{K:aB}{G:eK}{c:iS}{fi:af->ag (List D)}{g:iP}{fg:D->af->ag af}{t:gk}
def WE(hi:uX K G c fi)(hg:uS K {G with E:=λ _ _ _=>False} g fg)(X:∀d,∃r,fg d [.no]= .ok r)(ht:o8 K {G with E:=λ _ _ _=>False} t cE)(R:RR K G τ ρ Z H lab)
  (W:iv G (fi (shE ρ)) (λ ds=>ds.length<aQ/\∀(l:Addr) (f:List Addr) H',aU H H'->H l=none->H' l=some (.lst (f.map V.ref))->(l::f).Nodup->f.length=ds.length->(∀a∈f,H a=none/\H' a=some (.lst []))->Q (.ref l) H')):
  AY c (gI [none]) g t (L9 jX) Z H Q:=by
 refine hi τ Z H _ _ _ R.shE (W.imp λ ds _ w J H1 lab1 u s1 _ N jl=>?_);obtain⟨kX,w⟩:=w;intro l D;have F:H l=none:=s1.free D;have nl:∀p o,H1 p=some o->p≠l:=λ p o e z=>by subst z;rw[D]at e;cases e
 have RB:RR K {G with E:=λ _ _ _=>False} (u++τ) [.no] (gI [none] Z) H1 (λ p=>if p=l then(2,0)else(0,0)):=by
  refine⟨rfl,λ i s e=>?_,N.old,λ p ah=>?_,λ q I=>(N.tm q I).wk λ p o e _=>by rw[if_neg (nl p o e)];exact dI _⟩
  .match i,e with
   |0,e=>cases e;exact .inl rfl
   |i+1,e=>simp at e
  .by_cases z:p=l
   .subst z;exact N.old.free D
   .exact absurd (show(if p=l then((2,0):Nat×Nat)else(0,0)).1=0 by rw[if_neg z]) ah
 have bE:¬((λ p=>if p=l then((2,0):Nat×Nat)else(0,0)) l).1<=1:=by simp
 refine⟨λ i n acc A=>∃f:List Addr,n=ds.length-i/\i<=ds.length/\acc=f.map V.ref/\A l=some (.lst acc)/\RR K {G with E:=λ _ _ _=>False} (u++τ) [.no] (gI [none] Z) A (λ p=>if p=l then(2,0)else(0,0))/\aU H A/\f.length=i/\(l::f).Nodup/\∀a∈f,H a=none/\A a=some (.lst []),
  ⟨ds.length,[],by omega,by omega,rfl,dQ,RB.up (eM D _),s1.trans (eM D _),rfl,by simp,λ a h=>by simp at h⟩,?_⟩
 rintro i n acc A ⟨f,rfl,hi',rfl,m,bA,s2,Y,C,k⟩;refine⟨m,by rw[bg];omega,?_⟩;have jj:=jl _ A λ q I=>bA.tm q (eW _ I)
 by_cases L:i<ds.length
 .obtain⟨go,yl⟩:=(jj i).2 L
  refine .inr ⟨go,λ x O P=>?_⟩;obtain⟨s3,d,ed,rx⟩:=yl x O P;replace bA:=bA.up s3;replace m:=s3 _ _ m;replace s2:=s2.trans s3;replace k:=λ a S=>(⟨(k a S).1,s3 _ _ (k a S).2⟩:H a=none/\O a=some (.lst []))
  obtain⟨r,e1⟩:=X d;refine hg (u++τ) x d _ O _ _ _ r bA rx e1 λ Z4 R4=>?_
  refine ht (u++τ) Z4 O r _ _ R4 λ H5 s5=>?_
  rw[if_pos rfl];refine⟨dI _,λ p H6 s6 ah T=>?_⟩;have M:H6 l=some (.lst (f.map V.ref)):=s6 _ _ (s5 _ _ m);have hpl:p≠l:=λ z=>by subst z;rw[s5 _ _ m]at T;cases T
  have hpa:p∉f:=λ z=>by
   have:=s5 _ _ (k p z).2
   rw[T]at this;cases this
  have hpH:H p=none:=(s2.trans s5).free T;have B:gz l H6 (bt H6 l (.lst (f.map V.ref++[.ref p]))):=λ b o ne v=>by rw[cp ne];exact v
  refine⟨M,ds.length-(i+1),by omega,f++[p],rfl,L,by rw[gi];rfl,dQ,?_,?_,by rw[eJ];simp;omega,?_,λ a S=>?_⟩
  .have U:=bA.up (s5.trans s6)
   refine⟨U.len,λ j s e=>?_,λ b o v=>?_,U.new,λ q I=>(U.tm q I).but B M rfl bE⟩
   .match j,e with
    |0,e=>cases e;exact .inl rfl
    |j+1,e=>simp at e
   .exact B b o (λ z=>by subst z;rw[N.old.free D]at v;cases v) (U.old b o v)
  .exact λ b o v=>B b o (λ z=>by subst z;rw[F]at v;cases v) (((s2.trans s5).trans s6) b o v)
  .obtain⟨n1,n2⟩:=iq.mp C
   refine iq.mpr ⟨λ z=>?_,hW.mpr ⟨n2,by simp,λ x hx y P e=>?_⟩⟩
   .rcases dH.mp z with z|z
    .exact n1 z
    .exact hpl (er.mp z).symm
   .rw[er]at P
    subst P;subst e;exact hpa hx
  .rcases dH.mp S with z|z
   .refine⟨(k a z).1,?_⟩
    rw[cp λ q=>by subst q;exact(iq.mp C).1 z];exact s6 _ _ (s5 _ _ (k a z).2)
   .rw[er]at z
    subst z;exact⟨hpH,by rw[cp hpl];exact ah⟩
 .have ei:i=ds.length:=by omega
  exact .inl ⟨by rw[ei];exact(jj _).1 (bJ _),w l f A s2 F m C (by omega) k⟩
end
section
variable{C:bB}{pos b:Pos}{h t:Expr}{f:Scope}{N:List Str}{js:iL}{ks:List Nat}{fi:af->ag (List D)}{fg:D->af->ag af}
def sv(i:Nat)(fi:af->ag (List D))(js:iL)(fg:D->af->ag af):af->aC:=λ ρ=>(fi (shE ρ)).bo λ ds=>if ds.length<aQ then .nx (ρ.set i (.o2 (cG ds.length [])))else .st
def Om(K:kF C h t fi)(L:lB (C.blk f N) h ks fg)(M:js=[none]:=by rfl)(A:∀d,∃B,fg d [.no]= .ok B:=by intro _;exact⟨_,rfl⟩)(O:∀j,(C.X j).N[i]? =some x:=by z_go)(P:∀j,lg (C.X j).env.scope x:=by f_tup)(E:∀j,i8 (.ListComp (.List [] b) [⟨h,t,[],0⟩] f pos) (some (.Name x pos')) spos.line (C.X j).env=pure true:=by z_go)(Q:∀i x,kn t (C.X i).env x=pure x:=by intro _ _;rfl)(T:∀j,(C.X j).fn x=true\/(C.X j).env.scope.names.lookup x=some .local:=by fin2)(U:∀j,(C.X j).N.Nodup:=by intro _;assumption)(X:∀i,l9 (C.X i) f N (gI js) ks:=by intro _;exact xG rfl rfl rfl rfl rfl rfl):
  hB C (.Assign [.Name x pos'] (.ListComp (.List [] b) [⟨h,t,[],0⟩] f pos) spos) (sv i fi js fg):=by
 subst M;obtain⟨wi,Y,dg⟩:=K;obtain⟨g,g1,g2,g3,g4⟩:=L;obtain⟨tt,t1,t2⟩:=jD (C:=C.blk f N);refine⟨_,λ j=>Mh (U j) (O j) (P j) (X j) (C.calm j) (Y j) (λ c u S D=>g1 (j,c,u,S,D)) g3 (λ c u S D=>t1 (j,c,u,S,D)) (λ c u S D=>EY kB) (E j) (Q j) (T j),λ τ Z H ρ lab De R W=>?_⟩;refine WE dg g2 A t2 R (W.bo.imp λ ds _ w=>?_);by_cases F:ds.length<aQ
 .rw[if_pos F]at w
  refine⟨F,λ l k H' s hn hH q kX r=>?_⟩;have J:∀p o,H p=some o->(λ p=>if p=l then(i+2,0)else if p∈k then(i+2,k.idxOf p+1)else fF H 1 lab p) p=lab p:=λ p o e=>by
   cb_eq;have z1:p≠l:=λ z=>by subst z;rw[hn]at e;cases e
   have z2:p∉k:=λ z=>by rw[(r p z).1]at e;cases e
   rw[if_neg z1,if_neg z2,ib e]
  have R':RR C.K C.G τ ρ Z H' (λ p=>if p=l then(i+2,0)else if p∈k then(i+2,k.idxOf p+1)else fF H 1 lab p):=by
   refine(R.relab J λ p ah=>?_).up s;cases e:H p with
   |none=>exact R.old.free e
   |some o=>
    have:=J p o e
    dsimp only at this ah;rw[this]at ah;exact R.new p ah
  refine w _ _ _ (R'.put (s:=.o2 (cG ds.length [])) ⟨l,k.map V.ref,rfl,hH,by cb_eq;rw[if_pos rfl],by rw[bg,pU];exact kX,λ j x es n v=>?_⟩);rw[da,zZ]at n;obtain⟨a,n,rfl⟩:=n;have G:es=[]:=by
   rw[tI]at v;split at v
   .cases v;rfl
   .cases v
  subst G;have y:a∈k:=jK n;have I:a≠l:=λ z=>by subst z;exact(iq.mp q).1 y
  have hj2:j<k.length:=(fC.mp n).1;refine .lst (r a y).2 ?_ .nil
  show(if a=l then(i+2,0)else if a∈k then(i+2,k.idxOf a+1)else fF H 1 lab a)=(i+2,j+1)
  rw[if_neg I,if_pos y];have m:k.idxOf a<k.length:=IY.mpr y
  have:k[k.idxOf a]? =some a:=by rw[bP m];exact congrArg some (List.getElem_idxOf m)
  have:=(wc m (iq.mp q).2).mp (this.trans n.symm)
  rw[this]
 .rw[if_neg F]at w
  exact aV w
end
noncomputable def jO{α:Type}(l:List α)(i:Int)(y:α):List α:=l.take (if i<0 then(i+(l.length:Int)).toNat else min i.toNat l.length)++y::l.drop (if i<0 then(i+(l.length:Int)).toNat else min i.toNat l.length)
def On(l:List α)(i:Int)(y:α):(jO l i y).length=l.length+1:=by
 unfold jO
 grind
def Oo:V->List V->au->bC->Prop:=λ x vs H Q=>∃l xs i y,x= .ref l/\vs=[.int i,y]/\H l=some (.lst xs)/\-(2^63)<=i/\i<2^63/\xs.length<aQ/\∀H',gz l H H'->H' l=some (.lst (jO xs i y))->Q .non H'
def WG:xo X "list.insert" Oo:=by
 intro A s Z H x vs v B Q I d f h;obtain⟨l,xs,i,y,rfl,rfl,c,C,D,hz,q⟩:=h;cases d;obtain⟨E,u,rfl,g,j⟩:=vals2 f;obtain⟨t,rfl⟩:=g;obtain⟨z,a,n,r,k,e⟩:=I.lstM c;have m:D5 i=true:=by unfold D5;simp;omega
 refine rJ Km ⟨_,e,rfl⟩ PySem.F.entry_list_insert (PySem.F.args_list_insert_3 _ _ _) (QP l a.toArray n i t u (by simp[m]) (by rw[et];omega)) ⟨e,?_⟩;refine⟨.non,_,I.lset (ys:=jO xs i y) (its':=jO a i u) c e ?_ ?_ ?_,rfl,q _ (λ b o p w=>by rw[cp p];exact w) dQ⟩
 .rw[PySem.W.kl_ins_eq,et]
  rfl
 .unfold jO
  rw[k];exact(r.take _).append (.cons j (r.drop _))
 .rw[On];omega
theorem aM.jO{K:aB}(r:aM K A H xs ds)(h:aA K A H x d)(i:Int):aM K A H (VL.jO xs i x) (VL.jO ds i d):=by
 unfold VL.jO;rw[r.length];exact(r.take _).append (.cons h (r.drop _))
section
variable{C:bB}{pos a c p:Pos}{e f b:Expr}{l g:af->ag D}{i:Nat}{x:Str}{m t:Mode}
def xR(i:Nat)(l g:af->ag D):af->aC:=λ ρ=>match ρ[i]? with
 |some (.ow (.lst ds))=>(l ρ).bo λ k=>match k with
  | .int n=>(g ρ).bo λ d=>if -(2^63)<=n/\n<2^63/\ds.length<aQ then .nx (ρ.set i (.ow (.lst (jO ds n d))))else .st
  |_=>.st
 |_=>.st
def WH(i:Nat)(M:aF C t f l)(N:aF C m b g)(hm:r9 m=true:=by rfl)(hN:∀j,(C.X j).N[i]? =some x:=by z_go)(hv:∀j,hI (C.X j).env.scope x:=by x_go)(hd:Nd x:=by decide)
  (O:(x==("__classdict__":Str))=false:=by decide)(G:∀j,bf [f,b] (C.X j).env=(false,eval f (C.X j).env)::bf [b] (C.X j).env:=by z_go)(Q:∀j,bf [b] (C.X j).env=[(false,eval b (C.X j).env)]:=by z_go)
  (A:∀j,lT (.Name x p) "insert" (C.X j).env (eval (.Name x p) (C.X j).env)=eval (.Name x p) (C.X j).env:=by z_go)
  (I:∀j,((fW c (bf [f,b] (C.X j).env)).all (λ x=>!x.1)&&(ql c (qh [] (C.X j).env)).all (λ x=>x.1.isSome)&&decide ([f,b].length+([]:List iK).length+(if ([]:List iK).isEmpty then 0 else 1)<30))=true:=by z_go)
  (D:(a.endLine==c.line)=true:=by rfl)(u:∀j,(fW c (bf [b] (C.X j).env)).any (·.1)=false:=by z_go)
  (S:∀j,i8 (.Call (.Attribute (.Name x p) "insert" a) [f,b] [] c) none pos.line (C.X j).env=pure false:=by z_go):
  hB C (.Expr (.Call (.Attribute (.Name x p) "insert" a) [f,b] [] c) pos) (xR i l g):=by
 obtain⟨t1,a1,a2⟩:=M;obtain⟨t2,b1,b2⟩:=N;refine⟨rN (ux C.K "list" Oo (g8 i) (gm t1 (gm t2 jX))),λ j=>rO (by rw[<-C.hK j];exact xl wM Km PySem.F.type_list_insert WG (iO (hN j) (hv j) hd O) (g9 (a1 j) (g9 (b1 j) kB (Q j)) (G j)) (A j) (I j) D (G j) (u j)) (S j),λ τ Z H ρ lab De R W=>?_⟩;unfold xR at W;cases es:ρ[i]? with
 |none=>rw[es]at W;exact aV W
 |some s=>
  rw[es]at W;split at W
  .rename_i ds hs
   cases hs;rcases R.sl i _ es with z|⟨v,ev,T⟩
   .cases z
   .obtain⟨U,J⟩:=T
    obtain⟨E,V,X⟩:=J rfl;subst V;obtain⟨_,xs,e0,h,mm,r⟩:=U.lst_inv
    .cases e0
     refine⟨.ref E,ev,.inl ⟨rfl,xs,cu.of h⟩,a2 τ Z H ρ lab _ R (W.bo.imp λ k _ w y1 K F r1=>?_)⟩;cases k with
     |int n=>
      have ey:=r1.int_inv;subst ey;refine b2 τ Z K ρ lab _ (R.up F) (w.bo.imp λ d _ w y H2 s2 r2=>?_);by_cases hz: -(2^63)<=n/\n<2^63/\ds.length<aQ
      .rw[if_pos hz]at w
       refine⟨E,xs,n,y,rfl,rfl,(F.trans s2) _ _ h,hz.1,hz.2.1,by rw[r.length];exact hz.2.2,λ H3 B h3=>?_⟩;obtain⟨R',r'⟩:=(R.up F).fresh (P:=λ k=>k=1) rfl (λ k hk=>beq_iff_eq.mp (pa hm k hk)) s2 r2;have Y:K E=some (.lst xs):=F _ _ h;have L:(fF K 1 lab E).1=i+2:=by rw[ib Y];exact X
       refine w Z H3 _ (R'.mut ev (s2 _ _ Y) rfl L B ⟨.lst h3 (.inr L) ?_,λ _=>⟨E,rfl,L⟩⟩);have ra:aM C.K (λ p=>((fF K 1 lab p).1=1\/(fF K 1 lab p).1=i+2)/\p≠E) H2 (jO xs n y) (jO ds n d):=by
        refine(r.mono (F.trans s2) λ p o e z=>⟨by rw[ib (F _ _ e)];exact z.1,z.2⟩).jO (r'.wk λ p o e z=>⟨.inl z,λ q=>?_⟩) n;subst q;rw[L]at z;omega
       exact ra.but B (s2 _ _ Y) rfl λ z=>z.2 rfl
      .rw[if_neg hz]at w
       exact aV w
     |_=>exact aV w
  .exact aV W
end
def uE:∀{u:List α},u.length=6->∃a b c d e f,u=[a,b,c,d,e,f]
 |[a,b,c,d,e,f],_=>⟨a,b,c,d,e,f,rfl⟩
theorem Oq(f:α->β):∀(l:List α) (k:Nat),(l.map f).eraseIdx k=(l.eraseIdx k).map f
 |[],_=>rfl
 |_::_,0=>rfl
 |x::l,k+1=>by simp only[bu,List.eraseIdx_cons_succ,Oq f l k]
theorem Os{K:aB}:∀{ns:List Int} {xs:List V},aM K A H xs (ns.map .int)->xs=ns.map .int
 |[],_,r=>by cases r;rfl
 |n::ns,_,r=>by
  cases r with
  |cons h r=>
   rw[h.int_inv,Os r];rfl
def Ot:V->List V->au->bC->Prop:=λ x vs H Q=>∃(l:Addr) (ns:List Int) (i:Int),x= .ref l/\vs=[.int i]/\H l=some (.lst (ns.map V.int))/\i∈ns/\ns.length<=aQ/\∀H',gz l H H'->H' l=some (.lst ((ns.eraseIdx (ns.idxOf i)).map V.int))->Q .non H'
def WI:xo X "list.remove" Ot:=by
 intro O s Z H x vs v P Q I D E h;obtain⟨l,ns,i,rfl,rfl,C,g,hz,q⟩:=h;cases D;obtain⟨u,rfl,j⟩:=E.one;obtain⟨t,rfl⟩:=j;obtain⟨z,c,n,r,F,e⟩:=I.lstM C;rw[bg]at F;have R:ns.idxOf i<ns.length:=IY.mpr g;have d:∀m (g:m<c.length),∃k,c[m]= .int (ns[m]'(by lia)) k:=λ m g=>by
  have G:(ns.map V.int)[m]? =some (.int (ns[m]'(by lia))):=by rw[da,bP (by lia)];rfl
  obtain⟨u,J,j⟩:=r.get G;obtain⟨k,rfl⟩:=j;exact⟨k,i7 ((bP g).symm.trans J)⟩
 let K:Value->Bool:=λ y=>match y with| .int a _=>a==i|_=>false
 refine rJ Kn ⟨_,e,rfl⟩ PySem.F.entry_list_remove (PySem.F.args_list_remove_2 _ _) (Q0 l c.toArray n (.int i t) K ?_ (ns.idxOf i) (by rw[et];lia) ?_ ?_ (by rw[et];lia)) ⟨e,?_⟩
 .intro y L
  obtain⟨m,w,rfl⟩:=Array.getElem_of_mem L;rw[C8];obtain⟨k,f⟩:=d m (by simpa using w);rw[f];exact Q1 _ _ _ _
 .rw[C8]
  obtain⟨k,f⟩:=d (ns.idxOf i) (by lia);rw[f]
  show(ns[ns.idxOf i]==i)=true
  simp
 .intro m A B
  rw[C8];obtain⟨k,f⟩:=d m (by simpa using A);rw[f]
  show(ns[m]'(by lia)==i)=false
  have:=List.not_of_lt_findIdx (p:=(·==i)) (xs:=ns) B
  simpa using this
 .refine⟨.non,_,I.lset (ys:=(ns.eraseIdx (ns.idxOf i)).map V.int) (its':=c.eraseIdx (ns.idxOf i)) C e (by simp) ?_ ?_,rfl,q _ (λ b o M N=>by rw[cp M];exact N) dQ⟩
  .have:=r.eraseIdx (ns.idxOf i)
   rwa [Oq]at this
  .rw[bg,Je]
   split<;>lia
noncomputable def Ga(ρ:af)(i:Nat)(ds:List D)(d:D):aC:=match intsOf ds,d with
 |some ns,.int z=>if z∈ns/\ns.length<=aQ then .nx (ρ.set i (.ow (.lst ((ns.eraseIdx (ns.idxOf z)).map .int))))else .st
 |_,_=>.st
def xS(i:Nat)(fe:af->ag D):af->aC:=λ ρ=>match ρ[i]? with
 |some (.ow (.lst ds))=>(fe ρ).bo λ d=>Ga ρ i ds d
 |_=>.st
section
variable{C:bB}{pos a c p:Pos}{e:Expr}{fe:af->ag D}{i:Nat}{x:Str}{m:Mode}
def WJ(i:Nat)(M:aF C m e fe)(N:r9 m=true:=by rfl)(O:∀j,(C.X j).N[i]? =some x:=by z_go)(Q:∀j,hI (C.X j).env.scope x:=by x_go)(S:Nd x:=by decide)
  (q:(x==("__classdict__":Str))=false:=by decide)(f:∀j,bf [e] (C.X j).env=[(false,eval e (C.X j).env)]:=by z_go)
  (b:∀j,lT (.Name x p) "remove" (C.X j).env (eval (.Name x p) (C.X j).env)=eval (.Name x p) (C.X j).env:=by z_go)
  (g:∀j,((fW c (bf [e] (C.X j).env)).all (λ x=>!x.1)&&(ql c (qh [] (C.X j).env)).all (λ x=>x.1.isSome)&&decide ([e].length+([]:List iK).length+(if ([]:List iK).isEmpty then 0 else 1)<30))=true:=by z_go)
  (l:(a.endLine==c.line)=true:=by rfl)
  (u:∀j,i8 (.Call (.Attribute (.Name x p) "remove" a) [e] [] c) none pos.line (C.X j).env=pure false:=by z_go):
  hB C (.Expr (.Call (.Attribute (.Name x p) "remove" a) [e] [] c) pos) (xS i fe):=by
 obtain⟨t,T,U⟩:=M;refine⟨rN (ux C.K "list" Ot (g8 i) (gm t jX)),λ j=>rO (by rw[<-C.hK j];exact xl wM Kn PySem.F.type_list_remove WI (iO (O j) (Q j) S q) (g9 (T j) kB (f j)) (b j) (g j) l (f j) rfl) (u j),λ τ Z H ρ lab De R W=>?_⟩;unfold xS at W;cases es:ρ[i]? with
 |none=>rw[es]at W;exact aV W
 |some s=>
  rw[es]at W;split at W
  .rename_i ds V
   cases V;rcases R.sl i _ es with z|⟨v,K,A⟩
   .cases z
   .obtain⟨D,o⟩:=A
    obtain⟨n,E,F⟩:=o rfl;subst E;obtain⟨_,xs,X,h,mm,r⟩:=D.lst_inv;cases X;refine⟨.ref n,K,.inl ⟨rfl,xs,cu.of h⟩,U τ Z H ρ lab _ R (W.bo.imp λ d _ w y H2 s2 L=>?_)⟩;unfold Ga at w;split at w
    .rename_i zz ns z G _
     by_cases hz:z∈ns/\ns.length<=aQ
     .rw[if_pos hz]at w
      have I:=mn G;subst I;have Y:=Os r;subst Y;have ey:=L.int_inv;subst ey;refine⟨n,ns,z,rfl,rfl,s2 _ _ h,hz.1,hz.2,λ H3 B h3=>?_⟩;obtain⟨R',r'⟩:=R.fresh (P:=λ k=>k=1) rfl (λ k hk=>beq_iff_eq.mp (pa N k hk)) s2 L;have J:(fF H 1 lab n).1=i+2:=by rw[ib h];exact F
      exact w Z H3 _ (R'.mut K (s2 _ _ h) rfl J B ⟨.lst h3 (.inr J) aM.ints,λ _=>⟨n,rfl,J⟩⟩)
     .rw[if_neg hz]at w
      exact aV w
    .exact aV w
  .exact aV W
end
def Ou:V->V->au->bC->Prop:=λ o i H Q=>∃(p:Addr) (xs:List V) (k:Int) (j:Nat) (z:V),o= .ref p/\i= .int k/\H p=some (.lst xs)/\hh xs.length k=some j/\xs[j]? =some z/\Q z H
def WK:Ls X Ou:=by
 intro u s Z H o i C D Q I v x h;obtain⟨p,xs,k,j,z,rfl,rfl,ah,y,hz,q⟩:=h;cases v;obtain⟨t,rfl⟩:=x;obtain⟨a,n,r,A,E⟩:=I.lst ah;obtain⟨b,F,e,B⟩:=EN y;obtain⟨w,g,c⟩:=r.get hz;have l:=r.length;have G:=rS;have L:s.heap.IsList p a.toArray:=⟨_,A,rfl,n,rfl⟩;have f:hO X u Z Q w s:=⟨z,H,I,c,q⟩;by_cases m:0<=k
 .have d:k.toNat=j:=by
   rw[Ak m B]at b;exact i7 b
  exact wpAny_getItem_list L m (by omega) (by rw[d];simpa using g) f
 .have d:(k+(a.toArray.size:Int)).toNat=j:=by
   rw[Ah (by omega) e]at b;rw[et,<-l];exact i7 b
  exact JY L (by omega) (by rw[et,<-l];exact e) (by omega) (by rw[d];simpa using g) f
noncomputable def Ov(g:Int->Int->Int)(ρ:af)(i:Nat)(ds:List D)(j:Nat)(a:Int):D->aC
 | .int b=>.nx (ρ.set i (.ow (.lst (ds.set j (.int (g a b))))))
 |_=>.st
noncomputable def vc(ds:List D):D->Option (Nat×Int)
 | .int k=>(hh ds.length k).bind λ j=>match ds[j]? with
  |some (.int a)=>some (j,a)
  |_=>none
 |_=>none
def xT(g:Int->Int->Int)(i:Nat)(fk fe:af->ag D):af->aC:=λ ρ=>match ρ[i]? with
 |some (.ow (.lst ds))=>(fk ρ).bo λ k=>match vc ds k with
  |some (j,a)=>(fe ρ).bo λ d=>Ov g ρ i ds j a d
  |none=>.st
 |_=>.st
def WL(h:vc ds k=some (j,a)):∃n,k= .int n/\hh ds.length n=some j/\ds[j]? =some (.int a):=by
 unfold vc at h;split at h
 .rename_i n
  cases b:hh ds.length n with
  |none=>rw[b]at h;cases h
  |some d=>
   rw[b,tS]at h;split at h
   .rename_i e c
    cases h;exact⟨n,rfl,b,c⟩
   .cases h
 .cases h
section
variable{C:bB}{pos t p:Pos}{c e:Expr}{fk fe:af->ag D}{x:Str}{m f:Mode}{op:Operator}{g:Int->Int->Int}
def WM(i:Nat)(I:∀j,uo (C.X j) op (xc g))(X:aF C f c fk)(Y:aF C m e fe)(hN:∀j,(C.X j).N[i]? =some x:=by z_go)(hv:∀j,hI (C.X j).env.scope x:=by x_go)(hd:Nd x:=by decide)
  (J:(x==("__classdict__":Str))=false:=by decide)(ha:∀F G l,augStore c F G l=(do ju [l,F,G] (setItem F G l);release [l,F,G] [];pure .next):=by intros;rfl):
  hB C (.AugAssign (.Subscript (.Name x p) c t) op e pos) (xT g i fk fe):=by
 obtain⟨tk,k1,k2⟩:=X;obtain⟨te,e1,e2⟩:=Y;refine⟨Lr (g8 i) tk te Ou (xc g) L0,λ j=>RP (iO (hN j) (hv j) hd J) (k1 j) WK (e1 j) (I j) set_list ha,λ τ Z H ρ lab De R W=>?_⟩;unfold xT at W;cases es:ρ[i]? with
 |none=>rw[es]at W;exact aV W
 |some s=>
  rw[es]at W;split at W
  .rename_i ds hs
   cases hs;rcases R.sl i _ es with z|⟨v,T,K⟩
   .cases z
   .obtain⟨L,A⟩:=K
    obtain⟨q,M,u⟩:=A rfl;subst M;obtain⟨_,xs,e0,h,mm,r⟩:=L.lst_inv
    .cases e0
     refine⟨.ref q,T,k2 τ Z H ρ lab _ R (W.bo.imp λ k _ w y1 H1 D r1=>?_)⟩;cases hK:vc ds k with
     |none=>rw[hK]at w;exact aV w
     |some ja=>
      obtain⟨j,a⟩:=ja;rw[hK]at w;dsimp only at w;obtain⟨n,rfl,U,E⟩:=WL hK;have N:=r1.int_inv;subst N;have O:j<xs.length:=by rw[r.length];exact(fC.mp E).1
      have P:=bP O;obtain⟨d',V,rd⟩:=r.get P;rw[E]at V;cases V;have ex:=rd.int_inv;rw[ex]at P;refine⟨q,xs,n,j,.int a,rfl,rfl,D _ _ h,by rw[r.length];exact U,P,e2 τ Z H1 ρ lab _ (R.up D) (w.bo.imp λ d _ w y Q s2 r2=>?_)⟩;cases d with
      |int b=>
       have N:=r2.int_inv;subst N;have S:Q q=some (.lst xs):=(D.trans s2) _ _ h;refine⟨a,b,rfl,rfl,q,xs,n,j,rfl,rfl,S,by rw[r.length];exact U,?_⟩;have B:gz q Q (bt Q q (.lst (xs.set j (.int (g a b))))):=λ b' o ne hb=>by rw[cp ne];exact hb
       refine w Z _ _ ((R.up (D.trans s2)).mut T S rfl u B ⟨.lst dQ (.inr u) ?_,λ _=>⟨q,rfl,u⟩⟩);exact((r.up (D.trans s2)).set (.int (g a b)) j).but B S rfl λ z=>z.2 rfl
      |_=>exact aV w
  .exact aV W
end
noncomputable def n5(j:Int):List Int:=(dY j.toNat).map λ(k:Nat)=>0+(k:Int)
def Ow:List V->au->bC->Prop:=λ xs H Q=>∃j:Int,xs=[.int j]/\∀p,H p=none->Q (.ref p) (bt H p (.rng 0 j))
def WN:fM X (.type "range") Ow:=by
 intro k s Z H vs c Q I r h;obtain⟨j,rfl,q⟩:=h;obtain⟨u,rfl,b⟩:=r.one;obtain⟨t,rfl⟩:=b;exact call_range_1 ⟨.ref s.heap.objs.size,_,I.laid (a:=s.heap.objs.size) (o:=.rng 0 j) (t':=s.toks+1+1) (λ _ _ q=>bM _ q) (bJ _) ⟨_,_,_,dy _ rfl⟩,rfl,q _ (I.hok.fresh (bJ _))⟩
def Ox:List V->au->bC->Prop:=λ xs H Q=>∃(p:Addr) (j:Int),xs=[.ref p]/\H p=some (.rng 0 j)/\-(2^62)<=j/\j<=10000/\∀l H',aU H H'->H l=none->H' l=some (.lst ((n5 j).map V.int))->Q (.ref l) H'
def WO:∀{ns:List Int} {s:List Value},ns.length=s.length->(∀(k:Nat) i,ns[k]? =some i->∃t,s[k]? =some (.int i t))->Vals (ns.map V.int) s:=by
 intro ns;induction ns with
 |nil=>intro s l _;rw[List.eq_nil_of_length_eq_zero l.symm];exact .nil
 |cons n ns a=>
  intro s l h;obtain⟨t,e⟩:=h 0 n rfl;cases s with
  |nil=>cases e
  |cons u s=>
   have b:u= .int n t:=i7 e;subst b;exact .cons ⟨t,rfl⟩ (a (JL l) λ k i c=>h (k+1) i c)
def WQ(g:X.calm=true):fM X (.type "list") Ox:=by
 intro F s Z H vs G Q I r h;obtain⟨p,j,rfl,ah,J,K,q⟩:=h;obtain⟨u,rfl,l⟩:=r.one;cases l;obtain⟨t,u,v,o⟩:=I.hok p _ ah;have hsz:D6 0 j 1=(j.toNat:Int):=by
  unfold D6;simp only[show(1:Int)>0 by decide,if_true];split<;>lia
 refine call_list_range (n:=j.toNat) (I.ok.hd g) o ?_ hsz (by lia) λ h' d acc w y S E=>?_
 .have fl:∀x:Int,-(2^62)<=x->x<=2^62->Ke x=true:=λ x z A=>by
   unfold Ke;simp;lia
  unfold QV;rw[hsz,fl 0 (by lia) (by lia),fl j (by lia) (by lia),fl 1 (by lia) (by lia),fl _ (by lia) (by lia),if_pos (by decide),fl (j+(1-1)) (by lia) (by lia),IU];rfl
 .have f:=I.hok.fresh (bJ s.heap.objs.size)
  have B:Vals ((n5 j).map V.int) acc.toList:=by
   have C:(n5 j).length=acc.toList.length:=by rw[show acc.toList.length=acc.size from gZ,E.1];simp[n5]
   refine WO C λ k i a=>?_
   have b:k<acc.size:=by rw[E.1];have:=(fC.mp a).1;simpa[n5]using this
   obtain⟨d,e⟩:=E.2 k acc[k] (ro b);refine⟨d,?_⟩;have D:i=0+(k:Int)*1:=by
    unfold n5 at a;rw[da]at a;cases c:(dY j.toNat)[k]? with
    |none=>rw[c]at a;cases a
    |some m=>
     rw[c]at a;cases a
     have:=fC.mp c
     have:m=k:=by simpa using this.2.symm
     subst this
     show(0:Int)+(m:Int)=0+(m:Int)*1
     lia
   rw[D,<-e];simp[b]
  refine⟨.ref s.heap.objs.size,bt H s.heap.objs.size (.lst ((n5 j).map V.int)),I.laid (t':=d) y (bJ _) ⟨?_,acc.toList,w,B,by simpa using S⟩,rfl,q _ _ (eM f _) f dQ⟩;simp[n5]
  have:aQ=16777216:=ko
  lia
noncomputable def Gb:D->ag D
 | .int j=>if -(2^62)<=j/\j<=10000 then .ok (.lst (cw 0 j))else .st
 |_=>.st
def pA(f:af->ag D):af->ag D:=λ ρ=>(f ρ).bd Gb
def Oy(j:Int):cw 0 j=(n5 j).map D.int:=by
 unfold cw n5;rw[cV,Int.sub_zero];rfl
section
variable{C:bB}{pos o p b:Pos}{a:Expr}{f:af->ag D}{m:Mode}
def Gc(L:C.mg "list"=none)(c:C.mg "range"=none)(x:aF C m a f)(s:∀i,bf [a] (C.X i).env=[(false,eval a (C.X i).env)]:=by z_go)(h:∀i,bf [.Call (.Name "range" b) [a] [] o] (C.X i).env=[(false,eval (.Call (.Name "range" b) [a] [] o) (C.X i).env)]:=by z_go)(g:∀i,dA (C.X i) "list":=by z_go)(v:gx "list"=some (.type "list"):=by f_are)(e:∀i,dA (C.X i) "range":=by z_go):aF C (some []) (.Call (.Name "list" p) [.Call (.Name "range" b) [a] [] o] [] pos) (pA f):=by
 obtain⟨t,z,A⟩:=x;refine⟨mO Ox (gm (mO Ow (gm t jX)) jX),λ i=>uv (WQ (C.calm i)) (g i) (by rw[(C.cx i).2.2.2.1];exact L) v (g9 (uv WN (e i) (by rw[(C.cx i).2.2.2.1];exact c) Dq (g9 (z i) kB (s i)) (by decide) (by decide) (s i) rfl) kB (h i)) (by decide) (by decide) (h i) rfl,λ τ Z H ρ lab Q R W=>?_⟩;refine A τ Z H ρ lab _ R (W.bd.imp λ d _ w y G r B=>?_);unfold Gb at w;split at w
 .rename_i j _
  by_cases hz: -(2^62)<=j/\j<=10000
  .rw[if_pos hz]at w
   have D:=B.int_inv;subst D;refine⟨j,rfl,λ q u=>⟨q,j,rfl,dQ,hz.1,hz.2,λ l H' s' E k=>?_⟩⟩;have F:=(r.trans (eM u _)).trans s';have n:H l=none:=(r.trans (eM u _)).free E;refine w _ H' F (.lst k (.inl n) ?_);rw[Oy];exact aM.ints
  .rw[if_neg hz]at w
   exact aV w
 .exact aV w
end
noncomputable def aRR(ρ:af)(i:Nat)(ds:List Int):D->aC
 | .int z=>if ds.length<4000 then .nx (ρ.set i (.ow (.set (iH ds z))))else .st
 |_=>.st
section
variable{prog:bD}{w:World}{A:cg}{E:Value->ax->Prop}{s:ax}{b t:Addr}{i:Nat}{items:Array Value}
def NoD.at{h:Heap}{a:Addr}{o:Obj}(e:h.get? a=some o)(d:o.dict=none:=by rfl):L2.NoD h a:=λ u q=>by lia
def WR(h:s.heap.IsTupleIter b t i)(e:s.heap.IsTuple t items)(f:items[i]? =some x)
  (g:∀h',h'.IsTupleIter b t (i+1)->qu b s.heap h'->Q x {s with heap:=h'}):wpAny (model prog w) A (As (.ref b)) Q E s:=by
 obtain⟨o,a,j,d⟩:=id h;obtain⟨k,l,_,n,c⟩:=e;unfold As;refine av (nJ (name:=nO "__next__") h.typeIs Av (jU Av h.typeIs Kt ?_ (Ks _)));show wpAny _ _ (field (.ref b) 0>>=_) _ _ s;refine av (lW a d (x:=.ref t) rfl ?_);show wpAny _ _ (if (fX t==fE)=true then _ else _) _ _ s;rw[if_neg (show¬((fX t==fE)=true)from gh)];show wpAny _ _ (field (.ref b) 1>>=_) _ _ s;refine av (lW a d (x:=.int i 0) rfl ?_);show wpAny _ _ (seqItems? (.ref t)>>=_) _ _ s;refine av (DS l c ?_);simp only[kT,f];refine av (rG a d (by simp) (aL ⟨x,rfl,aL (g _ ⟨_,wN _ a (Ei (wQ d _)),(KF ..).trans j,by rw[wQ d];simp[lY]⟩ (nM ..))⟩))
def Oz(g:A.handled=none)(h:s.heap.IsTupleIter b t i)(j:s.heap.IsTuple t items)(k:items[i]? =none)
  (n:∀h' e,Eh b s.heap h'->(∃o,h'.get? e=some o/\o.cls= .type "StopIteration")->E (.ref e) {s with heap:=h'}):wpAny (model prog w) A (As (.ref b)) Q E s:=by
 obtain⟨o,c,p,d⟩:=id h;obtain⟨q,l,_,r,f⟩:=j;unfold As;refine av (nJ (name:=nO "__next__") h.typeIs Av (jU Av h.typeIs Kt ?_ (Ks _)));show wpAny _ _ (field (.ref b) 0>>=_) _ _ s;refine av (lW c d (x:=.ref t) rfl ?_);show wpAny _ _ (if (fX t==fE)=true then _ else _) _ _ s;rw[if_neg (show¬((fX t==fE)=true)from gh)];show wpAny _ _ (field (.ref b) 1>>=_) _ _ s;refine av (lW c d (x:=.int i 0) rfl ?_);show wpAny _ _ (seqItems? (.ref t)>>=_) _ _ s;refine av (DS l f ?_);simp only[kT,k];refine av (qk (av (rG c d (by simp) ?_)));show wpAny _ _ (uf (.type "StopIteration") []>>=_) _ _ _;refine av ?_;simp only[uf,newTuple];refine av (hG ?_ (by size_fits));refine av (m:=tZ _ _) (wD (a:=fE) (by simp only[tZ];rfl) ?_);refine hG ?_ (by size_fits);simp only[raiseNew];refine av (DW ?_);first|rw[show A.in1.handled=none from g]|rw[g]
 refine av (aL (D0 ?_));exact n _ _ (((nM ..).extBut.push _).push _) ⟨_,dy _ rfl,rfl⟩
end
def WS(d:A.handled=none)(a t:Addr)(n:t≠a)(items:Array Value):
  Draws prog w A a [a,t] items.size (λ i v=>items[i]? =some v) (λ i h=>h.IsTupleIter a t i/\h.IsTuple t items) where
 live:=λ _ _ st=>let⟨o,ho,_⟩:=st.1;⟨o,ho⟩
 frame:=λ _ _ _ st k=>⟨st.1.at λ o e=>k a (by simp) o e,let⟨o,ho,r⟩:=st.2;⟨o,k t (by simp) o ho,r⟩⟩
 item:=λ i s Q E j st f=>WR st.1 st.2 (x:=items[i]) (by simp) λ h' b c=>f _ h' _ (by simp) ⟨b,let⟨o,ho,r⟩:=st.2;⟨o,(c.2 t n).trans ho,r⟩⟩ c
 done:=λ s Q E st g=>Oz d st.1 st.2 (by simp) g
def WT(l:Addr)(items:Array Value)(n:Nat)(dct:Option Addr)(sl:Array (Option Value)):
  Meets (hY.«enumerate.__new__» ⟨[.type "enumerate",.ref l],[]⟩) (λ _ R s=>s.heap.get? l=some {cls:=.type "tuple",dict:=dct,data:=.seq items n,slots:=sl}/\
   R (.ok (.ret (.ref (s.heap.push {cls:=.type "tuple_iterator",data:=.fields #[.ref l,.int 0 0]}).objs.size)))
    {s with heap:=(s.heap.push {cls:=.type "tuple_iterator",data:=.fields #[.ref l,.int 0 0]}).push {cls:=.type "enumerate",data:=.fields #[.none,.bool false,.ref s.heap.objs.size,lY 0,.none,.none]}}):=
 .of_wp λ prog w A R s h=>by
  obtain⟨ah,g,d,t,os⟩:=s;obtain⟨a,h⟩:=h;have b:=sub_enumerate;have L:Heap.IsTuple (Shared.heap ⟨ah,g,d,t,os⟩) l items:=⟨_,a,rfl,n,rfl⟩;wp_walk using oP a;refine wpAny_stack_any λ st=>aL ?_
  split
  .rename_i c _ _ _ _ _
   cases (c==mJ "enumerate")<;>(wp_walk using oP a,wz L;exact⟨_,rfl,h⟩)
  .wp_walk using oP a,wz L
   exact⟨_,rfl,h⟩
def WU(L:s.heap.IsTuple l items)
  (h:∀h',IsEnum h' (s.heap.objs.size+1) s.heap.objs.size 0 .none->h'.IsTupleIter s.heap.objs.size l 0->(∀b o,s.heap.get? b=some o->h'.get? b=some o)->Q (.ref (s.heap.objs.size+1)) {s with heap:=h'}):
  wpAny (model prog w) A (call (.type "enumerate") [.ref l]) Q E s:=by
 obtain⟨⟨c,dct,t,sl⟩,f,a,n,d⟩:=L;replace a:c= .type "tuple":=a;replace d:t= .seq items n:=d;subst a d;refine callType_new F.called_enumerate (by decide) (F.typeCall_enumerate_1 _) (F.newCall_enumerate_1 _) (λ j=>F.args_object_init_2 j _) F.entry_enumerate_new (WT l items n dct sl) ⟨f,?_⟩;have hz:(s.heap.push {cls:=.type "tuple_iterator",data:=.fields #[.ref l,.int 0 0]}).objs.size=s.heap.objs.size+1:=k9 ..;show _/\_;rw[hz];have e:=by
  have:=dy (s.heap.push {cls:=.type "tuple_iterator",data:=.fields #[.ref l,.int 0 0]}) (o:={cls:=.type "enumerate",data:=.fields #[.none,.bool false,.ref s.heap.objs.size,lY 0,.none,.none]}) rfl
  rw[hz]at this;exact this
 exact⟨⟨_,e,rfl⟩,h _ e ⟨_,bM _ (dy _ rfl),rfl,rfl⟩ λ b o x=>bM _ (bM _ x)⟩
def OA{X:aZ}{Q:bZ}{Z:List (Option V)}{H:au}{s:ax}{h':Heap}{ch:List Addr}{p t':Nat}{o:HO}(I:Inv X Q Z H s)(g:∀b∈ch,jW X Q H b)(k:∀b u,b∉ch->s.heap.get? b=some u->h'.get? b=some u)
  (ah:s.heap.objs.size<=p)(w:fY X.prog X.w (bt H p o) h' p o):Inv X Q Z (bt H p o) {s with heap:=h',toks:=t'}:=by
 have h:=I.hok.fresh ah;have a:∀b u,H b=some u->b∉ch:=λ b u e z=>by have:=(g b z).1;lia
 refine I.call (ch:=ch) ⟨λ b u q _ _ x=>k b u x q,λ b u q _ _ x=>⟨u.slots,k b u x q⟩,λ b u q n _=>?_,λ b u q x=>⟨u,k b u x q⟩,λ b xs q=>?_,λ b u xs q=>?_,λ b ps q=>?_⟩ (λ b u e=>?_) I.bare
  λ b d=>let⟨_,f1,_,f3,f4,f5⟩:=g b d;⟨f3,f1,f4,f5⟩
 .rw[cp (cC (fq (cb q) ah))];exact n
 .rw[cp (lb q h)];exact q
 .rw[cp (lb q h)];exact q
 .rw[cp (lb q h)];exact q
 .by_cases d:b=p
  .subst d;rw[dQ]at e;grind
  .rw[cp d]at e
   refine(I.hok b u e).stay (λ c v f q=>k c v ?_ q) (λ c q=>by rw[cp (lb q h)];exact q) (λ c xs q=>by rw[cp (lb q h)];exact q) λ c o2 i q=>by rw[cp (lb q h)];exact q
   rcases f with rfl|f
   .exact a _ _ e
   .exact a _ _ f
def Gd(K:aB)(a:Addr):kA:=
 ⟨λ i H=>∃xs x,bQ K H a xs/\xs[i]? =some x,λ i H x H'=>∃p y,x= .ref p/\H p=none/\H'=bt H p (.tup [.int i,y])/\∀xs,bQ K H a xs->xs[i]? =some y,λ i H=>∃xs,bQ K H a xs/\xs.length<=i⟩
def WV{P:bD}{w:World}{K:aB}{C:List Expr}{x1:Nat}{ps:Pos}(a e t:Addr)(n:e≠t)(N:a≠e)(O:a≠t):
  Turn P w K (.Tuple C x1 ps) (Gd K a) [e,t] e (λ i h=>(∃l,IsEnum h e t i l)/\h.IsTupleIter t a i) where
 mem:=by simp
 obj:=λ i h st b f=>by
  obtain⟨⟨l,g⟩,o,e2,c,d⟩:=st;rcases b8.mp f with rfl|f
  .exact⟨_,g,λ v z=>by cases z⟩
  .have q:b=t:=by simpa using f
   subst q;exact⟨o,e2,λ v z=>by rw[d]at z;cases z⟩
 keep:=λ i h h' st k=>⟨let⟨l,g⟩:=st.1;⟨l,k e (by simp) _ g⟩,st.2.at λ o q=>k t (by simp) o q⟩
 item:=by
  intro X Q R hK D i kQ s Z H E I J st S;subst Q R hK;obtain⟨xs,x,L,U⟩:=S;obtain⟨r,V,p,hz⟩:=I.tuple L;obtain⟨u,hu,ru⟩:=V.get U;obtain⟨⟨l,g⟩,j⟩:=st;refine wpAny_pyNext_enum_itemD (WS (A:=X.A.in1) (show X.A.in1.handled=none from I.ok.hd D) t a O r.toArray) g ⟨j,p⟩ (by have:=(fC.mp hu).1;simpa using this) n (by simp[n,ir N]) λ y h' tk M W Y G hsz hk=>⟨_,rfl,?_⟩
  have ey:y=u:=by
   have:r.toArray[i]? =some u:=by simpa using hu
   rw[this]at M;exact(i7 M).symm
  subst ey;have B:e<s.heap.objs.size:=cb g;refine wpAny_letOwnedTupleGo_enum W λ h2 he2 m=>⟨.ref s.heap.objs.size,bt H s.heap.objs.size (.tup [.int i,x]),?_,rfl,⟨_,x,rfl,I.hok.fresh (bJ _),rfl,λ ys M=>by rw[I.tuple_inj M L];exact U⟩,⟨⟨_,by simpa using he2⟩,Y.1.at λ o q=>(m.2 t (ir n)).trans q⟩,λ b f=>?_⟩
  .exact OA (s:=s) (h':=h2) (t':=tk+1) I J (λ b u f q=>(m.2 b λ z=>f (by simp[z])).trans (hk b u (λ z=>f (by simp[z])) (λ z=>f (by simp[z])) q)) (bJ _) ⟨⟨by simp[ko],NoD.at ((m.2 _ (kV B)).trans G)⟩,[.int i tk,y],.cons ⟨_,rfl⟩ (.cons ru .nil),_,(m.2 _ (kV B)).trans G,rfl,_,rfl⟩
  .have:=(J b f).1
   rw[cp]
   .exact this
   .rintro rfl
    rcases b8.mp f with q|q
    .exact absurd B (by rw[<-q];exact jL _)
    .obtain⟨o,ho2,_⟩:=j
     have q2:s.heap.objs.size=t:=by simpa using q
     exact absurd (cb ho2) (by rw[<-q2];exact jL _)
 done:=by
  intro X Q R hK D i kQ s Z H E I J st S;subst Q R hK;obtain⟨xs,L,U⟩:=S;obtain⟨r,V,p,hz⟩:=I.tuple L;obtain⟨⟨l,g⟩,j⟩:=st;obtain⟨f0,f1,f2,f3,f4,f5⟩:=J t (by simp);have G:s.TypeIs (.ref e) "enumerate":=⟨_,g,rfl⟩;have hl:=V.length;unfold jv;refine av (wB (nJ (name:=nO "__next__") G Ky (jU Ky G F.entry_enumerate_next ?_ (F.args_enumerate_next_1 _))));show wpAny _ _ (field (.ref e) 2>>=_) _ _ _;refine av (lW g rfl (x:=.ref t) rfl ?_);refine av (Oz (I.ok.hd D) j p (by simp;lia) λ h' x he' hx'=>?_);obtain⟨o,W,D⟩:=hx';refine av (Af (T:="StopIteration") (b:=true) ⟨o,W,D⟩ DN ?_);exact aL ⟨rfl,I.turned (t':=s.toks) (λ b o f q=>he' b o f q) f0 f1 f3 f4 f5⟩
 self:=λ _ _ _ _ _ st h=>let⟨⟨_,g⟩,_⟩:=st;Ka g h
def OB(K:aB)(t:fZ):iS:=λ Z H R=>t Z H λ xs b=>∃a,xs=[.ref a]/\(∃ys,bQ K b a ys)/\R (Gd K a) b
def WW{X:aZ}{t:List Expr}{x:Nat}{ps p pos:Pos}{l:Expr}{k:fZ}(r:iM X [l] k)(v:dA X "enumerate")(w:X.mg "enumerate"=none)(y:gx "enumerate"=some (.type "enumerate"))
  (f:bf [l] X.env=[(false,eval l X.env)]:=by rfl):lj X (.Tuple t x ps) (.Call (.Name "enumerate" p) [l] [] pos) (OB X.K k):=by
 intro Q s Z H R I h;refine wy (um I v w y ?_ (by decide) (by decide));refine z0 (aX (r pos Q s Z H _ I h) λ G c ⟨vs,z,g,A,a,e,⟨ys,B⟩,q⟩=>?_) f rfl;subst e;obtain⟨u,rfl,C⟩:=A.one;cases C;obtain⟨D,J,m,hz⟩:=g.tuple B;have n:a<c.heap.objs.size:=let⟨o,ho,_⟩:=m;cb ho
 refine WU m λ h' f i E=>Ka f ?_
 have F:c.heap.objs.size+1≠c.heap.objs.size:=by lia
 refine⟨_,_,_,_,z,rfl,g.kept (t':=c.toks) E,WV a _ _ F (cC (tQ n)) (cC n),⟨⟨_,f⟩,i⟩,λ b j=>?_,q⟩;have d:c.heap.objs.size<=b:=by
  rcases b8.mp j with rfl|j
  .exact nG _
  .have:b=c.heap.objs.size:=by simpa using j
   exact Dh this.symm
 exact g.fpOk d (g.hok.fresh d)
noncomputable def n6(l:List D):List D:=l.zipIdx.map λ p=>.tup [.int (p.2:Int),p.1]
noncomputable def BP:List D->ag (List D)
 |[.tup l]=>.ok (n6 l)
 |_=>.st
def WX{K:aB}{lab:kD}{H:au}{a:Addr}{xs:List V}{ds:List D}(h:bQ K H a xs)(r:aM K (λ p=>(lab p).1<=1) H xs ds):xE K lab (Gd K a) H (n6 ds):=by
 have g:=r.length;have l:(n6 ds).length=ds.length:=by simp[n6]
 refine λ i=>⟨λ b=>⟨xs,h,by lia⟩,λ b=>⟨⟨xs,xs[i]'(by lia),h,by simp_all⟩,λ x H' y=>?_⟩⟩
 obtain⟨p,y,rfl,ah,rfl,c⟩:=y;obtain⟨d,e,f⟩:=r.get (c xs h);refine⟨eM ah _,_,?_,.tup (.inl (.inl dQ)) (.cons (.int _) (.cons (f.up (eM ah _)) .nil))⟩;unfold n6;rw[da,Jd,e];simp
section
variable{C:bB}{m:Mode}{a:Expr}{g:af->ag (List D)}{c:List Expr}{x:Nat}{ps p pos:Pos}
def WY(k:fN C m [a] g)(n:C.mg "enumerate"=none)(u:xD m=true:=by rfl)(y:∀i,bf [a] (C.X i).env=[(false,eval a (C.X i).env)]:=by z_go)(A:∀i,dA (C.X i) "enumerate":=by z_go)(B:gx "enumerate"=some (.type "enumerate"):=by f_are):
  kF C (.Tuple c x ps) (.Call (.Name "enumerate" p) [a] [] pos) (di BP g):=by
 obtain⟨t,D,E⟩:=k;refine⟨OB C.K t,λ i=>by rw[<-C.hK i];exact WW (D i) (A i) (by rw[(C.cx i).2.2.2.1];exact n) B (y i),λ τ Z H ρ lab M R W=>E τ Z H ρ lab _ R (W.bd.imp λ ds _ w vs F s r=>?_)⟩;cases ds with
 |nil=>exact aV w
 |cons d ds=>
  cases ds with
  |cons _ _=>cases d<;>exact aV w
  |nil=>
   obtain⟨v,rfl,G⟩:=r.one_inv;cases d with
   |tup l=>
    obtain⟨f,I⟩:=R.shared u s G;obtain⟨b,xs,rfl,h,q⟩:=I.tup_inv;refine⟨b,rfl,⟨xs,h⟩,w _ F _ [(.ref b,.tup l)] s (λ p o e=>ib e) ⟨f.len,f.sl,f.old,f.new,λ z hz=>?_⟩ λ j H' J=>?_⟩
    .rcases b8.mp hz with rfl|hz
     .exact .tup h q
     .exact f.tm z hz
    .have z:=J _ (c0 ..)
     obtain⟨_,_,K,h',L⟩:=z.tup_inv;cases K;exact WX h' L
   |_=>exact aV w
end
abbrev abM:=List Int×Addr×V
def pairE(fk fv:af->ag D):af->ag D:=λ ρ=>(fk ρ).bd λ k=>(fv ρ).bd λ v=>.ok (.tup [k,v])
section
variable{fk fv:af->ag D}
def WZ(h:pairE fk fv ρ= .ok y):∃k v,fk ρ= .ok k/\fv ρ= .ok v/\y= .tup [k,v]:=by
 obtain⟨k,a,b⟩:=iX h;obtain⟨v,c,d⟩:=iX b;exact⟨k,v,a,c,by cases d;rfl⟩
end
noncomputable def ve(p:Int×Tok):Int×Value:=(hashInt p.1,.int p.1 p.2)
def qX(h:Heap)(a:Addr)(led:Bool)(ks:List Int):Prop:=∃es ep t,h.get? a=some (cH es ep t)/\fJ t es.size/\t.led=led/\∃k:List (Int×Tok),k.map (·.1)=ks/\es.toList.Perm (k.map ve)
section
variable{prog:bD}{w:World}{A:cg}{E:Value->ax->Prop}{s:ax}{a:Addr}{led:Bool}{ks:List Int}
def W0{es:Array (Int×Value)}{t:List (Int×Tok)}(ah:es.toList.Perm (t.map ve)):ElemsOf (hZ prog w) es.toList:=λ e h=>by
 obtain⟨p,_,rfl⟩:=dj.mp (ah.mem_iff.mp h);exact⟨⟨_,wG _ _ _ _,rfl⟩,rfl⟩
def W1(T:fJ t es.size)(a:es.size<63)(h:Int)(x:Value):∃j,layNew t es h x=(l0 es (t.put j).2 (h,x),(t.put j).1,false,false)/\nh (t.put j).1 (es.size+1)/\(t.put j).1.led=t.led:=by
 obtain⟨j,b,c,d⟩:=V2 (hashAt:=λ _=>h+1) T (h:=h) λ i g=>by omega
 obtain⟨P,k,l,m,p⟩:=V3 T (by lia) b c;have e:(l0 es (t.put j).2 (h,x)).size=es.size+1:=BF _ _ _;refine⟨j,?_,P,p⟩;have f:t.freeSlot h=some (j,false):=by unfold SetTable.freeSlot;simp_all
 unfold layNew SetTable.orStandIn;rw[f];cb_eq;rw[e,P.fits];rfl
def W2(P:nh t n)(h:es.size=n)(a:n=5\/n=19):∃e t',relayAll t es (En es.size)=(e,t',false)/\fJ t' e.size/\t'.led=t.led/\e.toList.Perm es.toList:=by
 obtain⟨t',o,b,c,d,r⟩:=V8 P.pla a (es.map _) (by simp_all);have q:(o.filterMap (es[·]?)).toList.Perm es.toList:=by
  rw[Array.toList_filterMap];refine(r.filterMap _).trans ?_;rw[<-h,filterMap_getElem?_range]
 have s:(o.filterMap (es[·]?)).size=n:=by rw[<-gZ,q.length_eq,gZ,h]
 refine⟨_,t',?_,by simp_all,d,q⟩;unfold relayAll;rw[h,b];have f:coversAll o n=true:=List.isPerm_iff.mpr r;cb_eq;rw[s,f,c.fits];rfl
def W3(S:qX s.heap a led ks)(J:ks.length<63)
  (q:∀h' b,qu a s.heap h'->qX h' a led (iH ks k)->Q b {s with heap:=h',toks:=s.toks+1}):wpAny (model prog w) A (setAdd a (.int k tk)) Q E s:=by
 obtain⟨es,ep,t,u,T,v,c,g,ah⟩:=S;have l:ElemsOf (hZ prog w) es.toList:=W0 ah;have hsz:es.size=ks.length:=by rw[<-gZ,ah.length_eq,bg,<-g,bg]
 have K:es.size<wH:=by rw[hsz];unfold wH;omega
 have n:∀e∈es.toList,(hZ prog w).is k e.2=true->k∈ks:=λ e x L=>by
  obtain⟨p,m,rfl⟩:=dj.mp (ah.mem_iff.mp x)
  have:k=p.1:=(hZ prog w).inj _ k p.1 L (wG _ _ _ _)
  rw[this,<-g];exact Ji m
 unfold setAdd;refine jt (av ((hZ prog w).pyHash (k:=k) (wG _ _ _ _) ?_));unfold setAddHashed setAddHashedIn;refine jt (av (tW (s:={s with toks:=s.toks+1}) u rfl T.fits ?_));cb_eq;rw[byScan_of (knd:=hZ prog w) rfl K l];simp only[↓reduceIte];unfold setAddByScan;refine av (av (qk (av (wpAny_setScan_of (knd:=hZ prog w) (s:={s with toks:=s.toks+1}) (wG _ _ _ _) u rfl T.fits l ?_))));cases hr:List.findIdx? (λ e=>(hZ prog w).is k e.2) es.toList with
 |some j=>
  obtain⟨M,B,_⟩:=List.findIdx?_eq_some_iff_getElem.mp hr;have i:=n _ (qb M) B;cb_eq;refine aL (aL (q s.heap _ (Heap.SameBut.refl a s.heap) ?_))
  have:iH ks k=ks:=by unfold iH;rw[if_pos (nE.mpr ⟨k,i,by simp⟩)]
  rw[this];exact⟨es,ep,t,u,T,v,c,g,ah⟩
 |none=>
  have C:k∉ks:=λ i=>by
   rw[<-g]at i;obtain⟨p,m,e⟩:=dj.mp i;have x:ve p∈es.toList:=ah.mem_iff.mpr (Ji m)
   have:=List.findIdx?_eq_none_iff.mp hr _ x
   rw[<-e]at this;have z:(hZ prog w).is p.1 (.int p.1 p.2)=false:=this;rw[wG]at z;cases z
  have d:iH ks k=ks++[k]:=by
   unfold iH;rw[if_neg];intro h;obtain⟨y,N,e⟩:=nE.mp h;exact C (by rw[<-tG e];exact N)
  obtain⟨j,O,P,pl⟩:=W1 T (by omega) ((hZ prog w).hash k) (.int k tk);have f:(l0 es (t.put j).2 ((hZ prog w).hash k,jx k tk)).size=es.size+1:=BF _ _ _;have V:(l0 es (t.put j).2 ((hZ prog w).hash k,jx k tk)).toList.Perm ((c++[(k,tk)]).map ve):=by
   have:=KO es (t.put j).2 ((hZ prog w).hash k,jx k tk)
   rw[IP]at this;rw[gi];exact this.trans (ah.append_right _)
  have o:(c++[(k,tk)]).map (·.1)=iH ks k:=by rw[d,gi,g];rfl
  cb_eq;rw[O];cb_eq;refine av (aL ?_);rw[P.pla];simp only[↓reduceIte];refine av (aL ?_);simp only[↓reduceIte];generalize l0 es (t.put j).2 ((hZ prog w).hash k,jx k tk)=D at f V ⊢;generalize (t.put j).1=F at P pl ⊢;refine av (NT (s:={s with toks:=s.toks+1}) u (by omega) λ G=>?_);simp only[zl,v9];cases H:F.tooFull with
  |true=>
   obtain⟨r,R,U,W,X,I⟩:=W2 P f (P.full (by omega) H);simp only[↓reduceIte];rw[U];cb_eq;refine av (aL ?_);have Y:r.size<=63:=by rw[<-gZ,I.length_eq,gZ];omega
   refine av (NT G (by lia) λ Z=>aL (aL (q _ _ ((nM s.heap a _).trans (nM _ a _)) ⟨r,_,R,Z,W,X.trans (pl.trans v),_,o,I.trans V⟩)))
  |false=>
   simp only[jr,if_false];exact aL (aL (q _ _ (nM ..) ⟨D,_,F,G,by rw[f];exact P.still H,pl.trans v,_,o,V⟩))
def W4{St:Nat->ax->Prop}(W:WalksS prog w A.in1 I fp wr G n (λ i v=>vs.toArray[i]? =some v) St)(f:S∉fp)(H:dO vs ns)(V:n=vs.length)(L:n<64)(led:Bool):
  ∀(k i:Nat) (s:ax),n-i=k->i<=n->St i s->qX s.heap S led (dJ (ns.take i))->(∀s',Moved (S::wr) G s s'->qX s'.heap S led (dJ ns)->R (.ok (.ret .none)) s')->
   fV (model prog w) A (.builtin "set.update.loop" ⟨[.ref S,.ref I],[]⟩) R s:=by
 have d:S∉wr:=λ h=>f (W.sub _ h)
 have g:∀b∈wr,b∈S::wr:=λ b a=>dN _ a
 have X:vs.length=ns.length:=Ds H;have keep:∀{h h':Heap} {ks:List Int},qX h S led ks->(∀o,h.get? S=some o->h'.get? S=some o)->qX h' S led ks:=λ⟨es,ep,t,e,r⟩ k=>⟨es,ep,t,k _ e,r⟩
 intro k;induction k with
 |zero=>
  intro i s M y c x B;have j:i=n:=by omega
  subst j;refine mE JT ?_;rw[oV Dr _];show wpAny _ A.in1 (jv (.ref I)>>=_) _ _ s;refine av (W.done s _ _ c λ s' m=>aL (B s' (m.mono g) ?_));rw[Ja (by omega)]at x;exact keep x λ o e=>m.heap S _ d e
 |succ k N=>
  intro i s M y c x B;have l:i<n:=by omega
  refine mE JT ?_;rw[oV Dr _];show wpAny _ A.in1 (jv (.ref I)>>=_) _ _ s;refine av (W.item i s _ _ l c λ v s' P p m=>?_);have O:vs[i]? =some v:=by simpa using P
  obtain⟨t,rfl⟩:=JU H i v O;have C:qX s'.heap S led (dJ (ns.take i)):=keep x λ o e=>m.heap S _ d e
  have D:(dJ (ns.take i)).length<63:=by
   have Q:=FZ (ns.take i);rw[rA]at Q;omega
  have E:iH (dJ (ns.take i)) (ns.getD i 0)=dJ (ns.take (i+1)):=by
   have T:ns[i]? =some (ns.getD i 0):=by
    rw[hE,bP (by omega)];rfl
   rw[Jq,T,<-Ww];rfl
  show wpAny _ A.in1 (ju [jx (ns.getD i 0) t] (setAdd S (.int (ns.getD i 0) t))>>=_) _ _ s';refine av (jt (W3 C D λ h' b U J=>?_));have K:∀b o,b≠S->s'.heap.get? b=some o->h'.get? b=some o:=λ b o a e=>by rw[U.2 b a];exact e
  rw[E]at J;refine aL ⟨DU Dr _,N (i+1) _ (by omega) l (W.frame _ s' _ _ p (nG _) λ b a o e=>K b o (λ z=>f (z▸a)) e) J λ F q u=>?_⟩;exact B F (Moved.trans W.gtrans ((m.mono g).then_heap (nG _) λ b o a e=>K b o (λ z=>a (z▸c0)) e) q) u
def OC{Q:Value->ax->Prop}(I:dO vs ns)(a:vs.length<64)
  (h:∀(u:List Value) h' e,Vals ((sortI ns).map V.int) u->(∀b o,s.heap.get? b=some o->h'.get? b=some o)->h'.get? s.heap.objs.size=some (eB "list" u.toArray e)->Q (.ref s.heap.objs.size) {s with heap:=h'}):
  wpAny (model prog w) A (qo vs>>=λ l=>ju [l] (call (.builtin "list.sort") [l])>>=λ _=>ret l) (λ f s'=>∃r,f= .done (.ret r)/\Q r s') E s:=by
 refine av (DX ?_ (by rw[ko];omega));have L:(s.heap.push (eB "list" vs.toArray 0)).get? s.heap.objs.size=some (eB "list" vs.toArray 0):=dy _ rfl;refine av (jt (jU slot_list_sort ⟨_,L,rfl⟩ entry_list_sort (list_sort_tree (s:={s with heap:=s.heap.push (eB "list" vs.toArray 0)}) L I a λ u c d g i=>⟨_,rfl,aL ⟨_,rfl,?_⟩⟩) (args_list_sort _)));have e:c=sortI ns:=Er (g.trans (sortI_perm ns).symm) i (su ns);subst e;have n:∀b o,s.heap.get? b=some o->b≠s.heap.objs.size:=λ b o e=>cC (cb e)
 have j:=wt L λ _=>(#[]:Array Value)
 have k:=bM (eB "list" #[] 0) (bM (eB "tuple" vs.toArray 0) j);have m:=wt k (λ _=>u);refine h u.toList _ _ (FV d) (λ b o e=>?_) (by rw[IM];exact m);unfold wu;rw[uh _ _ _ _ (n b o e)];refine bM _ (bM _ ?_);rw[uh _ _ _ _ (n b o e)];exact bM _ e
end
section
variable{X:aZ}
def aKIφ(w:World)(a:Addr)(ks:List Int):Heap->Prop:=λ h=>qX h a (!w.params.followText "set-order") ks
def OD(K:aB)(w:World):List V->au->bC->Prop:=λ xs H Q=>∃p ns,xs=[.ref p]/\cu K H p (ns.map V.int)/\ns.length<64/\∀a H',aU H H'->H' a=some (.ext (aKIφ w a (dJ ns)))->H a=none->Q (.ref a) H'
def W5(J:X.calm=true):fM X (.type "set") (OD X.K X.w):=by
 intro kQ s Z H xs us Q I r h;obtain⟨p,ns,rfl,ah,hz,q⟩:=h;obtain⟨u,rfl,K⟩:=vals1 r;cases K;have L:X.A.in1.in1.in1.handled=none:=I.ok.hd J;obtain⟨i,M,pl,_⟩:=I.list ah;have z:dO i ns:=intsAre_of M;have N:i.length=ns.length:=Ds z;obtain⟨g,l,c,A,d⟩:=pl.isList;have S:p<s.heap.objs.size:=cb l;refine PySem.uY (T:="list") (Φ:=aKIφ X.w s.heap.objs.size (dJ ns)) ⟨g,l,c⟩ F.sub_list_set Kz (by decide)
  (λ O B E Q₁ k q=>Ae (s:={s with heap:=O}) (items:=i.toArray) ⟨g,k _ _ l,c,A,d⟩ q) (λ R C=>?_) λ h' P D U=>?_
 .generalize a:(!X.w.params.followText "set-order")=led at C ⊢
  have V:(s.heap.push (cH #[] 0 (.fresh 0 0 led))).get? s.heap.objs.size=some (cH #[] 0 (.fresh 0 0 led)):=dy _ rfl;have j:(s.heap.push (cH #[] 0 (.fresh 0 0 led))).IsList p i.toArray:=⟨g,bM _ l,c,A,d⟩;have n:p≠(s.heap.push (cH #[] 0 (.fresh 0 0 led))).objs.size:=by rw[k9];exact cC (tQ S)
  have v:s.heap.objs.size∉[(s.heap.push (cH #[] 0 (.fresh 0 0 led))).objs.size,p]:=by
   rw[k9];simp only[b8,lR,or_false,not_or];exact⟨cC (nF _),kV S⟩
  refine W4 ((Ey L _ p n i.toArray).toS) v z (by simp) (by simpa[N]using hz) led (i.toArray.size-0) 0 _ (by simp) (dI _) ⟨⟨_,dy _ rfl,rfl,rfl⟩,(j.push _)⟩
   ⟨#[],0,_,bM _ V,fJ.fresh led,rfl,[],rfl,lS _⟩ λ s' m w=>?_
  obtain⟨h',W,Y,x,y⟩:=s';have eg:W=s.gens:=m.gens;have ed:Y=s.drawn:=m.drawn;have eo:y=s.os:=m.os;subst eg;subst ed;subst eo;refine C h' x (by unfold aKIφ;rw[a];exact w) λ b o e=>m.heap b o ?_ (bM _ (bM _ e))
  have G:=cb e;rw[k9];simp only[b8,lR,or_false,not_or];exact⟨cC G,cC (tQ G)⟩
 .have f:H s.heap.objs.size=none:=I.hok.fresh (bJ _)
  obtain⟨es,ep,t,ge,r⟩:=id D;exact⟨.ref s.heap.objs.size,bt H s.heap.objs.size (.ext (aKIφ X.w s.heap.objs.size (dJ ns))),I.laid (t':=P) U (bJ _) ⟨D,⟨_,ge⟩,λ h1 h2 ⟨es,ep,t,e1,e2⟩ k=>⟨es,ep,t,k _ e1,e2⟩⟩,rfl,q _ _ (eM f _) dQ f⟩
def OE(w:World):List V->au->bC->Prop:=λ xs H Q=>∃a ks,xs=[.ref a]/\H a=some (.ext (aKIφ w a ks))/\ks.length<64/\mQ H (.lst ((sortI ks).map V.int)) Q
theorem ints_of:∀(t:List (Int×Tok)),dO (t.map λ p=>jx p.1 p.2) (t.map (·.1))
 |[]=>.nil
 |p::r=>.cons _ _ (ints_of r)
def W6(C:X.calm=true):fM X (.builtin "sorted") (OE X.w):=by
 intro W s Z H xs Y Q I r h;obtain⟨a,ks,rfl,D,d,q⟩:=h;obtain⟨u,rfl,E⟩:=vals1 r;cases E;obtain⟨⟨es,ep,t,F,G,J,k,x,y⟩,_,_⟩:=I.hok a _ D;have hsz:es.size=ks.length:=by rw[<-gZ,y.length_eq,bg,<-x,bg]
 have K:X.A.in1.handled=none:=I.ok.hd C;refine FN (N1 (Wk (ep:=ep) G J) K F (by rw[hsz,ko];omega) λ c A v k0 k1 k2 k3=>?_);have L:(j7 X.w a ep es).toList.Perm (k.map ve):=(BH X.w a ep es).trans y;obtain⟨z,M,N⟩:=FM (f:=ve) L rfl;have g:v=z.map λ p=>jx p.1 p.2:=by
  have O:(j7 X.w a ep es).toList.map (·.2)=z.map λ p=>jx p.1 p.2:=by rw[N,cV];rfl
  have P:(j7 X.w a ep es).toList.length=es.size:=by rw[(BH X.w a ep es).length_eq,gZ]
  rw[<-O];refine Dc (by rw[k2,bg,P]) λ i R S=>?_
  have:=k3 i _ (bP R)
  rw[<-rq,<-da,bP S]at this;exact(i7 this).symm
 subst g;have j:(z.map (·.1)).Perm ks:=by rw[<-x];exact M.map _
 have m:sortI (z.map (·.1))=sortI ks:=Er (((sortI_perm _).trans j).trans (sortI_perm ks).symm) (su _) (su _);refine OC (s:={s with heap:=c,toks:=A}) (ints_of z) (by rw[k2];omega) λ n h' e B T U=>?_
 rw[m]at B;have l:s.heap.objs.size<=c.objs.size:=jS k0;have w:H c.objs.size=none:=I.hok.fresh l;exact⟨.ref c.objs.size,bt H c.objs.size (.lst ((sortI ks).map V.int)),I.laid (t':=A) (λ b o e=>T b o (k1 b o e)) l ⟨by rw[bg,(sortI_perm ks).length_eq];exact fD (jS d) (by decide),n,e,B,U⟩,rfl,q.at w⟩
end
noncomputable def xU:List D->ag D
 |[.lst l]=>match intsOf l with
  |some ns=>if ns.length<64 then .ok (.lst ((sortI (dJ ns)).map .int))else .st
  |none=>.st
 |_=>.st
section
variable{C:bB}{pos o p d:Pos}{m:Mode}{a:Expr}{g:af->ag (List D)}
def W7(A:C.mg "sorted"=none)(j:C.mg "set"=none)(B:fN C m [a] g)(D:∀i,bf [a] (C.X i).env=[(false,eval a (C.X i).env)]:=by z_go)(h:∀i,bf [Expr.Call (.Name "set" d) [a] [] o] (C.X i).env=[(false,eval (.Call (.Name "set" d) [a] [] o) (C.X i).env)]:=by z_go)(E:∀i,dA (C.X i) "sorted":=by z_go)(F:gx "sorted"=some (.builtin "sorted"):=by f_are)(k:∀i,dA (C.X i) "set":=by z_go)(l:gx "set"=some (.type "set"):=by f_are):
  aF C (some []) (.Call (.Name "sorted" p) [.Call (.Name "set" d) [a] [] o] [] pos) (aN xU g):=by
 obtain⟨t,G,I⟩:=B;have s:∀i,(C.X i).w=C.w:=λ i=>(C.cx i).2.1
 refine⟨mO (OE C.w) (gm (mO (OD C.K C.w) t) jX),λ i=>uu (by rw[<-s i];exact W6 (C.calm i)) (E i) (by rw[(C.cx i).2.2.2.1];exact A) F
  (g9 (uv (by rw[<-C.hK i,<-s i];exact W5 (C.calm i)) (k i) (by rw[(C.cx i).2.2.2.1];exact j) l (G i) (by decide) (by decide) (D i) rfl) kB (h i)) (by decide) (by decide) (h i) rfl,λ τ Z H ρ lab Q R W=>?_⟩
 refine I τ Z H ρ lab _ R (W.bd.imp λ ds _ w xs S u J=>?_);obtain⟨z,f,w⟩:=w.okD;unfold xU at f;split at f
 .obtain⟨v,rfl,K⟩:=J.one_inv
  obtain⟨b,ys,rfl,L,T,x⟩:=K.lst_inv;split at f
  .rename_i ns e
   split at f
   .rename_i y
    cases f;rw[mn e]at x;have M:=x.ints_of;subst M;refine⟨b,ns,rfl,cu.of L,y,λ c U s2 n N=>⟨c,dJ ns,rfl,n,zU (FZ ns) y,λ q O s3 P r=>w _ O ((u.trans s2).trans s3) (.lst P (.inl ((u.trans s2).free r)) aM.ints)⟩⟩
   .cases f
  .cases f
 .cases f
end
def aA.fn_inv{K:aB}(r:aA K A H v (.fn x)):∃a,v= .ref a/\fL K dv x=some (some (.ref a)):=by cases r with|fn h=>exact⟨_,rfl,h⟩
structure FnAt(C:bB)(n:Nat)(x:Str)(F:List D->ag D):Prop where
 ex:∃(fn:Addr) (fd:bO) (ps:List Str) (k:Nat),gb C.prog C.w C.K C.mg C.base (eZ C.prog C.w) k fn fd ps (mj C.K C.G.cl n F)/\k<=C.k/\fL C.K dv x=some (some (.ref fn))/\qv C.K (.ref fn)=true/\Binds C.K fd ps []
abbrev vf:=List (Str×(List D->ag D))
def BQ(C:bB)(n:Nat)(t:vf):Prop:=∀q∈t,FnAt C n q.1 q.2
def W8:BQ C n []:=λ q h=>by cases h
def W9(b:gb C.prog C.w C.K C.mg C.base (eZ C.prog C.w) k fn fd ps (mj C.K C.G.cl n F))(hr:k<=C.k)(c:fL C.K dv x=some (some (.ref fn)))
  (d:qv C.K (.ref fn)=true)(e:Binds C.K fd ps [])(h:BQ C n tab):BQ C n ((x,F)::tab):=λ q a=>by
 rcases b8.mp a with rfl|a
 .exact⟨fn,fd,ps,k,b,hr,c,d,e⟩
 .exact h q a
noncomputable def fnOf(t:vf):ag D->Option (List D->ag D)
 | .ok (.fn x)=>t.lookup x
 |_=>none
def sy(t:vf)(i:Nat)(g:af->ag (List D)):af->ag D:=λ ρ=>match fnOf t (aa i ρ)with
 |some F=>aW F g ρ
 |none=>.st
def Xa(h:fnOf tab r=some F):∃x,r= .ok (.fn x)/\tab.lookup x=some F:=by
 unfold fnOf at h;split at h
 .exact⟨_,rfl,h⟩
 .cases h
def Xb(K:aB)(c:Str->Addr)(n:Nat)(E:gj)(a:vf)(i:Nat)(t:fZ):bw:=λ Z H Q=>∃f x F,Z[i]? =some (some (.ref f))/\(x,F)∈a/\fL K dv x=some (some (.ref f))/\ur (mj K c n F) [] E t Z H Q
def lookup_mem{t:vf}(h:t.lookup x=some F):(x,F)∈t:=by
 induction t with
 |nil=>cases h
 |cons q t i=>
  obtain⟨y,G⟩:=q;rw[fm]at h;by_cases e:x==y
  .simp only[e]at h
   cases h;rw[tG e];exact c0
  .simp only[e]at h
   exact dN _ (i h)
section
variable{C:bB}{m:Mode}{e:Expr}{es:List Expr}{g:af->ag (List D)}{pos p:Pos}{n i:Nat}{y:Str}{d:vf}
def Xc(V:BQ C n d)(X:fN C m (e::es) g)(Y:∀ρ ds,g ρ= .ok ds->ds.length=n)(hN:∀j,(C.X j).N[i]? =some y:=by z_go)(hv:∀j,hI (C.X j).env.scope y:=by x_go)
  (E:Nd y:=by decide)(G:(y==("__classdict__":Str))=false:=by decide)(he:∀i,bf (e::es) (C.X i).env=(false,eval e (C.X i).env)::bf es (C.X i).env:=by z_go)
  (hpl:∀i,(fW pos (bf es (C.X i).env)).any (·.1)=false:=by z_go):aF C (some []) (.Call (.Name y p) (e::es) [] pos) (sy d i g):=by
 obtain⟨t,h1,h2⟩:=X;refine⟨Xb C.K C.G.cl n C.G.E d i t,λ j=>?_,λ τ Z H ρ lab Q R W=>?_⟩
 .obtain⟨e1,e2,J,e4,e5⟩:=C.cx j
  intro kQ s Z H Q I ⟨f,x,F,hs,K,B,h⟩;obtain⟨fn,fd,ps,k,hF,hr,D,hk,hb⟩:=(V _ K).ex;rw[B]at D;cases D;have L:wpAny (model (C.X j).prog (C.X j).w) (C.X j).A (eval (.Name y p) (C.X j).env) (λ v s'=>v= .ref f/\s'=s) (C.X j).xe s:=by
   obtain⟨mm,M,N⟩:=I.loc;obtain⟨u,ru,l⟩:=N i y _ (hN j) hs (hv j);cases ru;rcases l with ⟨o,hm⟩|⟨o,c,T,w⟩
   .exact uc (DB I.ok.kind o M hm ⟨rfl,rfl⟩) E
   .rcases o with o|o
    .exact uc (DC I.ok.kind o T w ⟨rfl,rfl⟩) E
    .exact uc (J5 I.ok.kind o T w ⟨rfl,rfl⟩ G) E
  refine wy (aX L λ v s' ⟨ev,O⟩=>?_);subst ev O;refine K1 (h₀:=(C.X j).base) I.ok.mod.kin (by rw[J];exact hk) (aX (h1 j pos kQ s' Z H _ I h) λ us s1 ⟨vs,H1,U,r,q⟩=>⟨U.kIn,?_⟩) (he j) (hpl j);exact LK (CX:=eZ (C.X j).prog (C.X j).w) (by rw[e1,e2,J,e4,e5];exact hF) ((C.room j).mono hr) (by rw[J];exact hb) .nil (C.pass j) U r q
 .unfold sy at W
  cases B:fnOf d (aa i ρ)with
  |none=>rw[B]at W;exact aV W
  |some F=>
   rw[B]at W;obtain⟨x,A,N⟩:=Xa B;obtain⟨v,P,rv⟩:∃v,Z[i]? =some (some v)/\aA C.K (λ _=>True) H v (.fn x):=by
    unfold aa at A;split at A
    .rename_i d' S
     cases A;rcases R.sl i _ S with z|⟨v,a,b⟩
     .cases z
     .exact⟨v,a,aA.wk (λ _ _ _ _=>trivial) b⟩
    .rename_i d' S
     cases A;rcases R.sl i _ S with z|⟨v,a,b⟩
     .cases z
     .exact⟨v,a,aA.wk (λ _ _ _ _=>trivial) b⟩
    .cases A
   obtain⟨a,rfl,K⟩:=rv.fn_inv;exact⟨a,x,F,P,lookup_mem N,K,MS (F:=F) Y h2 τ Z H ρ lab Q R W⟩
end
def xV:Slot->Bool
 | .no=>true
 | .sh _=>true
 |_=>false
def lF(ρ:af)(fg:D->af->ag af)(ft:af->ag Bool)(i:af->ag (List D)):List D->ag (List D)
 |[]=>.ok []
 |d::ds=>(fg d ρ).bd λ a=>(ft a).bd λ k=>if k=true then(i a).bd λ ys=>(lF ρ fg ft i ds).bd λ z=>.ok (ys++z)else lF ρ fg ft i ds
def j9(f:af->ag (List D))(g:D->af->ag af)(t:af->ag Bool)(fe:af->ag D):af->ag (List D):=λ a=>if a.all xV=true then(f a).bd λ ds=>eS a g t fe ds else .st
def xW(fi:af->ag (List D))(js:iL)(fg:D->af->ag af)(ft:af->ag Bool)(i:af->ag (List D)):af->ag D:=λ ρ=>(fi (shE ρ)).bd λ ds=>match lF (fj js (shE ρ)) fg ft i ds with
 | .ok l=>if l.length<aQ then .ok (.lst l)else .st
 |_=>.st
def Xd(h:lF ρ fg ft inn (d::ds)= .ok l):
  ∃a k,fg d ρ= .ok a/\ft a= .ok k/\((k=true/\∃ys z,inn a= .ok ys/\lF ρ fg ft inn ds= .ok z/\l=ys++z)\/(k=false/\lF ρ fg ft inn ds= .ok l)):=by
 unfold lF at h;obtain⟨a,e,h⟩:=iX h;obtain⟨k,b,h⟩:=iX h;refine⟨a,k,e,b,?_⟩;cases k with
 |true=>
  rw[if_pos rfl]at h;obtain⟨ys,c,h⟩:=iX h;obtain⟨z,f,h⟩:=iX h;simp_all
 |false=>
  exact .inr ⟨rfl,h⟩
def Xe(h:j9 fi2 fg2 ft2 fe ρ1= .ok ys):ρ1.all xV=true/\∃ds,fi2 ρ1= .ok ds/\eS ρ1 fg2 ft2 fe ds= .ok ys:=by
 unfold j9 at h;split at h
 .rename_i s
  obtain⟨ds,e,a⟩:=iX h;exact⟨s,ds,e,a⟩
 lia
def RR.butS{K:aB}(R:RR K G τ ρ Z H lab)(f:ρ.all xV=true)(S:¬(lab l).1<=1)(B:gz l H H')(a:H l=some o)(c:jz o=true)(m:G.H0 l=none):RR K G τ ρ Z H' lab:=by
 refine⟨R.len,λ j s e=>?_,λ b o h=>?_,R.new,λ q g=>(R.tm q g).but B a c S⟩
 .rcases R.sl j s e with z|⟨u,i,k⟩
  .exact .inl z
  .have h:=gF.mp f s (jK e)
   cases s with
   |no=>exact .inl rfl
   |sh d=>exact .inr ⟨u,i,aA.but B a c S k⟩
   |_=>cases h
 .exact B b o (λ z=>by simp_all) (R.old b o h)
section
variable{K:aB}{G:eK}{r m:iS}{fi h:af->ag (List D)}{js:iL}{ks ks2:List Nat}{g A:iP}{fg a:D->af->ag af}{s t:gk}{ft f:af->ag Bool}{u:bw}{fe:af->ag D}
def Xf(hi:uX K G r fi)(hg:uS K {G with E:=λ _ _ _=>False} g fg)(hgo:ma g ks)(hgm:uC g)(hk:∀k∈ks2,k∉ks/\(js[k]?).join=none)(ht:o8 K {G with E:=λ _ _ _=>False} s ft)(hi2:uX K {G with E:=λ _ _ _=>False} m h)
  (hg2:uS K {G with E:=λ _ _ _=>False} A a)(ht2:o8 K {G with E:=λ _ _ _=>False} t f)(he:eO K {G with E:=λ _ _ _=>False} (some []) u fe):
  eO K G (some []) (E6 (λ _=>.lst []) r (gI js) g s (Mw ks2 m A t (Mu u))) (xW fi js fg ft (j9 h a f fe)):=by
 intro τ Z H ρ lab Q R W;refine hi τ Z H _ _ _ R.shE (W.bd.imp λ ds _ w J H1 lab1 L s1 _ R1 jl=>?_);intro l hl;obtain⟨O,pV,kX,w⟩:∃O,lF (fj js (VL.shE ρ)) fg ft (j9 h a f fe) ds= .ok O/\O.length<aQ/\Ba K (some []) lab H Q (.lst O):=by
  cases pV:lF (fj js (VL.shE ρ)) fg ft (j9 h a f fe) ds with
  |ok O=>
   rw[pV]at w;dsimp only at w;split at w
   .rename_i hz;exact⟨O,rfl,hz,w⟩
   .exact aV w
  |ex c=>rw[pV]at w;exact aV w
  |st=>rw[pV]at w;exact aV w
 have R0:RR K {G with E:=λ _ _ _=>False} (L++τ) (VL.shE ρ) Z H1 (λ _=>(0,0)):=R1.blk0 rfl;have RB:=R0.block (js:=js) (λ _=>dI _) hl;have hHl:H l=none:=s1.free hl;have h0l:G.H0 l=none:=R1.old.free hl;have bE:¬((λ p=>if p=l then((2,0):Nat×Nat)else(0,0)) l).1<=1:=by simp
 have hsk:∀k∈ks2,(gI js Z)[k]? =some none\/(gI js Z)[k]? =none:=λ k hk2=>by
  have:=(hk k hk2).2
  unfold gI;rw[da];cases e:js[k]? with
  |none=>exact .inr rfl
  |some o=>
   rw[e]at this;cases o with
   |none=>exact .inl rfl
   |some j=>cases this
 refine⟨λ i n H2=>∃(Y:List D) (acc:List V),n=ds.length-i/\i<=ds.length/\H2 l=some (.lst acc)/\RR K {G with E:=λ _ _ _=>False} (L++τ) (fj js (VL.shE ρ)) (gI js Z) H2 (λ p=>if p=l then(2,0)else(0,0))/\aU H H2/\aM K (λ p=>H p=none/\p≠l) H2 acc Y/\
  ∃X,lF (fj js (VL.shE ρ)) fg ft (j9 h a f fe) (ds.drop i)= .ok X/\O=Y++X,⟨ds.length,[],[],by lia,by lia,dQ,RB.up (eM hl _),s1.trans (eM hl _),.nil,O,pV,rfl⟩,?_⟩
 rintro i n H2 ⟨Y,acc,rfl,hi',hH2,bA,s2,T,X,P,U⟩;have jj:=jl _ H2 λ q hq=>bA.tm q (eW _ hq)
 by_cases hlt:i<ds.length
 .obtain⟨go,yl⟩:=(jj i).2 hlt
  refine .inr ⟨go,λ x H3 hy=>?_⟩;obtain⟨s3,d,ed,rx⟩:=yl x H3 hy;replace bA:=bA.up s3;replace hH2:=s3 _ _ hH2;replace s2:=s2.trans s3;replace T:=T.up s3;have ed2:ds.drop i=d::ds.drop (i+1):=by
   rw[tH hlt]
   have:=bP hlt
   rw[ed]at this;cases this;rfl
  rw[ed2]at P;obtain⟨ρ1,k,e1,e2,e3⟩:=Xd P;have hgx:=hgo _ _ _ _ (hg (L++τ) x d _ H3 _ _ (λ Z4 H4=>H4=H3/\RR K {G with E:=λ _ _ _=>False} (L++τ) ρ1 Z4 H3 (λ p=>if p=l then(2,0)else(0,0))) ρ1 bA rx e1 λ Z4 R4=>⟨rfl,R4⟩);refine hgm _ _ _ _ _ (λ Z4 H4 ⟨⟨eH,R4⟩,hlen4,hag4⟩=>?_) hgx;subst eH;refine ht (L++τ) Z4 H4 ρ1 _ _ R4 ?_;rw[e2];intro H5 s5;rcases e3 with ⟨rfl,ys,zs,e3,e4,rfl⟩|⟨rfl,e4⟩
  .rw[if_pos rfl]
   obtain⟨uy,M,f1,f2⟩:=Xe e3;refine⟨λ k hk2 v e=>?_,?_⟩
   .rw[hag4 k (hk k hk2).1]at e
    rcases hsk k hk2 with z|z<;>rw[z]at e<;>cases e
   refine hi2 (L++τ) Z4 H5 ρ1 _ _ (R4.up s5) ?_;rw[f1];intro J2 H6 lab6 τ6 s6 hlab6 R6 jl6;have hl6:H6 l=some (.lst acc):=s6 _ _ (s5 _ _ hH2);have lab6l:¬(lab6 l).1<=1:=by rw[hlab6 l _ (s5 _ _ hH2)];exact bE
   refine⟨λ j n2 H7=>∃(N:List D) (C:List V),n2=M.length-j/\j<=M.length/\H7 l=some (.lst C)/\RR K {G with E:=λ _ _ _=>False} (τ6++(L++τ)) ρ1 Z4 H7 lab6/\RR K {G with E:=λ _ _ _=>False} (L++τ) (fj js (VL.shE ρ)) (gI js Z) H7 (λ p=>if p=l then(2,0)else(0,0))/\aU H H7/\
    aM K (λ p=>H p=none/\p≠l) H7 C (Y++N)/\∃S,eS ρ1 a f fe (M.drop j)= .ok S/\ys=N++S,
    ⟨M.length,[],acc,by lia,by lia,hl6,R6,bA.up (s5.trans s6),(s2.trans s5).trans s6,by rw[g6];exact T.up (s5.trans s6),ys,f2,rfl⟩,?_⟩
   rintro j n2 H7 ⟨N,C,rfl,hj,hl7,R7,Rb7,s7,F,S,I,eys⟩;have jj7:=jl6 _ H7 λ q hq=>R7.tm q (eW _ hq)
   by_cases b5:j<M.length
   .obtain⟨go2,yl2⟩:=(jj7 j).2 b5
    refine .inr ⟨go2,λ x2 H8 hy2=>?_⟩;obtain⟨s8,d2,ed8,rx2⟩:=yl2 x2 H8 hy2;replace R7:=R7.up s8;replace Rb7:=Rb7.up s8;replace hl7:=s8 _ _ hl7;replace s7:=s7.trans s8;replace F:=F.up s8;have ed9:M.drop j=d2::M.drop (j+1):=by
     rw[tH b5]
     have:=bP b5
     rw[ed8]at this;cases this;rfl
    rw[ed9]at I;obtain⟨ρ2,k2,q1,q2,q3⟩:=Fq I;refine hg2 (τ6++(L++τ)) x2 d2 _ H8 _ _ _ ρ2 R7 rx2 q1 λ Z9 R9=>?_
    refine ht2 (τ6++(L++τ)) Z9 H8 ρ2 _ _ R9 ?_;rw[q2];intro H9 s9;rcases q3 with ⟨rfl,y,ys2,q3,q4,rfl⟩|⟨rfl,q4⟩
    .rw[if_pos rfl]
     refine he (τ6++(L++τ)) Z9 H9 ρ2 _ _ (R9.up s9) ?_;rw[q3];intro v Ha sa ra;have hla:Ha l=some (.lst C):=sa _ _ (s9 _ _ hl7);have B:gz l Ha (bt Ha l (.lst (C++[v]))):=λ b o ne hb=>by rw[cp ne];exact hb
     have hsz:C.length<aQ:=by
      have h1:=F.length;have h2:O.length=Y.length+(N.length+(ys2.length+1))+zs.length:=by rw[U,eys];simp;lia
      rw[eJ]at h1;lia
     refine⟨C,hla,hsz,M.length-(j+1),by lia,N++[y],C++[v],rfl,b5,dQ,(R7.up (s9.trans sa)).butS uy lab6l B hla rfl h0l,(Rb7.up (s9.trans sa)).but_blk B hla rfl h0l,λ b o hb=>B b o (λ z=>by subst z;rw[hHl]at hb;cases hb) (((s7.trans s9).trans sa) b o hb),?_,ys2,q4,by rw[eys];simp⟩;rw[<-iG];refine((F.up (s9.trans sa)).append (.cons (ra.wk λ p o _ z=>?_) .nil)).but B hla rfl λ z=>z.2 rfl
     rcases z with z|z
     .exact⟨(s7.trans s9).free z,λ e=>by subst e;rw[s9 _ _ hl7]at z;cases z⟩
     .cases z
    .rw[if_neg gh]
     exact⟨M.length-(j+1),by lia,N,C,rfl,b5,s9 _ _ hl7,R7.up s9,Rb7.up s9,s7.trans s9,F.up s9,S,q4,eys⟩
   .have ej:j=M.length:=by lia
    subst ej;rw[tL]at I;cases I;rw[g6]at eys;subst eys;exact .inl ⟨(jj7 _).1 (bJ _),ds.length-(i+1),by lia,_,C,rfl,hlt,hl7,Rb7,s7,F,zs,e4,by rw[U];simp⟩
  .rw[if_neg gh]
   exact⟨ds.length-(i+1),by lia,Y,acc,rfl,hlt,s5 _ _ hH2,bA.up s5,s2.trans s5,T.up s5,X,e4,U⟩
 .have ei:i=ds.length:=by lia
  subst ei;rw[tL]at P;cases P;rw[g6]at U;subst U;exact .inl ⟨(jj _).1 (bJ _),w _ H2 s2 (.lst hH2 (.inl hHl) (T.wk λ p o _ z=>⟨.inl z.1,z.2⟩))⟩
end
section
variable{C:bB}{pos:Pos}{l m e d t:Expr}{j f:List Expr}{s:Scope}{N:List Str}{js:iL}{ks ks2:List Nat}{fi o:af->ag (List D)}{fg p:D->af->ag af}{ft n:af->ag Bool}{fe:af->ag D}
def Xg(I:kF C m e fi)(J:lB (C.blk s N) m ks fg)(K:se (C.blk s N) j ft)(u:kF (C.blk s N) d t o)(w:lB (C.blk s N) d ks2 p)(y:se (C.blk s N) f n)(L:aF (C.blk s N) (some []) l fe)(A:∀k∈ks2,k∉ks/\(js[k]?).join=none:=by decide)(M:∀i x,kn e (C.X i).env x=pure x:=by intro _ _;rfl)(B:∀(i:(C.blk s N).ι) x,kn t ((C.blk s N).X i).env x=pure x:=by intro _ _;rfl)(O:∀i,l9 (C.X i) s N (gI js) (ks++ks2):=by intro _;exact xG rfl rfl rfl rfl rfl rfl):
  aF C (some []) (.ListComp l [⟨m,e,j,0⟩,⟨d,t,f,0⟩] s pos) (xW fi js fg ft (j9 o p n fe)):=by
 obtain⟨wi,P,dg⟩:=I;obtain⟨g,R,T,F,G⟩:=J;obtain⟨tt,U,V⟩:=K;obtain⟨W,X,Y⟩:=u;obtain⟨gg,h1,h2,h3,h4⟩:=w;obtain⟨tt2,u1,u2⟩:=y;obtain⟨te,e1,e2⟩:=L;have E:ma g (ks++ks2):=λ v Z H Q q=>G _ _ _ _ _ (λ Z' H' ⟨a,b,c⟩=>⟨a,b,λ k A=>c k λ z=>A (eW _ z)⟩) (F v Z H Q q)
 refine⟨_,λ i=>Ms (pos:=pos) (O i) (C.calm i) (P i) (λ c r S D=>R (i,c,r,S,D)) E (λ c r S D=>U (i,c,r,S,D)) (Uv l m e d t j f s pos) (Mv rfl (λ _ _ _ _=>rfl) λ _ _ _ _ _=>rfl) Uu ?_ rfl rfl (M i),Xf dg T F G A V Y h2 u2 e2⟩;intro c r S D;exact Ux (C.calm i) (λ _ _ h=>h) (Uw l m e d t j f s pos) (Mv rfl (λ _ _ _ _=>rfl) λ _ _ _ _ _=>rfl) (X (i,c,r,S,D)) (h1 (i,c,r,S,D)) h3 (u1 (i,c,r,S,D)) (Ut (e1 (i,c,r,S,D))) (B (i,c,r,S,D))
end
end VL
namespace HT
open PySem PySem.Spec PyProof.Rows
end HT
namespace VL
open PySem PySem.Spec PyProof.Rows L2
end VL
namespace PySem.AutoSeq1
set_option maxRecDepth 8000 in
def aGd(l:Addr)(items:Array Value)(n:Nat)(b:Addr)(i:Array Value)(f:Nat)(dd:Option Addr)(sl:Array (Option Value))(j:¬(!items.isEmpty&&Aq (items.size+i.size))=true)(a:items.size<=aQ)(c:items.size+i.size<=aQ+1):
  Meets (hY.«list.extend» ⟨[.ref l,.ref b],[]⟩) (λ _ R s=>s.heap.get? l=some {cls:=.type "list",dict:=none,data:=.seq items n,slots:=#[]}/\s.heap.get? b=some {cls:=.type "tuple",dict:=dd,data:=.seq i f,slots:=sl}/\
   R (.ok (.ret fE)) {s with heap:=s.heap.update l (lZ λ x=>x++i),toks:=s.toks}):=
 .of_wp λ prog w A R s h=>by
  obtain⟨ah,g,d,t,os⟩:=s;obtain⟨e,k,h⟩:=h;have m:=idx_int;have o:=sub_tuple_tuple;have p:=sub_list_list;have q:=sub_tuple_list;have r:=sub_list_tuple;have z:(items++i).size<=aQ+1:=by rw[Array.size_append];exact c
  wp_walk using(wpAny_updateSeq e rfl (hz:=a) (_hz':=z)),oP e,oP k;exact⟨_,rfl,h⟩
end PySem.AutoSeq1
namespace VL
open PySem PySem.Spec PyProof.Rows L2
def OF(K:aB):V->List V->au->bC->Prop:=λ x vs H Q=>∃l b xs z,x= .ref l/\vs=[.ref b]/\H l=some (.lst xs)/\bQ K H b z/\xs.length+z.length<=aQ/\∀H',gz l H H'->H' l=some (.lst (xs++z))->Q .non H'
def Xh:xo X "list.extend" (OF X.K):=by
 intro D s Z H x vs v E Q I j k h;obtain⟨l,b,xs,G,rfl,rfl,a,B,hz,q⟩:=h;cases j;obtain⟨u,rfl,m⟩:=k.one;cases m;obtain⟨z,t,n,r,J,e⟩:=I.lstM a;obtain⟨i,f,⟨⟨p,dd,w,sl⟩,y,c,g,d⟩,K⟩:=I.tuple B;replace c:p= .type "tuple":=c;replace d:w= .seq i.toArray g:=d;subst c d;have L:=r.length;have M:=f.length;have hsz:t.toArray.size+i.toArray.size<=aQ:=by rw[et,et];lia
 have S:¬(!t.toArray.isEmpty&&Aq (t.toArray.size+i.toArray.size))=true:=by
  rw[L5 hsz,zk];exact gh
 refine rJ Kw ⟨_,e,rfl⟩ F.entry_list_extend (F.args_list_extend_2 _ _) (AutoSeq1.aGd l t.toArray n b i.toArray g dd sl S (by lia) (by lia)) ⟨e,y,?_⟩;refine⟨.non,_,I.lset (its':=t++i) a e (by simp) (r.append f) ?_,rfl,q _ (λ b o A C=>by rw[cp A];exact C) dQ⟩;rw[eJ];lia
section
variable{C:bB}{pos a c p:Pos}{e:Expr}{fe:af->ag D}{i:Nat}{x:Str}{m:Mode}
noncomputable def Ge(ds:List D)(k:List D->aC):D->aC
 | .tup es=>if ds.length+es.length<=aQ then k (ds++es)else .st
 |_=>.st
def n7(i:Nat)(fe:af->ag D):af->aC:=λ ρ=>match ρ[i]? with
 |some (.ow (.lst ds))=>(fe ρ).bo (Ge ds λ l=>.nx (ρ.set i (.ow (.lst l))))
 |_=>.st
def Xi(i:Nat)(S:aF C m e fe)(T:r9 m=true:=by rfl)(U:∀j,(C.X j).N[i]? =some x:=by z_go)(V:∀j,hI (C.X j).env.scope x:=by x_go)(X:Nd x:=by decide)
  (E:(x==("__classdict__":Str))=false:=by decide)(g:∀j,bf [e] (C.X j).env=[(false,eval e (C.X j).env)]:=by z_go)
  (f:∀j,lT (.Name x p) "extend" (C.X j).env (eval (.Name x p) (C.X j).env)=eval (.Name x p) (C.X j).env:=by z_go)
  (n:∀j,((fW c (bf [e] (C.X j).env)).all (λ x=>!x.1)&&(ql c (qh [] (C.X j).env)).all (λ x=>x.1.isSome)&&decide ([e].length+([]:List iK).length+(if ([]:List iK).isEmpty then 0 else 1)<30))=true:=by z_go)
  (l:(a.endLine==c.line)=true:=by rfl)
  (F:∀j,i8 (.Call (.Attribute (.Name x p) "extend" a) [e] [] c) none pos.line (C.X j).env=pure false:=by z_go):
  hB C (.Expr (.Call (.Attribute (.Name x p) "extend" a) [e] [] c) pos) (n7 i fe):=by
 obtain⟨t,Y,h2⟩:=S;refine⟨rN (ux C.K "list" (OF C.K) (g8 i) (gm t jX)),λ j=>rO (by rw[<-C.hK j];exact xl wM Kw PySem.F.type_list_extend Xh (iO (U j) (V j) X E) (g9 (Y j) kB (g j)) (f j) (n j) l (g j) rfl) (F j),λ τ Z H ρ lab De R W=>?_⟩;unfold n7 at W;cases es:ρ[i]? with
 |none=>rw[es]at W;exact aV W
 |some s=>
  rw[es]at W;split at W
  .rename_i ds hs
   cases hs;rcases R.sl i _ es with z|⟨v,N,G⟩
   .cases z
   .obtain⟨I,u⟩:=G
    obtain⟨A,J,K⟩:=u rfl;subst J;obtain⟨a1,xs,L,h,mm,r⟩:=I.lst_inv;cases L;refine⟨.ref A,N,.inl ⟨rfl,xs,cu.of h⟩,h2 τ Z H ρ lab _ R (W.bo.imp λ d _ w y H2 s2 r2=>?_)⟩;cases d with
    |tup D=>
     dsimp only[Ge]at w;by_cases hz:ds.length+D.length<=aQ
     .rw[if_pos hz]at w
      obtain⟨R',r'⟩:=R.fresh (P:=λ k=>k=1) rfl (λ k hk=>beq_iff_eq.mp (pa T k hk)) s2 r2;have M:(fF H 1 lab A).1=i+2:=by rw[ib h];exact K
      obtain⟨b,O,rfl,hb,Q⟩:=r'.tup_inv;refine⟨A,b,xs,O,rfl,rfl,s2 _ _ h,hb,by rw[r.length,Q.length];exact hz,λ H3 B h3=>?_⟩;refine w Z H3 _ (R'.mut N (s2 _ _ h) rfl M B ⟨.lst h3 (.inr M) ?_,λ _=>⟨A,rfl,M⟩⟩);have ra:aM C.K (λ p=>((fF H 1 lab p).1=1\/(fF H 1 lab p).1=i+2)/\p≠A) H2 (xs++O) (ds++D):=by
       refine(r.mono s2 λ p o e z=>⟨by rw[ib e];exact z.1,z.2⟩).append (Q.wk λ p o e z=>⟨.inl z,λ q=>?_⟩);subst q;have z1:(fF H 1 lab p).1=1:=z;lia
      exact ra.but B (s2 _ _ h) rfl λ z=>z.2 rfl
     .rw[if_neg hz]at w
      exact aV w
    |_=>exact aV w
  .exact aV W
end
def cT(K:aB)(x:Str)(st:Stmt)(f:Addr)(d:bO):Prop:=L2.Fun K x x st f d/\fL K dv x=some (some (.ref f))
def enr{K:aB}{st:Stmt}{o eu b p d t:Value}(a:fL K dv x=some (some (.ref f)))
  (l:K.lookup f=some ⟨o,od,.func (nP x x (uz st) (lr st) (bU st) .none eu b p an d t),sl⟩)(c:w1 K d x=true)(k:qv K (.ref f)=true):∃f e,cT K x st f e:=⟨f,_,Tj (st:=st) l c k,a⟩
structure cy(K:aB)(mg:Str->Option Value)(x:Str)(st:Stmt)(ps:List Str)(f:Addr)(d:bO):Prop where
 F:L2.Fun K x x st f d
 m:mg x=some (.ref f)
 b:L2.Binds K d ps []
section
variable{C:bB}
def bI{st:Stmt}(a:gb C.prog C.w C.K C.mg C.base (eZ C.prog C.w) k fn fd ps (mj C.K C.G.cl n F))(D:cy C.K C.mg x st ps fn fd)(b:fN C m (e::es) ga)(hr:k<=C.k:=by exact zR rfl)(g:∀i,dA (C.X i) x:=by z_go)
  (c:∀ρ ds,ga ρ= .ok ds->ds.length=n:=by repeat (first|exact λ _ _ h=>MT h|apply Fl))(d:Nd x:=by decide)(f:∀i,bf (e::es) (C.X i).env=(false,eval e (C.X i).env)::bf es (C.X i).env:=by z_go)
  (hpl:∀i,(fW pos (bf es (C.X i).env)).any (·.1)=false:=by z_go):aF C (some []) (.Call (.Name x p) (e::es) [] pos) (aW F ga):=UV a hr D.m D.F.kp D.b b c d f hpl g
end
def pC{P:bD}{w:World}{K:aB}{st:Stmt}(D:cy K mg q st ps fn fd)(S:cq N ps (bU st))(h:N.Nodup->∀c A o s H E hr,mf (Bm P w K mg base N q (bU st) fn c A o s H E k hr) (lr st) f)(a:ps.length=n:=by rfl)(F:cD N.length f=FF:=by rfl):
  gb P w K mg base (eZ P w) (k+1) fn fd ps (mj K (eN mg) n FF):=UX D.F S (h S.nd) a F
def Gf(items:Array Value)(nss:Nat->List Int)(h:Heap):Prop:=∀i v,items[i]? =some v->∃x t,v= .ref x/\IsTup h x t/\dO t.toList (nss i)
def Gg(items:Array Value):List Addr:=items.toList.filterMap λ v=>match v with| .ref x=>some x|_=>none
def Xj{items:Array Value}{i:Nat}(h:items[i]? =some (fX x)):x∈Gg items:=by
 unfold Gg;rw[tK];exact⟨_,by have:=jK (l:=items.toList) (by simpa using h);assumption,rfl⟩
def Gf.keep(T:Gf items nss h)(k:∀b∈Gg items,∀o,h.get? b=some o->h'.get? b=some o):Gf items nss h':=λ i v e=>by
 obtain⟨x,t,rfl,⟨o,a,c⟩,d⟩:=T i v e;exact⟨x,_,rfl,⟨o,k x (Xj e) o a,c⟩,d⟩
def putN(ds:List D):D->Option Nat
 | .int n=>hh ds.length n
 |_=>none
noncomputable def iD(ks vs:List D):Option (List (Int×D)):=match intsOf ks with
 |some i=>if i.length=vs.length then some (i.zip vs)else none
 |none=>none
noncomputable def bL(ps:List (Int×D)):D:=.dct (ps.map λ p=>.int p.1) (ps.map (·.2))
def Gh(h:iD ks vs=some ps):ks=ps.map (λ p=>.int p.1)/\vs=ps.map (·.2):=by
 unfold iD at h;split at h
 .rename_i s a
  split at h
  .cases h
   refine⟨?_,?_⟩
   .rw[mn a,show(λ p=>D.int _)=(λ i=>D.int i)∘rE from rfl,<-cV,Jw (by lia)]
   .rw[Jx (by lia)]
  simp_all
 lia
theorem OG:∀ps:List (Int×D),(ps.map (·.1)).zip (ps.map (·.2))=ps
 |[]=>rfl
 |p::ps=>by rw[bu,bu,qa,OG ps]
def vg(ps:List (Int×D)):iD (ps.map λ p=>.int p.1) (ps.map (·.2))=some ps:=by
 unfold iD;have e:intsOf (ps.map λ p=>D.int p.1)=some (ps.map (·.1)):=by
  rw[show(ps.map λ p=>D.int p.1)=(ps.map (·.1)).map _ by rw[cV];rfl];exact m8 _
 rw[e];cb_eq;rw[if_pos (by grind),OG]
def aA.dctI_inv{K:aB}(r:aA K A H v (.dct ks vs))(h:iD ks vs=some ps):
  ∃a k,v= .ref a/\H a=some (.dK k)/\A a/\aM K (λ p=>A p/\p≠a) H (k.map (·.2)) (ps.map (·.2))/\k.map (·.1)=ps.map λ p=>(gy p.1:bz):=by
 obtain⟨b,f⟩:=Gh h;generalize c:D.dct ks vs=d at r;induction r using aA.cs with
 |dK e m r=>
  rename_i k ds;injection c with q1 q2
  subst q2;refine⟨_,k,rfl,e,m,by rw[<-f];exact r,?_⟩;rw[b]at q1;clear r h b f e;induction k generalizing ps with
  |nil=>simp_all
  |cons p k g=>cases ps with
   |nil=>cases q1
   |cons q ps=>
    obtain⟨j,l⟩:=p;rw[bu,bu]at q1;injection q1 with q3 q4
    rw[bu,bu,g q4];cases j with
    |inl i=>injection q3 with q3;rw[q3]
    |inr x=>cases q3
 |dT e m r=>
  injection c with q1 q2
  rw[b]at q1;cases ps<;>cases q1
 |_=>cases c
theorem Gi{K:aB}:∀{k:List (bz×V)} {ps:List (Int×D)},aM K A H (k.map (·.2)) (ps.map (·.2))->(k.map (·.1)=ps.map λ p=>(gy p.1:bz))->∀i:Int,
  (∃d v,ps.lookup i=some d/\jy k (.inl i)=some v/\aA K A H v d)\/(ps.lookup i=none/\jy k (.inl i)=none)
 |[],[],_,_,_=>.inr ⟨rfl,rfl⟩
 |[],_::_,_,e,_=>by cases e
 |_::_,[],_,e,_=>by cases e
 |p::k,q::ps,r,e,i=>by
  obtain⟨g,f⟩:=p;obtain⟨a,j⟩:=q;rw[bu,bu]at e;injection e with b e2
  replace b:g= .inl a:=b;subst b;rw[bu,bu]at r;cases r with
  |cons h r=>
   by_cases c:a=i
   .subst c
    exact .inl ⟨j,f,by simp[fm],xv rfl,h⟩
   .have l:(i==a)=false:=by simpa using λ z=>c z.symm
    rw[xw (p:=(gy a,f)) (by simpa using c),fm,l];exact Gi r e2 i
noncomputable def gv:D->D->ag D
 | .dct ks vs,.int i=>match iD ks vs with
  |some ps=>(match ps.lookup i with
   |some d=>.ok d
   |none=>.st)
  |none=>.st
 |_,_=>.st
noncomputable def fK(n:Bool):D->D->ag D
 | .int i,.dct ks vs=>match iD ks vs with
  |some ps=>.ok (.bl (n !=(ps.lookup i).isSome))
  |none=>.st
 |_,_=>.st
def OH:bA:=λ x y H Q=>∃a v,x= .ref a/\lu H a y (some v)/\Q v H
def xX(n:Bool):bA:=λ y x H Q=>∃a o,x= .ref a/\lu H a y o/\Q (.bl (n !=o.isSome)) H
def Xk{X:aZ}(h:X.A.units+1<cLine):bT X (dP .In) (xX false):=by
 intro k s Z H y x u v Q I r b ⟨a,o,e,g,q⟩;subst e;cases b;exact T4 h I g r λ s3 c=>⟨.bl _,H,c,rfl,by simp_all⟩
def Xl{X:aZ}(h:X.A.units+1<cLine):bT X (dP .NotIn) (xX true):=by
 intro k s Z H y x u v Q I r b ⟨a,o,e,g,q⟩;subst e;cases b;exact T5 h I g r λ s3 c=>⟨.bl _,H,c,rfl,by simp_all⟩
def OI{K:aB}:gf K (xX n) (fK n):=by
 intro A x y d e H Q z g h b q;unfold fK at b;split at b
 .rename_i i ks vs
  cases ah:iD ks vs with
  |none=>simp_all
  |some ps=>
   rw[ah]at b;cases b;have j:=g.int_inv;subst j;obtain⟨a,s,rfl,l,m,r,o⟩:=h.dctI_inv ah;refine⟨a,_,rfl,lu.k (k:=.inl i) l,?_⟩;rcases Gi r o i with ⟨d,v,c,f,_⟩|⟨c,f⟩
   .rw[f];rw[c]at q;exact q _ H (aU.refl H) (.bl _)
   .rw[f];rw[c]at q;exact q _ H (aU.refl H) (.bl _)
 simp_all
section
variable{C:bB}{g h:Mode}{a b:Expr}{c f:af->ag D}{pos:Pos}
def bB.din(C:bB)(i:C.ι):bT (C.X i) (dP .In) (xX false):=Xk (by have:=(C.room i).un;lia)
def bB.dnin(C:bB)(i:C.ι):bT (C.X i) (dP .NotIn) (xX true):=Xl (by have:=(C.room i).un;lia)
def OJ(d:aF C g a c)(e:aF C h b f)(m:lU .In b=false:=by by_in):gp C (.Compare a [.In] [b] pos) (bh (aj (fK false) c f)):=nX C.din OI d e m
def xY(d:aF C g a c)(e:aF C h b f)(m:lU .NotIn b=false:=by by_in):gp C (.Compare a [.NotIn] [b] pos) (bh (aj (fK true) c f)):=nX C.dnin OI d e m
def vh(D:aF C g a c)(E:aF C h b f)(ah:xk b:=by exact λ _ _=>rfl):aF C g (.Subscript a b pos) (aj gv c f):=by
 obtain⟨t,F,G⟩:=D;obtain⟨u,k1,k2⟩:=E;refine⟨mM OH t u,λ i=>Mn (by have:=(C.room i).un;lia) (F i) (k1 i) ah,λ τ Z H ρ lab Q R W=>?_⟩;refine G τ Z H ρ lab _ R (W.bd.imp λ d _ w x I s J=>?_);refine k2 τ Z I ρ lab _ (R.up s) (w.bd.imp λ e _ w y A s2 K=>?_);obtain⟨z,j,L⟩:=w.okD;cases d with
 |dct ks vs=>
  cases e with
  |int i=>
   cases l:iD ks vs with
   |none=>unfold gv at j;dsimp only at j;rw[l]at j;cases j
   |some ps=>
    unfold gv at j;dsimp only at j;rw[l]at j;dsimp only at j;have M:=K.int_inv;subst M;obtain⟨a,N,rfl,O,m,r,P⟩:=(J.up s2).dctI_inv l;rcases Gi r P i with ⟨d,v,n,B,S⟩|⟨n,B⟩
    .rw[n]at j
     cases j;have T:lu A a (.int i) (some v):=by
      have:=lu.k (k:=.inl i) O
      rw[B]at this;exact this
     exact⟨a,v,rfl,T,L v A (s.trans s2) (S.wk λ p o _ q=>q.1)⟩
    .rw[n]at j;cases j
  |_=>cases j
 |_=>cases j
end
noncomputable def ka(ps:List (Int×D))(i:Int)(d:D):List (Int×D):=if (ps.any λ p=>decide (p.1=i))=true then ps.map (λ p=>if p.1=i then(p.1,d)else p)else ps++[(i,d)]
theorem OK:∀{k:List (bz×V)} {ps:List (Int×D)} {i:Int},(k.map (·.1)=ps.map λ p=>(gy p.1:bz))->(k.any λ v=>decide (v.1=(.inl i:bz)))=ps.any λ p=>decide (p.1=i)
 |[],[],_,_=>rfl
 |[],_::_,_,e=>by simp_all
 |_::_,[],_,e=>by simp_all
 |(a,b)::k,q::ps,i,e=>by
  injection e with e1 e2
  subst e1;rw[wh,OK e2];simp
theorem OL{K:aB}{i:Int}{v:V}{d:D}(h:aA K A H v d):∀{k:List (bz×V)} {ps:List (Int×D)},aM K A H (k.map (·.2)) (ps.map (·.2))->(k.map (·.1)=ps.map λ p=>(gy p.1:bz))->
  aM K A H ((k.map λ a=>if a.1= .inl i then(a.1,v)else a).map (·.2)) ((ps.map λ p=>if p.1=i then(p.1,d)else p).map (·.2))/\((k.map λ a=>if a.1= .inl i then(a.1,v)else a).map (·.1)=(ps.map λ p=>if p.1=i then(p.1,d)else p).map λ p=>(gy p.1:bz))
 |[],[],_,_=>⟨.nil,rfl⟩
 |[],_::_,_,e=>by cases e
 |_::_,[],_,e=>by cases e
 |(f,g)::k,(q,j)::ps,r,e=>by
  rw[bu,bu]at e;injection e with b e2
  replace b:f= .inl q:=b;subst b;rw[bu,bu]at r;cases r with
  |cons l m=>
   obtain⟨z,n⟩:=OL h m e2;rw[bu,bu,bu,bu,bu,bu,n];by_cases c:q=i
   .subst c
    rw[if_pos rfl,if_pos rfl];exact⟨.cons h z,rfl⟩
   .rw[if_neg (show¬((gy q:bz),g).1=gy i by simpa using c),if_neg (show¬(q,j).1=i from c)]
    exact⟨.cons l z,rfl⟩
def BR{K:aB}{k:List (bz×V)}{ps:List (Int×D)}{i:Int}{v:V}{d:D}(r:aM K A H (k.map (·.2)) (ps.map (·.2)))(e:k.map (·.1)=ps.map λ p=>(gy p.1:bz))(h:aA K A H v d):
  aM K A H ((putK k (.inl i) v).map (·.2)) ((ka ps i d).map (·.2))/\(putK k (.inl i) v).map (·.1)=(ka ps i d).map λ p=>(gy p.1:bz):=by
 unfold putK ka;rw[OK e];split
 .exact OL h r e
 .rw[gi,gi,gi,gi,e]
  exact⟨r.append (.cons h .nil),rfl⟩
def vi{K:aB}{k:List (bz×V)}{ps:List (Int×D)}(h:H a=some (.dK k))(m:A a)(r:aM K (λ p=>A p/\p≠a) H (k.map (·.2)) (ps.map (·.2)))(e:k.map (·.1)=ps.map λ p=>(gy p.1:bz)):aA K A H (.ref a) (bL ps):=by
 have b:(k.map λ p=>A6 p.1)=ps.map λ p=>.int p.1:=by
  rw[show(k.map λ p=>A6 p.1)=(k.map _).map A6 by rw[cV];rfl,e,cV];rfl
 have:=aA.dK h m r
 rw[b]at this;assumption
noncomputable def kL:D->D->Option (List (Int×D)×Int)
 | .dct ks vs,.int i=>(iD ks vs).map λ ps=>(ps,i)
 |_,_=>none
noncomputable def n9(i:Nat)(fk fe:af->ag D):af->aC:=λ ρ=>match ρ[i]? with
 |some (.ow c)=>(fe ρ).bo λ d=>(fk ρ).bo λ k=>match kL c k with
  |some (ps,j)=>if ps.length<aQ then .nx (ρ.set i (.ow (bL (ka ps j d))))else .st
  |none=>.st
 |_=>.st
def OM(h:kL c k=some (ps,j)):∃ks vs,c= .dct ks vs/\k= .int j/\iD ks vs=some ps:=by
 unfold kL at h;split at h
 .rename_i ks vs i
  cases ah:iD ks vs<;>grind
 simp_all
section
variable{C:bB}{pos t p:Pos}{a e:Expr}{fk fe:af->ag D}{x:Str}{m b:Mode}
def Xm(i:Nat)(l:aF C b a fk)(Q:aF C m e fe)(S:r9 m=true:=by rfl)(T:∀j,(C.X j).N[i]? =some x:=by z_go)(U:∀j,hI (C.X j).env.scope x:=by x_go)(V:Nd x:=by decide)
  (D:(x==("__classdict__":Str))=false:=by decide)(E:∀j,i8 e (some (.Subscript (.Name x p) a t)) pos.line (C.X j).env=pure false:=by z_go):
  hB C (.Assign [.Subscript (.Name x p) a t] e pos) (n9 i fk fe):=by
 obtain⟨X,k1,k2⟩:=l;obtain⟨Y,e1,e2⟩:=Q;refine⟨E5 (g8 i) X Y,λ j=>Mo (by have:=(C.room j).un;lia) (iO (T j) (U j) V D) (k1 j) (e1 j) (E j),λ τ Z H ρ lab De R W=>?_⟩;unfold n9 at W;cases es:ρ[i]? with
 |none=>rw[es]at W;exact aV W
 |some s=>
  rw[es]at W;split at W
  .rename_i c E
   cases E;rcases R.sl i _ es with z|⟨v,N,F⟩
   .cases z
   .obtain⟨G,n⟩:=F
    refine e2 τ Z H ρ lab _ R (W.bo.imp λ d _ O y H2 s2 r2=>⟨v,N,?_⟩);refine k2 τ Z H2 ρ lab _ (R.up s2) (O.bo.imp λ k _ w kv I s3 r3=>?_);clear O;cases J:kL c k with
    |none=>rw[J]at w;exact aV w
    |some q=>
     obtain⟨ps,j⟩:=q;rw[J]at w;dsimp only at w;obtain⟨ks,vs,rfl,rfl,ah⟩:=OM J;obtain⟨f,K,L⟩:=n rfl;subst K;have ey:=r3.int_inv;subst ey;obtain⟨a1,g,ea,h,mm,r,l⟩:=G.dctI_inv ah;cases ea;by_cases hz:ps.length<aQ
     .rw[if_pos hz]at w
      have kX:g.length=ps.length:=by have:=congrArg qc l;simpa using this
      have M:I f=some (.dK g):=(s2.trans s3) _ _ h;refine⟨f,_,rfl,uI.k (k:=.inl j) (v:=y) M (by rw[kX];exact hz),?_⟩;obtain⟨R',r'⟩:=R.fresh (P:=λ k=>k=1) rfl (λ k l=>beq_iff_eq.mp (pa S k l)) s2 r2;have u:(fF H 1 lab f).1=i+2:=by rw[ib h];exact L
      have B:gz f I (bt I f (.dK (putK g (.inl j) y))):=λ b' o ne hb=>by rw[cp ne];exact hb
      obtain⟨q1,q2⟩:=BR (i:=j) (A:=λ p=>((fF H 1 lab p).1=1\/(fF H 1 lab p).1=i+2)/\p≠f) (r.mono (s2.trans s3) λ p o e z=>⟨by rw[ib e];exact z.1,z.2⟩) l ((r'.up s3).wk λ p o e z=>⟨.inl z,λ q=>by subst q;rw[u]at z;lia⟩);refine w Z _ _ ((R'.up s3).mut N M rfl u B ⟨vi dQ (.inr u) (q1.but B M rfl λ z=>z.2 rfl) q2,λ _=>⟨f,rfl,u⟩⟩)
     .rw[if_neg hz]at w
      exact aV w
  .exact aV W
end
noncomputable def Gj:D->Option (Int×D)
 | .tup [.int i,v]=>some (i,v)
 |_=>none
noncomputable def i3:List D->Option (List (Int×D))
 |[]=>some []
 |d::ds=>match Gj d,i3 ds with
  |some p,some ps=>some (p::ps)
  |_,_=>none
def Xn(h:Gj d=some p):d= .tup [.int p.1,p.2]:=by
 unfold Gj at h;split at h
 .cases h;rfl
 .cases h
def Gk(h:i3 (d::ds)=some ps):∃p qs,d= .tup [.int p.1,p.2]/\i3 ds=some qs/\ps=p::qs:=by
 unfold i3 at h;split at h
 .rename_i p qs a b
  cases h;exact⟨p,qs,Xn a,b,rfl⟩
 .cases h
noncomputable def jk(acc qs:List (Int×D)):List (Int×D):=qs.foldl (λ ps q=>ka ps q.1 q.2) acc
def lG(fi:af->ag (List D))(js:iL)(fg:D->af->ag af)(ft:af->ag Bool)(fk fv:af->ag D):af->ag D:=λ ρ=>(fi (shE ρ)).bd λ ds=>
 if ds.length<aQ then(match eS (fj js (shE ρ)) fg ft (pairE fk fv) ds with
  | .ok l=>(match i3 l with
   |some qs=>.ok (bL (jk [] qs))
   |none=>.st)
  |_=>.st)else .st
def ON(t b:bw):Addr->L2.St->au->(au->Prop)->Prop:=λ D Z H Q=>t Z H λ y c=>b Z c λ v a=>∃i k,y= .int i/\a D=some (.dK k)/\k.length<aQ/\Q (bt a D (.dK (putK k (.inl i) v)))
def Xo{X:aZ}{x b:Expr}{t c:bw}(j:bq X x t)(m:bq X b c):uJ X (E7 x b) (ON t c):=by
 intro D e s Z H Q I h;unfold E7;refine av (aX (j e s Z H _ I h) λ u n ⟨y,o,p,w,A⟩=>av (jt (aX (m e n Z o _ p A) λ J s2 ⟨v,K,f,B,i,a,C,g,L,q⟩=>?_)));subst C;refine av (ub (jt ?_));obtain⟨z,E,vs,r,dd⟩:=uG f.hok g;have hz:vs.length<=aQ:=by rw[<-r.length];exact z
 have l:(putK a (.inl i) v).length<=aQ:=by have:=xy a (.inl i) v;lia
 refine J3 (knd:=gR X.prog X.w) (k:=.inl i) (hsz:=hz) (rT (k:=.inl i) w) dd λ h' d F=>⟨_,?_,q⟩
 have G:∃q,h'.get? D=some q:=let⟨q,_,_,hq,_⟩:=d;⟨q,hq⟩
 exact E3 f (t':=s2.toks+1) (by rw[g];exact l4) F G (E4 l E (r.put (.inl i) B) d)
def Xp:A4 prog w newDict (λ ob=>ob={cls:=.type "dict",data:=.dict #[]}) (λ _=>.dK []) where
 make:=λ h=>hG (h _ rfl)
 live:=by rintro ob rfl;rfl
 ok:=by
  rintro H h a ob rfl g b;exact⟨dI _,beq_eq_false_iff_ne.mpr (ir (cC b)),[],.nil,_,#[],0,g,⟨rfl,rfl,rfl⟩,rfl,λ _ e=>(by simp at e),Pairs.nil,rC⟩
def OO(acc qs:List (Int×D))(q:Int×D):jk acc (qs++[q])=ka (jk acc qs) q.1 q.2:=by unfold jk;rw[List.foldl_append];rfl
theorem OP:∀{l m:List D} {ps:List (Int×D)},i3 (l++m)=some ps->∃a b,i3 l=some a/\i3 m=some b/\ps=a++b
 |[],m,ps,h=>⟨[],ps,rfl,h,rfl⟩
 |d::l,m,ps,h=>by
  obtain⟨p,qs,rfl,c,rfl⟩:=Gk h;obtain⟨a,b,e,f,rfl⟩:=OP c;exact⟨p::a,b,by unfold i3;rw[e];rfl,f,rfl⟩
theorem OQ(p:Int×D):∀{l:List D} {ps:List (Int×D)},i3 l=some ps->i3 (l++[.tup [.int p.1,p.2]])=some (ps++[p])
 |[],ps,h=>by cases h;rfl
 |d::l,ps,h=>by
  obtain⟨q,qs,rfl,a,rfl⟩:=Gk h;rw[we];unfold i3;rw[OQ p a];rfl
section
variable{K:aB}{G:eK}{a:iS}{fi:af->ag (List D)}{g:iP}{fg:D->af->ag af}{f:gk}{ft:af->ag Bool}{h t:bw}{fk fv:af->ag D}{js:iL}
def Xq(hi:uX K G a fi)(hg:uS K {G with E:=λ _ _ _=>False} g fg)(ht:o8 K {G with E:=λ _ _ _=>False} f ft)(hk:eO K {G with E:=λ _ _ _=>False} (some []) h fk)(hv:eO K {G with E:=λ _ _ _=>False} (some []) t fv):
  eO K G (some []) (E6 (λ _=>.dK []) a (gI js) g f (ON h t)) (lG fi js fg ft fk fv):=by
 intro τ Z H ρ lab Q R W;refine hi τ Z H _ _ _ R.shE (W.bd.imp λ ds _ w J H1 lab1 C s1 _ R1 jl=>?_);intro l X;obtain⟨kX,u,qs,Y,N,w⟩:ds.length<aQ/\∃u qs,eS (fj js (VL.shE ρ)) fg ft (pairE fk fv) ds= .ok u/\i3 u=some qs/\Ba K (some []) lab H Q (bL (jk [] qs)):=by
  by_cases kX:ds.length<aQ
  .rw[if_pos kX]at w
   cases Y:eS (fj js (VL.shE ρ)) fg ft (pairE fk fv) ds with
   |ok u=>
    rw[Y]at w;dsimp only at w;cases O:i3 u with
    |some ns=>rw[O]at w;exact⟨kX,u,ns,rfl,O,w⟩
    |none=>rw[O]at w;exact aV w
   |ex c=>rw[Y]at w;exact aV w
   |st=>rw[Y]at w;exact aV w
  .rw[if_neg kX]at w
   exact aV w
 have R0:RR K {G with E:=λ _ _ _=>False} (C++τ) (VL.shE ρ) Z H1 (λ _=>(0,0)):=R1.blk0 rfl;have RB:=R0.block (js:=js) (λ _=>dI _) X;have hHl:H l=none:=s1.free X;have h0l:G.H0 l=none:=R1.old.free X;refine⟨λ i n P=>∃(s:List (bz×V)) (F:List D) (T:List (Int×D)),n=ds.length-i/\i<=ds.length/\P l=some (.dK s)/\s.length<=i/\i3 F=some T/\aM K (λ p=>H p=none/\p≠l) P (s.map (·.2)) ((jk [] T).map (·.2))/\(s.map (·.1)=(jk [] T).map λ p=>(gy p.1:bz))/\
  RR K {G with E:=λ _ _ _=>False} (C++τ) (fj js (VL.shE ρ)) (gI js Z) P (λ p=>if p=l then(2,0)else(0,0))/\aU H P/\
  ∃r,eS (fj js (VL.shE ρ)) fg ft (pairE fk fv) (ds.drop i)= .ok r/\u=F++r,⟨ds.length,[],[],[],by lia,by lia,dQ,bJ _,rfl,.nil,rfl,RB.up (eM X _),s1.trans (eM X _),u,Y,rfl⟩,?_⟩
 rintro i n P ⟨s,F,T,rfl,hi,U,hei,L,rv,rk,bA,s2,r,j,m⟩;have jj:=jl _ P λ q hq=>bA.tm q (eW _ hq)
 by_cases I:i<ds.length
 .obtain⟨go,yl⟩:=(jj i).2 I
  refine .inr ⟨go,λ x H3 hy=>?_⟩;obtain⟨s3,d,ed,rx⟩:=yl x H3 hy;replace bA:=bA.up s3;replace U:=s3 _ _ U;replace s2:=s2.trans s3;replace rv:=rv.up s3;have ed2:ds.drop i=d::ds.drop (i+1):=by
   rw[tH I]
   have:=bP I
   rw[ed]at this;cases this;rfl
  rw[ed2]at j;obtain⟨M,k,e1,e2,e3⟩:=Fq j;refine hg (C++τ) x d _ H3 _ _ _ M bA rx e1 λ Z4 R4=>?_
  refine ht (C++τ) Z4 H3 M _ _ R4 ?_;rw[e2];intro H5 s5;rcases e3 with ⟨rfl,y,ys,e3,e4,rfl⟩|⟨rfl,e4⟩
  .rw[if_pos rfl]
   obtain⟨kd,vd,e5,e6,rfl⟩:=WZ e3;obtain⟨p,k3,q3,q4⟩:∃(p:Int×D) (k3:List (Int×D)),D.tup [kd,vd]= .tup [.int p.1,p.2]/\i3 ys=some k3:=by
    rw[m]at N;obtain⟨p1,p2,_,q2,_⟩:=OP N;obtain⟨p,k3,a1,a2,_⟩:=Gk q2;exact⟨p,k3,a1,a2⟩
   injection q3 with q3
   injection q3 with q5 q6
   injection q6 with q6
   subst q5 q6;refine hk (C++τ) Z4 H5 M _ _ (R4.up s5) ?_;rw[e5];intro v H6 s6 r6;refine hv (C++τ) Z4 H6 M _ _ ((R4.up s5).up s6) ?_;rw[e6];intro v2 H7 s7 r7;have ey:=r6.int_inv;subst ey;have S:H7 l=some (.dK s):=((s5.trans s6).trans s7) _ _ U;have B:gz l H7 (bt H7 l (.dK (putK s (.inl p.1) v2))):=λ b o ne hb=>by rw[cp ne];exact hb
   obtain⟨z1,z2⟩:=BR (i:=p.1) (A:=λ q=>H q=none/\q≠l) (rv.up ((s5.trans s6).trans s7)) rk (r7.wk λ q o _ z=>by
    rcases z with z|z
    .exact⟨((s2.trans s5).trans s6).free z,λ e=>by subst e;rw[(s5.trans s6) _ _ U]at z;cases z⟩
    .cases z)
   refine⟨p.1,s,rfl,S,by lia,ds.length-(i+1),by lia,putK s (.inl p.1) v2,F++[.tup [.int p.1,p.2]],T++[p],rfl,I,dQ,by have:=xy s (.inl p.1) v2;lia,OQ p L,?_,?_,(bA.up ((s5.trans s6).trans s7)).but_blk B S rfl h0l,?_,ys,e4,by rw[m];simp⟩
   .rw[OO]
    exact z1.but B S rfl λ z=>z.2 rfl
   .rw[OO]
    exact z2
   .exact λ b o hb=>B b o (λ z=>by subst z;rw[hHl]at hb;cases hb) ((((s2.trans s5).trans s6).trans s7) b o hb)
  .rw[if_neg gh]
   exact⟨ds.length-(i+1),by lia,s,F,T,rfl,I,s5 _ _ U,by lia,L,rv.up s5,rk,bA.up s5,s2.trans s5,r,e4,m⟩
 .have ei:i=ds.length:=by lia
  subst ei;rw[tL]at j;cases j;rw[g6]at m;subst m;rw[N]at L;cases L;exact .inl ⟨(jj _).1 (bJ _),w _ P s2 (vi U (.inl hHl) (rv.wk λ p o _ z=>⟨.inl z.1,z.2⟩) rk)⟩
end
section
variable{C:bB}{pos:Pos}{k v a t:Expr}{f:List Expr}{s:Scope}{N:List Str}{js:iL}{ks:List Nat}{fi:af->ag (List D)}{fg:D->af->ag af}{ft:af->ag Bool}{fk fv:af->ag D}
def Gl(h:kF C a t fi)(b:lB (C.blk s N) a ks fg)(d:se (C.blk s N) f ft)(e:aF (C.blk s N) (some []) k fk)(j:aF (C.blk s N) (some []) v fv)(l:∀i x,kn t (C.X i).env x=pure x:=by intro _ _;rfl)(B:∀i,l9 (C.X i) s N (gI js) ks:=by intro _;exact xG rfl rfl rfl rfl rfl rfl):aF C (some []) (.DictComp k v [⟨a,t,f,0⟩] s pos) (lG fi js fg ft fk fv):=by
 obtain⟨A,m,dg⟩:=h;obtain⟨g,n,o,q,E⟩:=b;obtain⟨F,r,u⟩:=d;obtain⟨G,k1,k2⟩:=e;obtain⟨H,w,y⟩:=j;exact⟨_,λ i=>Ms (pos:=pos) (B i) (C.calm i) (m i) (λ c p z D=>n (i,c,p,z,D)) q (λ c p z D=>r (i,c,p,z,D)) (Ur k v a t f s pos) (Us k v a t f s pos) Xp (λ c p z D=>Xo (X:=(C.X i).block s c N p z D) (k1 (i,c,p,z,D)) (w (i,c,p,z,D))) rfl rfl (l i),Xq dg o u k2 y⟩
end
end VL
namespace PySem
open Sem(wp)
def Xr:qj (.type "tuple") "keys"=pure none:=by rfl
def Xs{prog:bD}{w:World}{A:cg}{E:Value->ax->Prop}{s:ax}{a:Addr}{o:Obj}{xs:Array Value}{k:Nat}{Q:Option Value->ax->Prop}
  (f:s.heap.get? a=some o)(i:o.cls= .type "tuple")(t:o.data= .seq xs k)(j:o.dict=none)(m:A.handled=none)
  (h:∀h' l e,Heap.NewExcOf s.heap h' e "AttributeError"->Q none {s with heap:=h',toks:=l}):
  wpAny (model prog w) A (Ap (.ref a) "keys") Q E s:=by
 obtain⟨c,dct,n,sl⟩:=o;simp only at i t j;subst i t j;obtain⟨ah,g,d,l,os⟩:=s;have T:∀b,(⟨ah,g,d,b,os⟩:ax).TypeIs (.ref a) "tuple":=λ _=>⟨_,f,rfl⟩
 have p:=sub_AttributeError;have q:=Ec.lookup;have r:=Ec.bind (.ref a);have u:=am_tuple_getattr_none;unfold Ap getAttrBy? getAttrBy
 repeat (any_goals (first|assumption|exact T _|((with_reducible show wpAny _ _ (call (ui "tuple.__getattribute__") _ _) _ _ _);refine rJ Ec (T _) am_entry_tuple_getattribute (F.args_tuple_getattribute_2 _ _) (meets_getattribute_miss_tuple a xs k sl "keys" _ Xr (by f_are) (by size_fits)) ⟨f,m,λ h' b e x=>?_⟩)|wp_step))
 obtain⟨t',v,y⟩:=x.there;show wpAny _ _ (J7 _ _ _ _ _ _ _) _ _ _;unfold J7
 repeat (any_goals (first|assumption|wp_step))
 exact h _ _ _ x.of
section
variable{prog:bD}{w:World}{A:cg}{E:Value->ax->Prop}{s:ax}
def Xt{l:Addr}{o:Obj}{vs:Array Value}{k:Nat}{Q:Value->ax->Prop}(f:s.heap.get? l=some o)(c:o.cls= .type "tuple")(h:o.data= .seq vs k)(g:o.dict=none)(m:A.in1.in1.handled=none)
  (u:∀(h':Heap) (a:Nat),(∀b ob,(s.heap.push {cls:=.type "dict",data:=.dict #[]}).get? b=some ob->h'.get? b=some ob)->fV (model prog w) A.in1 (.builtin "dict.update.loop" ⟨[.ref s.heap.objs.size,.ref h'.objs.size,lY 0,.none],[]⟩) (wants (λ r I=>r= .none/\Q (.ref s.heap.objs.size) I) E) {s with heap:=h'.push {cls:=.type "tuple_iterator",data:=.fields #[.ref l,.int 0 0]},toks:=a}):
  wpAny (model prog w) A (call (.type "dict") [.ref l]) Q E s:=by
 refine callType_codes (Q₁:=λ j z=>j= .ref s.heap.objs.size/\z={s with heap:=s.heap.push {cls:=.type "dict",data:=.dict #[]}}) F.kt_called_dict (F.kt_typeCall_dict_1 _) F.entry_dict_init (kt_code_dict_new _ ⟨rfl,rfl⟩) ?_;rintro j z ⟨rfl,rfl⟩;have t:wX {s with heap:=s.heap.push {cls:=.type "dict",data:=.dict #[]}} (.ref s.heap.objs.size) "dict":=⟨_,dy _ rfl,rfl⟩;have x:(s.heap.push {cls:=.type "dict",data:=.dict #[]}).get? l=some o:=bM _ f;have d:wX {s with heap:=s.heap.push {cls:=.type "dict",data:=.dict #[]}} (.ref l) "tuple":=⟨_,x,c⟩;refine⟨t,F.args_dict_init_2 _ _,?_⟩;unfold hY.«dict.__init__»;refine av ?_;unfold Builtin.Dict.selfAndRest;refine av (J0 t ?_);show wpAny _ _ (pure (s.heap.objs.size,[fX l])) _ _ _;refine aL ?_;show wpAny _ _ (Kc "dict.__init__" s.heap.objs.size (.ref l) [] .none) _ _ _;unfold Kc;refine av (rI d ?_);rw[if_pos (by decide)];refine av (Xs x c h g (by assumption) λ h' a e n=>?_);rw[if_pos (show(none:Option Value).isNone=true from rfl)];have keep:=n.keeps;have i:h'.IsTuple l vs:=⟨o,keep _ _ x,c,k,h⟩;refine av (qk ?_);refine av (wz i ?_);exact aL ⟨wK _ (by f_are),u h' a keep⟩
def OR:wJ table "dict.update.loop"=some hY.«dict.update.loop»:=entryFor_of_tree (by kernel_rfl)
inductive qY{K:Type}[DecidableEq K](knd:KeyKind prog w K)(h:Heap):List Value->List (K×Value)->Prop where
 |nil:qY knd h [] []
 |cons {x:Addr} {o:Obj} {n:Nat} {kv v:Value} {k:K} {us:List Value} {ps:List (K×Value)} (ho:h.get? x=some o) (hc:o.cls= .type "tuple") (hd:o.data= .seq #[kv,v] n) (hk:knd.is k kv=true) (r:qY knd h us ps):qY knd h (.ref x::us) ((k,v)::ps)
theorem qY.mono{K:Type}[DecidableEq K]{knd:KeyKind prog w K}{h h':Heap}:∀{u:List Value} {ps:List (K×Value)},qY knd h u ps->(∀x,.ref x∈u->∀o,h.get? x=some o->h'.get? x=some o)->qY knd h' u ps
 |_,_,.nil,_=>.nil
 |_,_,.cons a c d b r,k=>.cons (k _ c0 _ a) c d b (r.mono λ x e=>k x (dN _ e))
def Xu{K:Type}[DecidableEq K]{knd:KeyKind prog w K}{d c t:Addr}{vs:Array Value}{R:mG->ax->Prop}(f:d≠c)(J:d≠t)(L:t≠c)(hA:A.handled=none):
  ∀(g:List Value) (ps:List (K×Value)) (i:Nat) (s:ax) (acc:List (K×Value)),g=vs.toList.drop i->qY knd s.heap g ps->(∀x,.ref x∈g->x≠d/\x≠c)->s.heap.IsTupleIter c t i->s.heap.IsTuple t vs->s.heap.DictOf knd d acc->acc.length+g.length<=aQ->
   (∀h' M,h'.DictOf knd d (ps.foldl (λ a p=>ug a p.1 p.2) acc)->(∀b o,b≠d->b≠c->s.heap.get? b=some o->h'.get? b=some o)->R (.ok (.ret .none)) {s with heap:=h',toks:=M})->
   fV (model prog w) A (.builtin "dict.update.loop" ⟨[.ref d,.ref c,lY (i:Int),.none],[]⟩) R s:=by
 intro g;induction g with
 |nil=>
  intro ps i s acc E ah _ j F N _ q;cases ah;refine mE OR ?_;rw[oV (by f_are) _];unfold hY.«dict.update.loop»;have O:vs[i]? =none:=by
   rw[<-rq,zA]
   have:=congrArg qc E
   rw[wg,kk]at this;omega
  refine av (JZ hA j F O λ h' he=>?_);refine av (aL (aL ?_));exact q h' s.toks (N.extBut he f) λ b o _ m e=>he b o m e
 |cons u g ih=>
  intro ps i s acc E ah h j F N hz q;cases ah with
  |@cons x o n kv v k _ P ho hc z hk r=>
  refine mE OR ?_;rw[oV (by f_are) _];unfold hY.«dict.update.loop»;have O:vs[i]? =some (.ref x):=by
   rw[<-rq]
   have:=congrArg (λ l=>l[0]?) E
   simpa using this.symm
  refine av (JW j F O λ h' B Q=>?_);obtain⟨hxd,S⟩:=h x c0;have C:h'.get? x=some o:=by rw[Q.2 x S];exact ho
  have hT:wX {s with heap:=h'} (.ref x) "tuple":=⟨o,C,hc⟩;have T:=N.sameBut Q f;refine av (jt (av (wpAny_tryCatch ?_)));unfold Builtin.Dict.pairItems;refine av (rI hT ?_);rw[if_pos (by decide)];refine av (DS C z ?_);refine aL ?_;show wpAny _ _ (ju [kv,v] (dictSet d kv v)) _ _ _;refine jt (J3 (knd:=knd) (k:=k) (hsz:=by omega) hk T λ m U D=>?_);have keep:∀b ob,b≠d->b≠c->s.heap.get? b=some ob->m.get? b=some ob:=λ b ob G H e=>by
   rw[D.2 b G];show h'.get? b=some ob;rw[Q.2 b H];exact e
  have V:m.IsTupleIter c t (i+1):=by
   obtain⟨oi,W,X⟩:=B;exact⟨oi,by rw[D.2 c (ir f)];exact W,X⟩
  have Y:m.IsTuple t vs:=by
   obtain⟨ot,W,X⟩:=F;exact⟨ot,keep t ot (ir J) L W,X⟩
  have hl:(ug acc k v).length<=acc.length+1:=stored_length_le acc k v;have ei:((i:Int)+1)=((i+1:Nat):Int):=by omega
  refine aL ⟨wK _ (by f_are),?_⟩;rw[ei];refine ih P (i+1) _ (ug acc k v) ?_ (r.mono λ y I ob e=>keep y ob (h y (dN _ I)).1 (h y (dN _ I)).2 e) (λ y I=>h y (dN _ I)) V Y U (by rw[g0]at hz;omega) λ h3 M Z k3=>?_
  .rw[<-JD,<-E]
   rfl
  .exact q h3 M Z λ b ob G H e=>k3 b ob G H (keep b ob G H e)
end
end PySem
namespace VL
open PySem PySem.Spec PyProof.Rows L2
noncomputable def sA:cS->Option aJ
 |[]=>some []
 |[i,j]::r=>(match sA r with
  |some qs=>some ((i,j)::qs)
  |none=>none)
 |_=>none
theorem OS:∀{nss:cS} {qs:aJ},sA nss=some qs->nss=qs.map λ q=>[q.1,q.2]
 |[],_,h=>by cases h;rfl
 |[]::_,_,h=>by cases h
 |[_]::_,_,h=>by cases h
 |[i,j]::r,qs,h=>by
  unfold sA at h;split at h
  .rename_i q e
   cases h;rw[bu,<-OS e]
  simp_all
 |(_::_::_::_)::_,_,h=>by cases h
noncomputable def vj(q:Int×Int):bz×V:=(.inl q.1,.int q.2)
def OT(K:aB):List V->au->bC->Prop:=λ xs H Q=>∃p vs nss qs,xs=[.ref p]/\bQ K H p vs/\iC K H vs nss/\sA nss=some qs/\∀l H',aU H H'->H l=none->H' l=some (.dK ((qs.map vj).foldl (λ a q=>putK a q.1 q.2) []))->Q (.ref l) H'
theorem OU{X:aZ}{Q:bZ}{s:ax}{Z:L2.St}{H:au}(I:Inv X Q Z H s):∀{vs:List V} {qs:aJ},iC X.K H vs (qs.map λ q=>[q.1,q.2])->∃ps:List (bz×Value),qY (gR X.prog X.w) s.heap (vs.map ji) ps/\fu (qs.map vj) ps/\∀x,.ref x∈vs.map ji->x<s.heap.objs.size
 |_,[],t=>by cases t;exact⟨[],.nil,.nil,λ x h=>nomatch h⟩
 |_,q::qs,t=>by
  rw[bu]at t;cases t with
  |@cons a ns vs nss h d r=>
   obtain⟨ps,p,f,g⟩:=OU I r;obtain⟨i,v,⟨o,c,j,n,l⟩,_⟩:=I.tuple h;cases v with
   |cons m v=>
   cases v with
   |cons b v=>
   cases v;rename_i u w;refine⟨(.inl q.1,w)::ps,.cons c j l (rT (k:=.inl q.1) m) p,.cons ⟨rfl,b⟩ f,λ x y=>?_⟩;rcases b8.mp y with e|e
   .cases e
    exact cb c
   .exact g x e
theorem OV:∀{l:List (bz×V)} {ps c:List (bz×Value)} {acc:List (bz×V)},fu l ps->fu acc c->fu (l.foldl (λ a q=>putK a q.1 q.2) acc) (ps.foldl (λ a p=>ug a p.1 p.2) c)
 |_,_,_,_,.nil,h=>h
 |_,_,_,_,.cons (b:=q) ⟨e,r⟩ t,h=>by
  rw[mD,mD,e];exact OV t (h.put _ r)
theorem OW:∀(l:List (bz×V)) (acc:List (bz×V)),(l.foldl (λ a q=>putK a q.1 q.2) acc).length<=acc.length+l.length
 |[],_=>bJ _
 |p::l,acc=>by
  rw[mD];have h:=OW l (putK acc p.1 p.2);have b:=xy acc p.1 p.2
  grind
def Xv{X:aZ}(m:X.calm=true):fM X (.type "dict") (OT X.K):=by
 intro J s Z H xs K Q I r h;obtain⟨p,vs,nss,qs,rfl,ah,i,y,q⟩:=h;obtain⟨u,rfl,z⟩:=vals1 r;cases z;have B:=OS y;subst B;obtain⟨C,D,⟨o,g,c,n,v⟩,hz⟩:=I.tuple ah;have e:=i.vals D;subst e;obtain⟨ps,E,F,w⟩:=OU I i;have hpl:=cb g;refine Xt g c v (I.noD ah o g) (I.ok.hd m) λ h' L keep=>?_
 have d:h'.get? s.heap.objs.size=some {cls:=.type "dict",data:=.dict #[]}:=keep _ _ (dy _ rfl);have hsz:s.heap.objs.size<h'.objs.size:=cb d;have k0:∀b u,s.heap.get? b=some u->h'.get? b=some u:=λ b u e=>keep b u (bM _ e)
 refine Xu (knd:=gR X.prog X.w) (vs:=(vs.map ji).toArray) (A:=X.A.in1) (t:=p) (cC hsz) (kV hpl) (cC (qd hpl hsz)) (I.ok.hd m) (vs.map ji) ps 0 _ [] (by simp) (E.mono λ x j ob e=>bM _ (k0 x ob e)) (λ x j=>⟨cC (w x j),cC (qd (w x j) hsz)⟩) ⟨_,dy _ rfl,rfl,rfl⟩ ⟨o,bM _ (k0 p o g),c,n,v⟩ ?_ ?_ λ M k l k3=>⟨rfl,?_⟩
 .exact⟨_,#[],0,bM _ d,⟨rfl,rfl,rfl⟩,rfl,λ _ G=>(by simp at G),Pairs.nil,rC⟩
 .rw[bg,kk]
  lia
 .have N:qs.length=vs.length:=by rw[i.len,bg]
  have f:H s.heap.objs.size=none:=I.hok.fresh (bJ _);refine⟨.ref s.heap.objs.size,bt H s.heap.objs.size (.dK ((qs.map vj).foldl (λ a q=>putK a q.1 q.2) [])),I.laid (t':=k) (λ b u e=>k3 b u (cC (cb e)) (cC (qd (cb e) hsz)) (bM _ (k0 b u e))) (bJ _) (E4 ?_ (beq_eq_false_iff_ne.mpr (ir (cC I.big))) (OV F .nil) l),rfl,q _ _ (eM f _) f dQ⟩
  have:=OW (qs.map vj) []
  rw[bg,kk]at this;lia
noncomputable def sC:List D->ag D
 |[.tup l]=>match px l with
  |some nss=>(match sA nss with
   |some qs=>.ok (bL (jk [] (qs.map λ q=>(q.1,.int q.2))))
   |none=>.st)
  |none=>.st
 |_=>.st
theorem OX{K:aB}:∀(qs:aJ) {acc:List (bz×V)} {ps:List (Int×D)},aM K A H (acc.map (·.2)) (ps.map (·.2))->(acc.map (·.1)=ps.map λ p=>(gy p.1:bz))->
  aM K A H (((qs.map vj).foldl (λ a q=>putK a q.1 q.2) acc).map (·.2)) ((jk ps (qs.map λ q=>(q.1,.int q.2))).map (·.2))/\(((qs.map vj).foldl (λ a q=>putK a q.1 q.2) acc).map (·.1)=(jk ps (qs.map λ q=>(q.1,.int q.2))).map λ p=>(gy p.1:bz))
 |[],_,_,r,e=>⟨r,e⟩
 |q::qs,acc,ps,r,e=>by
  obtain⟨z,b⟩:=BR r e (.int _);exact OX qs z b
def Xw{K:aB}:BK K (OT K) sC:=by
 intro A xs ds H Q z r a q;unfold sC at a;split at a
 .cases r with
  |cons h r=>
   cases r;replace h:=h.tup_inv;obtain⟨_,_,c,h,r⟩:=h;cases c;split at a
   .rename_i nss e
    split at a
    .rename_i qs d
     obtain⟨f,g⟩:=FT e;subst f;cases a;have t:=FU r g;refine⟨_,_,nss,qs,rfl,h,t,d,λ l H' s i b=>q _ H' s ?_⟩;obtain⟨j,k⟩:=OX (K:=K) (H:=H') qs (acc:=[]) (ps:=[]) .nil rfl;exact vi b i j k
    .cases a
   .cases a
 .cases a
section
variable{C:bB}{pos p:Pos}{m:Mode}{a:Expr}{g:af->ag (List D)}
def Xx(f:C.mg "dict"=none)(h:fN C m [a] g)(e:∀i,bf [a] (C.X i).env=[(false,eval a (C.X i).env)]:=by z_go)(b:∀i,dA (C.X i) "dict":=by z_go)(v:gx "dict"=some (.type "dict"):=by f_are):aF C (some []) (.Call (.Name "dict" p) [a] [] pos) (aN sC g):=by
 obtain⟨t,c,d⟩:=h;refine⟨_,λ i=>uv (by rw[<-C.hK i];exact Xv (C.calm i)) (b i) (by rw[(C.cx i).2.2.2.1];assumption) v (c i) (by decide) (by decide) (e i) rfl,FX Xw d⟩
end
def OY:qj (.type "dict_values") "__contains__"=pure none:=by rw[DK,Dz];kernel_rfl
def OZ:wJ table "proto.contains_iter"=some hY.«proto.contains_iter»:=entryFor_of_tree (by kernel_rfl)
def Gm{K:Type}:List (K×Value)->List Int->Prop:=qq λ p j=>∃t,p.2=jx j t
section
variable{prog:bD}{w:World}{A:cg}{E:Value->ax->Prop}{K:Type}[DecidableEq K]{knd:KeyKind prog w K}
def Xy{a d:Addr}{vs:List (K×Value)}{ep:Nat}{i:Int}{t:Tok}{R:mG->ax->Prop}(m:d≠a)(D:A.handled=none):
  ∀(ws:List (K×Value)) (js:List Int) (k:Nat) (s:ax),ws=vs.drop k->Gm ws js->s.heap.IsValIter a d k vs.length ep->s.heap.DictAt knd d vs ep->
   (∀h' p,(∀b o,b≠a->s.heap.get? b=some o->h'.get? b=some o)->R (.ok (.ret (.bool (js.any (·==i))))) {s with heap:=h',toks:=p})->
   fV (model prog w) A (.builtin "proto.contains_iter" ⟨[.ref a,.int i t],[]⟩) R s:=by
 intro ws;induction ws with
 |nil=>
  intro js k s f ah h g q;cases ah;refine mE OZ ?_;rw[oV (by f_are) _];unfold hY.«proto.contains_iter»;have x:vs[k]? =none:=by
   rw[zA]
   have:=congrArg qc f
   rw[wg,kk]at this;lia
  refine av (wpAny_pyNext_values_end D h g (by have:=zA.mp x;lia) λ h' E=>?_);refine av (qk (aL ?_));exact q h' s.toks λ b o F e=>E b o F e
 |cons u L G=>
  intro js k s f ah h g q;cases ah with
  |cons H r=>
  rename_i j js;obtain⟨I,v⟩:=u;obtain⟨z,y⟩:=H;replace y:v= .int j z:=y;subst y;refine mE OZ ?_;rw[oV (by f_are) _];unfold hY.«proto.contains_iter»;have x:vs[k]? =some (I,.int j z):=by
   have:=congrArg (λ l=>l[0]?) f
   simpa using this.symm
  refine av (wpAny_pyNext_values_item h g x λ h' c B=>?_);refine av (DI ?_);have C:∀b o,b≠a->s.heap.get? b=some o->h'.get? b=some o:=λ b o n e=>(B.2 b n).trans e
  by_cases e:j=i
  .subst e
   rw[if_pos (by simp)];refine av (qk (aL ?_))
   have:=q h' s.toks C
   rw[wh,beq_self_eq_true,CY]at this;exact this
  .rw[if_neg (by simpa using e)]
   refine aL ⟨wK _ (by f_are),?_⟩;refine G js (k+1) _ ?_ r c (g.extBut B.extBut m) λ J p k3=>?_
   .rw[<-JD,<-f]
    rfl
   .have:=q J p λ b o n e=>k3 b o n (C b o n e)
    rw[wh,show(j==i)=false by simpa using e,Bool.false_or]at this;exact this
def Xz{l d:Addr}{vs:List (K×Value)}{js:List Int}{i:Int}{t:Tok}{s:ax}{Q:Bool->ax->Prop}(j:A.handled=none)(c:s.heap.IsValuesView l d)(m:s.heap.DictOf knd d vs)(n:Gm vs js)
  (h:∀h' f,(∀b o,s.heap.get? b=some o->h'.get? b=some o)->Q (js.any (·==i)) {s with heap:=h',toks:=f}):wpAny (model prog w) A (contains (.ref l) (.int i t)) Q E s:=by
 obtain⟨ep,a⟩:=m.dictAt;unfold contains;refine jt ?_;rw[stdlibNamesSay?_of_typeIs c.typeIs];refine av (DM c.typeIs OY ?_);show wpAny _ A (if (none==some fE)=true then _ else _) Q E s;rw[if_neg (by simp)];refine av (wpAny_callSpecialUnlessNone?_none c.typeIs OY ?_);refine av (qk (av (wpAny_tryCatch ?_)));refine wpAny_pyIter_values c a ?_;refine av (DR ?_);have g:=a.lt_size;refine Xy (vs:=vs) (d:=d) (ep:=ep) (knd:=knd) (cC g) j vs js 0 _ rfl n ⟨_,dy _ rfl,rfl,rfl⟩ (a.push _) λ h' f k=>?_
 exact aL (h h' f λ b o e=>k b o (cC (cb e)) (bM _ e))
end
def Gn(l a:Addr):HO:=.ext λ h=>h.IsValuesView l a
def Gp:V->List V->au->bC->Prop:=λ x xs H Q=>∃a k,x= .ref a/\xs=[]/\H a=some (.dK k)/\∀l,H l=none->Q (.ref l) (bt H l (Gn l a))
def Gq(n:Bool):bA:=λ y x H Q=>∃(l a:Addr) (k:List (bz×V)) (js:List Int) (i:Int),x= .ref l/\y= .int i/\H l=some (Gn l a)/\H a=some (.dK k)/\k.map (·.2)=js.map V.int/\Q (.bl (n !=js.any (·==i))) H
def XA{X:aZ}:EP X "dict.values" Gp:=by
 intro m s Z H x xs v u Q I d c h;obtain⟨a,g,rfl,rfl,i,q⟩:=h;cases d;cases c;obtain⟨z,j,vs,l,dd⟩:=uG I.hok i;have f:H s.heap.objs.size=none:=I.hok.fresh (bJ _);refine DY Aw dd.typeIs Kl (Kj _) (meets_dict_values (gR X.prog X.w) a j) ⟨⟨vs,dd⟩,⟨.ref s.heap.objs.size,bt H s.heap.objs.size (Gn s.heap.objs.size a),I.laid (t':=s.toks) (λ b o e=>bM _ e) (bJ _) ?_,rfl,q _ f⟩⟩;exact⟨⟨_,dy _ rfl,rfl,rfl⟩,⟨_,dy _ rfl⟩,λ n p ⟨o,e,r⟩ k=>⟨o,k o e,r⟩⟩
theorem O0:∀{k:List (bz×V)} {vs:List (bz×Value)} {js:List Int},fu k vs->k.map (·.2)=js.map V.int->Gm vs js
 |_,_,[],.nil,_=>.nil
 |_,_,_::_,.nil,e=>by cases e
 |_,_,[],.cons _ _,e=>by cases e
 |_,_,j::js,.cons (a:=p) (b:=q) h t,e=>by
  rw[bu,bu]at e;injection e with e1 e2
  have c:=h.2;rw[e1]at c;exact .cons c (O0 t e2)
def XB{X:aZ}(h:X.calm=true):bT X (dP .NotIn) (Gq true):=by
 intro n s Z H y x u v Q I b c ⟨l,a,d,js,i,e,f,g,j,m,q⟩;subst e;cases c;subst f;obtain⟨t,rfl⟩:=b;obtain⟨z,o,vs,r,dd⟩:=uG I.hok j;show wpAny (model X.prog X.w) X.A (do return AB (!(<-contains (.ref l) (.int i t)))) _ _ s;exact av (Xz (I.ok.hd h) (I.hok l _ g).1 dd (O0 r m) λ h' p k=>aL ⟨.bl (!js.any (·==i)),H,I.kept k,rfl,by simpa using q⟩)
noncomputable def pD(n:Bool):D->D->ag D
 | .int i,.dct ks vs=>match iD ks vs,intsOf vs with
  |some _,some js=>.ok (.bl (n !=js.any (·==i)))
  |_,_=>.st
 |_,_=>.st
def XC(h:pD neg d e= .ok z):∃i ks vs ps js,d= .int i/\e= .dct ks vs/\iD ks vs=some ps/\intsOf vs=some js/\z= .bl (neg !=js.any (·==i)):=by
 unfold pD at h;split at h
 .split at h
  .rename_i i ks vs _ _ ps js a b
   cases h;exact⟨i,ks,vs,ps,js,rfl,rfl,a,b,rfl⟩
  .cases h
 .cases h
def XD{K:aB}{G:eK}{t o:bw}{f c:af->ag D}(j:eO K G m1 t f)(p:eO K G m2 o c):eO K G (some []) (mM (Gq n) t (EU K "dict" Gp o)) (aj (pD n) f c):=by
 intro τ Z H ρ lab Q R W;refine j τ Z H ρ lab _ R (W.bd.imp λ d _ w x q s u=>?_);refine p τ Z q ρ lab _ (R.up s) (w.bd.imp λ e _ w y I s2 v=>?_);obtain⟨z,A,B⟩:=w.okD;obtain⟨i,ks,vs,ps,js,rfl,rfl,ah,C,rfl⟩:=XC A;have E:=(u.up s2).int_inv;subst E;obtain⟨a,k,rfl,g,m,r,J⟩:=v.dctI_inv ah;refine⟨.inr (.inr (.inl ⟨rfl,.inl ⟨_,g⟩⟩)),a,k,rfl,rfl,g,λ l h=>?_⟩;have b:a≠l:=λ e=>by subst e;rw[g]at h;cases h
 have F:k.map (·.2)=js.map V.int:=by
  rw[<-(Gh ah).2,mn C]at r;exact r.ints_of
 exact⟨l,a,k,js,i,rfl,rfl,dQ,by rw[cp b];exact g,F,B _ _ ((s.trans s2).trans (eM h _)) (.bl _)⟩
section
variable{C:bB}{d m:Mode}{a o:Expr}{b f:af->ag D}{pos p c:Pos}
def XE(e:aF C d a b)(g:aF C m o f)(h:∀j,lT o "values" (C.X j).env (eval o (C.X j).env)=eval o (C.X j).env:=by z_go)(l:(p.endLine==c.line)=true:=by rfl)(k:lU .NotIn (.Call (.Attribute o "values" p) [] [] c)=false:=by by_in):
  gp C (.Compare a [.NotIn] [.Call (.Attribute o "values" p) [] [] c] pos) (bh (aj (pD true) b f)):=by
 obtain⟨t,n,q⟩:=e;obtain⟨u,k1,k2⟩:=g;exact⟨EJ (mM (Gq true) t (EU C.K "dict" Gp u)),λ i=>by rw[<-C.hK i];exact LG (XB (C.calm i)) (n i) (S9 Eb Aw Ko XA (k1 i) (h i) l) k,MM (XD q k2)⟩
end
end VL
namespace L2
open PySem PySem.Spec PyProof.Rows
section
variable{X:aZ}{n0 n1 n2 F:Str}{c1 c2:V}{k1 k2 k3 k4:List V}{l1 l2:List Str}{a1 a2:Expr}{K J e1 e2 e3 e4 N M:List Expr}{I G:List iK}{Q:bC}{H:au}{vs:List V}
 {p1 p2 p3 p4 p5 p6 p7 Z Y E D C B A z y x w v u t s r q o n m l k j i h g f e d c b a p:Pos}{W U T S R P O:Pos}{j1 j2 j3 j4 j5:Nat}{EW:gj}{L:Addr->Option Str}
end
section
variable{P:bD}{w:World}{K:aB}{mg:Str->Option Value}{base:Heap}{x q n0 n1 n2 L:Str}{st:Stmt}{f:Addr}{fd:bO}{k:Nat}{R:Addr->Option Str}{c1 c2:V}{k1 k2 k3 k4:List V}{l1 l2:List Str}{a1 a2:Expr}{Q O e1 e2 e3 e4 T S:List Expr}{N M:List iK}
 {p1 p2 p3 p4 p5 p6 p7 p8 p9 J I H G F E D C B A z y v u t s r o n m l j i h g e d c b a p:Pos}{q1 q2 Z Y X W U:Pos}{j1 j2 j3 j4 j5:Nat}
end
section
variable{X:aZ}{n0 n1 n2 F:Str}{c1 c2:V}{k1 k2 k3 k4:List V}{l1 l2:List Str}{a1 a2:Expr}{K J e1 e2 e3 e4 N M:List Expr}{I G:List iK}{Q:bC}{H:au}{vs:List V}
 {p1 p2 p3 p4 p5 p6 p7 Z Y E D C B A z y x w v u t s r q o n m l k j i h g f e d c b a p:Pos}{W U T S R P O:Pos}{j1 j2 j3 j4 j5:Nat}{EW:gj}{L:Addr->Option Str}
end
section
variable{P:bD}{w:World}{K:aB}{mg:Str->Option Value}{base:Heap}{x q n0 n1 n2 L:Str}{st:Stmt}{f:Addr}{fd:bO}{k:Nat}{R:Addr->Option Str}{c1 c2:V}{k1 k2 k3 k4:List V}{l1 l2:List Str}{a1 a2:Expr}{Q O e1 e2 e3 e4 T S:List Expr}{N M:List iK}
 {p1 p2 p3 p4 p5 p6 p7 p8 p9 J I H G F E D C B A z y v u t s r o n m l j i h g e d c b a p:Pos}{q1 q2 Z Y X W U:Pos}{j1 j2 j3 j4 j5:Nat}
end
end L2
namespace VL
open PySem PySem.Spec PyProof.Rows L2
def cY{K:aB}{h:Heap}{mg:Str->Option Value}{x:Str}{st:Stmt}(X:K.In h)(G:h.Ns dv mg)(e:∃f d,cT K x st f d)(ps:List Str)
  (b:∀(eu o p:Value) (n:Option Addr) (c t:Value) (u:List Value),u.length=ps.length->bindArgs (nP x x (uz st) (lr st) (bU st) .none eu o p n c t) ⟨u,[]⟩=pure (ps.zip u):=by
   intro _ _ _ _ _ _ u l;repeat' first|rfl|(simp at l;done)|rcases u with _|⟨_,u⟩):∃f d,cy K mg x st ps f d/\fL K dv x=some (some (.ref f)):=by
 obtain⟨f,d,F,a⟩:=e;exact⟨f,d,⟨F,qw X G a,F.binds b⟩,a⟩
end VL
namespace L2
open PySem PySem.Spec PyProof.Rows
end L2
namespace VL
open PySem PySem.Spec PyProof.Rows L2
theorem fu.at:∀{k:List (bz×V)} {vs:List (bz×Value)},fu k vs->vs.map (·.1)=k.map (·.1)
 |_,_,.nil=>rfl
 |_,_,.cons e r=>by rw[bu,bu,fu.at r,e.1]
def XF(A:cg)(s:ax)(v u:Value)(b:Bool):Prop:=∀(prog:bD) (w:World) (E:Value->ax->Prop) (Q:Value->ax->Prop),Q (.bool b) s->wpAny (model prog w) A (Aj .Gt v u) Q E s
inductive vk(A:cg)(s:ax):List Value->List Value->Bool->Prop
 |nn:vk A s [] [] false
 |nc:vk A s [] (v::vs) false
 |cn:vk A s (v::vs) [] true
 |eq:nN A s v u true->vk A s vs us b->vk A s (v::vs) (u::us) b
 |un:nN A s v u false->XF A s v u b->vk A s (v::vs) (u::us) b
section
open PySem.SeqAt
open PySem.AutoSeq1(wpAny_loadPart')
open PySem.MeetsSeq PySem.MeetsSeq2 PySem.MeetsSeq3
end
section
structure XG(f:D->D->Option Bool)(l:List D):Prop where
 n0:0<l.length
 im:gc l=true
 nd:dS l=true
 dp:gK l<=40
 cm:∀x∈l,∀y∈l,(f x y).isSome=true
instance:Decidable (XG f l):=if h:0<l.length/\gc l=true/\dS l=true/\gK l<=40/\∀x∈l,∀y∈l,(f x y).isSome=true then .isTrue ⟨h.1,h.2.1,h.2.2.1,h.2.2.2.1,h.2.2.2.2⟩else .isFalse λ z=>h ⟨z.n0,z.im,z.nd,z.dp,z.cm⟩
end
mutual
def Gr:D->D->Option Bool
 | .int a,.int b=>some (decide (a<b))
 | .tup l,.tup m=>O1 l m
 |_,_=>none
def O1:List D->List D->Option Bool
 |[],[]=>some false
 |[],_::_=>some true
 |_::_,[]=>some false
 |x::xs,y::ys=>if dE x y=true then O1 xs ys else Gr x y
end
def XH(A:cg)(s:ax)(v u:Value)(b:Bool):Prop:=∀(prog:bD) (w:World) (E:Value->ax->Prop) (Q:Value->ax->Prop),Q (.bool b) s->wpAny (model prog w) A (Aj .Lt v u) Q E s
inductive vm(A:cg)(s:ax):List Value->List Value->Bool->Prop
 |nn:vm A s [] [] false
 |nc:vm A s [] (v::vs) true
 |cn:vm A s (v::vs) [] false
 |eq:nN A s v u true->vm A s vs us b->vm A s (v::vs) (u::us) b
 |un:nN A s v u false->XH A s v u b->vm A s (v::vs) (u::us) b
section
open PySem.SeqAt
open PySem.AutoSeq1(wpAny_loadPart')
open PySem.MeetsSeq PySem.MeetsSeq2 PySem.MeetsSeq3
end
theorem intsAre_of:∀{vs:List Value} {ns:List Int},vs.length=ns.length->(∀(i:Nat) v,vs[i]? =some v->∃t,v= .int (ns.getD i 0) t)->dO vs ns
 |[],[],_,_=>.nil
 |[],_::_,h,_=>by cases h
 |_::_,[],h,_=>by cases h
 |v::vs,n::ns,h,a=>by
  obtain⟨t,e⟩:=a 0 v rfl;have b:v= .int n t:=e;subst b;exact .cons _ _ (intsAre_of (by simpa using h) λ i v e=>by
   obtain⟨t,e⟩:=a (i+1) v (by simpa using e);exact⟨t,by simpa using e⟩)
def O2:List V->au->bC->Prop:=λ xs H Q=>∃(p:Addr) (k:List (bz×V)) (ns:List Int),xs=[.ref p]/\H p=some (.dK k)/\k.map (·.1)=ns.map (λ n=>(gy n:bz))/\ns.length<64/\mQ H (.lst ((sortI ns).map V.int)) Q
def XI{X:aZ}(J:X.calm=true):fM X (.builtin "sorted") O2:=by
 intro W s Z H xs Y Q I r h;obtain⟨p,K,ns,rfl,ah,L,d,q⟩:=h;obtain⟨u,rfl,M⟩:=vals1 r;cases M;obtain⟨z,N,vs,f,dd⟩:=uG I.hok ah;obtain⟨ep,g⟩:=dd.dictAt;have c:vs.map (·.1)=ns.map (λ n=>(gy n:bz)):=(fu.at f).trans L;have E:vs.length=ns.length:=by have:=congrArg qc c;simpa using this
 have m:∀(i:Nat) v,(∃k x,vs[i]? =some (k,x)/\(gR X.prog X.w).is k v=true)->∃t,v= .int (ns.getD i 0) t:=λ i v ⟨k,x,e,O⟩=>by
  have a:(vs.map (·.1))[i]? =some k:=by rw[da,e];rfl
  rw[c,da]at a;cases w:ns[i]? with
  |none=>rw[w]at a;cases a
  |some n=>
   rw[w]at a
   have:k=gy n:=(i7 a).symm
   subst this;rcases mK (k:=.inl n) (v:=v) O with ⟨j,t,A,F⟩|⟨y,t,A,F⟩
   .cases A;exact⟨t,by rw[F,hE,w];rfl⟩
   .cases A
 have P:X.A.in1.handled=none:=I.ok.hd J;refine FN (N1 (PySem.W.kdl_dict (knd:=gR X.prog X.w) (ep:=ep) N) P g (by rw[E,ko];lia) λ a G B k0 k1 k2 k3=>?_);have R:dO B ns:=intsAre_of (by rw[k2,E]) λ i v e=>m i v (k3 i v e)
 refine OC (s:={s with heap:=a,toks:=G}) R (by rw[k2];lia) λ C h' e S T U=>?_
 have l:s.heap.objs.size<=a.objs.size:=jS k0;have D:H a.objs.size=none:=I.hok.fresh l;exact⟨.ref a.objs.size,bt H a.objs.size (.lst ((sortI ns).map V.int)),I.laid (t':=G) (λ b o e=>T b o (k1 b o e)) l ⟨by rw[bg,(sortI_perm ns).length_eq];exact fD (jS d) (by decide),C,e,S,U⟩,rfl,q.at D⟩
noncomputable def xZ:List D->ag D
 |[.dct ks vs]=>match iD ks vs with
  |some ps=>if ps.length<64 then .ok (.lst ((sortI (ps.map (·.1))).map .int))else .st
  |none=>.st
 |_=>.st
section
variable{C:bB}{pos p:Pos}{m:Mode}{a:Expr}{b:af->ag (List D)}
def XJ(d:C.mg "sorted"=none)(f:fN C m [a] b)(j:∀i,bf [a] (C.X i).env=[(false,eval a (C.X i).env)]:=by z_go)(l:∀i,dA (C.X i) "sorted":=by z_go)(n:gx "sorted"=some (.builtin "sorted"):=by f_are):aF C (some []) (.Call (.Name "sorted" p) [a] [] pos) (aN xZ b):=by
 obtain⟨t,o,r⟩:=f;refine⟨mO O2 t,λ i=>uu (XI (C.calm i)) (l i) (by rw[(C.cx i).2.2.2.1];exact d) n (o i) (by decide) (by decide) (j i) rfl,λ τ Z H ρ lab Q R W=>?_⟩;refine r τ Z H ρ lab _ R (W.bd.imp λ ds _ w xs E s u=>?_);obtain⟨z,e,w⟩:=w.okD;unfold xZ at e;split at e
 .obtain⟨v,rfl,x⟩:=u.one_inv
  split at e
  .rename_i ps ah
   split at e
   .rename_i y
    cases e;obtain⟨c,k,rfl,g,_,_,A⟩:=x.dctI_inv ah;exact⟨c,k,ps.map (·.1),rfl,g,by rw[A,cV];rfl,by rw[bg];exact y,λ q B s3 D h=>w _ B (s.trans s3) (.lst D (.inl (s.free h)) aM.ints)⟩
   .cases e
  .cases e
 .cases e
end
noncomputable def nk(l:aJ):List (bz×V):=l.map λ p=>(.inl p.1,V.int p.2)
def Inv.froze{X:aZ}{Q:bZ}{Z:L2.St}{H:au}{s:ax}{a:Addr}{u:HO}{o:Obj}(I:Inv X Q Z H s)(d:jz u=true)(h:H a=some u)(m:s.heap.get? a=some o):Inv X Q Z (bt H a (.frz o u)) s:=by
 have f:∀b,H b=none->bt H a (.frz o u) b=none:=λ b e=>by rw[cp λ z=>by subst z;rw[h]at e;cases e<;>cases d];exact e
 have t:∀b xs,H b=some (.tup xs)->bt H a (.frz o u) b=some (.tup xs):=λ b xs e=>by rw[cp λ z=>by subst z;rw[h]at e;cases e<;>cases d];exact e
 have g:∀b q x,H b=some (.frz q x)->bt H a (.frz o u) b=some (.frz q x):=λ b q x e=>by rw[cp λ z=>by subst z;rw[h]at e;cases e<;>cases d];exact e
 have no:∀b x,H b=some (.own x)->bt H a (.frz o u) b=some (.own x):=λ b x e=>by rw[cp λ z=>by subst z;rw[h]at e;cases e<;>cases d];exact e
 have r:∀b ps,H b=some (.tbl ps)->bt H a (.frz o u) b=some (.tbl ps):=λ b ps e=>by rw[cp λ z=>by subst z;rw[h]at e;cases e<;>cases d];exact e
 refine⟨I.ok,I.os,I.bare,⟨I.base.keep,I.base.slot,λ b q e n w=>f b (I.base.free b q e n w),I.base.there,λ b xs e=>t b xs (I.base.tups b xs e),λ b q u e=>g b q u (I.base.frzs b q u e),λ b ps e=>?_⟩,I.loc,I.cell,f _ I.free,λ x c e=>f _ (I.freeC x c e),λ p ah=>?_,λ b x e=>?_,I.len,λ p ah=>?_⟩
 .exact r _ _ (I.base.tbls b ps e)
 .obtain⟨i,j,k⟩:=I.pin p ah
  exact⟨i,f _ j,k⟩
 .by_cases l:b=a
  .subst l
   rw[dQ]at e;cases e;exact⟨m,(I.hok b _ h).stay (λ c v _ q=>q) (λ c q=>no c b q) t g⟩
  .rw[cp l]at e
   exact(I.hok b x e).stay (λ c v _ q=>q) (λ c q=>no c b q) t g
 .obtain⟨i,j,k,y,ps,A,B⟩:=I.tab p ah
  exact⟨f _ i,j,k,y,ps,A,B.mono g⟩
noncomputable def sD(ks vs:List D):Option aJ:=match iD ks vs with
 |some ps=>(intsOf (ps.map (·.2))).map λ js=>(ps.map (·.1)).zip js
 |none=>none
theorem O3:∀{s:List (bz×V)} {a js:List Int},s.map (·.1)=a.map (λ i=>(gy i:bz))->s.map (·.2)=js.map V.int->s=nk (a.zip js)
 |[],[],[],_,_=>rfl
 |[],_::_,_,e,_=>by cases e
 |[],[],_::_,_,e=>by cases e
 |_::_,[],_,e,_=>by cases e
 |_::_,_::_,[],_,e=>by cases e
 |(k,v)::s,i::a,j::js,b,c=>by
  injection b with a1 a2
  injection c with b1 b2
  subst a1 b1;rw[O3 a2 b2];rfl
def aA.aEE{K:aB}(r:aA K A H v (.dct ks vs))(h:sD ks vs=some l):∃a,v= .ref a/\H a=some (.dK (nk l))/\A a:=by
 unfold sD at h;cases ah:iD ks vs with
 |none=>simp_all
 |some ps=>
  rw[ah]at h;dsimp only at h;cases j:intsOf (ps.map (·.2))with
  |none=>simp_all
  |some js=>
   rw[j]at h;cases h;obtain⟨a,k,rfl,g,m,q,b⟩:=r.dctI_inv ah;refine⟨a,rfl,?_,m⟩;rw[mn j]at q;have e:=q.ints_of;have c:k.map (·.1)=(ps.map (·.1)).map (λ i=>(gy i)):=by rw[b,cV];rfl
   rw[O3 c e]at g;assumption
theorem Gs:∀{l:aJ} {vs:List (bz×Value)} {i:Nat} {q:Int×Int},fu (nk l) vs->l[i]? =some q->∃t,vs[i]? =some ((.inl q.1:bz),jx q.2 t)
 |[],_,_,_,_,h=>by simp at h
 |p::l,vs,i,q,r,h=>by
  cases r with
  |cons e t=>
   rename_i x vs;obtain⟨d,f⟩:=x;obtain⟨a,k,b⟩:=e;dsimp only at a b;subst a b;cases i with
   |zero=>
    have:p=q:=by simpa using h
    subst this;exact⟨k,rfl⟩
   |succ i=>
    obtain⟨c,e⟩:=Gs (l:=l) (q:=q) (t) (by simpa using h);exact⟨c,by simpa using e⟩
def oa(H:au)(a:Addr)(ep:Nat)(l:aJ):Prop:=∃(o:Obj) (es:Array ud),o.data= .dict es ep/\H a=some (.frz o (.dK (nk l)))
def Gu(a:Addr)(ep:Nat)(l:aJ):kA:=
 ⟨λ i H=>i<l.length/\oa H a ep l,λ i H x H'=>∃p q,x= .ref p/\H p=none/\H'=bt H p (.tup [.int q.1,.int q.2])/\l[i]? =some q,λ i H=>l.length<=i/\oa H a ep l⟩
def BS{X:aZ}{k:bZ}{Z:L2.St}{H:au}{s:ax}{a:Addr}(I:Inv X k Z H s)(h:oa H a ep l):∃vs,fu (nk l) vs/\vs.length=l.length/\s.heap.DictAt (gR X.prog X.w) a vs ep/\(a==iI)=false:=by
 obtain⟨o,es,d,f⟩:=h;obtain⟨b,_,y,vs,r,o2,g,p,e,i,c,j⟩:=(I.hok a _ f);rw[b]at e;cases e;rw[d]at c;cases c;exact⟨vs,r,by have:=r.length;rw[<-this];simp[nk],⟨o,es,b,i,d,j⟩,y⟩
def XK{K:aB}{R:Nat}{n:List Expr}{ps:Pos}(a c:Addr)(ep:Nat)(l:aJ)(S:a≠c):Turn P w K (.Tuple n R ps) (Gu a ep l) [c] c (λ i h=>∃ok m,IsItemIter h c a i l.length ep ok m) where
 mem:=by simp
 obj:=λ i h st b d=>by
  obtain⟨ok,m,e⟩:=st
  have:b=c:=by simpa using d
  subst this;exact⟨_,e,λ v z=>by cases z⟩
 keep:=λ i h h' st k=>let⟨ok,m,e⟩:=st;⟨ok,m,k c (by simp) _ e⟩
 item:=by
  intro X C D hK N i U s Z H E I A st F;subst C D hK;obtain⟨G,hz⟩:=F;obtain⟨vs,r,B,dd,_⟩:=BS I hz;obtain⟨ok,m,e⟩:=st;obtain⟨q,O⟩:∃q,l[i]? =some q:=⟨l[i],by simp[G]⟩
  obtain⟨t,V⟩:=Gs r O;rw[<-B]at e;refine wpAny_pyNext_items_item e dd V λ p h' x W T hsz Y=>⟨_,rfl,?_⟩
  have ek:∃t',p= .int q.1 t':=by
   rcases mK (k:=.inl q.1) (v:=p) x with ⟨j,t,J,Q⟩|⟨y,t,J,Q⟩
   .cases J;exact⟨t,Q⟩
   .cases J
  obtain⟨t',rfl⟩:=ek;have f:c<s.heap.objs.size:=cb e;refine wpAny_letOwnedTupleGo_items W λ h2 L g=>⟨.ref s.heap.objs.size,bt H s.heap.objs.size (.tup [.int q.1,.int q.2]),?_,rfl,⟨_,q,rfl,I.hok.fresh (bJ _),rfl,O⟩,⟨_,_,by rw[<-B];exact L⟩,λ b d=>?_⟩
  .exact OA (s:=s) (h':=h2) (t':=s.toks) I A (λ b u d q=>(g.2 b λ z=>d (by simp[z])).trans (Y b u (λ z=>d (by simp[z])) q)) (bJ _) ⟨⟨by simp[ko],NoD.at ((g.2 _ (kV f)).trans T)⟩,[.int q.1 t',.int q.2 t],.cons ⟨_,rfl⟩ (.cons ⟨_,rfl⟩ .nil),_,(g.2 _ (kV f)).trans T,rfl,_,rfl⟩
  .have:=(A b d).1
   rw[cp]
   .exact this
   .rintro rfl
    have q2:s.heap.objs.size=c:=by simpa using d
    exact absurd f (by rw[<-q2];exact jL _)
 done:=by
  intro X C D hK N i U s Z H E I A st F;subst C D hK;obtain⟨hle,hz⟩:=F;obtain⟨vs,r,B,dd,_⟩:=BS I hz;obtain⟨ok,m,e⟩:=st;rw[<-B]at e;obtain⟨f0,f1,f2,f3,f4,f5⟩:=A c (by simp);exact wpAny_pyNext_items_end (I.ok.hd N) e dd (zE (by lia)) λ h' M=>⟨rfl,I.turned (t':=s.toks) (λ b o d q=>M b o d q) f0 f1 f3 f4 f5⟩
 self:=λ _ _ _ _ _ st h=>let⟨_,_,e⟩:=st;PySem.W.kcp_self e h
def O4(t:bw):iS:=λ Z H R=>t Z H λ x b=>∃a ep l,x= .ref a/\oa b a ep l/\R (Gu a ep l) b
def XM{X:aZ}{B:Nat}{t:List Expr}{ps p c:Pos}{o:Expr}{z:bw}(C:bq X o z)(f:lT o "items" X.env (eval o X.env)=eval o X.env:=by rfl)(i:(p.endLine==c.line)=true:=by rfl):
  lj X (.Tuple t B ps) (.Call (.Attribute o "items" p) [] [] c) (O4 z):=by
 intro Q s Z H R I h;refine Dw f i (aX (C Q s Z H _ I h) λ v g ⟨x,D,k,E,a,ep,l,F,hz,q⟩=>?_);subst F;cases E;obtain⟨vs,G,J,dd,y⟩:=BS k hz;obtain⟨ob,es,O,K⟩:=hz;obtain⟨A,L,_⟩:=Ud k (.inl ⟨_,.inr ⟨ob,K⟩⟩);refine⟨"dict","dict.items",Eb,Kr,PySem.F.type_dict_items,A,L,Au rfl (Dx ?_)⟩;have n:g.heap.DictOf (gR X.prog X.w) a vs:=let⟨o,es,r⟩:=dd;⟨o,es,ep,r⟩
 refine DY Kr A PySem.F.entry_dict_items (PySem.F.args_dict_items_1 _) (meets_dict_items (gR X.prog X.w) a y) ⟨⟨vs,n⟩,?_⟩;have w:=dd.lt_size;refine wpAny_pyIter_items (v:=g.heap.objs.size) (d:=a) ⟨_,dy _ rfl,rfl,rfl⟩ (dd.push _) ?_;have M:∀(m o2:Obj) b u,g.heap.get? b=some u->((g.heap.push m).push o2).get? b=some u:=λ m o2 b u e=>bM _ (bM _ e)
 have j:∀m:Obj,g.heap.objs.size<=(g.heap.push m).objs.size:=λ m=>by rw[k9];exact nG _
 refine⟨_,[_],_,Gu a ep l,D,rfl,k.kept (t':=g.toks) (M _ _),XK a _ ep l (cC (fq w (j _))),⟨.none,.none,?_⟩,λ b N=>?_,q⟩
 .show _=_
  rw[<-J];exact dy _ rfl
 .have e:b=_:=er.mp N
  subst e;exact k.fpOk (j _) (k.hok.fresh (j _))
def x3(f:af->ag D):af->ag (List D):=λ ρ=>(f ρ).bd λ d=>match d with
 | .itm _ l=>.ok (l.map λ p=>.tup [.int p.1,.int p.2])
 |_=>.st
def aA.itm_inv{K:aB}(r:aA K A H v (.itm oo l)):∃a,v= .ref a/\o7 H a oo l:=by cases r with|itm h=>exact⟨_,rfl,h⟩
section
variable{C:bB}{m:Mode}{o:Expr}{f:af->ag D}{e:List Expr}{g:Nat}{ps b c:Pos}
def XN(L:aF C m o f)(k:∀j,lT o "items" (C.X j).env (eval o (C.X j).env)=eval o (C.X j).env:=by z_go)(n:(b.endLine==c.line)=true:=by rfl):
  kF C (.Tuple e g ps) (.Call (.Attribute o "items" b) [] [] c) (x3 f):=by
 obtain⟨t,M,N⟩:=L;refine⟨O4 t,λ i=>XM (M i) (k i) n,λ τ Z H ρ lab T R W=>N τ Z H ρ lab _ R (W.bd.imp λ d _ w x O s r=>?_)⟩;cases d with
 |itm U l=>
  obtain⟨a,rfl,ob,es,ep,I,_,J⟩:=r.itm_inv;have u:=R.up s;refine⟨a,ep,l,rfl,⟨ob,es,I,J⟩,w _ O lab [(.ref a,.itm (some ep) l)] s (λ _ _ _=>rfl) ⟨u.len,u.sl,u.old,u.new,λ z hz=>?_⟩ λ K H' P=>?_⟩
  .rcases b8.mp hz with rfl|hz
   .exact .itm ⟨ob,es,ep,I,.inr rfl,J⟩
   .exact u.tm z hz
  .have z:=P _ (c0 ..)
   obtain⟨V,Q,v,A,S,B,h,D⟩:=z.itm_inv;cases Q;rcases h with h|h
   .cases h
   .cases h
    have F:oa H' a ep l:=⟨v,A,B,D⟩;refine λ i=>⟨λ E=>⟨by simpa using E,F⟩,λ E=>⟨⟨by simpa using E,F⟩,λ x X y=>?_⟩⟩
    obtain⟨p,q,rfl,ah,rfl,G⟩:=y;exact⟨eM ah _,.tup [.int q.1,.int q.2],by rw[da,G];rfl,.tup (.inl (.inl dQ)) (.cons (.int _) (.cons (.int _) .nil))⟩
 |_=>exact aV w
end
end VL
namespace L2
open PySem PySem.Spec PyProof.Rows
end L2
namespace VL
open PySem PySem.Spec PyProof.Rows L2
structure XO(ks:List D):Prop where
 nd:dS ks=true
 dp:gK ks<=40
 cm:∀x∈ks,∀y∈ks,(Gr x y).isSome=true
instance:Decidable (XO ks):=if h:dS ks=true/\gK ks<=40/\∀x∈ks,∀y∈ks,(Gr x y).isSome=true then .isTrue ⟨h.1,h.2.1,h.2.2⟩else .isFalse λ z=>h ⟨z.nd,z.dp,z.cm⟩
structure XP(f:D->D->Option Bool)(l:List D):Prop where
 im:gc l=true
 nd:dS l=true
 dp:gK l<=40
 cm:∀x∈l,∀y∈l,(f x y).isSome=true
instance:Decidable (XP f l):=if h:gc l=true/\dS l=true/\gK l<=40/\∀x∈l,∀y∈l,(f x y).isSome=true then .isTrue ⟨h.1,h.2.1,h.2.2.1,h.2.2.2⟩else .isFalse λ z=>h ⟨z.im,z.nd,z.dp,z.cm⟩
def pE(f:af->ag D):af->ag D:=λ ρ=>(f ρ).bd λ d=>match d with
 | .dct ks vs=>(match sD ks vs with
  |some l=>.ok (.itm none l)
  |none=>.st)
 |_=>.st
section
variable{C:bB}{e a b:Expr}{f m k:af->ag D}{r n:Mode}{pos p:Pos}
def O5(h:aF C (some []) e f):aF C (some []) e (pE f):=by
 obtain⟨t,A,B⟩:=h;refine⟨λ Z H Q=>t Z H λ x i=>∃a k,x= .ref a/\i a=some (.dK k)/\∀o es ep,o.data= .dict es ep->Q x (bt i a (.frz o (.dK k))),λ j D s Z H Q I h=>?_,λ τ Z H ρ lab Q R W=>?_⟩
 .refine aX (A j D s Z H _ I h) λ v p ⟨x,i,u,r,a,k,J,y,q⟩=>?_
  obtain⟨_,_,vs,_,ob,es,ep,e,_,c,_⟩:=uG u.hok y;exact⟨x,_,Inv.froze u rfl y e,r,q ob es ep c⟩
 .refine B τ Z H ρ lab _ R (W.bd.imp λ d _ w x i p r=>?_)
  cases d with
  |dct ks vs=>
   dsimp only at w;cases m:sD ks vs with
   |none=>rw[m]at w;exact aV w
   |some l=>
    rw[m]at w;obtain⟨a,rfl,g,E⟩:=r.aEE m;have F:H a=none:=by
     rcases E with z|z
     .exact z
     .cases z
    refine⟨a,nk l,rfl,g,λ o es ep G=>w _ _ (λ b q n=>?_) (.itm ⟨o,es,ep,G,.inl rfl,dQ⟩)⟩;rw[cp λ z=>by rw[z,F]at n;cases n];exact p b q n
  |_=>exact aV w
noncomputable def sE:D->D->ag D
 | .itm _ l,.int i=>match l.lookup i with
  |some j=>.ok (.int j)
  |none=>.st
 |_,_=>.st
theorem O6:∀{l:aJ} {i j:Int},l.lookup i=some j->jy (nk l) (.inl i)=some (.int j)
 |[],_,_,h=>by cases h
 |(a,b)::l,i,j,h=>by
  rw[fm]at h;by_cases c:a=i
  .subst c
   simp at h;subst h;exact xv rfl
  .have d:(i==a)=false:=by simpa using λ z=>c z.symm
   rw[d]at h;show jy ((gy a,V.int b)::nk l) (.inl i)=_;rw[xw (by simpa using c)];exact O6 h
def XQ(h:aF C r a m)(v:aF C n b k)(ah:xk b:=by exact λ _ _=>rfl):aF C (some []) (.Subscript a b pos) (aj sE m k):=by
 obtain⟨t,A,B⟩:=h;obtain⟨u,k1,k2⟩:=v;refine⟨mM OH t u,λ i=>Mn (by have:=(C.room i).un;lia) (A i) (k1 i) ah,λ τ Z H ρ lab Q R W=>?_⟩;refine B τ Z H ρ lab _ R (W.bd.imp λ d _ w x D s E=>?_);refine k2 τ Z D ρ lab _ (R.up s) (w.bd.imp λ e _ w y q s2 F=>?_);obtain⟨z,c,G⟩:=w.okD;cases d with
 |itm J l=>
  cases e with
  |int i=>
   unfold sE at c;dsimp only at c;cases f:l.lookup i with
   |none=>rw[f]at c;cases c
   |some j=>
    rw[f]at c;cases c;have I:=F.int_inv;subst I;obtain⟨p,rfl,o,es,ep,K,_,h⟩:=(E.up s2).itm_inv;have g:lu q p (.int i) (jy (nk l) (.inl i)):=.inl ⟨nk l,.inl i,.inr ⟨o,h⟩,rfl,rfl⟩;rw[O6 f]at g;exact⟨p,.int j,rfl,g,G _ q (s.trans s2) (.int j)⟩
  |_=>cases c
 |_=>cases c
end
end VL
namespace L2
open PySem PySem.Spec PyProof.Rows
end L2
namespace VL
open PySem PySem.Spec PyProof.Rows L2
def flat:D->Bool
 | .non=>true
 | .bl _=>true
 | .int _=>true
 |_=>false
noncomputable def flats(ps:List (Int×D)):Bool:=ps.all λ p=>flat p.2
section
variable{K:aB}{A A':Addr->Prop}{H H':au}{ps:List (Int×D)}{a b:Addr}
theorem aA.flat{v:V}{d:D}(r:aA K A H v d)(h:VL.flat d=true):aA K A' H' v d:=by
 cases d with
 |non=>cases r;exact .non
 |bl b=>cases r;exact .bl b
 |int i=>cases r;exact .int i
 |_=>cases h
theorem aM.flats:∀{ps:List (Int×D)} {vs:List V},aM K A H vs (ps.map (·.2))->VL.flats ps=true->aM K A' H' vs (ps.map (·.2))
 |[],_,r,_=>by cases r;exact .nil
 |p::ps,vs,r,h=>by
  simp only[VL.flats,tO,cM]at h;cases r with
  |cons a b=>exact .cons (a.flat h.1) (aM.flats b h.2)
def gU(K:aB)(H:au)(a:Addr)(ps:List (Int×D)):Prop:=flats ps=true/\aA K (λ p=>p=a) H (.ref a) (bL ps)
def gU.of(r:aA K A H (.ref a) (bL ps))(h:flats ps=true)(s:H' a=H a):gU K H' a ps:=by
 obtain⟨d,k,e,b,m,r,c⟩:=aA.dctI_inv r (vg ps);cases e;exact⟨h,vi (s.trans b) rfl (aM.flats r h) c⟩
def gU.rp(h:gU K H a ps)(b:A a):aA K A H (.ref a) (bL ps):=h.2.wk λ p o e q=>by simp_all
def gU.at(h:gU K H a ps):∃k,H a=some (.dK k):=by
 obtain⟨b,k,e,c,_⟩:=aA.dctI_inv h.2 (vg ps)
 grind
end
inductive eT where
 |nx (ρ:af)|rt (d:D) (ρ:af)|st
noncomputable def ag.bb{α:Type}:ag α->(α->eT)->eT
 | .ok a,f=>f a
 |_,_=>.st
@[simp] def x6(a:α)(f:α->eT):(ag.ok a).bb f=f a:=bF rfl
noncomputable def aC.ob:aC->eT
 | .nx ρ=>.nx ρ
 |_=>.st
noncomputable def eT.sq:eT->(af->eT)->eT
 | .nx ρ,f=>f ρ
 |o,_=>o
def x8(Z:L2.St)(v a:V):Prop:=Z[1]? =some (some v)/\Z[3]? =some (some a)
def oe(K:aB)(G:eK)(τ:List (V×D))(a b:V)(o:eT)(e:Ends):Prop:=match o with
 | .nx ρ=>∀Z H lab,RR K G τ ρ Z H lab->x8 Z a b->e.nx Z H
 | .rt d ρ=>∀v Z H lab,RR K G τ ρ Z H lab->x8 Z a b->aA K (λ _=>True) H v d->e.rt v H
 | .st=>False
theorem oe.bb{K:aB}{G:eK}{r:ag α}{g:α->eT}(h:oe K G τ v1 v3 (r.bb g) De):iv G r (λ a=>oe K G τ v1 v3 (g a) De):=by
 cases r with
 |ok a=>assumption
 |ex c=>exact aV h
 |st=>assumption
def O7(K:aB)(G:eK)(t:hL)(f:af->eT):Prop:=∀τ Z H ρ lab (D:Ends) v1 v3,RR K G τ ρ Z H lab->x8 Z v1 v3->oe K G τ v1 v3 (f ρ) D->t D Z H
def sF(C:bB)(s:Stmt)(f:af->eT):Prop:=∃t,(∀i,iN (C.X i) s t)/\O7 C.K C.G t f
def og(C:bB)(s:List Stmt)(f:af->eT):Prop:=∃t,(∀i,lh (C.X i) s t)/\O7 C.K C.G t f
def jm(f g:af->eT):af->eT:=λ ρ=>(f ρ).sq g
noncomputable def oh(fe:af->ag D):af->eT:=λ ρ=>(fe ρ).bb λ d=>.rt d ρ
noncomputable def x9(c:af->ag Bool)(f g:af->eT):af->eT:=λ ρ=>(c ρ).bb λ b=>if b=true then f ρ else g ρ
def kb(i:Nat)(fk fe:af->ag D):af->eT:=λ ρ=>(n9 i fk fe ρ).ob
noncomputable def lH(fg:D->af->ag af)(b:af->eT):List D->af->eT
 |[],ρ=>.nx ρ
 |d::ds,ρ=>match fg d ρ with
  | .ok a=>match b a with
   | .nx ρ2=>lH fg b ds ρ2
   |o=>o
  |_=>.st
noncomputable def ya(fi:af->ag (List D))(fg:D->af->ag af)(b:af->eT):af->eT:=λ ρ=>(fi ρ).bb λ ds=>lH fg b ds ρ
section
variable{C:bB}{pos l p:Pos}{s:Stmt}{E:List Stmt}{f g:af->eT}{e F:Expr}{m I:Mode}{fe fk:af->ag D}{x:Str}
def XR:og C [] .nx:=⟨_,λ _=>EB,λ τ Z H ρ lab D v a R k W=>W Z H _ R k⟩
def BU(h:sF C s f):og C [s] f:=let⟨t,h1,h2⟩:=h;⟨t,λ i=>Ll (h1 i),h2⟩
def Gv(h:sF C s f)(c:og C E g):og C (s::E) (jm f g):=by
 obtain⟨t,e,j⟩:=h;obtain⟨u,k1,k2⟩:=c;refine⟨_,λ i=>Lk (e i) (k1 i),λ τ Z H ρ lab D v b R k W=>j τ Z H ρ _ _ v b R k ?_⟩;unfold jm at W;cases h:f ρ with
 |nx a=>rw[h]at W;exact λ o H' l m n=>k2 τ _ H' a l D v b m n W
 |rt d a=>rw[h]at W;assumption
 |st=>rw[h]at W;exact W
def O8(h:aF C m e fe)(a:∀ρ d,fe ρ= .ok d->flat d=true):sF C (.Return (some e) pos) (oh fe):=by
 obtain⟨t,b,c⟩:=h;refine⟨_,λ i=>Lm (b i),λ τ Z H ρ lab D g j R k W=>c τ Z H ρ _ _ R (oe.bb W |>.imp λ d f w v H' s r=>?_)⟩;exact w v Z H' _ (R.up s) k (r.flat (a ρ d f))
def XS{a b:List Stmt}{c:Expr}{d:af->ag Bool}(j:gp C c d)(l:og C a f)(m:og C b g):sF C (.If c a b pos) (x9 d f g):=by
 obtain⟨x,n,o⟩:=j;obtain⟨t,p,r⟩:=l;obtain⟨u,k1,k2⟩:=m;refine⟨_,λ i=>EC (n i) (p i) (k1 i),λ τ Z H ρ lab D v e R k W=>o τ Z H ρ _ _ R (oe.bb W |>.imp λ q _ w h s=>?_)⟩;cases q with
 |true=>exact r τ Z h ρ _ D v e (R.up s) k w
 |false=>exact k2 τ Z h ρ lab D v e (R.up s) k w
def O9(i:Nat)(n:aF C I F fk)(Q:aF C m e fe)(S:r9 m=true:=by rfl)(T:∀j,(C.X j).N[i]? =some x:=by z_go)(U:∀j,hI (C.X j).env.scope x:=by x_go)(V:Nd x:=by decide)
  (w:(x==("__classdict__":Str))=false:=by decide)(D:∀j,i8 e (some (.Subscript (.Name x p) F l)) pos.line (C.X j).env=pure false:=by z_go):
  sF C (.Assign [.Subscript (.Name x p) F l] e pos) (kb i fk fe):=by
 obtain⟨X,k1,k2⟩:=n;obtain⟨Y,e1,e2⟩:=Q;refine⟨E5 (g8 i) X Y,λ j=>Mo (by have:=(C.room j).un;lia) (iO (T j) (U j) V w) (k1 j) (e1 j) (D j),λ τ Z H ρ lab De v1 v3 R kp W=>?_⟩;unfold kb n9 at W;cases es:ρ[i]? with
 |none=>rw[es]at W;exact aV W
 |some s=>
  rw[es]at W;split at W
  .rename_i c D
   cases D;rcases R.sl i _ es with z|⟨v,O,E⟩
   .cases z
   .obtain⟨G,t⟩:=E
    cases f:fe ρ with
    |ex z=>rw[f]at W;exact aV W
    |st=>rw[f]at W;exact aV W
    |ok d=>
    rw[f,cv]at W;refine e2 τ Z H ρ lab _ R ?_;rw[f];intro y H2 s2 r2;refine⟨v,O,?_⟩;cases a:fk ρ with
    |ex z=>rw[a]at W;exact aV W
    |st=>rw[a]at W;exact aV W
    |ok k=>
    rw[a,cv]at W;refine k2 τ Z H2 ρ lab _ (R.up s2) ?_;rw[a];intro kv J s3 r3;cases K:kL c k with
    |none=>rw[K]at W;exact aV W
    |some q=>
     obtain⟨ps,j⟩:=q;rw[K]at W;dsimp only at W;obtain⟨ks,vs,rfl,rfl,ah⟩:=OM K;obtain⟨b,L,M⟩:=t rfl;subst L;have ey:=r3.int_inv;subst ey;obtain⟨a1,g,ea,h,mm,r,n⟩:=G.dctI_inv ah;cases ea;by_cases hz:ps.length<aQ
     .rw[if_pos hz]at W
      have kX:g.length=ps.length:=by have:=congrArg qc n;simpa using this
      have N:J b=some (.dK g):=(s2.trans s3) _ _ h;refine⟨b,_,rfl,uI.k (k:=.inl j) (v:=y) N (by rw[kX];exact hz),?_⟩;obtain⟨R',r'⟩:=R.fresh (P:=λ k=>k=1) rfl (λ k n=>beq_iff_eq.mp (pa S k n)) s2 r2;have u:(fF H 1 lab b).1=i+2:=by rw[ib h];exact M
      have B:gz b J (bt J b (.dK (putK g (.inl j) y))):=λ b' o ne hb=>by rw[cp ne];exact hb
      obtain⟨q1,q2⟩:=BR (i:=j) (A:=λ p=>((fF H 1 lab p).1=1\/(fF H 1 lab p).1=i+2)/\p≠b) (r.mono (s2.trans s3) λ p o e z=>⟨by rw[ib e];exact z.1,z.2⟩) n ((r'.up s3).wk λ p o e z=>⟨.inl z,λ q=>by subst q;rw[u]at z;lia⟩);exact W Z _ _ ((R'.up s3).mut O N rfl u B ⟨vi dQ (.inr u) (q1.but B N rfl λ z=>z.2 rfl) q2,λ _=>⟨b,rfl,u⟩⟩) kp
     .rw[if_neg hz]at W
      exact aV W
  .exact aV W
def XT{L:Expr}{ks:List Nat}{fi:af->ag (List D)}{fg:D->af->ag af}(Q:kF C L e fi)(V:lB C L ks fg)(X:og C E f)(M:1∉ks:=by decide)(N:3∉ks:=by decide)(Y:∀i,∀x,kn e (C.X i).env x=pure x:=by intro _ _;rfl):sF C (.For L e E [] pos) (ya fi fg f):=by
 obtain⟨wi,i1,dg⟩:=Q;obtain⟨gg,g1,g2,g3,g4⟩:=V;obtain⟨tb,b1,b2⟩:=X;refine⟨_,λ i=>Lx (C.own i) (C.calm i) (i1 i) (g1 i) (b1 i) (Y i),λ τ Z H ρ lab S p r R kp W=>dg τ Z H ρ lab _ R (oe.bb W |>.imp λ ds _ w J F s g s1 _ u jl=>?_)⟩;refine⟨λ i n y H'=>∃h l,RR C.K C.G (g++τ) h y H' l/\x8 y p r/\n=ds.length-i/\i<=ds.length/\oe C.K C.G τ p r (lH fg f (ds.drop i) h) S,⟨ds.length,ρ,s,u,kp,by lia,by lia,w⟩,?_⟩;rintro i n y H' ⟨h,l,A,k,rfl,Q,b⟩;have T:=jl l H' λ q hq=>A.tm q (eW _ hq)
 by_cases t:i<ds.length
 .obtain⟨go,yl⟩:=(T i).2 t
  refine .inr ⟨go,λ o m=>∃ρ2 a,RR C.K C.G (g++τ) ρ2 o m a/\x8 o p r/\oe C.K C.G τ p r (lH fg f (ds.drop (i+1)) ρ2) S,λ o m ⟨ρ2,a,bA,B,w2⟩=>⟨ds.length-(i+1),by lia,ρ2,a,bA,B,rfl,t,w2⟩,λ x m hy=>?_⟩;obtain⟨s2,d,ed,rx⟩:=yl x m hy;replace A:=A.up s2;have O:ds.drop i=d::ds.drop (i+1):=by
   rw[tH t]
   have:=bP t
   rw[ed]at this;cases this;rfl
  rw[O]at b;unfold lH at b;cases I:fg d h with
  |ex c=>rw[I]at b;exact aV b
  |st=>rw[I]at b;exact aV b
  |ok j=>
   rw[I]at b;have G:=g2 (g++τ) x d y m h l (λ K F=>RR C.K C.G (g++τ) j K m l/\F=m) j A rx I λ K u=>⟨u,rfl⟩
   refine g4 _ _ _ _ _ (λ K F z=>?_) (g3 _ _ _ _ G);obtain⟨⟨u,e⟩,_,fr⟩:=z;subst e;refine b2 (g++τ) K F j l _ p r u ⟨(fr 1 M).trans k.1,(fr 3 N).trans k.2⟩ ?_;dsimp only at b;cases P:f j with
   |nx ρ2=>rw[P]at b;exact λ o U a bA B=>⟨ρ2,a,bA,B,b⟩
   |rt d ρ2=>rw[P]at b;exact λ v o U a bA B=>b v o U a bA.drop B
   |st=>rw[P]at b;exact b
 .have e:i=ds.length:=by lia
  subst e;rw[tL]at b;exact .inl ⟨(T _).1 (bJ _),b y H' l A.drop k⟩
end
abbrev gB:=D->List (Int×D)->D->List (Int×D)->Option (Bool×List (Int×D)×List (Int×D))
def oj(K:aB)(F:gB):lq:=λ vs H Q _=>∃(v d:V) (a b:Addr) (e f:D) (c t:List (Int×D)) (r:Bool) (g t':List (Int×D)),vs=[v,.ref a,d,.ref b]/\a≠b/\aA K (λ p=>p≠a/\p≠b) H v e/\aA K (λ p=>p≠a/\p≠b) H d f/\gU K H a c/\gU K H b t/\F e c f t=some (r,g,t')/\
 ∀H',(∀p o,p≠a->p≠b->H p=some o->H' p=some o)->gU K H' a g->gU K H' b t'->Q (.bl r) H'
noncomputable def jn:Option Slot->Option (List (Int×D))
 |some (.ow (.dct ks vs))=>iD ks vs
 |_=>none
def yb(h:jn s=some ps):s=some (.ow (bL ps)):=by
 unfold jn at h;split at h
 .obtain⟨a,b⟩:=Gh h
  subst a b;rfl
 simp_all
noncomputable def startB(n:Nat)(d:D)(c:List (Int×D))(a:D)(t:List (Int×D)):af:=[.sh d,.ow (bL c),.sh a,.ow (bL t)]++cG (n-4) .no
noncomputable def vn(r:Bool)(ρ:af):Option (Bool×List (Int×D)×List (Int×D)):=match jn ρ[1]?,jn ρ[3]? with
 |some c,some t=>if flats c=true/\flats t=true then some (r,c,t)else none
 |_,_=>none
def XU(h:vn r ρ=some (r',c,t)):r=r'/\ρ[1]? =some (.ow (bL c))/\ρ[3]? =some (.ow (bL t))/\flats c=true/\flats t=true:=by
 unfold vn at h;split at h
 .rename_i b d e a
  split at h
  .rename_i f
   cases h;exact⟨rfl,yb e,yb a,f⟩
  .cases h
 .cases h
noncomputable def yc(n:Nat)(f:af->eT):gB:=λ d c a t=>match f (startB n d c a t)with
 | .rt (.bl r) ρ=>vn r ρ
 |_=>none
abbrev Pa(P:bD)(w:World)(K:aB)(mg:Str->Option Value)(base:Heap)(N:List Str)(q:Str)(a:Scope)(f:Addr)(c:Value)(A:cg)(o:List Env)(s:ax)(H b:au)(E:gj)(k:Nat)(hr:gS k (A.deeper (jT q a s.heap.objs.size f c))):bB where
 ι:=Unit
 X:=λ _=>o4 (eZ P w) P w K mg base N q a f c A o s H E
 prog:=P
 w:=w
 K:=K
 mg:=mg
 base:=base
 k:=k
 G:=⟨b,E,eN mg⟩
 cx:=λ _=>⟨rfl,rfl,rfl,rfl,rfl⟩
 calm:=λ _=>rfl
 room:=λ _=>hr
 own:=λ _=>ia.own ia.of
 pass:=λ _=>ia.pass ia.of
 dOk:=true
 dcx:=λ _ _=>ia.of
def XW{P:bD}{w:World}{K:aB}{st:Stmt}{F:gB}(D:cy K mg q st ps fn fd)(S:cq N ps (bU st))(Y:N.Nodup->∀h A g s H Hb E hr,og (Pa P w K mg base N q (bU st) fn h A g s H Hb E k hr) (lr st) f)(hn:ps.length=4:=by rfl)(hN:4<=N.length:=by decide)(hF:yc N.length f=F:=by rfl):
  gb P w K mg base (eZ P w) (k+1) fn fd ps (oj K F):=by
 subst hF;refine D.F.okX S (λ vs H Q E z=>by obtain⟨m,n,a,b,B,C,c,t,r,c',t',e,_⟩:=z;rw[e,hn];rfl) λ h A g s H vs Q E hr z=>?_
 obtain⟨m,n,a,b,B,C,c,t,r,c',t',e,ne,r0,r2,ba,bb,W,q⟩:=z;subst e;obtain⟨u,x,y⟩:=Y S.nd h A g s H (λ p=>if p=a\/p=b then none else H p) E hr;let lab:kD:=λ p=>if p=a then(3,0)else if p=b then(5,0)else(0,0)
 have L:lab a=(3,0):=if_pos rfl;have M:lab b=(5,0):=by show(if b=a then((3,0):Nat×Nat)else if b=b then(5,0)else(0,0))=_;rw[if_neg (ir ne),if_pos rfl]
 have G:∀{p},p≠a->p≠b->lab p=(0,0):=λ{p} x y=>by show(if p=a then((3,0):Nat×Nat)else if p=b then(5,0)else(0,0))=_;rw[if_neg x,if_neg y]
 have R:RR K ⟨λ p=>if p=a\/p=b then none else H p,E,eN mg⟩ [] (startB N.length B c C t) (start N [m,.ref a,n,.ref b]) H lab:=by
  refine⟨?_,λ i s e=>?_,λ p o ah=>?_,λ p ah=>?_,λ q hq=>by cases hq⟩
  .unfold startB L2.start;simp
  .unfold startB at e
   have st:∀j:Nat,j<4->(start N [m,.ref a,n,.ref b])[j]? =([some m,some (.ref a),some n,some (.ref b)]:List (Option V))[j]?:=λ j hj=>by
    unfold L2.start;rw[ry (by simpa using hj)];rfl
   match i,e with
   |0,e=>cases e;exact .inr ⟨m,(st 0 (by decide)).trans rfl,r0.wk λ p o _ z=>by rw[G z.1 z.2];exact dI _⟩
   |1,e=>cases e;exact .inr ⟨.ref a,(st 1 (by decide)).trans rfl,ba.rp (.inr (by rw[L])),λ _=>⟨a,rfl,by rw[L]⟩⟩
   |2,e=>cases e;exact .inr ⟨n,(st 2 (by decide)).trans rfl,r2.wk λ p o _ z=>by rw[G z.1 z.2];exact dI _⟩
   |3,e=>cases e;exact .inr ⟨.ref b,(st 3 (by decide)).trans rfl,bb.rp (.inr (by rw[M])),λ _=>⟨b,rfl,by rw[M]⟩⟩
   |i+4,e=>
    rw[zw (by simp),tI]at e;split at e
    .cases e;exact .inl rfl
    .cases e
  .dsimp only at ah
   split at ah
   .cases ah
   .exact ah
  .cb_eq
   by_cases O:p=a
   .rw[if_pos (.inl O)]
   .by_cases T:p=b
    .rw[if_pos (.inr T)]
    .rw[G O T]at ah;exact absurd rfl ah
 refine⟨u,x (),y [] _ H _ lab _ (.ref a) (.ref b) R ⟨rfl,rfl⟩ ?_⟩;unfold yc at W;cases e:f (startB N.length B c C t)with
 |nx ρ=>rw[e]at W;cases W
 |st=>rw[e]at W;cases W
 |rt d ρ=>
  rw[e]at W;cases d with
  |bl r1=>
   dsimp only at W;obtain⟨rfl,e1,e3,f1,f3⟩:=XU W;intro v Z H' U I X rv;have l:=rv.bl_inv;subst l;refine q H' (λ p o x y ah=>I.old p o (by cb_eq;rw[if_neg (by simp[x,y])];exact ah)) ?_ ?_
   .rcases I.sl 1 _ e1 with z|⟨v,l,J⟩
    .cases z
    .rw[X.1]at l
     cases l;exact gU.of J.1 f1 rfl
   .rcases I.sl 3 _ e3 with z|⟨v,l,J⟩
    .cases z
    .rw[X.2]at l
     cases l;exact gU.of J.1 f3 rfl
  |_=>cases W
noncomputable def nr(F:gB)(f:af->ag D):af->Option (Bool×af):=λ ρ=>match (ρ[0]? :Option Slot),jn ρ[1]?,f ρ,jn ρ[3]? with
 |some (.sh a),some c,.ok d,some t=>if flats c=true/\flats t=true/\flat d=true then(F a c d t).map λ q=>(q.1,(ρ.set 1 (.ow (bL q.2.1))).set 3 (.ow (bL q.2.2)))else none
 |_,_,_,_=>none
def XX{K:aB}{G:eK}{F:gB}{O:af->ag D}{P:bw}(h:eO K G m P O):∀τ Z H ρ lab (Q:bC),RR K G τ ρ Z H lab->(∃r d,nr F O ρ=some (r,d)/\∀H' l,RR K G τ d Z H' l->Q (.bl r) H')->ur (oj K F) [] G.E (gm (g8 0) (gm (g8 1) (gm P (gm (g8 3) jX)))) Z H Q:=by
 intro τ Z H ρ lab Q R ⟨r,d,e,w⟩;unfold nr at e;split at e
 .rename_i k c S t Y e1 e2 e3
  split at e
  .rename_i n
   cases u:F k c S t with
   |none=>rw[u]at e;cases e
   |some q=>
    obtain⟨r',x,t'⟩:=q;rw[u]at e;cases e;have A:=yb e1;have B:=yb e3;rcases R.sl 0 _ Y with z|⟨C,E,h0⟩
    .cases z
    rcases R.sl 1 _ A with z|⟨v1,v,h1,t1⟩
    .cases z
    rcases R.sl 3 _ B with z|⟨v3,f,h3,t3⟩
    .cases z
    obtain⟨a,rfl,I⟩:=t1 rfl;obtain⟨b,rfl,J⟩:=t3 rfl;have T:a≠b:=λ z=>by subst z;lia
    have L:aA K (λ p=>(lab p).1<=1) H C k:=h0;refine⟨C,E,.ref a,v,h τ Z H ρ lab _ R ?_⟩;rw[e2];intro y g s r1;refine⟨.ref b,f,?_⟩;have U:gU K g a c:=gU.of (h1.up s) n.1 rfl;have V:gU K g b t:=gU.of (h3.up s) n.2.1 rfl;refine⟨C,y,a,b,k,S,c,t,r',x,t',rfl,T,(L.up s).wk λ p o _ z=>⟨λ q=>by subst q;lia,λ q=>by subst q;lia⟩,r1.flat n.2.2,U,V,u,λ H' ch W C3=>?_⟩;obtain⟨k1,a1⟩:=U.at;obtain⟨k3,a3⟩:=V.at;have R1:=R.up s;let i:au:=λ p=>if p=b then g b else H' p
    have X:i b=g b:=if_pos rfl;have M:∀{p},p≠b->i p=H' p:=λ{p} z=>if_neg z
    have N:gU K i a x:=gU.of W.2 W.1 (M T);have bA:=R1.mut (H':=i) (s':=.ow (bL x)) v a1 rfl I (λ p o z ah=>by
     by_cases j:p=b
     .rw[j,X,<-j];exact ah
     .rw[M j];exact ch p o z j ah) ⟨N.rp (.inr I),λ _=>⟨a,rfl,I⟩⟩
    have R3:=bA.mut (H':=H') (s':=.ow (bL t')) f (X.trans a3) rfl J (λ p o z ah=>by rw[M z]at ah;exact ah) ⟨C3.rp (.inr J),λ _=>⟨b,rfl,J⟩⟩;exact w H' lab R3
  .cases e
 .cases e
noncomputable def qZ(c:af->ag Bool)(b:af->Option (Bool×af))(f:af->eT):af->eT:=λ ρ=>(c ρ).bb λ q=>if q=true then f ρ else match b ρ with
 |some (true,a)=>f a
 |some (false,a)=>.nx a
 |none=>.st
section
variable{C:bB}{pos p l h d:Pos}{s:List Stmt}{f:af->eT}{e:Expr}{m:Mode}{n:af->ag D}{x g b a:Str}{F:gB}{q:af->ag Bool}{c:Expr}{k:Nat}{fn:Addr}{o:bO}{ps:List Str}
def XY{st:Stmt}{bp G:Pos}(hF:gb C.prog C.w C.K C.mg C.base (eZ C.prog C.w) k fn o ps (oj C.K F))(D:cy C.K C.mg x st ps fn o)(hc:gp C c q)(hx:aF C m e n)(hb:og C s f)(hr:k<=C.k:=by exact zR rfl)
  (N:∀j,(C.X j).N[0]? =some g:=by z_go)(I:∀j,(C.X j).N[1]? =some b:=by z_go)(J:∀j,(C.X j).N[3]? =some a:=by z_go)
  (K:∀j,hI (C.X j).env.scope g:=by x_go)(L:∀j,hI (C.X j).env.scope b:=by x_go)(M:∀j,hI (C.X j).env.scope a:=by x_go)
  (O:Nd g:=by decide)(P:Nd b:=by decide)(Q:Nd a:=by decide)(S:(g==("__classdict__":Str))=false:=by decide)(T:(b==("__classdict__":Str))=false:=by decide)(U:(a==("__classdict__":Str))=false:=by decide)
  (hg:∀i,dA (C.X i) x:=by z_go)(V:Nd x:=by decide)
  (B:∀i,bf [.Name g l,.Name b h,e,.Name a d] (C.X i).env=(false,eval (.Name g l) (C.X i).env)::bf [.Name b h,e,.Name a d] (C.X i).env:=by z_go)
  (X:∀i,bf [.Name b h,e,.Name a d] (C.X i).env=(false,eval (.Name b h) (C.X i).env)::bf [e,.Name a d] (C.X i).env:=by z_go)
  (Y:∀i,bf [e,.Name a d] (C.X i).env=(false,eval e (C.X i).env)::bf [.Name a d] (C.X i).env:=by z_go)
  (he3:∀i,bf [.Name a d] (C.X i).env=(false,eval (.Name a d) (C.X i).env)::bf [] (C.X i).env:=by z_go)
  (hpl:∀i,(fW G (bf [.Name b h,e,.Name a d] (C.X i).env)).any (·.1)=false:=by z_go)
  (ht:∀i u,isTrue (.Call (.Name x p) [.Name g l,.Name b h,e,.Name a d] [] G) (C.X i).env u=(do let v <-u;oT (Expr.Call (.Name x p) [.Name g l,.Name b h,e,.Name a d] [] G).pos;ju [v] (truthy v)):=by intro _ _;rfl):
  sF C (.If (.BoolOp .Or [c,.Call (.Name x p) [.Name g l,.Name b h,e,.Name a d] [] G] bp) s [] pos) (qZ q (nr F n) f):=by
 obtain⟨tc,c1,c2⟩:=hc;obtain⟨tx,x1',x2⟩:=hx;obtain⟨t,h1,h2⟩:=hb;refine⟨Ln (Lg tc (Lf (ur (oj C.K F) [] C.G.E (gm (g8 0) (gm (g8 1) (gm tx (gm (g8 3) jX))))))) t Lj,λ i=>?_,λ τ Z H ρ lab De v1 v3 R kp W=>?_⟩
 .obtain⟨e1,e2,e3,e4,e5⟩:=C.cx i
  refine EC (Li (c1 i) (Lh (Rp ?_ (ht i)))).pt (h1 i) EB;exact EM (CX:=eZ (C.X i).prog (C.X i).w) (by rw[e1,e2,e3,e4,e5];exact hF) ((C.room i).mono hr) (hg i) (by rw[e4];exact D.m) (by rw[e3];exact D.F.kp) (by rw[e3];exact D.b) .nil (C.pass i) (g9 (iO (N i) (K i) O S) (g9 (iO (I i) (L i) P T) (g9 (x1' i) (g9 (iO (J i) (M i) Q U) kB (he3 i)) (Y i)) (X i)) (B i)) V (B i) (hpl i)
 .refine c2 τ Z H ρ lab _ R (oe.bb W |>.imp λ z _ w H1 s1=>?_)
  cases z with
  |true=>
   rw[if_pos rfl]at w ⊢;show t De Z H1;exact h2 τ Z H1 ρ lab De v1 v3 (R.up s1) kp w
  |false=>
   rw[if_neg gh]at w ⊢;cases A:nr F n ρ with
   |none=>rw[A]at w;exact aV w
   |some rr=>
    obtain⟨r,E⟩:=rr;rw[A]at w;refine XX x2 τ Z H1 ρ lab _ (R.up s1) ⟨r,E,A,λ H' y R'=>⟨r,rfl,?_⟩⟩;cases r with
    |true=>rw[if_pos rfl];exact h2 τ Z H' E y De v1 v3 R' kp w
    |false=>rw[if_neg gh];exact w Z H' y R' kp
end
def q0(h:Heap)(d:Addr)(o:Obj)(es:Array ud)(ep:Nat):Prop:=h.get? d=some o/\o.ExactDict/\o.data= .dict es ep
section
variable{prog:bD}{w:World}{A:cg}{E:Value->ax->Prop}{s:ax}{d v c:Addr}{o:Obj}{es:Array ud}{ep i:Nat}{ok:Value}
def q0.ty(r:q0 s.heap d o es ep):s.TypeIs (.ref d) "dict":=⟨o,r.1,r.2.1.1⟩
def XZ(h:(d==iI)=false):MeetsIn prog w (hY.«dict.values» ⟨[.ref d],[]⟩) (λ _ R s=>(∃o es ep,q0 s.heap d o es ep)/\R (.ok (.ret (.ref s.heap.objs.size))) {s with heap:=s.heap.push {cls:=.type "dict_values",data:=.fields #[.ref d]}}):=by
 refine .of_wp λ A R s ⟨⟨o,es,ep,r⟩,q⟩=>?_
 refine av ?_;refine av (J0 r.ty ?_);refine aL (?_);unfold Builtin.Dict.showsAll;rw[h];exact av (aL (av (hG (aL ⟨_,rfl,q⟩))))
def X0{Q:Value->ax->Prop}(x:s.heap.IsValuesView v d)(r:q0 s.heap d o es ep)
  (q:Q (.ref s.heap.objs.size) {s with heap:=s.heap.push {cls:=.type "dict_valueiterator",data:=.fields #[.ref d,.int 0 0,.int es.size 0,.int ep 0]}}):wpAny (model prog w) A (oU (.ref v)) Q E s:=by
 obtain⟨e,a,f,b⟩:=id x;refine DE x.typeIs Kx (jU Kx x.typeIs F.entry_dict_values_iter ?_ (F.args_dict_values_iter_1 _));refine av (aL (av (av (lW a b rfl (aL (av (av (DD r.1 r.2.2 (av (DL r.1 r.2.2 ?_))))))))));have c:D4 "dict_valueiterator"=false:=by decide
 simp only[c,jr,if_false];refine hG (aL ⟨_,rfl,_,_,⟨_,dy _ rfl,rfl⟩,wL.lookup,?_⟩);assumption
def X1{Q:Option Value->ax->Prop}(t:s.heap.IsValIter c d i es.size ep)(r:q0 s.heap d o es ep)(h:i<es.size)
  (q:∀h',h'.IsValIter c d (i+1) es.size ep->qu c s.heap h'->Q (some es[i].val) {s with heap:=h'}):wpAny (model prog w) A (jv (.ref c)) Q E s:=by
 obtain⟨u,b,e,a⟩:=id t;have ty:=t.typeIs;unfold jv;refine av (wB (nJ (name:=nO "__next__") ty wL (jU wL ty Kk ?_ (Ki _))));refine av (aL (av (av ?_)))
 first|refine av (Aa ty (aL (av (ua b a ?_))))|refine av (Ab ty (aL (av (ua b a ?_))))
 have f:D4 "dict_valueiterator"=false:=by decide
 simp only[f,jr,if_false];show wpAny _ _ (if (fX d==fE)=true then _ else _) _ _ s;rw[if_neg (show¬(fX d==fE)=true from gh)];refine av (aL (av (DD r.1 r.2.2 ?_)));rw[if_neg (by simp)];refine av (aL (av (DL r.1 r.2.2 ?_)));rw[if_neg (by simp)];refine aL ?_;simp only[show¬((i:Int)<0)by lia,if_false,kT,ro h];refine av ?_
 first|refine av (Aa ty (aL (av (Ac ty ?_))))|refine av (Ab ty (aL (av (Ac ty ?_))))
 show wpAny _ _ (setField (.ref c) 1 (lY ((i:Int)+1))>>=_) _ _ s;refine av (rG b a (by simp) ?_);have t':(s.heap.update c (Ax (·.setIfInBounds 1 (lY ((i:Int)+1))))).IsValIter c d (i+1) es.size ep:=
  ⟨_,wN _ b (Ei (wQ a _)),(KF ..).trans e,by rw[wQ a];simp[lY]⟩
 generalize g:s.heap.update c (Ax (·.setIfInBounds 1 (lY ((i:Int)+1))))=h' at t';have j:qu c s.heap h':=g▸nM ..;have y:wX {s with heap:=h'} (.ref c) "dict_valueiterator":=t'.typeIs;refine av (jt (av (Ac y (av (Ac y ?_)))));exact aL (aL ⟨_,rfl,aL (q h' t' j)⟩)
def X2{Q:Option Value->ax->Prop}(h:A.handled=none)(t:s.heap.IsValIter c d i es.size ep)(r:q0 s.heap d o es ep)(g:es.size<=i)
  (q:∀h',Eh c s.heap h'->Q none {s with heap:=h'}):wpAny (model prog w) A (jv (.ref c)) Q E s:=by
 obtain⟨u,e,k,f⟩:=id t;have ty:=t.typeIs;unfold jv;refine av (wB (nJ (name:=nO "__next__") ty wL (jU wL ty Kk ?_ (Ki _))));refine av (aL (av (av ?_)))
 first|refine av (Aa ty (aL (av (ua e f ?_))))|refine av (Ab ty (aL (av (ua e f ?_))))
 have j:D4 "dict_valueiterator"=false:=by decide
 simp only[j,jr,if_false];show wpAny _ _ (if (fX d==fE)=true then _ else _) _ _ s;rw[if_neg (show¬(fX d==fE)=true from gh)];refine av (aL (av (DD r.1 r.2.2 ?_)));rw[if_neg (by simp)];refine av (aL (av (DL r.1 r.2.2 ?_)));rw[if_neg (by simp)];refine aL ?_;simp only[show¬((i:Int)<0)by lia,if_false,kT,CU g];refine av ?_
 first|refine av (Aa ty (aL (?_:wpAny _ _ (setField (.ref c) 0 .none>>=_) _ _ s)))|refine av (Ab ty (aL (?_:wpAny _ _ (setField (.ref c) 0 .none>>=_) _ _ s)))
 refine av (rG e f (by simp) ?_);show wpAny _ _ (uf (.type "StopIteration") []>>=_) _ _ _;refine av ?_;simp only[uf,newTuple];refine av (hG (av (m:=tZ _ _) (wD (a:=fE) (by first|rfl|(simp only[tZ];rfl)) (hG ?_ (by size_fits)))) (by size_fits));simp only[raiseNew];refine av (DW ?_);rw[show A.in1.handled=none from h];refine av (aL (D0 ?_));refine av (Af (T:="StopIteration") (b:=true) ⟨_,dy _ rfl,rfl⟩ DN (aL (q _ ?_)));exact((nM ..).extBut.push _).push _
end
def X3{s:ax}{a:Addr}{o:Obj}{t:Array ud}{ep:Nat}(r:q0 s.heap a o t ep):∀b,fX a= .ref b->∃ob,s.heap.get? b=some ob/\ob.dict=none:=λ b e=>by cases e;exact⟨o,r.1,r.2.1.2.1⟩
noncomputable def Gw(a:Addr)(ep:Nat)(l:aJ):kA:=
 ⟨λ i H=>i<l.length/\oa H a ep l,λ i H x H'=>∃q,x= .int q.2/\H'=H/\l[i]? =some q,λ i H=>l.length<=i/\oa H a ep l⟩
def Gx{X:aZ}{k:bZ}{Z:L2.St}{H:au}{s:ax}{a:Addr}(I:Inv X k Z H s)(h:oa H a ep l):∃o b,q0 s.heap a o b ep/\(a==iI)=false/\b.size=l.length/\∀(i:Nat) q,l[i]? =some q->∃e t,b[i]? =some e/\e.val= .int q.2 t:=by
 obtain⟨vs,r,p,⟨o,b,d,f,g,_,c,_⟩,y⟩:=BS I h;refine⟨o,b,⟨d,f,g⟩,y,?_,λ i q j=>?_⟩
 .have:=c.length
  grind
 .obtain⟨t,m⟩:=Gs r j
  have n:i<b.size:=by
   have u:=c.length
   grind
  exact⟨b[i],t,by simp_all,(c.get? (by simp[n]) m).2⟩
def X4{P:bD}{w:World}{K:aB}{O:Expr}(a f:Addr)(ep:Nat)(l:aJ)(R:a≠f):Turn P w K O (Gw a ep l) [f] f (λ i h=>h.IsValIter f a i l.length ep) where
 mem:=by simp
 obj:=λ i h st b j=>by
  have e:b=f:=by simpa using j
  subst e;obtain⟨o,e,c,d⟩:=st;exact⟨o,e,λ v z=>by rw[d]at z;cases z⟩
 keep:=λ i h h' st k=>st.at λ o e=>k f (by simp) o e
 item:=by
  intro X p u hK G i Q s Z H E I n st x;subst p u hK;obtain⟨y,hz⟩:=x;obtain⟨o,J,r,_,hsz,g⟩:=Gx I hz;obtain⟨q,L⟩:∃q,l[i]? =some q:=⟨l[i],by simp[y]⟩
  obtain⟨e,t,M,S⟩:=g i q L;have N:i<J.size:=by lia
  rw[ro N]at M;cases M;rw[<-hsz]at st;obtain⟨A,B,T,C,D,F⟩:=n f (by simp);refine X1 st r N λ h' m U=>?_
  have V:Inv X Q Z H {s with heap:=h'}:=I.turned (t':=s.toks) (λ b o j e=>(U.2 b j).trans e) A B C D F;obtain⟨o,e,c,d⟩:=id m;rw[hsz]at m;exact⟨_,rfl,AJ (s:={s with heap:=h'}) e c d (by decide) ⟨.int q.2,H,V,⟨t,S⟩,⟨q,rfl,rfl,L⟩,m,λ b j=>(n b j).1⟩⟩
 done:=by
  intro X p u hK G i Q s Z H E I n st x;subst p u hK;obtain⟨W,hz⟩:=x;obtain⟨o,J,r,_,hsz,g⟩:=Gx I hz;obtain⟨A,B,T,C,D,F⟩:=n f (by simp);rw[<-hsz]at st;exact X2 (I.ok.hd G) st r (by lia) λ h' Y=>⟨rfl,I.turned (t':=s.toks) (λ b o j e=>Y b o j e) A B C D F⟩
 self:=λ _ _ _ _ _ st h=>wpAny_pyIter_valiter st h
def Pb(t:bw):iS:=λ Z H R=>t Z H λ x b=>∃a ep l,x= .ref a/\oa b a ep l/\R (Gw a ep l) b
def X5{X:aZ}{w:Expr}{p c:Pos}{o:Expr}{n:bw}(z:bq X o n)(f:lT o "values" X.env (eval o X.env)=eval o X.env:=by rfl)(i:(p.endLine==c.line)=true:=by rfl):
  lj X w (.Call (.Attribute o "values" p) [] [] c) (Pb n):=by
 intro Q s Z H R I h;refine Dw f i (aX (z Q s Z H _ I h) λ v j ⟨x,A,m,B,a,ep,l,C,hz,q⟩=>?_);subst C;cases B;obtain⟨ob,D,r,y,hsz,_⟩:=Gx m hz;refine⟨"dict","dict.values",Eb,Aw,Ko,r.ty,X3 r,Au rfl (Dx ?_)⟩;refine DY Aw r.ty Kl (Kj _) (XZ y) ⟨⟨ob,D,ep,r⟩,?_⟩;have t:=cb r.1;refine X0 (v:=j.heap.objs.size) (d:=a) ⟨_,dy _ rfl,rfl,rfl⟩ ⟨bM _ r.1,r.2⟩ ?_;have E:∀(k o2:Obj) b u,j.heap.get? b=some u->((j.heap.push k).push o2).get? b=some u:=λ k o2 b u e=>bM _ (bM _ e)
 have g:∀k:Obj,j.heap.objs.size<=(j.heap.push k).objs.size:=λ k=>by rw[k9];exact nG _
 refine⟨_,[_],_,Gw a ep l,A,rfl,m.kept (t':=j.toks) (E _ _),X4 a _ ep l (cC (fq t (g _))),?_,λ b F=>?_,q⟩
 .rw[<-hsz]
  exact⟨_,dy _ rfl,rfl,rfl⟩
 .have e:b=_:=er.mp F
  subst e;exact m.fpOk (g _) (m.hok.fresh (g _))
def BV(f:af->ag D):af->ag (List D):=λ ρ=>(f ρ).bd λ d=>match d with
 | .itm _ l=>.ok (l.map λ p=>.int p.2)
 |_=>.st
section
variable{C:bB}{m:Mode}{o g:Expr}{f:af->ag D}{p c:Pos}
def X6(J:aF C m o f)(b:∀j,lT o "values" (C.X j).env (eval o (C.X j).env)=eval o (C.X j).env:=by z_go)(n:(p.endLine==c.line)=true:=by rfl):
  kF C g (.Call (.Attribute o "values" p) [] [] c) (BV f):=by
 obtain⟨t,K,L⟩:=J;refine⟨Pb t,λ i=>X5 (K i) (b i) n,λ τ Z H ρ lab Q R W=>L τ Z H ρ lab _ R (W.bd.imp λ d _ w x M s r=>?_)⟩;cases d with
 |itm S l=>
  obtain⟨a,rfl,ob,es,ep,E,_,G⟩:=r.itm_inv;have e:=R.up s;refine⟨a,ep,l,rfl,⟨ob,es,E,G⟩,w _ M lab [(.ref a,.itm (some ep) l)] s (λ _ _ _=>rfl) ⟨e.len,e.sl,e.old,e.new,λ z hz=>?_⟩ λ I H' N=>?_⟩
  .rcases b8.mp hz with rfl|hz
   .exact .itm ⟨ob,es,ep,E,.inr rfl,G⟩
   .exact e.tm z hz
  .have z:=N _ (c0 ..)
   obtain⟨T,O,k,u,P,v,h,A⟩:=z.itm_inv;cases O;rcases h with h|h
   .cases h
   .cases h
    have F:oa H' a ep l:=⟨k,u,v,A⟩;refine λ i=>⟨λ B=>⟨by simpa using B,F⟩,λ B=>⟨⟨by simpa using B,F⟩,λ x U y=>?_⟩⟩
    obtain⟨q,rfl,rfl,D⟩:=y;exact⟨aU.refl _,.int q.2,by rw[da,D];rfl,.int _⟩
 |_=>exact aV w
end
noncomputable def vo(a i:Nat)(F:gB)(f:af->ag D):af->aC:=λ ρ=>match (ρ[a]? :Option Slot),jn ρ[i]? with
 |some (.sh b),some c=>(f ρ).bo λ d=>if flats c=true/\flat d=true then(match F b c d []with
  |some (_,e,_)=>.nx (ρ.set i (.ow (bL e)))
  |none=>.st)else .st
 |_,_=>.st
section
variable{C:bB}{pos p l h f n:Pos}{e:Expr}{m:Mode}{r:af->ag D}{x g d:Str}{F:gB}{k:Nat}{fn:Addr}{s:bO}{ps:List Str}
def X7{st:Stmt}(G I:Nat)(t:gb C.prog C.w C.K C.mg C.base (eZ C.prog C.w) k fn s ps (oj C.K F))(D:cy C.K C.mg x st ps fn s)(hx:aF C m e r)(hr:k<=C.k:=by exact zR rfl)
  (N:∀j,(C.X j).N[G]? =some g:=by z_go)(K:∀j,(C.X j).N[I]? =some d:=by z_go)
  (L:∀j,hI (C.X j).env.scope g:=by x_go)(M:∀j,hI (C.X j).env.scope d:=by x_go)
  (O:Nd g:=by decide)(P:Nd d:=by decide)(Q:(g==("__classdict__":Str))=false:=by decide)(S:(d==("__classdict__":Str))=false:=by decide)
  (hg:∀i,dA (C.X i) x:=by z_go)(T:Nd x:=by decide)
  (u:∀i,bf [.Name g l,.Name d h,e,.Dict [] [] f] (C.X i).env=(false,eval (.Name g l) (C.X i).env)::bf [.Name d h,e,.Dict [] [] f] (C.X i).env:=by z_go)
  (U:∀i,bf [.Name d h,e,.Dict [] [] f] (C.X i).env=(false,eval (.Name d h) (C.X i).env)::bf [e,.Dict [] [] f] (C.X i).env:=by z_go)
  (V:∀i,bf [e,.Dict [] [] f] (C.X i).env=(false,eval e (C.X i).env)::bf [.Dict [] [] f] (C.X i).env:=by z_go)
  (X:∀i,bf [.Dict [] [] f] (C.X i).env=(false,eval (.Dict [] [] f) (C.X i).env)::bf [] (C.X i).env:=by z_go)
  (hpl:∀i,(fW n (bf [.Name d h,e,.Dict [] [] f] (C.X i).env)).any (·.1)=false:=by z_go)
  (Y:∀j,i8 (.Call (.Name x p) [.Name g l,.Name d h,e,.Dict [] [] f] [] n) none pos.line (C.X j).env=pure false:=by z_go):
  hB C (.Expr (.Call (.Name x p) [.Name g l,.Name d h,e,.Dict [] [] f] [] n) pos) (vo G I F r):=by
 obtain⟨tx,x1',x2⟩:=hx;refine⟨rN (ur (oj C.K F) [] C.G.E (gm (g8 G) (gm (g8 I) (gm tx (gm Mp jX))))),λ i=>?_,λ τ Z H ρ lab De R W=>?_⟩
 .obtain⟨e1,e2,e3,e4,e5⟩:=C.cx i
  refine rO ?_ (Y i);exact EM (CX:=eZ (C.X i).prog (C.X i).w) (by rw[e1,e2,e3,e4,e5];exact t) ((C.room i).mono hr) (hg i) (by rw[e4];exact D.m) (by rw[e3];exact D.F.kp) (by rw[e3];exact D.b) .nil (C.pass i) (g9 (iO (N i) (L i) O Q) (g9 (iO (K i) (M i) P S) (g9 (x1' i) (g9 Ub kB (X i)) (V i)) (U i)) (u i)) T (u i) (hpl i)
 .unfold vo at W
  split at W
  .rename_i d0 c e0 e1
   have es1:=yb e1;rcases R.sl G _ e0 with z|⟨v0,ev0,h0⟩
   .cases z
   rcases R.sl I _ es1 with z|⟨v1,v,h1,t1⟩
   .cases z
   obtain⟨a,rfl,la⟩:=t1 rfl;have h0':aA C.K (λ p=>(lab p).1<=1) H v0 d0:=h0;refine⟨v0,ev0,.ref a,v,x2 τ Z H ρ lab _ R (W.bo.imp λ d2 _ w y H1 A r1=>?_)⟩;by_cases B:flats c=true/\flat d2=true
   .rw[if_pos B]at w
    cases t:F d0 c d2 []with
    |none=>rw[t]at w;exact aV w
    |some q=>
     obtain⟨r',c',t'⟩:=q;rw[t]at w;dsimp only at w;intro b E;have s2:=eM E (.dK []);obtain⟨k1,a1⟩:=(gU.of h1 B.1 rfl:gU C.K H a c).at;have ne:a≠b:=λ z=>by subst z;rw[A _ _ a1]at E;cases E
     have ho:∀p o,H p=some o->p≠b:=λ p o ah z=>by subst z;rw[A _ _ ah]at E;cases E
     refine⟨v0,y,a,b,d0,d2,c,[],r',c',t',rfl,ne,(h0'.wk λ p o ah z=>⟨λ q=>by subst q;lia,ho p o ah⟩).up (A.trans s2),r1.flat B.2,gU.of (h1.up (A.trans s2)) B.1 rfl,⟨rfl,vi (ps:=[]) dQ rfl .nil rfl⟩,t,λ H' ch C1 C3=>?_⟩;let J:au:=λ p=>if p=b then none else H' p
     have eb:J b=none:=if_pos rfl;have en:∀{p},p≠b->J p=H' p:=λ{p} z=>if_neg z
     have C1':gU C.K J a c':=gU.of C1.2 C1.1 (en ne);have bA:=R.mut (H':=J) (s':=.ow (bL c')) v a1 rfl la (λ p o z ah=>by
      rw[en (ho p o ah)];exact ch p o z (ho p o ah) ((A.trans s2) _ _ ah)) ⟨C1'.rp (.inr la),λ _=>⟨a,rfl,la⟩⟩
     exact w Z H' lab (bA.up λ p o ah=>by
      by_cases z:p=b
      .rw[z,eb]at ah;cases ah
      .rw[en z]at ah;exact ah)
   .rw[if_neg B]at w
    exact aV w
  .exact aV W
end
def X8{P:bD}{w:World}{K:aB}{mg:Str->Option Value}{base:Heap}{k:Nat}{fn:Addr}{f:bO}{ps:List Str}:gb P w K mg base (eZ P w) k fn f ps (oj K λ _ _ _ _=>none):=by
 constructor
 .rintro vs H Q E ⟨_,_,_,_,_,_,_,_,_,_,_,_,_,_,_,_,_,h,_⟩
  simp_all
 .intros
  rename_i h;obtain⟨_,_,_,_,_,_,_,_,_,_,_,_,_,_,_,_,_,h,_⟩:=h;simp_all
section
variable{ρ:af}{i:Nat}{f g:af->ag D}{e j:af->ag Bool}{c:af->ag (List D)}{u v:af->aC}{d:D}
@[simp] def varD_ap:cc i ρ=match ρ[i]? with
 |some (.sh d)=>.ok d
 |some (.nw d)=>.ok d
 |some (.ow d)=>.ok d
 |some (.oz d)=>.ok d
 |some (.o2 l)=>.ok (.lst (l.map .lst))
 |_=>.st:=bF rfl
@[simp] def sG:aa i ρ=match ρ[i]? with
 |some (.sh d)=>.ok d
 |some (.nw d)=>.ok d
 |_=>.st:=bF rfl
@[simp] def varN_ap:fG i ρ=match ρ[i]? with
 |some (.nw d)=>.ok d
 |_=>.st:=bF rfl
@[simp] def varO_ap:jc i ρ=match ρ[i]? with
 |some (.ow d)=>.ok d
 |some (.o2 l)=>.ok (.lst (l.map .lst))
 |_=>.st:=bF rfl
@[simp] def X9:aq d ρ= .ok d:=bF rfl
@[simp] def lI:ak ρ= .ok []:=bF rfl
@[simp] def jo:ae f c ρ=(f ρ).bd λ d=>(c ρ).bd λ ds=>.ok (d::ds):=bF rfl
@[simp] def jG:aQ=16777216:=ko
@[simp] def Gy:ck c ρ=(c ρ).bd λ ds=>if ds.length<=16777216 then .ok (.tup ds)else .st:=by rfl
@[simp] def lstD_ap:dC c ρ=(c ρ).bd λ ds=>if ds.length<=16777216 then .ok (.lst ds)else .st:=by rfl
@[simp] def lJ:okD (.ok d)= .ok d:=bF rfl
@[simp] def fz:aj fd f g ρ=(f ρ).bd λ x=>(g ρ).bd λ y=>okD (fd x y):=bF rfl
@[simp] def op1_ap:dq fd f ρ=(f ρ).bd λ x=>okD (fd x):=bF rfl
@[simp] def mr:aN fd c ρ=(c ρ).bd λ x=>okD (fd x):=bF rfl
@[simp] def yd:aW F c ρ=(c ρ).bd F:=bF rfl
def Pc(d:D)(r:ag D):ag D:=match d with
 | .bl true=>r
 | .bl false=>.ok (.bl false)
 |_=>.st
def Gz(d:D)(r:ag D):ag D:=match d with
 | .bl false=>r
 | .bl true=>.ok (.bl true)
 |_=>.st
@[simp] def BW:Pc (.bl b) r=if b=true then r else .ok (.bl false):=by cases b<;>rfl
@[simp] def Ya:Gz (.bl b) r=if b=true then .ok (.bl true)else r:=by cases b<;>rfl
@[simp] def BX:lA f g ρ=(f ρ).bd λ d=>Pc d (g ρ):=bF rfl
@[simp] def Yb:Bf f g ρ=(f ρ).bd λ d=>Gz d (g ρ):=bF rfl
@[simp] def notD_bl:Bg (.bl b)= .ok (.bl (!b)):=bF rfl
@[simp] def ifD_ap:Ff e f g ρ=(e ρ).bd λ k=>if k=true then f ρ else g ρ:=bF rfl
def Pd(d:D)(r:ag D):ag D:=match d with
 | .bl true=>r
 | .bl false=>.ok (.bl false)
 |_=>.st
@[simp] def chR_bl:Pd (.bl b) r=if b=true then r else .ok (.bl false):=by cases b<;>rfl
@[simp] def chD_ap:o9 fd fd' f g h ρ=(f ρ).bd λ x=>(g ρ).bd λ y=>(okD (fd x y)).bd λ z=>Pd z ((h ρ).bd λ w=>okD (fd' y w)):=bF rfl
@[simp] def Pe:Bh (.bl b)= .ok b:=bF rfl
@[simp] def blD_bl:nV (.bl b)= .ok b:=bF rfl
@[simp] def nt:cX f ρ=(f ρ).bd Bh:=bF rfl
@[simp] def lK:bh f ρ=(f ρ).bd nV:=bF rfl
@[simp] def GA:uO e j ρ=(e ρ).bd λ k=>if k=true then j ρ else .ok false:=bF rfl
@[simp] def ny:gq e j ρ=(e ρ).bd λ k=>if k=true then .ok true else j ρ:=bF rfl
@[simp] def om:dc e ρ=(e ρ).bd λ k=>.ok (!k):=bF rfl
@[simp] def bc:aP u v ρ=(u ρ).sq v:=bF rfl
@[simp] def kc:retS f ρ=(f ρ).bo .rt:=bF rfl
@[simp] def Yc:kE f ρ=(f ρ).bo λ _=>.nx ρ:=bF rfl
@[simp] def i4:cI e u v ρ=(e ρ).bo λ k=>if k=true then u ρ else v ρ:=bF rfl
@[simp] def ye:cJ i f ρ=(f ρ).bo λ d=>.nx (ρ.set i (.sh d)):=bF rfl
@[simp] def GB:ie i f ρ=(f ρ).bo λ d=>.nx (ρ.set i (.nw d)):=bF rfl
@[simp] def GC:eQ i f ρ=(f ρ).bo λ d=>.nx (ρ.set i (.ow d)):=bF rfl
@[simp] def oq:aD i d ρ= .ok (ρ.set i (.sh d)):=bF rfl
@[simp] def gnil_nil:eD [] ρ= .ok ρ:=bF rfl
@[simp] def gcons_cons:bR a b (d::ds) ρ=(a d ρ).bd (b ds):=bF rfl
@[simp] def gtup_tup:eA n b (.tup ds) ρ=if ds.length=n then b ds ρ else .st:=bF rfl
def Pf(r:ag af):aC:=match r with
 | .ok ρ=>.nx ρ
 |_=>.st
@[simp] def nxO_ok:Pf (.ok ρ)= .nx ρ:=bF rfl
@[simp] def asgS_ap:qH f a ρ=(f ρ).bo λ d=>Pf (a d ρ):=bF rfl
@[simp] def itD_tup:Bk (.tup l)= .ok l:=bF rfl
@[simp] def itD_lst:Bk (.lst l)= .ok l:=bF rfl
@[simp] def Yd:bS f ρ=(f ρ).bd Bk:=bF rfl
@[simp] def kM:ff c a u ρ=(c ρ).bo λ ds=>forL a u ds ρ:=bF rfl
noncomputable def aC.tn(o:aC)(k:af->aC):aC:=match o with
 | .nx ρ2=>k ρ2
 | .ct ρ2=>k ρ2
 | .bk ρ2=>.nx ρ2
 |o=>o
@[simp] def BY:(aC.nx ρ).tn k=k ρ:=bF rfl
def lL(r:ag af)(k:af->aC):aC:=match r with
 | .ok ρ=>k ρ
 |_=>.st
@[simp] def q9:lL (.ok ρ) k=k ρ:=bF rfl
def sH:forL a u (d::ds) ρ=lL (a d ρ) λ b=>(u b).tn (forL a u ds):=by rfl
@[simp] def oNone_ap:iz ρ= .ok none:=bF rfl
@[simp] def oSome_ap:iA f ρ=(f ρ).bd λ d=>match d with
 | .int i=>.ok (some i)
 |_=>.st:=bF rfl
@[simp] def sliceD_ap:iB f a b ρ=(f ρ).bd λ d=>(a ρ).bd λ l=>(b ρ).bd λ h=>okD (Bv d l h):=bF rfl
@[simp] def slD_tup:Bv (.tup l) a b= .ok (.tup (cutD l a b)):=bF rfl
@[simp] def revD_tup:u5 (.tup l)= .ok (.tup l.reverse):=bF rfl
@[simp] def immD_ap:aK f ρ=(f ρ).bd gD:=bF rfl
@[simp] def rngA_ap:di r c ρ=(c ρ).bd r:=bF rfl
@[simp] def raiseS_ap:Bl x c ρ=(c ρ).bo λ ds=>if ds.length<=16777216 then .ex x else .st:=by rfl
@[simp] def Ye:cE ρ= .ok true:=bF rfl
end
section
variable{d e:D}{i j:Int}{l m:List D}
def iE(h:imm d=true):gD d= .ok d:=by unfold gD;rw[if_pos h]
@[simp] def gImm_int:gD (.int i)= .ok (.int i):=bF rfl
@[simp] def addD_int:bK (.int i) (.int j)= .ok (.int (i+j)):=bF rfl
@[simp] def Pg:bK (.lst l) (.lst m)=if l.length+m.length<=16777216 then .ok (.lst (l++m))else .st:=by rfl
@[simp] def addD_tup:bK (.tup l) (.tup m)=if l.length+m.length<=16777216 then .ok (.tup (l++m))else .st:=by rfl
@[simp] def subD_int:jh (.int i) (.int j)= .ok (.int (i-j)):=bF rfl
def Ph(h:0<j)(a:j<1073741824):sf (.int i) (.int j)= .ok (.int (i / j)):=by unfold sf dg;simp_all
def vp(h:0<j):j6 (.int i) (.int j)= .ok (.int (i%j)):=by unfold j6 dg;simp_all
def BZ(h: -(2^64)<i)(a:i<2^64):gu (.int i) (.int j)= .ok (.int (i*j)):=by unfold gu;simp_all
def Pi(h: -(2^64)<j)(a:j<2^64):gu (.int i) (.int j)= .ok (.int (i*j)):=by unfold gu;simp_all
@[simp] def negD_int:pb (.int i)= .ok (.int (-i)):=bF rfl
@[simp] def Pj:fh (.int i) (.int j)= .ok (.bl (decide (i<j))):=bF rfl
@[simp] def leD_int:mq (.int i) (.int j)= .ok (.bl (decide (i<=j))):=bF rfl
@[simp] def gtD_int:Bq (.int i) (.int j)= .ok (.bl (decide (j<i))):=bF rfl
@[simp] def geD_int:Fn (.int i) (.int j)= .ok (.bl (decide (j<=i))):=bF rfl
def GD(ns m:List Int):fh (.tup (ns.map .int)) (.tup (m.map .int))= .ok (.bl (HT.lexLt ns m)):=by
 unfold fh sd dg;simp only[m8]
@[simp] def lenD_tup:b0 [.tup l]= .ok (.int l.length):=bF rfl
@[simp] def lenD_lst:b0 [.lst l]= .ok (.int l.length):=bF rfl
@[simp] def lenD_scr:b0 [.scr x]= .ok (.int x.length):=bF rfl
@[simp] def Pk:gT [.lst l]= .ok (.tup l):=bF rfl
@[simp] def listD_tup:qS [.tup l]= .ok (.lst l):=bF rfl
@[simp] def mmD_int:pk f [.int i,.int j]= .ok (.int (f i j)):=bF rfl
@[simp] def ixD_tup:aH (.tup l) (.int i)=cN l i:=bF rfl
@[simp] def ixD_lst:aH (.lst l) (.int i)=cN l i:=bF rfl
@[simp] def ixD_scr:aH (.scr x) (.int i)=cN (x.map .int) i:=bF rfl
def jH{k:Nat}(h:l[k]? =some d):cN l (k:Int)= .ok d:=by
 have a:=(fC.mp h).1;unfold cN l7 hh;simp_all
def yf(a:0<=i)(b:i<l.length):∃d,cN l i= .ok d/\d∈l/\l[i.toNat]? =some d:=by
 have h:i.toNat<l.length:=by omega
 have e:=bP h;refine⟨_,?_,qb h,e⟩
 have:=jH e
 rwa [pS a]at this
@[simp] def atD_0{r:List D}:cN (d::r) 0= .ok d:=jH rfl
@[simp] def atD_1{r:List D}:cN (d::e::r) 1= .ok e:=jH rfl
@[simp] def eqR_int:b9 n (.int i) (.int j)= .ok (.bl (if n then !(i==j)else i==j)):=bF rfl
noncomputable def knd:D->Bool
 | .set _=>false
 | .scr _=>false
 | .fn _=>false
 | .itm _ _=>false
 | .itx _ _=>false
 |_=>true
def Yf:D->Bool
 | .int _=>true
 | .bl _=>true
 |_=>false
def Yg:D->Bool
 | .bl _=>true
 |_=>false
def hQ:D->Bool
 | .tup _=>true
 |_=>false
def Pl(h:knd d=true):eR "int" d= .ok (.bl (Yf d)):=by
 cases d<;>first|rfl|(simp[knd]at h)
def GE(h:knd d=true):eR "bool" d= .ok (.bl (Yg d)):=by
 cases d<;>first|rfl|(simp[knd]at h)
def kN(h:knd d=true):eR "tuple" d= .ok (.bl (hQ d)):=by
 cases d<;>first|rfl|(simp[knd]at h)
@[simp] def isi_tuple_tup:eR "tuple" (.tup l)= .ok (.bl true):=kN rfl
@[simp] def isi_bool_bl:eR "bool" (.bl b)= .ok (.bl true):=GE rfl
end
@[simp] def cO:cD n u ds=match u (cf n ds)with
 | .nx _=>.ok .non
 | .rt d=>.ok d
 | .ex c=>.ex c
 |_=>.st:=bF rfl
def lM(h: -(2^62)<=j)(a:j<2^62):eG [.int j]= .ok (cw 0 j):=by unfold eG;simp_all
def GF(h: -(2^62)<=i)(a:i<2^62)(b: -(2^62)<=j)(c:j<2^62):mh [.int i,.int j]= .ok (cw i j):=by unfold mh;simp_all
def rf{l h:Int}:d∈cw l h↔∃k:Int,d= .int k/\l<=k/\k<h:=by
 unfold cw;rw[dj];constructor
 .rintro⟨n,a,rfl⟩
  have:=oN.mp a
  exact⟨_,rfl,by omega,by omega⟩
 .rintro⟨k,rfl,b,c⟩
  exact⟨(k-l).toNat,oN.mpr (by omega),by congr 1;omega⟩
end VL
namespace VL.My
open PySem L2
def kO:af->aC:=
  (retS (lA (dq (eR "int") (aa 0)) (dq Bg (dq (eR "bool") (aa 0)))))
def yg:List D->ag D:=cD 1 kO
def gn:af->aC:=
  (aP (ff (di mh (ae (aq (.int 1)) (ae (aN b0 (ae (aa 0) ak)) ak))) (aD 1)
   (cI (dc (bh (aj fh (aj aH (aa 0) (aj jh (aa 1) (aq (.int 1)))) (aj aH (aa 0) (aa 1)))))
    (retS (aq (.bl false)))
    aC.nx))
  (retS (aq (.bl true))))
def ou:List D->ag D:=cD 2 gn
def jR:af->aC:=
  (retS (aj (b9 false) (aN j8 (ae (xW (bS (aa 1)) [none,none] (aD 0) cE (j9 (bS (aa 0)) (aD 1) cE (aK (aa 1)))) ak)) (pA (aa 0))))
def B0:List D->ag D:=cD 2 jR
def mZ:af->aC:=
  (aP (sv 1 (di eG (ae (aj aH (aa 0) (aq (.int 0))) ak)) [none] (aD 0))
  (aP (ff (bS (aj aH (aa 0) (aq (.int 1)))) (eA 2 (bR (aD 2) (bR (aD 3) eD)))
   (ij 1 (aa 2) (aK (aa 3))))
  (retS (jc 1))))
def oA:List D->ag D:=cD 4 mZ
def kZ:af->aC:=
  (aP (sv 1 (di eG (ae (aj aH (aa 0) (aq (.int 0))) ak)) [none] (aD 0))
  (aP (ff (bS (aj aH (aa 0) (aq (.int 1)))) (eA 2 (bR (aD 2) (bR (aD 3) eD)))
   (ij 1 (aa 3) (aK (aa 2))))
  (retS (jc 1))))
def B1:List D->ag D:=cD 4 kZ
def oB:af->ag D:=aj aH (cc 2) (dq pb (aq (.int 1)))
def B2:af->ag Bool:=uO (bh (aj (fK false) oB (aa 0))) (bh (aj (b9 true) (aj gv (aa 0) oB) (aa 1)))
def GG:af->aC:=fy 2 (aK (aj gv (aa 0) oB))
def qU:af->aC:=aP (eQ 2 (dC (ae (aK (aa 1)) ak))) (aP (mi B2 GG) (retS (aN gT (ae (jc 2) ak))))
def yh:List D->ag D:=cD 3 qU
def eY:af->aC:=
  (aP (cI (bh (aj fh (aa 1) (aN b0 (ae (aa 0) ak))))
   (retS (aK (aj aH (aa 0) (aa 1))))
   aC.nx)
  (retS (aq (.int 0))))
def yi:List D->ag D:=cD 2 eY
def jN:af->aC:=
  (aP (cI (bh (aj Fn (aa 0) (aj xK (aq (.int 10)) (aq (.int 18)))))
   (aP (cJ 3 (aa 0))
   (aP (ff (di eG (ae (aa 1) ak)) (aD 4)
    (cJ 3 (aj sf (aa 3) (aa 2))))
   (retS (aj j6 (aa 3) (aa 2)))))
   aC.nx)
  (aP (cJ 5 (aj j6 (aj gu (aj bK (aj bK (aj j6 (aa 0) (aq (.int 1000000007))) (aj gu (aq (.int 1009)) (aa 1))) (aq (.int 17))) (aq (.int 69621))) (aq (.int 2147483647))))
  (aP (cJ 5 (aj j6 (aj bK (aj bK (aj gu (aa 5) (aa 5)) (aj gu (aq (.int 40503)) (aa 1))) (aq (.int 5))) (aq (.int 2147483629))))
  (retS (aj j6 (aj sf (aj j6 (aj gu (aa 5) (aq (.int 48271))) (aq (.int 2147483647))) (aq (.int 32))) (aa 2))))))
def gN:List D->ag D:=cD 6 jN
def jQ:af->aC:=
  (retS (lA (dq (eR "int") (aa 0)) (dq Bg (dq (eR "bool") (aa 0)))))
def yj:List D->ag D:=cD 1 jQ
def vq:af->ag D:=aj fh (aj aH (aa 1) (aj jh (aa 0) (aq (.int 1)))) (aj aH (aa 1) (aa 0))
def iT:af->aC:=retS (aN (ik λ bs=>bs.all id) (ae (dD (di mh (ae (aq (.int 1)) (ae (aN b0 (ae (aa 0) ak)) ak))) [none,some 0] (aD 0) cE vq) ak))
def sI:List D->ag D:=cD 1 iT
def fP:af->aC:=
  (aP (eQ 2 (dC ak))
  (aP (ff (bS (aa 0)) (aD 3)
   (n7 2 (aK (aa 3))))
  (retS (aj (b9 false) (aN j8 (ae (cc 2) ak)) (pA (aa 1))))))
def B3:List D->ag D:=cD 4 fP
def yk:af->ag D:=aj aH (cc 7) (dq pb (aq (.int 1)))
def ym:af->ag Bool:=bh (aj (fK false) yk (fG 2))
def GH:af->aC:=fy 7 (aj gv (fG 2) yk)
def GI:af->aC:=ie 5 (dD (bS (aa 5)) [none,some 7] (aD 0) (bh (aj (eI true) (aa 0) (aa 1))) (aK (aa 0)))
def yn:af->aC:=cI (bh (aj (pD true) (aa 6) (fG 2))) (aP (eQ 7 (dC (ae (aK (aa 6)) ak))) (aP (mi ym GH) (aP (fy 3 (aK (aN gT (ae (cc 7) ak)))) GI))) aC.nx
def vr:af->ag D:=aj aH (cc 8) (dq pb (aq (.int 1)))
def yo:af->ag Bool:=bh (aj (b9 true) (aj gv (fG 2) vr) (aj aH (cc 8) (aq (.int 0))))
def GJ:af->aC:=fy 8 (aj gv (fG 2) vr)
def GK:af->aC:=ie 5 (dD (bS (aa 5)) [none,some 8] (aD 0) (bh (aj (eI true) (aa 0) (aa 1))) (aK (aa 0)))
def GL:af->aC:=aP (eQ 8 (dC (ae (aj aH (fG 5) (aq (.int 0))) ak))) (aP (mi yo GJ) (aP (fy 4 (aK (aN gT (ae (cc 8) ak)))) GK))
def B4:af->ag Bool:=bh (aj (b9 true) (fG 5) (dC ak))
def iU:af->aC:=aP (ie 2 (aN sC (ae (aa 1) ak))) (aP (eQ 3 (dC ak)) (aP (eQ 4 (dC ak)) (aP (ie 5 (pA (aj aH (aa 0) (aq (.int 0)))))
  (aP (ff (di eG (ae (aj aH (aa 0) (aq (.int 0))) ak)) (aD 6) yn) (aP (mi B4 GL)
  (retS (ck (ae (aN gT (ae (jc 3) ak)) (ae (aN gT (ae (jc 4) ak)) ak)))))))))
def B5:List D->ag D:=cD 9 iU
def mY:af->aC:=
  (retS (lA (aW yg (ae (aa 0) ak)) (o9 mq mq (aq (.int 0)) (aa 0) (aq (.int 60)))))
def B6:List D->ag D:=cD 1 mY
def kW:af->aC:=
  (retS (lA (aW yg (ae (aa 1) ak)) (o9 mq fh (aq (.int 0)) (aa 1) (aa 0))))
def nz:List D->ag D:=cD 2 kW
def yp:af->aC:=aP (xT (λ i j=>i-j) 2 (aa 6) (aq (.int 1))) (cI (bh (aj (b9 false) (aj aH (cc 2) (aa 6)) (aq (.int 0)))) (fy 3 (aK (aa 6))) aC.nx)
def B7:af->aC:=aP (cJ 5 (aN (n3 wm) (ae (cc 3) ak))) (aP (xS 3 (aK (aa 5))) (aP (fy 4 (aK (aa 5))) (ff (bS (aj aH (aa 1) (aa 5))) (aD 6) yp)))
def GM:af->ag D:=dD (bS (aW B1 (ae (aa 0) ak))) [none] (aD 0) cE (aN b0 (ae (aa 0) ak))
def GN:af->ag D:=dD (di eG (ae (aj aH (aa 0) (aq (.int 0))) ak)) [none,some 2] (aD 0) (bh (aj (b9 false) (aj aH (aa 1) (aa 0)) (aq (.int 0)))) (aK (aa 0))
def mU:af->aC:=aP (cJ 1 (aW oA (ae (aa 0) ak))) (aP (eQ 2 GM) (aP (eQ 3 GN) (aP (eQ 4 (dC ak)) (aP (mi (cX (cc 3)) B7) (retS (jc 4))))))
def yq:List D->ag D:=cD 7 mU
def gC:af->aC:=
  (aP (cJ 2 (lG (bS (aa 1)) [none,none] (eA 2 (bR (aD 0) (bR (aD 1) eD))) cE (aK (aa 0)) (aK (aa 1))))
  (aP (cJ 3 (lG (bS (aa 1)) [none,none] (eA 2 (bR (aD 0) (bR (aD 1) eD))) cE (aK (aa 1)) (aq (.bl true))))
  (retS (aN gT (ae (dD (di eG (ae (aa 0) ak)) [none,some 2,some 3] (aD 0) (bh (aj (fK true) (aa 0) (aa 2))) (aW yh (ae (aa 1) (ae (aa 0) ak)))) ak)))))
def B8:List D->ag D:=cD 4 gC
def kJ:af->aC:=
  (aP (eQ 2 (dC ak))
  (aP (ff (di eG (ae (aa 1) ak)) (aD 3)
   (xR 2 (aW gN (ae (aa 0) (ae (aj bK (aq (.int 100)) (aa 3)) (ae (aj bK (aa 3) (aq (.int 1))) ak)))) (aK (aa 3))))
  (retS (jc 2))))
def yr:List D->ag D:=cD 4 kJ
def mV:af->aC:=
  (aP (ie 1 (dC (ae (aq .non) (ae (aq (.bl true)) (ae (aq (.int 0)) (ae (dq pb (aq (.int 1))) (ae (aq (.str "")) (ae (aq (.str "0")) (ae (ck ak) (ae (dC ak) (ae (aq (.dct [] [])) (ae (ck (ae (ck ak) ak)) (ae (ck (ae (aq (.int 0)) ak)) (ae (ck (ae (ck (ae (aq (.int 0)) (ae (aq (.int 1)) ak))) ak)) (ae (dC (ae (aq (.int 0)) (ae (aq (.int 1)) ak))) (ae (ck (ae (aq .non) ak)) (ae (ck (ae (aq (.str "a")) (ae (aq (.str "b")) ak))) (ae (aj xK (aq (.int 10)) (aq (.int 20))) ak))))))))))))))))))
  (retS (aj aH (fG 1) (aW gN (ae (aa 0) (ae (aq (.int 90)) (ae (aq (.int 16)) ak)))))))
def yt:List D->ag D:=cD 2 mV
def B9:af->ag D:=lA (aW yj (ae (aa 0) ak)) (o9 mq fh (aq (.int 0)) (aa 0) (aa 1))
def dR:af->aC:=aP (cI (gq (dc (cX (dq (eR "tuple") (aa 0)))) (dc (cX (aN (ik λ bs=>bs.all id) (ae (dD (bS (aa 0)) [none,some 1] (aD 0) cE B9) ak)))))
   (retS (aq (.bl false)))
   aC.nx)
  (retS (aW sI (ae (aa 0) ak)))
def yu:List D->ag D:=cD 2 dR
def pF:af->ag D:=lA (aW yj (ae (aa 0) ak)) (o9 mq fh (aq (.int 0)) (aa 0) (aj aH (aa 1) (aq (.int 0))))
def vt:af->ag D:=aj (eI false) (ck (ae (aj aH (aa 1) (aa 0)) (ae (aj aH (aa 1) (aj bK (aa 0) (aq (.int 1)))) ak))) (aj aH (aa 2) (aq (.int 1)))
def dM:af->aC:=aP (cI (gq (dc (cX (dq (eR "tuple") (aa 1)))) (bh (aj (b9 false) (aN b0 (ae (aa 1) ak)) (aq (.int 0))))) (retS (aq (.bl false))) aC.nx)
  (aP (cI (gq (dc (cX (aN (ik λ bs=>bs.all id) (ae (dD (bS (aa 1)) [none,some 0] (aD 0) cE pF) ak)))) (bh (aj fh (aN lE (ae (aN kI (ae (aa 1) ak)) ak)) (aN b0 (ae (aa 1) ak))))) (retS (aq (.bl false))) aC.nx)
  (retS (aN (ik λ bs=>bs.all id) (ae (dD (di eG (ae (aj jh (aN b0 (ae (aa 1) ak)) (aq (.int 1))) ak)) [none,some 1,some 0] (aD 0) cE vt) ak))))
def pH:List D->ag D:=cD 2 dM
def GO:af->ag D:=dD (bS (aa 2)) [none,some 4] (aD 0) (gq (bh (aj (b9 false) (aj aH (aa 0) (aq (.int 0))) (aj aH (aa 1) (aq (.int 0))))) (bh (aj (b9 false) (aj aH (aa 0) (aq (.int 1))) (aj aH (aa 1) (aq (.int 1)))))) (aK (aa 0))
def yv:af->aC:=cI (bh (aj Bq (aW gN (ae (aa 0) (ae (aj bK (aq (.int 60)) (aj j6 (aa 3) (aq (.int 40)))) (ae (aq (.int 3)) ak)))) (aq (.int 0))))
    (cI (bh (aj (b9 false) GO (dC ak)))
     (fy 2 (aK (aa 4)))
     aC.nx)
    aC.nx
def dB:af->aC:=aP (eQ 2 (dC ak))
  (aP (ff (di BP (ae (aj aH (aa 1) (aq (.int 1))) ak)) (eA 2 (bR (aD 3) (bR (aD 4) eD))) yv)
  (retS (aN gT (ae (jc 2) ak))))
def Cb:List D->ag D:=cD 5 dB
def fO:af->aC:=
  (aP (cJ 4 (aW gN (ae (aa 0) (ae (aa 1) (ae (aj bK (aN b0 (ae (aa 2) ak)) (aq (.int 1))) ak)))))
  (aP (ie 5 (aj aH (dC (ae (aq (.int 0)) (ae (aK (aa 3)) (ae (dq pb (aq (.int 1))) (ae (aq (.bl true)) (ae (aq .non) (ae (aq (.str "0")) (ae (dC (ae (aq (.int 0)) ak)) (ae (aj jh (aa 3) (aq (.int 1))) (ae (aq (.int 1)) ak)))))))))) (aW gN (ae (aa 0) (ae (aj bK (aa 1) (aq (.int 1))) (ae (aq (.int 9)) ak))))))
  (aP (ie 6 (dC (ae (aj bK (aj bK (aK (iB (aa 2) iz (iA (aa 4)))) (ck (ae (fG 5) ak))) (aK (iB (aa 2) (iA (aj bK (aa 4) (aq (.int 1)))) iz))) (ae (aj bK (aK (iB (aa 2) iz (iA (aa 4)))) (aK (iB (aa 2) (iA (aj bK (aa 4) (aq (.int 1)))) iz))) (ae (aj bK (aj bK (aK (iB (aa 2) iz (iA (aa 4)))) (ck (ae (fG 5) ak))) (aK (iB (aa 2) (iA (aa 4)) iz))) (ae (aK (dq u5 (aa 2))) ak))))))
  (aP (ie 6 (aj bK (fG 6) (dC (ae (aN qS (ae (aK (aa 2)) ak)) (ae (aj bK (aK (aa 2)) (aK (iB (aa 2) iz (iA (aq (.int 1)))))) (ae (aj bK (aK (iB (aa 2) (iA (aq (.int 1))) iz)) (aK (iB (aa 2) iz (iA (aq (.int 1)))))) (ae (ck ak) (ae (aq .non) (ae (ck (ae (aK (aa 2)) ak)) ak)))))))))
  (retS (aj aH (fG 6) (aW gN (ae (aa 0) (ae (aj bK (aa 1) (aq (.int 2))) (ae (aq (.int 10)) ak))))))))))
def vw:List D->ag D:=cD 7 fO
def sJ:af->aC:=cI (gq (dc (cX (dq (eR "tuple") (aa 1)))) (bh (aj (b9 true) (aN b0 (ae (aa 1) ak)) (aq (.int 2))))) (retS (aq (.bl false))) aC.nx
def mX:af->aC:=aP sJ (retS (lA (aW nz (ae (aa 0) (ae (aj aH (aa 1) (aq (.int 0))) ak))) (lA (aW nz (ae (aa 0) (ae (aj aH (aa 1) (aq (.int 1))) ak))) (aj (b9 true) (aj aH (aa 1) (aq (.int 0))) (aj aH (aa 1) (aq (.int 1)))))))
def yw:List D->ag D:=cD 2 mX
def eU:af->aC:=
  (aP (cI (dc (cX (dq (eR "tuple") (aa 1))))
   (retS (aq (.bl false)))
   aC.nx)
  (aP (ff (bS (aa 1)) (aD 2)
   (cI (dc (cX (aW nz (ae (aa 0) (ae (aa 2) ak)))))
    (retS (aq (.bl false)))
    aC.nx))
  (retS (aW ou (ae (aa 1) ak)))))
def sL:List D->ag D:=cD 3 eU
def sM:af->aC:=cI (dc (cX (aW nz (ae (aN b0 (ae (aa 0) ak)) (ae (aa 2) ak))))) (retS (aq (.bl false))) aC.nx
def sN:af->aC:=cI (bh (aj (eI true) (aj aH (aa 1) (aa 3)) (aj aH (aa 0) (aj aH (aa 1) (aj jh (aa 3) (aq (.int 1))))))) (retS (aq (.bl false))) aC.nx
def bx:af->aC:=aP (cI (gq (dc (cX (dq (eR "tuple") (aa 1)))) (bh (aj (b9 false) (aN b0 (ae (aa 1) ak)) (aq (.int 0))))) (retS (aq (.bl false))) aC.nx)
  (aP (ff (bS (aa 1)) (aD 2) sM)
  (aP (cI (bh (aj (b9 true) (aN lE (ae (aN kI (ae (aa 1) ak)) ak)) (aN b0 (ae (aa 1) ak)))) (retS (aq (.bl false))) aC.nx)
  (aP (ff (di mh (ae (aq (.int 1)) (ae (aN b0 (ae (aa 1) ak)) ak))) (aD 3) sN)
  (retS (aq (.bl true))))))
def oC:List D->ag D:=cD 4 bx
def Cc:af->aC:=cI (gq (bh (aj fh (aW gN (ae (aa 0) (ae (aa 7) (ae (aq (.int 8)) ak)))) (fG 4))) (uO (bh (aj (b9 false) (aa 3) (aq (.int 5)))) (bh (aj (eI false) (aa 8) (ck (ae (aj bK (aj gu (aq (.int 2)) (aa 9)) (aq (.int 1))) (ae (aj bK (aj gu (aq (.int 2)) (aa 9)) (aq (.int 2))) ak)))))))
     (fy 6 (ck (ae (aK (aj aH (aa 5) (aa 9))) (ae (aK (aj aH (aa 5) (aa 8))) ak))))
     aC.nx
def yx:af->aC:=aP (cJ 7 (aj bK (aa 7) (aq (.int 1)))) Cc
def Cd:af->aC:=ff (di eG (ae (aa 8) ak)) (aD 9) yx
def gJ:af->aC:=aP (cJ 2 (aW gN (ae (aa 0) (ae (aq (.int 0)) (ae (aj bK (aa 1) (aq (.int 1))) ak)))))
  (aP (cJ 3 (aW gN (ae (aa 0) (ae (aq (.int 1)) (ae (aq (.int 6)) ak)))))
  (aP (ie 4 (aj aH (dC (ae (aq (.int 1)) (ae (aq (.int 2)) (ae (aq (.int 3)) (ae (aq (.int 5)) (ae (aq (.int 8)) (ae (aq (.int 0)) ak))))))) (aa 3)))
  (aP (cJ 5 (aW yr (ae (aa 0) (ae (aa 2) ak))))
  (aP (eQ 6 (dC ak))
  (aP (cJ 7 (aq (.int 2)))
  (aP (ff (di eG (ae (aa 2) ak)) (aD 8) Cd)
  (retS (ck (ae (aK (aa 2)) (ae (aN gT (ae (aN j8 (ae (cc 6) ak)) ak)) ak))))))))))
def yy:List D->ag D:=cD 10 gJ
def Pm:af->ag D:=aN (ik λ bs=>bs.all id) (ae (dD (bS (aa 1)) [none,some 0] (aD 0) cE (aW pH (ae (aa 1) (ae (aa 0) ak)))) ak)
def Ce:af->aC:=cI (gq (dc (cX (dq (eR "tuple") (aa 1)))) (dc (cX Pm))) (retS (aq (.bl false))) aC.nx
def GP:af->ag D:=aW sI (ae (aa 1) ak)
def GQ:af->ag D:=aW B3 (ae (aa 1) (ae (aj aH (aa 0) (aq (.int 0))) ak))
def iV:af->aC:=aP Ce (retS (lA GP GQ))
def Cf:List D->ag D:=cD 2 iV
def Pn:af->ag D:=dD (bS (aa 1)) [none,some 0] (aD 0) cE (aW yu (ae (aa 0) (ae (aj aH (aa 1) (aq (.int 0))) ak)))
def sO:af->aC:=cI (gq (dc (cX (dq (eR "tuple") (aa 1)))) (gq (bh (aj (b9 true) (aN b0 (ae (aa 1) ak)) (aq (.int 2)))) (dc (cX (aN (ik λ bs=>bs.all id) (ae Pn ak)))))) (retS (aq (.bl false))) aC.nx
def GR:af->ag Bool:=uO (bh (aj (eI true) (aj aH (aa 0) (aq (.int 0))) (aj aH (aa 1) (aq (.int 0))))) (bh (aj (eI true) (aj aH (aa 0) (aq (.int 1))) (aj aH (aa 1) (aq (.int 1)))))
def Po:af->ag D:=dD (bS (aj aH (aa 0) (aq (.int 1)))) [none,some 1] (aD 0) GR (aK (aa 0))
def du:af->aC:=aP sO (retS (aj (b9 false) Po (dC ak)))
def Cg:List D->ag D:=cD 2 du
def Ci:af->aC:=cI (cX (dq (eR "tuple") (aa 5)))
   (ie 6 (aW vw (ae (aa 0) (ae (aj bK (aa 1) (aq (.int 1))) (ae (aa 5) (ae (aa 3) ak))))))
   (ie 6 (aj aH (dC (ae (aq (.int 0)) (ae (aK (aa 3)) (ae (aq (.bl true)) (ae (aq .non) (ae (aj bK (aK (aa 5)) (aq (.int 1))) (ae (ck (ae (aK (aa 5)) ak)) ak))))))) (aW gN (ae (aa 0) (ae (aj bK (aa 1) (aq (.int 1))) (ae (aq (.int 6)) ak))))))
def cQ:af->aC:=aP (cJ 4 (aW gN (ae (aa 0) (ae (aa 1) (ae (aj bK (aN b0 (ae (aa 2) ak)) (aq (.int 1))) ak)))))
  (aP (cJ 5 (aj aH (aj bK (aa 2) (ck (ae (ck ak) ak))) (aa 4)))
  (aP Ci
  (aP (eQ 7 (dC (ae (aj bK (aj bK (aK (iB (aa 2) iz (iA (aa 4)))) (ck (ae (fG 6) ak))) (aK (iB (aa 2) (iA (aj bK (aa 4) (aq (.int 1)))) iz))) (ae (aj bK (aK (iB (aa 2) iz (iA (aa 4)))) (aK (iB (aa 2) (iA (aj bK (aa 4) (aq (.int 1)))) iz))) (ae (aj bK (aK (aa 2)) (aK (iB (aa 2) iz (iA (aq (.int 1)))))) ak)))))
  (aP (eQ 7 (aj bK (jc 7) (dC (ae (aK (dq u5 (aa 2))) (ae (aN qS (ae (aK (aa 2)) ak)) (ae (ck (ae (aK (aa 2)) ak)) (ae (aq .non) (ae (aj bK (aK (aa 2)) (ck (ae (ck ak) ak))) ak))))))))
  (aP (fy 7 (aj bK (aj bK (aK (iB (aa 2) iz (iA (aa 4)))) (ck (ae (fG 6) ak))) (aK (iB (aa 2) (iA (aa 4)) iz))))
  (retS (aj aH (jc 7) (aW gN (ae (aa 0) (ae (aj bK (aa 1) (aq (.int 4))) (ae (aq (.int 9)) ak)))))))))))
def yz:List D->ag D:=cD 8 cQ
def bV:af->aC:=
  (aP (cI (dc (cX (dq (eR "tuple") (aa 1))))
   (retS (aq (.bl false)))
   aC.nx)
  (aP (ff (bS (aa 1)) (aD 2)
   (cI (dc (cX (aW yw (ae (aa 0) (ae (aa 2) ak)))))
    (retS (aq (.bl false)))
    aC.nx))
  (retS (aW ou (ae (aa 1) ak)))))
def vx:List D->ag D:=cD 3 bV
def yA:List (Str×(List D->ag D)):=[("goes_along",oC)]
def sP:af->aC:=cI (dc (cX (sy yA 2 (ae (aa 0) (ae (aa 3) ak))))) (retS (aq (.bl false))) aC.nx
def nu:af->aC:=aP (cI (dc (cX (dq (eR "tuple") (aa 1)))) (retS (aq (.bl false))) aC.nx) (aP (ff (bS (aa 1)) (aD 3) sP) (retS (aW ou (ae (aa 1) ak))))
def yB:List D->ag D:=cD 4 nu
def sQ:af->aC:=cI (gq (dc (cX (dq (eR "tuple") (aa 1)))) (gq (bh (aj (b9 true) (aN b0 (ae (aa 1) ak)) (aq (.int 2)))) (dc (cX (aW Cf (ae (aa 0) (ae (aj aH (aa 1) (aq (.int 0))) ak))))))) (retS (aq (.bl false))) aC.nx
def GS:af->aC:=cI (dc (cX (aW Cg (ae (aa 0) (ae (aj aH (aa 1) (aq (.int 1))) ak))))) (retS (aq (.bl false))) aC.nx
def GT:af->ag D:=aj (b9 false) (aj bK (aN b0 (ae (aj aH (aj aH (aa 1) (aq (.int 1))) (aq (.int 0))) ak)) (aN b0 (ae (aj aH (aj aH (aa 1) (aq (.int 1))) (aq (.int 1))) ak))) (aj jh (aj aH (aa 0) (aq (.int 0))) (aN b0 (ae (aj aH (aa 1) (aq (.int 0))) ak)))
def mW:af->aC:=aP sQ (aP GS (retS GT))
def yH:List D->ag D:=cD 2 mW
def iW:af->aC:=
  (aP (cI (gq (dc (cX (dq (eR "tuple") (aa 0)))) (bh (aj (b9 true) (aN b0 (ae (aa 0) ak)) (aq (.int 2)))))
   (retS (aq (.bl false)))
   aC.nx)
  (retS (lA (aW B6 (ae (aj aH (aa 0) (aq (.int 0))) ak)) (aW vx (ae (aj aH (aa 0) (aq (.int 0))) (ae (aj aH (aa 0) (aq (.int 1))) ak))))))
def Cj:List D->ag D:=cD 1 iW
def eE:af->aC:=
  (cI (dc (cX (aW Cj (ae (aa 0) ak))))
   (Bl "NoOneWay" (ae (aq (.str "this is no one-way web")) ak))
   aC.nx)
def mu:List D->ag D:=cD 1 eE
def gH:af->aC:=
  (aP (kE (aW mu (ae (aa 0) ak)))
  (aP (cJ 1 (aW yq (ae (aa 0) ak)))
  (retS (Ff (bh (aj (b9 false) (aN b0 (ae (aa 1) ak)) (aj aH (aa 0) (aq (.int 0))))) (aK (aN gT (ae (aa 1) ak))) (aq .non)))))
def Ck:List D->ag D:=cD 2 gH
def sR:af->aC:=cI (gq (dc (cX (dq (eR "tuple") (aa 1)))) (bh (aj (b9 true) (aN b0 (ae (aa 1) ak)) (aq (.int 2))))) (retS (aq (.bl false))) aC.nx
def GU:af->aC:=cI (gq (dc (cX (aW sL (ae (aj aH (aa 0) (aq (.int 0))) (ae (aa 2) ak))))) (dc (cX (aW sL (ae (aj aH (aa 0) (aq (.int 0))) (ae (aa 3) ak)))))) (retS (aq (.bl false))) aC.nx
def Pp:af->ag D:=dD (bS (aj aH (aa 0) (aq (.int 1)))) [none,none,some 2,some 3] (eA 2 (bR (aD 0) (bR (aD 1) eD))) cE (Bf (aj (eI false) (aa 0) (aa 2)) (aj (eI false) (aa 1) (aa 3)))
def kY:af->aC:=aP (kE (aW mu (ae (aa 0) ak))) (aP sR (aP (qH (aa 1) (eA 2 (bR (aD 2) (bR (aD 3) eD)))) (aP GU (retS (aN (ik λ bs=>bs.all id) (ae Pp ak))))))
def Cm:List D->ag D:=cD 4 kY
def GV:af->ag D:=aW yB (ae (aW oA (ae (aa 0) ak)) (ae (aa 1) (ae (aq (.fn "goes_along")) ak)))
def GW:af->ag D:=aW B0 (ae (aj aH (aa 0) (aq (.int 0))) (ae (aa 1) ak))
def dU:af->aC:=aP (kE (aW mu (ae (aa 0) ak))) (retS (lA GV GW))
def Cn:List D->ag D:=cD 2 dU
def dw:af->aC:=
  (cI (bh (aj (xF false) (aW Ck (ae (aa 0) ak)) (aq .non)))
   (Bl "NoOrder" (ae (aq (.str "the one-way web has a ring")) ak))
   aC.nx)
def vy:List D->ag D:=cD 1 dw
def vz:af->aC:=cI (gq (dc (cX (dq (eR "tuple") (aa 1)))) (bh (aj (b9 true) (aN b0 (ae (aa 1) ak)) (aq (.int 2))))) (retS (aq (.bl false))) aC.nx
def GX:af->aC:=cI (gq (dc (cX (aW Cn (ae (aa 0) (ae (aa 2) ak))))) (dc (cX (aW Cm (ae (aa 0) (ae (aa 3) ak)))))) (retS (aq (.bl false))) aC.nx
def GY:af->ag D:=aj (b9 false) (aj bK (aN b0 (ae (aa 4) ak)) (aN b0 (ae (aa 5) ak))) (aj jh (aj aH (aa 0) (aq (.int 0))) (aN b0 (ae (aa 2) ak)))
def fQ:af->aC:=aP (kE (aW vy (ae (aa 0) ak))) (aP vz (aP (qH (aa 1) (eA 2 (bR (aD 2) (bR (aD 3) eD)))) (aP GX (aP (qH (aa 3) (eA 2 (bR (aD 4) (bR (aD 5) eD)))) (retS GY)))))
def Co:List D->ag D:=cD 6 fQ
def dF(R:gB):af->eT:=
  (jm (ya (bS (aj aH (aa 0) (aa 2))) (aD 4) (x9 (bh (aj (fK true) (aa 4) (cc 3))) (jm (kb 3 (aa 4) (aq (.bl true))) (qZ (bh (aj (fK true) (aa 4) (cc 1))) (nr R (aj gv (cc 1) (aa 4))) (jm (kb 1 (aa 4) (aK (aa 2))) (oh (aq (.bl true)))))) .nx)) (oh (aq (.bl false))))
def mv:Nat->gB
 |0=>λ _ _ _ _=>none
 |n+1=>yc 5 (dF (mv n))
def vA:gB:=mv 64
def qT:af->aC:=
  (aP (cJ 1 (aW oA (ae (aa 0) ak)))
  (aP (eQ 2 (aq (.dct [] [])))
  (aP (ff (di eG (ae (aj aH (aa 0) (aq (.int 0))) ak)) (aD 3)
   (vo 1 2 vA (aa 3)))
  (retS (jc 2)))))
def nA:List D->ag D:=cD 4 qT
def iQ:af->aC:=
  (aP (kE (aW mu (ae (aa 0) ak)))
  (retS (aN gT (ae (aN j8 (ae (dD (x3 (pE (aW nA (ae (aa 0) ak)))) [none,none] (eA 2 (bR (aD 0) (bR (aD 1) eD))) cE (ck (ae (aK (aa 1)) (ae (aK (aa 0)) ak)))) ak)) ak))))
def Cp:List D->ag D:=cD 1 iQ
def iR:af->aC:=
  (aP (kE (aW mu (ae (aa 0) ak)))
  (aP (cJ 1 (aW oA (ae (aa 0) ak)))
  (aP (cJ 2 (pE (aW nA (ae (aa 0) ak))))
  (aP (cJ 3 (lG (BV (aa 2)) [none] (aD 0) cE (aK (aa 0)) (aq (.bl true))))
  (aP (eQ 4 (dD (di eG (ae (aj aH (aa 0) (aq (.int 0))) ak)) [none,some 3] (aD 0) (bh (aj (fK true) (aa 0) (aa 1))) (aK (aa 0))))
  (aP (eQ 5 (aq (.dct [] [])))
  (aP (cJ 6 (aq (.int 0)))
  (aP (mi (bh (aj fh (aa 6) (aN b0 (ae (cc 4) ak))))
   (aP (cJ 7 (aK (aj aH (cc 4) (aa 6))))
   (aP (ff (bS (aj aH (aa 1) (aa 7))) (aD 8)
    (cI (bh (aj (fK true) (aa 8) (cc 5)))
     (aP (n9 5 (aa 8) (aq (.bl true)))
     (fy 4 (aj sE (aa 2) (aa 8))))
     aC.nx))
   (Bx (dg (λ _ _=>true) λ a b=>.int (a+b)) 6 (aq (.int 1))))))
  (retS (ck (ae (aN gT (ae (dD (di eG (ae (aj aH (aa 0) (aq (.int 0))) ak)) [none,some 4] (aD 0) (bh (aj (eI true) (aa 0) (aa 1))) (aK (aa 0))) ak)) (ae (aN gT (ae (aN xZ (ae (cc 5) ak)) ak)) ak))))))))))))
def Cq:List D->ag D:=cD 9 iR
def jM:af->aC:=
  (aP (kE (aW vy (ae (aa 0) ak)))
  (retS (aW B8 (ae (aj aH (aa 0) (aq (.int 0))) (ae (aW Cp (ae (aa 0) ak)) ak)))))
def Cr:List D->ag D:=cD 1 jM
def jP:af->aC:=
  (retS (ck (ae (aW Cr (ae (aa 0) ak)) (ae (aW Cq (ae (aa 0) ak)) ak))))
def vB:List D->ag D:=cD 1 jP
def GZ:af->ag (List D):=di eG (ae (aN (pk λ i j=>if j>i then j else i) (ae (aq (.int 1)) (ae (aN (pk λ i j=>if j<i then j else i) (ae (aN b0 (ae (aa 0) ak)) (ae (aq (.int 8)) ak))) ak))) ak)
def G0:af->aC:=cJ 2 (aW yi (ae (aa 0) (ae (aa 1) ak)))
def G1:af->aC:=cJ 3 (aW yy (ae (aa 2) (ae (aq (.int 6)) ak)))
def G2:af->aC:=cJ 4 (aW vB (ae (aa 3) ak))
def G3:af->aC:=cI (dc (cX (aW yH (ae (aa 3) (ae (aa 4) ak))))) (retS (aq (.bl false))) aC.nx
def G4:af->aC:=cJ 5 (aj aH (aW B5 (ae (aa 3) (ae (aW Cb (ae (aa 2) (ae (aa 3) ak))) ak))) (aq (.int 0)))
def G5:af->ag D:=dD (bS (aj aH (aa 3) (aq (.int 1)))) [none,none] (eA 2 (bR (aD 0) (bR (aD 1) eD))) cE (aK (aa 0))
def G6:af->aC:=cJ 6 (aN gT (ae (aN xU (ae G5 ak)) ak))
def G7:af->aC:=ie 7 (dC (ae (aK (aa 4)) (ae (ck (ae (aK (aa 5)) (ae (aK (aj aH (aa 4) (aq (.int 1)))) ak))) (ae (ck (ae (aK (aj aH (aa 4) (aq (.int 0)))) (ae (ck (ae (aK (aa 6)) (ae (ck ak) ak))) ak))) (ae (ck (ae (aK (aa 5)) (ae (ck (ae (aK (aa 6)) (ae (ck ak) ak))) ak))) (ae (aW yt (ae (aa 2) ak)) ak))))))
def G8:af->aC:=ie 8 (ck (ae (aW vw (ae (aa 2) (ae (aq (.int 80)) (ae (aj aH (aj aH (aa 4) (aq (.int 1))) (aq (.int 0))) (ae (aj aH (aa 3) (aq (.int 0))) ak))))) (ae (aK (aj aH (aj aH (aa 4) (aq (.int 1))) (aq (.int 1)))) ak)))
def G9:af->aC:=ie 7 (aj bK (fG 7) (dC (ae (ck (ae (aW yz (ae (aa 2) (ae (aq (.int 70)) (ae (aj aH (aa 4) (aq (.int 0))) (ae (aj aH (aa 3) (aq (.int 0))) ak))))) (ae (aK (aj aH (aa 4) (aq (.int 1)))) ak))) (ae (ck (ae (aK (aj aH (aa 4) (aq (.int 0)))) (ae (fG 8) ak))) ak))))
def Hc:af->aC:=ie 7 (aj bK (fG 7) (dC (ae (aK (dq u5 (aa 4))) (ae (aN qS (ae (aK (aa 4)) ak)) (ae (aK (iB (aa 4) iz (iA (aq (.int 1))))) (ae (aj bK (aK (aa 4)) (ck (ae (ck ak) ak))) ak))))))
def Cs:af->aC:=aP (cJ 10 (aW Co (ae (aa 3) (ae (aa 9) ak)))) (cI (gq (dc (cX (dq (eR "bool") (aa 10)))) (bh (aj (b9 true) (aa 10) (aW yH (ae (aa 3) (ae (aa 9) ak)))))) (retS (aq (.bl false))) aC.nx)
def Pq:af->aC:=ff (bS (fG 7)) (aD 9) Cs
def Ct:af->aC:=aP G0 (aP G1 (aP G2 (aP G3 (aP G4 (aP G6 (aP G7 (aP G8 (aP G9 (aP Hc Pq)))))))))
def Hd:af->ag D:=aj (b9 false) (aW vB (ae (ck (ae (aq (.int 0)) (ae (ck ak) ak))) ak)) (ck (ae (ck ak) (ae (ck (ae (ck ak) (ae (ck ak) ak))) ak)))
def zy:af->aC:=aP (ff GZ (aD 1) Ct) (retS Hd)
def He:List D->ag D:=cD 11 zy
theorem Pr(f:0<b)(a:b<1073741824):∀(ds:List D) (x:Int) (s:Slot),(∀d∈ds,∃n:Int,d= .int n)->
  ∃y s',forL (aD 4) (cJ 3 (aj sf (aa 3) (aa 2))) ds [.sh (.int c),.sh (.int k),.sh (.int b),.sh (.int x),s,.no]= .nx [.sh (.int c),.sh (.int k),.sh (.int b),.sh (.int y),s',.no]
 |[],x,s,_=>⟨x,s,rfl⟩
 |d::ds,x,s,h=>by
  have i:=Pr f a (c:=c) (k:=k) ds (x / b) (.sh d) λ e g=>h e (dN _ g)
  rw[sH];simp[Ph f a];exact i
def Hf(g:0<=k)(i:k<2^40)(h:0<b)(a:b<1073741824):∃r:Int,gN [.int c,.int k,.int b]= .ok (.int r)/\0<=r/\r<b:=by
 have ah:xK (.int 10) (.int 18)= .ok (.int 1000000000000000000):=rfl;by_cases f:(1000000000000000000:Int)<=c
 .have hr:=lM (j:=k) (by lia) (by lia)
  obtain⟨y,s',e⟩:=Pr h a (c:=c) (k:=k) (cw 0 k) c .no λ d l=>let⟨n,e,_⟩:=rf.mp l;⟨n,e⟩
  refine⟨y%b,?_,zv _ (by lia),zt _ h⟩;simp[gN,jN,cf,ah,f,hr,e,vp h]
 .have s:∀z:Int,0<=z%2147483647/\z%2147483647<2147483647:=λ z=>⟨zv _ (by decide),zt _ (by decide)⟩
  have s2:∀z:Int,0<=z%2147483629/\z%2147483629<2147483629:=λ z=>⟨zv _ (by decide),zt _ (by decide)⟩
  have m:∀z,gu (.int 1009) (.int z)= .ok (.int (1009*z)):=λ z=>BZ (by decide) (by decide)
  have o:∀z,gu (.int z) (.int 69621)= .ok (.int (z*69621)):=λ z=>Pi (by decide) (by decide)
  have p:∀z,gu (.int 40503) (.int z)= .ok (.int (40503*z)):=λ z=>BZ (by decide) (by decide)
  have q:∀z,gu (.int z) (.int 48271)= .ok (.int (z*48271)):=λ z=>Pi (by decide) (by decide)
  have t:∀z:Int,gu (.int (z%2147483647)) (.int (z%2147483647))= .ok (.int (z%2147483647*(z%2147483647))):=λ z=>BZ (by have:=s z;lia) (by have:=s z;lia)
  have u:∀z,j6 (.int z) (.int 1000000007)= .ok (.int (z%1000000007)):=λ z=>vp (by decide)
  have v:∀z,j6 (.int z) (.int 2147483647)= .ok (.int (z%2147483647)):=λ z=>vp (by decide)
  have w:∀z,j6 (.int z) (.int 2147483629)= .ok (.int (z%2147483629)):=λ z=>vp (by decide)
  have x:∀z,sf (.int z) (.int 32)= .ok (.int (z / 32)):=λ z=>Ph (by decide) (by decide)
  have A:∀z,j6 (.int z) (.int b)= .ok (.int (z%b)):=λ z=>vp h
  simp[gN,jN,cf,ah,f,m,o,p,q,t,u,v,w,x,A,-Int.emod_emod_of_dvd];exact⟨zv _ (by lia),zt _ h⟩
def oD(h:0<=k)(a:k<2^40)(f:0<b)(d:b<1073741824):∃r:Nat,gN [.int c,.int k,.int b]= .ok (.int r)/\(r:Int)<b:=by
 obtain⟨r,e,g,i⟩:=Hf (c:=c) h a f d;exact⟨r.toNat,by rw[pS g];exact e,by lia⟩
def Yh(h:0<=k):∃c:Int,yi [.scr ns,.int k]= .ok (.int c):=by
 by_cases a:k<ns.length
 .obtain⟨d,e,m,_⟩:=yf (l:=ns.map .int) (i:=k) h (by simpa using a)
  obtain⟨c,_,rfl⟩:=dj.mp m;exact⟨c,by simp[yi,eY,cf,a,e]⟩
 .exact⟨0,by simp[yi,eY,cf,a]⟩
mutual
def pln:D->Bool
 | .tup l=>cU l
 | .lst l=>cU l
 | .set _=>false
 | .scr _=>false
 | .fn _=>false
 | .itm _ _=>false
 | .itx _ _=>false
 |_=>true
def cU:List D->Bool
 |[]=>true
 |d::r=>pln d&&cU r
end
def i5(h:pln d=true):knd d=true:=by cases d<;>first|rfl|(simp[pln]at h)
theorem lN:∀{l:List D} {d:D},cU l=true->d∈l->pln d=true
 |x::r,d,h,m=>by
  simp only[cU,cM]at h;rcases b8.mp m with rfl|m
  .exact h.1
  .exact lN h.2 m
theorem sT:∀{l:List D},(∀d∈l,pln d=true)->cU l=true
 |[],_=>rfl
 |x::r,h=>by
  simp only[cU,cM];exact⟨h x (c0 ..),sT λ d a=>h d (dN _ a)⟩
def vC:D->Bool
 | .int _=>true
 |_=>false
def Cu:D->Bool
 | .int i=>decide (0<=i)&&decide (i<=60)
 |_=>false
def dW(m:Int):D->Bool
 | .int i=>decide (0<=i)&&decide (i<m)
 |_=>false
def Pu(h:knd d=true):yg [d]= .ok (.bl (vC d)):=by
 simp[yg,kO,cf,Pl h,GE h];cases d<;>rfl
def Yi(h:knd d=true):B6 [d]= .ok (.bl (Cu d)):=by
 simp[B6,mY,cf,Pu h];cases d<;>simp[vC,Cu]
 rename_i i;by_cases a:0<=i<;>simp[a]
def Cv(h:knd d=true):nz [.int m,d]= .ok (.bl (dW m d)):=by
 simp[nz,kW,cf,Pu h];cases d<;>simp[vC,dW]
 rename_i i;by_cases a:0<=i<;>simp[a]
def ke(m:Int):D->Bool
 | .tup [.int a,.int b]=>decide (0<=a)&&decide (a<m)&&decide (0<=b)&&decide (b<m)&& !(a==b)
 |_=>false
def Hg(h:dW m d=true):∃i:Int,d= .int i/\0<=i/\i<m:=by
 cases d with
 |int i=>simp[dW]at h;exact⟨i,rfl,h.1,h.2⟩
 |_=>simp[dW]at h
def yO(h:hQ d=true):∃l,d= .tup l:=by cases d<;>first|exact⟨_,rfl⟩|(cases h)
def vD(h:l.length=2):∃x y,l=[x,y]:=by
 match l,h with
 |[x,y],_=>exact⟨x,y,rfl⟩
def Yj(h:hQ d=false):ke m d=false:=by cases d<;>first|rfl|(cases h)
def Yk(h:l.length≠2):ke m (.tup l)=false:=by
 match l,h with
 |[],_=>rfl
 |[x],_=>cases x<;>rfl
 |[x,y],h=>exact absurd rfl h
 |x::y::z::r,_=>cases x<;>first|rfl|(cases y<;>rfl)
def Yl(h:dW m x=false):ke m (.tup [x,y])=false:=by
 cases x with
 |int i=>
  cases y with
  |int j=>
   show((((decide (0<=i)&&decide (i<m))&&decide (0<=j))&&decide (j<m))&& !(i==j))=false
   rw[show(decide (0<=i)&&decide (i<m))=false from h];rfl
  |_=>rfl
 |_=>rfl
def Ym(h:dW m y=false):ke m (.tup [.int i,y])=false:=by
 cases y with
 |int j=>
  show((((decide (0<=i)&&decide (i<m))&&decide (0<=j))&&decide (j<m))&& !(i==j))=false
  rw[CV (decide (0<=i)&&decide (i<m)),show(decide (0<=j)&&decide (j<m))=false from h,zk];rfl
 |_=>rfl
def Yn(h:dW m (.int i)=true)(a:dW m (.int j)=true):ke m (.tup [.int i,.int j])= !(i==j):=by
 show((((decide (0<=i)&&decide (i<m))&&decide (0<=j))&&decide (j<m))&& !(i==j))= !(i==j)
 rw[CV (decide (0<=i)&&decide (i<m)),show(decide (0<=j)&&decide (j<m))=true from a,show(decide (0<=i)&&decide (i<m))=true from h];rfl
def Yo(k:knd d=true)(h:hQ d=false):sJ [s,.sh d]= .rt (.bl false):=by simp[sJ,kN k,h]
def Yp(h:l.length≠2):sJ [s,.sh (.tup l)]= .rt (.bl false):=by
 have:¬((l.length:Int)=2):=by omega
 simp[sJ,this]
def Yq:sJ [s,.sh (.tup [x,y])]= .nx [s,.sh (.tup [x,y])]:=by simp[sJ]
def Yr(h:pln d=true):yw [.int m,d]= .ok (.bl (ke m d)):=by
 have st:cf 2 [.int m,d]=[.sh (.int m),.sh d]:=rfl;simp only[yw,mX,cO,st];cases t:hQ d with
 |false=>rw[bc,Yo (i5 h) t,Yj t];rfl
 |true=>
  obtain⟨l,rfl⟩:=yO t;by_cases a:l.length=2
  .obtain⟨x,y,rfl⟩:=vD a
   simp only[pln,cU,cM]at h;have e:=Cv (m:=m) (i5 h.1);have f:=Cv (m:=m) (i5 h.2.1);have g:aW nz (ae (aa 0) (ae (aj aH (aa 1) (aq (.int 0))) ak)) [.sh (.int m),.sh (.tup [x,y])]= .ok (.bl (dW m x)):=by simp[e]
   have k:aW nz (ae (aa 0) (ae (aj aH (aa 1) (aq (.int 1))) ak)) [.sh (.int m),.sh (.tup [x,y])]= .ok (.bl (dW m y)):=by simp[f]
   rw[bc,Yq,bj,kc,BX,g,aO,BW,BX,k,aO,BW];cases c:dW m x with
   |false=>rw[Yl c];rfl
   |true=>
    obtain⟨i,rfl,_,_⟩:=Hg c;cases b:dW m y with
    |false=>rw[Ym b];rfl
    |true=>
     obtain⟨j,rfl,_,_⟩:=Hg b;rw[Yn c b];rfl
  .rw[bc,Yp a,Yk a];rfl
def aS(p:Int×Int):D:=.tup [.int p.1,.int p.2]
def sW(p q:Int×Int):Bool:=HT.lexLt [p.1,p.2] [q.1,q.2]
def nB:aJ->Bool
 |[]=>true
 |[_]=>true
 |p::q::r=>sW p q&&nB (q::r)
def Ys(p q:Int×Int):fh (aS p) (aS q)= .ok (.bl (sW p q)):=GD [p.1,p.2] [q.1,q.2]
theorem td:∀(ds:List D) (ok:Nat->Bool) (I:af->Prop) (ρ:af),I ρ->(∀(i:Nat) d ρ,ds[i]? =some d->I ρ->lL (a d ρ) u= .rt r/\ok i=false\/∃b,lL (a d ρ) u= .nx b/\I b/\ok i=true)->
  (forL a u ds ρ= .rt r/\∃i,i<ds.length/\ok i=false)\/(∃b,forL a u ds ρ= .nx b/\I b/\∀i,i<ds.length->ok i=true)
 |[],ok,I,ρ,h,_=>.inr ⟨ρ,rfl,h,λ i j=>absurd j (wo _)⟩
 |d::ds,ok,I,ρ,h,s=>by
  rw[sH];rcases s 0 d ρ rfl h with ⟨e,o⟩|⟨b,e,h',o⟩
  .left
   refine⟨?_,0,by simp,o⟩;cases f:a d ρ with
   |ok g=>rw[f]at e;simp at e ⊢;rw[e];rfl
   |ex c=>rw[f]at e;cases e
   |st=>rw[f]at e;cases e
  .have n:=td ds (λ i=>ok (i+1)) I b h' λ i p ρ2 q t=>s (i+1) p ρ2 (by simpa using q) t
   have v:lL (a d ρ) (λ g=>(u g).tn (forL a u ds))=forL a u ds b:=by
    cases f:a d ρ with
    |ok g=>rw[f]at e;simp at e ⊢;rw[e];rfl
    |ex c=>rw[f]at e;cases e
    |st=>rw[f]at e;cases e
   rw[v];rcases n with ⟨k,i,j,l⟩|⟨m,k,w,l⟩
   .exact .inl ⟨k,i+1,by simpa using j,l⟩
   .refine .inr ⟨m,k,w,λ i j=>?_⟩
    cases i with
    |zero=>exact o
    |succ i=>exact l i (by simpa using j)
def vE{i:Nat}(h:(cw lo hi)[i]? =some d):d= .int (lo+i)/\lo+i<hi:=by
 unfold cw at h;rw[da]at h;by_cases a:i<(hi-lo).toNat
 .rw[zF a]at h
  cases h;exact⟨rfl,by omega⟩
 .rw[zE (by simpa using a)]at h
  cases h
def pI:(cw lo hi).length=(hi-lo).toNat:=by unfold cw;simp
section
variable{α:Type}{f:α->D}{lt:α->α->Bool}
def fA(lt:α->α->Bool):List α->Bool
 |[]=>true
 |[_]=>true
 |p::q::r=>lt p q&&fA lt (q::r)
theorem yP:∀{ps:List α},fA lt ps=true↔∀(i:Nat) (p q:α),ps[i]? =some p->ps[i+1]? =some q->lt p q=true
 |[]=>by simp[fA]
 |[x]=>by
  simp only[fA,true_iff];intro i p q _ b;simp at b
 |x::y::r=>by
  have c:=yP (ps:=y::r);unfold fA;rw[cM,c];constructor
  .rintro⟨d,b⟩ i p q e a
   cases i with
   |zero=>simp at e a;subst e a;exact d
   |succ i=>exact b i p q (by simpa using e) (by simpa using a)
  .intro h
   exact⟨h 0 x y rfl rfl,λ i p q e a=>h (i+1) p q (by simpa using e) (by simpa using a)⟩
def Hh(h:∀a b,fh (f a) (f b)= .ok (.bl (lt a b)))(x:ps.length<=100000):ou [.tup (ps.map f)]= .ok (.bl (fA lt ps)):=by
 have hr:=GF (i:=1) (j:=(ps.length:Int)) (by decide) (by decide) (by omega) (by omega);have X:(cw 1 (ps.length:Int)).length=ps.length-1:=by rw[pI];omega
 have L:=td (a:=aD 1) (u:=cI (dc (bh (aj fh (aj aH (aa 0) (aj jh (aa 1) (aq (.int 1)))) (aj aH (aa 0) (aa 1))))) (retS (aq (.bl false))) aC.nx) (r:=.bl false)
  (cw 1 (ps.length:Int)) (λ i=>match ps[i]?,ps[i+1]? with|some p,some q=>lt p q|_,_=>true) (λ ρ=>∃s,ρ=[.sh (.tup (ps.map f)),s]) [.sh (.tup (ps.map f)),.no] ⟨_,rfl⟩ (by
   rintro i d ρ n ⟨s,rfl⟩;obtain⟨rfl,t⟩:=vE n;have k:ps[i]? =some ps[i]:=bP (by omega);have g:ps[i+1]? =some ps[i+1]:=bP (by omega);have l:cN (ps.map f) (1+(i:Int)-1)= .ok (f ps[i]):=by
    rw[show(1+(i:Int)-1)=(i:Int)by omega];exact jH (by rw[da,k];rfl)
   have m:cN (ps.map f) (1+(i:Int))= .ok (f ps[i+1]):=by
    rw[show(1+(i:Int))=((i+1:Nat):Int)by omega];exact jH (by rw[da,g];rfl)
   simp only[k,g];cases c:lt ps[i] ps[i+1]with
   |true=>right;exact⟨_,by simp[l,m,h,c];rfl,⟨_,rfl⟩,rfl⟩
   |false=>left;exact⟨by simp[l,m,h,c],rfl⟩)
 have st:cf 2 [.tup (ps.map f)]=[.sh (.tup (ps.map f)),.no]:=rfl;rcases L with ⟨e,i,v,o⟩|⟨w,e,⟨s,rfl⟩,o⟩
 .have:fA lt ps=false:=by
   cases c:fA lt ps with
   |false=>rfl
   |true=>
    rw[X]at v;have z:=yP.mp c i ps[i] ps[i+1] (bP (by omega)) (bP (by omega));rw[bP (by omega),bP (by omega)]at o;simp only at o;rw[z]at o;cases o
  rw[this];simp only[ou,gn,cO,st];simp[hr,e]
 .have:fA lt ps=true:=yP.mpr λ i p q k g=>by
   have t:=(fC.mp g).1
   have:=o i (by rw[X];omega)
   rw[k,g]at this;exact this
  rw[this];simp only[ou,gn,cO,st];simp[hr,e]
end
theorem Hi:∀ps:aJ,nB ps=fA sW ps
 |[]=>rfl
 |[_]=>rfl
 |p::q::r=>by unfold nB fA;rw[Hi (q::r)]
def Yt(h:ps.length<=100000):ou [.tup (ps.map aS)]= .ok (.bl (nB ps)):=by
 rw[Hi];exact Hh Ys h
def vF(a b:Int):Bool:=decide (a<b)
def Yu(h:ps.length<=100000):ou [.tup (ps.map .int)]= .ok (.bl (fA vF ps)):=Hh (λ a b=>by rw[Pj];rfl) h
def Hj:nB ps=true↔∀(i:Nat) (p q:Int×Int),ps[i]? =some p->ps[i+1]? =some q->sW p q=true:=by rw[Hi];exact yP
def Cw:D->Int×Int
 | .tup [.int a,.int b]=>(a,b)
 |_=>(0,0)
def Yv(h:ke m d=true):∃a b:Int,d= .tup [.int a,.int b]/\0<=a/\a<m/\0<=b/\b<m/\a≠b:=by
 unfold ke at h;split at h
 .rename_i a b
  simp at h;exact⟨a,b,rfl,h.1.1.1.1,h.1.1.1.2,h.1.1.2,h.1.2,h.2⟩
 .cases h
theorem Pv:∀{s:List D},s.all (ke m)=true->(s.map Cw).map aS=s
 |[],_=>rfl
 |t::s,h=>by
  rw[tO,cM]at h;obtain⟨a,b,rfl,_⟩:=Yv h.1;simp only[bu];rw[Pv h.2];rfl
def vG(m:Int):D->Bool
 | .tup t=>t.all (ke m)&&nB (t.map Cw)
 |_=>false
def kP:D->Bool
 | .tup l=>decide (l.length<=100000)
 |_=>true
def Yw(h:pln d=true)(k:kP d=true):vx [.int m,d]= .ok (.bl (vG m d)):=by
 cases d with
 |tup b=>
  have ah:cU b=true:=by simpa[pln]using h
  have l:b.length<=100000:=by simpa[kP]using k
  have L:=td (a:=aD 2) (u:=cI (dc (cX (aW yw (ae (aa 0) (ae (aa 2) ak))))) (retS (aq (.bl false))) aC.nx) (r:=.bl false)
   b (λ i=>match b[i]? with|some t=>ke m t|none=>true) (λ ρ=>∃s,ρ=[.sh (.int m),.sh (.tup b),s]) [.sh (.int m),.sh (.tup b),.no] ⟨_,rfl⟩ (by
    rintro i d ρ g ⟨s,rfl⟩;have e:=Yr (m:=m) (lN ah (jK g));simp only[g];cases c:ke m d with
    |true=>right;exact⟨_,by simp[e,c];rfl,⟨_,rfl⟩,rfl⟩
    |false=>left;exact⟨by simp[e,c],rfl⟩)
  have st:cf 3 [.int m,.tup b]=[.sh (.int m),.sh (.tup b),.no]:=rfl;rcases L with ⟨e,i,f,o⟩|⟨n,e,⟨s,rfl⟩,o⟩
  .have:b.all (ke m)=false:=by
    rw[zK];rw[bP f]at o;exact⟨b[i],qb f,by simpa using o⟩
   simp only[vx,bV,cO,st];simp[e,vG,this]
  .have:b.all (ke m)=true:=by
    rw[gF];intro t p;obtain⟨i,f,rfl⟩:=tJ p
    have:=o i f
    rw[bP f]at this;exact this
   have j:=Yt (ps:=b.map Cw) (by rw[bg];exact l);rw[Pv this]at j;simp only[vx,bV,cO,st];simp[e,vG,this,j]
 |_=>simp[vx,bV,cf,kN (i5 h),hQ,vG]
theorem oE:∀(ds:List D) (P:Nat->af->Prop) (ρ:af),P 0 ρ->(∀(i:Nat) d ρ,ds[i]? =some d->P i ρ->∃b,lL (a d ρ) u= .nx b/\P (i+1) b)->∃b,forL a u ds ρ= .nx b/\P ds.length b
 |[],P,ρ,h,_=>⟨ρ,rfl,h⟩
 |d::ds,P,ρ,h,s=>by
  obtain⟨f,e,l⟩:=s 0 d ρ rfl h;obtain⟨ρ2,g,j⟩:=oE (a:=a) (u:=u) ds (λ i=>P (i+1)) f l λ i m ρ2 g j=>s (i+1) m ρ2 (by simpa using g) j
  refine⟨ρ2,?_,by simpa using j⟩;rw[sH];cases k:a d ρ with
  |ok n=>rw[k]at e;simp at e ⊢;rw[e];exact g
  |ex c=>rw[k]at e;cases e
  |st=>rw[k]at e;cases e
def Pw(l:List α)(i:Int)(y:α):(jO l i y).Perm (y::l):=by
 unfold jO;generalize (if i<0 then(i+(l.length:Int)).toNat else min i.toNat l.length)=k
 have:(l.take k++y::l.drop k).Perm (y::(l.take k++l.drop k)):=List.perm_middle
 rwa [C7]at this
def Yx(f:α->β)(l:List α)(i:Int)(y:α):jO (l.map f) i (f y)=(jO l i y).map f:=by
 unfold jO;rw[bg,gi,bu,List.map_take,List.map_drop]
structure Cx(n:Nat)(os:List Int):Prop where
 len:os.length=n
 nd:os.Nodup
 lo:∀x∈os,0<=x/\x<n
def Yy{n:Nat}(p:n<=60):∃os,yr [.int c,.int n]= .ok (.lst (os.map .int))/\Cx n os:=by
 have hr:=lM (j:=(n:Int)) (by lia) (by lia);have X:(cw 0 (n:Int)).length=n:=by rw[pI];lia
 obtain⟨g,e,s,os,rfl,h⟩:=oE (a:=aD 3) (u:=xR 2 (aW gN (ae (aa 0) (ae (aj bK (aq (.int 100)) (aa 3)) (ae (aj bK (aa 3) (aq (.int 1))) ak)))) (aK (aa 3))) (cw 0 (n:Int))
  (λ i ρ=>∃s os,ρ=[.sh (.int c),.sh (.int n),.ow (.lst (os.map .int)),s]/\Cx i os) [.sh (.int c),.sh (.int n),.ow (.lst []),.no] ⟨.no,[],rfl,rfl,by simp,λ x f=>by simp at f⟩ (by
   rintro i d ρ l ⟨s,os,rfl,h⟩;obtain⟨rfl,t⟩:=vE l;obtain⟨r,m,r0,v⟩:=Hf (c:=c) (k:=100+(i:Int)) (b:=(i:Int)+1) (by lia) (by lia) (by lia) (by lia);have hz: -9223372036854775808<=r/\r<9223372036854775808/\os.length<16777216:=⟨by lia,by lia,by rw[h.len];lia⟩;refine⟨[.sh (.int c),.sh (.int n),.ow (.lst ((jO os r (0+(i:Int))).map .int)),.sh (.int (0+(i:Int)))],?_,_,_,rfl,?_,?_,λ x f=>?_⟩
   .rw[<-Yx]
    simp only[oq,q9,xR];simp[m,hz]
   .rw[On,h.len]
   .refine(Pw os r _).nodup_iff.mpr (iq.mpr ⟨λ o=>?_,h.nd⟩)
    have:=h.lo _ o
    lia
   .rcases b8.mp ((Pw os r _).mem_iff.mp f)with q|q
    .lia
    .have:=h.lo x q
     lia)
 rw[X]at h;refine⟨os,?_,h⟩;simp[yr,kJ,cf,hr,e]
def pl(p:Int×Int):List Int:=[p.1,p.2]
def ah(p:Int×Int):Int:=uy (pl p)
theorem Cy:∀{L:List α},(L.map f).Nodup->∀x∈L,∀y∈L,f x=f y->x=y
 |a::L,h,x,c,y,b,e=>by
  rw[bu,iq]at h;rcases b8.mp c with q|q
  .rcases b8.mp b with z|z
   .rw[q,z]
   .subst q
    exact absurd (dj.mpr ⟨y,z,e.symm⟩) h.1
  .rcases b8.mp b with z|z
   .subst z
    exact absurd (dj.mpr ⟨x,q,e⟩) h.1
   .exact Cy h.2 x q y z e
theorem Hk:∀{l:List α},l.Nodup->(∀x∈l,∀y∈l,f x=f y->x=y)->(l.map f).Nodup
 |[],_,_=>by simp
 |a::l,h,i=>by
  rw[iq]at h;rw[bu,iq];refine⟨λ m=>?_,Hk h.2 λ x b y c e=>i x (dN _ b) y (dN _ c) e⟩;obtain⟨x,b,e⟩:=dj.mp m
  have:=i x (dN _ b) a c0 e
  subst this;exact h.1 b
structure ef(n:Int)(ps:aJ):Prop where
 n0:0<=n
 n1:n<=60
 len:ps.length<=3600
 pr:∀p∈ps,0<=p.1/\p.1<n/\0<=p.2/\p.2<n/\p.1≠p.2
 ris:nB ps=true
def ay(n:Int)(ps:aJ):D:=.tup [.int n,.tup (ps.map aS)]
def Yz(p:Int×Int):tupI (pl p)=aS p:=rfl
def YA(h:pl p=pl q):p=q:=by
 unfold pl at h;injection h with h1 h2
 injection h2 with h2 _
 exact tT h1 h2
def YB(l:ps.Nodup):∃qs:aJ,sr (ps.map pl)=qs.map pl/\qs.Perm ps/\nB qs=true:=by
 obtain⟨qs,g,j⟩:=FM (f:=pl) (FR (ps.map pl)) rfl;refine⟨qs,j,g,Hj.mpr λ i p q a b=>?_⟩;have hr:=FS (ps.map pl);rw[j]at hr;have h:qs.Nodup:=g.nodup_iff.mpr l;have d:=(fC.mp a).1;have k:=(fC.mp b).1;have m:(qs.map pl)[i]'(by simpa using d)=pl p:=by
  rw[tM,(fC.mp a).2]
 have o:(qs.map pl)[i+1]'(by simpa using k)=pl q:=by
  rw[tM,(fC.mp b).2]
 have z:=zB.mp hr i (i+1) (by simpa using d) (by simpa using k) (by lia);rw[m,o]at z;have n:p≠q:=λ e=>by
  subst e
  have:=(wc d h).mp (a.trans b.symm)
  lia
 show HT.lexLt (pl p) (pl q)=true;cases c:HT.lexLt (pl p) (pl q)with
 |true=>rfl
 |false=>exact absurd (YA (xP _ _ c z)) n
def Px(ps:aJ):px (ps.map aS)=some (ps.map pl):=by
 have:=N6 (nss:=ps.map pl) λ ns h=>by
  obtain⟨p,_,rfl⟩:=dj.mp h;simp[pl]
 rw[cV]at this;exact this
def ar(os:List Int)(q:Nat×Nat):Int×Int:=(os.getD q.1 0,os.getD q.2 0)
def Hl{os:List Int}{k:Nat}(h:k<os.length):cN (os.map D.int) (k:Int)= .ok (.int (os.getD k 0)):=jH (by rw[da,bP h];simp[h])
def YC{n:Nat}(e:n<=60){i:List (Nat×Nat)}(d:i.Nodup)(h:∀q∈i,q.1<n/\q.2<n):i.length<=3600:=by
 have:=sub_len (l':=(dY 60).flatMap λ a=>(dY 60).map λ b=>(a,b)) d λ q c=>by
  rw[Jy]
  have:=h q c
  exact⟨q.1,by simp;omega,dj.mpr ⟨q.2,by simp;omega,rfl⟩⟩
 refine fD this ?_;rw[List.length_flatMap];simp only[bg,zL];decide
def ef.rp{n:Int}{ps:aJ}(h:ef n ps):vG n (.tup (ps.map aS))=true:=by
 have e:(ps.map aS).map Cw=ps:=by rw[cV];exact(rz λ p _=>rfl).trans (zQ ps)
 unfold vG;cb_eq;rw[e,h.ris,mB,gF];intro d f;obtain⟨p,ah,rfl⟩:=dj.mp f;obtain⟨a,b,c,d,e⟩:=h.pr p ah;simp[aS,ke,a,b,c,d,e]
theorem Py:∀ps:aJ,cU (ps.map aS)=true
 |[]=>rfl
 |p::ps=>by simp only[bu,cU,Py ps,mB];rfl
def YD{n:Int}{ps:aJ}(h:ef n ps):Cj [ay n ps]= .ok (.bl true):=by
 have e:=Yi (d:=.int n) rfl;have a:=Yw (m:=n) (d:=.tup (ps.map aS)) (by simpa[pln]using Py ps) (by have:=h.len;simp[kP];lia);rw[h.rp]at a;have b:Cu (.int n)=true:=by simp[Cu,h.n0,h.n1]
 rw[b]at e;simp[Cj,iW,ay,cf,e,a]
def yQ{n:Int}{ps:aJ}(h:ef n ps):mu [ay n ps]= .ok .non:=by
 have:=YD h
 simp[mu,eE,cf,this]
theorem yR:∀ns:List Int,gK (ns.map .int)=0/\dS (ns.map .int)=true
 |[]=>⟨rfl,rfl⟩
 |n::ns=>by
  obtain⟨h,a⟩:=yR ns;simp[gK,jE,dS,cz,h,a]
theorem Hm:∀ps:aJ,gK (ps.map aS)<=1/\dS (ps.map aS)=true
 |[]=>⟨by simp[gK],rfl⟩
 |p::ps=>by
  obtain⟨h,a⟩:=Hm ps;simp[gK,jE,dS,cz,a,aS,h]
def Cz(n:Bool)(y:Int)(ns:List Int):eI n (.int y) (.lst (ns.map .int))= .ok (.bl (if n then !decide (y∈ns)else decide (y∈ns))):=by
 obtain⟨h,a⟩:=yR ns;have e:nf (.int y) (ns.map .int)=decide (y∈ns):=by
  unfold nf;rw[oH];simp[nE,dE]
 unfold eI;cb_eq;rw[h,a,e];rfl
def YE(n:Bool)(q:Int×Int)(ps:aJ):eI n (aS q) (.tup (ps.map aS))= .ok (.bl (if n then !decide (q∈ps)else decide (q∈ps))):=by
 obtain⟨d,a⟩:=Hm ps;have e:nf (aS q) (ps.map aS)=decide (q∈ps):=by
  unfold nf;rw[oH];simp only[JE,nE,Function.comp,decide_eq_true_eq];constructor
  .rintro⟨p,ah,h⟩
   simp[aS,dE,hP]at h
   have:p=q:=tT h.1 h.2
   exact this▸ah
  .intro h
   exact⟨q,h,by simp[aS,dE,hP]⟩
 unfold eI;cb_eq;have b:decide (gK (ps.map aS)<=60)=true:=by simp;lia
 have c:cz (aS q)=true:=rfl;rw[a,e,b,c];rfl
theorem rh{ρ:af}{fg:D->af->ag af}{fe:af->ag D}{g:D->D}:∀(ds:List D),(∀d∈ds,∃a,fg d ρ= .ok a/\fe a= .ok (g d))->eS ρ fg cE fe ds= .ok (ds.map g)
 |[],_=>rfl
 |d::ds,h=>by
  obtain⟨a,b,c⟩:=h d c0;have i:=rh ds λ e f=>h e (dN _ f)
  unfold eS;rw[b,aO,Ye,aO,if_pos rfl,c,aO,i,aO];rfl
def Pz{d:D}(h:knd d=true):yj [d]= .ok (.bl (vC d)):=by
 simp[yj,jQ,cf,Pl h,GE h];cases d<;>rfl
def YF{α:Type}(f:α->Bool)(l:List α):boolsOf (l.map λ x=>D.bl (f x))=some (l.map f):=by
 have:=Nl (l.map f)
 rwa [cV]at this
def CA{α:Type}(f:α->Bool)(l:List α):ik (λ bs=>bs.all id) [.lst (l.map λ x=>D.bl (f x))]= .ok (.bl (l.all f)):=by
 unfold ik;cb_eq;rw[YF];cb_eq;rw[zO];rfl
theorem pK{α:Type}{ρ:af}{fg:D->af->ag af}{ft:af->ag Bool}{fe:af->ag D}{f g:α->D}{t:α->Bool}:∀(l:List α),(∀x∈l,∃a,fg (f x) ρ= .ok a/\ft a= .ok (t x)/\fe a= .ok (g x))->eS ρ fg ft fe (l.map f)= .ok ((l.filter t).map g)
 |[],_=>rfl
 |x::l,h=>by
  obtain⟨a,e,b,c⟩:=h x c0;have i:=pK l λ y d=>h y (dN _ d)
  rw[bu];unfold eS;rw[e,aO,b,aO,c,aO,i,aO,oM];cases t x<;>rfl
def intOf:D->Int
 | .int i=>i
 |_=>0
def PA(z:α){ps:List α}(t:∀a b,fh (f a) (f b)= .ok (.bl (lt a b)))(B:ps.length<=100000):sI [.tup (ps.map f)]= .ok (.bl (fA lt ps)):=by
 have st:cf 1 [.tup (ps.map f)]=[.sh (.tup (ps.map f))]:=rfl;have hr:=GF (i:=1) (j:=(ps.length:Int)) (by decide) (by decide) (by lia) (by lia);have u:dD (di mh (ae (aq (.int 1)) (ae (aN b0 (ae (aa 0) ak)) ak))) [none,some 0] (aD 0) cE vq [.sh (.tup (ps.map f))]= .ok (.lst ((cw 1 (ps.length:Int)).map λ k=>.bl (lt (ps.getD ((intOf k).toNat-1) z) (ps.getD (intOf k).toNat z)))):=by
  have v:di mh (ae (aq (.int 1)) (ae (aN b0 (ae (aa 0) ak)) ak)) (shE [.sh (.tup (ps.map f))])= .ok (cw 1 (ps.length:Int)):=by simp[shE,iy,hr]
  have w:=rh (ρ:=fj [none,some 0] (shE [.sh (.tup (ps.map f))])) (fg:=aD 0) (fe:=vq) (g:=λ k=>.bl (lt (ps.getD ((intOf k).toNat-1) z) (ps.getD (intOf k).toNat z))) (cw 1 (ps.length:Int)) λ d m=>⟨_,rfl,by
   obtain⟨k,rfl,k0,k1⟩:=rf.mp m;show vq [.sh (.int k),.sh (.tup (ps.map f))]= .ok (.bl (lt (ps.getD (k.toNat-1) z) (ps.getD k.toNat z)));have c:k.toNat-1<ps.length:=by lia
   have n:k.toNat<ps.length:=by lia
   have o:cN (ps.map f) (k-1)= .ok (f (ps.getD (k.toNat-1) z)):=by
    rw[show k-1=((k.toNat-1:Nat):Int)by lia];exact jH (by rw[da,bP c,hE,bP c];rfl)
   have e:cN (ps.map f) k= .ok (f (ps.getD k.toNat z)):=by
    have:=jH (l:=ps.map f) (k:=k.toNat) (d:=f (ps.getD k.toNat z)) (by rw[da,bP n,hE,bP n];rfl)
    rwa [pS (by lia)]at this
   unfold vq;have x:aj aH (aa 1) (aj jh (aa 0) (aq (.int 1))) [.sh (.int k),.sh (.tup (ps.map f))]= .ok (f (ps.getD (k.toNat-1) z)):=by
    rw[fz,sG];show okD (cN (ps.map f) (k-1))=_;rw[o];rfl
   have y:aj aH (aa 1) (aa 0) [.sh (.int k),.sh (.tup (ps.map f))]= .ok (f (ps.getD k.toNat z)):=by
    rw[fz,sG,sG];show okD (cN (ps.map f) k)=_;rw[e];rfl
   rw[fz,x,aO,y,aO,t,lJ]⟩
  unfold dD;rw[v,aO,if_pos (by rw[pI,jG];lia),w]
 have A:aN (ik λ bs=>bs.all id) (ae (dD (di mh (ae (aq (.int 1)) (ae (aN b0 (ae (aa 0) ak)) ak))) [none,some 0] (aD 0) cE vq) ak) [.sh (.tup (ps.map f))]= .ok (.bl (fA lt ps)):=by
  rw[mr,jo,u,aO,lI,aO,aO,CA,lJ];refine congrArg (λ b=>ag.ok (D.bl b)) ?_;rw[oH,yP,gF];constructor
  .intro h i p q o e
   have k2:=(fC.mp e).1
   have:=h (.int ((i+1:Nat):Int)) (rf.mpr ⟨_,rfl,by lia,by lia⟩)
   have r:lt (ps.getD (((i+1:Nat):Int).toNat-1) z) (ps.getD ((i+1:Nat):Int).toNat z)=true:=this;rw[kT,Nat.add_sub_cancel,hE,hE,o,e]at r;exact r
  .intro h d m
   obtain⟨k,rfl,k0,k1⟩:=rf.mp m;have c:k.toNat-1<ps.length:=by lia
   have n:k.toNat-1+1<ps.length:=by lia
   show lt (ps.getD (k.toNat-1) z) (ps.getD k.toNat z)=true;have s:k.toNat<ps.length:=by lia
   have:=h (k.toNat-1) ps[k.toNat-1] ps[k.toNat] (bP c) (by rw[show k.toNat-1+1=k.toNat by lia];exact bP s)
   rw[hE,hE,bP c,bP s];exact this
 simp only[sI,iT,cO,st];rw[kc,A,cv]
def YG(h:ps.length<=100000):sI [.tup (ps.map .int)]= .ok (.bl (fA vF ps)):=PA 0 (λ a b=>by rw[Pj];rfl) h
def kR(h:fi (shE ρ)= .ok ds)(a:ds.length<16777216)(b:eS (fj js (shE ρ)) fg ft fe ds= .ok out):dD fi js fg ft fe ρ= .ok (.lst out):=by
 unfold dD;rw[h,aO,if_pos (by rw[jG];exact a),b]
def tf{α:Type}{f g:α->D}(l:List α)(h:∀x∈l,∃a,fg (f x) ρ= .ok a/\fe a= .ok (g x)):eS ρ fg cE fe (l.map f)= .ok (l.map g):=by
 have:=pK (ρ:=ρ) (fg:=fg) (ft:=cE) (fe:=fe) (f:=f) (g:=g) (t:=λ _=>true) l λ x b=>by
  obtain⟨a,c,d⟩:=h x b;exact⟨a,c,rfl,d⟩
 rwa [List.filter_eq_self.mpr λ _ _=>rfl]at this
def CB{α:Type}{f:α->Bool}{l:List α}(h:fe ρ= .ok (.lst (l.map λ x=>.bl (f x)))):aN (ik λ bs=>bs.all id) (ae fe ak) ρ= .ok (.bl (l.all f)):=by
 rw[mr,jo,h,aO,lI,aO,aO,CA,lJ]
def vH(n:Bool)(y:Int)(ns:List Int):eI n (.int y) (.tup (ns.map .int))= .ok (.bl (if n then !decide (y∈ns)else decide (y∈ns))):=Cz n y ns
def PB(n:ps.Nodup)(h:ps.length<64):∃qs:aJ,j8 [.lst (ps.map aS)]= .ok (.lst (qs.map aS))/\qs.Perm ps/\nB qs=true:=by
 obtain⟨qs,q,a,b⟩:=YB n;refine⟨qs,?_,a,b⟩;unfold j8;cb_eq;rw[Px];cb_eq;rw[if_pos (by rw[bg];exact h),q,cV];exact congrArg (λ l=>ag.ok (D.lst l)) (rz λ p _=>Yz p)
abbrev fB(c most:Int)(n kd:Nat)(t:Int)(os:List Int)(i:List (Nat×Nat))(sp:Int)(s8 s9:Slot):af:=
 [.sh (.int c),.sh (.int most),.sh (.int n),.sh (.int kd),.nw (.int t),.sh (.lst (os.map .int)),.ow (.lst ((i.map (ar os)).map aS)),.sh (.int sp),s8,s9]
structure CC(n j i:Nat)(ip:List (Nat×Nat)):Prop where
 nd:ip.Nodup
 ok:∀q∈ip,q.1<q.2/\q.2<n/\(q.2<j\/(q.2=j/\q.1<i))
def YH{os:List Int}(K:n<=60)(L:j<n)(G:Cx n os){sp:Int}(M:0<=sp)(h1:sp<=2+60*j)(v:CC n j 0 p):
  ∃g s m,forL (aD 9) yx (cw 0 (j:Int)) (fB c most n kd t os p sp (.sh (.int j)) s9)= .nx (fB c most n kd t os g s (.sh (.int j)) m)/\0<=s/\s<=2+60*(j+1)/\CC n (j+1) 0 g:=by
 have X:(cw 0 (j:Int)).length=j:=by rw[pI];lia
 obtain⟨N,e,g,s,m,rfl,O,P,w⟩:=oE (a:=aD 9) (u:=yx) (cw 0 (j:Int))
  (λ i ρ=>∃p sp s9,ρ=fB c most n kd t os p sp (.sh (.int j)) s9/\0<=sp/\sp<=2+60*j+i/\CC n j i p) (fB c most n kd t os p sp (.sh (.int j)) s9) ⟨p,sp,s9,rfl,M,by lia,v⟩ (by
   rintro i d ρ Q ⟨p,sp,s9,rfl,p0,p1,r⟩;obtain⟨rfl,R⟩:=vE Q;have A:i<j:=by lia
   obtain⟨h,S,T,U⟩:=Hf (c:=c) (k:=sp+1) (b:=8) (by lia) (by lia) (by decide) (by decide);have V:=YC K r.nd λ q l=>⟨by have:=r.ok q l;lia,(r.ok q l).2.1⟩
   have B:i<os.length:=by rw[G.len];lia
   have C:j<os.length:=by rw[G.len];lia
   have E:∃f,Cc (fB c most n kd t os p (sp+1) (.sh (.int j)) (.sh (.int i)))= .nx (fB c most n kd t os f (sp+1) (.sh (.int j)) (.sh (.int i)))/\(f=p\/f=p++[(i,j)]):=by
    obtain⟨b,H⟩:∃b,(gq (bh (aj fh (aW gN (ae (aa 0) (ae (aa 7) (ae (aq (.int 8)) ak)))) (fG 4))) (uO (bh (aj (b9 false) (aa 3) (aq (.int 5)))) (bh (aj (eI false) (aa 8) (ck (ae (aj bK (aj gu (aq (.int 2)) (aa 9)) (aq (.int 1))) (ae (aj bK (aj gu (aq (.int 2)) (aa 9)) (aq (.int 2))) ak))))))) (fB c most n kd t os p (sp+1) (.sh (.int j)) (.sh (.int i)))= .ok b:=by
     have W:bh (aj fh (aW gN (ae (aa 0) (ae (aa 7) (ae (aq (.int 8)) ak)))) (fG 4)) (fB c most n kd t os p (sp+1) (.sh (.int j)) (.sh (.int i)))= .ok (decide (h<t)):=by
      have Y:ae (aa 0) (ae (aa 7) (ae (aq (.int 8)) ak)) (fB c most n kd t os p (sp+1) (.sh (.int j)) (.sh (.int i)))= .ok [.int c,.int (sp+1),.int 8]:=rfl;rw[lK,fz,yd,Y,aO,S];rfl
     have Z:bh (aj (b9 false) (aa 3) (aq (.int 5))) (fB c most n kd t os p (sp+1) (.sh (.int j)) (.sh (.int i)))= .ok ((kd:Int)==5):=rfl;have eC:bh (aj (eI false) (aa 8) (ck (ae (aj bK (aj gu (aq (.int 2)) (aa 9)) (aq (.int 1))) (ae (aj bK (aj gu (aq (.int 2)) (aa 9)) (aq (.int 2))) ak)))) (fB c most n kd t os p (sp+1) (.sh (.int j)) (.sh (.int i)))= .ok (decide ((j:Int)∈[2*(i:Int)+1,2*(i:Int)+2])):=by
      have F:gu (.int 2) (.int i)= .ok (.int (2*(i:Int))):=BZ (by decide) (by decide);have I:=vH false (j:Int) [2*(i:Int)+1,2*(i:Int)+2];simp only[bu,zP]at I;have ht:ck (ae (aj bK (aj gu (aq (.int 2)) (aa 9)) (aq (.int 1))) (ae (aj bK (aj gu (aq (.int 2)) (aa 9)) (aq (.int 2))) ak)) (fB c most n kd t os p (sp+1) (.sh (.int j)) (.sh (.int i)))= .ok (.tup [.int (2*(i:Int)+1),.int (2*(i:Int)+2)]):=by simp[F]
      rw[lK,fz,ht]
      show(((ag.ok (D.int j)).bd λ x=>(ag.ok (D.tup [.int (2*(i:Int)+1),.int (2*(i:Int)+2)])).bd λ y=>okD (eI false x y)).bd nV)=_
      rw[aO,aO,I];rfl
     rw[ny,W,GA,Z,eC];cases decide (h<t)<;>cases (kd:Int)==5<;>exact⟨_,rfl⟩
    cases b with
    |true=>
     refine⟨_,?_,.inr rfl⟩;simp only[Cc,i4,H,cv,if_pos];have hz:p.length<16777216:=by lia
     simp[fy,Hl B,Hl C,hz,ar,aS]
    |false=>
     refine⟨_,?_,.inl rfl⟩;simp only[Cc,i4,H,cv];rfl
   obtain⟨f,e1,c1⟩:=E;refine⟨_,?_,f,sp+1,.sh (.int i),rfl,by lia,by lia,?_⟩
   .have s7:cJ 7 (aj bK (aa 7) (aq (.int 1))) (fB c most n kd t os p sp (.sh (.int j)) (.sh (.int i)))= .nx (fB c most n kd t os p (sp+1) (.sh (.int j)) (.sh (.int i))):=by first|rfl|simp
    rw[C0];show yx (fB c most n kd t os p sp (.sh (.int j)) (.sh (.int i)))=_;unfold yx;rw[bc,s7,bj,e1]
   .have o:∀q∈p,q.1<q.2/\q.2<n/\(q.2<j\/(q.2=j/\q.1<i+1)):=λ q l=>by have:=r.ok q l;lia
    have n1:(i,j)∉p:=λ F=>by have:=r.ok _ F;simp only at this;lia
    rcases c1 with rfl|rfl
    .exact⟨r.nd,o⟩
    .refine⟨hW.mpr ⟨r.nd,by simp,λ x hx y J z=>?_⟩,λ q l=>?_⟩
     .rw[er]at J;subst J;subst z;exact n1 hx
     .rcases dH.mp l with z|z
      .exact o q z
      .rw[er.mp z];exact⟨A,L,.inr ⟨rfl,nF i⟩⟩)
 rw[X]at P w;refine⟨g,s,m,e,O,by lia,w.nd,λ q l=>?_⟩
 have:=w.ok q l
 lia
def gE(n:Nat)(ps:aJ):Prop:=∃os:List Int,Cx n os/\∀p∈ps,∃q:Nat×Nat,q.1<q.2/\q.2<n/\p=ar os q
def YI{kd:Nat}(h:kd<6):∃t:Int,cN ([1,2,3,5,8,0].map D.int) (kd:Int)= .ok (.int t):=⟨_,Hl (os:=[1,2,3,5,8,0]) (k:=kd) (by simpa using h)⟩
def YJ{most:Nat}(h1:most<=9):∃(n:Nat) (ps:aJ),yy [.int c,.int most]= .ok (ay n ps)/\ef n ps/\n<=most/\ps.length<64/\gE n ps:=by
 obtain⟨n,N,hn⟩:=oD (c:=c) (k:=0) (b:=(most:Int)+1) (by decide) (by decide) (by lia) (by lia);obtain⟨kd,O,r⟩:=oD (c:=c) (k:=1) (b:=6) (by decide) (by decide) (by decide) (by decide);have P:n<=9:=by lia
 obtain⟨t,Q⟩:=YI (kd:=kd) (by lia);obtain⟨os,R,o⟩:=Yy (c:=c) (n:=n) (by lia);have w:=lM (j:=(n:Int)) (by lia) (by lia);have X:(cw 0 (n:Int)).length=n:=by rw[pI];lia
 obtain⟨S,e,i,sp,s8,s9,rfl,_,_,h⟩:=oE (a:=aD 8) (u:=Cd) (cw 0 (n:Int))
  (λ j ρ=>∃i sp s8 s9,ρ=fB c most n kd t os i sp s8 s9/\0<=sp/\sp<=2+60*j/\CC n j 0 i) (fB c most n kd t os [] 2 .no .no) ⟨[],2,.no,.no,rfl,by lia,by lia,by simp,λ q f=>by simp at f⟩ (by
   rintro j d ρ T ⟨i,sp,s8,s9,rfl,U,V,W⟩;obtain⟨rfl,Y⟩:=vE T;have A:=lM (j:=(j:Int)) (by lia) (by lia);obtain⟨B,C,E,e,Z,q1,q2⟩:=YH (c:=c) (most:=most) (t:=t) (n:=n) (kd:=kd) (j:=j) (os:=os) (by lia) (by lia) o (s9:=s9) U V W;refine⟨_,?_,B,C,.sh (.int j),E,rfl,Z,by lia,q2⟩;rw[C0,oq,q9,show(fB c most n kd t os i sp s8 s9).set 8 (.sh (.int j))=fB c most n kd t os i sp (.sh (.int j)) s9 from rfl];unfold Cd;have F:(di eG (ae (aa 8) ak)) (fB c most n kd t os i sp (.sh (.int j)) s9)= .ok (cw 0 (j:Int)):=by simp[A]
   rw[kM,F,cv,e])
 rw[X]at h;have G:∀k l,k<n->l<n->os.getD k 0=os.getD l 0->k=l:=λ k l r s z=>by
  have k1:k<os.length:=by rw[o.len];exact r
  have k2:l<os.length:=by rw[o.len];exact s
  have:os[k]? =os[l]?:=by
   rw[bP k1,bP k2];simpa[k1,k2]using z
  exact(wc k1 o.nd).mp this
 have H:∀p∈i.map (ar os),0<=p.1/\p.1<n/\0<=p.2/\p.2<n/\p.1≠p.2:=λ p ah=>by
  obtain⟨q,f,rfl⟩:=dj.mp ah;obtain⟨v,m,_⟩:=h.ok q f;have g:∀k,k<n->os.getD k 0∈os:=λ k r=>by
   have:k<os.length:=by rw[o.len];exact r
   simp[this]
  have L:=o.lo _ (g q.1 (by lia));have M:=o.lo _ (g q.2 m);refine⟨L.1,L.2,M.1,M.2,λ z=>?_⟩
  have:=G _ _ (by lia) m z
  lia
 have I:(i.map (ar os)).Nodup:=Hk h.nd λ x hx y hy e=>by
  have x1:=h.ok x hx;have y1:=h.ok y hy;have e1:os.getD x.1 0=os.getD y.1 0:=congrArg rE e;have e2:os.getD x.2 0=os.getD y.2 0:=congrArg Dk e;exact tT (G _ _ (by lia) (by lia) e1) (G _ _ (by lia) (by lia) e2)
 have s:i.length<64:=by
  have:=sub_len (l':=(dY 9).flatMap λ b=>(dY b).map λ a=>(a,b)) h.nd λ q f=>by
   rw[Jy]
   have:=h.ok q f
   exact⟨q.2,by simp;lia,dj.mpr ⟨q.1,by simp;lia,rfl⟩⟩
  have h36:((dY 9).flatMap λ b=>(dY b).map λ a=>(a,b)).length=36:=by decide
  lia
 obtain⟨qs,s1,s2,s3⟩:=PB I (by rw[bg];exact s);have J:qs.length<64:=by rw[s2.length_eq,bg];exact s
 refine⟨n,qs,?_,⟨by lia,by lia,by lia,λ p ah=>H p (s2.mem_iff.mp ah),s3⟩,by lia,J,os,o,λ p ah=>?_⟩
 .have st:cf 10 [.int c,.int most]=[.sh (.int c),.sh (.int most),.no,.no,.no,.no,.no,.no,.no,.no]:=rfl
  have K:cN [D.int 1,D.int 2,D.int 3,D.int 5,D.int 8,D.int 0] (kd:Int)= .ok (.int t):=Q;have v:cJ 2 (aW gN (ae (aa 0) (ae (aq (.int 0)) (ae (aj bK (aa 1) (aq (.int 1))) ak)))) [.sh (.int c),.sh (.int most),.no,.no,.no,.no,.no,.no,.no,.no]= .nx [.sh (.int c),.sh (.int most),.sh (.int n),.no,.no,.no,.no,.no,.no,.no]:=by simp[N]
  have m:cJ 3 (aW gN (ae (aa 0) (ae (aq (.int 1)) (ae (aq (.int 6)) ak)))) [.sh (.int c),.sh (.int most),.sh (.int n),.no,.no,.no,.no,.no,.no,.no]= .nx [.sh (.int c),.sh (.int most),.sh (.int n),.sh (.int kd),.no,.no,.no,.no,.no,.no]:=by simp[O]
  have a3:ie 4 (aj aH (dC (ae (aq (.int 1)) (ae (aq (.int 2)) (ae (aq (.int 3)) (ae (aq (.int 5)) (ae (aq (.int 8)) (ae (aq (.int 0)) ak))))))) (aa 3)) [.sh (.int c),.sh (.int most),.sh (.int n),.sh (.int kd),.no,.no,.no,.no,.no,.no]= .nx [.sh (.int c),.sh (.int most),.sh (.int n),.sh (.int kd),.nw (.int t),.no,.no,.no,.no,.no]:=by simp[K]
  have a4:cJ 5 (aW yr (ae (aa 0) (ae (aa 2) ak))) [.sh (.int c),.sh (.int most),.sh (.int n),.sh (.int kd),.nw (.int t),.no,.no,.no,.no,.no]= .nx [.sh (.int c),.sh (.int most),.sh (.int n),.sh (.int kd),.nw (.int t),.sh (.lst (os.map .int)),.no,.no,.no,.no]:=by simp[R]
  have a5:eQ 6 (dC ak) [.sh (.int c),.sh (.int most),.sh (.int n),.sh (.int kd),.nw (.int t),.sh (.lst (os.map .int)),.no,.no,.no,.no]= .nx [.sh (.int c),.sh (.int most),.sh (.int n),.sh (.int kd),.nw (.int t),.sh (.lst (os.map .int)),.ow (.lst []),.no,.no,.no]:=by first|rfl|simp
  have a6:cJ 7 (aq (.int 2)) [.sh (.int c),.sh (.int most),.sh (.int n),.sh (.int kd),.nw (.int t),.sh (.lst (os.map .int)),.ow (.lst []),.no,.no,.no]= .nx (fB c most n kd t os [] 2 .no .no):=by first|rfl|simp
  have a7:ff (di eG (ae (aa 2) ak)) (aD 8) Cd (fB c most n kd t os [] 2 .no .no)= .nx (fB c most n kd t os i sp s8 s9):=by
   have F:(di eG (ae (aa 2) ak)) (fB c most n kd t os [] 2 .no .no)= .ok (cw 0 (n:Int)):=by simp[w]
   rw[kM,F,cv];exact e
  have a8:aN j8 (ae (cc 6) ak) (fB c most n kd t os i sp s8 s9)= .ok (.lst (qs.map aS)):=by
   have hv:(ae (cc 6) ak) (fB c most n kd t os i sp s8 s9)= .ok [.lst ((i.map (ar os)).map aS)]:=by first|rfl|simp
   rw[mr,hv,aO,s1,lJ]
  have a9:retS (ck (ae (aK (aa 2)) (ae (aN gT (ae (aN j8 (ae (cc 6) ak)) ak)) ak))) (fB c most n kd t os i sp s8 s9)= .rt (ay n qs):=by
   have ha:ae (aN j8 (ae (cc 6) ak)) ak (fB c most n kd t os i sp s8 s9)= .ok [.lst (qs.map aS)]:=by rw[jo,a8,aO,lI,aO]
   have hb:aN gT (ae (aN j8 (ae (cc 6) ak)) ak) (fB c most n kd t os i sp s8 s9)= .ok (.tup (qs.map aS)):=by rw[mr,ha,aO,Pk,lJ]
   have hc:aK (aa 2) (fB c most n kd t os i sp s8 s9)= .ok (.int n):=by first|rfl|simp
   rw[kc,Gy,jo,hc,aO,jo,hb,aO,lI,aO,aO,aO,if_pos (by simp),cv];rfl
  simp only[yy,cO,st,gJ];rw[bc,v,bj,bc,m,bj,bc,a3,bj,bc,a4,bj,bc,a5,bj,bc,a6,bj,bc,a7,bj,a9]
 .obtain⟨q,f,rfl⟩:=dj.mp (s2.mem_iff.mp ah)
  obtain⟨v,m,_⟩:=h.ok q f;exact⟨q,v,m,rfl⟩
def eF(ll:jb)(p:Int×Int):jb:=ll.set p.1.toNat (ll.getD p.1.toNat []++[.int p.2])
theorem PC{w:Slot}:∀(ps:aJ) (ll:jb) (s2 s3:Slot),(∀p∈ps,0<=p.1/\p.1<ll.length)->(∀l∈ll,l.length+ps.length<=10000)->
  ∃s a,forL (eA 2 (bR (aD 2) (bR (aD 3) eD))) (ij 1 (aa 2) (aK (aa 3))) (ps.map aS) [w,.o2 ll,s2,s3]= .nx [w,.o2 (ps.foldl eF ll),s,a]
 |[],ll,s2,s3,_,_=>⟨s2,s3,rfl⟩
 |p::ps,ll,s2,s3,h,d=>by
  obtain⟨o,r⟩:=h p c0;have k:p.1.toNat<ll.length:=by lia
  have i:ll.getD p.1.toNat []∈ll:=by simp[k]
  have hz:=d _ i;obtain⟨s,a,e⟩:=PC (w:=w) ps (eF ll p) (.sh (.int p.1)) (.sh (.int p.2)) (λ q f=>by unfold eF;rw[kU];exact h q (dN _ f)) (λ l m=>by
   unfold eF at m;rcases IX m with z|z
   .have:=d l z
    simp at this;lia
   .subst z
    simp at hz ⊢;lia)
  refine⟨s,a,?_⟩;rw[bu,sH,mD];have g:qL ll (.int p.1)=some (p.1.toNat,ll.getD p.1.toNat []):=by
   have x:hh ll.length p.1=some p.1.toNat:=by
    unfold hh;rw[if_pos (by lia),if_pos (by lia)]
   simp only[qL,x,tS];rw[bP k];simp[k]
  have j:lL (eA 2 (bR (aD 2) (bR (aD 3) eD)) (aS p) [w,.o2 ll,s2,s3]) (λ b=>(ij 1 (aa 2) (aK (aa 3)) b).tn (forL (eA 2 (bR (aD 2) (bR (aD 3) eD))) (ij 1 (aa 2) (aK (aa 3))) (ps.map aS)))=
    (ij 1 (aa 2) (aK (aa 3)) [w,.o2 ll,.sh (.int p.1),.sh (.int p.2)]).tn (forL (eA 2 (bR (aD 2) (bR (aD 3) eD))) (ij 1 (aa 2) (aK (aa 3))) (ps.map aS)):=by
   simp[aS]
  have n:ij 1 (aa 2) (aK (aa 3)) [w,.o2 ll,.sh (.int p.1),.sh (.int p.2)]= .nx [w,.o2 (eF ll p),.sh (.int p.1),.sh (.int p.2)]:=by
   have c:(ll.getD p.1.toNat []).length<16777216:=by simp at hz ⊢;lia
   unfold ij;simp only[nC,nD];simp[g];rw[if_pos (by simpa using c)];simp[eF]
  rw[j,n,BY];exact e
theorem yS:∀(ps:aJ) (ll:jb),(ps.foldl eF ll).length=ll.length
 |[],_=>rfl
 |p::ps,ll=>by rw[mD,yS ps];unfold eF;rw[kU]
def cR(ps:aJ)(i:Int):List Int:=(ps.filter λ p=>p.1==i).map (·.2)
theorem Hn:∀(ps:aJ) (ll:jb) (i:Nat),(∀p∈ps,0<=p.1/\p.1<ll.length)->i<ll.length->(ps.foldl eF ll).getD i []=ll.getD i []++(cR ps i).map .int
 |[],ll,i,_,_=>by simp[cR]
 |p::ps,ll,i,h,a=>by
  obtain⟨d,e⟩:=h p c0;rw[mD,Hn ps (eF ll p) i (λ q b=>by unfold eF;rw[kU];exact h q (dN _ b)) (by unfold eF;rw[kU];exact a)];unfold eF cR;by_cases c:p.1=i
  .have k:p.1.toNat=i:=by lia
   rw[k,List.filter_cons_of_pos (by simpa using c)];simp[a]
  .have k:p.1.toNat≠i:=by lia
   rw[List.filter_cons_of_neg (by simpa using c)];simp[oJ k]
structure vI(n:Int)(ps:aJ)(ll:jb):Prop where
 len:ll.length=n.toNat
 item:∀i:Int,0<=i->i<n->cN (ll.map .lst) i= .ok (.lst ((cR ps i).map .int))
def CD{n:Int}{ps:aJ}(h:ef n ps):∃ll,oA [ay n ps]= .ok (.lst (ll.map .lst))/\vI n ps ll:=by
 have hr:=lM (j:=n) (by have:=h.n0;lia) (by have:=h.n1;lia);have X:(cw 0 n).length=n.toNat:=by rw[pI];lia
 have m:=h.n1;have s:=h.len;have c:∀p∈ps,0<=p.1/\p.1<(cG n.toNat ([]:List D)).length:=λ p ah=>by
  obtain⟨a,b,_⟩:=h.pr p ah;rw[pU];lia
 obtain⟨s2,s3,e⟩:=PC (w:=.sh (ay n ps)) ps (cG n.toNat []) .no .no c (λ l o=>by
  rw[(Jl.mp o).2];simp;lia)
 refine⟨ps.foldl eF (cG n.toNat []),?_,by rw[yS,pU],λ i q y=>?_⟩
 .have hz:n.toNat<16777216:=by lia
  have r:sv 1 (di eG (ae (aj aH (aa 0) (aq (.int 0))) ak)) [none] (aD 0) [.sh (ay n ps),.no,.no,.no]= .nx [.sh (ay n ps),.o2 (cG n.toNat []),.no,.no]:=by
   unfold sv;simp[shE,iy,ay,hr,X,hz]
  have t:ff (bS (aj aH (aa 0) (aq (.int 1)))) (eA 2 (bR (aD 2) (bR (aD 3) eD))) (ij 1 (aa 2) (aK (aa 3))) [.sh (ay n ps),.o2 (cG n.toNat []),.no,.no]= .nx [.sh (ay n ps),.o2 (ps.foldl eF (cG n.toNat [])),s2,s3]:=by
   have d:bS (aj aH (aa 0) (aq (.int 1))) [.sh (ay n ps),.o2 (cG n.toNat []),.no,.no]= .ok (ps.map aS):=by simp[ay]
   rw[kM,d,cv];exact e
  have u:retS (jc 1) [.sh (ay n ps),.o2 (ps.foldl eF (cG n.toNat [])),s2,s3]= .rt (.lst ((ps.foldl eF (cG n.toNat [])).map .lst)):=by simp
  have st:cf 4 [ay n ps]=[.sh (ay n ps),.no,.no,.no]:=rfl;simp only[oA,mZ,cO,st];rw[bc,r,bj,bc,t,bj,u]
 .have f:i.toNat<(cG n.toNat ([]:List D)).length:=by rw[pU];lia
  have g:=Hn ps (cG n.toNat []) i.toNat c f;have k:i.toNat<(ps.foldl eF (cG n.toNat [])).length:=by rw[yS];exact f
  have d:((i.toNat:Nat):Int)=i:=pS q;rw[d]at g;rw[<-d];refine jH ?_;rw[d,da,bP k]
  have:(ps.foldl eF (cG n.toNat []))[i.toNat]=(cR ps i).map .int:=by
   have v:(ps.foldl eF (cG n.toNat [])).getD i.toNat []=(ps.foldl eF (cG n.toNat []))[i.toNat]:=by simp[k]
   rw[<-v,g];have x:(cG n.toNat ([]:List D)).getD i.toNat []=[]:=by
    rw[hE,tI];split<;>rfl
   rw[x,rB]
  rw[this];rfl
def th{ps:aJ}{a b:Int}:b∈cR ps a↔(a,b)∈ps:=by
 unfold cR;simp only[dj,hX];constructor
 .rintro⟨p,⟨c,d⟩,rfl⟩
  have:p.1=a:=by simpa using d
  rw[<-this];exact c
 .intro h
  exact⟨(a,b),⟨h,by simp⟩,rfl⟩
def hR(ps:aJ):List Int->Bool
 |a::b::r=>decide ((a,b)∈ps)&&hR ps (b::r)
 |_=>true
theorem vJ{ps:aJ}:∀{ws:List Int},hR ps ws=true↔∀(i:Nat) (a b:Int),ws[i]? =some a->ws[i+1]? =some b->(a,b)∈ps
 |[]=>by simp[hR]
 |[x]=>by
  simp only[hR,true_iff];intro i p q _ d;simp at d
 |x::y::r=>by
  have f:=vJ (ps:=ps) (ws:=y::r);unfold hR;rw[cM,f,decide_eq_true_eq];constructor
  .rintro⟨g,d⟩ i p q e c
   cases i with
   |zero=>simp at e c;subst e c;exact g
   |succ i=>exact d i p q (by simpa using e) (by simpa using c)
  .intro h
   exact⟨h 0 x y rfl rfl,λ i p q e c=>h (i+1) p q (by simpa using e) (by simpa using c)⟩
def fS(n:Int)(ps:aJ):D->Bool
 | .tup t=>!t.isEmpty&&t.all (dW n)&&decide ((dJ (t.map intOf)).length=t.length)&&hR ps (t.map intOf)
 |_=>false
theorem tj{n:Int}:∀{s:List D},s.all (dW n)=true->(s.map intOf).map D.int=s/\∀x∈s.map intOf,0<=x/\x<n
 |[],_=>⟨rfl,λ x a=>by simp at a⟩
 |t::s,h=>by
  rw[tO,cM]at h;obtain⟨i,rfl,b,c⟩:=Hg h.1;obtain⟨e,q⟩:=tj h.2;refine⟨by simp only[bu];rw[e];rfl,λ x a=>?_⟩;rw[bu]at a;rcases b8.mp a with z|z
  .subst z;exact⟨b,c⟩
  .exact q x z
@[simp] def PD{ns:List Int}(h:ns.length<4000):kI [.tup (ns.map .int)]= .ok (.set (dJ ns)):=by
 unfold kI;cb_eq;rw[m8];cb_eq;rw[if_pos h]
@[simp] def lenX_set{l:List Int}:lE [.set l]= .ok (.int l.length):=bF rfl
def CE{t:List D}{ws:List Int}(e:ws.map D.int=t){k:Nat}{w:Int}(h:ws[k]? =some w):cN t (k:Int)= .ok (.int w):=by
 subst e;exact jH (by rw[da,h];rfl)
def tu:D->Bool
 | .tup l=>decide (l.length<4000)
 |_=>true
def YK{n:Int}{ps:aJ}{ll:jb}{d:D}(hn:0<=n)(N:vI n ps ll)(ah:pln d=true)(Q:tu d=true):oC [.lst (ll.map .lst),d]= .ok (.bl (fS n ps d)):=by
 cases d with
 |tup f=>
  have A:cU f=true:=by simpa[pln]using ah
  have hl:f.length<4000:=by simpa[tu]using Q
  have st:cf 4 [.lst (ll.map .lst),.tup f]=[.sh (.lst (ll.map .lst)),.sh (.tup f),.no,.no]:=rfl;have B:((ll.map D.lst).length:Int)=n:=by rw[bg,N.len];lia
  cases f with
  |nil=>
   simp only[oC,bx,cO,st];simp[fS]
  |cons R S=>
   generalize C:R::S=f at*;have p:f≠[]:=by rw[<-C];simp
   have v:cI (gq (dc (cX (dq (eR "tuple") (aa 1)))) (bh (aj (b9 false) (aN b0 (ae (aa 1) ak)) (aq (.int 0))))) (retS (aq (.bl false))) aC.nx [.sh (.lst (ll.map .lst)),.sh (.tup f),.no,.no]= .nx [.sh (.lst (ll.map .lst)),.sh (.tup f),.no,.no]:=by
    simp[p]
   have L:=td (a:=aD 2) (u:=sM) (r:=.bl false) f (λ i=>match f[i]? with|some t=>dW n t|none=>true) (λ ρ=>∃s,ρ=[.sh (.lst (ll.map .lst)),.sh (.tup f),s,.no]) [.sh (.lst (ll.map .lst)),.sh (.tup f),.no,.no] ⟨_,rfl⟩ (by
    rintro i d ρ w ⟨s,rfl⟩;have e:=Cv (m:=n) (i5 (lN A (jK w)));simp only[w];have E:(dc (cX (aW nz (ae (aN b0 (ae (aa 0) ak)) (ae (aa 2) ak))))) [.sh (.lst (ll.map .lst)),.sh (.tup f),.sh d,.no]= .ok (!dW n d):=by
     have T:ae (aN b0 (ae (aa 0) ak)) (ae (aa 2) ak) [.sh (.lst (ll.map .lst)),.sh (.tup f),.sh d,.no]= .ok [.int n,d]:=by
      rw[<-B];simp
     rw[om,nt,yd,T,aO,e,aO,Pe,aO]
    have F:lL (aD 2 d [.sh (.lst (ll.map .lst)),.sh (.tup f),s,.no]) sM=sM [.sh (.lst (ll.map .lst)),.sh (.tup f),.sh d,.no]:=by rw[oq,q9];rfl
    rw[F];unfold sM;rw[i4,E,cv];cases c:dW n d with
    |true=>right;exact⟨_,rfl,⟨_,rfl⟩,rfl⟩
    |false=>left;exact⟨by simp,rfl⟩)
   have P:∀o,forL (aD 2) sM f [.sh (.lst (ll.map .lst)),.sh (.tup f),.no,.no]=o->ff (bS (aa 1)) (aD 2) sM [.sh (.lst (ll.map .lst)),.sh (.tup f),.no,.no]=o:=λ o h=>by
    have g:bS (aa 1) [.sh (.lst (ll.map .lst)),.sh (.tup f),.no,.no]= .ok f:=by simp
    rw[kM,g,cv,h]
   rcases L with ⟨e,i,g,o⟩|⟨G,e,⟨s,rfl⟩,o⟩
   .have:f.all (dW n)=false:=by
     rw[zK];rw[bP g]at o;exact⟨f[i],qb g,by simpa using o⟩
    simp only[oC,bx,cO,st];rw[bc,v,bj,bc,P _ e];simp[fS,this]
   .have K:f.all (dW n)=true:=by
     rw[gF];intro t U;obtain⟨i,g,rfl⟩:=tJ U
     have:=o i g
     rw[bP g]at this;exact this
    obtain⟨H,I⟩:=tj K;have V:(f.map intOf).length=f.length:=bg _;have J:kI [.tup f]= .ok (.set (dJ (f.map intOf))):=by
     have:=PD (ns:=f.map intOf) (by lia)
     rwa [H]at this
    by_cases k:(dJ (f.map intOf)).length=f.length
    .have x:cI (bh (aj (b9 true) (aN lE (ae (aN kI (ae (aa 1) ak)) ak)) (aN b0 (ae (aa 1) ak)))) (retS (aq (.bl false))) aC.nx [.sh (.lst (ll.map .lst)),.sh (.tup f),s,.no]= .nx [.sh (.lst (ll.map .lst)),.sh (.tup f),s,.no]:=by
      simp[J,k]
     have hr:=GF (i:=1) (j:=(f.length:Int)) (by decide) (by decide) (by lia) (by lia);have X:(cw 1 (f.length:Int)).length=f.length-1:=by rw[pI];lia
     have W:=td (a:=aD 3) (u:=sN) (r:=.bl false) (cw 1 (f.length:Int)) (λ i=>match (f.map intOf)[i]?,(f.map intOf)[i+1]? with|some a,some b=>decide ((a,b)∈ps)|_,_=>true)
      (λ ρ=>∃s',ρ=[.sh (.lst (ll.map .lst)),.sh (.tup f),s,s']) [.sh (.lst (ll.map .lst)),.sh (.tup f),s,.no] ⟨_,rfl⟩ (by
       rintro i d ρ w ⟨s',rfl⟩;obtain⟨rfl,Y⟩:=vE w;have k1:i<(f.map intOf).length:=by lia
       have k2:i+1<(f.map intOf).length:=by lia
       have y:(f.map intOf)[i]? =some (f.map intOf)[i]:=bP k1;have l:(f.map intOf)[i+1]? =some (f.map intOf)[i+1]:=bP k2;have Z:cN f (1+(i:Int)-1)= .ok (.int (f.map intOf)[i]):=by
        rw[show(1+(i:Int)-1)=(i:Int)by lia];exact CE H y
       have a2:cN f (1+(i:Int))= .ok (.int (f.map intOf)[i+1]):=by
        rw[show(1+(i:Int))=((i+1:Nat):Int)by lia];exact CE H l
       have M:=I _ (qb k1);have a3:=N.item _ M.1 M.2;have E:(bh (aj (eI true) (aj aH (aa 1) (aa 3)) (aj aH (aa 0) (aj aH (aa 1) (aj jh (aa 3) (aq (.int 1))))))) [.sh (.lst (ll.map .lst)),.sh (.tup f),s,.sh (.int (1+(i:Int)))]= .ok (!decide (((f.map intOf)[i],(f.map intOf)[i+1])∈ps)):=by
        simp[Z,a2,a3,Cz,th,-tM]
       have F:lL (aD 3 (.int (1+(i:Int))) [.sh (.lst (ll.map .lst)),.sh (.tup f),s,s']) sN=sN [.sh (.lst (ll.map .lst)),.sh (.tup f),s,.sh (.int (1+(i:Int)))]:=by rw[oq,q9];rfl
       rw[F];unfold sN;rw[i4,E,cv];simp only[y,l];cases c:decide (((f.map intOf)[i],(f.map intOf)[i+1])∈ps)with
       |true=>right;exact⟨_,rfl,⟨_,rfl⟩,rfl⟩
       |false=>left;exact⟨by simp,rfl⟩)
     have O:∀o,forL (aD 3) sN (cw 1 (f.length:Int)) [.sh (.lst (ll.map .lst)),.sh (.tup f),s,.no]=o->ff (di mh (ae (aq (.int 1)) (ae (aN b0 (ae (aa 1) ak)) ak))) (aD 3) sN [.sh (.lst (ll.map .lst)),.sh (.tup f),s,.no]=o:=λ o h=>by
      have g:di mh (ae (aq (.int 1)) (ae (aN b0 (ae (aa 1) ak)) ak)) [.sh (.lst (ll.map .lst)),.sh (.tup f),s,.no]= .ok (cw 1 (f.length:Int)):=by simp[hr]
      rw[kM,g,cv,h]
     rcases W with ⟨l,i,g,o2⟩|⟨G,l,⟨s',rfl⟩,o2⟩
     .have:hR ps (f.map intOf)=false:=by
       cases c:hR ps (f.map intOf)with
       |false=>rfl
       |true=>
        rw[X]at g;have k1:i<(f.map intOf).length:=by lia
        have k2:i+1<(f.map intOf).length:=by lia
        have z:=vJ.mp c i _ _ (bP k1) (bP k2);rw[bP k1,bP k2]at o2;simp only at o2;rw[decide_eq_true z]at o2;cases o2
      simp only[oC,bx,cO,st];rw[bc,v,bj,bc,P _ e,bj,bc,x,bj,bc,O _ l];simp[fS,this]
     .have:hR ps (f.map intOf)=true:=vJ.mpr λ i a b y q=>by
       have Y:=(fC.mp q).1
       have:=o2 i (by rw[X];lia)
       rw[y,q]at this;simpa using this
      simp only[oC,bx,cO,st];rw[bc,v,bj,bc,P _ e,bj,bc,x,bj,bc,O _ l,bj];simp[fS,this,K,k,p]
    .have x:cI (bh (aj (b9 true) (aN lE (ae (aN kI (ae (aa 1) ak)) ak)) (aN b0 (ae (aa 1) ak)))) (retS (aq (.bl false))) aC.nx [.sh (.lst (ll.map .lst)),.sh (.tup f),s,.no]= .rt (.bl false):=by
      have:¬((dJ (f.map intOf)).length:Int)=(f.length:Int):=by lia
      simp[J,this]
     simp only[oC,bx,cO,st];rw[bc,v,bj,bc,P _ e,bj,bc,x];simp[fS,k]
 |_=>
  simp only[oC,bx,cO];simp[cf,kN (i5 ah),hQ,fS]
def YL{n:Int}{ps:aJ}{d:D}(h:knd d=true):pF [.sh d,.sh (ay n ps)]= .ok (.bl (dW n d)):=by
 have:=Pz h
 unfold pF;simp[ay,this];cases d<;>simp[vC,dW]
 rename_i i;by_cases a:0<=i<;>simp[a]
def YM{n:Int}{ps:aJ}{d:D}(O:ef n ps)(ah:pln d=true)(H:tu d=true):pH [ay n ps,d]= .ok (.bl (fS n ps d)):=by
 cases d with
 |tup s=>
  have p:cU s=true:=by simpa[pln]using ah
  have W:s.length<4000:=by simpa[tu]using H
  have st:cf 2 [ay n ps,.tup s]=[.sh (ay n ps),.sh (.tup s)]:=rfl;cases s with
  |nil=>
   simp only[pH,dM,cO,st];simp[fS]
  |cons I J=>
   generalize q:I::J=s at*;have e:s≠[]:=by rw[<-q];simp
   have r:cI (gq (dc (cX (dq (eR "tuple") (aa 1)))) (bh (aj (b9 false) (aN b0 (ae (aa 1) ak)) (aq (.int 0))))) (retS (aq (.bl false))) aC.nx [.sh (ay n ps),.sh (.tup s)]= .nx [.sh (ay n ps),.sh (.tup s)]:=by
    simp[e]
   have u:dD (bS (aa 1)) [none,some 0] (aD 0) cE pF [.sh (ay n ps),.sh (.tup s)]= .ok (.lst (s.map λ t=>.bl (dW n t))):=by
    have v:bS (aa 1) (shE [.sh (ay n ps),.sh (.tup s)])= .ok s:=by simp[shE,iy]
    have x:=rh (ρ:=fj [none,some 0] (shE [.sh (ay n ps),.sh (.tup s)])) (fg:=aD 0) (fe:=pF) (g:=λ t=>.bl (dW n t)) s λ d f=>⟨_,rfl,by
     show pF [.sh d,.sh (ay n ps)]=_;exact YL (i5 (lN p f))⟩
    unfold dD;rw[v,aO,if_pos (by rw[jG];lia),x]
   have l:aN (ik λ bs=>bs.all id) (ae (dD (bS (aa 1)) [none,some 0] (aD 0) cE pF) ak) [.sh (ay n ps),.sh (.tup s)]= .ok (.bl (s.all (dW n))):=by
    rw[mr,jo,u,aO,lI,aO,aO,CA,lJ]
   cases K:s.all (dW n)with
   |false=>
    have c:cI (gq (dc (cX (aN (ik λ bs=>bs.all id) (ae (dD (bS (aa 1)) [none,some 0] (aD 0) cE pF) ak)))) (bh (aj fh (aN lE (ae (aN kI (ae (aa 1) ak)) ak)) (aN b0 (ae (aa 1) ak))))) (retS (aq (.bl false))) aC.nx [.sh (ay n ps),.sh (.tup s)]= .rt (.bl false):=by
     rw[i4,ny,om,nt,l,K];simp
    simp only[pH,dM,cO,st];rw[bc,r,bj,bc,c];simp[fS,K]
   |true=>
    obtain⟨y,L⟩:=tj K;have M:(s.map intOf).length=s.length:=bg _;have N:kI [.tup s]= .ok (.set (dJ (s.map intOf))):=by
     have:=PD (ns:=s.map intOf) (by lia)
     rwa [y]at this
    have P:=FZ (s.map intOf);have A:bh (aj fh (aN lE (ae (aN kI (ae (aa 1) ak)) ak)) (aN b0 (ae (aa 1) ak))) [.sh (ay n ps),.sh (.tup s)]= .ok (decide (((dJ (s.map intOf)).length:Int)<s.length)):=by simp[N]
    have c:cI (gq (dc (cX (aN (ik λ bs=>bs.all id) (ae (dD (bS (aa 1)) [none,some 0] (aD 0) cE pF) ak)))) (bh (aj fh (aN lE (ae (aN kI (ae (aa 1) ak)) ak)) (aN b0 (ae (aa 1) ak))))) (retS (aq (.bl false))) aC.nx [.sh (ay n ps),.sh (.tup s)]
      =if ((dJ (s.map intOf)).length:Int)<s.length then .rt (.bl false)else .nx [.sh (ay n ps),.sh (.tup s)]:=by
     rw[i4,ny,om,nt,l,K,A];simp
    by_cases m:(dJ (s.map intOf)).length=s.length
    .rw[if_neg (by lia)]at c
     have hr:=lM (j:=(s.length:Int)-1) (by lia) (by lia);have B:dD (di eG (ae (aj jh (aN b0 (ae (aa 1) ak)) (aq (.int 1))) ak)) [none,some 1,some 0] (aD 0) cE vt [.sh (ay n ps),.sh (.tup s)]= .ok (.lst ((cw 0 ((s.length:Int)-1)).map λ k=>.bl (decide (((s.map intOf).getD (intOf k).toNat 0,(s.map intOf).getD ((intOf k).toNat+1) 0)∈ps)))):=by
      have v:di eG (ae (aj jh (aN b0 (ae (aa 1) ak)) (aq (.int 1))) ak) (shE [.sh (ay n ps),.sh (.tup s)])= .ok (cw 0 ((s.length:Int)-1)):=by simp[shE,iy,hr]
      have x:=rh (ρ:=fj [none,some 1,some 0] (shE [.sh (ay n ps),.sh (.tup s)])) (fg:=aD 0) (fe:=vt) (g:=λ k=>.bl (decide (((s.map intOf).getD (intOf k).toNat 0,(s.map intOf).getD ((intOf k).toNat+1) 0)∈ps))) (cw 0 ((s.length:Int)-1)) λ d f=>⟨_,rfl,by
       obtain⟨k,rfl,k0,k1⟩:=rf.mp f;show vt [.sh (.int k),.sh (.tup s),.sh (ay n ps)]=_;have C:k.toNat<(s.map intOf).length:=by lia
       have E:k.toNat+1<(s.map intOf).length:=by lia
       have F:cN s k= .ok (.int ((s.map intOf).getD k.toNat 0)):=by
        have:=CE y (k:=k.toNat) (w:=(s.map intOf).getD k.toNat 0) (by rw[hE,bP C];rfl)
        rwa [pS k0]at this
       have o:cN s (k+1)= .ok (.int ((s.map intOf).getD (k.toNat+1) 0)):=by
        have:=CE y (k:=k.toNat+1) (w:=(s.map intOf).getD (k.toNat+1) 0) (by rw[hE,bP E];rfl)
        rwa [show((k.toNat+1:Nat):Int)=k+1 by lia]at this
       have Q:aj aH (aa 2) (aq (.int 1)) [.sh (.int k),.sh (.tup s),.sh (ay n ps)]= .ok (.tup (ps.map aS)):=by simp[ay]
       have R:ck (ae (aj aH (aa 1) (aa 0)) (ae (aj aH (aa 1) (aj bK (aa 0) (aq (.int 1)))) ak)) [.sh (.int k),.sh (.tup s),.sh (ay n ps)]= .ok (aS ((s.map intOf).getD k.toNat 0,(s.map intOf).getD (k.toNat+1) 0)):=by
        have S:aj aH (aa 1) (aa 0) [.sh (.int k),.sh (.tup s),.sh (ay n ps)]= .ok (.int ((s.map intOf).getD k.toNat 0)):=by
         rw[fz,sG,sG];show okD (cN s k)=_;rw[F];rfl
        have T:aj aH (aa 1) (aj bK (aa 0) (aq (.int 1))) [.sh (.int k),.sh (.tup s),.sh (ay n ps)]= .ok (.int ((s.map intOf).getD (k.toNat+1) 0)):=by
         rw[fz,sG];show okD (cN s (k+1))=_;rw[o];rfl
        rw[Gy,jo,S,aO,jo,T,aO,lI,aO,aO,aO,if_pos (by simp)];rfl
       unfold vt;rw[fz,R,aO,Q,aO,YE,lJ];rfl⟩
      unfold dD;rw[v,aO,if_pos (by rw[pI,jG];lia),x]
     have G:aN (ik λ bs=>bs.all id) (ae (dD (di eG (ae (aj jh (aN b0 (ae (aa 1) ak)) (aq (.int 1))) ak)) [none,some 1,some 0] (aD 0) cE vt) ak) [.sh (ay n ps),.sh (.tup s)]= .ok (.bl (hR ps (s.map intOf))):=by
      rw[mr,jo,B,aO,lI,aO,aO,CA,lJ];congr 2;rw[oH,vJ,gF];constructor
      .intro h i a b F o
       have k2:=(fC.mp o).1
       have:=h (.int (i:Int)) (rf.mpr ⟨i,rfl,by lia,by lia⟩)
       have z:=of_decide_eq_true this;have U:(s.map intOf).getD (intOf (.int (i:Int))).toNat 0=a:=by
        show(s.map intOf).getD ((i:Int).toNat) 0=a
        rw[kT,hE,F];rfl
       have V:(s.map intOf).getD ((intOf (.int (i:Int))).toNat+1) 0=b:=by
        show(s.map intOf).getD ((i:Int).toNat+1) 0=b
        rw[kT,hE,o];rfl
       rw[U,V]at z;exact z
      .intro h d f
       obtain⟨k,rfl,k0,k1⟩:=rf.mp f;have C:k.toNat<(s.map intOf).length:=by lia
       have E:k.toNat+1<(s.map intOf).length:=by lia
       show decide (((s.map intOf).getD k.toNat 0,(s.map intOf).getD (k.toNat+1) 0)∈ps)=true;refine decide_eq_true ?_;exact h k.toNat _ _ (by rw[hE,bP C];rfl) (by rw[hE,bP E];rfl)
     simp only[pH,dM,cO,st];rw[bc,r,bj,bc,c,bj,kc,G];simp[fS,K,m,e]
    .rw[if_pos (by lia)]at c
     simp only[pH,dM,cO,st];rw[bc,r,bj,bc,c];simp[fS,m]
 |_=>
  simp only[pH,dM,cO];simp[cf,kN (i5 ah),hQ,fS]
def Ho{ws:List Int}{t:List D}(e:ws.map D.int=t)(h:ws≠[]):cN t (-1)= .ok (.int (ws.getLastD 0)):=by
 subst e;have l:0<ws.length:=Da.mpr h;have a:hh (ws.map D.int).length (-1)=some (ws.length-1):=by
  unfold hh;rw[bg,if_neg (by lia),if_pos (by lia)];congr 1;lia
 have g:(ws.map D.int)[ws.length-1]? =some (.int (ws.getLastD 0)):=by
  rw[da]
  have:ws[ws.length-1]? =some (ws.getLastD 0):=by
   rw[wa,List.getLast?_eq_getElem?];cases c:ws[ws.length-1]? with
   |none=>exact absurd (zA.mp c) (by lia)
   |some x=>rfl
  rw[this];rfl
 unfold cN l7;rw[a];simp only[tS,g]
def YN{n:Int}{ps:aJ}{t:List D}(h:fS n ps (.tup t)=true):(t.map intOf).map D.int=t/\(∀x∈t.map intOf,0<=x/\x<n)/\t.map intOf≠[]:=by
 unfold fS at h;simp only[cM,zi]at h;obtain⟨e,i⟩:=tj h.1.1.2;refine⟨e,i,λ z=>?_⟩
 have:t=[]:=by simpa using z
 rw[this]at h;simp at h
def rowOf:D->List Int
 | .tup t=>t.map intOf
 |_=>[]
def YO(h:rws.length<=100000):ou [.tup (rws.map tupI)]= .ok (.bl (fA HT.lexLt rws)):=Hh (f:=tupI) (λ a b=>GD a b) h
def YP(h:rws.length<=100000):sI [.tup (rws.map tupI)]= .ok (.bl (fA HT.lexLt rws)):=PA (f:=tupI) [] (λ a b=>GD a b) h
def yU:D->Bool
 | .tup l=>decide (l.length<4000)&&l.all tu
 |_=>true
def mw(n:Int)(l:List Int):Bool:=dE (.lst ((sortI l).map .int)) (.lst (cw 0 n))
def PE(h:l.length<64):j8 [.lst (l.map .int)]= .ok (.lst ((sortI l).map .int)):=by
 cases l with
 |nil=>rfl
 |cons i r=>
  have e:px ((i::r).map D.int)=none:=rfl;unfold j8;cb_eq;rw[e];cb_eq;rw[m8];cb_eq;rw[if_pos h]
def PF:b9 false (.lst ((sortI l).map .int)) (.lst (cw 0 n))= .ok (.bl (mw n l)):=by
 obtain⟨h,a⟩:=yR (sortI l);have b:dS (cw 0 n)=true:=by rw[Oy];exact(yR _).2
 unfold b9 mw;simp[cz,jE,h,a,b]
def Hp(h:f ρ= .ok (.int n))(a:0<=n)(b:n<=60):pA f ρ= .ok (.lst (cw 0 n)):=by
 unfold pA;rw[h,aO];unfold Gb;simp;lia
def YQ(rws:cS):lF [.no,.no] (aD 0) cE (j9 (bS (aa 0)) (aD 1) cE (aK (aa 1))) (rws.map tupI)= .ok (rws.flatten.map .int):=by
 induction rws with
 |nil=>rfl
 |cons ns rws b=>
  have c:j9 (bS (aa 0)) (aD 1) cE (aK (aa 1)) [.sh (tupI ns),.no]= .ok (ns.map .int):=by
   have h:=rh (ρ:=[.sh (tupI ns),.no]) (fg:=aD 1) (fe:=aK (aa 1)) (g:=id) (ns.map .int) λ d e=>⟨_,rfl,by
    obtain⟨i,_,rfl⟩:=dj.mp e;simp⟩
   rw[zQ]at h;unfold j9;rw[if_pos (by rfl)]
   have:bS (aa 0) [.sh (tupI ns),.no]= .ok (ns.map .int):=by simp[tupI]
   rw[this,aO,h]
  rw[bu,oK,gi]
  show((aD 0 (tupI ns) [.no,.no]).bd λ a=>(cE a).bd λ k=>if k=true then(j9 (bS (aa 0)) (aD 1) cE (aK (aa 1)) a).bd λ ys=>(lF [.no,.no] (aD 0) cE (j9 (bS (aa 0)) (aD 1) cE (aK (aa 1))) (rws.map tupI)).bd λ z=>.ok (ys++z)else _)=_
  have f:aD 0 (tupI ns) [.no,.no]= .ok [.sh (tupI ns),.no]:=rfl;have y:cE [.sh (tupI ns),.no]= .ok true:=rfl;rw[f,aO,y,aO,if_pos rfl,c,aO,b,aO]
def YR{rws:cS}(a:0<=n)(b:n<=60)(l:rws.flatten.length<64):B0 [.int n,.tup (rws.map tupI)]= .ok (.bl (mw n rws.flatten)):=by
 have st:cf 2 [.int n,.tup (rws.map tupI)]=[.sh (.int n),.sh (.tup (rws.map tupI))]:=rfl;have c:xW (bS (aa 1)) [none,none] (aD 0) cE (j9 (bS (aa 0)) (aD 1) cE (aK (aa 1))) [.sh (.int n),.sh (.tup (rws.map tupI))]= .ok (.lst (rws.flatten.map .int)):=by
  have i:bS (aa 1) (shE [.sh (.int n),.sh (.tup (rws.map tupI))])= .ok (rws.map tupI):=by simp[shE,iy]
  have h:lF (fj [none,none] (shE [.sh (.int n),.sh (.tup (rws.map tupI))])) (aD 0) cE (j9 (bS (aa 0)) (aD 1) cE (aK (aa 1))) (rws.map tupI)= .ok (rws.flatten.map .int):=YQ rws;unfold xW;rw[i,aO,h];cb_eq;rw[if_pos (by rw[bg,ko];lia)]
 have hr:pA (aa 0) [.sh (.int n),.sh (.tup (rws.map tupI))]= .ok (.lst (cw 0 n)):=Hp (by simp) a b;simp only[B0,jR,cO,st];rw[kc,fz,mr,jo,c,aO,lI,aO,aO,PE l,lJ,aO,hr,aO,PF];rfl
theorem vK:∀ws:List Int,cU (ws.map .int)=true
 |[]=>rfl
 |_::ws=>by simp only[bu,cU,vK ws,pln];rfl
theorem yV:∀ws:List Int,gc (ws.map .int)=true
 |[]=>rfl
 |_::ws=>by simp only[bu,gc,yV ws,imm];rfl
def PG(l:List D)(a b:Option Int):(cutD l a b).length<=l.length:=by
 unfold cutD;rw[rA,wg];lia
def Hq(h:d∈cutD l a b):d∈l:=by
 unfold cutD at h;exact List.mem_of_mem_drop (List.mem_of_mem_take h)
def PH(h:cU l=true):cU (cutD l a b)=true:=sT λ d c=>lN h (Hq c)
def tv(h:cU l=true)(a:cU m=true):cU (l++m)=true:=sT λ d b=>by
 rcases dH.mp b with z|z
 .exact lN h z
 .exact lN a z
theorem yW:∀{l:List D} {d:D},gc l=true->d∈l->imm d=true
 |x::r,d,h,m=>by
  simp only[gc,cM]at h;rcases b8.mp m with rfl|m
  .exact h.1
  .exact yW h.2 m
theorem tw:∀{l:List D},(∀d∈l,imm d=true)->gc l=true
 |[],_=>rfl
 |x::r,h=>by
  simp only[gc,cM];exact⟨h x (c0 ..),tw λ d a=>h d (dN _ a)⟩
def Hr{P:D->Prop}(a:0<=i)(b:i<l.length)(h:∀d∈l,P d):∃d,(match (okD (cN l i)).bo aC.rt with
  |aC.nx ρ=>ag.ok D.non
  |aC.rt d=>ag.ok d
  |aC.ex c=>ag.ex c
  |x=>ag.st)=ag.ok d/\P d:=by
 obtain⟨d,e,m,_⟩:=yf a b;exact⟨d,by rw[e];rfl,h d m⟩
def gV:D->Nat
 | .tup l=>l.length
 |_=>0
def sz:D->Nat
 | .tup l=>l.length+(l.map gV).sum
 |_=>0
def YS:D->Nat
 | .tup l=>(l.map sz).sum
 |_=>0
def YT(l:List D):sz (.tup l)=l.length+(l.map gV).sum:=rfl
def vL(l m:List D):sz (.tup (l++m))=sz (.tup l)+sz (.tup m):=by
 simp[sz];lia
def vN(d:D)(l:List D):sz (.tup (d::l))=1+gV d+sz (.tup l):=by
 simp[sz];lia
def PI:sz (.tup [])=0:=rfl
def YU(l:List D)(k:Nat):sz (.tup (l.take k))<=sz (.tup l):=by
 conv=>rhs;rw[<-C7 k l,vL]
 lia
def YV(l:List D)(k:Nat):sz (.tup (l.drop k))<=sz (.tup l):=by
 conv=>rhs;rw[<-C7 k l,vL]
 lia
def YW(l:List D)(a b:Option Int):sz (.tup (cutD l a b))<=sz (.tup l):=by
 unfold cutD;exact fD (YU _ _) (YV _ _)
def YX(l:List D):sz (.tup l.reverse)=sz (.tup l):=by
 simp[sz]
def CF(h:d∈l):gV d<=sz (.tup l):=by
 induction l with
 |nil=>cases h
 |cons x l i=>
  rw[vN];rcases b8.mp h with rfl|h
  .lia
  .have:=i h;lia
def PJ(l:List D):l.length<=sz (.tup l):=by rw[YT];lia
def pM(ws:List Int):gV (tupI ws)=ws.length:=by simp[gV,tupI]
def PK(rws:cS):sz (.tup (rws.map tupI))=rws.length+rws.flatten.length:=by
 induction rws with
 |nil=>rfl
 |cons r rws i=>
  rw[bu,vN,i,pM,g0,oK,eJ];lia
def yX(k:Nat)(d:D):Prop:=pln d=true/\gV d<=k
def yZ(h:cU l=true)(a:l.length<=k):yX k (.tup l):=⟨by simpa[pln]using h,a⟩
def PL{ws:List Int}(H:0<=p)(I:p<1000)(J:ws.length<=1000):∃d,vw [.int c,.int p,.tup (ws.map .int),.int m]= .ok d/\yX (2*ws.length+1) d:=by
 obtain⟨r0,s,cB⟩:=oD (c:=c) (k:=p) (b:=(ws.length:Int)+1) (by lia) (by lia) (by lia) (by lia);obtain⟨t,u,v⟩:=oD (c:=c) (k:=p+1) (b:=9) (by lia) (by lia) (by lia) (by lia);obtain⟨K,w,L⟩:=oD (c:=c) (k:=p+2) (b:=10) (by lia) (by lia) (by lia) (by lia);obtain⟨n,x,o,_⟩:=yf (l:=[.int 0,.int m,.int (-1),.bl true,.non,.str "0",.lst [.int 0],.int (m-1),.int 1]) (i:=(t:Int)) (by lia) (by simpa using v);have st:cf 7 [.int c,.int p,.tup (ws.map .int),.int m]=[.sh (.int c),.sh (.int p),.sh (.tup (ws.map .int)),.sh (.int m),.no,.no,.no]:=rfl;have y:gD (.tup (ws.map .int))= .ok (.tup (ws.map .int)):=iE (by simp only[imm];exact yV ws);have z:∀a b,gD (.tup (cutD (ws.map .int) a b))= .ok (.tup (cutD (ws.map .int) a b)):=λ a b=>iE (by simp only[imm];exact tw λ d h=>yW (yV ws) (Hq h))
 have A:gD (.tup (ws.map D.int).reverse)= .ok (.tup (ws.map D.int).reverse):=iE (by simp only[imm];exact tw λ d h=>yW (yV ws) (tN.mp h));have g:∀a b,(cutD (ws.map .int) a b).length<=ws.length:=λ a b=>fD (PG _ _ _) (by rw[bg];exact bJ _)
 have B:∀a b,(cutD (ws.map .int) a b).length+1<=16777216:=λ a b=>by have:=g a b;lia
 have C:∀a b e f,(cutD (ws.map .int) a b).length+1+(cutD (ws.map .int) e f).length<=16777216:=λ a b e f=>by have:=g a b;have:=g e f;lia
 have E:∀a b,ws.length+(cutD (ws.map .int) a b).length<=16777216:=λ a b=>by have:=g a b;lia
 have F:∀a b e f,(cutD (ws.map .int) a b).length+(cutD (ws.map .int) e f).length<=16777216:=λ a b e f=>by have:=g a b;have:=g e f;lia
 have G:pln n=true:=by
  simp only[b8,lR,or_false]at o;rcases o with rfl|rfl|rfl|rfl|rfl|rfl|rfl|rfl|rfl<;>rfl
 have j:∀a b,cU (cutD (ws.map .int) a b)=true:=λ a b=>PH (vK ws)
 have q:∀a b e f,yX (2*ws.length+1) (.tup (cutD (ws.map .int) a b++n::cutD (ws.map .int) e f)):=λ a b e f=>by
  refine yZ (tv (j a b) ?_) ?_
  .simp only[cU,G,j,zo]
  .have:=g a b;have:=g e f;simp;lia
 have r:∀a b e f,yX (2*ws.length+1) (.tup (cutD (ws.map .int) a b++cutD (ws.map .int) e f)):=λ a b e f=>by
  refine yZ (tv (j a b) (j e f)) ?_
  have:=g a b;have:=g e f;simp;lia
 simp only[vw,fO,cO,st];simp[-List.map_reverse,s,u,w,x,y,z,A,B,C,E,F];refine Hr (by lia) (by simp;lia) λ d h=>?_
 simp only[b8,lR,or_false]at h;rcases h with rfl|rfl|rfl|rfl|rfl|rfl|rfl|rfl|rfl|rfl
 .exact q _ _ _ _
 .exact r _ _ _ _
 .exact q _ _ _ _
 .exact yZ (sT λ d h=>lN (vK ws) (tN.mp h)) (by simp;lia)
 .exact⟨by simpa[pln]using vK ws,dI _⟩
 .exact yZ (tv (vK ws) (j _ _)) (by have:=g none (some 1);simp;lia)
 .exact r _ _ _ _
 .exact⟨rfl,dI _⟩
 .exact⟨rfl,dI _⟩
 .exact yZ (by simp[cU,pln,vK]) (by simp)
def YY:∃d,yt [.int c]= .ok d/\pln d=true/\YS d<64:=by
 obtain⟨r0,e,cB⟩:=oD (c:=c) (k:=90) (b:=16) (by decide) (by decide) (by decide) (by decide);have h:xK (.int 10) (.int 20)= .ok (.int 100000000000000000000):=rfl;have st:cf 2 [.int c]=[.sh (.int c),.no]:=rfl;simp only[yt,mV,cO,st];simp[e,h];refine Hr (by lia) (by simp;lia) λ d a=>?_
 simp only[b8,lR,or_false]at a;rcases a with rfl|rfl|rfl|rfl|rfl|rfl|rfl|rfl|rfl|rfl|rfl|rfl|rfl|rfl|rfl|rfl<;>
  exact⟨rfl,by decide⟩
def YZ(l:List Int):gc (l.map .int)=true:=by
 induction l with
 |nil=>rfl
 |cons a l i=>simp[gc,imm,i]
def ri(l:List Int):imm (tupI l)=true:=by simp[tupI,imm,YZ]
def y6(l:List Int):pln (tupI l)=true:=by
 have:∀l:List Int,cU (l.map .int)=true:=λ l=>by
  induction l with
  |nil=>rfl
  |cons a l i=>simp[cU,pln,i]
 simp[tupI,pln,this]
def PM(rws:cS):cU (rws.map tupI)=true:=sT λ d h=>by
 obtain⟨r,_,rfl⟩:=dj.mp h;exact y6 r
def tA(h:cU l=true):pln (.tup l)=true:=by simpa[pln]using h
def tB(e:D):Prop:=(∃i:Int,e= .int i)\/∃ws:List Int,e=tupI ws
theorem tB.pln(h:tB e):VL.My.pln e=true:=by
 rcases h with ⟨i,rfl⟩|⟨ws,rfl⟩
 .rfl
 .exact y6 ws
theorem tB.imm(h:tB e):VL.imm e=true:=by
 rcases h with ⟨i,rfl⟩|⟨ws,rfl⟩
 .rfl
 .exact ri ws
def Y0(d:tB e)(h:gV e<=1000)(t:0<=p)(u:p<900):∃o,Ci [.sh (.int c),.sh (.int p),.sh (.tup l),.sh (.int m),.sh (.int r0),.sh e,.no,.no]= .nx [.sh (.int c),.sh (.int p),.sh (.tup l),.sh (.int m),.sh (.int r0),.sh e,.nw o,.no]/\yX (2*gV e+1) o:=by
 rcases d with ⟨i,rfl⟩|⟨ws,rfl⟩
 .obtain⟨r,f,g⟩:=oD (c:=c) (k:=p+1) (b:=6) (by lia) (by lia) (by decide) (by decide)
  obtain⟨j,n,a,_⟩:=yf (l:=[.int 0,.int m,.bl true,.non,.int (i+1),.tup [.int i]]) (i:=(r:Int)) (by lia) (by simpa using g);refine⟨j,?_,?_⟩
  .have:eR "tuple" (.int i)= .ok (.bl false):=by rw[kN rfl];rfl
   unfold Ci;simp[this,f,n]
  .simp only[b8,lR,or_false]at a
   rcases a with rfl|rfl|rfl|rfl|rfl|rfl<;>exact⟨rfl,by simp[gV]⟩
 .rw[pM]at h ⊢
  obtain⟨o,q,s⟩:=PL (c:=c) (p:=p+1) (m:=m) (ws:=ws) (by lia) (by lia) h;refine⟨o,?_,s⟩;unfold Ci tupI;simp[q]
def Y1(E:∀e∈l,tB e)(u:0<=p)(v:p<900)(R:sz (.tup l)<=1000):∃d,yz [.int c,.int p,.tup l,.int m]= .ok d/\pln d=true/\sz d<=4*sz (.tup l)+3:=by
 have x:=PJ l;obtain⟨r0,y,cB⟩:=oD (c:=c) (k:=p) (b:=(l.length:Int)+1) (by lia) (by lia) (by lia) (by lia);obtain⟨S,A,T⟩:=oD (c:=c) (k:=p+4) (b:=9) (by lia) (by lia) (by decide) (by decide);obtain⟨w,B,C,_⟩:=yf (l:=l++[.tup []]) (i:=(r0:Int)) (by lia) (by rw[eJ];simp;lia);have D:tB w/\gV w<=sz (.tup l):=by
  rcases dH.mp C with z|z
  .exact⟨E w z,CF z⟩
  .rw[er]at z
   subst z;exact⟨.inr ⟨[],rfl⟩,dI _⟩
 obtain⟨o,F,G,U⟩:=Y0 (c:=c) (p:=p) (m:=m) (l:=l) (r0:=r0) D.1 (by lia) u v;have st:cf 8 [.int c,.int p,.tup l,.int m]=[.sh (.int c),.sh (.int p),.sh (.tup l),.sh (.int m),.no,.no,.no,.no]:=rfl;have q:gc l=true:=tw λ d h=>(E d h).imm
 have pl:cU l=true:=sT λ d h=>(E d h).pln
 have H:gD (.tup l)= .ok (.tup l):=iE (by simp only[imm];exact q);have I:∀a b,gD (.tup (cutD l a b))= .ok (.tup (cutD l a b)):=λ a b=>iE (by simp only[imm];exact tw λ d h=>yW q (Hq h))
 have J:gD (.tup l.reverse)= .ok (.tup l.reverse):=iE (by simp only[imm];exact tw λ d h=>yW q (tN.mp h));have j:∀a b,(cutD l a b).length<=l.length:=λ a b=>PG _ _ _
 have K:∀a b,(cutD l a b).length+1<=16777216:=λ a b=>by have:=j a b;lia
 have L:∀a b f g,(cutD l a b).length+1+(cutD l f g).length<=16777216:=λ a b f g=>by have:=j a b;have:=j f g;lia
 have M:∀a b,l.length+(cutD l a b).length<=16777216:=λ a b=>by have:=j a b;lia
 have N:∀a b f g,(cutD l a b).length+(cutD l f g).length<=16777216:=λ a b f g=>by have:=j a b;have:=j f g;lia
 have r:l.length+1<=16777216:=by lia
 have n:∀a b,cU (cutD l a b)=true:=λ a b=>PH pl
 have O:cJ 4 (aW gN (ae (aa 0) (ae (aa 1) (ae (aj bK (aN b0 (ae (aa 2) ak)) (aq (.int 1))) ak)))) [.sh (.int c),.sh (.int p),.sh (.tup l),.sh (.int m),.no,.no,.no,.no]= .nx [.sh (.int c),.sh (.int p),.sh (.tup l),.sh (.int m),.sh (.int r0),.no,.no,.no]:=by simp[y]
 have P:cJ 5 (aj aH (aj bK (aa 2) (ck (ae (ck ak) ak))) (aa 4)) [.sh (.int c),.sh (.int p),.sh (.tup l),.sh (.int m),.sh (.int r0),.no,.no,.no]= .nx [.sh (.int c),.sh (.int p),.sh (.tup l),.sh (.int m),.sh (.int r0),.sh w,.no,.no]:=by simp[r,B]
 simp only[yz,cQ,cO,st];rw[bc,O,bj,bc,P,bj,bc,F,bj];simp[fy,A,H,I,J,K,L,M,N,r];have s:=YW l;have t:∀a b f g,pln (.tup (cutD l a b++o::cutD l f g))=true/\sz (.tup (cutD l a b++o::cutD l f g))<=4*sz (.tup l)+3:=λ a b f g=>by
  refine⟨?_,?_⟩
  .refine tA ?_
   exact tv (n a b) (by simp only[cU,G,n,zo])
  .rw[vL,vN]
   have:=s a b;have:=s f g
   lia
 refine Hr (by lia) (by simp;lia) λ d h=>?_
 simp only[b8,lR,or_false]at h;rcases h with rfl|rfl|rfl|rfl|rfl|rfl|rfl|rfl|rfl
 .exact t _ _ _ _
 .refine⟨by refine tA ?_;exact tv (n _ _) (n _ _),?_⟩
  rw[vL];have Q:=s none (some (r0:Int));have V:=s (some ((r0:Int)+1)) none;lia
 .refine⟨by refine tA ?_;exact tv pl (n _ _),?_⟩
  rw[vL];have Q:=s none (some 1);lia
 .refine⟨by refine tA ?_;exact sT λ d h=>lN pl (tN.mp h),?_⟩
  rw[YX];lia
 .exact⟨by simpa[pln]using pl,dI _⟩
 .refine⟨by simp[pln,cU,pl],?_⟩
  rw[vN,PI];show 1+l.length+0<=_;lia
 .exact⟨rfl,dI _⟩
 .refine⟨by refine tA ?_;exact tv pl rfl,?_⟩
  rw[vL];show sz (.tup l)+1<=_;lia
 .exact t _ _ _ _
def lO(B:D->Bool):D->Bool
 | .tup r=>r.all B&&fA HT.lexLt (r.map rowOf)
 |_=>false
theorem CG(a:∀d,B d=true->tupI (rowOf d)=d):∀{r:List D},r.all B=true->(r.map rowOf).map tupI=r
 |[],_=>rfl
 |d::r,h=>by
  rw[tO,cM]at h;rw[bu,bu,a d h.1,CG a h.2]
def Hs(h:fS n ps d=true):tupI (rowOf d)=d:=by
 cases d with
 |tup t=>
  show D.tup ((t.map intOf).map .int)=D.tup t;rw[(YN h).1]
 |_=>cases h
def Y2:sy yA 2 ga [a,b,.sh (.fn "goes_along"),c]=aW oC ga [a,b,.sh (.fn "goes_along"),c]:=by
 unfold sy
 have:aa 2 [a,b,.sh (.fn "goes_along"),c]= .ok (.fn "goes_along"):=rfl
 rw[this];simp only[fnOf,yA,List.lookup,beq_self_eq_true]
def Y3{ll:jb}(v:∀d,B d=true->tupI (rowOf d)=d)(k:∀l a b c,sy yA 2 l [a,b,.sh (.fn x),c]=aW F l [a,b,.sh (.fn x),c])
  (w:∀d,pln d=true->tu d=true->F [.lst (ll.map .lst),d]= .ok (.bl (B d)))(ah:pln d=true)(j:yU d=true):yB [.lst (ll.map .lst),d,.fn x]= .ok (.bl (lO B d)):=by
 cases d with
 |tup f=>
  have p:cU f=true:=by simpa[pln]using ah
  simp only[yU,cM,decide_eq_true_eq]at j;obtain⟨E,j⟩:=j;have st:cf 4 [.lst (ll.map .lst),.tup f,.fn x]=[.sh (.lst (ll.map .lst)),.sh (.tup f),.sh (.fn x),.no]:=rfl;have y:cI (dc (cX (dq (eR "tuple") (aa 1)))) (retS (aq (.bl false))) aC.nx [.sh (.lst (ll.map .lst)),.sh (.tup f),.sh (.fn x),.no]= .nx [.sh (.lst (ll.map .lst)),.sh (.tup f),.sh (.fn x),.no]:=by simp
  have L:=td (a:=aD 3) (u:=sP) (r:=.bl false) f (λ i=>match f[i]? with|some t=>B t|none=>true) (λ ρ=>∃s,ρ=[.sh (.lst (ll.map .lst)),.sh (.tup f),.sh (.fn x),s]) [.sh (.lst (ll.map .lst)),.sh (.tup f),.sh (.fn x),.no] ⟨_,rfl⟩ (by
   rintro i d ρ m ⟨s,rfl⟩;have n:=jK m;have e:=w d (lN p n) (gF.mp j d n);simp only[m];have k:(dc (cX (sy yA 2 (ae (aa 0) (ae (aa 3) ak))))) [.sh (.lst (ll.map .lst)),.sh (.tup f),.sh (.fn x),.sh d]= .ok (!B d):=by
    have z:ae (aa 0) (ae (aa 3) ak) [.sh (.lst (ll.map .lst)),.sh (.tup f),.sh (.fn x),.sh d]= .ok [.lst (ll.map .lst),d]:=by simp
    rw[om,nt,k,yd,z,aO,e,aO,Pe,aO]
   have A:lL (aD 3 d [.sh (.lst (ll.map .lst)),.sh (.tup f),.sh (.fn x),s]) sP=sP [.sh (.lst (ll.map .lst)),.sh (.tup f),.sh (.fn x),.sh d]:=by rw[oq,q9];rfl
   rw[A];unfold sP;rw[i4,k,cv];cases c:B d with
   |true=>right;exact⟨_,rfl,⟨_,rfl⟩,rfl⟩
   |false=>left;exact⟨by simp,rfl⟩)
  have P:∀o,forL (aD 3) sP f [.sh (.lst (ll.map .lst)),.sh (.tup f),.sh (.fn x),.no]=o->ff (bS (aa 1)) (aD 3) sP [.sh (.lst (ll.map .lst)),.sh (.tup f),.sh (.fn x),.no]=o:=λ o h=>by
   have g:bS (aa 1) [.sh (.lst (ll.map .lst)),.sh (.tup f),.sh (.fn x),.no]= .ok f:=by simp
   rw[kM,g,cv,h]
  simp only[yB,nu,cO,st];rw[bc,y,bj,bc];rcases L with ⟨e,i,g,o⟩|⟨C,e,⟨s,rfl⟩,o⟩
  .have:f.all B=false:=by
    rw[zK];rw[bP g]at o;exact⟨f[i],qb g,by simpa using o⟩
   rw[P _ e];simp[lO,this]
  .have K:f.all B=true:=by
    rw[gF];intro t D;obtain⟨i,g,rfl⟩:=tJ D
    have:=o i g
    rw[bP g]at this;exact this
   have q:=YO (rws:=f.map rowOf) (by rw[bg];lia);rw[CG v K]at q;rw[P _ e,bj];simp[q,lO,K]
 |_=>
  have st:∀d,cf 4 [.lst (ll.map .lst),d,.fn x]=[.sh (.lst (ll.map .lst)),.sh d,.sh (.fn x),.no]:=λ _=>rfl
  simp only[yB,nu,cO,st];simp[kN (i5 ah),hQ,lO]
def vO:D->List Int
 | .tup l=>(l.map rowOf).flatten
 |_=>[]
def jq(n:Int)(ps:aJ)(d:D):Bool:=lO (fS n ps) d&&mw n (vO d)
structure CH(d:D):Prop where
 pl:pln d=true
 sh:yU d=true
 fw:(vO d).length<64
def AX(h:lO B d=true):∃r,d= .tup r:=by
 cases d with
 |tup l=>exact⟨l,rfl⟩
 |_=>cases h
def Y4(h:lO B (.tup rs)=true):rs.all B=true:=by
 unfold lO at h;simp only[cM]at h;exact h.1
def Y5(O:ef n ps)(F:CH d):Cn [ay n ps,d]= .ok (.bl (jq n ps d)):=by
 have c:=yQ O;have st:cf 2 [ay n ps,d]=[.sh (ay n ps),.sh d]:=rfl;have cB:kE (aW mu (ae (aa 0) ak)) [.sh (ay n ps),.sh d]= .nx [.sh (ay n ps),.sh d]:=by simp[c]
 obtain⟨ll,t,N⟩:=CD O;have v:GV [.sh (ay n ps),.sh d]= .ok (.bl (lO (fS n ps) d)):=by
  simp[GV,t,Y3 (λ _=>Hs) (λ _ _ _ _=>Y2) (λ d ah s=>YK O.n0 N ah s) F.pl F.sh]
 simp only[Cn,dU,cO,st];rw[bc,cB,bj,kc,BX,v,aO,BW];unfold jq;cases h:lO (fS n ps) d with
 |false=>rfl
 |true=>
  obtain⟨a,rfl⟩:=AX h;have b:=CG (λ _=>Hs) (Y4 h);have e:=YR (n:=n) (rws:=a.map rowOf) O.n0 O.n1 F.fw;rw[b]at e;have f:GW [.sh (ay n ps),.sh (.tup a)]= .ok (.bl (mw n (a.map rowOf).flatten)):=by
   simp[GW,ay,e]
  rw[if_pos rfl,f];rfl
def Y6{rws:cS}(d:0<=n)(f:n<=60)(c:rws.flatten.length<64):B3 [.tup (rws.map tupI),.int n]= .ok (.bl (mw n rws.flatten)):=by
 have st:cf 4 [.tup (rws.map tupI),.int n]=[.sh (.tup (rws.map tupI)),.sh (.int n),.no,.no]:=rfl;have L:∀(r:cS) (acc:List Int) (s:Slot),acc.length+r.flatten.length<64->∃s',forL (aD 3) (n7 2 (aK (aa 3))) (r.map tupI) [.sh (.tup (rws.map tupI)),.sh (.int n),.ow (.lst (acc.map .int)),s]= .nx [.sh (.tup (rws.map tupI)),.sh (.int n),.ow (.lst ((acc++r.flatten).map .int)),s']:=by
  intro r;induction r with
  |nil=>intro acc s _;exact⟨s,by rw[Jt,g6];rfl⟩
  |cons ns r i=>
   intro acc s hz;rw[oK,eJ]at hz;obtain⟨s',e⟩:=i (acc++ns) (.sh (tupI ns)) (by rw[eJ];lia);refine⟨s',?_⟩;rw[bu,sH,oK,<-iG];have g:lL (aD 3 (tupI ns) [.sh (.tup (rws.map tupI)),.sh (.int n),.ow (.lst (acc.map .int)),s]) (λ b=>(n7 2 (aK (aa 3)) b).tn (forL (aD 3) (n7 2 (aK (aa 3))) (r.map tupI)))=
     (n7 2 (aK (aa 3)) [.sh (.tup (rws.map tupI)),.sh (.int n),.ow (.lst (acc.map .int)),.sh (tupI ns)]).tn (forL (aD 3) (n7 2 (aK (aa 3))) (r.map tupI)):=by
    rw[oq,q9];rfl
   have h:aK (aa 3) [.sh (.tup (rws.map tupI)),.sh (.int n),.ow (.lst (acc.map .int)),.sh (tupI ns)]= .ok (tupI ns):=by
    have:imm (tupI ns)=true:=by
     have:∀l:List Int,gc (l.map .int)=true:=λ l=>by
      induction l with
      |nil=>rfl
      |cons a l i=>simp[gc,imm,i]
     simp[tupI,imm,this]
    simp[gD,this]
   have x:n7 2 (aK (aa 3)) [.sh (.tup (rws.map tupI)),.sh (.int n),.ow (.lst (acc.map .int)),.sh (tupI ns)]= .nx [.sh (.tup (rws.map tupI)),.sh (.int n),.ow (.lst ((acc++ns).map .int)),.sh (tupI ns)]:=by
    unfold n7;dsimp only[nC,nD];rw[h,cv];unfold Ge tupI;cb_eq;rw[if_pos (by rw[bg,bg,ko];lia),gi];rfl
   rw[g,x,BY];exact e
 obtain⟨s',e⟩:=L rws [] .no (by simpa using c);have j:eQ 2 (dC ak) [.sh (.tup (rws.map tupI)),.sh (.int n),.no,.no]= .nx [.sh (.tup (rws.map tupI)),.sh (.int n),.ow (.lst (([]:List Int).map .int)),.no]:=by simp
 have k:bS (aa 0) [.sh (.tup (rws.map tupI)),.sh (.int n),.ow (.lst (([]:List Int).map .int)),.no]= .ok (rws.map tupI):=by simp
 have h:cc 2 [.sh (.tup (rws.map tupI)),.sh (.int n),.ow (.lst ((([]:List Int)++rws.flatten).map .int)),s']= .ok (.lst (rws.flatten.map .int)):=rfl;have hr:pA (aa 1) [.sh (.tup (rws.map tupI)),.sh (.int n),.ow (.lst ((([]:List Int)++rws.flatten).map .int)),s']= .ok (.lst (cw 0 n)):=Hp (by simp) d f;simp only[B3,fP,cO,st];rw[bc,j,bj,bc,kM,k,cv,e,bj,kc,fz,mr,jo,h,aO,lI,aO,aO,PE c,lJ,aO,hr,aO,PF];rfl
def Y7{n:Int}(O:ef n ps)(F:CH d):Cf [ay n ps,d]= .ok (.bl (jq n ps d)):=by
 have st:cf 2 [ay n ps,d]=[.sh (ay n ps),.sh d]:=rfl;simp only[Cf,iV,cO,st];rw[bc];cases d with
 |tup a=>
  have h:cU a=true:=by have:=F.pl;simpa[pln]using this
  have f:=F.sh;simp only[yU,cM,decide_eq_true_eq]at f;have v:Pm [.sh (ay n ps),.sh (.tup a)]= .ok (.bl (a.all (fS n ps))):=
   CB (kR (ds:=a) (by simp[shE,iy]) (by lia) (rh (fg:=aD 0) (fe:=aW pH (ae (aa 1) (ae (aa 0) ak))) (g:=λ d=>.bl (fS n ps d)) a λ d b=>⟨_,rfl,by
    simp[fj,shE,iy,YM O (lN h b) (gF.mp f.2 d b)]⟩))
  have u:dc (cX (dq (eR "tuple") (aa 1))) [.sh (ay n ps),.sh (.tup a)]= .ok false:=by simp
  have i:Ce [.sh (ay n ps),.sh (.tup a)]=if a.all (fS n ps)=true then .nx [.sh (ay n ps),.sh (.tup a)]else .rt (.bl false):=by
   unfold Ce;rw[i4,ny,u,om,nt,v];cases a.all (fS n ps)<;>simp
  rw[i];have j:jq n ps (.tup a)=(a.all (fS n ps)&&(fA HT.lexLt (a.map rowOf)&&mw n (vO (.tup a)))):=by
   unfold jq lO;cb_eq;cases a.all (fS n ps)<;>cases fA HT.lexLt (a.map rowOf)<;>rfl
  rw[j];cases k:a.all (fS n ps)with
  |false=>rfl
  |true=>
   have c:=CG (λ _=>Hs) k;have r:=YP (rws:=a.map rowOf) (by rw[bg];lia);have e:=Y6 (n:=n) (rws:=a.map rowOf) O.n0 O.n1 F.fw;rw[c]at e;rw[c]at r;have u:GP [.sh (ay n ps),.sh (.tup a)]= .ok (.bl (fA HT.lexLt (a.map rowOf))):=by simp[GP,r]
   have l:GQ [.sh (ay n ps),.sh (.tup a)]= .ok (.bl (mw n (a.map rowOf).flatten)):=by simp[GQ,ay,e]
   rw[if_pos rfl,bj,kc,BX,u,aO,BW,l];show _=ag.ok (D.bl (true&&(fA HT.lexLt (a.map rowOf)&&mw n ((a.map rowOf).flatten))));cases fA HT.lexLt (a.map rowOf)<;>simp
 |_=>
  unfold Ce;simp[kN (i5 F.pl),hQ,jq,lO]
def bH(n:Int):List Int:=(dY n.toNat).map λ(k:Nat)=>(k:Int)
def rj(n:Int):cw 0 n=(bH n).map .int:=by
 unfold cw bH;rw[cV,show(n-0).toNat=n.toNat by lia];exact rz λ k _=>by simp
def pN(n:Int):(bH n).Nodup:=by
 unfold bH;rw[C2,zM];exact Jz.imp λ h e=>h (by lia)
def kg:x∈bH n↔0<=x/\x<n:=by
 unfold bH;rw[dj];constructor
 .rintro⟨k,h,rfl⟩
  have:=oN.mp h
  lia
 .rintro⟨a,b⟩
  exact⟨x.toNat,oN.mpr (by lia),by lia⟩
def i6(n:Int):(bH n).length=n.toNat:=by unfold bH;simp
theorem Ht:∀{ws:List Int} (h:ws≠[]),hR es ws=true->(ws.getLast h,v)∈es->hR es (ws++[v])=true
 |[a],_,_,c=>by simpa[hR]using c
 |a::b::r,_,d,c=>by
  simp only[hR,cM,decide_eq_true_eq]at d
  have:=Ht (ws:=b::r) (by simp) d.2 (by simpa using c)
  rw[we,we,hR,cM,decide_eq_true_eq];exact⟨d.1,by simpa using this⟩
def za{left ws:List Int}(c:left.Nodup)(f:ws.Nodup)(g:∀w∈ws,w∈left):(ws++left.filter λ x=>!decide (x∈ws)).Perm left:=by
 rw[IW]
 .intro a
  rw[dH,hX];constructor
  .rintro(h|h)
   .exact g a h
   .exact h.1
  .intro h
   by_cases d:a∈ws
   .exact .inl d
   .exact .inr ⟨h,by simp[d]⟩
 .rw[hW]
  refine⟨f,c.filter _,λ a i b j e=>?_⟩;subst e
  have:=(hX.mp j).2
  simp[i]at this
 .exact c
def Y8(l:List Int):b9 true (.lst (l.map .int)) (.lst [])= .ok (.bl (!l.isEmpty)):=by
 obtain⟨h,a⟩:=yR l;have e:dE (.lst (l.map .int)) (.lst [])=l.isEmpty:=by cases l<;>simp[dE,hP]
 unfold b9;rw[if_pos (by simp[jE,cz,dS,h,a]),e];rfl
def jI{l:List Int}(d:l.Nodup)(rg:∀x∈l,0<=x/\x<n):l.length<=n.toNat:=by
 have:=d.length_le_of_subset (l₂:=bH n) λ x h=>kg.mpr (rg x h)
 rwa [i6]at this
theorem PN:∀(a b:List Int),hP (a.map .int) (b.map .int)=decide (a=b)
 |[],[]=>rfl
 |[],y::b=>by simp[hP]
 |x::a,[]=>by simp[hP]
 |x::a,y::b=>by
  have:=PN a b
  simp only[bu,hP,dE,this,List.cons.injEq];by_cases h:x=y<;>simp[h]
theorem ints_of:∀ws:List Int,(ws.map D.int).map intOf=ws
 |[]=>rfl
 |w::ws=>by rw[bu,bu,ints_of ws];rfl
theorem PO{c:af->ag Bool}{b:af->aC}{I:Nat->af->Prop}(st:∀m ρ,I m ρ->c ρ= .ok false\/(c ρ= .ok true/\∃a d,b ρ= .nx a/\d<m/\I d a)):
  ∀(n m:Nat) (ρ:af),m<n->I m ρ->∃a d,qI c b n ρ= .nx a/\I d a/\c a= .ok false
 |0,_,_,h,_=>absurd h (wo _)
 |n+1,m,ρ,h,g=>by
  rcases st m ρ g with e|⟨e,a,d,i,l,f⟩
  .exact⟨ρ,m,by unfold qI;rw[e];rfl,g,e⟩
  .obtain⟨ρ2,j,k,r⟩:=PO st n d a (by lia) f
   refine⟨ρ2,j,?_,r⟩;unfold qI;rw[e,cv,if_pos rfl,i];exact k
def vP{c:af->ag Bool}{b:af->aC}(I:Nat->af->Prop)(st:∀m ρ,I m ρ->c ρ= .ok false\/(c ρ= .ok true/\∃a d,b ρ= .nx a/\d<m/\I d a)){m:Nat}{ρ:af}(e:m<1000000)(h:I m ρ):
  ∃a d,mi c b ρ= .nx a/\I d a/\c a= .ok false:=PO st fuel m ρ e h
def PP(qs:aJ):b9 false (.lst (qs.map aS)) (.lst [])= .ok (.bl qs.isEmpty):=by
 obtain⟨a,h⟩:=Hm qs;have e:dE (.lst (qs.map aS)) (.lst [])=qs.isEmpty:=by cases qs<;>simp[dE,hP]
 have b:decide (gK (qs.map aS)+1<=60)=true:=by simp;lia
 unfold b9;simp[cz,dS,jE,gK,h,e];lia
def tC:fK neg (.int i) (bL ps)= .ok (.bl (neg !=(ps.lookup i).isSome)):=by
 unfold fK bL;cb_eq;rw[vg]
def PQ(h:ps.lookup i=some d):gv (bL ps) (.int i)= .ok d:=by
 unfold gv bL;cb_eq;rw[vg];cb_eq;rw[h]
def PR(h:i∉ps.map (·.1)):ka ps i d=ps++[(i,d)]:=by
 unfold ka;rw[if_neg];rw[nE];rintro⟨p,ah,e⟩;exact h (dj.mpr ⟨p,ah,of_decide_eq_true e⟩)
theorem zb:∀{qs acc:List (Int×D)},(acc.map (·.1)++qs.map (·.1)).Nodup->jk acc qs=acc++qs
 |[],acc,_=>by simp[jk]
 |q::qs,acc,h=>by
  have n:q.1∉acc.map (·.1):=λ m=>by
   rw[hW]at h;exact h.2.2 _ m _ (by simp) rfl
  have e:jk acc (q::qs)=jk (ka acc q.1 q.2) qs:=rfl;rw[e,PR n,zb (by simpa using h)];simp
def PS{l m:List Int}(c:f (shE ρ)= .ok (l.map .int))(h:fj js (shE ρ)=[.no,.sh (.tup (m.map .int))]\/fj js (shE ρ)=[.no,.sh (.lst (m.map .int))])(d:l.length<=1000):
  dD f js (aD 0) (bh (aj (eI true) (aa 0) (aa 1))) (aK (aa 0)) ρ= .ok (.lst ((l.filter λ x=>!decide (x∈m)).map .int)):=by
 refine kR c (by rw[bg];lia) ?_;rcases h with h|h<;>rw[h]
 .refine pK (fg:=aD 0) (f:=D.int) (g:=D.int) (t:=λ x=>!decide (x∈m)) l λ x _=>⟨[.sh (.int x),.sh (.tup (m.map .int))],rfl,?_,by simp⟩
  have a:aa 1 [.sh (.int x),.sh (.tup (m.map .int))]= .ok (.tup (m.map .int)):=rfl;have b:aa 0 [.sh (.int x),.sh (.tup (m.map .int))]= .ok (.int x):=rfl;rw[lK,fz,b,aO,a,aO,vH,lJ,aO];rfl
 .refine pK (fg:=aD 0) (f:=D.int) (g:=D.int) (t:=λ x=>!decide (x∈m)) l λ x _=>⟨[.sh (.int x),.sh (.lst (m.map .int))],rfl,?_,by simp⟩
  have a:aa 1 [.sh (.int x),.sh (.lst (m.map .int))]= .ok (.lst (m.map .int)):=rfl;have b:aa 0 [.sh (.int x),.sh (.lst (m.map .int))]= .ok (.int x):=rfl;rw[lK,fz,b,aO,a,aO,Cz,lJ,aO];rfl
structure PT(ps qs:aJ):Prop where
 sub:qs.Sublist ps
 u1:(qs.map (·.1)).Nodup
 u2:(qs.map (·.2)).Nodup
def Y9{ps qs:aJ}(h:qs.length<=3600):GO [.sh (.int c),.sh (ay n ps),.ow (.lst (qs.map aS)),s3,.sh (aS p)]= .ok (.lst ((qs.filter λ q=>(q.1==p.1)||(q.2==p.2)).map aS)):=by
 refine kR (ds:=qs.map aS) rfl (by rw[bg];lia) (pK qs λ q a=>⟨_,rfl,?_,rfl⟩);show gq (bh (aj (b9 false) (aj aH (aa 0) (aq (.int 0))) (aj aH (aa 1) (aq (.int 0))))) (bh (aj (b9 false) (aj aH (aa 0) (aq (.int 1))) (aj aH (aa 1) (aq (.int 1))))) [.sh (aS q),.sh (aS p)]=_;simp[aS];by_cases e:q.1=p.1<;>simp[e]
def PU(h:(qs.map f).Nodup)(d:∀q∈qs,f q≠f p):((qs++[p]).map f).Nodup:=by
 rw[gi,hW];refine⟨h,by simp,λ a e b c=>?_⟩;obtain⟨q,g,rfl⟩:=dj.mp e;rw[bu,zP,er]at c;rw[c];exact d q g
def Za{ps qs:aJ}(h:qs.length<=3600)(u:(qs.map (·.1)).Nodup)(a:(qs.map (·.2)).Nodup):∃s:aJ,yv [.sh (.int c),.sh (ay n ps),.ow (.lst (qs.map aS)),.sh (.int k),.sh (aS p)]= .nx [.sh (.int c),.sh (ay n ps),.ow (.lst (s.map aS)),.sh (.int k),.sh (aS p)]/\(s=qs\/s=qs++[p])/\(s.map (·.1)).Nodup/\(s.map (·.2)).Nodup:=by
 obtain⟨r,e,b⟩:=oD (c:=c) (k:=60+(k:Int)%40) (b:=3) (by lia) (by lia) (by decide) (by decide);have l:=Y9 (c:=c) (n:=n) (ps:=ps) (qs:=qs) (p:=p) (s3:=.sh (.int k)) h;have m:=vp (i:=(k:Int)) (j:=40) (by decide);have o:bh (aj Bq (aW gN (ae (aa 0) (ae (aj bK (aq (.int 60)) (aj j6 (aa 3) (aq (.int 40)))) (ae (aq (.int 3)) ak)))) (aq (.int 0))) [.sh (.int c),.sh (ay n ps),.ow (.lst (qs.map aS)),.sh (.int k),.sh (aS p)]= .ok (decide (0<(r:Int))):=by simp[m,e]
 have t:bh (aj (b9 false) GO (dC ak)) [.sh (.int c),.sh (ay n ps),.ow (.lst (qs.map aS)),.sh (.int k),.sh (aS p)]= .ok (qs.filter λ q=>(q.1==p.1)||(q.2==p.2)).isEmpty:=by
  rw[lK,fz,l,aO]
  show(okD (b9 false (.lst ((qs.filter λ q=>(q.1==p.1)||(q.2==p.2)).map aS)) (.lst []))).bd nV=_
  rw[PP];rfl
 have v:fy 2 (aK (aa 4)) [.sh (.int c),.sh (ay n ps),.ow (.lst (qs.map aS)),.sh (.int k),.sh (aS p)]= .nx [.sh (.int c),.sh (ay n ps),.ow (.lst ((qs++[p]).map aS)),.sh (.int k),.sh (aS p)]:=by
  have hz:(qs.map aS).length<aQ:=by rw[bg,jG];lia
  have g:aK (aa 4) [.sh (.int c),.sh (ay n ps),.ow (.lst (qs.map aS)),.sh (.int k),.sh (aS p)]= .ok (aS p):=rfl;unfold fy
  show((aK (aa 4) [.sh (.int c),.sh (ay n ps),.ow (.lst (qs.map aS)),.sh (.int k),.sh (aS p)]).bo _)=_
  rw[g,cv,if_pos hz,gi];rfl
 unfold yv;rw[i4,o,cv];cases decide (0<(r:Int))with
 |false=>exact⟨qs,rfl,.inl rfl,u,a⟩
 |true=>
  rw[if_pos rfl,i4,t,cv];cases f:(qs.filter λ q=>(q.1==p.1)||(q.2==p.2)).isEmpty with
  |false=>exact⟨qs,rfl,.inl rfl,u,a⟩
  |true=>
   rw[Jv,zC]at f;refine⟨qs++[p],by rw[if_pos rfl];exact v,.inr rfl,PU u λ q d e=>f q d (by simp[e]),PU a λ q d e=>f q d (by simp[e])⟩
def Zb(O:ef n ps):∃qs:aJ,Cb [.int c,ay n ps]= .ok (.tup (qs.map aS))/\PT ps qs:=by
 have pl:=O.len;have st:cf 5 [.int c,ay n ps]=[.sh (.int c),.sh (ay n ps),.no,.no,.no]:=rfl;have l:(n6 (ps.map aS)).length=ps.length:=by simp[n6]
 obtain⟨r,e,s3,s4,qs,rfl,h,g,j⟩:=oE (a:=eA 2 (bR (aD 3) (bR (aD 4) eD))) (u:=yv) (n6 (ps.map aS))
  (λ i ρ=>∃s3 s4,∃qs:aJ,ρ=[.sh (.int c),.sh (ay n ps),.ow (.lst (qs.map aS)),s3,s4]/\qs.Sublist (ps.take i)/\(qs.map (·.1)).Nodup/\(qs.map (·.2)).Nodup) [.sh (.int c),.sh (ay n ps),.ow (.lst []),.no,.no] ⟨.no,.no,[],rfl,by simp,by simp,by simp⟩ (by
   rintro i d ρ b ⟨s3,s4,qs,rfl,h,g,j⟩;have o:=(fC.mp b).1;have f:i<ps.length:=by lia
   unfold n6 at b;rw[da,Jd,da,bP f]at b;simp only[qe,JQ]at b;subst b;have m:=h.length_le;rw[rA]at m;obtain⟨q,s,t,v,w⟩:=Za (c:=c) (n:=n) (ps:=ps) (qs:=qs) (p:=ps[i]) (k:=0+i) (by lia) g j;refine⟨_,s,_,_,q,rfl,?_,v,w⟩;rw[List.take_succ_eq_append_getElem f];rcases t with rfl|rfl
   .exact h.trans (List.sublist_append_left _ _)
   .exact h.append (List.Sublist.refl _))
 rw[l,JB]at h;refine⟨qs,?_,h,g,j⟩;simp only[Cb,dB,cO,st];have x:ff (di BP (ae (aj aH (aa 1) (aq (.int 1))) ak)) (eA 2 (bR (aD 3) (bR (aD 4) eD))) yv [.sh (.int c),.sh (ay n ps),.ow (.lst []),.no,.no]= .nx [.sh (.int c),.sh (ay n ps),.ow (.lst (qs.map aS)),s3,s4]:=by
  have o:di BP (ae (aj aH (aa 1) (aq (.int 1))) ak) [.sh (.int c),.sh (ay n ps),.ow (.lst []),.no,.no]= .ok (n6 (ps.map aS)):=rfl;rw[kM,o,cv,e]
 have y:eQ 2 (dC ak) [.sh (.int c),.sh (ay n ps),.no,.no,.no]= .nx [.sh (.int c),.sh (ay n ps),.ow (.lst []),.no,.no]:=by simp
 rw[bc,y,bj,bc,x,bj];simp
def eh(qs:aJ):D:=bL (qs.map λ q=>(q.1,.int q.2))
theorem Hu(a:Int):∀qs:aJ,(qs.map λ q=>(q.1,D.int q.2)).lookup a=(qs.lookup a).map .int
 |[]=>rfl
 |q::qs=>by
  rw[bu,fm,fm,Hu a qs];cases a==q.1<;>rfl
theorem zc:∀{qs:aJ},qs.lookup a=some b->(a,b)∈qs
 |q::qs,h=>by
  rw[fm]at h;cases e:a==q.1 with
  |true=>
   rw[e]at h;cases h;rw[show a=q.1 by simpa using e];exact c0
  |false=>
   rw[e]at h;exact dN _ (zc h)
theorem vR:∀{qs:aJ},qs.lookup a=none->(a,b)∉qs
 |[],_,h=>nomatch h
 |q::qs,n,h=>by
  rw[fm]at n;cases e:a==q.1 with
  |true=>rw[e]at n;cases n
  |false=>
   rw[e]at n;rcases b8.mp h with z|z
   .rw[<-z]at e
    simp at e
   .exact vR n z
def zd{qs:aJ}(u:(qs.map (·.2)).Nodup)(h:(a,y)∈qs)(c:(b,y)∈qs):a=b:=congrArg rE (Cy u _ h _ c rfl)
def Hv{qs:aJ}(u:(qs.map (·.1)).Nodup)(h:(a,y)∈qs)(b:(a,z)∈qs):y=z:=congrArg Dk (Cy u _ h _ b rfl)
def PV(w:List Int)(y:Int):(w++[y]).getLastD 0=y:=by simp
def CI{w:List Int}(h:w≠[]):w.getLast h=w.getLastD 0:=by
 rw[wa,List.getLast?_eq_some_getLast h];rfl
def PW(h:w≠[])(y:Int):(w++[y]).headD 0=w.headD 0:=by
 cases w with
 |nil=>exact absurd rfl h
 |cons a w=>rfl
structure iF(n:Int)(qs:aJ)(fl w:List Int)(s t:Int):Prop where
 nd:(fl++w).Nodup
 rg:∀x∈fl++w,0<=x/\x<n
 ne:w≠[]
 hd:w.headD 0=s
 lt:w.getLastD 0=t
 al:hR qs w=true
 pr:∀a b,(a,b)∈qs->b∈fl++w->a∈fl++w/\a≠t
 bk:∀x∈w,x=s\/∃a,(a,x)∈qs
 sc:∀a b,(a,b)∈qs->a∈w->a≠t->b∈w
def iF.start(nd:fl.Nodup)(rg:∀x∈fl,0<=x/\x<n)(i:0<=s)(j:s<n)(g:s∉fl)(no:∀a,(a,s)∉qs)(pr:∀a b,(a,b)∈qs->b∈fl->a∈fl):iF n qs fl [s] s s where
 nd:=by
  rw[hW];refine⟨nd,by simp,λ a c b d e=>?_⟩;rw[er.mp d]at e;subst e;exact g c
 rg:=λ x f=>by
  rcases dH.mp f with h|h
  .exact rg x h
  .rw[er.mp h];exact⟨i,j⟩
 ne:=by simp
 hd:=rfl
 lt:=rfl
 al:=rfl
 pr:=λ a b h d=>by
  rcases dH.mp d with z|z
  .have:=pr a b h z
   exact⟨eW _ this,λ e=>by subst e;exact g this⟩
  .rw[er.mp z]at h
   exact absurd h (no a)
 bk:=λ x f=>.inl (er.mp f)
 sc:=λ a b _ c k=>absurd (er.mp c) k
def iF.step{n s t y:Int}(W:iF n qs fl w s t)(u:(qs.map (·.1)).Nodup)(o:(qs.map (·.2)).Nodup)(h:(t,y)∈qs)(p:0<=y)(q:y<n):iF n qs fl (w++[y]) s y where
 nd:=by
  have f:y∉fl++w:=λ m=>(W.pr t y h m).2 rfl
  rw[<-iG,hW];refine⟨W.nd,by simp,λ a j b g e=>?_⟩;rw[er.mp g]at e;subst e;exact f j
 rg:=λ x i=>by
  rw[<-iG]at i;rcases dH.mp i with z|z
  .exact W.rg x z
  .rw[er.mp z];exact⟨p,q⟩
 ne:=by simp
 hd:=by rw[PW W.ne];exact W.hd
 lt:=PV _ _
 al:=Ht W.ne W.al (by rw[CI W.ne,W.lt];exact h)
 pr:=λ a b d g=>by
  have f:y∉fl++w:=λ m=>(W.pr t y h m).2 rfl
  rw[<-iG]at g ⊢;rcases dH.mp g with z|z
  .obtain⟨k,v⟩:=W.pr a b d z
   exact⟨eW _ k,λ e=>by subst e;exact f k⟩
  .rw[er.mp z]at d
   have e:=zd o d h;subst e;have l:a∈fl++w:=fU _ (by rw[<-W.lt,<-CI W.ne];exact Ju W.ne);exact⟨eW _ l,λ e=>by subst e;exact f l⟩
 bk:=λ x i=>by
  rcases dH.mp i with z|z
  .exact W.bk x z
  .rw[er.mp z];exact .inr ⟨t,h⟩
 sc:=λ a b d j r=>by
  rcases dH.mp j with z|z
  .by_cases c:a=t
   .subst c
    rw[Hv u d h];simp
   .exact eW _ (W.sc a b d z c)
  .exact absurd (er.mp z) r
structure kh(qs:aJ)(L w:List Int)(r t:Int):Prop where
 nd:w.Nodup
 sb:∀x∈w,x∈L
 ne:w≠[]
 hd:w.headD 0=r
 lt:w.getLastD 0=t
 al:hR qs w=true
 pr:∀a b,(a,b)∈qs->b∈w->b≠r->a∈w/\a≠t
def kh.last{qs:aJ}(R:kh qs L w r t):t∈w:=by rw[<-R.lt,<-CI R.ne];exact Ju R.ne
def kh.step{qs:aJ}(R:kh qs L w r t)(u:(qs.map (·.2)).Nodup)(h:(t,y)∈qs)(hr:y≠r)(i:y∈L):kh qs L (w++[y]) r y:=by
 have n:y∉w:=λ m=>(R.pr t y h m hr).2 rfl
 refine⟨?_,λ x j=>?_,by simp,by rw[PW R.ne];exact R.hd,PV _ _,Ht R.ne R.al (by rw[CI R.ne,R.lt];exact h),λ a b c d f=>?_⟩
 .rw[hW]
  refine⟨R.nd,by simp,λ a k b d e=>?_⟩;rw[er.mp d]at e;subst e;exact n k
 .rcases dH.mp j with z|z
  .exact R.sb x z
  .rw[er.mp z];exact i
 .rcases dH.mp d with z|z
  .obtain⟨g,l⟩:=R.pr a b c z f
   exact⟨eW _ g,λ e=>by subst e;exact n g⟩
  .rw[er.mp z]at c
   have e:=zd u c h;subst e;exact⟨eW _ R.last,λ e=>by subst e;exact n R.last⟩
def vS(qs:aJ)(L:List Int):Prop:=∀x∈L,∃y∈L,(x,y)∈qs
def kh.rest{qs:aJ}(R:kh qs L w r t)(f:(qs.map (·.1)).Nodup)(u:(qs.map (·.2)).Nodup)(h:(t,r)∈qs)(S:vS qs L):vS qs (L.filter λ x=>!decide (x∈w)):=λ x b=>by
 rw[hX]at b;obtain⟨y,d,e⟩:=S x b.1;have a:x∉w:=by simpa using b.2
 refine⟨y,hX.mpr ⟨d,?_⟩,e⟩
 have:y∉w:=λ m=>by
  by_cases c:y=r
  .subst c
   have:=zd u e h
   subst this;exact a R.last
  .exact a (R.pr x y e m c).1
 simpa using this
def Zc{qs:aJ}(u:(qs.map (·.1)).Nodup)(l:(qs.map (·.2)).Nodup)(n:L.Nodup)(h:∀x∈L,∃a∈L,(a,x)∈qs):vS qs L:=λ x g=>by
 by_cases c:∃y,(x,y)∈qs
 .obtain⟨y,e⟩:=c
  by_cases m:y∈L
  .exact⟨y,m,e⟩
  .exfalso
   have i:L.length<=((qs.filter λ q=>decide (q.2∈L)).map (·.2)).length:=n.length_le_of_subset λ z hz=>by
    obtain⟨a,_,e⟩:=h z hz;exact dj.mpr ⟨(a,z),hX.mpr ⟨e,by simpa using hz⟩,rfl⟩
   have f:((qs.filter λ q=>decide (q.2∈L)).map (·.1)).length<=(L.erase x).length:=JF ((JH _ C9).nodup u) λ z hz=>by
    obtain⟨q,b,rfl⟩:=dj.mp hz;rw[hX]at b;have d:q.2∈L:=by simpa using b.2
    obtain⟨a,j,k⟩:=h _ d
    have:=zd l k b.1
    subst this;rw[n.mem_erase_iff];exact⟨λ z=>m (by rw[Hv u e (by rw[<-z];exact b.1)];exact d),j⟩
   rw[bg]at i f;rw[C4 g]at f
   have:=C6 g
   lia
 .exfalso
  have i:L.length<=((qs.filter λ q=>decide (q.2∈L)).map (·.2)).length:=n.length_le_of_subset λ z hz=>by
   obtain⟨a,_,e⟩:=h z hz;exact dj.mpr ⟨(a,z),hX.mpr ⟨e,by simpa using hz⟩,rfl⟩
  have f:((qs.filter λ q=>decide (q.2∈L)).map (·.1)).length<=(L.erase x).length:=JF ((JH _ C9).nodup u) λ z hz=>by
   obtain⟨q,b,rfl⟩:=dj.mp hz;rw[hX]at b;have d:q.2∈L:=by simpa using b.2
   obtain⟨a,j,k⟩:=h _ d
   have:=zd l k b.1
   subst this;rw[n.mem_erase_iff];exact⟨λ z=>c ⟨q.2,by rw[<-z];exact b.1⟩,j⟩
  rw[bg]at i f;rw[C4 g]at f
  have:=C6 g
  lia
def PX:∀{l:cS},(∀r∈l,r≠[])->l.length<=l.flatten.length:=by
 intro l;induction l with
 |nil=>intro _;simp
 |cons a l i=>
  intro h;have c:0<a.length:=Da.mpr (h a c0)
  have:=i λ x b=>h x (dN _ b)
  rw[oK,eJ,g0];lia
def Zd(u:(qs.map (·.1)).Nodup):sC [.tup (qs.map aS)]= .ok (eh qs):=by
 have h:sA (qs.map pl)=some qs:=by
  clear u;induction qs with
  |nil=>rfl
  |cons q qs i=>
   rw[bu]
   show(match sA (qs.map pl)with|some r=>some ((q.1,q.2)::r)|none=>none)=_
   rw[i]
 unfold sC;cb_eq;rw[Px];cb_eq;rw[h];cb_eq;rw[zb (by simpa[CZ]using u)];rfl
def Ze:pD true (.int i) (eh qs)= .ok (.bl (!(qs.map (·.2)).any (·==i))):=by
 unfold pD eh bL;cb_eq;have h:intsOf ((qs.map λ q=>(q.1,D.int q.2)).map (·.2))=some (qs.map (·.2)):=by
  rw[cV,show((λ x:Int×D=>x.2)∘λ q:Int×Int=>(q.1,D.int q.2))=(D.int∘λ q=>q.2)from rfl,<-cV];exact m8 _
 rw[vg,h];cb_eq;cases (qs.map (·.2)).any (·==i)<;>rfl
abbrev cZ(n:Int)(ps qs:aJ)(wys rgs:cS)(left:List Int)(s6 s7 s8:Slot):af:=
 [.sh (ay n ps),.sh (.tup (qs.map aS)),.nw (eh qs),.ow (.lst (wys.map tupI)),.ow (.lst (rgs.map tupI)),.nw (.lst (left.map .int)),s6,s7,s8]
section
variable{n:Int}{ps qs:aJ}{wys rgs:cS}{left:List Int}{s6 s7 s8:Slot}
def PY:fK false (.int i) (eh qs)= .ok (.bl (qs.lookup i).isSome):=by
 unfold eh;rw[tC,Hu];cases qs.lookup i<;>rfl
def Hw(h:qs.lookup i=some y):gv (eh qs) (.int i)= .ok (.int y):=PQ (by rw[Hu,h];rfl)
def Zf(l:w.length<=60)(h:f (cZ n ps qs wys rgs left s6 (.ow (.lst (w.map .int))) s8)= .ok (.int y)):
  fy 7 f (cZ n ps qs wys rgs left s6 (.ow (.lst (w.map .int))) s8)= .nx (cZ n ps qs wys rgs left s6 (.ow (.lst ((w++[y]).map .int))) s8):=by
 have hz:(w.map D.int).length<aQ:=by rw[bg,jG];lia
 unfold fy;dsimp only[nC,nD];rw[h,cv,if_pos hz,gi];rfl
def Zg(l:w.length<=60)(h:f (cZ n ps qs wys rgs left s6 s7 (.ow (.lst (w.map .int))))= .ok (.int y)):
  fy 8 f (cZ n ps qs wys rgs left s6 s7 (.ow (.lst (w.map .int))))= .nx (cZ n ps qs wys rgs left s6 s7 (.ow (.lst ((w++[y]).map .int)))):=by
 have hz:(w.map D.int).length<aQ:=by rw[bg,jG];lia
 unfold fy;dsimp only[nC,nD];rw[h,cv,if_pos hz,gi];rfl
def Zh(D:n<=60)(u:(qs.map (·.1)).Nodup)(k:(qs.map (·.2)).Nodup)(r:∀p∈qs,0<=p.2/\p.2<n)(W:iF n qs fl w s t):
  ∃d t',mi ym GH (cZ n ps qs wys rgs left s6 (.ow (.lst (w.map .int))) s8)= .nx (cZ n ps qs wys rgs left s6 (.ow (.lst (d.map .int))) s8)/\iF n qs fl d s t'/\qs.lookup t'=none:=by
 have g:∀{w t},iF n qs fl w s t->yk (cZ n ps qs wys rgs left s6 (.ow (.lst (w.map .int))) s8)= .ok (.int t):=λ{w t} W=>by
  have h:=W.lt;rw[wa]at h;unfold yk;simp[Ho rfl W.ne,h]
 have i:∀{w t},iF n qs fl w s t->ym (cZ n ps qs wys rgs left s6 (.ow (.lst (w.map .int))) s8)= .ok (qs.lookup t).isSome:=λ{w t} W=>by
  unfold ym;rw[lK,fz,g W,aO]
  show(okD (fK false (.int t) (eh qs))).bd nV=_
  rw[PY];rfl
 obtain⟨o,E,e,⟨d,t',rfl,a,_⟩,f⟩:=vP (c:=ym) (b:=GH) (λ m ρ=>∃w t,ρ=cZ n ps qs wys rgs left s6 (.ow (.lst (w.map .int))) s8/\iF n qs fl w s t/\m=61-(fl++w).length) (by
  rintro m ρ ⟨w,t,rfl,W,rfl⟩;rw[i W];cases l:qs.lookup t with
  |none=>exact .inl rfl
  |some y=>
   have j:=zc l;obtain⟨q,v⟩:=r _ j;have a:=W.step u k j q v;have A:=jI W.nd W.rg;have B:=jI a.nd a.rg;have C:w.length<=60:=by rw[eJ]at A;lia
   refine .inr ⟨rfl,_,61-(fl++(w++[y])).length,Zf C ?_,?_,w++[y],y,rfl,a,rfl⟩
   .rw[fz]
    show((ag.ok (eh qs)).bd λ x=>(yk (cZ n ps qs wys rgs left s6 (.ow (.lst (w.map .int))) s8)).bd λ z=>okD (gv x z))=_
    rw[aO,g W,aO,Hw l];rfl
   .simp only[eJ,g0,kk]at B ⊢
    lia) (m:=61-(fl++w).length) (by lia) ⟨w,t,rfl,W,rfl⟩
 refine⟨d,t',e,a,?_⟩;rw[i a]at f;cases h:qs.lookup t' with
 |none=>rfl
 |some y=>rw[h]at f;cases f
def Zi(F:L.length<=60)(u:(qs.map (·.1)).Nodup)(v:(qs.map (·.2)).Nodup)(S:vS qs L)(R:kh qs L w r t):
  ∃i t',mi yo GJ (cZ n ps qs wys rgs left s6 s7 (.ow (.lst (w.map .int))))= .nx (cZ n ps qs wys rgs left s6 s7 (.ow (.lst (i.map .int))))/\kh qs L i r t'/\(t',r)∈qs:=by
 have j:∀{w t},kh qs L w r t->∃y∈L,(t,y)∈qs/\qs.lookup t=some y:=λ{w t} R=>by
  obtain⟨y,g,d⟩:=S t (R.sb t R.last);cases l:qs.lookup t with
  |none=>exact absurd d (vR l)
  |some z=>rw[Hv u (zc l) d];exact⟨y,g,d,rfl⟩
 have A:∀{w t},kh qs L w r t->vr (cZ n ps qs wys rgs left s6 s7 (.ow (.lst (w.map .int))))= .ok (.int t):=λ{w t} R=>by
  have h:=R.lt;rw[wa]at h;unfold vr;simp[Ho rfl R.ne,h]
 have o:∀{w t y},kh qs L w r t->qs.lookup t=some y->aj gv (fG 2) vr (cZ n ps qs wys rgs left s6 s7 (.ow (.lst (w.map .int))))= .ok (.int y):=λ{w t y} R l=>by
  rw[fz]
  show((ag.ok (eh qs)).bd λ x=>(vr (cZ n ps qs wys rgs left s6 s7 (.ow (.lst (w.map .int))))).bd λ z=>okD (gv x z))=_
  rw[aO,A R,aO,Hw l];rfl
 have p:∀{w t y},kh qs L w r t->qs.lookup t=some y->yo (cZ n ps qs wys rgs left s6 s7 (.ow (.lst (w.map .int))))= .ok (!(y==r)):=λ{w t y} R l=>by
  have B:aj aH (cc 8) (aq (.int 0)) (cZ n ps qs wys rgs left s6 s7 (.ow (.lst (w.map .int))))= .ok (.int r):=by
   have g:=R.ne;have d:=R.hd;cases w with
   |nil=>exact absurd rfl g
   |cons a w=>
    have q:cN ((a::w).map D.int) 0= .ok (.int a):=jH (k:=0) rfl;rw[bu]at q;rw[<-d];simp[q]
  unfold yo;rw[lK,fz,o R l,aO,B,aO];simp
 obtain⟨C,G,e,⟨i,t',rfl,f,_⟩,s⟩:=vP (c:=yo) (b:=GJ) (λ m ρ=>∃w t,ρ=cZ n ps qs wys rgs left s6 s7 (.ow (.lst (w.map .int)))/\kh qs L w r t/\m=61-w.length) (by
  rintro m ρ ⟨w,t,rfl,R,rfl⟩;obtain⟨y,g,d,l⟩:=j R;rw[p R l];by_cases c:y=r
  .exact .inl (by simp[c])
  .have f:=R.step v d c g
   have H:w.length<=L.length:=R.nd.length_le_of_subset R.sb;have E:(w++[y]).length<=L.length:=f.nd.length_le_of_subset f.sb;refine .inr ⟨by simpa using c,_,61-(w++[y]).length,Zg (by lia) (o R l),?_,w++[y],y,rfl,f,rfl⟩;rw[eJ,g0,kk]at E ⊢;lia) (m:=61-w.length) (by lia) ⟨w,t,rfl,R,rfl⟩
 refine⟨i,t',e,f,?_⟩;obtain⟨y,g,d,l⟩:=j f;rw[p f l]at s
 have:y=r:=by simpa using s
 rw[<-this];exact d
end
structure ki(n:Int)(qs:aJ)(i:Nat)(wys:cS):Prop where
 nd:wys.flatten.Nodup
 rg:∀x∈wys.flatten,0<=x/\x<n
 pr:∀a b,(a,b)∈qs->b∈wys.flatten->a∈wys.flatten
 sc:∀a b,(a,b)∈qs->a∈wys.flatten->b∈wys.flatten
 st:∀x:Int,0<=x->x<i->(∀a,(a,x)∉qs)->x∈wys.flatten
 lo:∀x∈wys.flatten,(∀a,(a,x)∉qs)->x<i
 al:∀w∈wys,w≠[]/\hR qs w=true/\(∀a,(a,w.headD 0)∉qs)/\∀b,(w.getLastD 0,b)∉qs
 hs:wys.map (·.headD 0)=(bH i).filter λ x=>!(qs.map (·.2)).any (·==x)
def ze(i:Nat):bH ((i+1:Nat):Int)=bH (i:Int)++[(i:Int)]:=by
 unfold bH;rw[kT,kT,Dd,gi];rfl
section
variable{n:Int}{ps qs:aJ}{wys rgs:cS}{s6 s7 s8:Slot}
def Hx(h:(qs.map (·.2)).any (·==i)=false)(a:Int):(a,i)∉qs:=λ m=>by
 rw[Jn]at h;exact h i (dj.mpr ⟨(a,i),m,rfl⟩) (by simp)
def PZ(h:(qs.map (·.2)).any (·==i)=true):∃a,(a,i)∈qs:=by
 rw[nE]at h;obtain⟨j,b,e⟩:=h;obtain⟨q,c,rfl⟩:=dj.mp b;rw[<-(show q.2=i by simpa using e)];exact⟨q.1,c⟩
def P0(k:Nat)(r:cS)(h:ρ[k]? =some (.ow (.lst (r.map tupI))))(l:r.length<=1000)(a:f ρ= .ok (.lst (w.map .int))):
  fy k (aK (aN gT (ae f ak))) ρ= .nx (ρ.set k (.ow (.lst ((r++[w]).map tupI)))):=by
 have hz:(r.map tupI).length<aQ:=by rw[bg,jG];lia
 have g:aK (aN gT (ae f ak)) ρ= .ok (tupI w):=by
  have i:gD (tupI w)= .ok (tupI w):=iE (ri w);have A:aN gT (ae f ak) ρ= .ok (tupI w):=by
   rw[mr,jo,a,aO,lI,aO,aO];rfl
  show(aN gT (ae f ak) ρ).bd gD=_
  rw[A,aO,i]
 unfold fy;rw[h];cb_eq;rw[g,cv,if_pos hz,gi];rfl
def Zj{l a b:List Int}:(l.filter λ x=>!decide (x∈a)).filter (λ x=>!decide (x∈b))=l.filter λ x=>!decide (x∈a++b):=by
 rw[List.filter_filter];refine Jp λ x _=>?_
 by_cases h:x∈a<;>by_cases c:x∈b<;>simp[h,c]
def Zk{i:Nat}(T:0<=n)(C:n<=60)(E:(i:Int)<n)(F:(qs.map (·.1)).Nodup)(G:(qs.map (·.2)).Nodup)(H:∀p∈qs,0<=p.2/\p.2<n)(P:ki n qs i wys):
  ∃s o,yn (cZ n ps qs wys [] ((bH n).filter λ x=>!decide (x∈wys.flatten)) (.sh (.int i)) s7 .no)= .nx (cZ n ps qs s [] ((bH n).filter λ x=>!decide (x∈s.flatten)) (.sh (.int i)) o .no)/\ki n qs (i+1) s:=by
 have q:bh (aj (pD true) (aa 6) (fG 2)) (cZ n ps qs wys [] ((bH n).filter λ x=>!decide (x∈wys.flatten)) (.sh (.int i)) s7 .no)= .ok (!(qs.map (·.2)).any (·==(i:Int))):=by
  rw[lK,fz]
  show(((ag.ok (D.int i)).bd λ x=>(ag.ok (eh qs)).bd λ y=>okD (pD true x y)).bd nV)=_
  rw[aO,aO,Ze];rfl
 unfold yn;rw[i4,q,cv];cases j:(qs.map (·.2)).any (·==(i:Int))with
 |true=>
  refine⟨wys,s7,rfl,P.nd,P.rg,P.pr,P.sc,λ x r I no=>?_,λ x u no=>?_,P.al,?_⟩
  .by_cases e:x=i
   .subst e
    obtain⟨a,g⟩:=PZ j;exact absurd g (no a)
   .exact P.st x r (by lia) no
  .have:=P.lo x u no
   lia
  .rw[ze,zH,P.hs,oM,if_neg (by rw[j];exact gh)]
   simp
 |false=>
  have no:=Hx j;have A:(i:Int)∉wys.flatten:=λ h=>by have:=P.lo _ h no;lia
  have J:=iF.start (n:=n) (qs:=qs) P.nd P.rg (by lia) E A no P.pr;obtain⟨w,t,K,W,B⟩:=Zh (ps:=ps) (wys:=wys) (rgs:=[]) (left:=(bH n).filter λ x=>!decide (x∈wys.flatten)) (s6:=.sh (.int i)) (s8:=.no) C F G H J;have L:wys.length<=60:=by
   have k:=congrArg qc P.hs;rw[bg]at k;rw[k]
   have:=wb (λ x=>!(qs.map (·.2)).any (·==x)) (bH (i:Int))
   rw[i6]at this;lia
  have M:eQ 7 (dC (ae (aK (aa 6)) ak)) (cZ n ps qs wys [] ((bH n).filter λ x=>!decide (x∈wys.flatten)) (.sh (.int i)) s7 .no)= .nx (cZ n ps qs wys [] ((bH n).filter λ x=>!decide (x∈wys.flatten)) (.sh (.int i)) (.ow (.lst ([(i:Int)].map .int))) .no):=by simp[iE]
  have N:=P0 (w:=w) 3 wys (f:=cc 7) (ρ:=cZ n ps qs wys [] ((bH n).filter λ x=>!decide (x∈wys.flatten)) (.sh (.int i)) (.ow (.lst (w.map .int))) .no) rfl (by lia) rfl;have O:GI (cZ n ps qs (wys++[w]) [] ((bH n).filter λ x=>!decide (x∈wys.flatten)) (.sh (.int i)) (.ow (.lst (w.map .int))) .no)= .nx (cZ n ps qs (wys++[w]) [] ((bH n).filter λ x=>!decide (x∈(wys++[w]).flatten)) (.sh (.int i)) (.ow (.lst (w.map .int))) .no):=by
   have Q:((bH n).filter λ x=>!decide (x∈wys.flatten)).length<=1000:=by
    have:=wb (λ x=>!decide (x∈wys.flatten)) (bH n)
    rw[i6]at this;lia
   have h:=PS (f:=bS (aa 5)) (js:=[none,some 7]) (ρ:=cZ n ps qs (wys++[w]) [] ((bH n).filter λ x=>!decide (x∈wys.flatten)) (.sh (.int i)) (.ow (.lst (w.map .int))) .no) (l:=(bH n).filter λ x=>!decide (x∈wys.flatten)) (m:=w) (by simp[shE,iy]) (.inr rfl) Q;unfold GI;rw[GB,h,cv,Zj];simp
  refine⟨wys++[w],.ow (.lst (w.map .int)),?_,?_⟩
  .rw[show(!false)=true from rfl,if_pos rfl,bc,M,bj,bc,K,bj,bc,N,bj]
   exact O
  .have d:(wys++[w]).flatten=wys.flatten++w:=by simp
   refine⟨by rw[d];exact W.nd,by rw[d];exact W.rg,by rw[d];exact λ a b h R=>(W.pr a b h R).1,?_,?_,?_,?_,?_⟩
   .rw[d]
    intro a b h g;rcases dH.mp g with z|z
    .exact eW _ (P.sc a b h z)
    .by_cases c:a=t
     .subst c
      exact absurd h (vR B)
     .exact fU _ (W.sc a b h z c)
   .rw[d]
    intro x r I no;by_cases e:x=i
    .subst e
     refine fU _ ?_;have k:=W.ne;have S:=W.hd;cases w with
     |nil=>exact absurd rfl k
     |cons a w=>rw[<-S];exact c0
    .exact eW _ (P.st x r (by lia) no)
   .rw[d]
    intro x u no;rcases dH.mp u with z|z
    .have:=P.lo x z no
     lia
    .rcases W.bk x z with e|⟨a,g⟩
     .rw[e];lia
     .exact absurd g (no a)
   .intro v q
    rcases dH.mp q with z|z
    .exact P.al v z
    .rw[er.mp z]
     exact⟨W.ne,W.al,by rw[W.hd];exact no,λ b=>by rw[W.lt];exact vR B⟩
   .rw[ze,zH,gi,P.hs,oM,if_pos (by rw[j];rfl)]
    show _++[w.headD 0]=_;rw[W.hd];rfl
end
structure CJ(n:Int)(qs:aJ)(wys rgs:cS):Prop where
 pi:ki n qs n.toNat wys
 rn:∀r∈rgs,r≠[]
 sz:wys.flatten.length+rgs.flatten.length<=n.toNat
def Zl(O:ef n ps)(Q:PT ps qs):∃wys rgs,B5 [ay n ps,.tup (qs.map aS)]= .ok (.tup [.tup (wys.map tupI),.tup (rgs.map tupI)])/\CJ n qs wys rgs:=by
 have v:∀p∈qs,0<=p.1/\p.1<n/\0<=p.2/\p.2<n:=λ p ah=>by have:=O.pr p (Q.sub.subset ah);exact⟨this.1,this.2.1,this.2.2.1,this.2.2.2.1⟩
 have H:=O.n0;have I:=O.n1;obtain⟨L,M,wys,s6,s7,rfl,P⟩:=oE (a:=aD 6) (u:=yn) (cw 0 n) (λ i ρ=>∃wys s6 s7,ρ=cZ n ps qs wys [] ((bH n).filter λ x=>!decide (x∈wys.flatten)) s6 s7 .no/\ki n qs i wys)
  (cZ n ps qs [] [] (bH n) .no .no .no) ⟨[],.no,.no,by rw[show((bH n).filter λ x=>!decide (x∈([]:cS).flatten))=bH n by simp],by
   refine⟨by simp,by simp,by simp,by simp,λ x x0 x1=>by lia,by simp,by simp,rfl⟩⟩ (by
   rintro i d ρ N ⟨wys,s6,s7,rfl,P⟩;obtain⟨rfl,q⟩:=vE N;rw[C0]at q ⊢;obtain⟨s,A,e,T⟩:=Zk (ps:=ps) (s7:=s7) H I q Q.u1 Q.u2 (λ p ah=>(v p ah).2.2) P;exact⟨_,e,s,_,A,rfl,T⟩)
 have B:(cw 0 n).length=n.toNat:=by rw[rj,bg,i6]
 rw[B]at P;have U:vS qs ((bH n).filter λ x=>!decide (x∈wys.flatten)):=Zc Q.u1 Q.u2 ((pN n).filter _) λ x j=>by
  rw[hX,kg]at j;have o:x∉wys.flatten:=by simpa using j.2
  by_cases c:∃a,(a,x)∈qs
  .obtain⟨a,g⟩:=c
   refine⟨a,hX.mpr ⟨kg.mpr ⟨(v _ g).1,(v _ g).2.1⟩,?_⟩,g⟩
   have:a∉wys.flatten:=λ h=>o (P.sc a x g h)
   simpa using this
  .exact absurd (P.st x j.1.1 (by lia) λ a g=>c ⟨a,g⟩) o
 have X:wys.flatten.length+((bH n).filter λ x=>!decide (x∈wys.flatten)).length<=n.toNat:=by
  have:=(za (pN n) P.nd λ w J=>kg.mpr (P.rg w J)).length_eq
  rw[eJ,i6]at this;lia
 have C:∀{rgs:cS} {left:List Int} {s6 s7 s8:Slot},B4 (cZ n ps qs wys rgs left s6 s7 s8)= .ok (!left.isEmpty):=λ{rgs left s6 s7 s8}=>by
  unfold B4;rw[lK,fz]
  show(((ag.ok (D.lst (left.map .int))).bd λ x=>(ag.ok (D.lst [])).bd λ y=>okD (b9 true x y)).bd nV)=_
  rw[aO,aO,Y8];rfl
 obtain⟨ρ2,m2,V,⟨rgs,left,s8,rfl,S,E,hr,hz,_⟩,ec⟩:=vP (c:=B4) (b:=GL) (λ m ρ=>∃rgs left s8,ρ=cZ n ps qs wys rgs left s6 s7 s8/\vS qs left/\left.Nodup/\(∀r∈rgs,r≠[])/\wys.flatten.length+rgs.flatten.length+left.length<=n.toNat/\m=left.length) (by
  rintro m ρ ⟨rgs,left,s8,rfl,S,E,hr,hz,rfl⟩;rw[C];cases left with
  |nil=>exact .inl rfl
  |cons r0 left=>
   have W:kh qs (r0::left) [r0] r0 r0:=⟨by simp,λ x j=>by rw[er.mp j];exact c0,by simp,rfl,rfl,rfl,λ a b _ Y Z=>absurd (er.mp Y) Z⟩;obtain⟨w,t,e,R,ht⟩:=Zi (n:=n) (ps:=ps) (wys:=wys) (rgs:=rgs) (left:=r0::left) (s6:=s6) (s7:=s7) (by lia) Q.u1 Q.u2 S W;have hfl:=PX hr;have a0:eQ 8 (dC (ae (aj aH (fG 5) (aq (.int 0))) ak)) (cZ n ps qs wys rgs (r0::left) s6 s7 s8)= .nx (cZ n ps qs wys rgs (r0::left) s6 s7 (.ow (.lst ([r0].map .int)))):=by
    have K:cN ((r0::left).map D.int) 0= .ok (.int r0):=jH (k:=0) rfl;rw[bu]at K;simp[K]
   have a2:=P0 (w:=w) 4 rgs (f:=cc 8) (ρ:=cZ n ps qs wys rgs (r0::left) s6 s7 (.ow (.lst (w.map .int)))) rfl (by lia) rfl;have a3:GK (cZ n ps qs wys (rgs++[w]) (r0::left) s6 s7 (.ow (.lst (w.map .int))))= .nx (cZ n ps qs wys (rgs++[w]) ((r0::left).filter λ x=>!decide (x∈w)) s6 s7 (.ow (.lst (w.map .int)))):=by
    have h:=PS (f:=bS (aa 5)) (js:=[none,some 8]) (ρ:=cZ n ps qs wys (rgs++[w]) (r0::left) s6 s7 (.ow (.lst (w.map .int)))) (l:=r0::left) (m:=w) (by simp[shE,iy]) (.inr rfl) (by lia);unfold GK;rw[GB,h,cv];simp
   have F:=(za E R.nd R.sb).length_eq;rw[eJ]at F;have J:0<w.length:=Da.mpr R.ne;refine .inr ⟨rfl,cZ n ps qs wys (rgs++[w]) ((r0::left).filter λ x=>!decide (x∈w)) s6 s7 (.ow (.lst (w.map .int))),((r0::left).filter λ x=>!decide (x∈w)).length,?_,by lia,rgs++[w],_,_,rfl,R.rest Q.u1 Q.u2 ht S,E.filter _,λ r G=>?_,?_,rfl⟩
   .unfold GL
    rw[bc,a0,bj,bc,e,bj,bc,a2,bj];exact a3
   .rcases dH.mp G with z|z
    .exact hr r z
    .rw[er.mp z];exact R.ne
   .simp only[List.flatten_append,eJ,oK,Jt,g6]at hz ⊢
    lia) (m:=((bH n).filter λ x=>!decide (x∈wys.flatten)).length) (by lia) ⟨[],_,.no,rfl,U,(pN n).filter _,by simp,by simpa using X,rfl⟩
 refine⟨wys,rgs,?_,P,hr,by lia⟩;have st:cf 9 [ay n ps,.tup (qs.map aS)]=[.sh (ay n ps),.sh (.tup (qs.map aS)),.no,.no,.no,.no,.no,.no,.no]:=rfl;have z1:ie 2 (aN sC (ae (aa 1) ak)) [.sh (ay n ps),.sh (.tup (qs.map aS)),.no,.no,.no,.no,.no,.no,.no]= .nx [.sh (ay n ps),.sh (.tup (qs.map aS)),.nw (eh qs),.no,.no,.no,.no,.no,.no]:=by simp[Zd Q.u1]
 have z2:eQ 3 (dC ak) [.sh (ay n ps),.sh (.tup (qs.map aS)),.nw (eh qs),.no,.no,.no,.no,.no,.no]= .nx [.sh (ay n ps),.sh (.tup (qs.map aS)),.nw (eh qs),.ow (.lst []),.no,.no,.no,.no,.no]:=by simp
 have z3:eQ 4 (dC ak) [.sh (ay n ps),.sh (.tup (qs.map aS)),.nw (eh qs),.ow (.lst []),.no,.no,.no,.no,.no]= .nx [.sh (ay n ps),.sh (.tup (qs.map aS)),.nw (eh qs),.ow (.lst []),.ow (.lst []),.no,.no,.no,.no]:=by simp
 have z4:ie 5 (pA (aj aH (aa 0) (aq (.int 0)))) [.sh (ay n ps),.sh (.tup (qs.map aS)),.nw (eh qs),.ow (.lst []),.ow (.lst []),.no,.no,.no,.no]= .nx (cZ n ps qs [] [] (bH n) .no .no .no):=by
  rw[GB,Hp (n:=n) (by simp[ay]) H I,cv,rj];rfl
 have z5:ff (di eG (ae (aj aH (aa 0) (aq (.int 0))) ak)) (aD 6) yn (cZ n ps qs [] [] (bH n) .no .no .no)= .nx (cZ n ps qs wys [] ((bH n).filter λ x=>!decide (x∈wys.flatten)) s6 s7 .no):=by
  have q:di eG (ae (aj aH (aa 0) (aq (.int 0))) ak) (cZ n ps qs [] [] (bH n) .no .no .no)= .ok (cw 0 n):=by
   have h1:ae (aj aH (aa 0) (aq (.int 0))) ak (cZ n ps qs [] [] (bH n) .no .no .no)= .ok [.int n]:=by simp[ay]
   show((ae (aj aH (aa 0) (aq (.int 0))) ak (cZ n ps qs [] [] (bH n) .no .no .no)).bd eG)=_
   rw[h1,aO,lM (by lia) (by lia)]
  rw[kM,q,cv,M]
 simp only[B5,iU,cO,st];rw[bc,z1,bj,bc,z2,bj,bc,z3,bj,bc,z4,bj,bc,z5,bj,bc,V,bj];simp
def P1{p q:Int×Int}:sW p q=true↔p.1<q.1\/p.1=q.1/\p.2<q.2:=by
 unfold sW;have e:HT.lexLt [p.1,p.2] [q.1,q.2]=true↔p.1<q.1\/p.1=q.1/\p.2<q.2:=by
  by_cases h:p.1=q.1
  .by_cases a:p.2=q.2
   .simp[HT.lexLt,h,a]
   .simp[HT.lexLt,h,a]
  .simp[HT.lexLt,h]
 exact e
def Zm{ps:aJ}:nB ps=true↔ps.Pairwise λ p q=>p.1<q.1\/p.1=q.1/\p.2<q.2:=by
 constructor
 .intro h
  have h':=Hj.mp h;clear h;induction ps with
  |nil=>exact .nil
  |cons p ps j=>
   have s:∀(i:Nat) (p q:Int×Int),ps[i]? =some p->ps[i+1]? =some q->sW p q=true:=λ i a b e d=>h' (i+1) a b e d
   have ah:=j s;refine hV.mpr ⟨λ q c=>?_,ah⟩;cases ps with
   |nil=>cases c
   |cons r k=>
    have f:=P1.mp (h' 0 p r rfl rfl);rcases b8.mp c with rfl|c
    .exact f
    .have g:=(hV.mp ah).1 q c
     lia
 .intro h
  rw[Hj];intro i p q e d;rw[P1];obtain⟨f,rfl⟩:=fC.mp e;obtain⟨g,rfl⟩:=fC.mp d;exact zB.mp h i (i+1) f g (nF i)
def gO(p:Int×Int):Int×Int:=(p.2,p.1)
theorem P3{w:Slot}:∀(ps:aJ) (ll:jb) (s2 s3:Slot),(∀p∈ps,0<=p.2/\p.2<ll.length)->(∀l∈ll,l.length+ps.length<=10000)->
  ∃s a,forL (eA 2 (bR (aD 2) (bR (aD 3) eD))) (ij 1 (aa 3) (aK (aa 2))) (ps.map aS) [w,.o2 ll,s2,s3]= .nx [w,.o2 ((ps.map gO).foldl eF ll),s,a]
 |[],ll,s2,s3,_,_=>⟨s2,s3,rfl⟩
 |p::ps,ll,s2,s3,h,d=>by
  obtain⟨o,r⟩:=h p c0;have k:p.2.toNat<ll.length:=by lia
  have i:ll.getD p.2.toNat []∈ll:=by simp[k]
  have hz:=d _ i;obtain⟨s,a,e⟩:=P3 (w:=w) ps (eF ll (gO p)) (.sh (.int p.1)) (.sh (.int p.2)) (λ q f=>by unfold eF;rw[kU];exact h q (dN _ f)) (λ l m=>by
   unfold eF at m;rcases IX m with z|z
   .have:=d l z
    simp at this;lia
   .subst z
    simp[gO]at hz ⊢;lia)
  refine⟨s,a,?_⟩;rw[bu,bu,sH,mD];have g:qL ll (.int p.2)=some (p.2.toNat,ll.getD p.2.toNat []):=by
   have x:hh ll.length p.2=some p.2.toNat:=by
    unfold hh;rw[if_pos (by lia),if_pos (by lia)]
   simp only[qL,x,tS];rw[bP k];simp[k]
  have j:lL (eA 2 (bR (aD 2) (bR (aD 3) eD)) (aS p) [w,.o2 ll,s2,s3]) (λ b=>(ij 1 (aa 3) (aK (aa 2)) b).tn (forL (eA 2 (bR (aD 2) (bR (aD 3) eD))) (ij 1 (aa 3) (aK (aa 2))) (ps.map aS)))=
    (ij 1 (aa 3) (aK (aa 2)) [w,.o2 ll,.sh (.int p.1),.sh (.int p.2)]).tn (forL (eA 2 (bR (aD 2) (bR (aD 3) eD))) (ij 1 (aa 3) (aK (aa 2))) (ps.map aS)):=by
   simp[aS]
  have n:ij 1 (aa 3) (aK (aa 2)) [w,.o2 ll,.sh (.int p.1),.sh (.int p.2)]= .nx [w,.o2 (eF ll (gO p)),.sh (.int p.1),.sh (.int p.2)]:=by
   have c:(ll.getD p.2.toNat []).length<16777216:=by simp at hz ⊢;lia
   unfold ij;simp only[nC,nD];simp[g];rw[if_pos (by simpa using c)];simp[eF,gO]
  rw[j,n,BY];exact e
def Zn{n:Int}{ps:aJ}(h:ef n ps):∃ll,B1 [ay n ps]= .ok (.lst (ll.map .lst))/\vI n (ps.map gO) ll:=by
 have hr:=lM (j:=n) (by have:=h.n0;lia) (by have:=h.n1;lia);have X:(cw 0 n).length=n.toNat:=by rw[pI];lia
 have m:=h.n1;have s:=h.len;have c:∀p∈ps,0<=p.2/\p.2<(cG n.toNat ([]:List D)).length:=λ p ah=>by
  obtain⟨_,_,a,b,_⟩:=h.pr p ah;rw[pU];lia
 obtain⟨s2,s3,e⟩:=P3 (w:=.sh (ay n ps)) ps (cG n.toNat []) .no .no c (λ l o=>by
  rw[(Jl.mp o).2];simp;lia)
 refine⟨(ps.map gO).foldl eF (cG n.toNat []),?_,by rw[yS,pU],λ i r A=>?_⟩
 .have hz:n.toNat<16777216:=by lia
  have t:sv 1 (di eG (ae (aj aH (aa 0) (aq (.int 0))) ak)) [none] (aD 0) [.sh (ay n ps),.no,.no,.no]= .nx [.sh (ay n ps),.o2 (cG n.toNat []),.no,.no]:=by
   unfold sv;simp[shE,iy,ay,hr,X,hz]
  have u:ff (bS (aj aH (aa 0) (aq (.int 1)))) (eA 2 (bR (aD 2) (bR (aD 3) eD))) (ij 1 (aa 3) (aK (aa 2))) [.sh (ay n ps),.o2 (cG n.toNat []),.no,.no]= .nx [.sh (ay n ps),.o2 ((ps.map gO).foldl eF (cG n.toNat [])),s2,s3]:=by
   have d:bS (aj aH (aa 0) (aq (.int 1))) [.sh (ay n ps),.o2 (cG n.toNat []),.no,.no]= .ok (ps.map aS):=by simp[ay]
   rw[kM,d,cv];exact e
  have v:retS (jc 1) [.sh (ay n ps),.o2 ((ps.map gO).foldl eF (cG n.toNat [])),s2,s3]= .rt (.lst (((ps.map gO).foldl eF (cG n.toNat [])).map .lst)):=by simp
  have st:cf 4 [ay n ps]=[.sh (ay n ps),.no,.no,.no]:=rfl;simp only[B1,kZ,cO,st];rw[bc,t,bj,bc,u,bj,v]
 .have f:i.toNat<(cG n.toNat ([]:List D)).length:=by rw[pU];lia
  have g:=Hn (ps.map gO) (cG n.toNat []) i.toNat (λ q x=>by obtain⟨p,ah,rfl⟩:=dj.mp x;exact c p ah) f;have k:i.toNat<((ps.map gO).foldl eF (cG n.toNat [])).length:=by rw[yS];exact f
  have d:((i.toNat:Nat):Int)=i:=pS r;rw[d]at g;rw[<-d];refine jH ?_;rw[d,da,bP k]
  have:((ps.map gO).foldl eF (cG n.toNat []))[i.toNat]=(cR (ps.map gO) i).map .int:=by
   have y:((ps.map gO).foldl eF (cG n.toNat [])).getD i.toNat []=((ps.map gO).foldl eF (cG n.toNat []))[i.toNat]:=by simp[k]
   rw[<-y,g];have z:(cG n.toNat ([]:List D)).getD i.toNat []=[]:=by
    rw[hE,tI];split<;>rfl
   rw[z,rB]
  rw[this];rfl
def dt(ps:aJ)(o:List Int)(x:Int):Nat:=(ps.filter λ p=>p.2==x&& !decide (p.1∈o)).length
theorem Hy{p x:Int}{o:List Int}(ah:p∉o):∀{ps:aJ},ps.Nodup->dt ps o x=dt ps (o++[p]) x+if (p,x)∈ps then 1 else 0
 |[],_=>rfl
 |q::ps,n=>by
  obtain⟨b,d⟩:=iq.mp n;have i:=Hy ah (x:=x) d;unfold dt at i ⊢;rw[oM,oM];by_cases e:q=(p,x)
  .subst e
   have f:¬(p,x)∈ps:=b;rw[if_neg f]at i;simp[ah,i]
  .have m:(p,x)∈q::ps↔(p,x)∈ps:=⟨λ h=>(b8.mp h).resolve_left λ z=>e z.symm,dN _⟩
   rw[show(if (p,x)∈q::ps then 1 else 0)=if (p,x)∈ps then 1 else 0 by simp only[m]];by_cases c:q.2=x
   .have g:q.1≠p:=λ z=>e (tT z c)
    by_cases a:q.1∈o
    .simp[c,a,i]
    .simp[c,a,g,i]
     lia
   .simp[c,i]
structure lP(n:Int)(ps:aJ)(rem W rd od:List Int):Prop where
 lw:W.length=n.toNat
 w:∀x,0<=x->x<n->W[x.toNat]? =some ((dt ps od x:Int)+if x∈rem then 1 else 0)
 nd:(od++rd).Nodup
 rg:∀x∈od++rd,0<=x/\x<n
 z:∀x,0<=x->x<n->(x∈od++rd↔dt ps od x=0/\x∉rem)
 tp:∀l x r,od=l++x::r->∀a,(a,x)∈ps->a∈l
def Zo{ps:aJ}{o:List Int}{x a:Int}(h:dt ps o x=0)(b:(a,x)∈ps):a∈o:=by
 unfold dt at h;rw[C5,zC]at h
 have:=h _ b
 simpa using this
def Zp{r:List Int}{p x:Int}(h:p∈r):x∈r↔x=p\/x∈r.eraseIdx (r.idxOf p):=by
 rw[<-IV rfl];constructor
 .intro a
  by_cases e:x=p
  .exact .inl e
  .exact .inr ((Jf e).mpr a)
 .rintro(rfl|a)
  .exact h
  .exact Jc a
def lP.take{n p:Int}{ps:aJ}{W d g:List Int}(K:lP n ps [] W d g)(ah:p∈d)(q:ps.Nodup):lP n ps (cR ps p) W (d.eraseIdx (d.idxOf p)) (g++[p]):=by
 have o:p∉g:=λ h=>by
  have:=K.nd
  rw[hW]at this;exact this.2.2 p h p ah rfl
 have s:∀x,x∈(g++[p])++d.eraseIdx (d.idxOf p)↔x∈g++d:=λ x=>by
  rw[dH,dH,dH,er,Zp ah (x:=x)];constructor
  .rintro((h|h)|h)
   .exact .inl h
   .exact .inr (.inl h)
   .exact .inr (.inr h)
  .rintro(h|h|h)
   .exact .inl (.inl h)
   .exact .inl (.inr h)
   .exact .inr h
 refine⟨K.lw,λ x j k=>?_,?_,λ x w=>K.rg x ((s x).mp w),λ x j k=>?_,λ l x r e a f=>?_⟩
 .rw[K.w x j k,Hy o q]
  have:(x∈cR ps p)↔(p,x)∈ps:=th
  by_cases c:(p,x)∈ps<;>simp[c,this]
 .have t:=K.nd
  rw[hW]at t;obtain⟨z,u,A⟩:=t;rw[<-IV rfl];rw[hW];refine⟨?_,u.erase p,λ a f b i e=>?_⟩
  .rw[hW]
   refine⟨z,by simp,λ a f b i e=>?_⟩;rw[er.mp i]at e;subst e;exact o f
  .subst e
   rcases dH.mp f with h|h
   .exact A a h a (Jc i) rfl
   .rw[er.mp h]at i
    exact(u.mem_erase_iff.mp i).1 rfl
 .rw[s,K.z x j k,Hy o q]
  have:(x∈cR ps p)↔(p,x)∈ps:=th
  by_cases c:(p,x)∈ps<;>simp[c,this]
 .rcases List.eq_nil_or_concat r with rfl|⟨B,y,rfl⟩
  .obtain⟨m,v⟩:=Js e rfl
   cases v;subst m;obtain⟨C,D⟩:=K.rg p (fU _ ah);exact Zo ((K.z p C D).mp (fU _ ah)).1 f
  .rw[List.concat_eq_append,<-we,<-iG]at e
   obtain⟨m,v⟩:=Js e rfl;exact K.tp l x B m a f
def lP.less{n o:Int}{ps:aJ}{r W f d:List Int}(K:lP n ps (o::r) W f d)(k:0<=o)(l:o<n)(hr:o∉r):
  lP n ps r (W.set o.toNat (dt ps d o:Int)) (if dt ps d o=0 then f++[o]else f) d:=by
 have g:o∉d++f:=λ h=>((K.z o k l).mp h).2 c0
 have m:∀x,x∈d++(if dt ps d o=0 then f++[o]else f)↔x∈d++f\/(x=o/\dt ps d o=0):=λ x=>by
  by_cases c:dt ps d o=0
  .rw[if_pos c,<-iG,dH,er]
   exact⟨λ h=>h.imp_right λ z=>⟨z,c⟩,λ h=>h.imp_right λ z=>z.1⟩
  .rw[if_neg c]
   exact⟨.inl,λ h=>h.elim id λ z=>absurd z.2 c⟩
 refine⟨by rw[kU];exact K.lw,λ x i j=>?_,?_,λ x p=>?_,λ x i j=>?_,K.tp⟩
 .by_cases e:x=o
  .subst e
   rw[pT (by rw[K.lw];lia),if_neg hr];simp
  .rw[oJ (by lia),K.w x i j]
   simp[e]
 .by_cases c:dt ps d o=0
  .rw[if_pos c,<-iG,hW]
   refine⟨K.nd,by simp,λ a q b s e=>?_⟩;rw[er.mp s]at e;subst e;exact g q
  .rw[if_neg c];exact K.nd
 .rcases(m x).mp p with h|h
  .exact K.rg x h
  .rw[h.1];exact⟨k,l⟩
 .rw[m,K.z x i j]
  by_cases e:x=o
  .subst e
   simp[hr]
  .simp[e]
abbrev fT(n:Int)(ps:aJ)(ll:jb)(W r o:List Int)(s5 s6:Slot):af:=
 [.sh (ay n ps),.sh (.lst (ll.map .lst)),.ow (.lst (W.map .int)),.ow (.lst (r.map .int)),.ow (.lst (o.map .int)),s5,s6]
def P4{W:List Int}{x a:Int}(b:0<=x)(h:W[x.toNat]? =some a):cN (W.map D.int) x= .ok (.int a):=by
 have i:((x.toNat:Nat):Int)=x:=pS b
 have:=jH (l:=W.map D.int) (k:=x.toNat) (d:=.int a) (by rw[da,h];rfl)
 rwa [i]at this
def Zq{ws:List Int}(h:ws≠[]):∃m,ws.min?=some m:=by
 cases c:ws.min? with
 |none=>rw[List.min?_eq_none_iff]at c;exact absurd c h
 |some m=>exact⟨m,rfl⟩
section
variable{n:Int}{ps:aJ}{ll:jb}{W r f m:List Int}{s5 s6:Slot}
def Zr{o:Int}(K:lP n ps (o::m) W r f)(u:n<=60)(a:0<=o)(d:o<n)(hr:o∉m):
  yp (fT n ps ll W r f s5 (.sh (.int o)))= .nx (fT n ps ll (W.set o.toNat (dt ps f o:Int)) (if dt ps f o=0 then r++[o]else r) f s5 (.sh (.int o))):=by
 have w:=K.w o a d;rw[if_pos c0]at w;have h:o.toNat<W.length:=by rw[K.lw];lia
 have k:vc (W.map D.int) (.int o)=some (o.toNat,(dt ps f o:Int)+1):=by
  have b:hh (W.map D.int).length o=some o.toNat:=by
   unfold hh;rw[bg,if_pos a,if_pos (by lia)]
  unfold vc;cb_eq;rw[b,tS,da,w];rfl
 have l:xT (λ i j=>i-j) 2 (aa 6) (aq (.int 1)) (fT n ps ll W r f s5 (.sh (.int o)))= .nx (fT n ps ll (W.set o.toNat (dt ps f o:Int)) r f s5 (.sh (.int o))):=by
  have e:aa 6 (fT n ps ll W r f s5 (.sh (.int o)))= .ok (.int o):=rfl;have p:aq (.int 1) (fT n ps ll W r f s5 (.sh (.int o)))= .ok (.int 1):=rfl;unfold xT;dsimp only[nC,nD];rw[e,cv,k];cb_eq;rw[p,cv];unfold Ov;cb_eq;rw[Int.add_sub_cancel,<-List.map_set];rfl
 have q:cN ((W.set o.toNat (dt ps f o:Int)).map D.int) o= .ok (.int (dt ps f o:Int)):=P4 a (by rw[pT h]);have s:bh (aj (b9 false) (aj aH (cc 2) (aa 6)) (aq (.int 0))) (fT n ps ll (W.set o.toNat (dt ps f o:Int)) r f s5 (.sh (.int o)))= .ok ((dt ps f o:Int)==0):=by
  have e:aj aH (cc 2) (aa 6) (fT n ps ll (W.set o.toNat (dt ps f o:Int)) r f s5 (.sh (.int o)))= .ok (.int (dt ps f o:Int)):=by
   rw[fz]
   show((ag.ok (D.lst ((W.set o.toNat (dt ps f o:Int)).map D.int))).bd λ x=>(ag.ok (D.int o)).bd λ y=>okD (aH x y))=_
   rw[aO,aO];show okD (cN ((W.set o.toNat (dt ps f o:Int)).map D.int) o)=_;rw[q];rfl
  rw[lK,fz,e,aO];rfl
 unfold yp;rw[bc,l,bj,i4,s,cv];by_cases c:dt ps f o=0
 .have t:=jI K.nd K.rg
  rw[eJ]at t;rw[if_pos (by rw[c];rfl),if_pos c];have g:aK (aa 6) (fT n ps ll (W.set o.toNat (dt ps f o:Int)) r f s5 (.sh (.int o)))= .ok (.int o):=rfl;unfold fy;dsimp only[nC,nD];rw[g,cv,if_pos (by rw[bg,jG];lia)];simp
 .have:((dt ps f o:Int)==0)=false:=by simpa using c
  rw[this,if_neg c];rfl
theorem P5(b:n<=60):∀(m:List Int) {W r:List Int} {s6:Slot},lP n ps m W r f->m.Nodup->(∀x∈m,0<=x/\x<n)->∃a d s,forL (aD 6) yp (m.map D.int) (fT n ps ll W r f s5 s6)= .nx (fT n ps ll a d f s5 s)/\lP n ps [] a d f
 |[],W,r,s6,K,_,_=>⟨W,r,s6,rfl,K⟩
 |o::m,W,r,s6,K,k,c=>by
  obtain⟨g,l⟩:=iq.mp k;obtain⟨i,j⟩:=c o c0;obtain⟨a,d,s,e,p⟩:=P5 b m (s6:=.sh (.int o)) (K.less i j g) l λ x h=>c x (dN _ h)
  refine⟨a,d,s,?_,p⟩;rw[bu,sH];show lL (aD 6 (.int o) (fT n ps ll W r f s5 s6)) _=_;rw[oq,q9]
  show(yp (fT n ps ll W r f s5 (.sh (.int o)))).tn _=_
  rw[Zr K b i j g,BY];exact e
def Zs(n:ps.Nodup)(p:Int):(cR ps p).Nodup:=by
 unfold cR;have m:∀q∈ps.filter λ q=>q.1==p,q.1=p:=λ q c=>by simpa using(hX.mp c).2
 rw[C2,zM];refine QN (λ{a b} d f h e=>?_) (n.filter λ q=>q.1==p);exact h (tT ((m a d).trans (m b f).symm) e)
def Zt(O:ef n ps)(i:ps.Nodup)(N:vI n ps ll)(K:lP n ps [] W r f)(hr:r≠[]):∃b a p c s,B7 (fT n ps ll W r f s5 s6)= .nx (fT n ps ll b a (f++[p]) c s)/\lP n ps [] b a (f++[p]):=by
 obtain⟨p,h⟩:=Zq hr;have ah:p∈r:=List.min?_mem h;obtain⟨j,k⟩:=K.rg p (fU _ ah);have l:=jI K.nd K.rg;rw[eJ]at l;have m:=O.n1;have o:cJ 5 (aN (n3 wm) (ae (cc 3) ak)) (fT n ps ll W r f s5 s6)= .nx (fT n ps ll W r f (.sh (.int p)) s6):=by
  have:n3 wm [.lst (r.map D.int)]= .ok (.int p):=by
   unfold n3;cb_eq;rw[m8];cb_eq;rw[h]
  rw[ye,mr]
  show((((ag.ok [D.lst (r.map D.int)]).bd λ x=>okD (n3 wm x)).bo λ d=>_))=_
  rw[aO,this];rfl
 have q:xS 3 (aK (aa 5)) (fT n ps ll W r f (.sh (.int p)) s6)= .nx (fT n ps ll W (r.eraseIdx (r.idxOf p)) f (.sh (.int p)) s6):=by
  have g:aK (aa 5) (fT n ps ll W r f (.sh (.int p)) s6)= .ok (.int p):=rfl;unfold xS;dsimp only[nC,nD];rw[g,cv];unfold Ga;rw[m8];cb_eq;rw[if_pos ⟨ah,by rw[jG];lia⟩];rfl
 have t:fy 4 (aK (aa 5)) (fT n ps ll W (r.eraseIdx (r.idxOf p)) f (.sh (.int p)) s6)= .nx (fT n ps ll W (r.eraseIdx (r.idxOf p)) (f++[p]) (.sh (.int p)) s6):=by
  have g:aK (aa 5) (fT n ps ll W (r.eraseIdx (r.idxOf p)) f (.sh (.int p)) s6)= .ok (.int p):=rfl;unfold fy;dsimp only[nC,nD];rw[g,cv,if_pos (by rw[bg,jG];lia)];simp
 obtain⟨b,a,s,e,u⟩:=P5 (ll:=ll) (s5:=.sh (.int p)) (s6:=s6) m (cR ps p) (K.take ah i) (Zs i p) λ x v=>by
  have:=O.pr _ (th.mp v)
  exact⟨this.2.2.1,this.2.2.2.1⟩
 refine⟨b,a,p,.sh (.int p),s,?_,u⟩;have w:bS (aj aH (aa 1) (aa 5)) (fT n ps ll W (r.eraseIdx (r.idxOf p)) (f++[p]) (.sh (.int p)) s6)= .ok ((cR ps p).map .int):=by
  have z:aj aH (aa 1) (aa 5) (fT n ps ll W (r.eraseIdx (r.idxOf p)) (f++[p]) (.sh (.int p)) s6)= .ok (.lst ((cR ps p).map .int)):=by
   rw[fz]
   show((ag.ok (D.lst (ll.map .lst))).bd λ x=>(ag.ok (D.int p)).bd λ y=>okD (aH x y))=_
   rw[aO,aO];show okD (cN (ll.map .lst) p)=_;rw[N.item p j k];rfl
  rw[Yd,z];rfl
 unfold B7;rw[bc,o,bj,bc,q,bj,bc,t,bj,kM,w,cv,e]
end
def Zu(ps:aJ)(x:Int):(cR (ps.map gO) x).length=dt ps [] x:=by
 unfold cR dt;rw[bg];induction ps with
 |nil=>rfl
 |cons p ps i=>
  rw[bu,oM,oM];by_cases c:p.2=x<;>simp[gO,c]<;>simpa[gO]using i
def Zv{n:Nat}{ps:aJ}{d:List Int}(U:gE n ps)(rg:∀x∈d,0<=x/\x<(n:Int))(z:∀x,0<=x->x<(n:Int)->(x∈d↔dt ps d x=0)):n<=d.length:=by
 obtain⟨os,o,u⟩:=U;have inj:∀k l,k<n->l<n->os.getD k 0=os.getD l 0->k=l:=λ k l c f e=>by
  have k1:k<os.length:=by rw[o.len];exact c
  have k2:l<os.length:=by rw[o.len];exact f
  have:os[k]? =os[l]?:=by
   rw[bP k1,bP k2];simpa[k1,k2]using e
  exact(wc k1 o.nd).mp this
 have c:∀m k,k<m->k<n->os.getD k 0∈d:=by
  intro m;induction m with
  |zero=>intro k h;exact absurd h (wo _)
  |succ m g=>
   intro k _ a;have i:os.getD k 0∈os:=by
    have:k<os.length:=by rw[o.len];exact a
    simp[this]
   obtain⟨j,r⟩:=o.lo _ i;rw[z _ j r];unfold dt;rw[C5,zC];intro p ah;obtain⟨q,y,s,rfl⟩:=u p ah;simp only[cM,beq_iff_eq,zi,decide_eq_false_iff_not,not_and,Decidable.not_not];intro e
   have:=inj _ _ s a e
   have t:q.1<m:=by lia
   exact g q.1 t (by lia)
 have v:os⊆d:=λ x w=>by
  obtain⟨k,b,e⟩:=tJ w
  have:=c (k+1) k (nF k) (by rw[<-o.len];exact b)
  rw[<-e];simpa[b]using this
 have:=o.nd.length_le_of_subset v
 rw[o.len]at this;exact this
def Zw{n:Nat}{ps:aJ}(O:ef n ps)(U:gE n ps):∃o:List Int,yq [ay n ps]= .ok (.lst (o.map .int))/\o.length=n/\o.Nodup/\(∀x∈o,0<=x/\x<(n:Int))/\∀l x r,o=l++x::r->∀a,(a,x)∈ps->a∈l:=by
 have n1:=O.n1;have V:ps.Nodup:=by
  have:=Zm.mp O.ris
  rw[C2];exact this.imp λ{a b} h e=>by subst e;lia
 obtain⟨ll,H,N⟩:=CD O;obtain⟨B,X,I⟩:=Zn O;obtain⟨i,w⟩:∃i:List Int,i=(bH n).map λ x=>(dt ps [] x:Int):=⟨_,rfl⟩
 obtain⟨r0,v⟩:∃r0:List Int,r0=(bH n).filter λ x=>dt ps [] x==0:=⟨_,rfl⟩
 have C:∀x:Int,0<=x->x<n->(bH (n:Int))[x.toNat]? =some x:=λ x s u=>by
  unfold bH;rw[da,zF (by lia)];simp;lia
 have E:∀x:Int,0<=x->x<n->i[x.toNat]? =some (dt ps [] x:Int):=λ x s u=>by
  rw[w,da,C x s u];rfl
 have Y:lP n ps [] i r0 []:=by
  refine⟨by rw[w,bg,i6],λ x s u=>by rw[E x s u];simp,?_,λ x A=>?_,λ x s u=>?_,λ l x r e=>by simp at e⟩
  .rw[rB,v];exact(pN _).filter _
  .rw[rB,v]at A
   exact kg.mp (hX.mp A).1
  .rw[rB,v,hX,kg]
   simp[s,u]
 have S:∀{W q o:List Int} {s5 s6:Slot},cX (cc 3) (fT n ps ll W q o s5 s6)= .ok (!q.isEmpty):=λ{W q o s5 s6}=>by
  rw[nt]
  show(ag.ok (D.lst (q.map .int))).bd Bh=_
  rw[aO];cases q<;>rfl
 obtain⟨Z,m',ew,⟨W,q,o,s5,s6,rfl,K,_⟩,T⟩:=vP (c:=cX (cc 3)) (b:=B7) (λ m ρ=>∃W q o s5 s6,ρ=fT n ps ll W q o s5 s6/\lP n ps [] W q o/\m=61-o.length) (by
  rintro m ρ ⟨W,q,o,s5,s6,rfl,K,rfl⟩;rw[S];cases q with
  |nil=>exact .inl rfl
  |cons r q=>
   obtain⟨W',J,p,L,M,e,P⟩:=Zt (s5:=s5) (s6:=s6) O V N K (by simp);refine .inr ⟨rfl,_,61-(o++[p]).length,e,?_,W',J,_,L,M,rfl,P,rfl⟩
   have:=jI P.nd P.rg
   rw[eJ]at this;rw[eJ,g0,kk]at this ⊢;lia) (m:=61-([]:List Int).length) (by simp) ⟨i,r0,[],.no,.no,rfl,Y,rfl⟩
 have Q:q=[]:=by
  rw[S]at T;cases q with
  |nil=>rfl
  |cons _ _=>cases T
 subst Q;have hl:=jI K.nd K.rg;rw[g6]at hl;have hge:=Zv U (λ x A=>K.rg x (by rw[g6];exact A)) λ x s u=>by
  have:=K.z x s u
  rw[g6]at this;rw[this];simp
 have knd:=K.nd;have F:=K.rg;rw[g6]at knd F;refine⟨o,?_,by lia,knd,F,K.tp⟩;have st:cf 7 [ay n ps]=[.sh (ay n ps),.no,.no,.no,.no,.no,.no]:=rfl;have b1:cJ 1 (aW oA (ae (aa 0) ak)) [.sh (ay n ps),.no,.no,.no,.no,.no,.no]= .nx [.sh (ay n ps),.sh (.lst (ll.map .lst)),.no,.no,.no,.no,.no]:=by simp[H]
 have b2:eQ 2 GM [.sh (ay n ps),.sh (.lst (ll.map .lst)),.no,.no,.no,.no,.no]= .nx [.sh (ay n ps),.sh (.lst (ll.map .lst)),.ow (.lst (i.map .int)),.no,.no,.no,.no]:=by
  have R:B=(bH (n:Int)).map λ x=>(cR (ps.map gO) x).map D.int:=by
   refine Jo λ k=>?_
   by_cases hk:k<n
   .have h:=I.item k (by lia) (by lia)
    have G:k<B.length:=by rw[I.len];lia
    have h2:=jH (l:=B.map D.lst) (k:=k) (d:=.lst B[k]) (by rw[da,bP G];rfl);rw[h2]at h;replace h:=D.lst.inj (ag.ok.inj h);rw[bP G,da,h]
    have:=C k (by lia) (by lia)
    rw[kT]at this;rw[this,qe]
   .rw[zE (by rw[I.len];lia),zE (by rw[bg,i6];lia)]
  have h:GM [.sh (ay n ps),.sh (.lst (ll.map .lst)),.no,.no,.no,.no,.no]= .ok (.lst (i.map .int)):=by
   refine kR (ds:=(bH (n:Int)).map λ x=>.lst ((cR (ps.map gO) x).map D.int)) ?_ (by rw[bg,i6];lia) ?_
   .have:(B.map D.lst)=(bH (n:Int)).map λ x=>.lst ((cR (ps.map gO) x).map D.int):=by rw[R,cV];rfl
    rw[<-this];simp[shE,iy,X]
   .rw[w,cV]
    refine tf (fg:=aD 0) (fe:=aN b0 (ae (aa 0) ak)) (f:=λ x=>.lst ((cR (ps.map gO) x).map D.int)) (g:=D.int∘λ x=>(dt ps [] x:Int)) (bH n) λ x _=>⟨[.sh (.lst ((cR (ps.map gO) x).map D.int))],rfl,?_⟩
    have:=Zu ps x
    simp[this]
  rw[GC,h,cv];rfl
 have b3:eQ 3 GN [.sh (ay n ps),.sh (.lst (ll.map .lst)),.ow (.lst (i.map .int)),.no,.no,.no,.no]= .nx [.sh (ay n ps),.sh (.lst (ll.map .lst)),.ow (.lst (i.map .int)),.ow (.lst (r0.map .int)),.no,.no,.no]:=by
  have hr:=lM (j:=(n:Int)) (by lia) (by lia);have h:GN [.sh (ay n ps),.sh (.lst (ll.map .lst)),.ow (.lst (i.map .int)),.no,.no,.no,.no]= .ok (.lst (r0.map .int)):=by
   refine kR (ds:=(bH (n:Int)).map .int) (by rw[<-rj];simp[shE,iy,ay,hr]) (by rw[bg,i6];lia) ?_;rw[v];refine pK (fg:=aD 0) (f:=D.int) (g:=D.int) (t:=λ x=>dt ps [] x==0) (bH n) λ x A=>⟨[.sh (.int x),.sh (.lst (i.map .int))],rfl,?_,rfl⟩
   obtain⟨s,u⟩:=kg.mp A;have h1:=P4 s (E x s u);have H:aj aH (aa 1) (aa 0) [.sh (.int x),.sh (.lst (i.map .int))]= .ok (.int (dt ps [] x:Int)):=by
    rw[fz]
    show((ag.ok (D.lst (i.map .int))).bd λ y=>(ag.ok (D.int x)).bd λ z=>okD (aH y z))=_
    rw[aO,aO];show okD (cN (i.map .int) x)=_;rw[h1];rfl
   rw[lK,fz,H,aO];show ag.ok ((dt ps [] x:Int)==0)=_;have hz:((dt ps [] x:Int)==0)=(dt ps [] x==0):=by
    generalize dt ps [] x=k;rw[oH,beq_iff_eq,beq_iff_eq];lia
   rw[hz]
  rw[GC,h,cv];rfl
 have b4:eQ 4 (dC ak) [.sh (ay n ps),.sh (.lst (ll.map .lst)),.ow (.lst (i.map .int)),.ow (.lst (r0.map .int)),.no,.no,.no]= .nx (fT n ps ll i r0 [] .no .no):=by simp
 simp only[yq,mU,cO,st];rw[bc,b1,bj,bc,b2,bj,bc,b3,bj,bc,b4,bj,bc,ew,bj];simp
def P6{n:Nat}{ps:aJ}(O:ef n ps)(U:gE n ps):vy [ay n ps]= .ok .non:=by
 obtain⟨o,e,l,_⟩:=Zw O U;have c:=yQ O;have st:cf 2 [ay n ps]=[.sh (ay n ps),.no]:=rfl;have h:gD (.tup (o.map D.int))= .ok (.tup (o.map D.int)):=iE (by simp only[imm];exact yV o);have a:Ck [ay n ps]= .ok (.tup (o.map .int)):=by
  have b:(o.length:Int)=n:=by lia
  simp only[Ck,gH,cO,st];have d:kE (aW mu (ae (aa 0) ak)) [.sh (ay n ps),.no]= .nx [.sh (ay n ps),.no]:=by simp[c]
  have f:cJ 1 (aW yq (ae (aa 0) ak)) [.sh (ay n ps),.no]= .nx [.sh (ay n ps),.sh (.lst (o.map .int))]:=by simp[e]
  rw[bc,d,bj,bc,f,bj];simp[ay,b,h]
 have s:cf 1 [ay n ps]=[.sh (ay n ps)]:=rfl;have g:xF false (.tup (o.map D.int)) .non= .ok (.bl false):=rfl;simp only[vy,dw,cO,s];simp[a,g]
def Zx(h:knd d=true):B9 [.sh d,.sh (.int m)]= .ok (.bl (dW m d)):=by
 have:=Pz h
 unfold B9;simp[this];cases d<;>simp[vC,dW]
 rename_i i;by_cases a:0<=i<;>simp[a]
def eV(m:Int):D->Bool
 | .tup t=>t.all (dW m)&&fA vF (t.map intOf)
 |_=>false
def P7(h:pln d=true)(k:kP d=true):sL [.int m,d]= .ok (.bl (eV m d)):=by
 cases d with
 |tup b=>
  have ah:cU b=true:=by simpa[pln]using h
  have l:b.length<=100000:=by simpa[kP]using k
  have L:=td (a:=aD 2) (u:=cI (dc (cX (aW nz (ae (aa 0) (ae (aa 2) ak))))) (retS (aq (.bl false))) aC.nx) (r:=.bl false)
   b (λ i=>match b[i]? with|some t=>dW m t|none=>true) (λ ρ=>∃s,ρ=[.sh (.int m),.sh (.tup b),s]) [.sh (.int m),.sh (.tup b),.no] ⟨_,rfl⟩ (by
    rintro i d ρ g ⟨s,rfl⟩;have e:=Cv (m:=m) (i5 (lN ah (jK g)));simp only[g];cases c:dW m d with
    |true=>right;exact⟨_,by simp[e,c];rfl,⟨_,rfl⟩,rfl⟩
    |false=>left;exact⟨by simp[e,c],rfl⟩)
  have st:cf 3 [.int m,.tup b]=[.sh (.int m),.sh (.tup b),.no]:=rfl;rcases L with ⟨e,i,f,o⟩|⟨n,e,⟨s,rfl⟩,o⟩
  .have:b.all (dW m)=false:=by
    rw[zK];rw[bP f]at o;exact⟨b[i],qb f,by simpa using o⟩
   simp only[sL,eU,cO,st];simp[e,eV,this]
  .have:b.all (dW m)=true:=by
    rw[gF];intro t p;obtain⟨i,f,rfl⟩:=tJ p
    have:=o i f
    rw[bP f]at this;exact this
   have j:=Yu (ps:=b.map intOf) (by rw[bg];exact l);rw[(tj this).1]at j;simp only[sL,eU,cO,st];simp[e,eV,this,j]
 |_=>simp[sL,eU,cf,kN (i5 h),hQ,eV]
def P8(h:pln d=true)(a:kP d=true):yu [d,.int m]= .ok (.bl (eV m d)):=by
 have st:cf 2 [d,.int m]=[.sh d,.sh (.int m)]:=rfl;simp only[yu,dR,cO,st];cases d with
 |tup s=>
  have ah:cU s=true:=by simpa[pln]using h
  have l:s.length<=100000:=by simpa[kP]using a
  have b:dD (bS (aa 0)) [none,some 1] (aD 0) cE B9 [.sh (.tup s),.sh (.int m)]= .ok (.lst (s.map λ t=>.bl (dW m t))):=by
   refine kR (ds:=s) rfl (by omega) (rh s λ d f=>⟨_,rfl,?_⟩);exact Zx (i5 (lN ah f))
  have g:=CB b;rw[bc,i4,ny,om,om,nt,nt,g];cases c:s.all (dW m)with
  |false=>simp[eV,c]
  |true=>
   have e:=YG (ps:=s.map intOf) (by rw[bg];exact l);rw[(tj c).1]at e;simp[eV,c,e]
 |_=>simp[kN (i5 h),hQ,eV]
def hU:D->List Int
 | .tup t=>t.map intOf
 |_=>[]
def vT(h:eV m d=true):d= .tup ((hU d).map .int):=by
 cases d with
 |tup t=>
  unfold eV at h;rw[cM]at h;unfold hU;cb_eq;rw[(tj h.1).1]
 |_=>cases h
def Zy:mw n l=true↔sortI l=bH n:=by
 unfold mw;rw[rj];show hP ((sortI l).map .int) ((bH n).map .int)=true↔_;rw[PN,decide_eq_true_eq]
def Zz(rws:cS):(rws.map tupI).map rowOf=rws:=by
 rw[cV]
 conv=>rhs;rw[<-zQ rws]
 exact rz λ r _=>ints_of r
def ZA{l:List Int}:l.Nodup->(dJ l).length=l.length:=by
 have k:∀(l acc:List Int),(acc++l).Nodup->l.foldl iH acc=acc++l:=λ l=>by
  induction l with
  |nil=>intro acc _;simp
  |cons a l i=>
   intro acc h;have n:a∉acc:=λ m=>by
    rw[hW]at h;exact h.2.2 a m a c0 rfl
   have e:iH acc a=acc++[a]:=by
    unfold iH;simp[n]
   rw[mD,e,i (acc++[a]) (by simpa using h)];simp
 intro h;unfold dJ;rw[k l [] (by simpa using h)];rfl
def ZC{qs ps:aJ}(h:∀p∈qs,p∈ps){w:List Int}(c:hR qs w=true):hR ps w=true:=
 vJ.mpr λ i a b d e=>h _ (vJ.mp c i a b d e)
def ZD{n:Int}{ps:aJ}{w:List Int}(h:w≠[])(c:∀x∈w,0<=x/\x<n)(e:w.Nodup)(f:hR ps w=true):fS n ps (tupI w)=true:=by
 have i:(w.map D.int).map intOf=w:=ints_of w;unfold tupI fS;cb_eq;rw[i,f,bg,ZA e]
 have:(w.map D.int).all (dW n)=true:=by
  rw[gF];intro d g;obtain⟨x,j,rfl⟩:=dj.mp g;obtain⟨a,b⟩:=c x j;simp[dW,a,b]
 rw[this];cases w with
 |nil=>exact absurd rfl h
 |cons a w=>simp
theorem P9:∀{wys:cS},(∀w∈wys,w≠[])->(wys.map (·.headD 0)).Pairwise (·< ·)->fA HT.lexLt wys=true
 |[],_,_=>rfl
 |[_],_,_=>rfl
 |v::w::r,n,h=>by
  have c:=(hV.mp h).1 (w.headD 0) (by simp);have i:=P9 (wys:=w::r) (λ x d=>n x (dN _ d)) (hV.mp h).2;have f:=n v c0;have g:=n w (dN _ c0);unfold fA;rw[i,mB];cases v with
  |nil=>exact absurd rfl f
  |cons a v=>
   cases w with
   |nil=>exact absurd rfl g
   |cons b w=>
    replace c:a<b:=c;have e:¬a=b:=by lia
    simp[HT.lexLt,e,c]
def Qa(n:Int):(bH n).Pairwise (·< ·):=by
 unfold bH;rw[zM];exact(IZ).imp λ h=>by lia
def ZE{n:Int}{l:List Int}(d:l.Nodup)(rg:∀x∈l,0<=x/\x<n)(h:∀x,0<=x->x<n->x∈l):mw n l=true:=by
 rw[Zy];have ah:(sortI l).Perm (bH n):=(sortI_perm l).trans ((IW d (pN n)).mpr λ x=>by rw[kg];exact⟨rg x,λ z=>h x z.1 z.2⟩);exact ah.eq_of_pairwise (le:=(·<=·)) (λ a b _ _ c e=>by lia) (su _) ((Qa n).imp λ h=>by lia)
theorem Qb{r:List Int}:∀{rws:cS},rws.flatten.Nodup->r∈rws->r.Nodup
 |a::l,h,hr=>by
  rw[oK,hW]at h;rcases b8.mp hr with rfl|hr
  .exact h.1
  .exact Qb h.2.1 hr
def ZF{n:Nat}{ps qs:aJ}{wys:cS}(O:ef n ps)(U:gE n ps)(z:∀p∈qs,p∈ps)(P:ki n qs (n:Int).toNat wys):jq n ps (.tup (wys.map tupI))=true:=by
 obtain⟨os,o,B⟩:=U;have inj:∀k l,k<n->l<n->os.getD k 0=os.getD l 0->k=l:=λ k l s C e=>by
  have k1:k<os.length:=by rw[o.len];exact s
  have k2:l<os.length:=by rw[o.len];exact C
  have:os[k]? =os[l]?:=by
   rw[bP k1,bP k2];simpa[k1,k2]using e
  exact(wc k1 o.nd).mp this
 have s:∀m k,k<m->k<n->os.getD k 0∈wys.flatten:=by
  intro m;induction m with
  |zero=>intro k h;exact absurd h (wo _)
  |succ m D=>
   intro k _ f;have t:os.getD k 0∈os:=by
    have:k<os.length:=by rw[o.len];exact f
    simp[this]
   obtain⟨u,A⟩:=o.lo _ t;by_cases c:∃a,(a,os.getD k 0)∈qs
   .obtain⟨a,r⟩:=c
    obtain⟨q,J,E,e⟩:=B _ (z _ r);have F:a=os.getD q.1 0:=congrArg rE e;have G:os.getD k 0=os.getD q.2 0:=congrArg Dk e
    have:=inj _ _ f E G
    exact P.sc _ _ r (by rw[F];exact D q.1 (by lia) (by lia))
   .exact P.st _ u (by lia) λ a r=>c ⟨a,r⟩
 have K:∀x:Int,0<=x->x<n->x∈wys.flatten:=λ x u A=>by
  have H:os⊆wys.flatten:=λ y g=>by
   obtain⟨k,i,e⟩:=tJ g
   have:=s (k+1) k (nF k) (by rw[<-o.len];exact i)
   rw[<-e];simpa[i]using this
  have v:x∈os:=by
   by_cases c:x∈os
   .exact c
   .exfalso
    have:=(iq.mpr ⟨c,o.nd⟩).length_le_of_subset (l₂:=bH n) λ y g=>by
     rw[kg];rcases b8.mp g with rfl|g
     .exact⟨u,A⟩
     .exact o.lo y g
    rw[g0,o.len,i6]at this;lia
  exact H v
 have hr:(wys.map tupI).map rowOf=wys:=Zz wys;have j:∀w∈wys,w≠[]:=λ w b=>(P.al w b).1
 unfold jq lO vO;cb_eq;rw[hr,ZE P.nd P.rg K,mB,P9 j ?_,mB,gF]
 .intro d I
  obtain⟨w,b,rfl⟩:=dj.mp I;exact ZD (j w b) (λ x v=>P.rg x (List.mem_flatten.mpr ⟨w,b,v⟩)) (Qb P.nd b) (ZC (λ p ah=>z p ah) (P.al w b).2.1)
 .rw[P.hs]
  exact((Qa _).sublist C9)
def NS{l:List Int}(h:l.Pairwise (·< ·)):fA vF l=true:=by
 induction l with
 |nil=>rfl
 |cons a l i=>
  cases l with
  |nil=>rfl
  |cons b l=>
   have c:=(hV.mp h).1 b c0;unfold fA;rw[i (hV.mp h).2,mB];simpa[vF]using c
theorem Qc:∀qs:List (Int×D),i3 (qs.map λ q=>.tup [.int q.1,q.2])=some qs
 |[]=>rfl
 |q::qs=>by rw[bu];unfold i3;rw[Qc qs];rfl
def Hz{fi:af->ag (List D)}{js:iL}{fg:D->af->ag af}{ft:af->ag Bool}{fk fv:af->ag D}{ρ:af}{ds:List D}{qs:List (Int×D)}(h:fi (shE ρ)= .ok ds)(a:ds.length<16777216)
  (b:eS (fj js (shE ρ)) fg ft (pairE fk fv) ds= .ok (qs.map λ q=>.tup [.int q.1,q.2])):lG fi js fg ft fk fv ρ= .ok (bL (jk [] qs)):=by
 unfold lG;rw[h,aO,if_pos (by rw[jG];exact a),b];cb_eq;rw[Qc]
def dG(p:Int×Int):Int×D:=(p.1,.int p.2)
def dn(e:Int):Int×D:=(e,.bl true)
def putN(cm:aJ)(i j:Int):aJ:=if (cm.any λ p=>decide (p.1=i))=true then cm.map (λ p=>if p.1=i then(p.1,j)else p)else cm++[(i,j)]
def ZG(cm:aJ)(i j:Int):ka (cm.map dG) i (.int j)=(putN cm i j).map dG:=by
 unfold ka putN;have e:((cm.map dG).any λ p=>decide (p.1=i))=cm.any λ p=>decide (p.1=i):=by rw[JE];rfl
 rw[e];split
 .rw[cV,cV]
  refine rz λ p _=>?_
  show(if p.1=i then((p.1,D.int j):Int×D)else dG p)=dG (if p.1=i then(p.1,j)else p)
  split<;>rfl
 .rw[gi];rfl
theorem HA(i:Int):∀cm:aJ,(cm.map dG).lookup i=(cm.lookup i).map .int
 |[]=>rfl
 |p::cm=>by
  rw[bu]
  show((p.1,D.int p.2)::cm.map dG).lookup i=(((p.1,p.2)::cm).lookup i).map .int
  rw[fm,fm];cases i==p.1
  .exact HA i cm
  .rfl
theorem v5(e:Int):∀t:List Int,((t.map dn).lookup e).isSome=decide (e∈t)
 |[]=>rfl
 |p::t=>by
  rw[bu]
  show(((p,D.bl true)::t.map dn).lookup e).isSome=_
  rw[fm];by_cases h:e=p
  .subst h;simp
  .have:(e==p)=false:=by simpa using h
   rw[this]
   show((t.map dn).lookup e).isSome=_
   rw[v5 e t];simp[h]
def Qd{t:List Int}{e:Int}(h:e∉t):ka (t.map dn) e (.bl true)=(t++[e]).map dn:=by
 rw[PR (by rw[cV];simpa[CZ,dn]using h),gi];rfl
def HB(cm:aJ):flats (cm.map dG)=true:=by
 unfold flats;rw[zO];exact gF.mpr λ p _=>rfl
def Qe(t:List Int):flats (t.map dn)=true:=by
 unfold flats;rw[zO];exact gF.mpr λ p _=>rfl
theorem CK{i:Int}:∀{cm:aJ},cm.lookup i=none↔i∉cm.map (·.1)
 |[]=>by simp
 |p::cm=>by
  obtain⟨a,b⟩:=p;rw[fm];by_cases h:i=a
  .subst h;simp
  .have:(i==a)=false:=by simpa using h
   rw[this];show cm.lookup i=none↔_;rw[CK];simp[h]
theorem v7{i j:Int}:∀{cm:aJ},cm.lookup i=some j->(i,j)∈cm
 |[],h=>by cases h
 |(a,b)::cm,h=>by
  rw[fm]at h;by_cases c:i=a
  .subst c
   simp at h;subst h;exact c0
  .have:(i==a)=false:=by simpa using c
   rw[this]at h;exact dN _ (v7 h)
def Qf(cm:aJ)(i:Int):(cm.any λ p=>decide (p.1=i))=(cm.lookup i).isSome:=by
 cases h:cm.lookup i with
 |none=>
  rw[CK]at h;rw[JM,IS];intro q;obtain⟨p,ah,e⟩:=nE.mp q;exact h (dj.mpr ⟨p,ah,of_decide_eq_true e⟩)
 |some j=>exact nE.mpr ⟨_,v7 h,decide_eq_true rfl⟩
def HC{cm:aJ}{i j:Int}(h:cm.lookup i=none):putN cm i j=cm++[(i,j)]:=by
 unfold putN;rw[Qf,h];rfl
def HD{cm:aJ}{i j b:Int}(h:cm.lookup i=some b):putN cm i j=cm.map λ p=>if p.1=i then(p.1,j)else p:=by
 unfold putN;rw[Qf,h];rfl
def ZH{cm:aJ}{i j:Int}(n:(cm.map (·.1)).Nodup):((putN cm i j).map (·.1)).Nodup:=by
 cases h:cm.lookup i with
 |none=>
  rw[HC h,gi,hW];refine⟨n,by simp,λ a c b d e=>?_⟩;rw[CK]at h
  have:b=i:=by simpa using d
  exact h (by rw[<-this,<-e];exact c)
 |some b=>
  rw[HD h,cV]
  have:((λ p:Int×Int=>p.1)∘λ p=>if p.1=i then(p.1,j)else p)=λ p=>p.1:=funext λ p=>by
   show(if p.1=i then(p.1,j)else p).1=p.1
   split<;>rfl
  rw[this];exact n
def ZI{cm:aJ}{i j:Int}{p:Int×Int}(h:p∈putN cm i j):p=(i,j)\/p∈cm:=by
 unfold putN at h;split at h
 .obtain⟨q,a,e⟩:=dj.mp h
  split at e
  .rename_i c
   rw[<-e,c];exact .inl rfl
  .rw[<-e];exact .inr a
 .rcases dH.mp h with h|h
  .exact .inr h
  .exact .inl (by simpa using h)
theorem HE{i j k:Int}(h:k≠i):∀cm:aJ,(cm.map λ p=>if p.1=i then(p.1,j)else p).lookup k=cm.lookup k
 |[]=>rfl
 |(a,b)::cm=>by
  rw[bu];cb_eq;by_cases c:a=i
  .subst c
   have:(k==a)=false:=by simpa using h
   rw[if_pos rfl,fm,fm,this];exact HE h cm
  .rw[if_neg c,fm,fm,HE h cm]
def Qg{cm:aJ}{i j k:Int}(h:k≠i):(putN cm i j).lookup k=cm.lookup k:=by
 cases e:cm.lookup i with
 |some b=>rw[HD e,HE h]
 |none=>
  rw[HC e,zJ]
  have:([(i,j)]:aJ).lookup k=none:=by
   rw[CK];simpa using h
  rw[this,Option.or_none]
theorem Qh{i j b:Int}:∀{cm:aJ},(cm.map (·.1)).Nodup->cm.lookup i=some b->(b::((cm.map λ p=>if p.1=i then(p.1,j)else p).map (·.2))).Perm (j::cm.map (·.2))
 |[],_,h=>by cases h
 |(a,c)::cm,n,h=>by
  rw[bu,iq]at n;rw[bu,bu,bu];cb_eq;by_cases e:a=i
  .subst e
   rw[fm]at h;simp at h;subst h;rw[if_pos rfl]
   have:(cm.map λ p=>if p.1=a then(p.1,j)else p)=cm:=by
    conv=>rhs;rw[<-zQ cm]
    refine rz λ p ah=>if_neg λ z=>n.1 ?_
    rw[<-z];exact dj.mpr ⟨p,ah,rfl⟩
   rw[this];exact oO ..
  .rw[if_neg e]
   have d:(i==a)=false:=by simpa using λ z=>e z.symm
   rw[fm,d]at h;exact((oO ..).trans ((Qh n.2 h).cons c)).trans (oO ..)
structure pz(ps:aJ)(cm:aJ):Prop where
 nd:(cm.map (·.1)).Nodup
 ar:∀p∈cm,(p.2,p.1)∈ps
def Seal(ps cm:aJ)(S:List Int):Prop:=∀e∈S,∃b,cm.lookup e=some b/\∀x∈cR ps b,x∈S
structure mx(n:Int)(tr:List Int):Prop where
 nd:tr.Nodup
 rg:∀e∈tr,0<=e/\e<n
structure CL(ps cm:aJ)(tr tr':List Int):Prop where
 sub:∀e∈tr,e∈tr'
 cl:∀e∈tr',e∉tr->∃b,cm.lookup e=some b/\∀x∈cR ps b,x∈tr'
structure HF(ps cm:aJ)(b:Int)(tr:List Int)(cm':aJ):Prop where
 good:pz ps cm'
 vals:(cm'.map (·.2)).Perm (b::cm.map (·.2))
 keep:∀e∈tr,cm'.lookup e=cm.lookup e
 sl:∀S,Seal ps cm S->(∀e∈S,cm'.lookup e=cm.lookup e)/\∃x∈cR ps b,x∉S
abbrev dX(L:D)(cm:aJ)(b:Int)(t:List Int)(s:Slot):af:=[.sh L,.ow (bL (cm.map dG)),.sh (.int b),.ow (bL (t.map dn)),s]
def oF(R:gB):af->eT:=x9 (bh (aj (fK true) (aa 4) (cc 3))) (jm (kb 3 (aa 4) (aq (.bl true))) (qZ (bh (aj (fK true) (aa 4) (cc 1))) (nr R (aj gv (cc 1) (aa 4))) (jm (kb 1 (aa 4) (aK (aa 2))) (oh (aq (.bl true)))))) .nx
def Qi(R:gB):dF R=jm (ya (bS (aj aH (aa 0) (aa 2))) (aD 4) (oF R)) (oh (aq (.bl false))):=rfl
def oG(ps:List (Int×D)):iD (ps.map λ p=>.int p.1) (ps.map (·.2))=some ps:=vg ps
section
variable{L:D}{cm:aJ}{b e:Int}{a:List Int}{R:gB}
def Qj:bh (aj (fK true) (aa 4) (cc 3)) (dX L cm b a (.sh (.int e)))= .ok (!decide (e∈a)):=by
 simp[tC,v5]
def Qk:bh (aj (fK true) (aa 4) (cc 1)) (dX L cm b a (.sh (.int e)))= .ok (!(cm.lookup e).isSome):=by
 simp[tC,HA]
def ZJ(h:e∉a)(l:a.length<16777216):kb 3 (aa 4) (aq (.bl true)) (dX L cm b a (.sh (.int e)))= .nx (dX L cm b (a++[e]) (.sh (.int e))):=by
 unfold kb n9;simp only[sG,X9]
 show(ag.bo (.ok (D.bl true)) λ d=>ag.bo (.ok (D.int e)) λ k=>match kL (bL (a.map dn)) k with
  |some (ps,j)=>if ps.length<aQ then aC.nx ((dX L cm b a (.sh (.int e))).set 3 (.ow (bL (ka ps j d))))else .st
  |none=>.st).ob=_
 rw[cv,cv];have c:kL (bL (a.map dn)) (.int e)=some (a.map dn,e):=by
  unfold kL bL;cb_eq;rw[oG];rfl
 rw[c];cb_eq;rw[if_pos (by rw[jG,bg];exact l),Qd h];rfl
def Ql(h:cm.length<16777216):jm (kb 1 (aa 4) (aK (aa 2))) (oh (aq (.bl true))) (dX L cm b a (.sh (.int e)))= .rt (.bl true) (dX L (putN cm e b) b a (.sh (.int e))):=by
 have:kb 1 (aa 4) (aK (aa 2)) (dX L cm b a (.sh (.int e)))= .nx (dX L (putN cm e b) b a (.sh (.int e))):=by
  unfold kb n9
  show(ag.bo (aK (aa 2) (dX L cm b a (.sh (.int e)))) λ d=>ag.bo (.ok (D.int e)) λ k=>match kL (bL (cm.map dG)) k with
   |some (ps,j)=>if ps.length<aQ then aC.nx ((dX L cm b a (.sh (.int e))).set 1 (.ow (bL (ka ps j d))))else .st
   |none=>.st).ob=_
  have c:aK (aa 2) (dX L cm b a (.sh (.int e)))= .ok (.int b):=by simp
  have f:kL (bL (cm.map dG)) (.int e)=some (cm.map dG,e):=by
   unfold kL bL;cb_eq;rw[oG];rfl
  rw[c,cv,cv,f];cb_eq;rw[if_pos (by rw[jG,bg];exact h),ZG];rfl
 unfold jm;rw[this];rfl
def ZK(h:e∈a):oF R (dX L cm b a (.sh (.int e)))= .nx (dX L cm b a (.sh (.int e))):=by
 unfold oF x9;rw[Qj,x6,decide_eq_true h];rfl
def ZL(h:e∉a)(l:a.length<16777216):oF R (dX L cm b a (.sh (.int e)))=qZ (bh (aj (fK true) (aa 4) (cc 1))) (nr R (aj gv (cc 1) (aa 4))) (jm (kb 1 (aa 4) (aK (aa 2))) (oh (aq (.bl true)))) (dX L cm b (a++[e]) (.sh (.int e))):=by
 unfold oF x9;rw[Qj,x6,decide_eq_false h,zl,if_pos rfl];unfold jm;rw[ZJ h l];rfl
def ZM(h:cm.lookup e=none)(l:cm.length<16777216):qZ (bh (aj (fK true) (aa 4) (cc 1))) (nr R (aj gv (cc 1) (aa 4))) (jm (kb 1 (aa 4) (aK (aa 2))) (oh (aq (.bl true)))) (dX L cm b a (.sh (.int e)))= .rt (.bl true) (dX L (putN cm e b) b a (.sh (.int e))):=by
 unfold qZ;rw[Qk,x6,h,JM,zl,if_pos rfl,Ql l]
def ZN{f:Int}(h:cm.lookup e=some f){r:Bool}{m:aJ}{d:List Int}(i:R L (cm.map dG) (.int f) (a.map dn)=some (r,m.map dG,d.map dn)):
  qZ (bh (aj (fK true) (aa 4) (cc 1))) (nr R (aj gv (cc 1) (aa 4))) (jm (kb 1 (aa 4) (aK (aa 2))) (oh (aq (.bl true)))) (dX L cm b a (.sh (.int e)))=
   if r=true then jm (kb 1 (aa 4) (aK (aa 2))) (oh (aq (.bl true))) (dX L m b d (.sh (.int e)))else .nx (dX L m b d (.sh (.int e))):=by
 have c:nr R (aj gv (cc 1) (aa 4)) (dX L cm b a (.sh (.int e)))=some (r,dX L m b d (.sh (.int e))):=by
  have j:aj gv (cc 1) (aa 4) (dX L cm b a (.sh (.int e)))= .ok (.int f):=by
   have:gv (bL (cm.map dG)) (.int e)= .ok (.int f):=PQ (by rw[HA,h];rfl)
   simp[this]
  have o:jn (some (.ow (bL (cm.map dG))))=some (cm.map dG):=oG _;have k:jn (some (.ow (bL (a.map dn))))=some (a.map dn):=oG _;unfold nr;rw[j]
  show(match (some (.sh L:Slot)),jn (some (.ow (bL (cm.map dG)))),ag.ok (D.int f),jn (some (.ow (bL (a.map dn))))with
   |some (.sh l),some c,.ok g,some t=>if flats c=true/\flats t=true/\flat g=true then(R l c g t).map λ q:Bool×List (Int×D)×List (Int×D)=>(q.1,((dX L cm b a (.sh (.int e))).set 1 (.ow (bL q.2.1))).set 3 (.ow (bL q.2.2)))else none
   |_,_,_,_=>none)=_
  rw[o,k];cb_eq;rw[if_pos ⟨HB _,Qe _,rfl⟩,i];rfl
 unfold qZ;rw[Qk,x6,h,Di,CW,if_neg gh,c];cases r<;>rfl
end
section
variable{L:D}{cm:aJ}{b n:Int}{a:List Int}{R:gB}{ps:aJ}
def Qm{f:af->eT}{d:D}{ds:List D}{ρ ρ2:af}(h:f (ρ.set 4 (.sh d))= .nx ρ2):lH (aD 4) f (d::ds) ρ=lH (aD 4) f ds ρ2:=by
 show(match f (ρ.set 4 (.sh d))with
  | .nx ρ2=>lH (aD 4) f ds ρ2
  |o=>o)=_
 rw[h]
def Qn{f:af->eT}{d r:D}{ds:List D}{ρ ρ2:af}(h:f (ρ.set 4 (.sh d))= .rt r ρ2):lH (aD 4) f (d::ds) ρ= .rt r ρ2:=by
 show(match f (ρ.set 4 (.sh d))with
  | .nx ρ2=>lH (aD 4) f ds ρ2
  |o=>o)=_
 rw[h]
def pz.len(C:pz ps cm)(h:ef n ps):cm.length<=n.toNat:=by
 rw[<-bg (f:=λ p:Int×Int=>p.1)];refine jI C.nd λ x a=>?_
 obtain⟨p,ah,rfl⟩:=dj.mp a
 have:=h.pr _ (C.ar p ah)
 exact⟨this.2.2.1,this.2.2.2.1⟩
def mx.len(T:mx n a):a.length<=n.toNat:=jI T.nd T.rg
def mx.snoc{e:Int}(T:mx n a)(h:e∉a)(c:0<=e/\e<n):mx n (a++[e]):=by
 refine⟨hW.mpr ⟨T.nd,by simp,λ x b y d z=>h ?_⟩,λ x b=>?_⟩
 .have:y=e:=by simpa using d
  rw[<-this,<-z];exact b
 .rcases dH.mp b with b|b
  .exact T.rg x b
  .rw[er.mp b];exact c
def Qo(n:Int)(ps:aJ)(R:gB)(L:D)(b:Int)(a:List Int)(cm:aJ):Prop:=∃r c t,R L (cm.map dG) (.int b) (a.map dn)=some (r,c.map dG,t.map dn)/\mx n t/\
 ((r=false/\c=cm/\(∀e∈cR ps b,e∈t)/\CL ps cm a t)\/(r=true/\HF ps cm b a c))
def sub_len{l m:List Int}(n:l.Nodup)(h:∀x∈l,x∈m):l.length<=m.length:=n.length_le_of_subset h
def Qp{e:Int}{t:List Int}{c:aJ}(C:pz ps c)(d:(b,e)∈ps)(g:∀x∈a,x≠e)(v:((putN c e b).map (·.2)).Perm (b::cm.map (·.2)))(k:∀x∈a,c.lookup x=cm.lookup x)(s:∀S,Seal ps cm S->e∉S/\∀x∈S,c.lookup x=cm.lookup x):HF ps cm b a (putN c e b):=by
 refine⟨⟨ZH C.nd,λ p ah=>?_⟩,v,λ x h=>by rw[Qg (g x h)];exact k x h,λ S i=>?_⟩
 .rcases ZI ah with rfl|ah
  .exact d
  .exact C.ar p ah
 .obtain⟨f,j⟩:=s S i
  exact⟨λ x h=>by rw[Qg (show x≠e from λ z=>f (z▸h))];exact j x h,e,th.mpr d,f⟩
theorem HG{k:Nat}(W:ef n ps)(C:pz ps cm)(I:∀d f,0<=d/\d<n->mx n f->n.toNat<k+f.length->Qo n ps R L d f cm)(H:mx n a)(U:n.toNat<k+1+a.length):
  ∀(es t:List Int) (s:Slot),(∀e∈es,e∈cR ps b)->mx n t->CL ps cm a t->
   (∃t' s',lH (aD 4) (oF R) (es.map .int) (dX L cm b t s)= .nx (dX L cm b t' s')/\mx n t'/\CL ps cm a t'/\(∀e∈t,e∈t')/\∀e∈es,e∈t')\/
   (∃p t' s',lH (aD 4) (oF R) (es.map .int) (dX L cm b t s)= .rt (.bl true) (dX L p b t' s')/\mx n t'/\HF ps cm b a p)
 |[],t,s,_,T,F=>.inl ⟨t,s,rfl,T,F,λ _ h=>h,λ _ h=>nomatch h⟩
 |e::es,t,s,q,T,F=>by
  have V:=W.n1;have tl:=T.len;have cl:=C.len W;have J:=th.mp (q e c0);have X:=W.pr _ J;have Z:∀x∈es,x∈cR ps b:=λ x c=>q x (dN _ c)
  rw[bu];by_cases i:e∈t
  .rw[Qm (ρ2:=dX L cm b t (.sh (.int e))) (ZK i)]
   rcases HG W C I H U es t (.sh (.int e)) Z T F with ⟨t',s',m,h2,K,h4,M⟩|h
   .exact .inl ⟨t',s',m,h2,K,h4,λ x c=>(b8.mp c).elim (λ z=>z▸h4 e i) (M x)⟩
   .exact .inr h
  .have T1:=T.snoc i ⟨X.2.2.1,X.2.2.2.1⟩
   have u:∀x∈a,x≠e:=λ x c z=>i (z▸F.sub x c)
   have st:oF R ((dX L cm b t s).set 4 (.sh (.int e)))=_:=ZL i (by lia);cases l:cm.lookup e with
   |none=>
    rw[ZM l (by lia)]at st;refine .inr ⟨putN cm e b,t++[e],_,Qn st,T1,Qp (t:=t) C J u ?_ (λ _ _=>rfl) λ S v=>⟨λ z=>?_,λ _ _=>rfl⟩⟩
    .rw[HC l,gi]
     exact List.perm_append_comm
    .obtain⟨N,m,_⟩:=v e z
     rw[l]at m;cases m
   |some d=>
    have w:=W.pr _ (C.ar _ (v7 l));have tsub:=sub_len H.nd F.sub;obtain⟨r,A,f,m,T2,K⟩:=I d (t++[e]) ⟨w.1,w.2.1⟩ T1 (by rw[eJ];simp only[Jb];lia);rw[ZN l m]at st;rcases K with ⟨rfl,q1,M,O⟩|⟨rfl,Y⟩
    .have q2:=q1.symm
     subst q2;rw[if_neg gh]at st;rw[Qm st];have P:∀x∈t,x∈f:=λ x c=>O.sub x (eW _ c)
     have F1:CL ps cm a f:=by
      refine⟨λ x c=>P x (F.sub x c),λ x c V=>?_⟩;by_cases B:x∈t++[e]
      .rcases dH.mp B with g|g
       .obtain⟨N,o,D⟩:=F.cl x g V
        exact⟨N,o,λ y hy=>P y (D y hy)⟩
       .rw[er.mp g]
        exact⟨d,l,M⟩
      .exact O.cl x c B
     rcases HG W C I H U es f (.sh (.int e)) Z T2 F1 with ⟨t',s',o,D,Q,G,g5⟩|h
     .exact .inl ⟨t',s',o,D,Q,λ x c=>G x (P x c),λ x c=>(b8.mp c).elim (λ z=>G x (O.sub x (by rw[z];simp))) (g5 x)⟩
     .exact .inr h
    .have l1:=Y.good.len W
     rw[if_pos rfl,Ql (by lia)]at st;have E:A.lookup e=some d:=(Y.keep e (by simp)).trans l;refine .inr ⟨putN A e b,f,_,Qn st,T2,Qp (t:=t) Y.good J u ?_ (λ x c=>Y.keep x (eW _ (F.sub x c))) λ S v=>⟨λ z=>?_,(Y.sl S v).1⟩⟩
     .have p1:=Qh (j:=b) Y.good.nd E
      rw[<-HD E]at p1;exact(List.perm_cons d).mp ((p1.trans (Y.vals.cons b)).trans (oO ..))
     .obtain⟨N,o,D⟩:=v e z
      rw[l]at o;cases o;obtain⟨x,Q,G⟩:=(Y.sl S v).2;exact G (D x Q)
theorem Qq{ll:jb}(W:ef n ps)(N:vI n ps ll):∀(k:Nat) (b:Int) (a:List Int) (cm:aJ),pz ps cm->0<=b/\b<n->mx n a->n.toNat<k+a.length->Qo n ps (mv k) (.lst (ll.map .lst)) b a cm
 |0,b,a,cm,_,_,T,h=>absurd T.len (by lia)
 |k+1,b,a,cm,C,l,T,h=>by
  have o:ya (bS (aj aH (aa 0) (aa 2))) (aD 4) (oF (mv k)) (dX (.lst (ll.map .lst)) cm b a .no)=lH (aD 4) (oF (mv k)) ((cR ps b).map .int) (dX (.lst (ll.map .lst)) cm b a .no):=by
   have:bS (aj aH (aa 0) (aa 2)) (dX (.lst (ll.map .lst)) cm b a .no)= .ok ((cR ps b).map .int):=by
    simp[N.item b l.1 l.2]
   unfold ya;rw[this,x6]
  have u:∀r m t' s',dF (mv k) (dX (.lst (ll.map .lst)) cm b a .no)= .rt (.bl r) (dX (.lst (ll.map .lst)) m b t' s')->mv (k+1) (.lst (ll.map .lst)) (cm.map dG) (.int b) (a.map dn)=some (r,m.map dG,t'.map dn):=λ r m t' s' e=>by
   show yc 5 (dF (mv k)) _ _ _ _=_;unfold yc
   show(match dF (mv k) (dX (.lst (ll.map .lst)) cm b a .no)with
    | .rt (.bl r) ρ=>vn r ρ
    |_=>none)=_
   rw[e];show vn r (dX (.lst (ll.map .lst)) m b t' s')=_;have p:jn (some (.ow (bL (m.map dG))))=some (m.map dG):=oG _;have q:jn (some (.ow (bL (t'.map dn))))=some (t'.map dn):=oG _;unfold vn
   show(match jn (some (.ow (bL (m.map dG)))),jn (some (.ow (bL (t'.map dn))))with
    |some c,some t=>if flats c=true/\flats t=true then some (r,c,t)else none
    |_,_=>none)=_
   rw[p,q];cb_eq;rw[if_pos ⟨HB _,Qe _⟩]
  rcases HG (R:=mv k) (L:=.lst (ll.map .lst)) (b:=b) W C (λ s v d f w=>Qq W N k s v cm C d f w) T (by lia) (cR ps b) a .no (λ _ h=>h) T ⟨λ _ h=>h,λ e d f=>absurd d f⟩with ⟨t',s',g,i,j,y,x⟩|⟨m,t',s',g,i,j⟩
  .refine⟨false,cm,t',u _ _ _ s' ?_,i,.inl ⟨rfl,rfl,x,j⟩⟩
   rw[Qi];unfold jm;rw[o,g];rfl
  .refine⟨true,m,t',u _ _ _ s' ?_,i,.inr ⟨rfl,j⟩⟩
   rw[Qi];unfold jm;rw[o,g];rfl
end
structure kj(n:Int)(ps cm:aJ)(S:List Int):Prop where
 c:pz ps cm
 nv:(cm.map (·.2)).Nodup
 sl:Seal ps cm S
 al:∀b,0<=b->b<n->b∈cm.map (·.2)\/∀x∈cR ps b,x∈S
abbrev pO(n:Int)(ps:aJ)(L:D)(cm:aJ)(s:Slot):af:=[.sh (ay n ps),.sh L,.ow (bL (cm.map dG)),s]
def ZO{n b:Int}{ps cm m:aJ}{L:D}{r:Bool}{t':List Int}(h:vA L (cm.map dG) (.int b) ([]:List (Int×D))=some (r,m.map dG,t'.map dn)):vo 1 2 vA (aa 3) (pO n ps L cm (.sh (.int b)))= .nx (pO n ps L m (.sh (.int b))):=by
 have o:jn (some (.ow (bL (cm.map dG))))=some (cm.map dG):=oG _;unfold vo
 show(match (some (.sh L:Slot)),jn (some (.ow (bL (cm.map dG))))with
  |some (.sh a),some c=>(ag.ok (D.int b)).bo λ d=>if flats c=true/\flat d=true then(match vA a c d []with
   |some (_,e,_)=>aC.nx ((pO n ps L cm (.sh (.int b))).set 2 (.ow (bL e)))
   |none=>.st)else .st
  |_,_=>.st)=_
 rw[o];cb_eq;rw[cv,if_pos ⟨HB _,rfl⟩,h];rfl
def ZP{n:Int}{ps:aJ}(W:ef n ps):∃cm S,nA [ay n ps]= .ok (bL (cm.map dG))/\kj n ps cm S:=by
 obtain⟨ll,A,N⟩:=CD W;have V:=W.n0;have B:=W.n1;obtain⟨E,F,cm,S,s,rfl,G,H,X,I,J⟩:=oE (a:=aD 3) (u:=vo 1 2 vA (aa 3)) ((bH n).map D.int) (λ(i:Nat) ρ=>∃(cm:aJ) (S:List Int) (s:Slot),ρ=pO n ps (.lst (ll.map .lst)) cm s/\pz ps cm/\(cm.map (·.2)).Nodup/\(∀v∈cm.map (·.2),v<(i:Int))/\Seal ps cm S/\∀b:Int,0<=b->b<(i:Int)->b∈cm.map (·.2)\/∀x∈cR ps b,x∈S)
  (pO n ps (.lst (ll.map .lst)) [] .no) ⟨[],[],.no,rfl,⟨rC,λ _ h=>nomatch h⟩,rC,λ _ h=>(nomatch h),λ _ h=>(nomatch h),λ b B Z=>by lia⟩ (by
  rintro i d ρ g ⟨cm,S,s,rfl,C,t,lt,sl,w⟩;have K:i<n.toNat:=by
   have:=(fC.mp g).1
   rwa [bg,i6]at this
  have L:d= .int (i:Int):=by
   rw[da,bH,da,zF K]at g;simpa using g.symm
  subst L;obtain⟨r,m,t',M,q2,O⟩:=Qq W N 64 i [] cm C (by lia) ⟨rC,λ _ h=>nomatch h⟩ (by simp;lia);refine⟨_,by rw[show aD 3 (D.int (i:Int)) (pO n ps (.lst (ll.map .lst)) cm s)= .ok (pO n ps (.lst (ll.map .lst)) cm (.sh (.int i)))from rfl];exact ZO M,?_⟩;rcases O with ⟨_,rfl,P,Q⟩|⟨_,Y⟩
  .refine⟨m,S++t',_,rfl,C,t,λ v k=>Int.lt_trans (lt v k) (by lia),λ e c=>?_,λ b cB y=>?_⟩
   .rcases dH.mp c with c|c
    .obtain⟨b,p,l⟩:=sl e c
     exact⟨b,p,λ x f=>eW _ (l x f)⟩
    .obtain⟨b,p,l⟩:=Q.cl e c (λ z=>nomatch z)
     exact⟨b,p,λ x f=>fU _ (l x f)⟩
   .by_cases o:b=i
    .subst o
     exact .inr λ x f=>fU _ (P x f)
    .exact(w b cB (by lia)).imp id λ h x f=>eW _ (h x f)
  .have q:∀v:Int,v∈m.map (·.2)↔v=i\/v∈cm.map (·.2):=λ v=>by rw[Y.vals.mem_iff,b8]
   refine⟨m,S,_,rfl,Y.good,Y.vals.nodup_iff.mpr (iq.mpr ⟨λ z=>by have:=lt _ z;lia,t⟩),λ v k=>?_,λ e c=>?_,λ b cB y=>?_⟩
   .rcases(q v).mp k with z|z
    .lia
    .have:=lt v z;lia
   .rw[(Y.sl S sl).1 e c]
    exact sl e c
   .by_cases o:b=i
    .exact .inl ((q b).mpr (.inl o))
    .exact(w b cB (by lia)).imp (λ h=>(q b).mpr (.inr h)) id)
 refine⟨cm,S,?_,G,H,I,λ b cB y=>J b cB (by rw[bg,i6];lia)⟩;have st:cf 4 [ay n ps]=[.sh (ay n ps),.no,.no,.no]:=rfl;have R:cJ 1 (aW oA (ae (aa 0) ak)) [.sh (ay n ps),.no,.no,.no]= .nx [.sh (ay n ps),.sh (.lst (ll.map .lst)),.no,.no]:=by simp[A]
 have T:eQ 2 (aq (.dct [] [])) [.sh (ay n ps),.sh (.lst (ll.map .lst)),.no,.no]= .nx (pO n ps (.lst (ll.map .lst)) [] .no):=rfl;have U:di eG (ae (aj aH (aa 0) (aq (.int 0))) ak) (pO n ps (.lst (ll.map .lst)) [] .no)= .ok ((bH n).map D.int):=by
  have hr:=lM (j:=n) (by lia) (by lia);rw[<-rj];simp[ay,hr]
 simp only[nA,qT,cO,st];rw[bc,R,bj,bc,T,bj,bc,kM,U,cv,F,bj];rfl
def aEE(cm:aJ):sD ((cm.map dG).map λ p=>.int p.1) ((cm.map dG).map (·.2))=some cm:=by
 unfold sD;rw[oG];cb_eq;rw[cV,cV];have e:intsOf (cm.map ((λ x:Int×D=>x.2)∘dG))=some (cm.map (·.2)):=by
  rw[show cm.map ((λ x:Int×D=>x.2)∘dG)=(cm.map (·.2)).map .int by rw[cV];rfl];exact m8 _
 rw[e];show some ((cm.map λ p=>p.1).zip (cm.map λ p=>p.2))=some cm;congr 1;clear e;induction cm with
 |nil=>rfl
 |cons p cm i=>rw[bu,bu,qa,i]
section
variable{n:Int}{ps cm:aJ}{S:List Int}
def Qr{f:af->ag D}{ρ:af}(h:f ρ= .ok (bL (cm.map dG))):pE f ρ= .ok (.itm none cm):=by
 unfold pE;rw[h,aO]
 show(match sD ((cm.map dG).map λ p=>.int p.1) ((cm.map dG).map (·.2))with
  |some l=>ag.ok (D.itm none l)
  |none=>.st)=_
 rw[aEE]
def kj.ends(P:kj n ps cm S)(W:ef n ps):(cm.map λ p=>(p.2,p.1)).Nodup/\cm.length<64:=by
 refine⟨?_,?_⟩
 .have:=P.nv
  rw[show cm.map (·.2)=(cm.map λ p=>(p.2,p.1)).map (·.1)by rw[cV];rfl]at this;exact QO _ (λ a b h e=>h (by rw[e])) this
 .have:=P.c.len W
  have:=W.n1
  lia
def ZQ(W:ef n ps)(P:kj n ps cm S)(h:nA [ay n ps]= .ok (bL (cm.map dG))):∃qs:aJ,Cp [ay n ps]= .ok (.tup (qs.map aS))/\qs.Perm (cm.map λ p=>(p.2,p.1))/\nB qs=true:=by
 obtain⟨d,l⟩:=P.ends W;obtain⟨qs,e,a,c⟩:=PB d (by rw[bg];exact l);refine⟨qs,?_,a,c⟩;have st:cf 1 [ay n ps]=[.sh (ay n ps)]:=rfl;have f:=yQ W;have b:dD (x3 (pE (aW nA (ae (aa 0) ak)))) [none,none] (eA 2 (bR (aD 0) (bR (aD 1) eD))) cE (ck (ae (aK (aa 1)) (ae (aK (aa 0)) ak))) [.sh (ay n ps)]= .ok (.lst ((cm.map λ p=>(p.2,p.1)).map aS)):=by
  have g:pE (aW nA (ae (aa 0) ak)) (shE [.sh (ay n ps)])= .ok (.itm none cm):=Qr (by simp[shE,iy,h]);have i:x3 (pE (aW nA (ae (aa 0) ak))) (shE [.sh (ay n ps)])= .ok (cm.map aS):=by
   unfold x3;rw[g,aO];rfl
  refine kR i (by rw[bg];lia) ?_;rw[cV];exact tf cm λ q k=>⟨_,rfl,rfl⟩
 have j:qs.length<=16777216:=by rw[a.length_eq,bg];lia
 rw[cV]at b e;simp only[Cp,iQ,cO,st];simp[f,b,e,j]
end
def par(cm:aJ)(e:Int):Int:=(cm.lookup e).getD 0
abbrev gw(n:Int)(ps:aJ)(L:D)(cm:aJ)(K:D)(bs e:List Int)(a:Int)(s7 s8:Slot):af:=[.sh (ay n ps),.sh L,.sh (.itm none cm),.sh K,.ow (.lst (bs.map .int)),.ow (bL (e.map dn)),.sh (.int a),s7,s8]
def tD:af->aC:=cI (bh (aj (fK true) (aa 8) (cc 5))) (aP (n9 5 (aa 8) (aq (.bl true))) (fy 4 (aj sE (aa 2) (aa 8)))) aC.nx
def CM:af->aC:=aP (cJ 7 (aK (aj aH (cc 4) (aa 6)))) (aP (ff (bS (aj aH (aa 1) (aa 7))) (aD 8) tD) (Bx (dg (λ _ _=>true) λ a b=>.int (a+b)) 6 (aq (.int 1))))
section
variable{n:Int}{ps cm:aJ}{bs c:List Int}{L K:D}{a:Int}{s7:Slot}
def ZR{e:Int}(h:e∈c):tD (gw n ps L cm K bs c a s7 (.sh (.int e)))= .nx (gw n ps L cm K bs c a s7 (.sh (.int e))):=by
 simp[tD,tC,v5,h]
def ZS{e b:Int}(h:e∉c)(f:cm.lookup e=some b)(g:c.length<16777216)(i:bs.length<16777216):tD (gw n ps L cm K bs c a s7 (.sh (.int e)))= .nx (gw n ps L cm K (bs++[b]) (c++[e]) a s7 (.sh (.int e))):=by
 have l:kL (bL (c.map dn)) (.int e)=some (c.map dn,e):=by
  unfold kL bL;cb_eq;rw[oG];rfl
 have m:n9 5 (aa 8) (aq (.bl true)) (gw n ps L cm K bs c a s7 (.sh (.int e)))= .nx (gw n ps L cm K bs (c++[e]) a s7 (.sh (.int e))):=by
  unfold n9
  show(ag.bo (.ok (D.bl true)) λ d=>ag.bo (.ok (D.int e)) λ k=>match kL (bL (c.map dn)) k with
   |some (p,j)=>if p.length<aQ then aC.nx ((gw n ps L cm K bs c a s7 (.sh (.int e))).set 5 (.ow (bL (ka p j d))))else .st
   |none=>.st)=_
  rw[cv,cv,l];cb_eq;rw[if_pos (by rw[jG,bg];exact g),Qd h];rfl
 have o:fy 4 (aj sE (aa 2) (aa 8)) (gw n ps L cm K bs (c++[e]) a s7 (.sh (.int e)))= .nx (gw n ps L cm K (bs++[b]) (c++[e]) a s7 (.sh (.int e))):=by
  have:sE (.itm none cm) (.int e)= .ok (.int b):=by
   unfold sE;cb_eq;rw[f]
  unfold fy;simp[this,i]
 have q:bh (aj (fK true) (aa 8) (cc 5)) (gw n ps L cm K bs c a s7 (.sh (.int e)))= .ok true:=by simp[tC,v5,h]
 unfold tD;rw[i4,q,cv,if_pos rfl,bc,m,bj,o]
end
section
variable{n:Int}{ps cm:aJ}{S:List Int}{L K:D}
def cB(n:Int)(cm:aJ):List Int:=(bH n).filter λ x=>!decide (x∈cm.map (·.2))
def kj.rg(P:kj n ps cm S)(W:ef n ps){e:Int}(h:e∈S):(0<=e/\e<n)/\∃b,cm.lookup e=some b/\par cm e=b/\(b,e)∈ps/\(0<=b/\b<n)/\b∈cm.map (·.2)/\∀x∈cR ps b,x∈S:=by
 obtain⟨b,a,d⟩:=P.sl e h;have m:=v7 a;have c:=P.c.ar _ m;have hr:=W.pr _ c;exact⟨⟨hr.2.2.1,hr.2.2.2.1⟩,b,a,by unfold par;rw[a];rfl,c,⟨hr.1,hr.2.1⟩,dj.mpr ⟨_,m,rfl⟩,d⟩
def kj.led(P:kj n ps cm S)(W:ef n ps){c:List Int}(s:∀e∈c,e∈S){b:Int}(d:b∈cB n cm++c.map (par cm)):(0<=b/\b<n)/\∀x∈cR ps b,x∈S:=by
 rcases dH.mp d with h|h
 .obtain⟨f,a⟩:=hX.mp h
  have hr:=kg.mp f;refine⟨hr,(P.al b hr.1 hr.2).resolve_left λ z=>?_⟩;rw[decide_eq_true z]at a;cases a
 .obtain⟨e,g,rfl⟩:=dj.mp h
  obtain⟨_,b,_,a,_,i,_,j⟩:=P.rg W (s e g);rw[a];exact⟨i,j⟩
def ZT(W:ef n ps)(P:kj n ps cm S){g:List Int}{b a:Int}{s7 s8:Slot}(A:g.Nodup)(B:∀e∈g,e∈S)(v:∀x∈cR ps b,x∈S):
  ∃f s,forL (aD 8) tD ((cR ps b).map .int) (gw n ps L cm K (cB n cm++g.map (par cm)) g a s7 s8)= .nx (gw n ps L cm K (cB n cm++(g++f).map (par cm)) (g++f) a s7 s)/\(g++f).Nodup/\(∀e∈g++f,e∈S)/\∀x∈cR ps b,x∈g++f:=by
 have R:=W.n1;have C:(cB n cm).length<=n.toNat:=by
  have:=wb (λ x=>!decide (x∈cm.map (·.2))) (bH n)
  rw[i6]at this;exact this
 obtain⟨E,F,f,s,rfl,G,H,I⟩:=oE (a:=aD 8) (u:=tD) ((cR ps b).map D.int) (λ(i:Nat) ρ=>∃(f:List Int) (s:Slot),ρ=gw n ps L cm K (cB n cm++(g++f).map (par cm)) (g++f) a s7 s/\(g++f).Nodup/\(∀e∈g++f,e∈S)/\∀x∈(cR ps b).take i,x∈g++f)
  (gw n ps L cm K (cB n cm++g.map (par cm)) g a s7 s8) ⟨[],s8,by rw[g6],by rw[g6];exact A,by rw[g6];exact B,λ _ h=>nomatch h⟩ (by
  rintro i d ρ r ⟨f,s,rfl,l,m,J⟩;rw[da]at r;cases p:(cR ps b)[i]? with
  |none=>rw[p]at r;cases r
  |some x=>
   rw[p]at r;cases r;have t:x∈cR ps b:=jK p;obtain⟨hr,c,M,N,_⟩:=P.rg W (v x t);have T:(g++f).length<=n.toNat:=jI l λ e o=>(P.rg W (m e o)).1
   have w:∀(q:List Int),(∀y∈g++f,y∈q)->x∈q->∀y∈(cR ps b).take (i+1),y∈q:=λ q O Q y j=>by
    rw[List.take_succ,p]at j;rcases dH.mp j with j|j
    .exact O y (J y j)
    .have:y=x:=by simpa using j
     rw[this];exact Q
   by_cases k:x∈g++f
   .exact⟨_,ZR k,f,_,rfl,l,m,w _ (λ _ h=>h) k⟩
   .refine⟨_,ZS k M (by lia) (by rw[eJ,bg];lia),f++[x],.sh (.int x),?_,?_,?_,?_⟩
    .rw[<-iG,gi (l₁:=g++f),<-iG]
     show _=gw n ps L cm K ((cB n cm++(g++f).map (par cm))++[par cm x]) _ a s7 _;rw[N]
    .rw[<-iG,hW]
     exact⟨l,by simp,λ y j z hz e=>k (by rw[<-er.mp hz,<-e];exact j)⟩
    .rw[<-iG]
     intro e o;rcases dH.mp o with o|o
     .exact m e o
     .rw[er.mp o];exact v x t
    .rw[<-iG]
     exact w _ (λ y j=>eW _ j) (by simp))
 refine⟨f,s,F,G,H,λ x p=>I x ?_⟩;rw[bg,JB];exact p
def ZU(W:ef n ps)(P:kj n ps cm S){ll:jb}(N:vI n ps ll):∃d a s7 s8,mi (bh (aj fh (aa 6) (aN b0 (ae (cc 4) ak)))) CM (gw n ps (.lst (ll.map .lst)) cm K (cB n cm) [] 0 .no .no)= .nx (gw n ps (.lst (ll.map .lst)) cm K (cB n cm++d.map (par cm)) d a s7 s8)/\d.Nodup/\(∀e∈d,e∈S)/\∀b∈cB n cm++d.map (par cm),∀x∈cR ps b,x∈d:=by
 have V:=W.n1;have A:(cB n cm).length<=n.toNat:=by
  have:=wb (λ x=>!decide (x∈cm.map (·.2))) (bH n)
  rw[i6]at this;exact this
 have i:∀(d:List Int) (a:Nat) s7 s8,bh (aj fh (aa 6) (aN b0 (ae (cc 4) ak))) (gw n ps (.lst (ll.map .lst)) cm K (cB n cm++d.map (par cm)) d a s7 s8)= .ok (decide (a<(cB n cm++d.map (par cm)).length)):=λ d a s7 s8=>by
  have:decide ((a:Int)<((cB n cm++d.map (par cm)).length:Nat))=decide (a<(cB n cm++d.map (par cm)).length):=by
   rw[decide_eq_decide];lia
  rw[<-this];simp
 obtain⟨B,X,C,⟨d,a,s7,s8,rfl,E,F,Y,Z,G⟩,p⟩:=vP (c:=bh (aj fh (aa 6) (aN b0 (ae (cc 4) ak)))) (b:=CM) (λ m ρ=>∃(d:List Int) (a:Nat) (s7 s8:Slot),ρ=gw n ps (.lst (ll.map .lst)) cm K (cB n cm++d.map (par cm)) d a s7 s8/\d.Nodup/\(∀e∈d,e∈S)/\a<=(cB n cm++d.map (par cm)).length/\m=200-a/\∀(j:Nat) b,j<a->(cB n cm++d.map (par cm))[j]? =some b->∀x∈cR ps b,x∈d)
  (by
  rintro m ρ ⟨d,a,s7,s8,rfl,v,s,ha,rfl,k⟩;rw[i];by_cases l:a<(cB n cm++d.map (par cm)).length
  .right
   rw[decide_eq_true l];refine⟨rfl,?_⟩;have hl:d.length<=n.toNat:=jI v λ e q=>(P.rg W (s e q)).1
   have H:(cB n cm++d.map (par cm)).length<=120:=by rw[eJ,bg];lia
   obtain⟨b,g⟩:∃b,(cB n cm++d.map (par cm))[a]? =some b:=⟨_,bP l⟩
   obtain⟨hr,I⟩:=P.led W s (jK g);obtain⟨f,r,J,w,y,M⟩:=ZT (L:=.lst (ll.map .lst)) (K:=K) (a:=a) (s7:=.sh (.int b)) (s8:=s8) W P v s I;have O:(d++f).length<=n.toNat:=jI w λ e q=>(P.rg W (y e q)).1
   have t:cB n cm++(d++f).map (par cm)=(cB n cm++d.map (par cm))++f.map (par cm):=by rw[gi,iG]
   have Q:∀bs:List Int,bs[a]? =some b->cJ 7 (aK (aj aH (cc 4) (aa 6))) (gw n ps (.lst (ll.map .lst)) cm K bs d a s7 s8)= .nx (gw n ps (.lst (ll.map .lst)) cm K bs d a (.sh (.int b)) s8):=λ bs g=>by
    have:cN (bs.map D.int) (a:Int)= .ok (.int b):=jH (by rw[da,g];rfl)
    simp[this]
   have R:bS (aj aH (aa 1) (aa 7)) (gw n ps (.lst (ll.map .lst)) cm K (cB n cm++d.map (par cm)) d a (.sh (.int b)) s8)= .ok ((cR ps b).map .int):=by
    simp[N.item b hr.1 hr.2]
   refine⟨gw n ps (.lst (ll.map .lst)) cm K (cB n cm++(d++f).map (par cm)) (d++f) ((a+1:Nat):Int) (.sh (.int b)) r,200-(a+1),?_,by lia,d++f,a+1,_,_,rfl,w,y,by rw[t,eJ];lia,rfl,λ j c T o=>?_⟩
   .unfold CM
    rw[bc,Q _ g,bj,bc,kM,R,cv,J,bj];simp[Bx,dg]
   .by_cases u:j=a
    .subst u
     rw[t,ry l,g]at o;cases o;exact M
    .rw[t,ry (by lia)]at o
     exact λ x U=>eW _ (k j c (by lia) o x U)
  .exact .inl (by rw[decide_eq_false l]))
  (m:=200) (ρ:=gw n ps (.lst (ll.map .lst)) cm K (cB n cm) [] 0 .no .no) (by lia) ⟨[],0,.no,.no,by rw[zP,g6];rfl,rC,λ _ h=>(nomatch h),dI _,rfl,λ j b h=>absurd h (wo _)⟩
 refine⟨d,a,s7,s8,C,E,F,λ b g=>?_⟩;rw[i]at p;have ge:¬a<(cB n cm++d.map (par cm)).length:=λ z=>by rw[decide_eq_true z]at p;cases p
 obtain⟨j,k⟩:=List.mem_iff_getElem?.mp g
 have:=(fC.mp k).1
 exact G j b (by lia) k
end
section
variable{n:Int}{ps cm:aJ}{S:List Int}
def pP(n:Int)(cm:aJ)(e:List Int):List Int:=(bH n).filter λ x=>!decide (x∈cB n cm++e.map (par cm))
def ZV(W:ef n ps)(P:kj n ps cm S)(h:nA [ay n ps]= .ok (bL (cm.map dG))):∃f:List Int,Cq [ay n ps]= .ok (.tup [.tup ((pP n cm f).map .int),.tup ((sortI f).map .int)])/\f.Nodup/\(∀e∈f,e∈S)/\∀b∈cB n cm++f.map (par cm),∀x∈cR ps b,x∈f:=by
 obtain⟨ll,l,N⟩:=CD W;have m:=yQ W;have G:=W.n0;have H:=W.n1;have o:=P.c.len W;obtain⟨vs,v⟩:∃vs,vs=cm.map (·.2):=⟨_,rfl⟩
 obtain⟨f,a,s7,s8,p,i,k,r⟩:=ZU (K:=bL (vs.map dn)) W P N;refine⟨f,?_,i,k,r⟩;have s:f.length<=n.toNat:=jI i λ e t=>(P.rg W (k e t)).1
 have hr:=lM (j:=n) (by lia) (by lia);have u:(bH n).length<16777216:=by rw[i6];lia
 have st:cf 9 [ay n ps]=[.sh (ay n ps),.no,.no,.no,.no,.no,.no,.no,.no]:=rfl;have w:kE (aW mu (ae (aa 0) ak)) [.sh (ay n ps),.no,.no,.no,.no,.no,.no,.no,.no]= .nx [.sh (ay n ps),.no,.no,.no,.no,.no,.no,.no,.no]:=by simp[m]
 have y:cJ 1 (aW oA (ae (aa 0) ak)) [.sh (ay n ps),.no,.no,.no,.no,.no,.no,.no,.no]= .nx [.sh (ay n ps),.sh (.lst (ll.map .lst)),.no,.no,.no,.no,.no,.no,.no]:=by simp[l]
 have z:cJ 2 (pE (aW nA (ae (aa 0) ak))) [.sh (ay n ps),.sh (.lst (ll.map .lst)),.no,.no,.no,.no,.no,.no,.no]= .nx [.sh (ay n ps),.sh (.lst (ll.map .lst)),.sh (.itm none cm),.no,.no,.no,.no,.no,.no]:=by
  rw[ye,Qr (cm:=cm) (by simp[h])];rfl
 have A:cJ 3 (lG (BV (aa 2)) [none] (aD 0) cE (aK (aa 0)) (aq (.bl true))) [.sh (ay n ps),.sh (.lst (ll.map .lst)),.sh (.itm none cm),.no,.no,.no,.no,.no,.no]= .nx [.sh (ay n ps),.sh (.lst (ll.map .lst)),.sh (.itm none cm),.sh (bL (vs.map dn)),.no,.no,.no,.no,.no]:=by
  have g:lG (BV (aa 2)) [none] (aD 0) cE (aK (aa 0)) (aq (.bl true)) [.sh (ay n ps),.sh (.lst (ll.map .lst)),.sh (.itm none cm),.no,.no,.no,.no,.no,.no]= .ok (bL (jk [] (vs.map dn))):=by
   refine Hz (ds:=vs.map D.int) ?_ (by rw[bg,v,bg];lia) ?_
   .rw[v,cV];rfl
   .rw[cV]
    exact tf vs λ q I=>⟨_,rfl,rfl⟩
  have B:jk [] (vs.map dn)=vs.map dn:=by
   rw[zb]
   .rfl
   .rw[cV,zP,rB]
    show(vs.map λ x=>x).Nodup
    rw[Df,v];exact P.nv
  rw[ye,g,B];rfl
 have C:eQ 4 (dD (di eG (ae (aj aH (aa 0) (aq (.int 0))) ak)) [none,some 3] (aD 0) (bh (aj (fK true) (aa 0) (aa 1))) (aK (aa 0))) [.sh (ay n ps),.sh (.lst (ll.map .lst)),.sh (.itm none cm),.sh (bL (vs.map dn)),.no,.no,.no,.no,.no]= .nx [.sh (ay n ps),.sh (.lst (ll.map .lst)),.sh (.itm none cm),.sh (bL (vs.map dn)),.ow (.lst ((cB n cm).map .int)),.no,.no,.no,.no]:=by
  have g:dD (di eG (ae (aj aH (aa 0) (aq (.int 0))) ak)) [none,some 3] (aD 0) (bh (aj (fK true) (aa 0) (aa 1))) (aK (aa 0)) [.sh (ay n ps),.sh (.lst (ll.map .lst)),.sh (.itm none cm),.sh (bL (vs.map dn)),.no,.no,.no,.no,.no]= .ok (.lst ((cB n cm).map .int)):=by
   refine kR (ds:=(bH n).map D.int) (by rw[<-rj];simp[shE,iy,ay,hr]) (by rw[bg];exact u) ?_;unfold cB;rw[<-v];exact pK (bH n) λ x _=>⟨[.sh (.int x),.sh (bL (vs.map dn))],rfl,by simp[tC,v5],rfl⟩
  rw[GC,g];rfl
 have E:dD (di eG (ae (aj aH (aa 0) (aq (.int 0))) ak)) [none,some 4] (aD 0) (bh (aj (eI true) (aa 0) (aa 1))) (aK (aa 0)) (gw n ps (.lst (ll.map .lst)) cm (bL (vs.map dn)) (cB n cm++f.map (par cm)) f a s7 s8)= .ok (.lst ((pP n cm f).map .int)):=by
  refine kR (ds:=(bH n).map D.int) (by rw[<-rj];simp[shE,iy,ay,hr]) (by rw[bg];exact u) ?_;unfold pP;generalize cB n cm++f.map (par cm)=bs;exact pK (bH n) λ x _=>⟨[.sh (.int x),.sh (.lst (bs.map .int))],rfl,by
   have:=Cz true x bs
   simp[this],rfl⟩
 have F:xZ [bL (f.map dn)]= .ok (.lst ((sortI f).map .int)):=by
  unfold xZ bL;cb_eq;rw[oG];cb_eq;rw[if_pos (by rw[bg];lia),cV]
  have:f.map ((λ x:Int×D=>x.1)∘dn)=f:=by
   show f.map (λ x=>x)=f;exact Df f
  rw[this]
 simp only[Cq,iR,cO,st];rw[bc,w,bj,bc,y,bj,bc,z,bj,bc,A,bj,bc,C,bj]
 show(match ((mi (bh (aj fh (aa 6) (aN b0 (ae (cc 4) ak)))) CM (gw n ps (.lst (ll.map .lst)) cm (bL (vs.map dn)) (cB n cm) [] 0 .no .no)).sq _)with| .nx _=>ag.ok D.non| .rt d=>.ok d| .ex c=>.ex c|_=>.st)=_
 rw[p,bj,kc,Gy,jo,mr,jo,E];generalize cB n cm++f.map (par cm)=bs;simp[F]
end
section
variable{n:Int}{ps cm:aJ}{S d:List Int}
def kj.bsN(P:kj n ps cm S)(W:ef n ps)(j:d.Nodup)(s:∀e∈d,e∈S):(cB n cm++d.map (par cm)).Nodup:=by
 rw[hW];refine⟨(pN n).filter _,Hk j λ x a y f e=>?_,λ x a y f e=>?_⟩
 .obtain⟨_,b,k,g,_⟩:=P.rg W (s x a)
  obtain⟨_,c,i,h,_⟩:=P.rg W (s y f);rw[g,h]at e;subst e
  have:=Cy P.nv _ (v7 k) _ (v7 i) rfl
  exact congrArg rE this
 .obtain⟨z,hz,rfl⟩:=dj.mp f
  obtain⟨_,b,_,g,_,_,i,_⟩:=P.rg W (s z hz);obtain⟨_,h⟩:=hX.mp a;rw[e,g,decide_eq_true i]at h;cases h
def kj.size(P:kj n ps cm S)(h:ef n ps)(b:d.Nodup)(s:∀e∈d,e∈S):(pP n cm d).length+d.length=cm.length:=by
 have c:=(za (pN n) (P.bsN h b s) λ x a=>kg.mpr (P.led h s a).1).length_eq;have f:=(za (pN n) P.nv λ x a=>by
  obtain⟨p,ah,rfl⟩:=dj.mp a
  have:=h.pr _ (P.c.ar p ah)
  exact kg.mpr ⟨this.1,this.2.1⟩).length_eq
 rw[eJ,eJ,bg]at c;rw[eJ,bg]at f
 show((bH n).filter λ x=>!decide (x∈cB n cm++d.map (par cm))).length+d.length=cm.length
 have e:(cB n cm).length=((bH n).filter λ x=>!decide (x∈cm.map (·.2))).length:=rfl;lia
def ZW(c:∀b∈cB n cm++d.map (par cm),∀x∈cR ps b,x∈d)(W:ef n ps){p:Int×Int}(ah:p∈ps):p.1∈pP n cm d\/p.2∈d:=by
 by_cases h:p.1∈cB n cm++d.map (par cm)
 .exact .inr (c _ h _ (th.mpr ah))
 .have hr:=W.pr p ah
  exact .inl (hX.mpr ⟨kg.mpr ⟨hr.1,hr.2.1⟩,by rw[decide_eq_false h];rfl⟩)
def ZX{l:List Int}(n:l.Nodup):(sortI l).Pairwise (·< ·):=by
 have a:=su l;have b:(sortI l).Nodup:=(sortI_perm l).nodup_iff.mpr n;exact(a.and b).imp λ h=>Int.lt_iff_le_and_ne.mpr h
def ZY(n:Int):(bH n).Pairwise (·< ·):=by
 unfold bH;rw[zM];exact(IZ).imp λ h=>by lia
theorem Qs:∀{xs:List Int},xs.Pairwise (·< ·)->fA vF xs=true
 |[],_=>rfl
 |[_],_=>rfl
 |a::b::l,h=>by
  obtain⟨c,d⟩:=hV.mp h;unfold fA;rw[Qs d,mB];exact decide_eq_true (c b c0)
end
def ki.skip{n:Int}{qs:aJ}{i:Nat}{wys:cS}(P:ki n qs i wys)(h:(qs.map (·.2)).any (·==(i:Int))=true):ki n qs (i+1) wys:=by
 refine⟨P.nd,P.rg,P.pr,P.sc,λ x b f no=>?_,λ x c no=>?_,P.al,?_⟩
 .by_cases e:x=i
  .subst e
   obtain⟨a,d⟩:=PZ h;exact absurd d (no a)
  .exact P.st x b (by lia) no
 .have:=P.lo x c no
  lia
 .rw[ze,zH,P.hs,oM,if_neg (by rw[h];exact gh)]
  simp
def ki.add{n t:Int}{qs:aJ}{i:Nat}{wys:cS}{w:List Int}(P:ki n qs i wys)(g:(qs.map (·.2)).any (·==(i:Int))=false)(W:iF n qs wys.flatten w i t)(j:qs.lookup t=none):ki n qs (i+1) (wys++[w]):=by
 have no:=Hx g;have f:(wys++[w]).flatten=wys.flatten++w:=by simp
 refine⟨by rw[f];exact W.nd,by rw[f];exact W.rg,by rw[f];exact λ a b h k=>(W.pr a b h k).1,?_,?_,?_,?_,?_⟩
 .rw[f]
  intro a b h d;rcases dH.mp d with z|z
  .exact eW _ (P.sc a b h z)
  .by_cases c:a=t
   .subst c
    exact absurd h (vR j)
   .exact fU _ (W.sc a b h z c)
 .rw[f]
  intro x l r no;by_cases e:x=i
  .subst e
   refine fU _ ?_;have m:=W.ne;have o:=W.hd;cases w with
   |nil=>exact absurd rfl m
   |cons a w=>rw[<-o];exact c0
  .exact eW _ (P.st x l (by lia) no)
 .rw[f]
  intro x p no;rcases dH.mp p with z|z
  .have:=P.lo x z no
   lia
  .rcases W.bk x z with e|⟨a,d⟩
   .rw[e];lia
   .exact absurd d (no a)
 .intro v q
  rcases dH.mp q with z|z
  .exact P.al v z
  .rw[er.mp z]
   exact⟨W.ne,W.al,by rw[W.hd];exact no,λ b=>by rw[W.lt];exact vR j⟩
 .rw[ze,zH,gi,P.hs,oM,if_pos (by rw[g];rfl)]
  show _++[w.headD 0]=_;rw[W.hd];rfl
abbrev my(qs:aJ)(s:Int)(w:List Int):af:=[.sh (eh qs),.sh (.int s),.ow (.lst (w.map .int))]
def ZZ{n s:Int}{qs:aJ}{fl:List Int}(K:n<=60)(u:(qs.map (·.1)).Nodup)(q:(qs.map (·.2)).Nodup)(r:∀p∈qs,0<=p.2/\p.2<n)(no:∀a,(a,s)∉qs)(W:iF n qs fl [s] s s):
  ∃w t,yh [eh qs,.int s]= .ok (tupI w)/\iF n qs fl w s t/\qs.lookup t=none:=by
 have i:∀{w t},iF n qs fl w s t->oB (my qs s w)= .ok (.int t):=λ{w t} W=>by
  have h:=W.lt;rw[wa]at h;unfold oB;simp[Ho rfl W.ne,h]
 have j:∀{w t y},iF n qs fl w s t->qs.lookup t=some y->aj gv (aa 0) oB (my qs s w)= .ok (.int y):=λ{w t y} W h=>by
  rw[fz]
  show((ag.ok (eh qs)).bd λ x=>(oB (my qs s w)).bd λ z=>okD (gv x z))=_
  rw[aO,i W,aO,Hw h];rfl
 have k:∀{w t},iF n qs fl w s t->B2 (my qs s w)= .ok (qs.lookup t).isSome:=λ{w t} W=>by
  have v:bh (aj (fK false) oB (aa 0)) (my qs s w)= .ok (qs.lookup t).isSome:=by
   rw[lK,fz,i W,aO]
   show(okD (fK false (.int t) (eh qs))).bd nV=_
   rw[PY];rfl
  unfold B2;rw[GA,v,aO];cases h:qs.lookup t with
  |none=>rfl
  |some y=>
   have A:y≠s:=λ e=>no t (by rw[<-e];exact zc h)
   rw[Di,if_pos rfl,lK,fz,j W h,aO]
   show(okD (b9 true (.int y) (.int s))).bd nV=_
   simp[A]
 obtain⟨B,L,e,⟨C,t',rfl,f,_⟩,g⟩:=vP (c:=B2) (b:=GG) (λ m ρ=>∃w t,ρ=my qs s w/\iF n qs fl w s t/\m=61-(fl++w).length) (by
  rintro m ρ ⟨w,t,rfl,W,rfl⟩;rw[k W];cases l:qs.lookup t with
  |none=>exact .inl rfl
  |some y=>
   have o:=zc l;obtain⟨E,F⟩:=r _ o;have f:=W.step u q o E F;have G:=jI W.nd W.rg;have H:=jI f.nd f.rg;have M:w.length<=60:=by rw[eJ]at G;lia
   refine .inr ⟨rfl,my qs s (w++[y]),61-(fl++(w++[y])).length,?_,?_,w++[y],y,rfl,f,rfl⟩
   .have I:aK (aj gv (aa 0) oB) (my qs s w)= .ok (.int y):=by unfold aK;rw[j W l];rfl
    unfold GG fy
    show(ag.bo (aK (aj gv (aa 0) oB) (my qs s w)) λ d=>if (w.map D.int).length<aQ then aC.nx ((my qs s w).set 2 (.ow (.lst (w.map D.int++[d]))))else .st)=_
    rw[I,cv,if_pos (by rw[jG,bg];lia)];simp
   .simp only[eJ,g0,kk]at H ⊢
    lia) (m:=61-(fl++[s]).length) (ρ:=my qs s [s]) (by lia) ⟨[s],s,rfl,W,rfl⟩
 refine⟨C,t',?_,f,?_⟩
 .have st:cf 3 [eh qs,.int s]=[.sh (eh qs),.sh (.int s),.no]:=rfl
  have J:eQ 2 (dC (ae (aK (aa 1)) ak)) [.sh (eh qs),.sh (.int s),.no]= .nx (my qs s [s]):=by simp[iE]
  simp only[yh,qU,cO,st];rw[bc,J,bj,bc,e,bj];simp[tupI]
 .rw[k f]at g
  cases h:qs.lookup t' with
  |none=>rfl
  |some y=>rw[h]at g;cases g
theorem CN{ρ:af}{fg:D->af->ag af}{ft:af->ag Bool}{fe:af->ag D}{b m:List D}(g:eS ρ fg ft fe b= .ok m):∀{a l:List D},eS ρ fg ft fe a= .ok l->eS ρ fg ft fe (a++b)= .ok (l++m)
 |[],l,h=>by cases h;exact g
 |d::a,l,h=>by
  rw[we];unfold eS at h ⊢;cases i:fg d ρ with
  |ok e=>
   rw[i,aO]at h;rw[aO];cases j:ft e with
   |ok k=>
    rw[j,aO]at h;rw[aO];cases k with
    |false=>
     rw[if_neg gh]at h ⊢;exact CN g h
    |true=>
     rw[if_pos rfl]at h ⊢;cases n:fe e with
     |ok y=>
      rw[n,aO]at h;rw[aO];cases f:eS ρ fg ft fe a with
      |ok ys=>
       rw[f,aO]at h;cases h;rw[CN g f];rfl
      |ex c=>rw[f]at h;cases h
      |st=>rw[f]at h;cases h
     |ex c=>rw[n]at h;cases h
     |st=>rw[n]at h;cases h
   |ex c=>rw[j]at h;cases h
   |st=>rw[j]at h;cases h
  |ex c=>rw[i]at h;cases h
  |st=>rw[i]at h;cases h
abbrev zf:af->ag Bool:=bh (aj (fK true) (aa 0) (aa 2))
abbrev CO:af->ag D:=aW yh (ae (aa 1) (ae (aa 0) ak))
def Z0{n:Nat}{qs:aJ}(J:n<=60)(K:qs.length<=1000)(u:(qs.map (·.1)).Nodup)(l:(qs.map (·.2)).Nodup)(r:∀p∈qs,0<=p.2/\p.2<(n:Int)):∃wys:cS,B8 [.int n,.tup (qs.map aS)]= .ok (.tup (wys.map tupI))/\ki n qs (n:Int).toNat wys:=by
 obtain⟨E,o⟩:∃E,E=bL ((qs.map (·.2)).map dn):=⟨_,rfl⟩
 have k:∀i:Nat,i<=n->∃wys:cS,eS [.no,.sh (eh qs),.sh E] (aD 0) zf CO ((bH (i:Int)).map .int)= .ok (wys.map tupI)/\ki n qs i wys:=by
  intro i;induction i with
  |zero=>exact λ _=>⟨[],rfl,rC,λ _ h=>(nomatch h),λ _ _ _ h=>(nomatch h),λ _ _ _ h=>(nomatch h),λ x L M _=>by lia,λ _ h=>(nomatch h),λ _ h=>(nomatch h),rfl⟩
  |succ i v=>
   intro N;obtain⟨wys,a,P⟩:=v (by lia);have d:zf [.sh (.int i),.sh (eh qs),.sh E]= .ok (!(qs.map (·.2)).any (·==(i:Int))):=by
    have:(qs.map (·.2)).any (·==(i:Int))=decide ((i:Int)∈qs.map (·.2)):=by
     rw[oH,nE,decide_eq_true_eq];exact⟨λ⟨x,y,e⟩=>by rw[<-beq_iff_eq.mp e];exact y,λ h=>⟨_,h,beq_self_eq_true _⟩⟩
    rw[this,o];generalize qs.map (·.2)=es;simp[tC,v5]
   rw[ze,gi];cases c:(qs.map (·.2)).any (·==(i:Int))with
   |true=>
    refine⟨wys,?_,P.skip c⟩;rw[c]at d
    have:=CN (b:=[D.int i]) (m:=[]) (by
     unfold eS;rw[oq,aO]
     show(zf [.sh (.int i),.sh (eh qs),.sh E]).bd _=_
     rw[d];rfl) a
    rwa [g6]at this
   |false=>
    have no:=Hx c;have f:(i:Int)∉wys.flatten:=λ h=>by have:=P.lo _ h no;lia
    obtain⟨w,t,z,W,A⟩:=ZZ (n:=n) (s:=i) (fl:=wys.flatten) (by lia) u l r no (iF.start P.nd P.rg (by lia) (by lia) f no P.pr);refine⟨wys++[w],?_,P.add c W A⟩;rw[c]at d;rw[gi];refine CN (b:=[D.int i]) (m:=[tupI w]) ?_ a;unfold eS;rw[oq,aO]
    show(zf [.sh (.int i),.sh (eh qs),.sh E]).bd _=_
    rw[d,aO]
    show((CO [.sh (.int i),.sh (eh qs),.sh E]).bd _)=_
    have:CO [.sh (.int i),.sh (eh qs),.sh E]= .ok (tupI w):=by simp[z]
    rw[this];rfl
 obtain⟨wys,a,P⟩:=k n (bJ n);refine⟨wys,?_,by rw[kT];exact P⟩;have st:cf 4 [.int n,.tup (qs.map aS)]=[.sh (.int n),.sh (.tup (qs.map aS)),.no,.no]:=rfl;have hr:=lM (j:=(n:Int)) (by lia) (by lia);have B:lG (bS (aa 1)) [none,none] (eA 2 (bR (aD 0) (bR (aD 1) eD))) cE (aK (aa 0)) (aK (aa 1)) [.sh (.int n),.sh (.tup (qs.map aS)),.no,.no]= .ok (eh qs):=by
  have:=Hz (fi:=bS (aa 1)) (js:=[none,none]) (fg:=eA 2 (bR (aD 0) (bR (aD 1) eD))) (ft:=cE) (fk:=aK (aa 0)) (fv:=aK (aa 1)) (ρ:=[.sh (.int n),.sh (.tup (qs.map aS)),.no,.no]) (ds:=qs.map aS) (qs:=qs.map λ q=>(q.1,.int q.2)) rfl (by rw[bg];lia) (by rw[cV];exact tf qs λ q C=>⟨_,rfl,rfl⟩)
  rw[zb (by rw[cV];exact u)]at this;exact this
 have F:lG (bS (aa 1)) [none,none] (eA 2 (bR (aD 0) (bR (aD 1) eD))) cE (aK (aa 1)) (aq (.bl true)) [.sh (.int n),.sh (.tup (qs.map aS)),.sh (eh qs),.no]= .ok E:=by
  have:=Hz (fi:=bS (aa 1)) (js:=[none,none]) (fg:=eA 2 (bR (aD 0) (bR (aD 1) eD))) (ft:=cE) (fk:=aK (aa 1)) (fv:=aq (.bl true)) (ρ:=[.sh (.int n),.sh (.tup (qs.map aS)),.sh (eh qs),.no]) (ds:=qs.map aS) (qs:=(qs.map (·.2)).map dn) rfl (by rw[bg];lia) (by rw[cV,cV];exact tf qs λ q C=>⟨_,rfl,rfl⟩)
  rw[zb (by rw[cV,cV];exact l)]at this;rw[this,o];rfl
 have G:dD (di eG (ae (aa 0) ak)) [none,some 2,some 3] (aD 0) zf CO [.sh (.int n),.sh (.tup (qs.map aS)),.sh (eh qs),.sh E]= .ok (.lst (wys.map tupI)):=by
  refine kR (ds:=(bH (n:Int)).map .int) (by rw[<-rj];simp[shE,iy,hr]) (by rw[bg,i6];lia) ?_;exact a
 have H:cJ 2 (lG (bS (aa 1)) [none,none] (eA 2 (bR (aD 0) (bR (aD 1) eD))) cE (aK (aa 0)) (aK (aa 1))) [.sh (.int n),.sh (.tup (qs.map aS)),.no,.no]= .nx [.sh (.int n),.sh (.tup (qs.map aS)),.sh (eh qs),.no]:=by rw[ye,B];rfl
 have I:cJ 3 (lG (bS (aa 1)) [none,none] (eA 2 (bR (aD 0) (bR (aD 1) eD))) cE (aK (aa 1)) (aq (.bl true))) [.sh (.int n),.sh (.tup (qs.map aS)),.sh (eh qs),.no]= .nx [.sh (.int n),.sh (.tup (qs.map aS)),.sh (eh qs),.sh E]:=by rw[ye,F];rfl
 have g:gC [.sh (.int n),.sh (.tup (qs.map aS)),.no,.no]= .rt (.tup (wys.map tupI)):=by
  unfold gC;rw[bc,H,bj,bc,I,bj,kc,mr,jo,G,aO,lI,aO,aO,Pk,lJ,cv]
 unfold B8;rw[cO,st,g]
def ki.len{n:Int}{qs:aJ}{wys:cS}(P:ki n qs n.toNat wys)(u:(qs.map (·.2)).Nodup)(r:∀p∈qs,0<=p.2/\p.2<n)(b:0<=n):wys.length+qs.length=n.toNat:=by
 have a:=congrArg qc P.hs;rw[bg,pS b]at a;have c:=(za (pN n) u λ x d=>by
  obtain⟨p,ah,rfl⟩:=dj.mp d;exact kg.mpr (r p ah)).length_eq
 rw[eJ,i6,bg]at c;have f:((bH n).filter λ x=>!(qs.map (·.2)).any (·==x))=(bH n).filter λ x=>!decide (x∈qs.map (·.2)):=Jp λ x _=>by
  congr 1;rw[oH,nE,decide_eq_true_eq];exact⟨λ⟨y,g,e⟩=>by rw[<-beq_iff_eq.mp e];exact g,λ h=>⟨_,h,beq_self_eq_true _⟩⟩
 rw[f]at a;lia
def Qt(h:pln d=true)(a:sz d<64):CH d:=by
 cases d with
 |tup l=>
  have c:=PJ l;refine⟨h,?_,?_⟩
  .simp only[yU,cM,decide_eq_true_eq,gF]
   refine⟨by lia,λ x b=>?_⟩
   have:=CF b
   cases x with
   |tup m=>simp[gV]at this;simp[tu];lia
   |_=>rfl
  .unfold vO
   unfold sz at a;dsimp only at a ⊢
   have:∀l:List D,((l.map rowOf).flatten).length<=(l.map gV).sum:=λ l=>by
    induction l with
    |nil=>simp
    |cons x l i=>
     rw[bu,oK,eJ,bu,List.sum_cons]
     have:(rowOf x).length<=gV x:=by
      cases x with
      |tup l=>simp[rowOf,gV]
      |_=>simp[rowOf]
     lia
   have:=this l
   lia
 |_=>exact⟨h,rfl,by simp[vO]⟩
def kS(n:Int)(ps:aJ):D->Bool
 | .tup [x,y]=>eV n x&&eV n y&&ps.all λ p=>decide (p.1∈hU x)||decide (p.2∈hU y)
 |_=>false
def CP{n:Int}{ps:aJ}{x y:D}:kS n ps (.tup [x,y])=((eV n x&&eV n y)&&ps.all λ p=>decide (p.1∈hU x)||decide (p.2∈hU y)):=rfl
def HH{n:Int}{ps:aJ}{l:List D}(h:l.length≠2):kS n ps (.tup l)=false:=by
 match l,h with
 |[],_=>rfl
 |[_],_=>rfl
 |[x,y],h=>exact absurd rfl h
 |_::_::_::_,_=>rfl
def Qu{n:Int}{ps:aJ}{d:D}(h:hQ d=false):kS n ps d=false:=by cases d<;>first|rfl|(cases h)
def rm(d:D):Prop:=∀l,d= .tup l->∀e∈l,kP e=true
def Z2{w s2 s3:Slot}{d:D}(k:knd d=true)(h:hQ d=false):sR [w,.sh d,s2,s3]= .rt (.bl false):=by simp[sR,kN k,h]
def Z3{w s2 s3:Slot}{l:List D}(h:l.length≠2):sR [w,.sh (.tup l),s2,s3]= .rt (.bl false):=by
 have:¬((l.length:Int)=2):=by omega
 simp[sR,this]
def Z5{w s2 s3:Slot}{x y:D}:sR [w,.sh (.tup [x,y]),s2,s3]= .nx [w,.sh (.tup [x,y]),s2,s3]:=by simp[sR]
def Z7{n:Int}{ps:aJ}{d:D}(O:ef n ps)(h:pln d=true)(s:rm d):Cm [ay n ps,d]= .ok (.bl (kS n ps d)):=by
 have st:cf 4 [ay n ps,d]=[.sh (ay n ps),.sh d,.no,.no]:=rfl;have g:kE (aW mu (ae (aa 0) ak)) [.sh (ay n ps),.sh d,.no,.no]= .nx [.sh (ay n ps),.sh d,.no,.no]:=by simp[yQ O]
 have X:=O.len;simp only[Cm,kY,cO,st];rw[bc,g,bj,bc];cases t:hQ d with
 |false=>rw[Z2 (i5 h) t,Qu t];rfl
 |true=>
  obtain⟨l,rfl⟩:=yO t;by_cases a:l.length=2
  .obtain⟨x,y,rfl⟩:=vD a
   simp only[pln,cU,cM]at h;have i:=P7 (m:=n) h.1 (s _ rfl x (by simp));have j:=P7 (m:=n) h.2.1 (s _ rfl y (by simp));have b:qH (aa 1) (eA 2 (bR (aD 2) (bR (aD 3) eD))) [.sh (ay n ps),.sh (.tup [x,y]),.no,.no]= .nx [.sh (ay n ps),.sh (.tup [x,y]),.sh x,.sh y]:=by simp
   have k:GU [.sh (ay n ps),.sh (.tup [x,y]),.sh x,.sh y]=if eV n x&&eV n y then .nx [.sh (ay n ps),.sh (.tup [x,y]),.sh x,.sh y]else .rt (.bl false):=by
    unfold GU;simp only[i4,ny,om,nt,yd,jo,lI];simp[ay,i,j];cases eV n x<;>cases eV n y<;>rfl
   rw[Z5,bj,bc,b,bj,bc,k];rw[CP];cases c:eV n x&&eV n y with
   |false=>rfl
   |true=>
    rw[cM]at c;have o:Pp [.sh (ay n ps),.sh (.tup [x,y]),.sh x,.sh y]= .ok (.lst (ps.map λ p=>.bl (decide (p.1∈hU x)||decide (p.2∈hU y)))):=by
     refine kR (ds:=ps.map aS) rfl (by rw[bg];omega) (tf ps λ p ah=>⟨_,rfl,?_⟩);show Bf (aj (eI false) (aa 0) (aa 2)) (aj (eI false) (aa 1) (aa 3)) [.sh (.int p.1),.sh (.int p.2),.sh x,.sh y]=_;have f:=vH false p.1 (hU x);have e:=vH false p.2 (hU y);rw[<-vT c.1]at f;rw[<-vT c.2]at e;rw[Yb,fz,fz]
     show(okD (eI false (.int p.1) x)).bd _=_
     rw[f];show Gz (.bl _) (okD (eI false (.int p.2) y))=_;rw[e,Ya]
     show(if decide (p.1∈hU x)=true then ag.ok (D.bl true)else ag.ok (D.bl (decide (p.2∈hU y))))=_
     cases decide (p.1∈hU x)<;>rfl
    have b:=CB o;rw[if_pos rfl,bj,kc,b];rfl
  .rw[Z3 a,HH a];rfl
def Z8{w:Slot}{d:D}(k:knd d=true)(h:hQ d=false):sO [w,.sh d]= .rt (.bl false):=by simp[sO,kN k,h]
def aaa{w:Slot}{l:List D}(h:l.length≠2):sO [w,.sh (.tup l)]= .rt (.bl false):=by
 have e:bh (aj (b9 true) (aN b0 (ae (aa 1) ak)) (aq (.int 2))) [w,.sh (.tup l)]= .ok true:=by
  have:¬((l.length:Int)=2):=by omega
  simp[this]
 unfold sO;rw[i4,ny,ny,e];simp
def aab{p:Int×Int}{xs ys:List Int}:GR [.sh (aS p),.sh (.tup [.tup (xs.map .int),.tup (ys.map .int)])]= .ok (!decide (p.1∈xs)&& !decide (p.2∈ys)):=by
 have f:=vH true p.1 xs;have a:=vH true p.2 ys;have g:bh (aj (eI true) (aj aH (aa 0) (aq (.int 0))) (aj aH (aa 1) (aq (.int 0)))) [.sh (aS p),.sh (.tup [.tup (xs.map .int),.tup (ys.map .int)])]= .ok (!decide (p.1∈xs)):=by
  simp[aS,f]
 have b:bh (aj (eI true) (aj aH (aa 0) (aq (.int 1))) (aj aH (aa 1) (aq (.int 1)))) [.sh (aS p),.sh (.tup [.tup (xs.map .int),.tup (ys.map .int)])]= .ok (!decide (p.2∈ys)):=by
  simp[aS,a]
 unfold GR;rw[GA,g,b,aO];cases decide (p.1∈xs)<;>rfl
def aac{n:Int}{ps:aJ}{d:D}(O:ef n ps)(h:pln d=true)(s:rm d):Cg [ay n ps,d]= .ok (.bl (kS n ps d)):=by
 have st:cf 2 [ay n ps,d]=[.sh (ay n ps),.sh d]:=rfl;have X:=O.len;simp only[Cg,du,cO,st];rw[bc];cases a:hQ d with
 |false=>rw[Z8 (i5 h) a,Qu a];rfl
 |true=>
  obtain⟨l,rfl⟩:=yO a;by_cases e:l.length=2
  .obtain⟨x,y,rfl⟩:=vD e
   simp only[pln,cU,cM]at h;have g:=P8 (m:=n) h.1 (s _ rfl x (by simp));have i:=P8 (m:=n) h.2.1 (s _ rfl y (by simp));have j:Pn [.sh (ay n ps),.sh (.tup [x,y])]= .ok (.lst ([x,y].map λ t=>.bl (eV n t))):=by
    refine kR (ds:=[x,y]) rfl (by simp) (rh [x,y] λ d f=>⟨_,rfl,?_⟩);show aW yu (ae (aa 0) (ae (aj aH (aa 1) (aq (.int 0))) ak)) [.sh d,.sh (ay n ps)]=_;simp only[b8,lR,or_false]at f;rcases f with rfl|rfl
    .simp[ay,g]
    .simp[ay,i]
   have k:=CB j;have o:[x,y].all (eV n)=(eV n x&&eV n y):=by simp only[tO,List.all_nil,mB]
   have q:bh (aj (b9 true) (aN b0 (ae (aa 1) ak)) (aq (.int 2))) [.sh (ay n ps),.sh (.tup [x,y])]= .ok false:=by simp
   have r:dc (cX (dq (eR "tuple") (aa 1))) [.sh (ay n ps),.sh (.tup [x,y])]= .ok false:=by simp
   have E:sO [.sh (ay n ps),.sh (.tup [x,y])]=if eV n x&&eV n y then .nx [.sh (ay n ps),.sh (.tup [x,y])]else .rt (.bl false):=by
    unfold sO;rw[i4,ny,r,aO,ny,q,om,nt,k,o];cases eV n x&&eV n y<;>rfl
   rw[E,CP];cases c:eV n x&&eV n y with
   |false=>rfl
   |true=>
    rw[cM]at c;have u:Po [.sh (ay n ps),.sh (.tup [x,y])]= .ok (.lst ((ps.filter λ p=>!decide (p.1∈hU x)&& !decide (p.2∈hU y)).map aS)):=by
     refine kR (ds:=ps.map aS) rfl (by rw[bg];omega) (pK ps λ p ah=>⟨_,rfl,?_,rfl⟩)
     have:=aab (p:=p) (xs:=hU x) (ys:=hU y)
     rw[<-vT c.1,<-vT c.2]at this;exact this
    rw[if_pos rfl,bj,kc,fz,u,aO]
    show(match (okD (b9 false (.lst _) (.lst []))).bo aC.rt with| .nx _=>ag.ok D.non| .rt d=>.ok d| .ex c=>.ex c|_=>.st)=_
    rw[PP];refine congrArg (λ b=>ag.ok (D.bl b)) ?_;rw[v9,oH,Jv,zC,gF];refine forall_congr' λ p=>forall_congr' λ _=>?_
    cases decide (p.1∈hU x)<;>cases decide (p.2∈hU y)<;>simp
  .rw[aaa e,HH e];rfl
structure pQ(d:D):Prop where
 pl:pln d=true
 two:∀p m,d= .tup [p,m]->CH p/\rm m
def lQ(n:Int)(ps:aJ):D->Bool
 | .tup [p,m]=>jq n ps p&&(kS n ps m&&(match m with| .tup [x,y]=>(gV x:Int)+gV y|_=>0)==n-gV p)
 |_=>false
def Qv{l:List D}(h:l.length≠2):lQ n ps (.tup l)=false:=by
 match l,h with
 |[],_=>rfl
 |[_],_=>rfl
 |[x,y],h=>exact absurd rfl h
 |_::_::_::_,_=>rfl
def Qw(h:hQ d=false):lQ n ps d=false:=by cases d<;>first|rfl|(cases h)
def Qx(h:kS n ps m=true):∃xs ys:List Int,m= .tup [tupI xs,tupI ys]:=by
 cases m with
 |tup l=>
  by_cases a:l.length=2
  .obtain⟨x,y,rfl⟩:=vD a
   rw[CP,cM,cM]at h;exact⟨_,hU y,by unfold tupI;rw[<-vT h.1.1,<-vT h.1.2]⟩
  .rw[HH a]at h;grind
 |_=>cases h
def aad{w s2 s3 s4 s5:Slot}{d:D}(k:knd d=true)(h:hQ d=false):vz [w,.sh d,s2,s3,s4,s5]= .rt (.bl false):=by simp[vz,kN k,h]
def aae{w s2 s3 s4 s5:Slot}{l:List D}(h:l.length≠2):vz [w,.sh (.tup l),s2,s3,s4,s5]= .rt (.bl false):=by
 have:¬((l.length:Int)=2):=by omega
 simp[vz,this]
def aaf{w s2 s3 s4 s5:Slot}{x y:D}:vz [w,.sh (.tup [x,y]),s2,s3,s4,s5]= .nx [w,.sh (.tup [x,y]),s2,s3,s4,s5]:=by rfl
def Qy{n:Int}{ps:aJ}(h:jq n ps p=true):∃r,p= .tup r:=by
 unfold jq at h;rw[cM]at h;exact AX h.1
def aag{n:Nat}(O:ef n ps)(U:gE n ps)(F:pQ d):Co [ay n ps,d]= .ok (.bl (lQ n ps d)):=by
 have st:cf 6 [ay n ps,d]=[.sh (ay n ps),.sh d,.no,.no,.no,.no]:=rfl;have e:=P6 O U;have f:kE (aW vy (ae (aa 0) ak)) [.sh (ay n ps),.sh d,.no,.no,.no,.no]= .nx [.sh (ay n ps),.sh d,.no,.no,.no,.no]:=by simp[e]
 simp only[Co,fQ,cO,st];rw[bc,f,bj,bc];cases h:hQ d with
 |false=>rw[aad (i5 F.pl) h,Qw h];rfl
 |true=>
  obtain⟨l,rfl⟩:=yO h;by_cases a:l.length=2
  .obtain⟨p,m,rfl⟩:=vD a
   obtain⟨g,i⟩:=F.two p m rfl;have ah:=F.pl;simp only[pln,cU,cM]at ah;have x:=Y5 O g;have y:=Z7 O ah.2.1 i;have j:qH (aa 1) (eA 2 (bR (aD 2) (bR (aD 3) eD))) [.sh (ay n ps),.sh (.tup [p,m]),.no,.no,.no,.no]= .nx [.sh (ay n ps),.sh (.tup [p,m]),.sh p,.sh m,.no,.no]:=by simp
   have k:GX [.sh (ay n ps),.sh (.tup [p,m]),.sh p,.sh m,.no,.no]=if jq n ps p&&kS n ps m then .nx [.sh (ay n ps),.sh (.tup [p,m]),.sh p,.sh m,.no,.no]else .rt (.bl false):=by
    unfold GX;simp only[i4,ny,om,nt,yd,jo,lI];simp[x,y];cases jq n ps p<;>cases kS n ps m<;>rfl
   rw[aaf,bj,bc,j,bj,bc,k];cases c:jq n ps p with
   |false=>simp[lQ,c]
   |true=>
    cases b:kS n ps m with
    |false=>simp[lQ,c,b]
    |true=>
     obtain⟨xs,ys,rfl⟩:=Qx b;obtain⟨r,rfl⟩:=Qy c;have o:qH (aa 3) (eA 2 (bR (aD 4) (bR (aD 5) eD))) [.sh (ay n ps),.sh (.tup [.tup r,.tup [tupI xs,tupI ys]]),.sh (.tup r),.sh (.tup [tupI xs,tupI ys]),.no,.no]= .nx [.sh (ay n ps),.sh (.tup [.tup r,.tup [tupI xs,tupI ys]]),.sh (.tup r),.sh (.tup [tupI xs,tupI ys]),.sh (tupI xs),.sh (tupI ys)]:=by simp
     have q:aH (ay n ps) (.int 0)= .ok (.int n):=rfl;have hr:GY [.sh (ay n ps),.sh (.tup [.tup r,.tup [tupI xs,tupI ys]]),.sh (.tup r),.sh (.tup [tupI xs,tupI ys]),.sh (tupI xs),.sh (tupI ys)]= .ok (.bl ((xs.length:Int)+ys.length==n-r.length)):=by
      have es:jh (.int n) (.int r.length)= .ok (.int (n-r.length)):=rfl;simp[GY,q,tupI,es]
     rw[zo,if_pos rfl,bj,bc,o,bj,kc,hr];simp[lQ,c,b,gV,tupI]
  .rw[aae a,Qv a];rfl
def Qz{n:Nat}(O:ef n ps)(F:pQ d):yH [ay n ps,d]= .ok (.bl (lQ n ps d)):=by
 have st:cf 2 [ay n ps,d]=[.sh (ay n ps),.sh d]:=rfl;simp only[yH,mW,cO,st];rw[bc];cases h:hQ d with
 |false=>
  have:sQ [.sh (ay n ps),.sh d]= .rt (.bl false):=by simp[sQ,kN (i5 F.pl),h]
  rw[this,Qw h];rfl
 |true=>
  obtain⟨l,rfl⟩:=yO h;by_cases b:l.length=2
  .obtain⟨p,m,rfl⟩:=vD b
   obtain⟨g,i⟩:=F.two p m rfl;have ah:=F.pl;simp only[pln,cU,cM]at ah;have x:=Y7 O g;have y:=aac O ah.2.1 i;have t:cN [p,m] 0= .ok p:=rfl;have e:cN [p,m] 1= .ok m:=rfl;have E:sQ [.sh (ay n ps),.sh (.tup [p,m])]=if jq n ps p then .nx [.sh (ay n ps),.sh (.tup [p,m])]else .rt (.bl false):=by
    unfold sQ;simp[x,t];cases jq n ps p<;>rfl
   have j:GS [.sh (ay n ps),.sh (.tup [p,m])]=if kS n ps m then .nx [.sh (ay n ps),.sh (.tup [p,m])]else .rt (.bl false):=by
    unfold GS;simp[y,e];cases kS n ps m<;>rfl
   rw[E];cases c:jq n ps p with
   |false=>simp[lQ,c]
   |true=>
    rw[if_pos rfl,bj,bc,j];cases a:kS n ps m with
    |false=>simp[lQ,c,a]
    |true=>
     obtain⟨xs,ys,rfl⟩:=Qx a;obtain⟨r,rfl⟩:=Qy c;have k:aH (ay n ps) (.int 0)= .ok (.int n):=rfl;have u0:cN [tupI xs,tupI ys] 0= .ok (tupI xs):=rfl;have u:cN [tupI xs,tupI ys] 1= .ok (tupI ys):=rfl;have o:b0 [tupI xs]= .ok (.int xs.length):=by rw[<-bg (f:=D.int)];rfl
     have q:b0 [tupI ys]= .ok (.int ys.length):=by rw[<-bg (f:=D.int)];rfl
     have hr:GT [.sh (ay n ps),.sh (.tup [.tup r,.tup [tupI xs,tupI ys]])]= .ok (.bl ((xs.length:Int)+ys.length==n-r.length)):=by
      have es:jh (.int n) (.int r.length)= .ok (.int (n-r.length)):=rfl;simp[GT,k,t,e,u0,u,o,q,es]
     rw[if_pos rfl,bj,kc,hr];simp[lQ,c,a,gV,tupI]
  .have:sQ [.sh (ay n ps),.sh (.tup l)]= .rt (.bl false):=by
    have:¬((l.length:Int)=2):=by omega
    simp[sQ,this]
   rw[this,Qv b];rfl
def QA(xs:List Int):(xs.map D.int).map intOf=xs:=by rw[cV];exact Df _
def QB{xs:List Int}(rg:∀x∈xs,0<=x/\x<n)(h:xs.Pairwise (·< ·)):eV n (tupI xs)=true:=by
 unfold eV tupI;cb_eq;rw[QA,Qs h,mB,gF];intro d a;obtain⟨x,b,rfl⟩:=dj.mp a;obtain⟨c,e⟩:=rg x b;simp[dW,c,e]
def aah{n:Nat}(O:ef n ps)(U:gE n ps)(B:n<=7):∃(wys:cS) (fs es:List Int),vB [ay n ps]= .ok (.tup [.tup (wys.map tupI),.tup [tupI fs,tupI es]])/\lQ n ps (.tup [.tup (wys.map tupI),.tup [tupI fs,tupI es]])=true/\wys.length+wys.flatten.length<=14/\fs.length<=7/\es.length<=7:=by
 have g:=P6 O U;obtain⟨cm,S,a,P⟩:=ZP O;obtain⟨qs,j,q,C⟩:=ZQ O P a;obtain⟨e,k,m,b,l⟩:=ZV O P a;have sz:=P.size O m b;have D:=(P.ends O).2;have E:qs.length=cm.length:=by rw[q.length_eq,bg]
 have sub:∀p∈qs,p∈ps:=λ p ah=>by
  obtain⟨r,hr,rfl⟩:=dj.mp (q.mem_iff.mp ah);exact P.c.ar r hr
 have o:(qs.map (·.1)).Nodup:=by
  rw[(q.map (·.1)).nodup_iff,cV];exact P.nv
 have u:(qs.map (·.2)).Nodup:=by
  rw[(q.map (·.2)).nodup_iff,cV];exact P.c.nd
 have c:∀p∈qs,0<=p.2/\p.2<(n:Int):=λ p ah=>by
  have:=O.pr p (sub p ah)
  exact⟨this.2.2.1,this.2.2.2.1⟩
 obtain⟨wys,s,Q⟩:=Z0 (by lia) (by lia) o u c;have F:=Q.len u c (by lia);have t:=ZF O U sub Q;have fl:=jI Q.nd Q.rg;have d:∀x∈e,0<=x/\x<(n:Int):=λ x h=>(P.rg O (b x h)).1
 have G:=jI m d;have es:(sortI e).length=e.length:=(sortI_perm e).length_eq;have H:(pP n cm e).length<=n:=fD (wb _ _) (by rw[i6];lia);have v:Cr [ay n ps]= .ok (.tup (wys.map tupI)):=by
  have st:cf 1 [ay n ps]=[.sh (ay n ps)]:=rfl;have f:jM [.sh (ay n ps)]= .rt (.tup (wys.map tupI)):=by
   have h:aH (ay n ps) (.int 0)= .ok (.int n):=rfl;unfold jM;rw[bc,Yc];simp[g,j,s,h]
  unfold Cr;rw[cO,st,f]
 refine⟨wys,pP n cm e,sortI e,?_,?_,by lia,by lia,by lia⟩
 .have st:cf 1 [ay n ps]=[.sh (ay n ps)]:=rfl
  simp only[vB,jP,cO,st];simp[v,k,tupI]
 .have w:=QB (n:=n) (λ x h=>kg.mp (hX.mp h).1) ((ZY n).filter _) (xs:=pP n cm e)
  have y:=QB (n:=n) (λ x h=>d x ((sortI_perm e).mem_iff.mp h)) (ZX m);have i:∀xs,hU (tupI xs)=xs:=λ xs=>QA xs
  have A:kS n ps (.tup [tupI (pP n cm e),tupI (sortI e)])=true:=by
   rw[CP,w,y,i,i,zo,v9,gF];intro p ah;rcases ZW l O ah with z|z
   .rw[decide_eq_true z,CY]
   .rw[decide_eq_true ((sortI_perm e).mem_iff.mpr z),IU]
  unfold lQ;cb_eq;rw[t,A,v9,v9,beq_iff_eq,pM,pM];simp[gV];lia
def HI(f:cS):imm (.tup (f.map tupI))=true:=tw λ d h=>by obtain⟨r,_,rfl⟩:=dj.mp h;exact ri r
def tE{p m:D}(h:pln p=true)(c:sz p<64)(d:pln m=true)(f:rm m):pQ (.tup [p,m]):=⟨by simp[pln,cU,h,d],λ a b e=>by
 injection e with e
 injection e with e1 e2
 injection e2 with e2
 subst e1 e2;exact⟨Qt h c,f⟩⟩
def HJ{d:D}(h:pln d=true)(a:∀p m,d≠.tup [p,m]):pQ d:=⟨h,λ p m e=>absurd e (a p m)⟩
def HK{a b:D}(h:kP a=true)(c:kP b=true):rm (.tup [a,b]):=λ l e x d=>by grind
def v8{d:D}(h:gV d<=100000):kP d=true:=by
 cases d<;>first|rfl|simpa[kP,gV]using h
def aai:∃d,yt [.int c]= .ok d/\pQ d:=by
 obtain⟨d,e,h,a⟩:=YY;refine⟨d,e,h,λ p m b=>?_⟩;subst b;simp only[pln,cU,cM]at h;have g:sz p+(sz m+0)<64:=a;refine⟨Qt h.1 (by lia),λ l i x f=>?_⟩
 have:=CF f
 exact v8 (by lia)
abbrev jJ(ns:List Int)(k c n:Int)(ps:aJ)(P M W L:D)(s7 s8 s9 s10:Slot):af:=[.sh (.scr ns),.sh (.int k),.sh (.int c),.sh (ay n ps),.sh (.tup [P,M]),.sh W,.sh L,s7,s8,s9,s10]
section
variable{ns:List Int}{k c:Int}{n:Nat}{ps:aJ}{P M W L d:D}{s7 s8 s9 s10:Slot}{ds:List D}
def aaj(O:ef n ps)(U:gE n ps)(F:pQ d):∃t,Cs (jJ ns k c n ps P M W L s7 s8 (.sh d) s10)= .nx (jJ ns k c n ps P M W L s7 s8 (.sh d) t):=by
 have e:=aag O U F;have a:=Qz O F;have g:∀b,b9 true (.bl b) (.bl b)= .ok (.bl false):=λ b=>by cases b<;>rfl
 exact⟨.sh (.bl (lQ n ps d)),by simp[Cs,e,a,g]⟩
def aak(O:ef n ps)(U:gE n ps)(h:∀d∈ds,pQ d):∃b t,Pq (jJ ns k c n ps P M W L (.nw (.lst ds)) s8 s9 s10)= .nx (jJ ns k c n ps P M W L (.nw (.lst ds)) s8 b t):=by
 obtain⟨f,e,b,t,rfl⟩:=oE (a:=aD 9) (u:=Cs) ds (λ _ ρ=>∃b t,ρ=jJ ns k c n ps P M W L (.nw (.lst ds)) s8 b t) _ ⟨_,_,rfl⟩ (by
  rintro i x ρ g ⟨b,t,rfl⟩;obtain⟨j,e⟩:=aaj (k:=k) (c:=c) (P:=P) (M:=M) (W:=W) (L:=L) O U (h x (jK g));exact⟨_,by assumption,_,_,rfl⟩)
 have l:bS (fG 7) (jJ ns k c n ps P M W L (.nw (.lst ds)) s8 s9 s10)= .ok ds:=rfl;exact⟨b,t,by assumption⟩
def aal(h:ps.length<64):∃z:List Int,G6 [.sh (.scr ns),.sh (.int k),.sh (.int c),.sh (ay n ps),.sh (.tup [P,M]),.sh W,s6,s7,s8,s9,s10]= .nx (jJ ns k c n ps P M W (tupI z) s7 s8 s9 s10)/\z.length<64:=by
 have e:G5 [.sh (.scr ns),.sh (.int k),.sh (.int c),.sh (ay n ps),.sh (.tup [P,M]),.sh W,s6,s7,s8,s9,s10]= .ok (.lst ((ps.map (·.1)).map .int)):=by
  unfold G5;refine kR (ds:=ps.map aS) (by simp[shE,iy,ay]) (by rw[bg];lia) ?_;rw[cV];exact tf ps λ p _=>⟨_,rfl,rfl⟩
 have ah:(ps.map (·.1)).length<64:=by rw[bg];exact h
 have b:xU [.lst ((ps.map (·.1)).map .int)]= .ok (.lst ((sortI (dJ (ps.map (·.1)))).map .int)):=by
  unfold xU;cb_eq;rw[m8];cb_eq;rw[if_pos ah]
 refine⟨sortI (dJ (ps.map (·.1))),?_,?_⟩
 .unfold G6
  simp_all
 .rw[(sortI_perm _).length_eq]
  exact zU (sub_len (BO _) λ x a=>(Oe _ x).mp a) ah
def aam(hk:0<=k):∃t2 t3 t4 t5 t6 t7 t8 t9 t,Ct [.sh (.scr ns),.sh (.int k),s2,s3,s4,s5,s6,s7,s8,s9,s10]= .nx [.sh (.scr ns),.sh (.int k),t2,t3,t4,t5,t6,t7,t8,t9,t]:=by
 obtain⟨c,ec⟩:=Yh (ns:=ns) hk;obtain⟨n,ps,ew,O,hn,C,U⟩:=YJ (c:=c) (most:=6) (by decide);have E:yy [.int c,.int 6]= .ok (ay n ps):=ew;obtain⟨wys,fs,es,F,b,z1,z2,z3⟩:=aah O U (by lia);obtain⟨qs,eq,Q⟩:=Zb (c:=c) O;obtain⟨G,f2,ep,CJ⟩:=Zl O Q;obtain⟨od,eo,fo⟩:=aai (c:=c);have y0:=CJ.sz;have y1:=PX λ r hr=>(CJ.pi.al r hr).1
 obtain⟨H,eb,I,rb2⟩:=PL (c:=c) (p:=80) (ws:=fs) (m:=n) (by decide) (by decide) (by lia);have hsz:sz (.tup (wys.map tupI))<=14:=by rw[PK];exact z1
 obtain⟨J,K,N,pb2⟩:=Y1 (c:=c) (p:=70) (m:=n) (l:=wys.map tupI) (λ e he=>by obtain⟨r,_,rfl⟩:=dj.mp he;exact .inr ⟨r,rfl⟩) (by lia) (by lia) (by lia);obtain⟨P,j⟩:∃P,P=D.tup (wys.map tupI):=⟨_,rfl⟩
 obtain⟨X,a⟩:∃X,X=tupI fs:=⟨_,rfl⟩
 obtain⟨Y,o⟩:∃Y,Y=tupI es:=⟨_,rfl⟩
 obtain⟨W,u⟩:∃W,W=D.tup (G.map tupI):=⟨_,rfl⟩
 have f:pln P=true:=j▸tA (PM wys);have z:sz P<64:=by rw[j];lia
 have pX:pln X=true:=a▸y6 fs;have pY:pln Y=true:=o▸y6 es;have pW:pln W=true:=u▸tA (PM G);have zW:sz W<64:=by rw[u,PK];lia
 have gP:gD P= .ok P:=iE (j▸HI wys);have gX:gD X= .ok X:=iE (a▸ri fs);have gY:gD Y= .ok Y:=iE (o▸ri es);have gW:gD W= .ok W:=iE (u▸HI G);have sX:kP X=true:=v8 (by rw[a,pM];lia);have sY:kP Y=true:=v8 (by rw[o,pM];lia);have s:rm (.tup [X,Y]):=HK sX sY;have i:pln (.tup [X,Y])=true:=by simp[pln,cU,pX,pY]
 have R:imm P=true:=j▸HI wys;have v:imm (.tup [X,Y])=true:=by simp[imm,gc,show imm X=true from a▸ri fs,show imm Y=true from o▸ri es]
 have S:gD (.tup [X,Y])= .ok (.tup [X,Y]):=iE v;have e8:vw [.int c,.int 80,X,.int n]= .ok H:=by rw[a];exact eb
 have e9:yz [.int c,.int 70,P,.int n]= .ok J:=by rw[j];exact K
 rw[<-j,<-a,<-o]at F b;rw[<-u]at ep;have w:aH (ay n ps) (.int 0)= .ok (.int n):=rfl;obtain⟨M,y⟩:∃M,M=D.tup [X,Y]:=⟨_,rfl⟩
 have m0:aH M (.int 0)= .ok X:=by rw[y];rfl
 have m1:aH M (.int 1)= .ok Y:=by rw[y];rfl
 rw[<-y]at s i S v F b;have F0:pQ (.tup [P,M]):=tE f z i s;have gA:gD (.tup [P,M])= .ok (.tup [P,M]):=iE (by simp[imm,gc,R,v]);have a0:cN [P,M] 0= .ok P:=rfl;have T:cN [P,M] 1= .ok M:=rfl;have e2:=Qz O F0;rw[b]at e2;obtain⟨V,e6,hz⟩:=aal (ns:=ns) (k:=k) (c:=c) (n:=n) (P:=P) (M:=M) (W:=W) (s6:=s6) (s7:=s7) (s8:=s8) (s9:=s9) (s10:=s10) C;obtain⟨L,A⟩:∃L,L=tupI V:=⟨_,rfl⟩
 rw[<-A]at e6;have gL:gD L= .ok L:=iE (A▸ri V);have pL:pln (.tup [L,.tup []])=true:=by simp[pln,cU,show pln L=true from A▸y6 V]
 have q:rm (.tup [L,.tup []]):=HK (v8 (by rw[A,pM];lia)) rfl;have c2:G0 [.sh (.scr ns),.sh (.int k),s2,s3,s4,s5,s6,s7,s8,s9,s10]= .nx [.sh (.scr ns),.sh (.int k),.sh (.int c),s3,s4,s5,s6,s7,s8,s9,s10]:=by simp[G0,ec]
 have c3:G1 [.sh (.scr ns),.sh (.int k),.sh (.int c),s3,s4,s5,s6,s7,s8,s9,s10]= .nx [.sh (.scr ns),.sh (.int k),.sh (.int c),.sh (ay n ps),s4,s5,s6,s7,s8,s9,s10]:=by simp[G1,E]
 have c4:G2 [.sh (.scr ns),.sh (.int k),.sh (.int c),.sh (ay n ps),s4,s5,s6,s7,s8,s9,s10]= .nx [.sh (.scr ns),.sh (.int k),.sh (.int c),.sh (ay n ps),.sh (.tup [P,M]),s5,s6,s7,s8,s9,s10]:=by simp[G2,F]
 have aq:G3 [.sh (.scr ns),.sh (.int k),.sh (.int c),.sh (ay n ps),.sh (.tup [P,M]),s5,s6,s7,s8,s9,s10]= .nx [.sh (.scr ns),.sh (.int k),.sh (.int c),.sh (ay n ps),.sh (.tup [P,M]),s5,s6,s7,s8,s9,s10]:=by simp[G3,e2]
 have c5:G4 [.sh (.scr ns),.sh (.int k),.sh (.int c),.sh (ay n ps),.sh (.tup [P,M]),s5,s6,s7,s8,s9,s10]= .nx [.sh (.scr ns),.sh (.int k),.sh (.int c),.sh (ay n ps),.sh (.tup [P,M]),.sh W,s6,s7,s8,s9,s10]:=by
  have g:cN [W,D.tup (f2.map tupI)] 0= .ok W:=rfl;simp[G4,eq,ep,g]
 have c7:G7 (jJ ns k c n ps P M W L s7 s8 s9 s10)= .nx (jJ ns k c n ps P M W L (.nw (.lst [.tup [P,M],.tup [W,M],.tup [P,.tup [L,.tup []]],.tup [W,.tup [L,.tup []]],od])) s8 s9 s10):=by
  simp[G7,gA,gW,gL,gP,S,a0,T,eo]
 have c8:∀s7,G8 (jJ ns k c n ps P M W L s7 s8 s9 s10)= .nx (jJ ns k c n ps P M W L s7 (.nw (.tup [H,Y])) s9 s10):=λ s7=>by
  simp[G8,T,m0,m1,w,e8,gY]
 obtain⟨B,Z⟩:∃B,B=D.tup [H,Y]:=⟨_,rfl⟩
 rw[<-Z]at c8;have c9:∀ds:List D,ds.length=5->G9 (jJ ns k c n ps P M W L (.nw (.lst ds)) (.nw B) s9 s10)= .nx (jJ ns k c n ps P M W L (.nw (.lst (ds++[.tup [J,M],.tup [P,B]]))) (.nw B) s9 s10):=λ ds h=>by
  simp[G9,a0,T,w,e9,S,gP,Pg,h]
 have cA:∀ds:List D,ds.length=7->Hc (jJ ns k c n ps P M W L (.nw (.lst ds)) (.nw B) s9 s10)= .nx (jJ ns k c n ps P M W L (.nw (.lst (ds++[.tup [M,P],.lst [P,M],.tup [P],.tup [P,M,.tup []]]))) (.nw B) s9 s10):=λ ds h=>by
  have r1:u5 (.tup [P,M])= .ok (.tup [M,P]):=rfl;have r2:qS [.tup [P,M]]= .ok (.lst [P,M]):=rfl;have r3:Bv (.tup [P,M]) none (some 1)= .ok (.tup [P]):=rfl;have r4:bK (.tup [P,M]) (.tup [.tup []])= .ok (.tup [P,M,.tup []]):=rfl;have g1:gD (.tup [M,P])= .ok (.tup [M,P]):=iE (by simp[imm,gc,R,v]);have g2:gD (.tup [P])= .ok (.tup [P]):=iE (by simp[imm,gc,R]);simp[Hc,r1,r2,r3,r4,g1,g2,gA,Pg,h]
 have kK:∀d∈(([.tup [P,M],.tup [W,M],.tup [P,.tup [L,.tup []]],.tup [W,.tup [L,.tup []]],od]++[.tup [J,M],.tup [P,B]])++[.tup [M,P],.lst [P,M],.tup [P],.tup [P,M,.tup []]]:List D),pQ d:=λ d hd=>by
  have jJ:pln (.tup [])=true:=rfl;have pB:pln B=true:=by rw[Z];simp[pln,cU,I,pY]
  have xV:rm B:=Z▸HK (v8 (by lia)) sY;simp only[dH,b8,lR,or_false]at hd;rcases hd with ((rfl|rfl|rfl|rfl|rfl)|rfl|rfl)|rfl|rfl|rfl|rfl
  .exact F0
  .exact tE pW zW i s
  .exact tE f z pL q
  .exact tE pW zW pL q
  .exact fo
  .exact tE N (by lia) i s
  .exact tE f z pB xV
  .refine tE i (by rw[y,vN,vN,PI,a,o,pM,pM];lia) f λ l hl x w=>v8 ?_
   rw[hl]at z
   have:=CF w
   lia
  .exact HJ (by simp[pln,cU,f,i]) (λ p m e=>by cases e)
  .exact HJ (by simp[pln,cU,f]) (λ p m e=>by simp at e)
  .exact HJ (by simp[pln,cU,f,i]) (λ p m e=>by simp at e)
 obtain⟨t9,t,cF⟩:=aak (ns:=ns) (k:=k) (c:=c) (P:=P) (M:=M) (W:=W) (L:=L) (s8:=.nw B) (s9:=s9) (s10:=s10) O U kK;exact⟨_,_,_,_,_,_,_,_,_,by rw[Ct,bc,c2,bj,bc,c3,bj,bc,c4,bj,bc,aq,bj,bc,c5,bj,bc,e6,bj,bc,c7,bj,bc,c8,bj,bc,c9 _ rfl,bj,bc,cA _ rfl,bj,cF]⟩
def aan(ns:List Int)(w:ns.length<=63):He [.scr ns]= .ok (.bl true):=by
 have st:cf 11 [.scr ns]=[.sh (.scr ns),.no,.no,.no,.no,.no,.no,.no,.no,.no,.no]:=rfl;let m:Int:=if (if (8:Int)<ns.length then(8:Int)else ns.length)>1 then(if (8:Int)<ns.length then(8:Int)else ns.length)else 1
 have hr:=lM (j:=m) (by lia) (by lia);have R:GZ [.sh (.scr ns),.no,.no,.no,.no,.no,.no,.no,.no,.no,.no]= .ok (cw 0 m):=by
  rw[<-hr];unfold GZ;simp[m]
 obtain⟨q,r,p,t,b,c,f,h,l,n,o,A,rfl⟩:=oE (a:=aD 1) (u:=Ct) (cw 0 m) (λ _ ρ=>∃p t b c f h l n o A,ρ=[.sh (.scr ns),p,t,b,c,f,h,l,n,o,A]) [.sh (.scr ns),.no,.no,.no,.no,.no,.no,.no,.no,.no,.no] ⟨.no,.no,.no,.no,.no,.no,.no,.no,.no,.no,rfl⟩ (by
  rintro i d ρ s ⟨p,t,b,c,f,h,l,n,o,A,rfl⟩;obtain⟨k,rfl,k0,k1⟩:=rf.mp (jK s);obtain⟨x,B,C,D,E,F,G,H,I,e⟩:=aam (ns:=ns) (k:=k) (s2:=t) (s3:=b) (s4:=c) (s5:=f) (s6:=h) (s7:=l) (s8:=n) (s9:=o) (s10:=A) k0;exact⟨_,by rw[oq,q9];exact e,_,_,_,_,_,_,_,_,_,_,rfl⟩)
 have z:vB [.tup [.int 0,.tup []]]= .ok (.tup [.tup [],.tup [.tup [],.tup []]]):=by kernel_rfl
 have g:b9 false (.tup [.tup [],.tup [.tup [],.tup []]]) (.tup [.tup [],.tup [.tup [],.tup []]])= .ok (.bl true):=rfl;have v:Hd [.sh (.scr ns),p,t,b,c,f,h,l,n,o,A]= .ok (.bl true):=by
  simp[Hd,z,g]
 have y:zy [.sh (.scr ns),.no,.no,.no,.no,.no,.no,.no,.no,.no,.no]= .rt (.bl true):=by
  rw[zy,bc,kM,R,cv,r,bj,kc,v,cv]
 unfold He;rw[cO,st,y]
end
local macro_rules|`(tactic|walk_at "sc")=>`(tactic|exact⟨rfl,rfl,rfl,by f_are,rfl,by f_are,by decide+kernel⟩)
abbrev ac:PySem.Str:="thing"
abbrev ad:PySem.Str:="_law_cell"
abbrev am:PySem.Str:="_law_web"
abbrev ap:PySem.Str:="_law_thing"
abbrev as:PySem.Str:="web"
abbrev a_:PySem.Str:="_law_many"
abbrev a':PySem.Str:="_law_script"
abbrev be:PySem.Str:="many"
abbrev bi:PySem.Str:="begin"
abbrev bn:PySem.Str:="_law_spot"
abbrev bv:PySem.Str:="_law_row"
abbrev b_:PySem.Str:="_law_k"
abbrev ce:PySem.Str:="_law_found"
abbrev ci:PySem.Str:="come"
abbrev cr:PySem.Str:="place"
abbrev c_:PySem.Str:="_law_parting"
abbrev db:PySem.Str:="led"
abbrev dl:PySem.Str:="tried"
abbrev dL:PySem.Str:="near"
abbrev d_:PySem.Str:="_law_bound"
abbrev em:PySem.Str:="_law_pairs"
abbrev e_:PySem.Str:="_law_one"
abbrev f_:PySem.Str:="_law_most"
abbrev f':PySem.Str:="_law_rows"
abbrev gl:PySem.Str:="end"
abbrev g_:PySem.Str:="steps"
abbrev g':PySem.Str:="begins"
noncomputable def top(i:Nat):Stmt:=PySem.Challenge.pw_fewways_k58_way_papers_looked_at.main.body.getD i (.Pass ⟨0,0,0,0⟩)
abbrev HL:Stmt:=top 6
abbrev HM:Stmt:=top 7
abbrev HN:Stmt:=top 8
abbrev HP:Stmt:=top 9
abbrev HQ:Stmt:=top 10
abbrev HR:Stmt:=top 11
abbrev HS:Stmt:=top 12
abbrev HU:Stmt:=top 13
abbrev HV:Stmt:=top 15
abbrev HW:Stmt:=top 16
abbrev HX:Stmt:=top 18
abbrev HY:Stmt:=top 19
abbrev HZ:Stmt:=top 20
abbrev Ia:Stmt:=top 21
abbrev Ib:Stmt:=top 22
abbrev Ic:Stmt:=top 23
abbrev Ie:Stmt:=top 24
abbrev Ig:Stmt:=top 26
abbrev zg:Stmt:=top 27
abbrev Ih:Stmt:=top 28
abbrev Ii:Stmt:=top 29
abbrev Ij:Stmt:=top 30
abbrev Ik:Stmt:=top 32
abbrev Il:Stmt:=top 33
abbrev Im:Stmt:=top 34
abbrev Io:Stmt:=top 35
abbrev Ip:Stmt:=top 36
abbrev Iq:Stmt:=top 37
abbrev Ir:Stmt:=top 39
abbrev It:Stmt:=top 40
abbrev Iu:Stmt:=top 41
abbrev Iv:Stmt:=top 42
abbrev Iw:Stmt:=top 43
abbrev Iy:Stmt:=top 44
abbrev Iz:Stmt:=top 45
abbrev IA:Stmt:=top 46
abbrev IB:Stmt:=top 47
abbrev IC:Stmt:=top 48
abbrev ID:Stmt:=top 49
abbrev IE:Stmt:=top 50
abbrev IF:Stmt:=top 51
abbrev IG:Stmt:=top 52
abbrev IH:Stmt:=top 53
abbrev II:Stmt:=top 54
abbrev IJ:Stmt:=top 55
abbrev IK:Stmt:=top 56
def aao:cq [ac] [ac] (bU HL):=by walk_at "sc"
def aap:cq [ac] [ac] (bU HM):=by walk_at "sc"
def aaq:cq [be,ac] [be,ac] (bU HN):=by walk_at "sc"
def aar:cq [be,ac] [be,ac] (bU HP):=by walk_at "sc"
def aas:cq ["things","at"] ["things"] (bU HQ):=by walk_at "sc"
def aat:cq [be,ac,"pair"] [be,ac] (bU HR):=by walk_at "sc"
def aau:cq [be,ac,cr] [be,ac] (bU HS):=by walk_at "sc"
def aav:cq [be,"rows"] [be,"rows"] (bU HU):=by walk_at "sc"
def aaw:cq [dL,ac,cr,"at"] [dL,ac] (bU HV):=by walk_at "sc"
def aax:cq [dL,ac,"goes","row"] [dL,ac,"goes"] (bU HW):=by walk_at "sc"
def aay:cq [ac] [ac] (bU HX):=by walk_at "sc"
def aaz:cq [ac] [ac] (bU HY):=by walk_at "sc"
def aaA:cq [as,db,bi,gl] [as] (bU HZ):=by walk_at "sc"
def aaB:cq [as,ci,bi,gl] [as] (bU Ia):=by walk_at "sc"
def aaC:cq [as,db,"waits","ready","order",cr,"other"] [as] (bU Ib):=by walk_at "sc"
def aaD:cq [as,"order"] [as] (bU Ic):=by walk_at "sc"
def aaE:cq [as] [as] (bU Ie):=by walk_at "sc"
def aaF:cq [as,ac,g',"ends"] [as,ac] (bU Ig):=by walk_at "sc"
def aaG:cq [db,ci,bi,dl,gl] [db,ci,bi,dl] (bU zg):=by walk_at "sc"
def aaH:cq [as,db,ci,bi] [as] (bU Ih):=by walk_at "sc"
def aaI:cq [as] [as] (bU Ii):=by walk_at "sc"
def aaJ:cq [as,db,ci,"kept",g',"ends","at",bi,gl] [as] (bU Ij):=by walk_at "sc"
def aaK:cq [as,ac] [as,ac] (bU Ik):=by walk_at "sc"
def aaL:cq [g_,"start","gone"] [g_,"start"] (bU Il):=by walk_at "sc"
def aaM:cq [be,"pairs",g_,"ends"] [be,"pairs"] (bU Im):=by walk_at "sc"
def aaN:cq [as] [as] (bU Io):=by walk_at "sc"
def aaO:cq [as,ac,"parting","marks",g',"ends"] [as,ac] (bU Ip):=by walk_at "sc"
def aaP:cq [as] [as] (bU Iq):=by walk_at "sc"
def aaQ:cq [a',b_] [a',b_] (bU Ir):=by walk_at "sc"
def aaR:cq [ad,b_,d_,"_law_left","_law_j","_law_stir"] [ad,b_,d_] (bU It):=by walk_at "sc"
def aaS:cq [ce] [ce] (bU Iu):=by walk_at "sc"
def aaT:cq [ad,a_,ce,"_law_place"] [ad,a_] (bU Iv):=by walk_at "sc"
def aaU:cq [ad,f_,a_,"_law_kind","_law_thick","_law_order","_law_arrows",bn,"_law_j","_law_i"] [ad,f_] (bU Iw):=by walk_at "sc"
def aaV:cq [ad,"_law_some"] [ad] (bU Iy):=by walk_at "sc"
def aaW:cq [bv] [bv] (bU Iz):=by walk_at "sc"
def aaX:cq [ap,a_] [ap,a_] (bU IA):=by walk_at "sc"
def aaY:cq [am,ap] [am,ap] (bU IB):=by walk_at "sc"
def aaZ:cq [f',a_,ce,bv] [f',a_] (bU IC):=by walk_at "sc"
def aa0:cq [am,ap] [am,ap] (bU ID):=by walk_at "sc"
def aa1:cq [am,ap] [am,ap] (bU IE):=by walk_at "sc"
def aa2:cq [ad,am,ce,b_,"_law_arrow"] [ad,am] (bU IF):=by walk_at "sc"
def aa3:cq [am,em,"_law_after","_law_ways","_law_rings","_law_left","_law_place","_law_way","_law_ring"] [am,em] (bU IG):=by walk_at "sc"
def aa4:cq [ad,bn,bv,a_,"_law_at","_law_odd_here","_law_some"] [ad,bn,bv,a_] (bU IH):=by walk_at "sc"
def aa5:cq [ad,bn,c_,a_,"_law_at","_law_way","_law_other","_law_some"] [ad,bn,c_,a_] (bU II):=by walk_at "sc"
def aa6:cq [am,ap] [am,ap] (bU IJ):=by walk_at "sc"
def aa7:cq [a',b_,ad,am,"_law_paper","_law_ways","_law_leading","_law_things","_law_bent",ap,ce] [a'] (bU IK):=by walk_at "sc"
set_option genInjectivity false in
set_option genSizeOf false in
structure QC where
 aB4:Addr
 kO:bO
 aCz:Addr
 mY:bO
 aB5:Addr
 kW:bO
 aCy:Addr
 mX:bO
 zq:Addr
 gn:bO
 nY:Addr
 bV:bO
 yG:Addr
 eU:bO
 zr:Addr
 jR:bO
 lz:Addr
 bx:bO
 aFg:Addr
 nu:bO
 yF:Addr
 iW:bO
 sV:Addr
 eE:bO
 aDA:Addr
 mZ:bO
 aB7:Addr
 kZ:bO
 aCv:Addr
 mU:bO
 vU:Addr
 gH:bO
 sU:Addr
 dw:bO
 aB6:Addr
 kY:bO
 nW:Addr
 dF:bO
 aFe:Addr
 qT:bO
 xu:Addr
 iQ:bO
 xx:Addr
 iR:bO
 qO:Addr
 dU:bO
 aFf:Addr
 qU:bO
 xr:Addr
 gC:bO
 aB1:Addr
 jM:bO
 uR:Addr
 fQ:bO
 zj:Addr
 jP:bO
 vW:Addr
 eY:bO
 aB3:Addr
 jN:bO
 zm:Addr
 jQ:bO
 aB2:Addr
 kJ:bO
 vV:Addr
 gJ:bO
 aCw:Addr
 mV:bO
 yC:Addr
 iT:bO
 qN:Addr
 dR:bO
 zp:Addr
 dM:bO
 uQ:Addr
 fP:bO
 yE:Addr
 iV:bO
 sS:Addr
 du:bO
 oW:Addr
 dB:bO
 yD:Addr
 iU:bO
 uP:Addr
 fO:bO
 nU:Addr
 cQ:bO
 aCx:Addr
 mW:bO
 aPJ:Addr
 zy:bO
 vM:Value
 wZ:Addr
 wY:Addr
 zV:Addr
structure cL(K:aB)(mg:Str->Option Value)(t:QC):Prop where
 wV:cy K mg "is_whole" HL [ac] t.aB4 t.kO
 aDH:cy K mg "is_many" HM [ac] t.aCz t.mY
 nj:cy K mg "is_place" HN [be,ac] t.aB5 t.kW
 aDG:cy K mg "is_pair" HP [be,ac] t.aCy t.mX
 oY:cy K mg "is_rising" HQ ["things"] t.zq t.gn
 nq:cy K mg "are_rising_pairs" HR [be,ac] t.nY t.bV
 rZ:cy K mg "are_places" HS [be,ac] t.yG t.eU
 zx:cy K mg "each_once" HU [be,"rows"] t.zr t.jR
 mC:cy K mg "goes_along" HV [dL,ac] t.lz t.bx
 vQ:fL K dv "goes_along"=some (some (.ref t.lz))
 aFl:cy K mg "all_go" HW [dL,ac,"goes"] t.aFg t.nu
 yN:cy K mg "is_one_way" HX [ac] t.yF t.iW
 dm:cy K mg "check_one_way" HY [ac] t.sV t.eE
 qR:cy K mg "all_led" HZ [as] t.aDA t.mZ
 aBe:cy K mg "all_come" Ia [as] t.aB7 t.kZ
 aDE:cy K mg "ordered" Ib [as] t.aCv t.mU
 vX:cy K mg "least_order" Ic [as] t.vU t.gH
 lV:cy K mg "check_ordered" Ie [as] t.sU t.dw
 aBd:cy K mg "is_marks" Ig [as,ac] t.aB6 t.kY
 wW:cy K mg "find_end" zg [db,ci,bi,dl] t.nW t.dF
 aBb:cy K mg "paired" Ih [as] t.aFe t.qT
 yJ:cy K mg "some_pairs" Ii [as] t.xu t.iQ
 yK:cy K mg "some_marks" Ij [as] t.xx t.iR
 qQ:cy K mg "is_led_parting" Ik [as,ac] t.qO t.dU
 aFk:cy K mg "follow" Il [g_,"start"] t.aFf t.qU
 yI:cy K mg "ways_along" Im [be,"pairs"] t.xr t.gC
 aBa:cy K mg "some_led" Io [as] t.aB1 t.jM
 uW:cy K mg "is_way_paper" Ip [as,ac] t.uR t.fQ
 uT:cy K mg "way_paper" Iq [as] t.zj t.jP
 vZ:cy K mg "_law_cell_at" Ir [a',b_] t.vW t.eY
 cP:cy K mg "_law_draw" It [ad,b_,d_] t.aB3 t.jN
 uU:cy K mg "_law_whole" Iu [ce] t.zm t.jQ
 aBc:cy K mg "_law_turn" Iv [ad,a_] t.aB2 t.kJ
 vY:cy K mg "_law_ordered" Iw [ad,f_] t.vV t.gJ
 aDF:cy K mg "_law_odd" Iy [ad] t.aCw t.mV
 rY:cy K mg "_law_rising" Iz [bv] t.yC t.iT
 qP:cy K mg "_law_are_places" IA [ap,a_] t.qN t.dR
 zu:cy K mg "_law_along" IB [am,ap] t.zp t.dM
 uV:cy K mg "_law_all_once" IC [f',a_] t.uQ t.fP
 yM:cy K mg "_law_parted" ID [am,ap] t.yE t.iV
 sZ:cy K mg "_law_are_marks" IE [am,ap] t.sS t.du
 oX:cy K mg "_law_drawn_pairs" IF [ad,am] t.oW t.dB
 yL:cy K mg "_law_pieces" IG [am,em] t.yD t.iU
 n8:cy K mg "_law_bent_row" IH [ad,bn,bv,a_] t.uP t.fO
 ni:cy K mg "_law_bent_parting" II [ad,bn,c_,a_] t.nU t.cQ
 zT:cy K mg "_law_due" IJ [am,ap] t.aCx t.mW
 aMH:cy K mg "law" IK [a'] t.aPJ t.zy
 pG:mg "MOST_PLACES"=some t.vM
 aCG:RelV (.int 60) t.vM
 m_FewError:mg "FewError"=some (.ref t.wZ)
 l_FewError:eN mg "FewError"=t.wZ
 qi:wj K t.wZ
 aGf:mg "NoOneWay"=some (.ref t.wY)
 aGn:eN mg "NoOneWay"=t.wY
 m7:wj K t.wY
 aIu:mg "NoOrder"=some (.ref t.zV)
 aJB:eN mg "NoOrder"=t.zV
 pJ:wj K t.zV
 aBB:mg "all"=none
 aGc:mg "bool"=none
 aQ8:mg "dict"=none
 aFN:mg "enumerate"=none
 aPF:mg "int"=none
 az:mg "isinstance"=none
 dh:mg "len"=none
 zG:mg "list"=none
 aSI:mg "max"=none
 aPE:mg "min"=none
 cj:mg "range"=none
 aLY:mg "set"=none
 qG:mg "sorted"=none
 bW:mg "tuple"=none
section
variable{P:bD}{w:World}{K:aB}{mg:Str->Option Value}{base:Heap}{t:QC}
abbrev df(P:bD)(w:World)(K:aB)(mg:Str->Option Value)(base:Heap)(k:Nat)(fn:Addr)(f:bO)(ps:List Str)(n:Nat)(F:List D->ag D):Prop:=gb P w K mg base (eZ P w) k fn f ps (mj K (eN mg) n F)
def el{q:Str}{st:Stmt}{fn:Addr}{d:bO}{ps N:List Str}{f:af->aC}{F:List D->ag D}{k n:Nat}(D:cy K mg q st ps fn d)(S:cq N ps (bU st))(h:∀{_:N.Nodup} {cdv A outer s H E hr},mf (Bm P w K mg base N q (bU st) fn cdv A outer s H E k hr) (lr st) f)(a:ps.length=n:=by rfl)(b:cD N.length f=F:=by rfl):
  gb P w K mg base (eZ P w) (k+1) fn d ps (mj K (eN mg) n F):=pC D S (λ n _ _ _ _ _ _ _=>@h n _ _ _ _ _ _ _) a b
def QD(T:cL K mg t):df P w K mg base 1 t.aB4 t.kO [ac] 1 yg:=
 el (f:=kO) T.wV aao
  (aY (bN (m4 (ix (ai 0) T.az T.aPF) (mT (MJ (ix (ai 0) T.az T.aGc))))))
def IL(T:cL K mg t):df P w K mg base 1 t.zq t.gn ["things"] 1 ou:=
 el (f:=gn) T.oY aas
  (aR (ig (Fk (ao aG (ao (fR T.dh (ao (ai 0) aw)) aw)) T.cj) (fb (ks:=[1]))
   (aY (ee (e7 (xM (br (ai 0) (si (ai 1) aG)) (br (ai 0) (ai 1))))
    (aY (bN dZ))
    ez)))
  (aY (bN dZ)))
def aa8(T:cL K mg t):df P w K mg base 1 t.zr t.jR [be,"rows"] 2 B0:=
 el (f:=jR) T.zx aav
  (aY (bN (u6 (BL T.qG (ao (Xg (N:=["row",cr]) (js:=[none,none]) (ks:=[0]) (ks2:=[1]) (gr (ai 1)) fx jD (gr (ai 0)) fx jD (bG (ai 1))) aw)) (Gc T.zG T.cj (ai 0)))))
def CQ(T:cL K mg t):df P w K mg base 1 t.aDA t.mZ [as] 1 oA:=
 pC (k:=0) (f:=mZ) T.qR aaA λ n _ _ _ _ _ _ _=>
  (aR (Om (N:=[cr]) (js:=[none]) (ks:=[0]) (kG (ao (br (ai 0) aG) aw) T.cj) fx)
  (aR (ig (gr (br (ai 0) aG)) (m6 (n:=2) (hD (fb (ks:=[2,3])) (hD (fb (ks:=[2,3])) m5)))
   (aY (M8 1 (ai 2) (bG (ai 3)))))
  (aY (bN (mR 1)))))
def aa9(T:cL K mg t):df P w K mg base 1 t.aB7 t.kZ [as] 1 B1:=
 pC (k:=0) (f:=kZ) T.aBe aaB λ n _ _ _ _ _ _ _=>
  (aR (Om (N:=[cr]) (js:=[none]) (ks:=[0]) (kG (ao (br (ai 0) aG) aw) T.cj) fx)
  (aR (ig (gr (br (ai 0) aG)) (m6 (n:=2) (hD (fb (ks:=[2,3])) (hD (fb (ks:=[2,3])) m5)))
   (aY (M8 1 (ai 3) (bG (ai 2)))))
  (aY (bN (mR 1)))))
def aba(T:cL K mg t):df P w K mg base 1 t.aFf t.qU [g_,"start"] 2 yh:=
 el (f:=qU) T.aFk aaL
  (aR (jd (i:=2) (jC (mS (ao (bG (ai 1)) aw))))
  (aR (uZ (gd.st (Fh (OJ (br (hp 2) (pq aG)) (ai 0)) (Fg (ng (vh (ai 0) (br (hp 2) (pq aG))) (ai 1)))))
   (aY (m9 2 (bG (vh (ai 0) (br (hp 2) (pq aG)))))))
  (aY (bN (lD T.bW (ao (mR 2) aw))))))
def abb(T:cL K mg t):df P w K mg base 1 t.vW t.eY [a',b_] 2 yi:=
 el (f:=eY) T.vZ aaQ
  (aR (ee (xM (ai 1) (fR T.dh (ao (ai 0) aw)))
   (aY (bN (bG (br (ai 0) (ai 1)))))
   ez)
  (aY (bN aG)))
def mz(T:cL K mg t):df P w K mg base 1 t.aB3 t.jN [ad,b_,d_] 3 gN:=
 el (f:=jN) T.cP aaR
  (aR (ee (VC (ai 0) (Nu aG aG))
   (aR (fH (i:=3) (dr (ai 0)))
   (aR (ig (kG (ao (ai 1) aw) T.cj) (fb (ks:=[4]))
    (aY (fH (i:=3) (dr (Nt (ai 3) (ai 2))))))
   (aY (bN (sj (ai 3) (ai 2))))))
   ez)
  (aR (fH (i:=5) (dr (sj (sg (de (de (sj (ai 0) aG) (sg aG (ai 1))) aG) aG) aG)))
  (aR (fH (i:=5) (dr (sj (de (de (sg (ai 5) (ai 5)) (sg aG (ai 1))) aG) aG)))
  (aY (bN (sj (Nt (sj (sg (ai 5) aG) aG) aG) (ai 2)))))))
def QE(T:cL K mg t):df P w K mg base 1 t.zm t.jQ [ce] 1 yj:=
 el (f:=jQ) T.uU aaS
  (aY (bN (m4 (ix (ai 0) T.az T.aPF) (mT (MJ (ix (ai 0) T.az T.aGc))))))
def QF(T:cL K mg t):df P w K mg base 1 t.yC t.iT [bv] 1 sI:=
 el (f:=iT) T.rY aaW
  (aY (bN (sk T.aBB (ao (j0 (N:=[b_,bv]) (js:=[none,some 0]) (ks:=[0]) (Fk (ao aG (ao (fR T.dh (ao (ai 0) aw)) aw)) T.cj) fx jD (Vz (br (ai 1) (si (ai 0) aG)) (br (ai 1) (ai 0)))) aw))))
def abc(T:cL K mg t):df P w K mg base 1 t.uQ t.fP [f',a_] 2 B3:=
 el (f:=fP) T.uV aaZ
  (aR (jd (i:=2) (jC (mS aw)))
  (aR (ig (gr (ai 0)) (fb (ks:=[3]))
   (aY (Xi 2 (bG (ai 3)))))
  (aY (bN (u6 (BL T.qG (ao (hp 2) aw)) (Gc T.zG T.cj (ai 1)))))))
def abd(T:cL K mg t):df P w K mg base 1 t.yD t.iU [am,em] 2 B5:=
 el (f:=iU) T.yL aa3
  (aR (jZ (i:=2) (dr (Xx T.aQ8 (ao (ai 1) aw))))
  (aR (jd (i:=3) (jC (mS aw)))
  (aR (jd (i:=4) (jC (mS aw)))
  (aR (jZ (i:=5) (dr (Gc T.zG T.cj (br (ai 0) aG))))
  (aR (ig (kG (ao (br (ai 0) aG) aw) T.cj) (fb (ks:=[6]))
   (aY (ee (XE (ai 6) (iw 2))
    (aR (jd (i:=7) (jC (mS (ao (bG (ai 6)) aw))))
    (aR (uZ (OJ (br (hp 7) (pq aG)) (iw 2))
     (aY (m9 7 (vh (iw 2) (br (hp 7) (pq aG))))))
    (aR (m9 3 (bG (lD T.bW (ao (hp 7) aw))))
    (aY (jZ (i:=5) (Fs (N:=[e_,"_law_way"]) (js:=[none,some 7]) (ks:=[0]) (gr (ai 5)) fx (qK (u7 (ai 0) (ai 1))) (bG (ai 0))))))))
    ez)))
  (aR (uZ (ng (iw 5) (jA aw))
   (aR (jd (i:=8) (jC (mS (ao (br (iw 5) aG) aw))))
   (aR (uZ (ng (vh (iw 2) (br (hp 8) (pq aG))) (br (hp 8) aG))
    (aY (m9 8 (vh (iw 2) (br (hp 8) (pq aG))))))
   (aR (m9 4 (bG (lD T.bW (ao (hp 8) aw))))
   (aY (jZ (i:=5) (Fs (N:=[e_,"_law_ring"]) (js:=[none,some 8]) (ks:=[0]) (gr (ai 5)) fx (qK (u7 (ai 0) (ai 1))) (bG (ai 0)))))))))
  (aY (bN (cW (ao (lD T.bW (ao (mR 3) aw)) (ao (lD T.bW (ao (mR 4) aw)) aw)))))))))))
def abe(T:cL K mg t):df P w K mg base 2 t.aCz t.mY [ac] 1 B6:=
 el (f:=mY) T.aDH aap
  (aY (bN (m4 (bI (QD T) T.wV (ao (ai 0) aw)) (mT (VF aG (ai 0) (MF T.pG T.aCG (λ _ _=>.int _)))))))
def CR(T:cL K mg t):df P w K mg base 2 t.aB5 t.kW [be,ac] 2 nz:=
 el (f:=kW) T.nj aaq
  (aY (bN (m4 (bI (QD T) T.wV (ao (ai 1) aw)) (mT (FC aG (ai 1) (ai 0))))))
def abf(T:cL K mg t):df P w K mg base 2 t.aCv t.mU [as] 1 yq:=
 el (f:=mU) T.aDE aaC
  (aR (fH (i:=1) (dr (bI (CQ T) T.qR (ao (ai 0) aw))))
  (aR (jd (i:=2) (jC (Bd (j0 (N:=[g']) (js:=[none]) (ks:=[0]) (gr (bI (aa9 T) T.aBe (ao (ai 0) aw))) fx jD (fR T.dh (ao (ai 0) aw))))))
  (aR (jd (i:=3) (UQ (Fs (N:=[cr,"waits"]) (js:=[none,some 2]) (ks:=[0]) (kG (ao (br (ai 0) aG) aw) T.cj) fx (qK (pv (br (ai 1) (ai 0)) aG)) (bG (ai 0)))))
  (aR (jd (i:=4) (jC (mS aw)))
  (aR (uZ (eP (hp 3))
   (aR (fH (i:=5) (dr (VR T.aPE (ao (hp 3) aw))))
   (aR (WJ 3 (bG (ai 5)))
   (aR (m9 4 (bG (ai 5)))
   (aY (ig (gr (br (ai 1) (ai 5))) (fb (ks:=[6]))
    (aR (WM 2 (λ _=>RS) (ai 6) aG)
    (aY (ee (pv (br (hp 2) (ai 6)) aG)
     (aY (m9 3 (bG (ai 6))))
     ez)))))))))
  (aY (bN (mR 4))))))))
def abg(T:cL K mg t):df P w K mg base 2 t.xr t.gC [be,"pairs"] 2 B8:=
 pC (k:=1) (f:=gC) T.yI aaM λ n _ _ _ _ _ _ _=>
  (aR (fH (i:=2) (dr (Gl (N:=[bi,gl]) (js:=[none,none]) (ks:=[0,1]) (gr (ai 1)) (m6 (n:=2) (hD fx (hD fx m5))) jD (bG (ai 0)) (bG (ai 1)))))
  (aR (fH (i:=3) (dr (Gl (N:=[bi,gl]) (js:=[none,none]) (ks:=[0,1]) (gr (ai 1)) (m6 (n:=2) (hD fx (hD fx m5))) jD (bG (ai 1)) dZ)))
  (aY (bN (lD T.bW (ao (j0 (N:=[cr,g_,"ends"]) (js:=[none,some 2,some 3]) (ks:=[0]) (kG (ao (ai 0) aw) T.cj) fx (qK (xY (ai 0) (ai 2))) (bI (aba T) T.aFk (ao (ai 1) (ao (ai 0) aw)))) aw))))))
def abh(T:cL K mg t):df P w K mg base 2 t.aB2 t.kJ [ad,a_] 2 yr:=
 el (f:=kJ) T.aBc aaT
  (aR (jd (i:=2) (jC (mS aw)))
  (aR (ig (kG (ao (ai 1) aw) T.cj) (fb (ks:=[3]))
   (aY (WH 2 (bI (mz T) T.cP (ao (ai 0) (ao (de aG (ai 3)) (ao (de (ai 3) aG) aw)))) (bG (ai 3)))))
  (aY (bN (mR 2)))))
def abi(T:cL K mg t):df P w K mg base 2 t.aCw t.mV [ad] 1 yt:=
 el (f:=mV) T.aDF aaV
  (aR (jZ (i:=1) (dr (jA (ao qE (ao dZ (ao aG (ao (pq aG) (ao rW (ao rW (ao (cW aw) (ao (jA aw) (ao Fb (ao (cW (ao (cW aw) aw)) (ao (cW (ao aG aw)) (ao (cW (ao (cW (ao aG (ao aG aw))) aw)) (ao (jA (ao aG (ao aG aw))) (ao (cW (ao qE aw)) (ao (cW (ao rW (ao rW aw))) (ao (Nu aG aG) aw)))))))))))))))))))
  (aY (bN (br (iw 1) (bI (mz T) T.cP (ao (ai 0) (ao aG (ao aG aw))))))))
def abj(T:cL K mg t):df P w K mg base 2 t.qN t.dR [ap,a_] 2 yu:=
 el (f:=dR) T.qP aaX
  (aR (ee (gd.st (iY (e7 (eP (ix (ai 0) T.az T.bW))) (jB (e7 (eP (sk T.aBB (ao (j0 (N:=[e_,a_]) (js:=[none,some 1]) (ks:=[0]) (gr (ai 0)) fx jD (m4 (bI (QE T) T.uU (ao (ai 0) aw)) (mT (FC aG (ai 0) (ai 1))))) aw)))))))
   (aY (bN dZ))
   ez)
  (aY (bN (bI (QF T) T.rY (ao (ai 0) aw)))))
def abk(T:cL K mg t):df P w K mg base 2 t.zp t.dM [am,ap] 2 pH:=
 el (f:=dM) T.zu aaY
  (aR (ee (gd.st (iY (e7 (eP (ix (ai 1) T.az T.bW))) (jB (pv (fR T.dh (ao (ai 1) aw)) aG))))
   (aY (bN dZ))
   ez)
  (aR (ee (gd.st (iY (e7 (eP (sk T.aBB (ao (j0 (N:=[e_,am]) (js:=[none,some 0]) (ks:=[0]) (gr (ai 1)) fx jD (m4 (bI (QE T) T.uU (ao (ai 0) aw)) (mT (FC aG (ai 0) (br (ai 1) aG))))) aw)))) (jB (xM (Ol T.dh (ao (Oj T.aLY (ao (ai 1) aw)) aw)) (fR T.dh (ao (ai 1) aw))))))
   (aY (bN dZ))
   ez)
  (aY (bN (sk T.aBB (ao (j0 (N:=[b_,ap,am]) (js:=[none,some 1,some 0]) (ks:=[0]) (kG (ao (si (fR T.dh (ao (ai 1) aw)) aG) aw) T.cj) fx jD (FB (cW (ao (br (ai 1) (ai 0)) (ao (br (ai 1) (de (ai 0) aG)) aw))) (br (ai 2) aG))) aw))))))
def abl(T:cL K mg t):df P w K mg base 2 t.oW t.dB [ad,am] 2 Cb:=
 pC (k:=1) (f:=dB) T.oX aa2 λ n _ _ _ _ _ _ _=>
  (aR (jd (i:=2) (jC (mS aw)))
  (aR (ig (WY (ao (br (ai 1) aG) aw) T.aFN) (m6 (n:=2) (hD (fb (ks:=[3,4])) (hD (fb (ks:=[3,4])) m5)))
   (aY (ee (VB (bI (mz T) T.cP (ao (ai 0) (ao (de aG (sj (ai 3) aG)) (ao aG aw)))) aG)
    (aY (ee (pv (j0 (N:=[e_,"_law_arrow"]) (js:=[none,some 4]) (ks:=[0]) (gr (ai 2)) fx (qK (gd.st (iY (pv (br (ai 0) aG) (br (ai 1) aG)) (jB (pv (br (ai 0) aG) (br (ai 1) aG)))))) (bG (ai 0))) (jA aw))
     (aY (m9 2 (bG (ai 4))))
     ez))
    ez)))
  (aY (bN (lD T.bW (ao (mR 2) aw))))))
def QG(T:cL K mg t):df P w K mg base 2 t.uP t.fO [ad,bn,bv,a_] 4 vw:=
 el (f:=fO) T.n8 aa4
  (aR (fH (i:=4) (dr (bI (mz T) T.cP (ao (ai 0) (ao (ai 1) (ao (de (fR T.dh (ao (ai 2) aw)) aG) aw))))))
  (aR (jZ (i:=5) (dr (br (jA (ao aG (ao (bG (ai 3)) (ao (pq aG) (ao dZ (ao qE (ao rW (ao (jA (ao aG aw)) (ao (si (ai 3) aG) (ao aG aw)))))))))) (bI (mz T) T.cP (ao (ai 0) (ao (de (ai 1) aG) (ao aG aw)))))))
  (aR (jZ (i:=6) (dr (jA (ao (de (de (bG (jg (ai 2) je (jf (ai 4)))) (cW (ao (iw 5) aw))) (bG (jg (ai 2) (jf (de (ai 4) aG)) je))) (ao (de (bG (jg (ai 2) je (jf (ai 4)))) (bG (jg (ai 2) (jf (de (ai 4) aG)) je))) (ao (de (de (bG (jg (ai 2) je (jf (ai 4)))) (cW (ao (iw 5) aw))) (bG (jg (ai 2) (jf (ai 4)) je))) (ao (bG (FA (ai 2))) aw)))))))
  (aR (jZ (i:=6) (dr (de (iw 6) (jA (ao (FD T.zG (ao (bG (ai 2)) aw)) (ao (de (bG (ai 2)) (bG (jg (ai 2) je (jf aG)))) (ao (de (bG (jg (ai 2) (jf aG) je)) (bG (jg (ai 2) je (jf aG)))) (ao (cW aw) (ao qE (ao (cW (ao (bG (ai 2)) aw)) aw))))))))))
  (aY (bN (br (iw 6) (bI (mz T) T.cP (ao (ai 0) (ao (de (ai 1) aG) (ao aG aw)))))))))))
def abm(T:cL K mg t):df P w K mg base 3 t.aCy t.mX [be,ac] 2 yw:=
 el (f:=mX) T.aDG aar
  (aR (ee (gd.st (iY (e7 (eP (ix (ai 1) T.az T.bW))) (jB (ng (fR T.dh (ao (ai 1) aw)) aG))))
   (aY (bN dZ))
   ez)
  (aY (bN (m4 (bI (CR T) T.nj (ao (ai 0) (ao (br (ai 1) aG) aw))) (m4 (bI (CR T) T.nj (ao (ai 0) (ao (br (ai 1) aG) aw))) (mT (VA (br (ai 1) aG) (br (ai 1) aG))))))))
def QH(T:cL K mg t):df P w K mg base 3 t.yG t.eU [be,ac] 2 sL:=
 el (f:=eU) T.rZ aau
  (aR (ee (e7 (eP (ix (ai 1) T.az T.bW)))
   (aY (bN dZ))
   ez)
  (aR (ig (gr (ai 1)) (fb (ks:=[2]))
   (aY (ee (e7 (eP (bI (CR T) T.nj (ao (ai 0) (ao (ai 2) aw)))))
    (aY (bN dZ))
    ez)))
  (aY (bN (bI (IL T) T.oY (ao (ai 1) aw))))))
def abn(T:cL K mg t):df P w K mg base 3 t.lz t.bx [dL,ac] 2 oC:=
 el (f:=bx) T.mC aaw
  (aR (ee (gd.st (iY (e7 (eP (ix (ai 1) T.az T.bW))) (jB (pv (fR T.dh (ao (ai 1) aw)) aG))))
   (aY (bN dZ))
   ez)
  (aR (ig (gr (ai 1)) (fb (ks:=[2]))
   (aY (ee (e7 (eP (bI (CR T) T.nj (ao (fR T.dh (ao (ai 0) aw)) (ao (ai 2) aw)))))
    (aY (bN dZ))
    ez)))
  (aR (ee (ng (Ol T.dh (ao (Oj T.aLY (ao (ai 1) aw)) aw)) (fR T.dh (ao (ai 1) aw)))
   (aY (bN dZ))
   ez)
  (aR (ig (Fk (ao aG (ao (fR T.dh (ao (ai 1) aw)) aw)) T.cj) (fb (ks:=[3]))
   (aY (ee (u7 (br (ai 1) (ai 3)) (br (ai 0) (br (ai 1) (si (ai 3) aG))))
    (aY (bN dZ))
    ez)))
  (aY (bN dZ))))))
def abo(T:cL K mg t):df P w K mg base 3 t.vV t.gJ [ad,f_] 2 yy:=
 el (f:=gJ) T.vY aaU
  (aR (fH (i:=2) (dr (bI (mz T) T.cP (ao (ai 0) (ao aG (ao (de (ai 1) aG) aw))))))
  (aR (fH (i:=3) (dr (bI (mz T) T.cP (ao (ai 0) (ao aG (ao aG aw))))))
  (aR (jZ (i:=4) (dr (br (jA (ao aG (ao aG (ao aG (ao aG (ao aG (ao aG aw))))))) (ai 3))))
  (aR (fH (i:=5) (dr (bI (abh T) T.aBc (ao (ai 0) (ao (ai 2) aw)))))
  (aR (jd (i:=6) (jC (mS aw)))
  (aR (fH (i:=7) (dr aG))
  (aR (ig (kG (ao (ai 2) aw) T.cj) (fb (ks:=[8]))
   (aY (ig (kG (ao (ai 8) aw) T.cj) (fb (ks:=[9]))
    (aR (fH (i:=7) (dr (de (ai 7) aG)))
    (aY (ee (gd.st (iY (xM (bI (mz T) T.cP (ao (ai 0) (ao (ai 7) (ao aG aw)))) (iw 4)) (jB (gd.st (Fh (pv (ai 3) aG) (Fg (VD (ai 8) (cW (ao (de (sg aG (ai 9)) aG) (ao (de (sg aG (ai 9)) aG) aw))))))))))
     (aY (m9 6 (cW (ao (bG (br (ai 5) (ai 9))) (ao (bG (br (ai 5) (ai 8))) aw)))))
     ez))))))
  (aY (bN (cW (ao (bG (ai 2)) (ao (lD T.bW (ao (BL T.qG (ao (hp 6) aw)) aw)) aw))))))))))))
def abp(T:cL K mg t):df P w K mg base 3 t.yE t.iV [am,ap] 2 Cf:=
 el (f:=iV) T.yM aa0
  (aR (ee (gd.st (iY (e7 (eP (ix (ai 1) T.az T.bW))) (jB (e7 (eP (sk T.aBB (ao (j0 (N:=["_law_way",am]) (js:=[none,some 0]) (ks:=[0]) (gr (ai 1)) fx jD (bI (abk T) T.zu (ao (ai 1) (ao (ai 0) aw)))) aw)))))))
   (aY (bN dZ))
   ez)
  (aY (bN (m4 (bI (QF T) T.rY (ao (ai 1) aw)) (mT (bI (abc T) T.uV (ao (ai 1) (ao (br (ai 0) aG) aw))))))))
def abq(T:cL K mg t):df P w K mg base 3 t.sS t.du [am,ap] 2 Cg:=
 el (f:=du) T.sZ aa1
  (aR (ee (gd.st (iY (e7 (eP (ix (ai 1) T.az T.bW))) (iY (ng (fR T.dh (ao (ai 1) aw)) aG) (jB (e7 (eP (sk T.aBB (ao (j0 (N:=["_law_part",am]) (js:=[none,some 0]) (ks:=[0]) (gr (ai 1)) fx jD (bI (abj T) T.qP (ao (ai 0) (ao (br (ai 1) aG) aw)))) aw))))))))
   (aY (bN dZ))
   ez)
  (aY (bN (u6 (j0 (N:=["_law_arrow",ap]) (js:=[none,some 1]) (ks:=[0]) (gr (br (ai 0) aG)) fx (qK (gd.st (Fh (u7 (br (ai 0) aG) (br (ai 1) aG)) (Fg (u7 (br (ai 0) aG) (br (ai 1) aG)))))) (bG (ai 0))) (jA aw)))))
def abr(T:cL K mg t):df P w K mg base 3 t.nU t.cQ [ad,bn,c_,a_] 4 yz:=
 el (f:=cQ) T.ni aa5
  (aR (fH (i:=4) (dr (bI (mz T) T.cP (ao (ai 0) (ao (ai 1) (ao (de (fR T.dh (ao (ai 2) aw)) aG) aw))))))
  (aR (fH (i:=5) (dr (br (de (ai 2) (cW (ao (cW aw) aw))) (ai 4))))
  (aR (ee (eP (ix (ai 5) T.az T.bW))
   (aY (jZ (i:=6) (dr (bI (QG T) T.n8 (ao (ai 0) (ao (de (ai 1) aG) (ao (ai 5) (ao (ai 3) aw))))))))
   (aY (jZ (i:=6) (dr (br (jA (ao aG (ao (bG (ai 3)) (ao dZ (ao qE (ao (de (bG (ai 5)) aG) (ao (cW (ao (bG (ai 5)) aw)) aw))))))) (bI (mz T) T.cP (ao (ai 0) (ao (de (ai 1) aG) (ao aG aw)))))))))
  (aR (jd (i:=7) (jC (mS (ao (de (de (bG (jg (ai 2) je (jf (ai 4)))) (cW (ao (iw 6) aw))) (bG (jg (ai 2) (jf (de (ai 4) aG)) je))) (ao (de (bG (jg (ai 2) je (jf (ai 4)))) (bG (jg (ai 2) (jf (de (ai 4) aG)) je))) (ao (de (bG (ai 2)) (bG (jg (ai 2) je (jf aG)))) aw))))))
  (aR (jd (i:=7) (jC (VK (mR 7) (jA (ao (bG (FA (ai 2))) (ao (FD T.zG (ao (bG (ai 2)) aw)) (ao (cW (ao (bG (ai 2)) aw)) (ao qE (ao (de (bG (ai 2)) (cW (ao (cW aw) aw))) aw)))))))))
  (aR (m9 7 (de (de (bG (jg (ai 2) je (jf (ai 4)))) (cW (ao (iw 6) aw))) (bG (jg (ai 2) (jf (ai 4)) je))))
  (aY (bN (br (mR 7) (bI (mz T) T.cP (ao (ai 0) (ao (de (ai 1) aG) (ao aG aw)))))))))))))
def abt(T:cL K mg t):df P w K mg base 4 t.nY t.bV [be,ac] 2 vx:=
 el (f:=bV) T.nq aat
  (aR (ee (e7 (eP (ix (ai 1) T.az T.bW)))
   (aY (bN dZ))
   ez)
  (aR (ig (gr (ai 1)) (fb (ks:=[2]))
   (aY (ee (e7 (eP (bI (abm T) T.aDG (ao (ai 0) (ao (ai 2) aw)))))
    (aY (bN dZ))
    ez)))
  (aY (bN (bI (IL T) T.oY (ao (ai 1) aw))))))
def abu(T:cL K mg t):df P w K mg base 4 t.aFg t.nu [dL,ac,"goes"] 3 yB:=
 el (f:=nu) T.aFl aax
  (aR (ee (e7 (eP (ix (ai 1) T.az T.bW)))
   (aY (bN dZ))
   ez)
  (aR (ig (gr (ai 1)) (fb (ks:=[3]))
   (aY (ee (e7 (eP (Xc (i:=2) (W9 (abn T) (zR rfl) T.vQ T.mC.F.kp T.mC.b W8) (ao (ai 0) (ao (ai 3) aw)) (Fl (Fl (λ _ _ h=>MT h))))))
    (aY (bN dZ))
    ez)))
  (aY (bN (bI (IL T) T.oY (ao (ai 1) aw))))))
def QI(T:cL K mg t):df P w K mg base 4 t.aCx t.mW [am,ap] 2 yH:=
 el (f:=mW) T.zT aa6
  (aR (ee (gd.st (iY (e7 (eP (ix (ai 1) T.az T.bW))) (iY (ng (fR T.dh (ao (ai 1) aw)) aG) (jB (e7 (eP (bI (abp T) T.yM (ao (ai 0) (ao (br (ai 1) aG) aw)))))))))
   (aY (bN dZ))
   ez)
  (aR (ee (e7 (eP (bI (abq T) T.sZ (ao (ai 0) (ao (br (ai 1) aG) aw)))))
   (aY (bN dZ))
   ez)
  (aY (bN (u6 (de (fR T.dh (ao (br (br (ai 1) aG) aG) aw)) (fR T.dh (ao (br (br (ai 1) aG) aG) aw))) (si (br (ai 0) aG) (fR T.dh (ao (br (ai 1) aG) aw))))))))
def abv(T:cL K mg t):df P w K mg base 5 t.yF t.iW [ac] 1 Cj:=
 el (f:=iW) T.yN aay
  (aR (ee (gd.st (iY (e7 (eP (ix (ai 0) T.az T.bW))) (jB (ng (fR T.dh (ao (ai 0) aw)) aG))))
   (aY (bN dZ))
   ez)
  (aY (bN (m4 (bI (abe T) T.aDH (ao (br (ai 0) aG) aw)) (mT (bI (abt T) T.nq (ao (br (ai 0) aG) (ao (br (ai 0) aG) aw))))))))
def zh(T:cL K mg t):df P w K mg base 6 t.sV t.eE [ac] 1 mu:=
 el (f:=eE) T.dm aaz
  (aY (ee (e7 (eP (bI (abv T) T.yN (ao (ai 0) aw))))
   (aY (MR rfl T.aGf T.aGn T.m7 (ao rW aw)))
   ez))
def abw(T:cL K mg t):df P w K mg base 7 t.vU t.gH [as] 1 Ck:=
 el (f:=gH) T.vX aaD
  (aR (rX (bI (zh T) T.dm (ao (ai 0) aw)))
  (aR (fH (i:=1) (dr (bI (abf T) T.aDE (ao (ai 0) aw))))
  (aY (bN (UN (pv (fR T.dh (ao (ai 1) aw)) (br (ai 0) aG)) (bG (lD T.bW (ao (ai 1) aw))) qE)))))
def abx(T:cL K mg t):df P w K mg base 7 t.aB6 t.kY [as,ac] 2 Cm:=
 pC (k:=6) (f:=kY) T.aBd aaF λ n _ _ _ _ _ _ _=>
  (aR (rX (bI (zh T) T.dm (ao (ai 0) aw)))
  (aR (ee (gd.st (iY (e7 (eP (ix (ai 1) T.az T.bW))) (jB (ng (fR T.dh (ao (ai 1) aw)) aG))))
   (aY (bN dZ))
   ez)
  (aR (Fj (ai 1) (m6 (n:=2) (hD (fb (ks:=[2,3])) (hD (fb (ks:=[2,3])) m5))))
  (aR (ee (gd.st (iY (e7 (eP (bI (QH T) T.rZ (ao (br (ai 0) aG) (ao (ai 2) aw))))) (jB (e7 (eP (bI (QH T) T.rZ (ao (br (ai 0) aG) (ao (ai 3) aw))))))))
   (aY (bN dZ))
   ez)
  (aY (bN (sk T.aBB (ao (j0 (N:=[bi,gl,g',"ends"]) (js:=[none,none,some 2,some 3]) (ks:=[0,1]) (gr (br (ai 0) aG)) (m6 (n:=2) (hD fx (hD fx m5))) jD (UM (FB (ai 0) (ai 2)) (mT (FB (ai 1) (ai 3))))) aw))))))))
def aby(T:cL K mg t):df P w K mg base 7 t.qO t.dU [as,ac] 2 Cn:=
 el (f:=dU) T.qQ aaK
  (aR (rX (bI (zh T) T.dm (ao (ai 0) aw)))
  (aY (bN (m4 (bI (abu T) T.aFl (ao (bI (CQ T) T.qR (ao (ai 0) aw)) (ao (ai 1) (ao (MF (v:=.ref t.lz) T.mC.m rfl (λ _ _=>.fn T.vQ)) aw)))) (mT (bI (aa8 T) T.zx (ao (br (ai 0) aG) (ao (ai 1) aw))))))))
def QJ(T:cL K mg t):df P w K mg base 8 t.sU t.dw [as] 1 vy:=
 el (f:=dw) T.lV aaE
  (aY (ee (VE (bI (abw T) T.vX (ao (ai 0) aw)) qE)
   (aY (MR rfl T.aIu T.aJB T.pJ (ao rW aw)))
   ez))
def abz(T:cL K mg t):df P w K mg base 9 t.uR t.fQ [as,ac] 2 Co:=
 pC (k:=8) (f:=fQ) T.uW aaO λ n _ _ _ _ _ _ _=>
  (aR (rX (bI (QJ T) T.lV (ao (ai 0) aw)))
  (aR (ee (gd.st (iY (e7 (eP (ix (ai 1) T.az T.bW))) (jB (ng (fR T.dh (ao (ai 1) aw)) aG))))
   (aY (bN dZ))
   ez)
  (aR (Fj (ai 1) (m6 (n:=2) (hD (fb (ks:=[2,3])) (hD (fb (ks:=[2,3])) m5))))
  (aR (ee (gd.st (iY (e7 (eP (bI (aby T) T.qQ (ao (ai 0) (ao (ai 2) aw))))) (jB (e7 (eP (bI (abx T) T.aBd (ao (ai 0) (ao (ai 3) aw))))))))
   (aY (bN dZ))
   ez)
  (aR (Fj (ai 3) (m6 (n:=2) (hD (fb (ks:=[4,5])) (hD (fb (ks:=[4,5])) m5))))
  (aY (bN (u6 (de (fR T.dh (ao (ai 4) aw)) (fR T.dh (ao (ai 5) aw))) (si (br (ai 0) aG) (fR T.dh (ao (ai 2) aw)))))))))))
def abA(T:cL K mg t){R:gB}{k:Nat}(h:gb P w K mg base (eZ P w) k t.nW t.dF [db,ci,bi,dl] (oj K R))(n:List.Nodup ([db,ci,bi,dl,gl]:List Str))(cdv A outer s H Hb E hr):og (Pa P w K mg base [db,ci,bi,dl,gl] "find_end" (bU zg) t.nW cdv A outer s H Hb E k hr) (lr zg) (dF R):=
  (Gv (XT (gr (br (ai 0) (ai 2))) (fb (ks:=[4])) (BU (XS (xY (ai 4) (hp 3)) (Gv (O9 3 (ai 4) dZ) (BU (XY h T.wW (xY (ai 4) (hp 1)) (vh (hp 1) (ai 4)) (Gv (O9 1 (ai 4) (bG (ai 2))) (BU (O8 dZ (λ _ _ e=>by cases e;rfl)))) (hr:=bJ _)))) XR))) (BU (O8 dZ (λ _ _ e=>by cases e;rfl))))
theorem QK(T:cL K mg t):∀n,gb P w K mg base (eZ P w) (1+n) t.nW t.dF [db,ci,bi,dl] (oj K (mv n))
 |0=>X8
 |n+1=>XW (k:=1+n) (f:=dF (mv n)) T.wW aaG λ d c A o s H b E hr=>abA T (QK T n) d c A o s H b E hr
def abB(T:cL K mg t):gb P w K mg base (eZ P w) 65 t.nW t.dF [db,ci,bi,dl] (oj K vA):=QK T 64
def QL(T:cL K mg t):df P w K mg base 66 t.aFe t.qT [as] 1 nA:=
 el (f:=qT) T.aBb aaH
  (aR (fH (i:=1) (dr (bI (CQ T) T.qR (ao (ai 0) aw))))
  (aR (jd (i:=2) (jC (Bd Fb)))
  (aR (ig (kG (ao (br (ai 0) aG) aw) T.cj) (fb (ks:=[3]))
   (aY (X7 1 2 (abB T) T.wW (ai 3))))
  (aY (bN (mR 2))))))
def abC(T:cL K mg t):df P w K mg base 67 t.xu t.iQ [as] 1 Cp:=
 pC (k:=66) (f:=iQ) T.yJ aaI λ n _ _ _ _ _ _ _=>
  (aR (rX (bI (zh T) T.dm (ao (ai 0) aw)))
  (aY (bN (lD T.bW (ao (BL T.qG (ao (j0 (N:=[gl,bi]) (js:=[none,none]) (ks:=[0,1]) (XN (O5 (bI (QL T) T.aBb (ao (ai 0) aw)))) (m6 (n:=2) (hD fx (hD fx m5))) jD (cW (ao (bG (ai 1)) (ao (bG (ai 0)) aw)))) aw)) aw)))))
def abD(T:cL K mg t):df P w K mg base 67 t.xx t.iR [as] 1 Cq:=
 el (f:=iR) T.yK aaJ
  (aR (rX (bI (zh T) T.dm (ao (ai 0) aw)))
  (aR (fH (i:=1) (dr (bI (CQ T) T.qR (ao (ai 0) aw))))
  (aR (fH (i:=2) (dr (O5 (bI (QL T) T.aBb (ao (ai 0) aw)))))
  (aR (fH (i:=3) (dr (Gl (N:=[bi]) (js:=[none]) (ks:=[0]) (X6 (ai 2)) fx jD (bG (ai 0)) dZ)))
  (aR (jd (i:=4) (jC (Bd (j0 (N:=[cr,"kept"]) (js:=[none,some 3]) (ks:=[0]) (kG (ao (br (ai 0) aG) aw) T.cj) fx (qK (xY (ai 0) (ai 1))) (bG (ai 0))))))
  (aR (jd (i:=5) (jC (Bd Fb)))
  (aR (fH (i:=6) (dr aG))
  (aR (uZ (xM (ai 6) (fR T.dh (ao (hp 4) aw)))
   (aR (fH (i:=7) (dr (bG (br (hp 4) (ai 6)))))
   (aR (ig (gr (br (ai 1) (ai 7))) (fb (ks:=[8]))
    (aY (ee (xY (ai 8) (hp 5))
     (aR (Xm 5 (ai 8) dZ)
     (aY (m9 4 (XQ (ai 2) (ai 8)))))
     ez)))
   (aY (Vy (i:=6) aG (λ _=>RQ))))))
  (aY (bN (cW (ao (lD T.bW (ao (j0 (N:=[cr,g']) (js:=[none,some 4]) (ks:=[0]) (kG (ao (br (ai 0) aG) aw) T.cj) fx (qK (u7 (ai 0) (ai 1))) (bG (ai 0))) aw)) (ao (lD T.bW (ao (XJ T.qG (ao (hp 5) aw)) aw)) aw)))))))))))))
def abE(T:cL K mg t):df P w K mg base 68 t.aB1 t.jM [as] 1 Cr:=
 el (f:=jM) T.aBa aaN
  (aR (rX (bI (QJ T) T.lV (ao (ai 0) aw)))
  (aY (bN (bI (abg T) T.yI (ao (br (ai 0) aG) (ao (bI (abC T) T.yJ (ao (ai 0) aw)) aw))))))
def QM(T:cL K mg t):df P w K mg base 69 t.zj t.jP [as] 1 vB:=
 el (f:=jP) T.uT aaP
  (aY (bN (cW (ao (bI (abE T) T.aBa (ao (ai 0) aw)) (ao (bI (abD T) T.yK (ao (ai 0) aw)) aw)))))
def abF(T:cL K mg t):df P w K mg base 70 t.aPJ t.zy [a'] 1 He:=
 pC (k:=69) (f:=zy) T.aMH aa7 λ n _ _ _ _ _ _ _=>
  (aR (ig (kG (ao (VH T.aSI (ao aG (ao (VG T.aPE (ao (fR T.dh (ao (ai 0) aw)) (ao aG aw))) aw))) aw) T.cj) (fb (ks:=[1]))
   (aR (fH (i:=2) (dr (bI (abb T) T.vZ (ao (ai 0) (ao (ai 1) aw)))))
   (aR (fH (i:=3) (dr (bI (abo T) T.vY (ao (ai 2) (ao aG aw)))))
   (aR (fH (i:=4) (dr (bI (QM T) T.uT (ao (ai 3) aw))))
   (aR (ee (e7 (eP (bI (QI T) T.zT (ao (ai 3) (ao (ai 4) aw)))))
    (aY (bN dZ))
    ez)
   (aR (fH (i:=5) (dr (br (bI (abd T) T.yL (ao (ai 3) (ao (bI (abl T) T.oX (ao (ai 2) (ao (ai 3) aw))) aw))) aG)))
   (aR (fH (i:=6) (dr (lD T.bW (ao (W7 T.qG T.aLY (ao (j0 (N:=[e_,"_law_other"]) (js:=[none,none]) (ks:=[0,1]) (gr (br (ai 3) aG)) (m6 (n:=2) (hD fx (hD fx m5))) jD (bG (ai 0))) aw)) aw))))
   (aR (jZ (i:=7) (dr (jA (ao (bG (ai 4)) (ao (cW (ao (bG (ai 5)) (ao (bG (br (ai 4) aG)) aw))) (ao (cW (ao (bG (br (ai 4) aG)) (ao (cW (ao (bG (ai 6)) (ao (cW aw) aw))) aw))) (ao (cW (ao (bG (ai 5)) (ao (cW (ao (bG (ai 6)) (ao (cW aw) aw))) aw))) (ao (bI (abi T) T.aDF (ao (ai 2) aw)) aw))))))))
   (aR (jZ (i:=8) (dr (cW (ao (bI (QG T) T.n8 (ao (ai 2) (ao aG (ao (br (br (ai 4) aG) aG) (ao (br (ai 3) aG) aw))))) (ao (bG (br (br (ai 4) aG) aG)) aw)))))
   (aR (jZ (i:=7) (dr (de (iw 7) (jA (ao (cW (ao (bI (abr T) T.ni (ao (ai 2) (ao aG (ao (br (ai 4) aG) (ao (br (ai 3) aG) aw))))) (ao (bG (br (ai 4) aG)) aw))) (ao (cW (ao (bG (br (ai 4) aG)) (ao (iw 8) aw))) aw))))))
   (aR (jZ (i:=7) (dr (de (iw 7) (jA (ao (bG (FA (ai 4))) (ao (FD T.zG (ao (bG (ai 4)) aw)) (ao (bG (jg (ai 4) je (jf aG))) (ao (de (bG (ai 4)) (cW (ao (cW aw) aw))) aw))))))))
   (aY (ig (gr (iw 7)) (fb (ks:=[9]))
    (aR (fH (i:=10) (dr (bI (abz T) T.uW (ao (ai 3) (ao (ai 9) aw)))))
    (aY (ee (gd.st (iY (e7 (eP (ix (ai 10) T.az T.aGc))) (jB (ng (ai 10) (bI (QI T) T.zT (ao (ai 3) (ao (ai 9) aw)))))))
     (aY (bN dZ))
     ez))))))))))))))))
  (aY (bN (u6 (bI (QM T) T.uT (ao (cW (ao aG (ao (cW aw) aw))) aw)) (cW (ao (cW aw) (ao (cW (ao (cW aw) (ao (cW aw) aw))) aw)))))))
end
def aPS{K:aB}{h:Heap}{mg:Str->Option Value}{k:Tok}{q:Addr}{N:Addr}{o:Addr}(X:K.In h)(G:h.Ns dv mg)
  (h0:∃f d,cT K "is_whole" HL f d)
  (h1:∃f d,cT K "is_many" HM f d)
  (h2:∃f d,cT K "is_place" HN f d)
  (h3:∃f d,cT K "is_pair" HP f d)
  (h4:∃f d,cT K "is_rising" HQ f d)
  (h5:∃f d,cT K "are_rising_pairs" HR f d)
  (h6:∃f d,cT K "are_places" HS f d)
  (h7:∃f d,cT K "each_once" HU f d)
  (h8:∃f d,cT K "goes_along" HV f d)
  (h9:∃f d,cT K "all_go" HW f d)
  (v:∃f d,cT K "is_one_way" HX f d)
  (w:∃f d,cT K "check_one_way" HY f d)
  (x:∃f d,cT K "all_led" HZ f d)
  (A:∃f d,cT K "all_come" Ia f d)
  (B:∃f d,cT K "ordered" Ib f d)
  (C:∃f d,cT K "least_order" Ic f d)
  (D:∃f d,cT K "check_ordered" Ie f d)
  (E:∃f d,cT K "is_marks" Ig f d)
  (F:∃f d,cT K "find_end" zg f d)
  (H:∃f d,cT K "paired" Ih f d)
  (I:∃f d,cT K "some_pairs" Ii f d)
  (J:∃f d,cT K "some_marks" Ij f d)
  (L:∃f d,cT K "is_led_parting" Ik f d)
  (M:∃f d,cT K "follow" Il f d)
  (P:∃f d,cT K "ways_along" Im f d)
  (Q:∃f d,cT K "some_led" Io f d)
  (R:∃f d,cT K "is_way_paper" Ip f d)
  (S:∃f d,cT K "way_paper" Iq f d)
  (T:∃f d,cT K "_law_cell_at" Ir f d)
  (U:∃f d,cT K "_law_draw" It f d)
  (V:∃f d,cT K "_law_whole" Iu f d)
  (W:∃f d,cT K "_law_turn" Iv f d)
  (Y:∃f d,cT K "_law_ordered" Iw f d)
  (Z:∃f d,cT K "_law_odd" Iy f d)
  (h34:∃f d,cT K "_law_rising" Iz f d)
  (h35:∃f d,cT K "_law_are_places" IA f d)
  (h36:∃f d,cT K "_law_along" IB f d)
  (h37:∃f d,cT K "_law_all_once" IC f d)
  (h38:∃f d,cT K "_law_parted" ID f d)
  (h39:∃f d,cT K "_law_are_marks" IE f d)
  (h40:∃f d,cT K "_law_drawn_pairs" IF f d)
  (h41:∃f d,cT K "_law_pieces" IG f d)
  (h42:∃f d,cT K "_law_bent_row" IH f d)
  (h43:∃f d,cT K "_law_bent_parting" II f d)
  (h44:∃f d,cT K "_law_due" IJ f d)
  (h45:∃f d,cT K "law" IK f d)
  (pG:fL K dv "MOST_PLACES"=some (some (.int 60 k)))
  (y:fL K dv "FewError"=some (some (.ref q)))
  (qi:wj K q)
  (O:fL K dv "NoOneWay"=some (some (.ref N)))
  (m7:wj K N)
  (r:fL K dv "NoOrder"=some (some (.ref o)))
  (pJ:wj K o)
  (c:fL K dv "all"=some none)
  (b:fL K dv "bool"=some none)
  (i:fL K dv "dict"=some none)
  (e:fL K dv "enumerate"=some none)
  (n:fL K dv "int"=some none)
  (z:fL K dv "isinstance"=some none)
  (g:fL K dv "len"=some none)
  (l:fL K dv "list"=some none)
  (m:fL K dv "max"=some none)
  (j:fL K dv "min"=some none)
  (a:fL K dv "range"=some none)
  (p:fL K dv "set"=some none)
  (s:fL K dv "sorted"=some none)
  (u:fL K dv "tuple"=some none):
  ∃t,cL K mg t:=by
 obtain⟨f0,d0,F0,a0⟩:=cY X G h0 [ac];obtain⟨f1,d1,F1,a1⟩:=cY X G h1 [ac];obtain⟨f2,d2,F2,a2⟩:=cY X G h2 [be,ac];obtain⟨f3,d3,F3,a3⟩:=cY X G h3 [be,ac];obtain⟨f4,d4,F4,a4⟩:=cY X G h4 ["things"];obtain⟨f5,d5,F5,a5⟩:=cY X G h5 [be,ac];obtain⟨f6,d6,F6,a6⟩:=cY X G h6 [be,ac];obtain⟨f7,d7,F7,a7⟩:=cY X G h7 [be,"rows"];obtain⟨f8,d8,F8,a8⟩:=cY X G h8 [dL,ac];obtain⟨f9,d9,F9,a9⟩:=cY X G h9 [dL,ac,"goes"];obtain⟨f10,d10,F10,a10⟩:=cY X G v [ac];obtain⟨f11,d11,F11,a11⟩:=cY X G w [ac];obtain⟨f12,d12,F12,a12⟩:=cY X G x [as];obtain⟨f13,d13,F13,a13⟩:=cY X G A [as];obtain⟨f14,d14,F14,a14⟩:=cY X G B [as];obtain⟨f15,d15,F15,a15⟩:=cY X G C [as];obtain⟨f16,d16,F16,a16⟩:=cY X G D [as];obtain⟨f17,d17,F17,a17⟩:=cY X G E [as,ac];obtain⟨f18,d18,F18,a18⟩:=cY X G F [db,ci,bi,dl];obtain⟨f19,d19,F19,a19⟩:=cY X G H [as];obtain⟨f20,d20,F20,a20⟩:=cY X G I [as];obtain⟨f21,d21,F21,a21⟩:=cY X G J [as];obtain⟨f22,d22,F22,a22⟩:=cY X G L [as,ac];obtain⟨f23,d23,F23,a23⟩:=cY X G M [g_,"start"];obtain⟨f24,d24,F24,a24⟩:=cY X G P [be,"pairs"];obtain⟨f25,d25,F25,a25⟩:=cY X G Q [as];obtain⟨f26,d26,F26,a26⟩:=cY X G R [as,ac];obtain⟨f27,d27,F27,a27⟩:=cY X G S [as];obtain⟨f28,d28,F28,a28⟩:=cY X G T [a',b_];obtain⟨f29,d29,F29,a29⟩:=cY X G U [ad,b_,d_];obtain⟨f30,d30,F30,a30⟩:=cY X G V [ce];obtain⟨f31,d31,F31,a31⟩:=cY X G W [ad,a_];obtain⟨f32,d32,F32,a32⟩:=cY X G Y [ad,f_];obtain⟨f33,d33,F33,a33⟩:=cY X G Z [ad];obtain⟨f34,d34,F34,a34⟩:=cY X G h34 [bv];obtain⟨f35,d35,F35,a35⟩:=cY X G h35 [ap,a_];obtain⟨f36,d36,F36,a36⟩:=cY X G h36 [am,ap];obtain⟨f37,d37,F37,a37⟩:=cY X G h37 [f',a_];obtain⟨f38,d38,F38,a38⟩:=cY X G h38 [am,ap];obtain⟨f39,d39,F39,a39⟩:=cY X G h39 [am,ap];obtain⟨f40,d40,F40,a40⟩:=cY X G h40 [ad,am];obtain⟨f41,d41,F41,a41⟩:=cY X G h41 [am,em];obtain⟨f42,d42,F42,a42⟩:=cY X G h42 [ad,bn,bv,a_];obtain⟨f43,d43,F43,a43⟩:=cY X G h43 [ad,bn,c_,a_];obtain⟨f44,d44,F44,a44⟩:=cY X G h44 [am,ap];obtain⟨f45,d45,F45,a45⟩:=cY X G h45 [a']
 exact⟨⟨f0,_,f1,_,f2,_,f3,_,f4,_,f5,_,f6,_,f7,_,f8,_,f9,_,f10,_,f11,_,f12,_,f13,_,f14,_,f15,_,f16,_,f17,_,f18,_,f19,_,f20,_,f21,_,f22,_,f23,_,f24,_,f25,_,f26,_,f27,_,f28,_,f29,_,f30,_,f31,_,f32,_,f33,_,f34,_,f35,_,f36,_,f37,_,f38,_,f39,_,f40,_,f41,_,f42,_,f43,_,f44,_,f45,_,_,q,N,o⟩,⟨F0,F1,F2,F3,F4,F5,F6,F7,F8,a8,F9,F10,F11,F12,F13,F14,F15,F16,F17,F18,F19,F20,F21,F22,F23,F24,F25,F26,F27,F28,F29,F30,F31,F32,F33,F34,F35,F36,F37,F38,F39,F40,F41,F42,F43,F44,F45,qw X G pG,⟨_,rfl⟩,qw X G y,(by unfold eN;rw[qw X G y]),qi,qw X G O,(by unfold eN;rw[qw X G O]),m7,qw X G r,(by unfold eN;rw[qw X G r]),pJ,kq X G c,kq X G b,kq X G i,kq X G e,kq X G n,kq X G z,kq X G g,kq X G l,kq X G m,kq X G j,kq X G a,kq X G p,kq X G s,kq X G u⟩⟩
def aRP{l:Et}{w:World}{K:aB}{h:Heap}{mg:Str->Option Value}{a:Addr}(X:K.In h)(G:h.Ns dv mg)(f:mg "law"=some (.ref a))(b:∃t,cL K mg t):
  ∃d:bO,(∀(s:ax) (v:Value),qm s d ⟨[v],[]⟩ [(a',v)])/\∀base:Heap,K.In base->base.Ns dv mg->gb l.prog w K mg base (eZ l.prog w) 70 a d [a'] (By K):=by
 obtain⟨t,T⟩:=b;have e:=f.symm.trans T.aMH.m;cases e;refine⟨t.zy,λ s v=>?_,λ base _ _=>(abF T).imp (VM aan)⟩;obtain⟨j,k,eu,o,p,n,c,m,g,e,q,i⟩:=T.aMH.F.ex;rw[e];exact .of_eq rfl
def walk{l:Et}{q:bD}{o:List Str}{X:(Str->Option Value)->Heap->Prop}{Y:World->Heap->Prop}{d:DefRec}{K:Params->aB}(g:l.most=some 63)(b:d.params.defaults=[])
  (i:∀(w:World) (h:Heap),Y w h->(K w.params).In h)
  (F:∀(w:World) (mg:Str->Option Value) (c:Addr) (h:Heap),(K w.params).In h->h.Ns dv mg->mg d.name=some (.ref c)->
   ∃e:bO,(∀(s:ax) (u:Value),qm s e ⟨[u],[]⟩ [(a',u)])/\∀base:Heap,(K w.params).In base->base.Ns dv mg->gb l.prog w (K w.params) mg base (eZ l.prog w) 70 c e [a'] (By (K w.params))):
  K8 q o X Y l.row.toRowW d [] (λ f vs=>DT f vs):=
 L2.aMd (n:=63) (k:=70) (x:=a') (CX:=λ w=>eZ l.prog w) (sp:=λ w=>By (K w.params)) g (by decide) b ⟨rfl,by decide,by decide⟩ i F (λ _ _ a ns j O S=>⟨a,ns,rfl,VN O S,j,λ _=>rfl⟩) λ _ _ _ _ _ ⟨_,_,_,_,_,_,_,_,_,_,_,_,_,z⟩=>z
end VL.My
open PySem PySem.W PyProof.Rows
set_option maxRecDepth 100000 in
set_option maxHeartbeats 0 in
theorem PySem.Challenge.cw_fewways_k58_way_papers_looked_at_holds : PySem.Challenge.rw_fewways_k58_way_papers_looked_at.Holds := by
 w_on; o_law; k_head; (case hw=>w_witness2)
 k_fill
 refine VL.My.walk (l:=PySem.Challenge.rw_fewways_k58_way_papers_looked_at) rfl rfl (fun w h Y=>PySem.W.kIn_of Y) ?F
 case F =>
  intro w mg f h K G m
  refine VL.My.aRP K G m ?T
  case T =>
   refine' VL.My.aPS K G (VL.enr _ _ _ _) (VL.enr _ _ _ _) (VL.enr _ _ _ _) (VL.enr _ _ _ _) (VL.enr _ _ _ _) (VL.enr _ _ _ _) (VL.enr _ _ _ _) (VL.enr _ _ _ _) (VL.enr _ _ _ _) (VL.enr _ _ _ _) (VL.enr _ _ _ _) (VL.enr _ _ _ _) (VL.enr _ _ _ _) (VL.enr _ _ _ _) (VL.enr _ _ _ _) (VL.enr _ _ _ _) (VL.enr _ _ _ _) (VL.enr _ _ _ _) (VL.enr _ _ _ _) (VL.enr _ _ _ _) (VL.enr _ _ _ _) (VL.enr _ _ _ _) (VL.enr _ _ _ _) (VL.enr _ _ _ _) (VL.enr _ _ _ _) (VL.enr _ _ _ _) (VL.enr _ _ _ _) (VL.enr _ _ _ _) (VL.enr _ _ _ _) (VL.enr _ _ _ _) (VL.enr _ _ _ _) (VL.enr _ _ _ _) (VL.enr _ _ _ _) (VL.enr _ _ _ _) (VL.enr _ _ _ _) (VL.enr _ _ _ _) (VL.enr _ _ _ _) (VL.enr _ _ _ _) (VL.enr _ _ _ _) (VL.enr _ _ _ _) (VL.enr _ _ _ _) (VL.enr _ _ _ _) (VL.enr _ _ _ _) (VL.enr _ _ _ _) (VL.enr _ _ _ _) (VL.enr _ _ _ _) _ ?y_FewError ?qi ?y_NoOneWay ?m7 ?y_NoOrder ?pJ _ _ _ _ _ _ _ _ _ _ _ _ _ _
   (case y_FewError=>k_is); (case qi=>unfold L2.wj; k_exc)
   (case y_NoOneWay=>k_is); (case m7=>unfold L2.wj; k_exc)
   (case y_NoOrder=>k_is); (case pJ=>unfold L2.wj; k_exc)
   any_goals k_is
