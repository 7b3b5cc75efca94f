import PyProof.Rows.All
import KE.KDictOf
import PyProof.DictWalks
import Wide.All
import OpenK.AllK
import Wide.FinOn
import Lean
import PyProof.EqAt
import PyProof.EqKinds
import PyProof.TupleCall
import KE.LcSums
import PySem.Challenge.RW_fewways_k46_partings_and_bars_of_plans
open Array renaming length_toList->dY,getElem?_eq_getElem->gj,getElem?_toList->hV,toList_append->kO,toList_push->su,getElem?_eq_some_iff->Dd,toList_setIfInBounds->Df,getD->xj,size_append->Dg,getElem?_eq_none->Jd,toArray_toList->Je,size_extract->Jf,ext'->Dh,toList_map->Jg,toList_zip->Jh,replicate->Ji
open Bool renaming false_ne_true->cL,and_eq_true->cF,false_eq_true->jq,eq_iff_iff->uP,not_eq_true'->xk,and_true->uQ,and_false->xm,true_and->Di,and_eq_true_iff->Jj,and_assoc->Jk,false_and->Jl,not_false->Jm,not_true->Jn
open Classical renaming byContradiction->Jo,propDecidable->Jp
open False renaming elim->aX
open ForInStep renaming yield->qr,done->Dj
open Function renaming comp->Jq
open Int renaming toNat_natCast->oR,toNat_of_nonneg->zT,emod_lt_of_pos->zU,emod_nonneg->zV,le_trans->xo,le_refl->xp
open LawfulBEq renaming eq_of_beq->qt
open List renaming length_map->bb,mem_cons_self->bW,length_append->cy,mem_cons_of_mem->cT,getElem?_eq_getElem->en,mem_cons->bI,getElem?_eq_some_iff->eW,mem_append->cu,size_toArray->cW,mem_append_left->fQ,mem_append_right->gz,mem_map->cX,replicate->dO,take_append_drop->gO,length_cons->eX,length_take->eY,append_assoc->fL,getElem?_map->fM,map_cons->dH,append_nil->fo,take_of_length_le->iI,pairwise_cons->gQ,range->dP,map_append->hW,flatten_cons->iV,length_drop->iJ,not_mem_nil->iK,map_map->fW,mem_of_mem_take->kP,getElem?_append_left->nI,pairwise_iff_getElem->nK,lookup_cons->jr,mem_singleton->kj,pairwise_append->lN,getElem?_append_right->oS,all_eq_true->kk,mem_of_getElem?->nL,getElem?_take_of_lt->qu,getElem_mem->lO,mem_range->kl,mem_reverse->lQ,getElem?_cons_succ->qv,nodup_append->mG,getD_eq_getElem?_getD->sv,mem_of_mem_drop->oU,drop_eq_getElem_cons->sx,filterMap_cons->oX,getElem?_cons_zero->sy,length_nil->mH,mem_filter->mI,getElem?_set_ne->qw,getElem_of_mem->qx,length_reverse->qy,length_set->nN,zip_cons_cons->qz,length_eq_zero_iff->uR,nodup_nil->nO,map_congr_left->sC,nil_append->oY,nodup_cons->o8,getElem?_set_self->uS,cons_append->qA,mem_flatMap->qB,mem_filterMap->sD,pairwise_reverse->uT,getElem_take->sE,length_range->sF,flatten_append->uU,mem_flatten->sG,drop_zero->qC,getElem?_drop->uV,perm_append_comm->xq,flatMap_cons->uW,pairwise_map->uX,exists_cons_of_ne_nil->zW,replicate_succ->xr,of_mem_zip->uY,pairwise_singleton->zX,take_succ_eq_append_getElem->Dk,append_eq_nil_iff->zY,drop_of_length_le->zZ,reverse_cons->xt,getElem?_reverse->z5,length_filter_le->z6,length_singleton->z7,flatten_nil->xu,take_append->xv,take_append_of_le_length->Dl,sublist_flatten_of_mem->Dm,drop_drop->xw,take_take->xx,take_zero->xy,reverse_perm->z8,nodup_range->z9,zipIdx_cons->Aa,flatten_singleton->Dn,length_pos_of_mem->Do,foldl_cons->Ab,flatMap_append->Dp,getElem?_range->Dq,map_id->xA,all_cons->Ac,lookup_append->Dr,ext_getElem?->Ds,foldl->xB,getElem_drop->Dt,take_add_one->Du,any_eq_true->Dv,drop_append_of_le_length->Jr,drop_length->Dw,forIn_cons->Dx,length->Ad,take_left'->Dy,zipIdx_nil->Dz,perm_ext_iff_of_nodup->Js,Nodup->Ae,length_erase_of_mem->Jt,getElem?_replicate->Ju,drop_eq_nil_of_le->Jv,dropLast_eq_take->Jw,getElem?_eq_none->Jx,length_replicate->Jy,isEmpty_toArray->Jz,mem_erase_of_ne->JA,range_eq_range'->JB,filter_eq_self->JC,length_pos_iff->JD,mem_map_of_mem->JE,range'->DA,reverse_append->JF,contains_cons->JG,zip_nil_right->JH,getElem?_inj->JI,take_sublist->JJ,zip_nil_left->JK,ext_getElem->JL,flatMap_nil->JM,map_fst_zip->JN,map_reverse->JO,range'_succ->JP,length_zip->JQ,range_succ->JR,forIn_nil->JS,map_drop->JT,perm_nil->JU,sum_cons->JV,map_nil->JW
open List.Pairwise renaming nil->JX
open List.Perm renaming refl->g0,append_left->Af,swap->xC
open MonadExcept renaming tryCatch->Ag
open Nat renaming le_refl->bc,lt_of_lt_of_le->eZ,ne_of_lt->cH,zero_le->dn,le_trans->eJ,lt_succ_self->il,add_sub_cancel_left->o9,lt_succ_of_lt->mJ,lt_irrefl->kQ,ne_of_gt->kR,le_of_lt->lR,le_of_lt_succ->sH,min_eq_left->qD,succ_pos->nP,le_of_ble_eq_true->xD,add_assoc->qE,le_succ->pe,lt_of_le_of_lt->xE,zero_add->uZ,add_sub_assoc->Ah,mod_lt->sI,not_lt->sJ,le_add_right->Ai,add_zero->xF,mul_comm->xG,not_lt_zero->Aj,zero_lt_of_lt->DB,le_of_eq->Ak,lt_trans->Al,min_self->Am,sub_self->An,le_max_right->DC,le_antisymm->DE,le_max_left->DF,le_add_right_of_le->JY,lt_of_le_of_ne->JZ,le_of_succ_le->J0,lt_trichotomy->J1,min_eq_right->J2,sub_lt_of_lt->J3,mul_le_mul->J7
open Nat.succ renaming inj->DG
open Ne renaming symm->jT
open Option renaming bind_some->qF,map_some->sL,map_eq_some_iff->DH,getD_none->DI,getD_some->J9,map_none->Ka,none->Kb
open Option.some renaming inj->hX,injEq->Ao
open Or renaming inr->dz,inl->fq
open Prod renaming ext->sM,fst->DJ
open Prod.mk renaming injEq->DK
open PyProof.Rows renaming wpS_bind->aQ,SortSt->aK,pendingOf->cY,wpS_pure->cI,slot_tuple_getitem->qG,IntsAre->dE,kindOf->cM,step_dedup->jU,KeyOrd->fN,seqObj->e6,callWith_type1->Ap,wpS_forRange->nQ,failedOf->iX,SortKind->jV,envOfC->gA,reverseSlice'->sN,get?_update_seq->xH,firstMet->nR,wpS_modify->sO,AllBare->nS,wpS_get->nV,slicePart_none->Aq,entry_tuple_getitem->DL,args_tuple_getitem->DM,wpS_mono->sP,lt_int->Kc,wpS_lift->u1,sortedHeap->Ar,minRun'->u3,tupleItemsOf_->DN,subscriptTail_builtinR->Kd,seqEpoch_at->DO,Subscript_->DP,setPending->DQ
open PyProof.Rows.F renaming plain_set_update_loop->DR,entry_set_update_loop->Ke
open PyProof.Rows.IntsAre renaming int_at->Kf,length->As
open PyProof.Rows.IsTup renaming new->sQ
open PyProof.Rows.KeyOrd renaming kle_trans->ip,kle_of_klt->jW,kle_refl->qH,kle_antisymm->Kg,kle->DS
open PyProof.Rows.SortSt renaming mk'->DT
open PySem renaming wpAny_bind->ak,Shared->ao,wpAny_pure->aB,sizeLine->aI,Program->aR,starEach->aW,mainGlobals->cz,Around->aS,FuncData->cB,mem_of_lookup->i2,bootBuiltins->fu,wpAny_newObj_type->i3,wpAny_callSpecial?_slot->mK,wpAny_call_entry->jX,compareOp->eK,wpAny_holding->iL,wpAny_field->gR,call_meets->hY,wpAny_seqItems->kS,wpAny_mono->iq,wpAny_truthy_bool->pf,codeAny_builtin->nW,wpAny_loadPart'->nX,wpAny_Call_Name_kw->qI,behindInMarks->mL,binaryOp->hZ,assignEach->ko,holding->gB,foldedSetIterable->sR,wpAny_loadPart_at->sS,sizeLine_eq->mM,sliceBounds->mO,Arguments->mP,Builtin->ia,callerA->ib,codeAny->ie,intKind->ig,wpAny_pyIter_tuple->u4,Keyword->jt,wpAny_passesOwn->sT,wpAny_rule->mQ,wpAny_setState_of->u5,backTo->gk,cellsFrom->lS,wpAny_binaryOp_repeat_ref->Au,GenState->Av,SetTable->kT,codeAny_mono->qJ,attributeBase->sU,plainId_quiet->sV,wpAny_setField_rec->xI,typeIs_int->ph,wpAny_letGo->qK,swapsWith->nY,wpAny_typeOf->sW,wpAny_askSetting->xJ,wpAny_attempt->u6,IsPair->i4,assign->i5,keywordEach->sX,wpAny_execs_nil->xK,wpAny_isSubtype_exc->Aw,wpAny_updateSeq->xM,wpAny_newFunctionEnv_cells->DU,NameKind->nZ,Result->pj,wpAny_setField->xN,pyNext->jY,wpAny_pyIter_list->Ax,wpAny_sequenceKey->Ay,excClassObj->va,richCompare->vb,swappedStores->xO,swapsWithSole->xP,noFill_tuple_add->Az,wpAny_isInstance->AA,codeAny_call_function->DV,letOwnedTupleGo->AB,typeLookup->vc,wpAny_Name->vd,codeAny_call_builtin->DW,wpAny_loadName_local->DX,wpAny_updateSeq_pair->DY,IsPart->lT,firstArgMember->AC,recursionLimit->AD,wpAny_tryCatch->AE,argBest->pk,getItem->pl,wpAny_loadName_cell->DZ,DictEntry->xQ,Paired->mR,backToKw->sY,codeAmong->ve,rawInt->mS,seq_tuple_add->AF,wpAny_onRaise->AG,wpAny_standAt->AH,closureFor->xR,intKind_is->xS,newList->qL,standAt->qM,relabel->sZ,scanBound->xT,seqItems?->xU,setItem->td,wpAny_of_eq->AI,isSubtype_stop->D0,wpAny_listPart->D1,sysModules->AJ,wpAny_call->AK,wpAny_comprehension_free->Kh,BindsTo->vf,call->D2,evalPart_none->D3,wpAny_newList->D4,richCompare_meets_room->Ki,PassesOwn->AL,codeAny_func->D5,concat_meets->D6,pyIter->tf,seqIndex_neg->D7,wpAny_isTrue_Compare1->Kj,boot_len->Kk,seqIndex_of->D8,wpAny_Slice->D9,wpAny_loadName_free->Kl,Within->Km,bindArgs->AM,builtinsNs->Ea,defaultsOf->Eb,setsByText->Ec,slot_list_getitem->Kn,slot_list_setitem->Ko,wpAny_assign_Name->Kp,wpAny_pyIter_enum->Kq,wpAny_pyIter_slot->Kr
open PySem.Around renaming under_plainId->qN,frames_deeper->Ks
open PySem.AutoSeq1 renaming sub_tuple_tuple->Kt
open PySem.Builtin.Frozenset renaming addrOf->Sb,newClass->Sd,sizeOf->Se,slot0->Sf,updateFrom->Sg
open PySem.Builtin.List renaming listTooLong->xY,listUpdate->AN,listLengthHint->Ku,listSubscript?->Kv,listAllItems->Kw
open PySem.Builtin.Range renaming rangeSize->Ed,rangeFitsLong->Kx,small->Sh
open PySem.Builtin.Slice renaming slicePlaces->tj,sliceAdjust->AO,sliceApplied->Ee,sliceFields->Si,slicePartIndex->Sj
open PySem.Builtin.SmallTypes renaming nextOf->qO,ownedTupleIsFree->AP,ownedTupleHandOut->Ky
open PySem.Builtin.Tuple renaming tupleExact->qP,tupleItemsOf->Ef,tupleCompareSizes->Kz,tupleTooMany->KA,tupleHashOf->Sk,tupleIsExact->Sl
open PySem.Calls renaming Name_function_global->KB,callWith_builtin->KC,evalArgs_plain->KD
open PySem.CmpOp renaming NotIn->KF
open PySem.Code renaming quiet_builtin->KG
open PySem.Data renaming seq->Eg
open PySem.F renaming plainAttrs_list->tp,args_tuple_add_2->vg,entry_tuple_add->vh,slot_tuple_add->vi,slot_int_rmul->qS,plain_min_loop->tu,slot_list_extend->xZ,slot_tuple_iterator_next->AQ,slot_list_index->AR,called_set->qY,type_list_extend->Eh,args_int_rmul_2->AS,entry_int_rmul->AU,slot_int_index->AV,slot_tuple_mul->AW,fills_int_mul->AX,slot_zip_next->AY,typeOf_object_class->Ei,args_tuple_mul_2->Ej,entry_tuple_mul->Ek,args_list_index_2->KH,entry_list_index->KI,entry_min_loop->El,plain_list_iadd->KJ,slot_list_count->KL,type_list_index->KM,args_tuple_iterator_next_1->KN,entry_tuple_iterator_next->KO,plain_set_new->KP,slot_set_iter->KQ,slot_gs_get->Em,slot_enumerate_next->KR,slot_list_pop->KS,sub_tuple_frozenset->KU,args_list_extend_2->KV,slot_tuple_eq_refl->KW,sub_list_frozenset->KX,entry_list_extend->KY,args_zip_next_1->KZ,entry_zip_next->K0,sub_tuple_dict->K1,sub_tuple_set->K3
open PySem.Heap renaming get?_push_of_some->bj,get?_push_size->dr,lt_size->bE,size_push->iM,get?_update_other->tv,get?_update_ne->tw,get?_update_self->vj,SameBut->vk,ExtBut->AZ,IsTuple->En,FlyingW->K5
open PySem.Heap.IsSliceOf renaming new->Eo
open PySem.Heap.SameBut renaming update->qZ
open PySem.IsL renaming isList->K7
open PySem.NameKind renaming free->pv,cell->x5
open PySem.Obj renaming mapSeq->kU,data_mapFields->Ep,isFreed_of_fields->K8,putSet->Er,mapFields->K9
open PySem.Paired renaming length->La
open PySem.SeqAt renaming EqAt->mT,list_indexAt->Lb
open PySem.SeqAt.EqAt renaming int_int->Es,of_refs->Et,same->Eu,bool_bool->Lc,int_str->Ld,str_int->Le
open PySem.SeqAt.RcAt renaming lists_lengths->Lf,tuples->Lg,lists->Lh
open PySem.SetTable renaming below->gC,insertAt->lU,bits->jv,runEnd->mU,leap->mV,has->x8,turns->A3,Probe->Ew,grown->Ex,insertAt_perm->Li,layClean->Lj,advance->Lk,fresh->Ll,fill->Lm,fits->Lo,slot->Lp
open PySem.SetTable.below renaming go->A4
open PySem.SetTable.layClean renaming free->x9
open PySem.SetTable.probe renaming go->tx
open PySem.Shared renaming heap->Lq
open PySem.Str renaming ofString->mW
open PySem.Value renaming ref->fO,int->jZ,none->lV,type->ma,builtin->ya,bool->vm,str->Ey,float->Lr
open PySem.W renaming Frag->av,nsIn->dF,mg_of->eD,mg_none_of->j0,kia_one->kq,findIn->j6,keepIn->mX,fnOf->kV,kitOne->n6,emptyDict->tA,hideAll_get->vn,tabObj->q0,hideAll->tB,kla_obj->tC,envX->q9,instObj->vo,cellsFrom_some->A5,codeIn->vp,looks_findIn->A6,of_hideAll->A7,codeHdIn->A8,ksm_same->A9,hideAll_none->Ez,hideAll_size->EA,lookIn->Ba,Looks->Bb,callWith_K->EB,codeRec_of->EC,kitx_dict->ED,plainGet->EE,OpenLaw->EF,kla_fn->EG,excIn->EH,funFrames_hide->Ls,codeHd_of_K->Lu,plainGet_of->Lv,kitx_tuple->Lw,kitx_list->Ly,CodeHd->Lz,InstAt->LA,KdlSrc->LB,WalkO->LC,isFn->LD
open PySem.W.Looks renaming ld->Sm,now->Sn
open PySem.Walks renaming tuple->EI,list->EJ
open Sum renaming inl->yb,inr->yc
open ToString renaming toString->vq
open True renaming intro->tD
local macro_rules|`(tactic|z_go)=>`(tactic|(intro _;rfl))
local macro_rules|`(tactic|x_go)=>`(tactic|(intro _;first|exact fq rfl|exact dz (fq rfl)|exact dz (dz rfl)))
local macro_rules|`(tactic|fin2)=>`(tactic|(intro _;first|exact .inl rfl|exact .inr rfl))
local macro_rules|`(tactic|k_go)=>`(tactic|(first|exact .inl rfl|exact .inr rfl|assumption))
local macro_rules|`(tactic|f_tup)=>`(tactic|(intro _;first|exact fq rfl|exact dz rfl))
local macro_rules|`(tactic|f_are)=>`(tactic|(decide+kernel))
local macro_rules|`(tactic|cb_eq)=>`(tactic|(dsimp only))
noncomputable section
def PySem.W.Fast:=0 where
 tw16126038002720403716:=0
 tw11875427871557683044:=0
 tw15570584223229412356:=0
 tw8610593430525940676:=0
 tw17276332993751291428:=0
 tw269087463624613700:=0
 tw17231584685612139940:=0
 tw7656331374962856644:=0
 tw14315888421732142788:=0
 tw2036708514246449508:=0
 tw8588691802934312100:=0
 tw17661928098038439261:=0
 tw14811964696788707677:=0
 tw568326447095228701:=0
 tw17539756930369815837:=0
 tw15619731181243470045:=0
 tw7158435182049038205:=0
 tw11451740326196395869:=0
 tw513391273776508701:=0
 tw15086558447434546909:=0
 tw13212650490192700669:=0
 tw14893176030797296614:=0
 tw14601155156131269830:=0
 tw13276146720062096166:=0
 tw11442553293343106886:=0
 tw4028479697004019110:=0
 tw7589122730499370406:=0
 tw907736473864382150:=0
 tw11452818339412645222:=0
 tw12843390372676980838:=0
 tw8858163798276520735:=0
 tw13039983547035958591:=0
 tw8944485032302963295:=0
 tw17643978079460793535:=0
 tw10982426009751731679:=0
 tw224706979882360959:=0
 tw11782651603657093119:=0
 tw2989894751853048703:=0
 tw17099845241690381471:=0
 tw15952610104379155615:=0
 tw17545924951565509727:=0
 tw7536215427914921055:=0
 tw11271225649297918176:=0
 tw12686369938474662720:=0
 tw17021656317523388448:=0
 tw16587830677578834848:=0
 tw12295557031897153376:=0
 tw4663357838508528064:=0
 tw16757588381991986848:=0
 tw2355660578497416512:=0
 tw16902548412080315712:=0
 tw14727590939179529696:=0
 tw1311656590518109312:=0
 tw15741306124789560457:=0
 tw8718381053542259497:=0
 tw15369557895297883209:=0
 tw14745024467879595497:=0
 tw14516222055505438121:=0
 tw17338466862126254793:=0
 tw15619248106687066409:=0
 tw6626487125157311945:=0
 tw10246586302491271074:=0
 tw18210437587043547266:=0
 tw13094984067690790626:=0
 tw6818050254653424514:=0
 tw1089075115851484930:=0
 tw9876439562199277858:=0
 tw3321002502829694242:=0
 tw14773778752587972162:=0
 tw7914561754507002082:=0
 tw10044928087123284066:=0
 tw13791347113497018466:=0
 tw8749817247167165195:=0
 tw5594775853153507979:=0
 tw1692032801592286123:=0
 tw15333092340987507083:=0
 tw3407844317923977547:=0
 tw3322520634574557387:=0
 tw13688362569124506091:=0
 tw6130814478304522667:=0
 tw8903517784046430219:=0
 tw16981038882736491819:=0
 tw10949728333528458411:=0
 tw3945662419282535243:=0
 tw3191305740191744748:=0
 tw5162618235861890732:=0
 tw282097430971654700:=0
 tw1037363627418971372:=0
 tw5051356322140813196:=0
 tw3138523516666370828:=0
 tw1414962002032552588:=0
 tw11734928171092589068:=0
 tw6801579070877974988:=0
 tw8817726605117574949:=0
 tw15168363963984945093:=0
 tw7338603605636057509:=0
 tw5298021015189292389:=0
 tw12236767944848978565:=0
 tw8508242278479198437:=0
 tw17980545204122153349:=0
 tw5266819097749888037:=0
 tw12928545319134734318:=0
 tw9094340417390708366:=0
 tw2151140924791966222:=0
 tw4555479058940491278:=0
 tw7159830277491039694:=0
 tw6586232539858073998:=0
 tw16527430997778531662:=0
 tw7324347664192208206:=0
 tw5380585579961301550:=0
 tw3722214269139369454:=0
 tw13805365101119238638:=0
 tw3916446556990335118:=0
 tw18262485875041170574:=0
 tw4038074707084868750:=0
 tw383510225610774958:=0
 tw5175140290949417870:=0
 tw1671902254057989294:=0
 tw7544023715400292359:=0
 tw262241153791070887:=0
 tw6169503245511320167:=0
 tw15719356883347390215:=0
 tw7222974946800799079:=0
 tw9716668587110668455:=0
 tw2623159522275716199:=0
 tw5362270391287652391:=0
 tw9336728002245843143:=0
 tw12232789190017300168:=0
 tw2444319970517410088:=0
 tw5951173512191670792:=0
 tw3815344278287891560:=0
 tw11834970869158751336:=0
 tw7815908237299624872:=0
 tw2954965666742982504:=0
 tw663441942652085384:=0
 tw13978265137128861832:=0
 tw7729405365081816136:=0
 tw12368916752430557256:=0
 tw10113061310929852136:=0
 tw16777572788721760264:=0
 tw3829925835461605521:=0
 tw957302703836870065:=0
 tw17100702060923337809:=0
 tw16387354091749369873:=0
 tw14753132241236943089:=0
 tw1471207516111264337:=0
 tw14602975282100645745:=0
 tw4170461647986450033:=0
 tw157816438060586666:=0
 tw3404161075711895370:=0
 tw544752351934563082:=0
 tw5953096600585895274:=0
 tw7171216609530501706:=0
 tw7417244465525030474:=0
 tw6348974702701861930:=0
 tw4646001913462042602:=0
 tw15514182883204914026:=0
 tw464745168282201098:=0
 tw14436653110248107699:=0
 tw4877479921054746963:=0
 tw792426411133689459:=0
 tw11074546589197723923:=0
 tw7751986343483962867:=0
 tw9836219290952363987:=0
 tw5065995471930501011:=0
 tw9231935072862914739:=0
 tw13224706940054024979:=0
 tw14806824671638555347:=0
 tw9148178488221001587:=0
 tw11587898956954227219:=0
 tw5891297732869424659:=0
 tw16376819052046325555:=0
 tw17707746623259691092:=0
 tw330150032764364084:=0
 tw5627647731624138644:=0
 tw15864731050681453396:=0
 tw8822074995825304340:=0
 tw15494997256734704692:=0
 tw8093793281525243604:=0
 tw6207787093526964884:=0
 tw16665917564619598772:=0
 tw9937460908677402196:=0
 tw384795113620137492:=0
 tw15174697208388056468:=0
 tw9264234701998965428:=0
 tw11735032322234915508:=0
 tw4573762709068732756:=0
 tw3214601040802681108:=0
 tw3889836750666481940:=0
 tw3812674787425723604:=0
 tw2304636937823775956:=0
 tw13361887529072358900:=0
 tw12548135707446349005:=0
 tw926739357830697453:=0
 tw12851673162367164653:=0
 tw1098727583933176653:=0
 tw16095484105609811821:=0
 tw8196435200737778413:=0
 tw9910025261199153901:=0
 tw3681883135826827597:=0
 tw7764879782678822902:=0
 tw13103573189595715862:=0
 tw539768092348976054:=0
 tw14515263671910483926:=0
 tw11440834857101488758:=0
 tw58643124662236662:=0
 tw10435535710043192438:=0
 tw10048161010720193263:=0
 tw11736899207371901327:=0
 tw16777508064004602127:=0
 tw8716429043838462159:=0
 tw15614208461968832943:=0
 tw8482389608256201807:=0
 tw14780073178388077935:=0
 tw6008001015235021167:=0
 tw7156974882239428911:=0
 tw7606599097225620431:=0
 tw10424176840394205071:=0
 tw1993304632875518799:=0
 tw17186604723889924879:=0
 tw4013758268842653743:=0
 tw6563304705974257167:=0
 tw3759192515962529680:=0
 tw4592725404845175728:=0
 tw14499202005979377584:=0
 tw17806062835029050896:=0
 tw7619421821375780112:=0
 tw8723631764472833232:=0
 tw14322061809078566384:=0
 tw16890475949177794425:=0
 tw18403206131088446553:=0
 tw8676487265657565145:=0
 tw4529541718509076377:=0
 tw4282279699065456185:=0
 tw2614019630559528441:=0
 tw4194273089376149273:=0
 tw13117238247714670297:=0
 tw5113428965427692921:=0
 tw885498324212830873:=0
 tw7408984852739617081:=0
 tw6539552640879397049:=0
 tw2780890973043778969:=0
 tw40628182677789689:=0
 tw17084288397589454105:=0
 tw18122146785115649874:=0
 tw1157874851021953138:=0
 tw15233126022568170130:=0
 tw6689218296023513746:=0
 tw17163343791985528754:=0
 tw5789150622079438770:=0
 tw1614570278975039058:=0
 tw7485421436106106386:=0
 tw3315920752784299474:=0
 tw12987936733901931858:=0
 tw8806308312850619954:=0
 tw8967292830387812562:=0
 tw15242955466783870450:=0
 tw7358950508402516114:=0
 tw4919308723734256050:=0
 tw13704472114527554642:=0
 tw5222385774859306066:=0
 tw1695124508567468123:=0
 tw3947772392725972059:=0
 tw5565992596704358075:=0
 tw10839213813204308827:=0
 tw3177246157060255579:=0
 tw4225180202624341723:=0
 tw17638841195990832507:=0
 tw1452075942060600635:=0
 tw11949927126234245371:=0
 tw13297533364628538715:=0
 tw15553466353482965947:=0
 tw4117851488744252635:=0
 tw7115611307203590812:=0
 tw10309550572079161468:=0
 tw4267165932475603356:=0
 tw18278925170774464924:=0
 tw1973318656986778620:=0
 tw2815200304266585020:=0
 tw2747618675265173436:=0
 tw17421117932149320860:=0
 tw3687832788097420380:=0
 tw10983315539491914780:=0
 tw16183872952995101308:=0
 tw13738370239274592892:=0
 tw15698341081574919676:=0
 tw1748323920542778812:=0
 tw15151939373205218069:=0
 tw8573212525410803221:=0
 tw11409508205398908373:=0
 tw6872887483686355349:=0
 tw3326704976257333877:=0
 tw16726328599045890677:=0
 tw8658147495767572757:=0
 tw17396761152973651093:=0
 tw5717334843366088117:=0
 tw5204822640569956437:=0
 tw6710863411546718046:=0
 tw17171166168151694846:=0
 tw10539553134998943326:=0
 tw14200187323660139934:=0
 tw1830427374929636094:=0
 tw10379121489857196798:=0
 tw427989682491712599:=0
 tw2636289851478293239:=0
 tw7684789830394103639:=0
 tw12672661161579509527:=0
 tw3118791599075508951:=0
 tw11350966384802112215:=0
 tw12113572816733189783:=0
 tw11458669930907598967:=0
 tw7753292812336440311:=0
 tw8372130055463119671:=0
 tw6367238208248754552:=0
 tw2474441479078423672:=0
 tw10992577304496015480:=0
 tw18096646067573245208:=0
 tw15259113107627764952:=0
 tw9239939259522869464:=0
 tw16898259313157556312:=0
 tw11924113911097858552:=0
 tw9363941505213839128:=0
 tw11917844616246790593:=0
 tw7685204020398983265:=0
 tw15916460231906329985:=0
 tw14157312861302104449:=0
 tw1995519044100722945:=0
 tw5980962008953209569:=0
 tw4922339562613465697:=0
 tw5625696703932051873:=0
 tw9738011545217753505:=0
 tw12975816088081130049:=0
 tw18155063873711853530:=0
 tw1806154212066938778:=0
 tw9930064397934160442:=0
 tw15870989598390386170:=0
 tw3168225041831581114:=0
 tw13610510256566622586:=0
 tw548700737621713146:=0
 tw372056071946687002:=0
 tw1370539385666770458:=0
 tw3281780896253459930:=0
 tw10440149031945778650:=0
 tw10659381567929278810:=0
 tw10086264322392949978:=0
 tw5049561313296955258:=0
 tw12614648348216982682:=0
 tw1276972882775989402:=0
 tw11315373194621882106:=0
 tw711070166124482586:=0
 tw9118649522395578723:=0
 tw7717860347330853091:=0
 tw11399503376180955651:=0
 tw14724617318131603907:=0
 tw18397213086502518083:=0
 tw8583946334198544643:=0
 tw1343529002079967427:=0
 tw4676795186744186947:=0
 tw5891127642821634115:=0
 tw12795724709999058947:=0
 tw7650246885152669283:=0
 tw16523545696392355651:=0
 tw13653581232570199523:=0
 tw30303050926251539:=0
 tw10657859364948733562:=0
abbrev bK:=List (Int×Int)
abbrev cf:=List (List Int)
abbrev bF:=List (PySem.Addr×PySem.Obj)
abbrev pw:=List (PySem.Value×List Int)
abbrev ku:=List (Option Nat)
set_option bootstrap.genMatcherCode false
set_option compiler.extract_closed false
set_option Elab.async false
set_option linter.all false
set_option maxRecDepth 100000
def yd{a b:Nat}(h:b<a):a-(b+1)<a-b:=Nat.sub_succ_lt_self a b h
def ye{a b:Nat}(h:a<=b)(c:¬a<b):a=b:=by lia
def So{a:Nat}{b c:Int}:a-(max b c).toNat+min b.toNat a<=a:=by omega
def Sp{a b c:Nat}:min (a-b) (c-b)<=c:=by grind
def Sq{a b c:Nat}(h:a-b<=c+1):a-((b+a) / 2+1)<=c:=by simp_all<;>omega
def LF{a b:Nat}{c:Int}(h:0<c/\c < ↑a)(d:↑b<c):2<=a-b:=by grind
def rd{a b:Nat}(h:a<b):a-1<b:=J3 h
def Sr{a b c:Nat}(h:b-a<=c+1):(a+b) / 2-a<=c:=by simp_all<;>omega
def EK{a b c d:Nat}(h:b=c)(e:d<a)(f:a<c+1):a-1<b:=by lia
def Ss{a b c d e:Nat}(h:b+c<=e):min a b+c+(b-max a d)<=e:=by omega
def yf{a:Nat}(h:0<a):a-1<a:=Nat.sub_one_lt_of_lt h
def Su{a b c d:Nat}(h:c<=d):min (a-b) (c-b)<=d:=by grind
def mY{a b:Nat}(h:0<a)(c:a<=b):a-1<b:=Nat.sub_one_lt_of_le h c
def LG{a b:Nat}(h:a<=b):a<=b+1:=JY h
def Bc{a b c:Nat}(h:c<=b)(d:a<=c):a<=b:=eJ d h
def Sv{a b c:Nat}(h:a-b=c+1):a-(b+1)=c:=by omega
def Sw{a b c d e:Nat}(h:d=e)(f:a=b+e):a-(b+c)<=d-c:=by simp_all<;>omega
def Sx{a b c d e:Nat}(h:a=e)(f:c=d+e):a-b<=c-(d+b):=by simp_all<;>omega
def Bd{a:Nat}:0<=a:=by simp_all
def Sy{a b:Nat}(h:b+1<=a):a-1-b<a:=Nat.sub_one_sub_lt_of_lt h
def Sz{a b c d e f:Nat}(h:d<24)(g:e<=24)(i:f<=2*e+3*d)(j:b<=f):min a b+(1+(b-(a+(2+c))))<=16777216:=by omega
def LH{a b:Nat}(h:a<=b):a-1<=b:=by simp_all<;>omega
def SA{a b:Nat}(h:b<=a):a-(a-b)=b:=Nat.sub_sub_self h
def EL{a b c:Nat}(h:c+1<=a)(d:a<=b):a-1<b:=by lia
def SB{a b c:Nat}(h:a+16*c+200<b):a<b:=by grind
def LI{a b:Nat}(h:¬a<b)(c:¬a=b):a-b=a-b-1+1:=by lia
def LJ{a:Nat}(h:¬a=0):0<a:=Nat.zero_lt_of_ne_zero h
def Be{a b c:Nat}(h:a+(b+1)<c):a+1+b<c:=by lia
def LK{a b:Nat}{c d e:Int}(h:d<=e)(f:e-c<=100)(g:b=(d-c).toNat)(i:a=b):a<=500:=by simp_all<;>omega
def LL{a b c:Nat}(h:a<c):a-b<c:=J3 h
def LM{a b c:Nat}(h:a<=b)(d:c<b):a-1<b:=by omega
def SC{a b:Nat}(h:b<64)(c:a=b):a<64:=by simp_all
def SD{a b c d e:Nat}(h:c<24)(f:d<=24)(g:e<=2*d+3*c)(i:b<=e):min a b+1<=16777216:=by grind
def SE{a b c d:Nat}(h:b<c)(e:a+b<d):a+b+1<=a+min c (d-a):=by lia
def LN{a b c:Nat}(h:a+3*(b+1)+5<c):a+1+3*b+5<c:=by lia
def mZ{a b:Nat}(h:a+1<b):a<b:=Nat.lt_of_succ_lt h
def SF{a b c:Nat}(h:¬c<a)(d:c<b):a+(b-a-1-(c-a))<b:=by omega
def LO{a:Nat}(h:a<64):a<=16777216:=by lia
def SG{a b:Nat}(h:b-a=0)(c:a<=b):a=b:=by grind
def Bf{a b:Nat}(h:b+1<=a):a=a-1+1:=by grind
def SH{a b c:Nat}(h:a<b):min a b-c=a-c:=by grind
def SI{a b:Nat}{c d e:Int}(h:b=d.toNat)(f:0<=e/\e<d/\0<=c/\c<d)(g:a=b):c.toNat<a:=by simp_all<;>omega
def LP{a b c:Nat}(h:c+1<=b):a+b-(c+1)=a+(b-(c+1)):=Ah h a
def SJ{a b:Nat}(h:a<=b):a<=(a+b) / 2:=by grind
def Bg{a b:Nat}(h:a+1<=b+1):a<=b:=by simp_all
def Bh{a b:Nat}(h:1<a)(c:a<=b):a-1<b:=by omega
def SK{a b c:Nat}(h:a=c)(d:b=31/\c=5\/b=127/\c=19):a<=b:=by grind
def SL{a b c d e:Nat}(h:b=c)(f:e=min c d)(g:a<e):a<b:=by grind
def SM{a b c:Nat}{d e:Int}(h:0<=d/\d<e/\↑(a+b)<=e/\e < ↑(a+b+c)):0<=d/\d<e/\↑a<=e/\e < ↑(a+(b+c)):=by simp_all<;>omega
def SN{a b c d e:Nat}(h:b=d)(f:e=min c d)(g:a<e):a<b:=by grind
def LQ{a b c d:Nat}(h:b<=d)(e:a+16*d+200<c):a+16*b+200<c:=by grind
def LR{a b c d:Nat}(h:b<=d)(e:a+3*d+5<c):a+3*b+5<c:=by grind
def EM{a b:Nat}(h:a+1<=b):a<=b:=J0 h
def LS{a b:Nat}(h:a<=b-1)(c:0<b):a+1<=b:=Nat.add_le_of_le_sub c h
def LU{a b c:Nat}(h:¬b-c=0)(d:a=b-c):a-1<a:=by grind
def SO{a b:Nat}(h:a+1=b):a=b-1:=Nat.eq_sub_of_add_eq h
def yg{a b:Nat}(h:¬b<a):a<=b:=by simp_all
def LV{a b c:Nat}(h:a+16*(b+1)+200<c):a+3+16*b+200<c:=by lia
def LW{a b c:Nat}(h:a+c<b):a<b:=Nat.lt_of_add_right_lt h
def LX{a b:Nat}(h:a+1<b+1):a<b:=by simp_all
def EN{a b c:Nat}:a+(b+c)=a+b+c:=Eq.symm (qE a b c)
def EO{a b:Nat}(h:a<b):a<=b:=J0 h
def SP{a b:Nat}{c d:Int}(h:0<=c/\c < ↑a/\↑a<=d/\d < ↑(a+b)):0<=c/\c<d/\d < ↑(a+b):=by simp_all<;>omega
def SQ{a b c d:Nat}{e:Int}(h:a<24)(f:b<=24)(g:c<=2*b+3*a)(i:d<=c)(j:0<e/\e < ↑d):e<1073741824:=by grind
def SR{a b:Nat}{c d:Int}(h:0<=c/\c<d/\↑0<=d/\d < ↑(0+b)):↑a<=↑a+c/\↑a+c < ↑a+d/\↑a+d < ↑(a+b):=by simp_all<;>omega
def Bi{a b c:Nat}(h:b=c)(d:a<c):a<b:=by simp_all
def SS{a:Nat}{b c d:Int}(h:0<=b/\b<c/\0<=d/\d<c)(e:a=c.toNat):b.toNat<a:=by simp_all<;>omega
def SU{a b c d e f:Nat}(h:a=d)(g:c=e)(i:f=min d e)(j:f<=b):a<=b\/c<=b:=by lia
def SV{a b:Nat}(h:a<=b)(c:b-a<=0):a=b:=by grind
def LY{a b c:Nat}(h:c<=b)(d:a<=c):a<=b:=eJ d h
def SW{a b c:Int}(h:b<=a)(d:a<c):(a-b).toNat<(c-b).toNat:=by simp_all<;>omega
def LZ{a b c:Nat}(h:a+3*c+5<b):a<b:=by grind
def SX{a:Nat}{b c d:Int}(h:a=c.toNat)(e:0<=d/\d<c/\0<=b/\b<c):b.toNat<a:=by simp_all<;>omega
def SY{a b c:Nat}(h:c<a)(d:a<b+1):a-1<b:=by lia
def SZ{a:Nat}{b c:Int}(h:a=c.toNat)(d:0<=b/\b<c):b.toNat<a:=by simp_all<;>omega
def S0{a b:Nat}{c d:Int}(h:0<=c/\c<d/\d < ↑a):0<=c/\c<d/\d < ↑(a+b):=by simp_all<;>omega
def S1{a b:Nat}(h:a<=500):1+(a-(b+1))<=100000:=by omega
def EP{a b:Nat}(h:a<b+1):a<=b:=sH h
def L0{a:Int}(h:0<=a):↑a.toNat=a:=zT h
def S2{a b c:Nat}(h:2<=b-c):2<=min (2+a) (b-c):=by lia
def S3{a b:Nat}(h:0<b):a+b-1=a+(b-1):=Ah h a
def S4{a b c:Nat}(h:a+16*c+200<b):a+64<b:=by grind
def yh{a b:Nat}(h:a+1=b):a<b:=by grind
def L1{a b c:Nat}(h:a+b<=c):a+b<=c+1:=JY h
def S5{a:Nat}{b c:Int}(h:b<c)(d:c.toNat<=a+1):b.toNat<=a:=by simp_all<;>omega
def L3{a b c d:Nat}(h:a+1+b=c+1+d):a+b=c+d:=by lia
def S6{a b c:Nat}(h:b-a=c+1):a<b:=Nat.lt_of_sub_eq_succ h
def L4{a b:Nat}(h:a+64<b):a+60<b:=by lia
def S7{a b:Nat}{c d:Int}(h:0<=c/\c<d/\d < ↑b):0<=↑a+c/\↑a+c < ↑a+d/\↑a+d < ↑(a+b):=by simp_all<;>omega
def S8{a b c d:Nat}(h:c=d)(e:c<d):a=b:=by simp_all
def S9{a b c:Nat}(h:a<(b+c) / 2+1)(d:¬a=(b+c) / 2):a<(b+c) / 2:=by lia
def yi{a b:Nat}(h:a+b<=500):a+b<=100000:=by lia
def L5{a b c:Nat}(h:c<b)(d:a<c):a<b:=Al d h
def Bj{a b:Int}(h:b<a):¬a<b:=Int.lt_asymm h
def L6{a b c d:Nat}(h:d=a)(e:b=c):a+b=c+d:=by lia
def tE{a b:Nat}:a<=a+b:=by simp_all
def Ta{a b c:Nat}(h:(a+b) / 2<=c)(d:¬c=(a+b) / 2):(a+b) / 2<c:=JZ h λ a=>d (id (Eq.symm a))
def Tb{a:Nat}(h:a<=24):a<=64:=by lia
def L7{a b:Nat}(h:b+1<=a):0<a:=DB h
def ER{a b:Int}(h:a<b):¬a=b:=Int.ne_of_lt h
def Tc{a b c:Nat}(h:a+(b+1)<=c):a+1+b<=c:=by lia
def ES{a b:Nat}(h:b+1-(0+1)<=a)(c:a<b+1):a=b+1-1:=Nat.eq_of_le_of_lt_succ h c
def Td{a b:Nat}(h:a<b+1)(c:¬a=b):a<b:=by lia
def Te{a:Nat}(h:a<64):a<4000:=by lia
def Tf{a:Nat}{b:Int}(h:b<=10000)(c:a=16777216):b<=↑a:=by lia
def Bk{a:Int}(h:0<a):¬a=0:=Int.ne_of_gt h
def L8{a b:Nat}:a+(b+1)=a+1+b:=by grind
def Tg{a b:Nat}(h:a<=b)(c:¬a=b):a<b:=JZ h c
def Th{a b:Nat}(h:0+b=0+a):¬a<b:=by simp_all
def ET{a:Nat}{b:Int}:b<=b+↑a:=Int.le.intro a rfl
def L9{a b:Nat}(h:2*a+1=2*b+1):a=b:=by lia
def Bl{a:Nat}(h:1<a):0<a:=DB h
def Ti{a:Nat}(h:a<4000):a<=16777216:=by lia
def EU{a:Nat}(h:a<=1):a=0\/a=1:=Nat.le_one_iff_eq_zero_or_eq_one.mp h
def EV{a b:Nat}(h:a+b<=100000):a+b<=16777216:=by lia
def Ma{a b:Nat}:a+1+b=a+(b+1):=Nat.succ_add_eq_add_succ a b
def Mb{a b:Nat}(h:2*a=2*b):a=b:=by lia
def Mc{a b:Nat}(h:¬b<=a):a<=b:=Nat.le_of_not_ge h
def EW{a b c:Nat}(h:a<c)(d:b=c):a+1<=b:=le_of_le_of_eq h (id (Eq.symm d))
def Md{a b c:Nat}(h:a<c)(d:c<b):a<b:=Al h d
def Me{a b:Nat}(h:b+1<=a):0<a:=DB h
def Mf{a b:Nat}(h:0<a):0<a+b:=Nat.add_pos_left h b
def Tj{a b:Nat}(h:a<b):min (a+1) b=a+1:=qD h
namespace L2
open PySem PySem.Spec PyProof.Rows
abbrev iN:=Sum Int Str
noncomputable def Mg:iN->Value->Bool
 | .inl k,v=>Value.isInt k v
 | .inr x,v=>Value.isStrOf x v
noncomputable def Tn(w:World):iN->Int
 | .inl k=>hashInt k
 | .inr x=>hashStr w x
def px:∀{k:iN} {v:Value},Mg k v=true->(∃i t,k=yb i/\v=jZ i t)\/(∃x t,k=yc x/\v=Ey x t)
 | .inl i,v,h=>by
  obtain⟨t,e⟩:=Value.isInt_shape h;exact .inl ⟨i,t,rfl,e⟩
 | .inr x,v,h=>by
  obtain⟨t,e⟩:=Value.isStrOf_shape h;exact .inr ⟨x,t,rfl,e⟩
def To(a b:Int):decide ((yb a:iN)=yb b)=(a==b):=by lia
def Tp(a b:Str):decide ((yc a:iN)=yc b)=decide (a=b):=by simp
def Tq(a:Int)(b:Str):decide ((yb a:iN)=yc b)=false:=decide_eq_false (λ q=>nomatch q)
def Tr(a:Str)(b:Int):decide ((yc a:iN)=yb b)=false:=decide_eq_false (λ q=>nomatch q)
noncomputable def EX(prog:aR)(w:World):PySem.KeyKind prog w iN where
 is:=Mg
 hash:=Tn w
 inj:=λ v a b ha d=>by
  rcases px ha with ⟨i,t,rfl,rfl⟩|⟨x,t,rfl,rfl⟩
  .rcases px d with ⟨j,u,rfl,e⟩|⟨y,u,rfl,e⟩
   .injection e with e1 _;rw[e1]
   .exact nomatch e
  .rcases px d with ⟨j,u,rfl,e⟩|⟨y,u,rfl,e⟩
   .exact nomatch e
   .injection e with e1 _;rw[e1]
 byValue:=λ k v h=>by
  rcases px h with ⟨i,t,rfl,rfl⟩|⟨x,t,rfl,rfl⟩<;>rfl
 pyHash:=λ c h=>by
  rcases px c with ⟨i,t,rfl,rfl⟩|⟨x,t,rfl,rfl⟩
  .exact wpAny_pyHash_int h
  .exact wpAny_pyHash_str h
 eqBool:=λ f c h=>by
  rcases px f with ⟨i,t,rfl,rfl⟩|⟨x,t,rfl,rfl⟩
  .rcases px c with ⟨j,u,rfl,rfl⟩|⟨y,u,rfl,rfl⟩
   .rw[To]at h;exact wpAny_eqBool_int h
   .rw[Tq]at h;exact Ld i t y u _ _ _ _ h
  .rcases px c with ⟨j,u,rfl,rfl⟩|⟨y,u,rfl,rfl⟩
   .rw[Tr]at h;exact Le x t j u _ _ _ _ h
   .rw[Tp]at h;exact wpAny_eqBool_str h
 «strs»:=λ k x t v h=>by
  rcases px h with ⟨i,u,rfl,e⟩|⟨y,u,rfl,e⟩
  .exact nomatch e
  .injection e with e1 _
   subst e1;cases v<;>rfl
inductive V where
 |non|bl (b:Bool)|int (i:Int)|str (x:Str)|byt (b:Array UInt8)|flt (b:UInt64)|ref (a:Addr)|ty (n:String)
 deriving DecidableEq
def RelV:V->Value->Prop
 | .non,u=>u=lV
 | .bl b,u=>u=vm b
 | .int i,u=>∃t,u=jZ i t
 | .str x,u=>∃t,u=Ey x t
 | .byt b,u=>∃t,u=Value.bytes b t
 | .flt b,u=>∃t,u=Lr b t
 | .ref a,u=>u=fO a
 | .ty n,u=>u=ma n
abbrev Vals:List V->List Value->Prop:=mR RelV
theorem Vals.length(r:Vals xs us):xs.length=us.length:=La r
theorem Vals.get:∀{xs:List V} {us:List Value} {i:Nat} {x:V},Vals xs us->xs[i]? =some x->∃u,us[i]? =some u/\RelV x u
 |_,_,_,_,.nil,e=>by contradiction
 |_,_,0,_,.cons r _,e=>by simp at e;subst e;exact⟨_,rfl,r⟩
 |_,_,i+1,x,.cons _ t,e=>by
  obtain⟨u,a,h⟩:=Vals.get t (by assumption);exact⟨u,by assumption,h⟩
theorem Vals.set(r:RelV x u):∀{xs:List V} {us:List Value} (i:Nat),Vals xs us->Vals (xs.set i x) (us.set i u)
 |_,_,_,.nil=>.nil
 |_,_,0,.cons _ t=>.cons r t
 |_,_,i+1,.cons q t=>.cons q (Vals.set r i t)
theorem Vals.append:∀{xs y:List V} {us ws:List Value},Vals xs us->Vals y ws->Vals (xs++y) (us++ws)
 |_,_,_,_,.nil,s=>s
 |_,_,_,_,.cons r t,s=>.cons r (Vals.append t s)
theorem Vals.take:∀{xs:List V} {us:List Value} (n:Nat),Vals xs us->Vals (xs.take n) (us.take n)
 |_,_,0,_=>.nil
 |_,_,_+1,.nil=>.nil
 |_,_,n+1,.cons r t=>.cons r (Vals.take n t)
theorem Vals.drop:∀{xs:List V} {us:List Value} (n:Nat),Vals xs us->Vals (xs.drop n) (us.drop n)
 |_,_,0,r=>r
 |_,_,_+1,.nil=>.nil
 |_,_,n+1,.cons _ t=>Vals.drop n t
def vr:Option V->Option Value->Prop
 |some v,some u=>RelV v u
 |none,none=>True
 |_,_=>False
def EY{κ:Type}:List (κ×V)->List (κ×Value)->Prop:=mR λ(p:κ×V) (q:κ×Value)=>p.1=q.1/\RelV p.2 q.2
noncomputable def eo:iN->V
 | .inl i=>.int i
 | .inr x=>.str x
inductive HO where
 |lst (xs:List V)
 |tup (xs:List V)
 |dK (kvs:List (iN×V))|dT (kvs:List (List iN×V))
 |set (S:Int->Bool) (n:Nat)
 |ins (C dx:Addr) (fs:List (Str×V))
 |own (x:Addr)
 |xd (fs:List (Str×V))
 |met (f x:Addr)
 |rng (lo hi:Int)
 |frz (o:Obj) (u:HO)
 |tbl (q:Str)
 |ext (φ:Heap->Prop)
abbrev ah:=Addr->Option HO
noncomputable def bq(H:ah)(a:Addr)(o:HO):ah:=λ b=>if b=a then some o else H b
def dM:bq H a o a=some o:=by unfold bq;simp_all
def bR(h:b≠a):bq H a o b=H b:=by unfold bq;rw[if_neg h]
def ir{H:ah}{a b:Addr}{o:HO}(h:H a=some o)(h':H b=none):a≠b:=by
 lia
def NoD(h:Heap)(a:Addr):Prop:=∀o,h.get? a=some o->o.dict=none
theorem NoD.push(h:Heap){o:Obj}(l:o.isFreed=false:=by rfl)(d:o.dict=none:=by rfl):NoD (h.push o) h.objs.size:=λ u e=>by rw[dr _ l]at e;simp_all
def NoD.keep{h h':Heap}{a:Addr}{o:Obj}(n:NoD h a)(e:h.get? a=some o)(b:h'.get? a=some o):NoD h' a:=λ u q=>by rw[b]at q;cases q;exact n o e
section
variable{H H':ah}
def Mh(q:Str)(o:Obj):Prop:=∃v t,o.data= .fields v/\v[1]? =some (.str q t)
def TabOk(q:Str)(H:ah)(ps:Array Value):Prop:=TriplesOk ps.toList/\∀p v,ve p ps.toList=some v->∃c o,v= .ref c/\H c=some (.frz o (.own c))/\Mh q o
def TabOk.mono(t:TabOk q H ps)(f:∀b o u,H b=some (.frz o u)->H' b=some (.frz o u)):TabOk q H' ps:=⟨t.1,λ p c h=>let⟨c',oc,z,a,b⟩:=t.2 _ c h;⟨c',oc,z,f _ _ _ a,b⟩⟩
end
section
variable(P:aR)(w:World)
def fZ(H:ah)(h:Heap)(a:Addr):HO->Prop
 | .lst xs=>xs.length<=aI/\∃(i:List Value) (n:Nat),Vals xs i/\h.get? a=some {cls:=.type "list",data:=.seq i.toArray n}
 | .tup xs=>(xs.length<=aI/\NoD h a)/\∃i:List Value,Vals xs i/\IsTup h a i.toArray
 | .dK k=>k.length<=aI/\(a==AJ)=false/\∃s,EY k s/\h.DictOf (EX P w) a s
 | .dT k=>k.length<=aI/\(a==AJ)=false/\∃xs:List (List iN×Addr×Value),
   mR (λ(p:List iN×V) (q:List iN×Addr×Value)=>p.1=q.1/\H q.2.1=some (.tup (p.1.map eo))/\RelV p.2 q.2.2) k xs/\
   ∃o es ep,h.get? a=some o/\o.ExactDict/\o.data= .dict es ep/\es.toList=xs.map (entryOfKey (tupleKind (EX P w)))/\(xs.map (·.1)).Nodup
 | .set S n=>h.SetOf (ig P w) a S n
 | .ins C d fs=>H d=some (.own a)/\fs.length<=1000/\d≠a/\h.get? a=some (vo C d)/\
   ∃m,h.Ns1 d m/\(∀f,vr (fs.lookup f) (m f))/\Km m (fs.map (·.1))
 | .own _=>∃o,h.get? a=some o
 | .xd fs=>∃m,h.Ns1 a m/\∀f,vr (fs.lookup f) (m f)
 | .rng l e=>∃t u v,h.get? a=some {cls:=.type "range",data:=.fields #[.int l t,.int e u,.int 1 v]}
 | .frz o u=>h.get? a=some o/\fZ H h a u
 | .tbl q=>∃ps,h.get? a=some {cls:=.none,data:=.fields ps}/\TabOk q H ps
 | .met f x=>h.get? a=some (PySem.W.methodObj (.ref f) (.ref x))
 | .ext φ=>φ h/\(∃o,h.get? a=some o)/\∀b c:Heap,φ b->(∀o,b.get? a=some o->c.get? a=some o)->φ c
def fR(H:ah)(h:Heap):Prop:=∀a o,H a=some o->fZ P w H h a o
end
section
variable{P:aR}{w:World}{H H':ah}{h h':Heap}{a:Addr}{o:HO}
theorem fZ.lt(x:fZ P w H h a o):a<h.objs.size:=by
 cases o with
 |lst xs=>obtain⟨_,_,_,_,e⟩:=x;exact bE e
 |tup xs=>obtain⟨_,_,_,p⟩:=x;exact p.lt
 |dK k=>obtain⟨_,_,_,_,o,_,_,e,_⟩:=x;exact bE e
 |dT k=>obtain⟨_,_,_,_,o,_,_,e,_⟩:=x;exact bE e
 |set S n=>obtain⟨o,_,_,_,e,_⟩:=x;exact bE e
 |ins C d fs=>obtain⟨_,_,_,e,_⟩:=x;exact bE e
 |own y=>obtain⟨_,e⟩:=x;exact bE e
 |xd fs=>obtain⟨_,⟨_,_,_,e,_⟩,_⟩:=x;exact bE e
 |rng l i=>obtain⟨_,_,_,e⟩:=x;exact bE e
 |frz b u=>obtain⟨e,_⟩:=x;exact bE e
 |tbl q=>obtain⟨ps,e,_⟩:=x;exact bE e
 |met f y=>exact bE (x)
 |ext φ=>obtain⟨_,⟨_,e⟩,_⟩:=x;exact bE e
theorem Paired.mapP:∀{l:List α} {c:List β},mR F l c->(∀a b,F a b->G a b)->mR G l c
 |_,_,.nil,_=>.nil
 |_,_,.cons r t,f=>.cons (f _ _ r) (Paired.mapP t f)
def fZ.stay(x:fZ P w H h a o)(k:∀b u,(b=a\/H b=some (.own a))->h.get? b=some u->h'.get? b=some u)
  (l:∀b,H b=some (.own a)->H' b=some (.own a))(A:∀b xs,H b=some (.tup xs)->H' b=some (.tup xs))(hz:∀b o u,H b=some (.frz o u)->H' b=some (.frz o u):=by exact λ _ _ _ q=>q):fZ P w H' h' a o:=by
 induction o with
 |lst xs=>obtain⟨z,i,n,r,e⟩:=x;exact⟨z,i,n,r,k _ _ (.inl rfl) e⟩
 |tup xs=>obtain⟨z,i,r,g,e,c⟩:=x;exact⟨⟨z.1,z.2.keep e (k _ _ (.inl rfl) e)⟩,i,r,g,k _ _ (.inl rfl) e,c⟩
 |dK s=>obtain⟨z,y,B,r,g,es,ep,e,c⟩:=x;exact⟨z,y,B,r,g,es,ep,k _ _ (.inl rfl) e,c⟩
 |dT s=>
  obtain⟨z,y,xs,r,g,es,ep,e,c⟩:=x;exact⟨z,y,xs,Paired.mapP r λ p q z=>⟨z.1,A _ _ z.2.1,z.2.2⟩,g,es,ep,k _ _ (.inl rfl) e,c⟩
 |set S n=>obtain⟨g,es,ep,t,e,c⟩:=x;exact⟨g,es,ep,t,k _ _ (.inl rfl) e,c⟩
 |ins C G fs=>
  obtain⟨d,z,D,e,m,⟨j,es,ep,E,c⟩,r⟩:=x;exact⟨l _ d,z,D,k _ _ (.inl rfl) e,m,⟨j,es,ep,k _ _ (.inr d) E,c⟩,r⟩
 |own y=>obtain⟨g,e⟩:=x;exact⟨g,k _ _ (.inl rfl) e⟩
 |xd fs=>obtain⟨m,⟨j,es,ep,e,c⟩,r⟩:=x;exact⟨m,⟨j,es,ep,k _ _ (.inl rfl) e,c⟩,r⟩
 |rng I J=>obtain⟨t,u,v,e⟩:=x;exact⟨t,u,v,k _ _ (.inl rfl) e⟩
 |frz g u F=>obtain⟨e,q⟩:=x;exact⟨k _ _ (.inl rfl) e,F q⟩
 |tbl q=>
  obtain⟨ps,e,t⟩:=x;exact⟨ps,k _ _ (.inl rfl) e,t.mono hz⟩
 |met f y=>
  have e:=x;exact k a _ (.inl rfl) e
 |ext φ=>obtain⟨p,⟨o,e⟩,st⟩:=x;exact⟨st _ _ p λ o q=>k _ _ (.inl rfl) q,⟨o,k _ _ (.inl rfl) e⟩,st⟩
theorem fR.lt(x:fR P w H h)(e:H a=some o):a<h.objs.size:=(x a o e).lt
def fR.fresh(x:fR P w H h)(e:h.objs.size<=a):H a=none:=by
 cases q:H a with
 |none=>rfl
 |some u=>exact absurd (eZ (x.lt q) e) (kQ _)
def fR.kept(x:fR P w H h)(k:∀b u,h.get? b=some u->h'.get? b=some u):fR P w H h':=λ a o e=>
 (x a o e).stay (λ b u _ q=>k b u q) (λ _ q=>q) λ _ _ q=>q
def fR.laid(x:fR P w H h)(k:∀b u,h.get? b=some u->h'.get? b=some u)(p:h.objs.size<=a)(f:fZ P w (bq H a o) h' a o):fR P w (bq H a o) h':=λ b u e=>by
 have n:=x.fresh p;by_cases d:b=a
 .subst d;rw[dM]at e;simp_all
 .rw[bR d]at e
  exact(x b u e).stay (λ c v _ q=>k c v q) (λ c q=>by rw[bR (ir q n)];assumption) (λ c xs q=>by rw[bR (ir q n)];assumption) λ c g i q=>by rw[bR (ir q n)];assumption
end
def Bm(H:ah)(a:Addr)(u:HO):Prop:=H a=some u\/∃o,H a=some (.frz o u)
def Bm.ok(r:Bm H a u)(x:fR P w H h):fZ P w H h a u:=by
 rcases r with r|⟨o,r⟩
 .exact x a u r
 .obtain⟨_,q⟩:=x a _ r
  simp_all
def Bn:Option HO->Prop
 |some (.lst _)=>True
 |some (.dK _)=>True
 |some (.dT _)=>True
 |some (.set _ _)=>True
 |some (.ins _ _ _)=>True
 |some (.ext _)=>True
 |_=>False
section
variable{P:aR}{w:World}{H:ah}{h h':Heap}{x e:Addr}{o:HO}
def fR.write(ok:fR P w H h)(m:Bn (H x))(l:e=x\/H e=some (.own x))(k:∀b u,b≠e->h.get? b=some u->h'.get? b=some u)(a:∃u,h'.get? e=some u)
  (d:fZ P w (bq H x o) h' x o):fR P w (bq H x o) h':=λ b u q=>by
 have n:∀c y,H c=some (.own y)->c≠x:=λ c y r z=>by subst z;rw[r]at m;exact m
 have t:∀c xs,H c=some (.tup xs)->c≠x:=λ c xs r z=>by subst z;rw[r]at m;exact m
 by_cases g:b=x
 .subst g;rw[dM]at q;cases q;exact d
 .rw[bR g]at q
  by_cases f:b=e
  .have i:H b=some (.own x):=by lia
   rw[q]at i;cases i;obtain⟨v,j⟩:=a;exact⟨v,by rw[f];exact j⟩
  .refine(ok b u q).stay (λ c v p r=>k c v ?_ r) (λ c r=>by rw[bR (n c b r)];exact r) (λ c xs r=>by rw[bR (t c xs r)];exact r) λ c o2 s r=>by rw[bR λ z=>by subst z;rw[r]at m;exact m];exact r
   grind
end
structure fz(fs ex:List Addr)(H H':ah)(h h':Heap):Prop where
 keep:∀b o,h.get? b=some o->H b=none->b∉fs->b∉ex->h'.get? b=some o
 slot:∀b o,h.get? b=some o->H b=none->b∈fs->b∉ex->∃sl,h'.get? b=some {o with slots:=sl}
 free:∀b o,h.get? b=some o->H b=none->b∉ex->H' b=none
 there:∀b o,h.get? b=some o->b∉ex->∃o',h'.get? b=some o'
 tups:∀b xs,H b=some (.tup xs)->H' b=some (.tup xs)
 frzs:∀b o u,H b=some (.frz o u)->H' b=some (.frz o u)
 tbls:∀b q,H b=some (.tbl q)->H' b=some (.tbl q)
section
variable{fs f c d:List Addr}{H i:ah}{h g h':Heap}{a x e:Addr}{o:HO}
def fz.any(u:fz fs c H i h g)(q:h.get? b=some ob)(n:H b=none)(x:b∉c):∃sl,g.get? b=some {ob with slots:=sl}:=by
 by_cases a:b∈fs
 .exact u.slot b ob q n a x
 .exact⟨_,u.keep b ob q n a x⟩
def fz.kept(k:∀b u,h.get? b=some u->h'.get? b=some u):fz fs c H H h h':=
 ⟨λ b o q _ _ _=>k b o q,λ b o q _ _ _=>⟨_,k b o q⟩,λ _ _ _ n _=>n,λ b o q _=>⟨o,k b o q⟩,λ _ _ q=>q,λ _ _ _ q=>q,λ _ _ q=>q⟩
def fz.refl:fz fs c H H h h:=fz.kept λ _ _ q=>q
def fz.laid(k:∀b u,h.get? b=some u->h'.get? b=some u)(p:h.objs.size<=a)(d:H a=none):fz fs c H (bq H a o) h h' where
 keep:=λ b u q _ _ _=>k b u q
 slot:=λ b u q _ _ _=>⟨_,k b u q⟩
 free:=λ b u q n _=>by rw[bR (cH (eZ (bE q) p))];assumption
 there:=λ b u q _=>⟨u,k b u q⟩
 tups:=λ b xs q=>by rw[bR (ir q d)];assumption
 frzs:=λ b u xs q=>by rw[bR (ir q d)];assumption
 tbls:=λ b r q=>by rw[bR (ir q d)];assumption
def fz.write(d:Bn (H x))(i:e=x\/H e=some (.own x))(k:∀b u,b≠e->h.get? b=some u->h'.get? b=some u)(f:∃u,h'.get? e=some u):fz fs c H (bq H x o) h h':=by
 have g:∀b,H b=none->b≠x:=λ b n z=>by subst z;rw[n]at d;assumption
 have a:∀b,H b=none->b≠e:=λ b n z=>by simp_all
 have m:∀b u,H b=some u->¬Bn (some u)->b≠x:=λ b u q nm z=>by simp_all
 refine⟨λ b u q n _ _=>k b u (a b n) q,λ b u q n _ _=>⟨_,k b u (a b n) q⟩,λ b u q n _=>by rw[bR (g b n)];assumption,λ b u q _=>?_,
  λ b xs q=>by rw[bR (m b _ q λ z=>z)];assumption,λ b u xs q=>by rw[bR (m b _ q λ z=>z)];assumption,λ b r q=>by rw[bR (m b _ q λ z=>z)];exact q⟩
 grind
def fz.mono(u:fz fs c H i h g)(s:∀b∈fs,b∈f)(x:∀b∈c,b∈d):fz f d H i h g:=
 ⟨λ b o q n a e=>u.keep b o q n (λ z=>a (s b z)) λ z=>e (x b z),λ _ _ q n _ e=>u.any q n λ z=>e (x _ z),λ b o q n e=>u.free b o q n λ z=>e (x b z),λ b o q e=>u.there b o q λ z=>e (x b z),u.tups,u.frzs,u.tbls⟩
end
noncomputable def Bo(h:Heap)(H:ah):List Addr:=(dP h.objs.size).filter λ a=>(H a).isSome
def yj(h:Heap)(H:ah):Heap:=tB h (Bo h H)
def Ts(h:Heap)(H:ah):(yj h H).objs.size=h.objs.size:=EA _ _
def Tt(e:h.get? b=some o)(n:H b=none):(yj h H).get? b=some o:=
 vn _ e λ m=>by
  have q:=(mI.mp m).2;simp_all
def Tu(e:(yj h H).get? b=some o):h.get? b=some o/\H b=none:=by
 have a:=A7 _ e;refine⟨a,?_⟩;cases q:H b with
 |none=>rfl
 |some x=>
  have m:b∈Bo h H:=mI.mpr ⟨kl.mpr (bE a),by simp_all⟩;have z:(yj h H).get? b=none:=Ez _ m;simp_all
noncomputable def Tv(g h:Heap)(L:Addr):bF:=(dP h.objs.size).filterMap λ a=>if a=L\/(g.get? a).isSome=true then none else(h.get? a).map λ o=>(a,o)
noncomputable def rest(g h:Heap)(L d:Addr):bF:=(Tv g h L).filter λ p=>decide (p.1≠d)
structure Mod(K:av)(mg:Str->Option Value)(base:Heap):Prop where
 kin:K.In base
 glob:base.Ns cz mg
 blt:∃mb,base.Ns Ea mb/\∀x:Str,x≠"__name__"->mb x=fu x
 nolimit:base.NoLimit
structure aC where
 prog:aR
 w:World
 K:av
 mg:Str->Option Value
 base:Heap
 A:aS
 N:List Str
 z4:ao
 zI:ah
 env:Env
 outer:List Env
 stack:List Env
 ex:List Addr
 fn:Str->Bool
 calm:Bool
 pn:bF
 xe:Value->ao->Prop
 ta:bF:=[]
 tq:Str:=""
abbrev bJ(X:aC):=model X.prog X.w
noncomputable def dt(l:List Env):List Addr:=l.filterMap (·.frame)
abbrev aC.fs(X:aC):List Addr:=dt X.outer
def j7(sc:Scope)(x:Str):Prop:=sc.names.lookup x=some .local\/sc.names.lookup x=some .cell\/sc.names.lookup x=some .free
def kW(sc:Scope)(x:Str):Prop:=sc.names.lookup x=some .local\/sc.names.lookup x=some .cell
def Look(env:Env)(h:Heap)(m:Str->Option Value)(x:Str)(u:Value):Prop:=
 (env.kindOf x=some .local/\m x=some u)\/((env.kindOf x=some .cell\/env.kindOf x=some .free)/\∃c,env.cells.lookup x=some c/\h.IsCell c (some u))
structure aC.Ok(X:aC):Prop where
 mod:Mod X.K X.mg X.base
 kind:X.env.scope.kind= .function
 glob:X.env.globals=cz
 blt:X.env.builtins=Ea
 above:X.z4.heap.objs.size<=X.env.locals
 inj:∀x y c,X.env.cells.lookup x=some c->X.env.cells.lookup y=some c->x=y
 has:∀x,(X.env.kindOf x=some .cell\/X.env.kindOf x=some .free)->∃c,X.env.cells.lookup x=some c
 cab:∀x c,X.fn x=true->X.env.cells.lookup x=some c->X.z4.heap.objs.size<=c
 hd:X.calm=true->X.A.handled=none
 frames:X.A.frames=some X.stack
 stk:X.stack=X.outer\/(X.stack=X.env::X.outer/\X.env.frame=some X.env.locals)
 exf:∀b∈X.ex,b≠X.env.locals/\∀x c,X.env.cells.lookup x=some c->c≠b
 bs:∀b o,X.base.get? b=some o->X.z4.heap.get? b=some o/\X.zI b=none
 bsz:X.base.objs.size<=X.z4.heap.objs.size
 noex:∀b o,X.base.get? b=some o->b∉X.ex
 exfs:∀b∈X.ex,b∉X.fs
 funs:X.z4.heap.FunFrames X.base X.outer
 frf:∀b∈X.fs,X.zI b=none
structure Inv(X:aC)(kX:bF)(σ:List (Option V))(H:ah)(s:ao):Prop where
 ok:X.Ok
 os:s.os=X.z4.os
 bare:nS s.gens
 base:fz X.fs X.ex X.zI H X.z4.heap s.heap
 loc:∃m,s.heap.Ns X.env.locals m/\∀(i:Nat) (x:Str) (v:V),X.N[i]? =some x->σ[i]? =some (some v)->j7 X.env.scope x->∃u,RelV v u/\Look X.env s.heap m x u
 cell:∀x c,X.env.cells.lookup x=some c->∃v,s.heap.IsCell c v
 free:H X.env.locals=none
 freeC:∀x c,X.env.cells.lookup x=some c->H c=none
 pin:∀p∈X.pn++kX,s.heap.get? p.1=some p.2/\H p.1=none/\p.1≠X.env.locals/\p.1∉X.fs/\∀v,p.2.data≠.cell v
 hok:fR X.prog X.w H s.heap
 len:σ.length=X.N.length
 tab:∀p∈X.ta,H p.1=none/\p.1≠X.env.locals/\p.1∉X.fs/\(∀q∈X.pn++kX,q.1≠p.1)/\∃ps,s.heap.get? p.1=some {cls:=.none,data:=.fields ps}/\TabOk X.tq H ps
section
variable{X:aC}{f:bF}{σ:List (Option V)}{H H':ah}{s:ao}{h':Heap}
def aC.Ok.nofr(ok:X.Ok)(e:X.base.get? b=some o):b∉X.fs:=λ h=>by
 have:=(ok.funs.mem h).1
 grind
theorem Inv.bs(I:Inv X f σ H s):∀b o,X.base.get? b=some o->s.heap.get? b=some o/\H b=none:=λ b o e=>
 ⟨I.base.keep b o (I.ok.bs b o e).1 (I.ok.bs b o e).2 (I.ok.nofr e) (I.ok.noex b o e),I.base.free b o (I.ok.bs b o e).1 (I.ok.bs b o e).2 (I.ok.noex b o e)⟩
def Inv.bk(I:Inv X f σ H s):∀b o,X.base.get? b=some o->s.heap.get? b=some o:=λ b o e=>(I.bs b o e).1
theorem Inv.mod(I:Inv X f σ H s):Mod X.K X.mg X.base:=I.ok.mod
def Inv.kIn(I:Inv X f σ H s):X.K.In s.heap:=I.ok.mod.kin.keeps I.bk
def Inv.fr(I:Inv X f σ H s):∃m,Fr X.base X.env.locals s.heap m:=
 let⟨m,hn,_⟩:=I.loc
 ⟨m,hn,I.bk,eJ I.ok.bsz I.ok.above⟩
theorem Inv.lt(I:Inv X f σ H s):X.env.locals<s.heap.objs.size:=let⟨_,hn,_⟩:=I.loc;hn.lt
def Inv.sz(I:Inv X f σ H s):X.z4.heap.objs.size<=s.heap.objs.size:=eJ I.ok.above (lR I.lt)
def Inv.nofs(I:Inv X f σ H s)(h:s.heap.objs.size<=a):a∉X.fs:=λ b=>by
 obtain⟨_,o,c,_⟩:=I.ok.funs.mem b;exact absurd (eZ (bE c) (eJ I.sz h)) (kQ _)
def Inv.cne(I:Inv X f σ H s):∀x c,X.env.cells.lookup x=some c->c≠X.env.locals:=λ x c e z=>by
 obtain⟨v,o,a,b⟩:=I.cell x c e;obtain⟨m,⟨g,es,ep,h,d,_⟩,_⟩:=I.loc;simp_all
theorem Inv.funs(I:Inv X f σ H s):s.heap.FunFrames X.base X.outer:=by
 have all:∀(l:List _),(∀b∈dt l,b∈X.fs)->X.z4.heap.FunFrames X.base l->s.heap.FunFrames X.base l:=by
  intro l;induction l with
  |nil=>intro _ _;trivial
  |cons env r i=>
   intro c d;obtain⟨k,⟨L,o,hf,n,g,j⟩,m⟩:=d;have h:=c L (by unfold dt;rw[oX,hf];exact bW);obtain⟨sl,e⟩:=I.base.slot L o g (I.ok.frf L h) h λ z=>I.ok.exfs L z h
   exact⟨k,⟨L,_,hf,n,e,j⟩,i (λ b a=>c b (by unfold dt;rw[oX,hf];exact cT _ a)) m⟩
 exact all _ (λ _ a=>a) I.ok.funs
theorem Inv.stack(I:Inv X f σ H s):s.heap.FunFrames X.base X.stack:=by
 rcases I.ok.stk with e|⟨e,hf⟩
 .rw[e];exact I.funs
 .rw[e]
  obtain⟨m,h,_⟩:=I.loc;refine .cons (by rw[I.ok.kind];decide) hf h ?_ I.funs;exact Heap.get?_none_of_le (eJ I.ok.bsz I.ok.above)
def Inv.stkSub(I:Inv X f σ H s):∀b∈dt X.stack,b∈X.env.locals::X.fs:=λ b h=>by
 rcases I.ok.stk with e|⟨e,hf⟩
 .simp_all
 .rw[e]at h
  unfold dt at h;rw[oX,hf]at h;assumption
def Inv.stkFree(I:Inv X f σ H s):∀b∈dt X.stack,H b=none:=λ b h=>by
 rcases bI.mp (I.stkSub b h)with e|h
 .rw[e];exact I.free
 .obtain⟨_,o,a,_⟩:=I.ok.funs.mem h
  exact I.base.free b o a (I.ok.frf b h) λ z=>I.ok.exfs b z h
def Inv.step{g':Array Av}{t':Nat}{d':Drawn}{ch:List Addr}(I:Inv X f σ H s)
  (g:∀b∈ch,(b∈X.ex\/X.z4.heap.objs.size<=b)/\b≠X.env.locals/\(∀x c,X.env.cells.lookup x=some c->c≠b)/\∀p∈X.ta++(X.pn++f),p.1≠b)
  (keep:∀b o,b≠X.env.locals->b∉X.fs->b∉ch->s.heap.get? b=some o->H b=none->h'.get? b=some o)
  (j:∀b o,b≠X.env.locals->b∈X.fs->b∉ch->s.heap.get? b=some o->H b=none->∃sl,h'.get? b=some {o with slots:=sl})(free:∀b o,b∉ch->s.heap.get? b=some o->H b=none->H' b=none)
  (there:∀b o,b∉ch->s.heap.get? b=some o->∃D,h'.get? b=some D)
  (E:∀b xs,H b=some (.tup xs)->H' b=some (.tup xs))(w:∀b o u,H b=some (.frz o u)->H' b=some (.frz o u))(F:∀b q,H b=some (.tbl q)->H' b=some (.tbl q))
  (ns:∀m,s.heap.Ns X.env.locals m->h'.Ns X.env.locals m)(M:fR X.prog X.w H' h')(S:nS g'):
  Inv X f σ H' {s with heap:=h',gens:=g',drawn:=d',toks:=t'}:=by
 have L:∀b o,X.z4.heap.get? b=some o->b≠X.env.locals:=λ b o e=>cH (eZ (bE e) I.ok.above)
 have C:∀b o,X.z4.heap.get? b=some o->b∉X.ex->b∉ch:=λ b o e a y=>by
  rcases(g b y).1 with z|z
  .exact a z
  .exact absurd (eZ (bE e) z) (kQ _)
 have Q:∀x c,X.env.cells.lookup x=some c->∀v,s.heap.IsCell c v->h'.IsCell c v:=λ x c e v ⟨o,B,N⟩=>by
  have h:c∉ch:=λ z=>(g c z).2.2.1 x c e rfl
  by_cases R:c∈X.fs
  .obtain⟨sl,q⟩:=j c o (I.cne x c e) R h B (I.freeC x c e)
   exact⟨_,q,N⟩
  .exact⟨o,keep c o (I.cne x c e) R h B (I.freeC x c e),N⟩
 refine⟨I.ok,I.os,S,⟨λ b o e n y a=>?_,λ b o e n y a=>?_,λ b o e n a=>?_,λ b o e a=>?_,λ b xs e=>E b xs (I.base.tups b xs e),λ b o xs e=>w b o xs (I.base.frzs b o xs e),λ b q e=>F b q (I.base.tbls b q e)⟩,?_,λ x c e=>?_,?_,λ x c e=>?_,λ p G=>?_,M,I.len,λ p G=>?_⟩
 .exact keep b o (L b o e) y (C b o e a) (I.base.keep b o e n y a) (I.base.free b o e n a)
 .obtain⟨sl,A⟩:=I.base.slot b o e n y a
  obtain⟨O,P⟩:=j b _ (L b o e) y (C b o e a) A (I.base.free b o e n a);exact⟨O,P⟩
 .obtain⟨D,A⟩:=I.base.there b o e a
  exact free b D (C b o e a) A (I.base.free b o e n a)
 .obtain⟨D,A⟩:=I.base.there b o e a
  exact there b D (C b o e a) A
 .obtain⟨m,T,U⟩:=I.loc
  refine⟨m,ns m T,λ i x v A P V=>?_⟩;obtain⟨u,r,l⟩:=U i x v A P V;refine⟨u,r,?_⟩;rcases l with l|⟨k,c,e,z⟩
  .exact .inl l
  .exact .inr ⟨k,c,e,Q x c e _ z⟩
 .obtain⟨v,z⟩:=I.cell x c e
  exact⟨v,Q x c e v z⟩
 .obtain⟨m,⟨o,_,_,B,_⟩,_⟩:=I.loc
  exact free _ o (λ z=>(g _ z).2.1 rfl) B I.free
 .obtain⟨v,o,B,N⟩:=I.cell x c e
  exact free c o (λ z=>(g c z).2.2.1 x c e rfl) B (I.freeC x c e)
 .obtain⟨e,n,J,K,d⟩:=I.pin p G
  have h:p.1∉ch:=λ z=>(g p.1 z).2.2.2 p (gz _ G) rfl
  exact⟨keep p.1 p.2 J K h e n,free p.1 p.2 h e n,J,K,d⟩
 .obtain⟨n,J,K,W,ps,e,t⟩:=I.tab p G
  have h:p.1∉ch:=λ z=>(g p.1 z).2.2.2 p (fQ _ G) rfl
  exact⟨free p.1 _ h e n,J,K,W,ps,keep p.1 _ J K h e n,t.mono w⟩
def Inv.pinL(I:Inv X f σ H s)(h:p∈X.ta++(X.pn++f)):p.1<s.heap.objs.size:=by
 rcases cu.mp h with z|z
 .obtain⟨_,_,_,_,_,e,_⟩:=I.tab p z
  exact bE e
 .exact bE (I.pin p z).1
def Inv.un{t':Nat}(I:Inv X f σ H s)(u:fz X.fs [] H H' s.heap h')(k:fR X.prog X.w H' h'):Inv X f σ H' {s with heap:=h',toks:=t'}:=by
 obtain⟨m,⟨o,es,ep,c,r⟩,_⟩:=id I.loc;obtain⟨sl,L⟩:=u.any c I.free (by simp);exact I.step (ch:=[]) (λ _ z=>nomatch z) (λ b o _ a _ e n=>u.keep b o e n a (by simp)) (λ b o _ a _ e n=>u.slot b o e n a (by simp)) (λ b o _ e n=>u.free b o e n (by simp)) (λ b o _ e=>u.there b o e (by simp)) u.tups u.frzs u.tbls (λ m' d=>by
  obtain⟨j,g,p,h,i⟩:=d;rw[c]at h;cases h;exact⟨_,_,_,L,i⟩) k I.bare
def Inv.call{g':Array Av}{t':Nat}{d':Drawn}{ch:List Addr}(I:Inv X f σ H s)(u:fz (dt X.stack) ch H H' s.heap h')(k:fR X.prog X.w H' h')(i:nS g')
  (a:∀b∈ch,(b∈X.ex\/X.z4.heap.objs.size<=b)/\b≠X.env.locals/\(∀x c,X.env.cells.lookup x=some c->c≠b)/\∀p∈X.ta++(X.pn++f),p.1≠b):
  Inv X f σ H' {s with heap:=h',gens:=g',drawn:=d',toks:=t'}:=by
 obtain⟨m,⟨o,es,ep,g,r⟩,_⟩:=id I.loc;obtain⟨sl,L⟩:=u.any g I.free λ z=>(a _ z).2.1 rfl
 exact I.step a (λ b o L j h e n=>u.keep b o e n (λ z=>(bI.mp (I.stkSub b z)).elim L j) h) (λ b o _ _ h e n=>u.any e n h) (λ b o h e n=>u.free b o e n h) (λ b o h e=>u.there b o e h) u.tups u.frzs u.tbls (λ m' l=>by
  obtain⟨w,q,t,d,v⟩:=l;rw[g]at d;cases d;exact⟨_,_,_,L,v⟩) k i
def Inv.turned{t':Nat}{i:Addr}(I:Inv X f σ H s)(k:∀b o,b≠i->s.heap.get? b=some o->h'.get? b=some o)(y:H i=none)(L:i≠X.env.locals)
  (a:i∈X.ex\/X.z4.heap.objs.size<=i)(d:∀x c,X.env.cells.lookup x=some c->c≠i)(g:∀p∈X.ta++(X.pn++f),p.1≠i):Inv X f σ H {s with heap:=h',toks:=t'}:=by
 have t:∀b u,H b=some u->b≠i:=λ b u e z=>by lia
 refine I.step (ch:=[i]) (λ b j=>?_) (λ b o _ _ h e _=>k b o (λ z=>h (by simp[z])) e) (λ b o _ _ h e _=>⟨_,k b o (λ z=>h (by simp[z])) e⟩) (λ _ _ _ _ n=>n)
  (λ b o h e=>⟨o,k b o (λ z=>h (by simp[z])) e⟩) (λ _ _ e=>e) (λ _ _ _ e=>e) (λ _ _ e=>e) (λ m l=>?_) (λ b u e=>?_) I.bare
 .have e:=by simpa using j
  subst e;exact⟨a,L,d,g⟩
 .obtain⟨o,es,ep,w,r⟩:=l
  exact⟨o,es,ep,k _ o (jT L) w,r⟩
 .refine(I.hok b u e).stay (λ c v h q=>k c v ?_ q) (λ _ q=>q) λ _ _ q=>q
  rcases h with z|z
  .rw[z];exact t b u e
  .exact t c _ z
def Inv.tok(I:Inv X f σ H s)(t:Nat):Inv X f σ H {s with toks:=t}:=I.un fz.refl I.hok
theorem Inv.kept(I:Inv X f σ H s)(k:∀b u,s.heap.get? b=some u->h'.get? b=some u):Inv X f σ H {s with heap:=h',toks:=t'}:=I.un (fz.kept k) (I.hok.kept k)
theorem Inv.laid(I:Inv X f σ H s)(k:∀b u,s.heap.get? b=some u->h'.get? b=some u)(h:s.heap.objs.size<=a)(n:fZ X.prog X.w (bq H a o) h' a o):
  Inv X f σ (bq H a o) {s with heap:=h',toks:=t'}:=I.un (fz.laid k h (I.hok.fresh h)) (I.hok.laid k h n)
theorem Inv.write(I:Inv X f σ H s)(m:Bn (H x))(a:e=x\/H e=some (.own x))(k:∀b u,b≠e->s.heap.get? b=some u->h'.get? b=some u)(h:∃u,h'.get? e=some u)
  (n:fZ X.prog X.w (bq H x o) h' x o):Inv X f σ (bq H x o) {s with heap:=h',toks:=t'}:=I.un (fz.write m a k h) (I.hok.write m a k h n)
def Inv.weak(I:Inv X f σ H s)(h:σ'.length=σ.length)(w:∀(i:Nat) v,σ'[i]? =some (some v)->σ[i]? =some (some v)):Inv X f σ' H s:=
 ⟨I.ok,I.os,I.bare,I.base,let⟨m,hn,hl'⟩:=I.loc;⟨m,hn,λ i x v e a b=>hl' i x v e (w i v a) b⟩,I.cell,I.free,I.freeC,I.pin,I.hok,h.trans I.len,I.tab⟩
def Inv.pins_of(I:Inv X f σ H s)(h:∀p∈pins',s.heap.get? p.1=some p.2/\H p.1=none/\p.1≠X.env.locals/\p.1∉X.fs/\∀v,p.2.data≠.cell v)(i:∀q∈pins',∀p∈X.ta,q.1≠p.1):Inv X pins' σ H s:=
 ⟨I.ok,I.os,I.bare,I.base,I.loc,I.cell,I.free,I.freeC,λ p g=>(cu.mp g).elim (λ z=>I.pin p (fQ _ z)) (h p),I.hok,I.len,λ p g=>let⟨a,b,c,d,e⟩:=I.tab p g;⟨a,b,c,λ q j=>(cu.mp j).elim (λ z=>d q (fQ _ z)) (λ z=>i q z p g),e⟩⟩
def EZ{N:List Str}(h:N.Nodup){i j:Nat}{x:Str}(a:N[i]? =some x)(b:N[j]? =some x):i=j:=by
 obtain⟨d,e⟩:=eW.mp a;obtain⟨f,c⟩:=eW.mp b;exact(List.getElem_inj h).mp (e.trans c.symm)
def Mi{M:Model}{A:aS}{E:Value->ao->Prop}{i:Nat}{x:Str}{v:V}{u:Value}{Q:Unit->ao->Prop}(I:Inv X f σ H s)(hN:X.N.Nodup)(S:X.N[i]? =some x)(B:kW X.env.scope x)(r:RelV v u)
  (h:∀s',Inv X f (σ.set i (some v)) H s'->(∃a,vk a s.heap s'.heap/\(a=X.env.locals\/X.env.cells.lookup x=some a))->Q () s')(hf:X.fn x=true\/X.env.scope.names.lookup x=some .local:=by k_go):wpAny M A (storeName X.env x u) Q E s:=by
 obtain⟨m,Z,hl⟩:=id I.loc;have dL:(X.env.scope.kind== .class||(X.env.scope.kind== .module&&X.env.locals !=X.env.globals))=false:=by rw[I.ok.kind];rfl
 have G:i<σ.length:=by rw[I.len];exact(eW.mp S).1
 have cne:=I.cne;have bS:∀{a:Addr} {h':Heap},(∃o,s.heap.get? a=some o/\H a=none)->vk a s.heap h'->fR X.prog X.w H h':=λ{a h'} ha g b ob e=>by
  obtain⟨_,_,hfree⟩:=ha;refine(I.hok b ob e).stay (λ c W w q=>(g.2 c ?_).trans q) (λ _ q=>q) λ _ _ q=>q
  rintro rfl;rcases w with rfl|w
  .rw[hfree]at e;cases e
  .rw[hfree]at w;cases w
 rcases B with J|J
 .refine wpAny_storeName_local J Z (λ h' hn' g=>?_) dL
  obtain⟨oL,_,_,hoL,_⟩:=id Z;refine h _ ⟨I.ok,I.os,I.bare,⟨λ b o e n K B=>?_,λ b o e n K B=>?_,I.base.free,λ b o e B=>?_,I.base.tups,I.base.frzs,I.base.tbls⟩,⟨_,hn',λ j y v' l D e3=>?_⟩,λ y c e=>?_,I.free,I.freeC,λ p L=>?_,bS ⟨oL,hoL,I.free⟩ g,by simpa using I.len,λ p L=>?_⟩ ⟨_,g,.inl rfl⟩
  .exact(g.2 b (cH (eZ (bE e) I.ok.above))).trans (I.base.keep b o e n K B)
  .obtain⟨sl,l⟩:=I.base.slot b o e n K B
   exact⟨sl,(g.2 b (cH (eZ (bE e) I.ok.above))).trans l⟩
  .obtain⟨o',l⟩:=I.base.there b o e B
   exact⟨o',(g.2 b (cH (eZ (bE e) I.ok.above))).trans l⟩
  .by_cases N:j=i
   .subst N
    rw[S]at l;cases l;rw[uS G]at D;cases D;exact⟨u,r,.inl ⟨J,by simp⟩⟩
   .rw[qw (jT N)]at D
    obtain⟨u',r',q⟩:=hl j y v' l D e3;refine⟨u',r',?_⟩;rcases q with ⟨k,e⟩|⟨k,c,e,z⟩
    .refine .inl ⟨k,?_⟩
     have:y≠x:=λ e=>N (EZ hN l (e▸S))
     simp[this,e]
    .exact .inr ⟨k,c,e,z.sameBut g (cne y c e)⟩
  .obtain⟨W,z⟩:=I.cell y c e
   exact⟨W,z.sameBut g (cne y c e)⟩
  .obtain⟨e,n,F,O,d⟩:=I.pin p L
   exact⟨(g.2 p.1 F).trans e,n,F,O,d⟩
  .obtain⟨n,F,O,np,ps,e,t⟩:=I.tab p L
   exact⟨n,F,O,np,ps,(g.2 p.1 F).trans e,t⟩
 .have P:X.fn x=true:=by
   rcases hf with z|z
   .exact z
   .rw[z]at J;cases J
  obtain⟨c,w⟩:=I.ok.has x (.inl J);obtain⟨W,z⟩:=I.cell x c w;refine wpAny_storeName_cell I.ok.kind J w z (λ h' T g=>?_);obtain⟨oc,R,C⟩:=id z;refine h {s with heap:=h'} ⟨I.ok,I.os,I.bare,⟨λ b o e n K B=>?_,λ b o e n K B=>?_,I.base.free,λ b o e B=>?_,I.base.tups,I.base.frzs,I.base.tbls⟩,⟨m,Z.sameBut g (jT (cne x c w)),λ j y v' l D e3=>?_⟩,λ y Y e=>?_,I.free,I.freeC,λ p L=>?_,bS ⟨oc,R,I.freeC x c w⟩ g,by simpa using I.len,λ p L=>?_⟩ ⟨c,g,.inr w⟩
  .exact(g.2 b (cH (eZ (bE e) (I.ok.cab x c P w)))).trans (I.base.keep b o e n K B)
  .obtain⟨sl,l⟩:=I.base.slot b o e n K B
   exact⟨sl,(g.2 b (cH (eZ (bE e) (I.ok.cab x c P w)))).trans l⟩
  .obtain⟨o',l⟩:=I.base.there b o e B
   exact⟨o',(g.2 b (cH (eZ (bE e) (I.ok.cab x c P w)))).trans l⟩
  .by_cases N:j=i
   .subst N
    rw[S]at l;cases l;rw[uS G]at D;cases D;exact⟨u,r,.inr ⟨.inl J,c,w,T⟩⟩
   .rw[qw (jT N)]at D
    obtain⟨u',r',q⟩:=hl j y v' l D e3;refine⟨u',r',?_⟩;rcases q with q|⟨k,Y,e,z'⟩
    .exact .inl q
    .refine .inr ⟨k,Y,e,z'.sameBut g ?_⟩
     rintro rfl;exact N (EZ hN l (I.ok.inj _ _ _ e w▸S))
  .by_cases U:Y=c
   .subst U;exact⟨_,T⟩
   .obtain⟨w2,z2⟩:=I.cell y Y e
    exact⟨w2,z2.sameBut g U⟩
  .obtain⟨e,n,F,O,d⟩:=I.pin p L
   refine⟨(g.2 p.1 ?_).trans e,n,F,O,d⟩;intro q;rw[q,R]at e;have q':oc=p.2:=hX e;exact d W (by rw[<-q'];exact C)
  .obtain⟨n,F,O,np,ps,e,t⟩:=I.tab p L
   refine⟨n,F,O,np,ps,(g.2 p.1 ?_).trans e,t⟩;intro q;rw[q,R]at e;rw[hX e]at C;cases C
def Bp(I:Inv X f σ H s)(N:X.N.Nodup)(a:X.N[i]? =some x)(b:kW X.env.scope x)(r:RelV v u)
  (h:∀s',Inv X f (σ.set i (some v)) H s'->Q () s')(hf:X.fn x=true\/X.env.scope.names.lookup x=some .local:=by k_go):wpAny M A (storeName X.env x u) Q E s:=
 Mi I N a b r (λ s' c _=>h s' c) hf
def Inv.call'(I:Inv X f σ H s)(o:s'.os=s.os)(u:fz (dt X.stack) ch H H' s.heap s'.heap)(h:fR X.prog X.w H' s'.heap)(g:nS s'.gens)
  (a:∀b∈ch,(b∈X.ex\/X.z4.heap.objs.size<=b)/\b≠X.env.locals/\(∀x c,X.env.cells.lookup x=some c->c≠b)/\∀p∈X.ta++(X.pn++f),p.1≠b):Inv X f σ H' s':=by
 obtain⟨h',g',d',t',d⟩:=s';have e:=o;subst e;exact I.call u h g a
end
abbrev dC:=Value->Option Addr->ah->Prop
abbrev St:=List (Option V)
abbrev br:=V->ah->Prop
abbrev bz:=St->ah->br->Prop
abbrev ih:=St->ah->(Bool->ah->Prop)->Prop
abbrev fv:=St->ah->(List V->ah->Prop)->Prop
structure Ends where
 nx:St->ah->Prop
 rt:br
 bk:St->ah->Prop:=λ _ _=>False
 ct:St->ah->Prop:=λ _ _=>False
abbrev g9:=Ends->St->ah->Prop
def hh(X:aC)(k:bF)(σ:St)(Q:br)(u:Value)(s':ao):Prop:=∃v H',Inv X k σ H' s'/\RelV v u/\Q v H'
def Bq(X:aC)(k:bF)(σ:St)(Q:Bool->ah->Prop)(b:Bool)(s':ao):Prop:=∃H',Inv X k σ H' s'/\Q b H'
def Tw(X:aC)(k:bF)(σ:St)(Q:List V->ah->Prop)(us:List Value)(s':ao):Prop:=∃v H',Inv X k σ H' s'/\Vals v us/\Q v H'
def yk(X:aC)(k:bF)(D:Ends)(f:Flow)(s':ao):Prop:=
 match f with
 | .next=>∃a H',Inv X k a H' s'/\D.nx a H'
 | .brk=>∃a H',Inv X k a H' s'/\D.bk a H'
 | .cont=>∃a H',Inv X k a H' s'/\D.ct a H'
 | .ret u=>∃v a H',Inv X k a H' s'/\RelV v u/\D.rt v H'
def aY(X:aC)(e:Expr)(t:bz):Prop:=
 ∀(k:bF) (s:ao) (σ:St) (H:ah) (Q:br),Inv X k σ H s->t σ H Q->wpAny (bJ X) X.A (eval e X.env) (hh X k σ Q) X.xe s
def jw(X:aC)(e:Expr)(t:ih):Prop:=
 ∀(k:bF) (s:ao) (σ:St) (H:ah) (Q:Bool->ah->Prop),Inv X k σ H s->t σ H Q->wpAny (bJ X) X.A (isTrue e X.env (eval e X.env)) (Bq X k σ Q) X.xe s
def pz(X:aC)(e:Expr)(t:ih):Prop:=
 ∀(w:Sem Value) (k:bF) (s:ao) (σ:St) (H:ah) (Q:Bool->ah->Prop),Inv X k σ H s->t σ H Q->wpAny (bJ X) X.A (isTrue e X.env w) (Bq X k σ Q) X.xe s
def pz.pt(h:pz X e t):jw X e t:=h _
def eE(X:aC)(es:List Expr)(t:fv):Prop:=
 ∀(p:Pos) (k:bF) (s:ao) (σ:St) (H:ah) (Q:List V->ah->Prop),Inv X k σ H s->t σ H Q->wpAny (bJ X) X.A (spliced (gk p (aW es X.env))) (Tw X k σ Q) X.xe s
def jx(X:aC)(st:Stmt)(t:g9):Prop:=
 ∀(k:bF) (s:ao) (σ:St) (H:ah) (D:Ends),Inv X k σ H s->t D σ H->wpAny (bJ X) X.A (exec st X.env) (yk X k D) X.xe s
def iu(X:aC)(st:List Stmt)(t:g9):Prop:=
 ∀(k:bF) (s:ao) (σ:St) (H:ah) (D:Ends),Inv X k σ H s->t D σ H->wpAny (bJ X) X.A (execs st X.env) (yk X k D) X.xe s
def aZ(h:wpAny M A t Q E s)(b:∀a s,Q a s->Q' a s):wpAny M A t Q' E s:=iq h b λ _ _ x=>x
section
variable{X:aC}
def Tx{a b:Expr}{ta tb:bz}(ha:aY X a ta)(e:aY X b tb){k:bF}{s:ao}{σ:St}{H:ah}{R:V->V->ah->Prop}(I:Inv X k σ H s)(h:ta σ H λ x d=>tb σ d λ y c=>R x y c)
  {α:Type}{Q:α->ao->Prop}{f:Value->Value->Sem α}
  (hf:∀v u s2 x y c,Inv X k σ c s2->RelV x v->RelV y u->R x y c->wpAny (bJ X) X.A (f v u) Q X.xe s2):
  wpAny (bJ X) X.A (eval a X.env) (λ v z=>wpAny (bJ X) X.A (eval b X.env) (λ u g=>wpAny (bJ X) X.A (f v u) Q X.xe g) X.xe z) X.xe s:=by
 refine aZ (ha k s σ H _ I h) λ v i ⟨x,d,j,r,q⟩=>?_
 refine aZ (e k i σ d _ j q) λ u s2 ⟨y,c,l,m,n⟩=>?_
 exact hf v u s2 x y c l r m n
def iw(i:Nat):bz:=λ σ H Q=>∃v,σ[i]? =some (some v)/\Q v H
def m7(v:V):bz:=λ _ H Q=>Q v H
abbrev _root_.Nd(x:PySem.Str):Prop:=(x==("__debug__":PySem.Str))=false
def jz(N:X.N[i]? =some x)(j:j7 X.env.scope x)(d:Nd x:=by decide)(b:(x==("__classdict__":Str))=false:=by decide):aY X (.Name x pos) (iw i):=by
 intro q s σ H Q I h;obtain⟨v,e,h⟩:=h;obtain⟨m,n,o⟩:=I.loc;obtain⟨u,r,l⟩:=o i x v N e j;have f:hh X _ σ Q u s:=⟨v,H,I,r,h⟩;rcases l with ⟨k,p⟩|⟨k,c,g,a⟩
 .exact vd (DX I.ok.kind k n p f) d
 .rcases k with k|k
  .exact vd (DZ I.ok.kind k g a f) d
  .exact vd (Kl I.ok.kind k g a f b) d
def E0{i j pos}:aY X (.Constant (.int i) j pos) (m7 (.int i)):=λ _ _ _ H _ I h=>wpAny_Constant_int ⟨.int i,H,I.tok _,⟨_,rfl⟩,h⟩
def E1{b j pos}:aY X (.Constant (.bool b) j pos) (m7 (.bl b)):=λ _ _ _ H _ I h=>Constant_bool ⟨.bl b,H,I,rfl,h⟩
def Tz{j pos}:aY X (.Constant .none j pos) (m7 .non):=λ _ _ _ H _ I h=>Constant_none ⟨.non,H,I,rfl,h⟩
def jA{x j pos}:aY X (.Constant (.str x) j pos) (m7 (.str x)):=λ _ _ _ H _ I h=>Calls.Constant_str ⟨.str x,H,I.tok _,⟨_,rfl⟩,h⟩
def cN(X:aC)(x:Str):Prop:=X.env.kindOf x=some .globalImplicit
def vt(I:Inv X kX σ H s)(g:cN X x)(m:X.mg x=some u)(h:Q u s)
  (d:Nd x:=by decide):wpAny (bJ X) X.A (eval (.Name x pos) X.env) Q E s:=
 KB I.ok.kind g (Calls.loadGlobal_global (by rw[I.ok.glob];exact I.mod.glob.keeps I.bk) m h) d
def vv(I:Inv X kX σ H s)(g:cN X x)(m:X.mg x=none)(v:fu x=some u)(h:Q u s)
  (n:x≠"__name__":=by decide)(d:Nd x:=by decide):wpAny (bJ X) X.A (eval (.Name x pos) X.env) Q E s:=by
 obtain⟨c,a,b⟩:=I.mod.blt;exact KB I.ok.kind g (Calls.loadGlobal_builtin (by rw[I.ok.glob];exact I.mod.glob.keeps I.bk) m (by rw[I.ok.blt];exact a.keeps I.bk) ((b x n).trans v) h) d
def kx(g:cN X x)(m:X.mg x=some u)(r:RelV v u)(d:Nd x:=by decide):aY X (.Name x pos) (m7 v):=
 λ _ _ _ H _ I h=>vt I g m ⟨v,H,I,r,h⟩ d
def Mj(g:cN X x)(m:X.mg x=none)(a:fu x=some u)(r:RelV v u)(n:x≠"__name__":=by decide)(d:Nd x:=by decide):aY X (.Name x pos) (m7 v):=
 λ _ _ _ H _ I h=>vv I g m a ⟨v,H,I,r,h⟩ n d
def TA(ta tb:bz)(k:Int->Int->ah->Prop):St->ah->Prop:=λ σ H=>ta σ H λ x a=>tb σ a λ y b=>∃i j,x= .int i/\y= .int j/\k i j b
variable{a b:Expr}{ta tb:bz}{o:Pos}
def E3(X:aC)(op:CmpOp)(a b:Expr)(t:bz):Prop:=
 ∀(k:bF) (s:ao) (σ:St) (H:ah) (Q:br),Inv X k σ H s->t σ H Q->
  wpAny (bJ X) X.A (eval a X.env) (λ v z=>wpAny (bJ X) X.A (eval b X.env) (λ u c=>wpAny (bJ X) X.A (eK op v u) (hh X k σ Q) X.xe c) X.xe z) X.xe s
def TB(b:Expr)(h:op≠.In)(a:op≠.NotIn):mL op b=false:=by
 have e:(op==CmpOp.In)=false:=by cases op<;>first|rfl|exact absurd rfl h
 have c:(op==KF)=false:=by cases op<;>first|rfl|exact absurd rfl a
 cases b<;>simp[mL,e,c]
def Mk(p:Int->Int->Bool)(ta tb:bz):bz:=λ σ H Q=>TA ta tb (λ i j a=>Q (.bl (p i j)) a) σ H
abbrev TC:bz->bz->bz:=Mk λ i j=>!decide (i=j)
def TF{op:CmpOp}{p:Int->Int->Bool}(ha:aY X a ta)(c:aY X b tb)
  (r:∀(i j:Int) (t u:Tok) (Q:Value->ao->Prop) (s:ao),Q (.bool (p i j)) s->wpAny (bJ X) X.A (eK op (.int i t) (.int j u)) Q X.xe s):E3 X op a b (Mk p ta tb):=by
 intro k s σ H Q I h;refine Tx ha c I h λ v u s2 x y d e f g q=>?_
 obtain⟨i,j,rfl,rfl,q⟩:=q;obtain⟨t,rfl⟩:=f;obtain⟨t',rfl⟩:=g;exact r i j t t' _ s2 ⟨.bl _,d,e,rfl,q⟩
def TG(ha:aY X a ta)(c:aY X b tb):E3 X .NotEq a b (TC ta tb):=TF ha c λ _ _ _ _ _ _ h=>ne_int (by rw[bne,Bool.beq_eq_decide_eq];exact h)
def Ml(t:bz):ih:=λ σ H Q=>t σ H λ x a=>∃c,x= .bl c/\Q c a
def TH(h:E3 X op a b t)(e:mL op b=false:=by first|exact TB _ (by decide) (by decide)|rfl):jw X (.Compare a [op] [b] o) (Ml t):=by
 intro k s σ H Q I w;refine Kj (aZ (h k s σ H _ I w) λ v l e=>aZ e λ u s2 f=>aZ f λ c s3 ⟨x,g,i,r,j⟩=>?_) e;obtain⟨d,rfl,q⟩:=j;cases r;exact pf ⟨g,i,q⟩
def Mm(h:aY X e t)(a:∀w,isTrue e X.env w=(do let v <-w;qM e.pos;gB [v] (truthy v)):=by z_go):jw X e (Ml t):=by
 intro k s σ H Q I b;refine isTrue_plain (aZ (h _ s σ H _ I b) λ v i ⟨x,c,f,r,g⟩=>?_) (a _);obtain⟨d,rfl,q⟩:=g;cases r;exact pf ⟨c,f,q⟩
variable{A B:ih}{rest:List Expr}
def TI(t u:ih):ih:=λ σ H Q=>t σ H λ c a=>if c=true then u σ a Q else Q false a
def TJ(t u:ih):ih:=λ σ H Q=>t σ H λ c a=>if c=true then Q true a else u σ a Q
def TK(t:ih):ih:=λ σ H Q=>t σ H λ c a=>Q (!c) a
def TL(ha:jw X a A):pz X (.BoolOp .And [a] o) A:=by
 intro w k s σ H Q I h;refine isTrue_and (aZ (ha _ s σ H Q I h) λ c b e=>?_);cases c with
 |true=>exact isTrue_and_nil e
 |false=>assumption
def Mn(ha:jw X a A):pz X (.BoolOp .Or [a] o) A:=by
 intro w k s σ H Q I h;refine isTrue_or (aZ (ha _ s σ H Q I h) λ c b e=>?_);cases c with
 |false=>exact isTrue_or_nil e
 |true=>assumption
def TM(ha:jw X a A)(d:pz X (.BoolOp .And (b::rest) o) B):pz X (.BoolOp .And (a::b::rest) o) (TI A B):=by
 intro w k s σ H Q I h;refine isTrue_and (aZ (ha _ s σ H _ I h) λ c e ⟨f,g,q⟩=>?_);cases c with
 |true=>exact d w _ e σ f Q g q
 |false=>assumption
def Mo(ha:jw X a A)(d:pz X (.BoolOp .Or (b::rest) o) B):pz X (.BoolOp .Or (a::b::rest) o) (TJ A B):=by
 intro w k s σ H Q I h;refine isTrue_or (aZ (ha _ s σ H _ I h) λ c e ⟨f,g,q⟩=>?_);cases c with
 |true=>assumption
 |false=>exact d w _ e σ f Q g q
def E4(ha:jw X a A):jw X (.UnaryOp .Not a o) (TK A):=by
 intro k s σ H Q I h;exact isTrue_not (ha _ s σ H _ I h)
def TN(ta tb:bz):bz:=λ σ H Q=>ta σ H λ x a=>∃c,x= .bl c/\if c=true then tb σ a Q else Q (.bl false) a
def TO(ha:aY X a ta)(f:aY X (.BoolOp .And (b::rest) o) tb):aY X (.BoolOp .And (a::b::rest) o) (TN ta tb):=by
 intro k s σ H Q I h;refine BoolOp_and (aZ (ha _ s σ H _ I h) λ v g ⟨x,d,e,r,q⟩=>?_);obtain⟨c,rfl,q⟩:=q;cases r;refine pf ?_;cases c with
 |true=>exact f _ g σ d Q e q
 |false=>exact⟨.bl _,d,e,rfl,q⟩
end
def bN(K:av)(H:ah)(a:Addr)(xs:List V):Prop:=
 Bm H a (.lst xs)\/
  ∃(o:Obj) (i:Array Value) (n:Nat),K.lookup a=some o/\o.cls= .type "list"/\o.dict=none/\o.data= .seq i n/\i.size<=aI/\Vals xs i.toList
def bf(K:av)(H:ah)(a:Addr)(xs:List V):Prop:=
 Bm H a (.tup xs)\/
  ∃(o:Obj) (i:Array Value) (n:Nat),K.lookup a=some o/\o.cls= .type "tuple"/\o.dict=none/\o.data= .seq i n/\i.size<=aI/\Vals xs i.toList
noncomputable def TP:Value->Option V
 | .none=>some .non
 | .bool b=>some (.bl b)
 | .int i _=>some (.int i)
 | .str x _=>some (.str x)
 | .bytes b _=>some (.byt b)
 | .float b _=>some (.flt b)
 | .ref a=>some (.ref a)
 | .type n=>some (.ty n)
 |_=>none
def RelV.abs(r:RelV x u):TP u=some x:=by
 cases x with
 |non=>cases r;rfl
 |bl _=>cases r;rfl
 |int _=>obtain⟨t,rfl⟩:=r;rfl
 |str _=>obtain⟨t,rfl⟩:=r;rfl
 |byt _=>obtain⟨t,rfl⟩:=r;rfl
 |flt _=>obtain⟨t,rfl⟩:=r;rfl
 |ref _=>cases r;rfl
 |ty _=>cases r;rfl
def RelV.inj(r:RelV x u)(q:RelV y u):x=y:=hX (r.abs.symm.trans q.abs)
theorem Vals.inj:∀{xs y:List V} {us:List Value},Vals xs us->Vals y us->xs=y
 |_,_,_,.nil,.nil=>rfl
 |_,_,_,.cons r t,.cons a t'=>by rw[r.inj a,Vals.inj t t']
section
variable{X:aC}{k:bF}{σ:St}{H:ah}{s:ao}{a:Addr}{xs y:List V}
def bN.of{K:av}(h:H a=some (.lst xs)):bN K H a xs:=.inl (.inl h)
def bf.of{K:av}(h:H a=some (.tup xs)):bf K H a xs:=.inl (.inl h)
def Inv.list(I:Inv X k σ H s)(h:bN X.K H a xs):∃i:List Value,Vals xs i/\PlainL s.heap a i.toArray/\xs.length<=aI:=by
 rcases h with h|⟨o,i,n,b,c,d,f,hz,r⟩
 .obtain⟨z,i,n,r,e⟩:=h.ok I.hok
  exact⟨_,r,⟨_,n,e,rfl,rfl,rfl⟩,z⟩
 .refine⟨_,r,⟨o,n,I.kIn a o b,c,d,by assumption⟩,?_⟩
  have e:=r.length;simp_all
def Inv.tuple(I:Inv X k σ H s)(h:bf X.K H a xs):∃i:List Value,Vals xs i/\IsTup s.heap a i.toArray/\xs.length<=aI:=by
 rcases h with h|⟨o,i,n,b,c,d,f,hz,r⟩
 .obtain⟨z,i,r,p⟩:=h.ok I.hok
  exact⟨_,r,p,z.1⟩
 .refine⟨_,r,⟨o,I.kIn a o b,c,n,by assumption⟩,?_⟩
  have e:=r.length;simp_all
def Inv.list_inj(I:Inv X k σ H s)(h:bN X.K H a xs)(h':bN X.K H a y):xs=y:=by
 obtain⟨i,r,⟨o,n,e,_,_,d⟩,_⟩:=I.list h;obtain⟨its',b,⟨f,n',c,_,_,d'⟩,_⟩:=I.list h';rw[e]at c;have:i=its':=by simp_all
 subst this;exact r.inj b
def Inv.tuple_inj(I:Inv X k σ H s)(h:bf X.K H a xs)(h':bf X.K H a y):xs=y:=by
 obtain⟨i,r,⟨o,e,_,n,d⟩,_⟩:=I.tuple h;obtain⟨its',b,⟨f,c,_,n',d'⟩,_⟩:=I.tuple h';rw[e]at c;have:i=its':=by simp_all
 subst this;exact r.inj b
end
section
variable{X:aC}{st:Stmt}{rest:List Stmt}{t u:g9}{e:Expr}{g:bz}{p:Pos}
def TQ:g9:=λ D σ H=>D.nx σ H
def TR(t u:g9):g9:=λ D σ H=>t {D with nx:=u D} σ H
def E5:iu X [] TQ:=λ _ _ σ H _ I h=>xK ⟨σ,H,I,h⟩
def n7(a:jx X st t)(b:iu X rest u):iu X (st::rest) (TR t u):=by
 intro k s σ H D I h;refine wpAny_execs_cons (aZ (a _ s σ H _ I h) λ f c q=>?_);cases f with
 |next=>
  obtain⟨d,H',e,q⟩:=q;exact b _ c _ H' D e q
 |ret v=>assumption
 |brk=>assumption
 |cont=>assumption
def tF(a:jx X st t):iu X [st] t:=by
 intro k s σ H D I h;refine wpAny_execs_cons (aZ (a _ s σ H D I h) λ f b q=>?_);cases f with
 |next=>exact xK q
 |ret v=>assumption
 |brk=>assumption
 |cont=>assumption
def Inv.quiet(I:Inv X kX σ H s):interactive X.env=false:=by simp[interactive,I.ok.kind]
def vw(g:bz):g9:=λ D σ H=>g σ H λ _ a=>D.nx σ a
def ym(a:aY X e g)(b:nY e none p.line X.env=pure false:=by rfl):jx X (.Expr e p) (vw g):=by
 intro k s σ H D I h;exact wpAny_Expr_any (aZ (a _ s σ H _ I h) λ v f ⟨x,c,d,r,q⟩=>⟨σ,c,d,q⟩) I.quiet b
def E6(g:bz):g9:=λ D σ H=>g σ H D.rt
def yn(a:aY X e g):jx X (.Return (some e) p) (E6 g):=by
 intro k s σ H D I h;exact wpAny_Return_some (aZ (a _ s σ H _ I h) λ v d ⟨x,b,c,r,q⟩=>⟨x,σ,b,c,r,q⟩)
def TS(c:ih)(t u:g9):g9:=λ D σ H=>c σ H λ b a=>if b=true then t D σ a else u D σ a
def E7(i:jw X c tc)(ha:iu X a t)(j:iu X b u):jx X (.If c a b p) (TS tc t u):=by
 intro k s σ H D I h;refine wpAny_If (aZ (i _ s σ H _ I h) λ d e ⟨f,g,q⟩=>?_);cases d with
 |true=>exact ha _ e σ f D g q
 |false=>exact j _ e σ f D g q
end
abbrev j8:=V->St->ah->(St->ah->Prop)->Prop
abbrev rf:=List V->St->ah->(St->ah->Prop)->Prop
def m8(X:aC)(a:Expr)(t:j8):Prop:=
 ∀(k:bF) (s:ao) (σ:St) (H:ah) (v:V) (u:Value) (Q:St->ah->Prop),Inv X k σ H s->RelV v u->t v σ H Q->
  wpAny (bJ X) X.A (i5 a X.env u) (λ _ s'=>∃b H',Inv X k b H' s'/\Q b H') X.xe s
def yo(X:aC)(b:List Expr)(t:rf):Prop:=
 ∀(k:bF) (s:ao) (σ:St) (H:ah) (v:List V) (us:List Value) (Q:St->ah->Prop),Inv X k σ H s->Vals v us->t v σ H Q->
  wpAny (bJ X) X.A (assignInOrder ((ko b X.env).map (·.2)) us) (λ _ s'=>∃a H',Inv X k a H' s'/\Q a H') X.xe s
abbrev Mp:=V->V->V->ah->(ah->Prop)->Prop
def Mq(X:aC)(t:Mp):Prop:=
 ∀(k:bF) (s:ao) (σ:St) (H:ah) (o i v:V) (a b u:Value) (Q:ah->Prop),Inv X k σ H s->RelV o a->RelV i b->RelV v u->t o i v H Q->
  wpAny (bJ X) X.A (td a b u) (λ _ s'=>∃H',Inv X k σ H' s'/\Q H') X.xe s
abbrev E8:=V->V->ah->br->Prop
def Br(X:aC)(op:Operator)(t:E8):Prop:=
 ∀(k:bF) (s:ao) (σ:St) (H:ah) (x y:V) (v u:Value) (Q:br),Inv X k σ H s->RelV x v->RelV y u->t x y H Q->
  wpAny (bJ X) X.A (inplaceOp op v u) (hh X k σ Q) X.xe s
section
variable{X:aC}{p:Pos}
def n8(i:Nat):j8:=λ v σ H Q=>Q (σ.set i (some v)) H
def TT(N:X.N.Nodup)(a:X.N[i]? =some x)(b:kW X.env.scope x)(hf:X.fn x=true\/X.env.scope.names.lookup x=some .local:=by k_go):m8 X (.Name x p) (n8 i):=by
 intro k s σ H v u Q I r h;exact Kp (Bp I N a b r (λ s' c=>⟨_,H,c,h⟩) hf)
def E9:rf:=λ v σ H Q=>v=[]/\Q σ H
def Fb(t:j8)(u:rf):rf:=λ s σ H Q=>∃v r,s=v::r/\t v σ H λ a H'=>u r a H' Q
def TU:yo X [] E9:=by
 intro k s σ H v us Q I r h;obtain⟨e,h⟩:=h;exact assignInOrder_nil ⟨σ,H,I,h⟩
def TV(a:m8 X e t)(b:yo X es u)
  (c:(ko (e::es) X.env).map (·.2)=i5 e X.env::(ko es X.env).map (·.2):=by rfl):yo X (e::es) (Fb t u):=by
 intro k s σ H l us Q I r h;obtain⟨v,m,d,h⟩:=h;subst d;cases r with
 |cons r f=>
  rw[c];refine assignInOrder_cons (aZ (a _ s σ H _ _ _ I r h) λ _ g ⟨_,i,j,q⟩=>?_);exact b _ g _ i _ _ Q j f q
def Bs(K:av)(n:Nat)(t:rf):j8:=λ v σ H Q=>∃a xs,v= .ref a/\bf K H a xs/\xs.length=n/\t xs σ H Q
def TX(d:X.calm=true)(h:yo X es t)
  (f:(ko es X.env).length=n:=by rfl)(c:(ko es X.env).findIdx? (·.1)=none:=by rfl):m8 X (.Tuple es k p) (Bs X.K n t):=by
 intro z s σ H v u Q I r w;obtain⟨a,xs,g,q,l,w⟩:=w;subst g;cases r;obtain⟨i,j,m,hz⟩:=I.tuple q;refine assign_Tuple_tuple (I.ok.hd d) m (by simp[f,<-l,j.length]) c λ h' x=>?_
 have y:=I.kept (t':=s.toks) λ b o e=>x b o (cH (bE e)) e
 exact h _ _ σ H xs _ Q y (by assumption) w
def Mr(a ti:bz)(t:Mp):j8:=λ v σ H Q=>a σ H λ o b=>ti σ b λ i c=>t o i v c λ d=>Q σ d
def TY(c:aY X o to)(d:aY X i ti)(e:Mq X t)
  (ha:∀v,i5 (.Subscript o i p) X.env v=(do
   let a <-gB [v] (eval o X.env);let b <-gB [v,a] (eval i X.env)
   qM p
   gB [v,a,b] (td a b v)
   release [v,a,b] []):=by z_go):m8 X (.Subscript o i p) (Mr to ti t):=by
 intro k s σ H v u Q I r h;rw[ha];refine ak (iL (aZ (c k s σ H _ I h) λ a f ⟨x,g,j,l,q⟩=>?_));refine ak (iL (aZ (d k f σ g _ j q) λ b s2 ⟨y,m,n,w,z⟩=>?_));refine ak (AH (ak (iL (aZ (e k s2 σ m x y v a b u _ n l w r z) λ _ s3 ⟨A,B,C⟩=>?_))));exact wpAny_release ⟨σ,A,B,C⟩
def n9(t:bz)(g:j8):g9:=λ D σ H=>t σ H λ x a=>g x σ a D.nx
def Bt(a:aY X e te)(b:m8 X tg g)(c:xP [tg] e p.line X.env=pure false:=by rfl)(w:xO [tg] e X.env=pure none:=by rfl)
  (d:(ko [tg] X.env).map (·.2)=[i5 tg X.env]:=by rfl):jx X (.Assign [tg] e p) (n9 te g):=by
 intro l s σ H D I h;refine wpAny_Assign_stores (aZ (a _ s σ H _ I h) λ v f ⟨x,i,j,r,k⟩=>?_) c w;rw[d];exact aZ (b _ f σ i x v _ j r k) λ _ s2 q=>q
def pA(N:X.N.Nodup)(a:X.N[i]? =some x)(b:kW X.env.scope x)(c:aY X e te)(d:nY e (some (.Name x pos')) p.line X.env=pure false:=by rfl)(hf:X.fn x=true\/X.env.scope.names.lookup x=some .local:=by k_go):
  jx X (.Assign [.Name x pos'] e p) (n9 te (n8 i)):=by
 intro k s σ H D I h;refine wpAny_Assign_Name (aZ (c _ s σ H _ I h) λ v l ⟨y,f,g,r,q⟩=>?_) d;exact Bp g N a b r (λ s2 j=>⟨_,f,j,q⟩) hf
def TZ(i:Nat)(t:bz)(ti:E8):g9:=λ D σ H=>∃x,σ[i]? =some (some x)/\t σ H λ y a=>ti x y a λ z b=>D.nx (σ.set i (some z)) b
def Ms(N:X.N.Nodup)(j:X.N[i]? =some x)(d:kW X.env.scope x)(n:aY X e te)(q:Br X op ti)(hf:X.fn x=true\/X.env.scope.names.lookup x=some .local:=by k_go):
  jx X (.AugAssign (.Name x pos') op e p) (TZ i te ti):=by
 intro f s σ H D I h;obtain⟨v,t,h⟩:=h;obtain⟨m,A,B⟩:=I.loc;have g:j7 X.env.scope x:=by rcases d with k|k;exact .inl k;exact .inr (.inl k)
 obtain⟨u,r,l⟩:=B i x v j t g;refine wpAny_AugAssign_Name ?_;have o:wpAny (bJ X) X.A (eval e X.env) (λ w C=>wpAny (bJ X) X.A (inplaceOp op u w) (λ r E=>wpAny (bJ X) X.A (storeName X.env x r) (λ _=>yk X f D .next) X.xe E) X.xe C) X.xe s:=by
  refine aZ (n f s σ H _ I h) λ w F ⟨y,G,J,K,L⟩=>?_
  refine aZ (q f F σ G v y u w _ J r K L) λ z s2 ⟨U,M,O,P,Q⟩=>?_
  exact Bp O N j d P (λ s3 R=>⟨_,M,R,Q⟩) hf
 rcases l with ⟨a,S⟩|⟨a,c,T,b⟩
 .exact DX I.ok.kind a A S o
 .rcases a with a|a
  .exact DZ I.ok.kind a T b o
  .rcases d with k|k
   .have:X.env.scope.names.lookup x=some .free:=a
    rw[k]at this;cases this
   .have:X.env.scope.names.lookup x=some .free:=a
    rw[k]at this;cases this
def Mt(f:Int->Int->Int):E8:=λ x y H Q=>∃i j,x= .int i/\y= .int j/\Q (.int (f i j)) H
def Mu:Br X .Add (Mt λ i j=>i+j):=by
 intro k s σ H x y v u Q I r a h;obtain⟨i,j,e,b,q⟩:=h;subst e;subst b;obtain⟨t,rfl⟩:=r;obtain⟨t',rfl⟩:=a;exact iadd_int ⟨.int _,H,I.tok _,⟨_,rfl⟩,q⟩
end
section
variable{X:aC}{p:Pos}
def T1(c:ih)(tb:g9):g9:=λ D σ H=>∃W:Nat->St->ah->Prop,(∃m,W m σ H)/\∀m σ H,W m σ H->
 c σ H λ b d=>if b=true then∃N:St->ah->Prop,(∀a H',N a H'->∃m',m'<m/\W m' a H')/\tb {D with nx:=N,ct:=N,bk:=D.nx} σ d else D.nx σ d
def T2(o:AL (bJ X) X.A X.env X.xe)(y:jw X c tc)(z:iu X body tb):jx X (.While c body [] p) (T1 tc tb):=by
 intro k s σ H D I h;obtain⟨W,⟨A,B⟩,turn⟩:=h;refine wpAny_While (codeAny_whileLoop (λ n s'=>∃e H',Inv X k e H' s'/\W n e H') ?_ A ⟨σ,H,I,B⟩);rintro n C ⟨d,r,E,w1⟩;refine sT o (aZ (y k C d r _ E (turn n d r w1)) λ b s2 ⟨t,u,q⟩=>?_);cases b with
 |true=>
  obtain⟨N,x,q⟩:=q;refine sT o (aZ (z k s2 d t _ u q) λ f s3 i=>?_);cases f with
  |next=>
   obtain⟨a,g,j,l⟩:=i;obtain⟨m',m,w⟩:=x a g l;exact⟨m',m,a,g,j,w⟩
  |cont=>
   obtain⟨a,g,j,l⟩:=i;obtain⟨m',m,w⟩:=x a g l;exact⟨m',m,a,g,j,w⟩
  |brk=>exact i
  |ret v=>exact i
 |false=>
  exact xK ⟨d,t,u,q⟩
end
structure kY where
 go:Nat->ah->Prop
 yld:Nat->ah->V->ah->Prop
 stop:Nat->ah->Prop
def lg(X:aC)(k:bF)(H:ah)(b:Addr):Prop:=
 H b=none/\b≠X.env.locals/\b∉X.fs/\(b∈X.ex\/X.z4.heap.objs.size<=b)/\(∀x c,X.env.cells.lookup x=some c->c≠b)/\∀p∈X.ta++(X.pn++k),p.1≠b
def Inv.fpOk(I:Inv X kX σ H s)(h:s.heap.objs.size<=b)(n:H' b=none):lg X kX H' b:=by
 refine⟨n,kR (eZ I.lt h),I.nofs h,.inr (eJ I.sz h),λ x c e z=>?_,λ p a z=>?_⟩
 .obtain⟨v,q⟩:=I.cell x c e
  exact absurd (eZ q.lt (by simp_all)) (kQ _)
 .exact absurd (eZ (I.pinL a) (by simp_all)) (kQ _)
structure Turn(P:aR)(w:World)(K:av)(tg:Expr)(J:kY)(fp:List Addr)(it:Addr)(tn:Nat->Heap->Prop):Prop where
 mem:it∈fp
 obj:∀i h,tn i h->∀b∈fp,∃o,h.get? b=some o/\∀v,o.data≠.cell v
 keep:∀i h h',tn i h->(∀b∈fp,∀o,h.get? b=some o->h'.get? b=some o)->tn i h'
 item:∀(X:aC),X.prog=P->X.w=w->X.K=K->X.calm=true->∀(i:Nat) (kX:bF) (s:ao) (σ:St) (H:ah) (E:Value->ao->Prop),Inv X kX σ H s->(∀b∈fp,lg X kX H b)->tn i s.heap->J.go i H->
  wpAny (model P w) X.A (jY (.ref it)) (λ r s1=>∃u,r=some u/\
   wpAny (model P w) X.A (AB tg (.ref it) u) (λ _ s2=>∃x H',Inv X kX σ H' s2/\RelV x u/\J.yld i H x H'/\tn (i+1) s2.heap/\∀b∈fp,H' b=none) E s1) E s
 done:∀(X:aC),X.prog=P->X.w=w->X.K=K->X.calm=true->∀(i:Nat) (kX:bF) (s:ao) (σ:St) (H:ah) (E:Value->ao->Prop),Inv X kX σ H s->(∀b∈fp,lg X kX H b)->tn i s.heap->J.stop i H->
  wpAny (model P w) X.A (jY (.ref it)) (λ r s1=>r=none/\Inv X kX σ H s1) E s
 self:∀(A:aS) (i:Nat) (s:ao) (Q:Value->ao->Prop) (E:Value->ao->Prop),tn i s.heap->Q (.ref it) s->wpAny (model P w) A (tf (.ref it)) Q E s
abbrev dZ:=St->ah->(kY->ah->Prop)->Prop
def Mv(X:aC)(k:bF)(σ:St)(g:Expr)(R:kY->ah->Prop)(i:Value)(s2:ao):Prop:=
 ∃(t:Addr) (f:List Addr) (tn:Nat->Heap->Prop) (J:kY) (H':ah),i= .ref t/\Inv X k σ H' s2/\Turn X.prog X.w X.K g J f t tn/\tn 0 s2.heap/\(∀b∈f,lg X k H' b)/\R J H'
def pB(X:aC)(t i:Expr)(w:dZ):Prop:=
 ∀(k:bF) (s:ao) (σ:St) (H:ah) (R:kY->ah->Prop),Inv X k σ H s->w σ H R->
  wpAny (bJ X) X.A (eval i X.env) (λ v a=>wpAny (bJ X) X.A (tf v) (Mv X k σ t R) X.xe a) X.xe s
def Fc(b:s.heap.get? it=some o)(c:o.cls= .type n)(d:o.data= .fields vs)
    (e:["enumerate","zip","dict_itemiterator","dict_reverseitemiterator","odict_iterator","itertools.zip_longest","itertools.pairwise"].contains n=false)(a:Q () s):wpAny M A (AB tg (.ref it) u) Q E s:=by
  unfold AB;cases tg<;>first
    |exact aB a
    | (cases u <;> first
        |exact aB a
        | (refine ak (wpAny_load b ?_)
           rw[c,d];show wpAny M A (if (["enumerate","zip","dict_itemiterator","dict_reverseitemiterator","odict_iterator","itertools.zip_longest","itertools.pairwise"].contains n&&vs[0]? ==some (mS _))=true then _ else _) Q E s;rw[if_neg (by intro h;rw[e,Jl]at h;cases h)];exact aB a))
def Fd(K:av)(a:Addr):kY:=
 ⟨λ i H=>∃xs x,bN K H a xs/\xs[i]? =some x,λ i H x H'=>H'=H/\∀xs,bN K H a xs->xs[i]? =some x,λ i H=>∃xs,bN K H a xs/\xs.length<=i⟩
def Fe(K:av)(a:Addr):kY:=
 ⟨λ i H=>∃xs x,bf K H a xs/\xs[i]? =some x,λ i H x H'=>H'=H/\∀xs,bf K H a xs->xs[i]? =some x,λ i H=>∃xs,bf K H a xs/\xs.length<=i⟩
def yp(l:Int)(n:Nat):kY:=⟨λ i _=>i<n,λ i H x H'=>H'=H/\x= .int (l+i),λ i _=>n<=i⟩
def T3{P:aR}{w:World}{K:av}{L:Expr}(a t:Addr):Turn P w K L (Fd K a) [t] t (λ i h=>h.IsListIter t a i) where
 mem:=by simp
 obj:=λ i h st b f=>by
  have e:b=t:=by simpa using f
  subst e;obtain⟨o,e,c,d⟩:=st;exact⟨o,e,λ v z=>by rw[d]at z;cases z⟩
 keep:=λ i h h' st k=>st.at λ o e=>k t (by simp) o e
 item:=by
  intro X j l hK G i J s σ H E I hf st m;subst j l hK;obtain⟨xs,x,q,n⟩:=m;obtain⟨r,y,p,hz⟩:=I.list q;obtain⟨u,M,N⟩:=y.get n;obtain⟨A,B,O,C,D,F⟩:=hf t (by simp);refine wpAny_pyNext_list_item st p.isList (x:=u) (by simpa using M) λ h' g Q=>?_
  have R:Inv X J σ H {s with heap:=h'}:=I.turned (t':=s.toks) (λ b o f e=>(Q.2 b f).trans e) A B C D F;obtain⟨o,e,c,d⟩:=id g;exact⟨u,rfl,Fc (s:={s with heap:=h'}) e c d (by decide) ⟨x,H,R,N,⟨rfl,λ T S=>by rw[I.list_inj S q];exact n⟩,g,λ b f=>(hf b f).1⟩⟩
 done:=by
  intro X j l hK G i J s σ H E I hf st m;subst j l hK;obtain⟨xs,q,n⟩:=m;obtain⟨r,y,p,hz⟩:=I.list q;obtain⟨A,B,O,C,D,F⟩:=hf t (by simp);have U:=y.length;exact wpAny_pyNext_list_end (I.ok.hd G) st p.isList (by simp;simp_all) λ h' eb=>⟨rfl,I.turned (t':=s.toks) (λ b o f e=>eb b o f e) A B C D F⟩
 self:=λ _ _ _ _ _ st h=>wpAny_pyIter_listiter st h
def T4{P:aR}{w:World}{K:av}{L:Expr}(a t:Addr):Turn P w K L (Fe K a) [t] t (λ i h=>h.IsTupleIter t a i) where
 mem:=by simp
 obj:=λ i h st b f=>by
  have e:b=t:=by simpa using f
  subst e;obtain⟨o,e,c,d⟩:=st;exact⟨o,e,λ v z=>by rw[d]at z;cases z⟩
 keep:=λ i h h' st k=>st.at λ o e=>k t (by simp) o e
 item:=by
  intro X l m hK G i J s σ H E I hf st n;subst l m hK;obtain⟨xs,x,q,r⟩:=n;obtain⟨g,y,p,hz⟩:=I.tuple q;obtain⟨u,M,N⟩:=y.get r;obtain⟨A,B,O,C,D,F⟩:=hf t (by simp);refine wpAny_pyNext_tuple_item st (show s.heap.IsTuple a g.toArray from p) (x:=u) (by simpa using M) λ h' j Q=>?_
  have R:Inv X J σ H {s with heap:=h'}:=I.turned (t':=s.toks) (λ b o f e=>(Q.2 b f).trans e) A B C D F;obtain⟨o,e,c,d⟩:=id j;exact⟨u,rfl,Fc (s:={s with heap:=h'}) e c d (by decide) ⟨x,H,R,N,⟨rfl,λ T S=>by rw[I.tuple_inj S q];exact r⟩,j,λ b f=>(hf b f).1⟩⟩
 done:=by
  intro X l m hK G i J s σ H E I hf st n;subst l m hK;obtain⟨xs,q,r⟩:=n;obtain⟨g,y,p,hz⟩:=I.tuple q;obtain⟨A,B,O,C,D,F⟩:=hf t (by simp);have U:=y.length;exact wpAny_pyNext_tuple_end (I.ok.hd G) st (show s.heap.IsTuple a g.toArray from p) (by simp;simp_all) λ h' eb=>⟨rfl,I.turned (t':=s.toks) (λ b o f e=>eb b o f e) A B C D F⟩
 self:=λ _ _ _ _ _ st h=>wpAny_pyIter_tupleiter st h
def T6{P:aR}{w:World}{K:av}{B:Expr}(a:Addr)(l:Int)(n:Nat):Turn P w K B (yp l n) [a] a (λ i h=>IsRangeIter h a (l+(i:Nat)*1) ((n:Int)-(i:Nat)) 1) where
 mem:=by simp
 obj:=λ i h st b c=>by
  have e:b=a:=by simpa using c
  subst e;exact⟨_,st,λ v z=>by
   have C:Data.fields _=Data.cell v:=z;cases C⟩
 keep:=λ i h h' st k=>k a (by simp) _ st
 item:=by
  intro X f g hK j i y s σ H E I hf st m;subst f g hK;obtain⟨p,q,D,r,u,x⟩:=hf a (by simp);have W:=Walks.range (prog:=X.prog) (w:=X.w) (I.ok.hd j) a l 1 n;refine W.item i s _ _ m st λ v h' A F d G=>?_
  obtain⟨t,rfl⟩:=F;have J:Inv X y σ H {s with heap:=h',toks:=A}:=I.turned (λ b o c e=>G b o (by simpa using c) e) p q r u x;refine⟨_,rfl,Fc (s:={s with heap:=h',toks:=A}) (n:="range_iterator") d rfl rfl (by decide) ⟨.int (l+i),H,J,⟨t,?_⟩,⟨rfl,rfl⟩,d,λ b c=>(hf b c).1⟩⟩;rw[Int.mul_one]
 done:=by
  intro X f g hK j i y s σ H E I hf st m;subst f g hK;obtain⟨p,q,D,r,u,x⟩:=hf a (by simp);exact wpAny_pyNext_range_end (I.ok.hd j) st (by have:n<=i:=m;lia) λ h' eb=>⟨rfl,I.turned (t':=s.toks) (λ b o c e=>eb b o c e) p q r u x⟩
 self:=λ _ _ _ _ _ st h=>wpAny_pyIter_rangeiter st h
section
variable{X:aC}{c:Expr}
def T7{k:bF}{σ:St}{H:ah}{s:ao}{R:kY->ah->Prop}{E:Value->ao->Prop}{l h:Int}{t u v:Tok}{a:Nat}(I:Inv X k σ H s)(f: -(2^62)<=l)(g:l<2^62)(i: -(2^62)<=h)(j:h<2^62)
  (q:R (yp l (h-l).toNat) H):wpAny (bJ X) X.A (tf (.ref s.heap.objs.size)) (Mv X k σ c R) E {s with heap:=s.heap.push {cls:=.type "range",data:=.fields #[.int l t,.int h u,.int 1 v]},toks:=a}:=by
 refine wpAny_pyIter_range (IsRange.new ..) (small_one f g i j) ?_;have d:Inv X k σ H {s with heap:=s.heap.push {cls:=.type "range",data:=.fields #[.int l t,.int h u,.int 1 v]},toks:=a}:=I.kept λ b o e=>bj _ e
 refine⟨_,_,_,_,H,rfl,
  d.kept (t':=a) λ b o e=>bj _ e,T6 _ l (h-l).toNat,?_,λ b m=>?_,q⟩
 .have n:l+((0:Nat):Int)*1=l:=by simp
  have p:(((h-l).toNat:Nat):Int)-((0:Nat):Int)=Ed l h 1:=by rw[rangeSize_one];split<;>grind
  rw[n,p];exact dr _ rfl
 .have e:b=(s.heap.push {cls:=.type "range",data:=.fields #[.int l t,.int h u,.int 1 v]}).objs.size:=by simpa using m
  subst e;exact d.fpOk (bc _) (d.hok.fresh (bc _))
def T8(ta:fv):dZ:=λ σ H R=>ta σ H λ v a=>∃j:Int,v=[.int j]/\-(2^62)<=j/\j<2^62/\R (yp 0 j.toNat) a
def T9{a:Expr}{ta:fv}{p o:Pos}(g:cN X "range")(m:X.mg "range"=none)(ha:eE X [a] ta)(d:aW [a] X.env=[(false,eval a X.env)]:=by rfl):pB X c (.Call (.Name "range" p) [a] [] o) (T8 ta):=by
 intro n s σ H R I h;refine Call_ (vv I g m boot_range (Ap (aZ (ha _ _ s σ H _ I h) λ us u ⟨v,w,f,i,b⟩=>?_) d rfl));obtain⟨j,e,b,k,q⟩:=b;subst e;cases i with
 |cons r l=>
  cases l;obtain⟨t,rfl⟩:=r;exact call_range_1 (T7 f (by simp) (by simp) b k (by simp_all))
def Ua(w:dZ)(g:j8)(tb:g9):g9:=λ D σ H=>w σ H λ J c=>∃W:Nat->Nat->St->ah->Prop,(∃m,W 0 m σ c)/\∀i m σ H,W i m σ H->
 (J.stop i H/\D.nx σ H)\/(J.go i H/\∃N:St->ah->Prop,(∀a H',N a H'->∃m',m'<m/\W (i+1) m' a H')/\∀x H',J.yld i H x H'->g x σ H' λ b d=>tb {D with nx:=N,ct:=N,bk:=D.nx} b d)
noncomputable def yq(f:List Addr)(h:Heap):bF:=f.filterMap λ b=>(h.get? b).map λ o=>(b,o)
def Ff(a:b∈fp)(e:h.get? b=some o):(b,o)∈yq fp h:=sD.mpr ⟨b,a,by simp_all⟩
def Mw(a:p∈yq fp h):p.1∈fp/\h.get? p.1=some p.2:=by
 obtain⟨b,c,e⟩:=sD.mp a;cases q:h.get? b<;>grind
def Inv.pinned(I:Inv X kX σ H s)(hf:∀b∈fp,lg X kX H b)(d:∀b∈fp,∃o,s.heap.get? b=some o/\∀v,o.data≠.cell v):Inv X (kX++yq fp s.heap) σ H s:=
 I.pins_of (λ p h=>(cu.mp h).elim (λ z=>I.pin p (gz _ z)) λ z=>by
  obtain⟨a,e⟩:=Mw z;obtain⟨f,g,i,_⟩:=hf _ a
  grind) λ q c p h=>(cu.mp c).elim (λ z=>(I.tab p h).2.2.2.1 q (gz _ z)) λ z=>((hf _ (Mw z).1).2.2.2.2.2 p (fQ _ h)).symm
def Inv.unpinned(I:Inv X (kX++aO) σ H s):Inv X kX σ H s:=I.pins_of (λ p h=>I.pin p (gz _ (fQ _ h))) λ q a p h=>(I.tab p h).2.2.2.1 q (gz _ (fQ _ a))
def Ub(A:AL (bJ X) X.A X.env X.xe)(R:X.calm=true)(Y:pB X c iter wi)(Z:m8 X c g)(j:iu X body tb)
  (hs:∀x,sR iter X.env x=pure x:=by z_go):jx X (.For c iter body [] pos) (Ua wi g tb):=by
 intro y s σ H D I h;refine wpAny_For (aZ (Y y s σ H _ I h) λ v s1 h1=>aZ h1 λ itv s2 h2=>?_) hs;obtain⟨it,B,tn,J,H2,e,I2,T,K,S,W,⟨m0,w0⟩,turn⟩:=h2;subst e;have P:∀{H':ah},(∀b∈B,H' b=none)->∀b∈B,lg X y H' b:=λ hn b j=>⟨hn b j,(S b j).2⟩
 refine codeAny_forLoop_any (λ n s'=>∃i k H',Inv X y k H' s'/\tn i s'.heap/\(∀b∈B,H' b=none)/\W i n k H') ?_ m0 ⟨0,σ,H2,I2,K,λ b j=>(S b j).1,w0⟩;rintro n s3 ⟨i,l,G,U,C,E,w3⟩;rcases turn i n l G w3 with ⟨stop,qn⟩|⟨go,N,hN,step⟩
 .refine sT A (aZ (T.done X rfl rfl rfl R i y s3 l G X.xe U (P E) C stop) λ r s4 ⟨L,I4⟩=>?_)
  subst L;exact xK ⟨l,G,I4,qn⟩
 .refine sT A (aZ (T.item X rfl rfl rfl R i y s3 l G X.xe U (P E) C go) λ r s4 ⟨u,L,h4⟩=>?_)
  subst L;refine sT A (aZ h4 λ _ s5 ⟨x,V,I5,r5,y5,z,M⟩=>?_);have O:=I5.pinned (P M) (T.obj _ _ z);refine sT A (aZ (Z _ s5 l V x u _ O r5 (step x V y5)) λ _ s6 ⟨Q,H6,I6,q6⟩=>?_);refine sT A (aZ (j _ s6 Q H6 _ I6 q6) λ f s7 w=>?_);have p:∀{a:St} {q:ah},Inv X (y++yq B s5.heap) a q s7->N a q->∃m,m<n/\∃i k H',Inv X y k H' s7/\tn i s7.heap/\(∀b∈B,H' b=none)/\W i m k H':=λ{a q} t F=>by
   obtain⟨m',hm,w7⟩:=hN a q F;refine⟨m',hm,i+1,a,q,t.unpinned,T.keep _ _ _ z λ b j o e=>(t.pin (b,o) (gz _ (gz _ (Ff j e)))).1,λ b j=>?_,w7⟩;obtain⟨o,e,d⟩:=T.obj _ _ z b j;exact(t.pin (b,o) (gz _ (gz _ (Ff j e)))).2.1
  cases f with
  |next=>obtain⟨a,q,t,F⟩:=w;exact p t F
  |cont=>obtain⟨a,q,t,F⟩:=w;exact p t F
  |brk=>obtain⟨a,q,t,w⟩:=w;exact⟨a,q,t.unpinned,w⟩
  |ret v=>obtain⟨x7,a,q,t,r7,w⟩:=w;exact⟨x7,a,q,t.unpinned,r7,w⟩
end
abbrev aG:=V->V->ah->br->Prop
def bU(X:aC)(f:Value->Value->Sem Value)(r:aG):Prop:=
 ∀(k:bF) (s:ao) (σ:St) (H:ah) (x y:V) (v u:Value) (Q:br),Inv X k σ H s->RelV x v->RelV y u->r x y H Q->
  wpAny (bJ X) X.A (f v u) (hh X k σ Q) X.xe s
def Fg(X:aC)(f:Value->Sem Value)(r:V->ah->br->Prop):Prop:=
 ∀(k:bF) (s:ao) (σ:St) (H:ah) (x:V) (v:Value) (Q:br),Inv X k σ H s->RelV x v->r x H Q->
  wpAny (bJ X) X.A (f v) (hh X k σ Q) X.xe s
def fC(X:aC)(f:Value)(r:List V->ah->br->Prop):Prop:=
 ∀(k:bF) (s:ao) (σ:St) (H:ah) (xs:List V) (us:List Value) (Q:br),Inv X k σ H s->Vals xs us->r xs H Q->
  wpAny (bJ X) X.A (call f us) (hh X k σ Q) X.xe s
def Uc(X:aC)(r:V->ah->(Bool->ah->Prop)->Prop):Prop:=
 ∀(k:bF) (s:ao) (σ:St) (H:ah) (x:V) (v:Value) (Q:Bool->ah->Prop),Inv X k σ H s->RelV x v->r x H Q->
  wpAny (bJ X) X.A (truthy v) (Bq X k σ Q) X.xe s
def tG(r:aG)(ta tb:bz):bz:=λ σ H Q=>ta σ H λ x a=>tb σ a λ y b=>r x y b Q
def Mx(r:V->ah->br->Prop)(ta:bz):bz:=λ σ H Q=>ta σ H λ x a=>r x a Q
def tH(C:Int->Int->Prop)(g:Int->Int->V):aG:=λ x y H Q=>∃i j,x= .int i/\y= .int j/\C i j/\Q (g i j) H
def i6(g:Int->Int->V):aG:=λ x y H Q=>∃i j,x= .int i/\y= .int j/\Q (g i j) H
def Fh(g:Int->V):V->ah->br->Prop:=λ x H Q=>∃i,x= .int i/\Q (g i) H
section
variable{X:aC}{a b:Expr}{ta tb:bz}{p:Pos}
def Fi(ha:aY X a ta)(e:aY X b tb){k:bF}{s:ao}{σ:St}{H:ah}{R:V->V->ah->Prop}(I:Inv X k σ H s)
  (h:ta σ H λ x d=>tb σ d λ y c=>R x y c){Q:Value->ao->Prop}{f:Value->Value->Sem Value}
  (hf:∀v u s2 x y c,Inv X k σ c s2->RelV x v->RelV y u->R x y c->wpAny (bJ X) X.A (f v u) Q X.xe s2):
  wpAny (bJ X) X.A (eval a X.env) (λ v z=>wpAny (bJ X) X.A (eval b X.env) (λ u g=>wpAny (bJ X) X.A (f v u) Q X.xe g) X.xe z) X.xe s:=by
 refine aZ (ha _ s σ H _ I h) λ v i ⟨x,d,j,r,q⟩=>?_
 refine aZ (e _ i σ d _ j q) λ u s2 ⟨y,c,l,m,n⟩=>?_
 exact hf v u s2 x y c l r m n
def Bu{op:Operator}{r:aG}(o:bU X (hZ op) r)(ha:aY X a ta)(c:aY X b tb):aY X (.BinOp a op b p) (tG r ta tb):=by
 intro k s σ H Q I h;exact wpAny_BinOp (Fi ha c I h λ v u s2 x y d e f g q=>o _ s2 σ d x y v u Q e f g q)
def Ud(o:Fg X (unaryOp op) r)(ha:aY X a ta):aY X (.UnaryOp op a p) (Mx r ta):=by
 intro k s σ H Q I h;exact UnaryOp_ (aZ (ha _ s σ H _ I h) λ v b ⟨x,c,d,e,q⟩=>o _ b σ c x v Q d e q)
def Bv{f:Value->Value->Sem Value}{C:Int->Int->Prop}{g:Int->Int->Int}
  (r:∀(i j:Int) (t u:Tok) (s:ao) (Q:Value->ao->Prop) (E:Value->ao->Prop),C i j->Q (.int (g i j) s.toks) {s with toks:=s.toks+1}->wpAny (bJ X) X.A (f (.int i t) (.int j u)) Q E s):
  bU X f (tH C λ i j=>.int (g i j)):=by
 intro k s σ H x y v u Q I a b h;obtain⟨i,j,rfl,rfl,c,q⟩:=h;obtain⟨t,rfl⟩:=a;obtain⟨t',rfl⟩:=b;exact r i j t t' s _ _ c ⟨.int _,H,I.tok _,⟨_,rfl⟩,q⟩
def Mz{f:Value->Value->Sem Value}{g:Int->Int->Int}
  (r:∀(i j:Int) (t u:Tok) (s:ao) (Q:Value->ao->Prop) (E:Value->ao->Prop),Q (.int (g i j) s.toks) {s with toks:=s.toks+1}->wpAny (bJ X) X.A (f (.int i t) (.int j u)) Q E s):
  bU X f (i6 λ i j=>.int (g i j)):=by
 intro k s σ H x y v u Q I a b h;obtain⟨i,j,rfl,rfl,q⟩:=h;obtain⟨t,rfl⟩:=a;obtain⟨t',rfl⟩:=b;exact r i j t t' s _ _ ⟨.int _,H,I.tok _,⟨_,rfl⟩,q⟩
def Bw{f:Value->Value->Sem Value}{g:Int->Int->Bool}
  (r:∀(i j:Int) (t u:Tok) (s:ao) (Q:Value->ao->Prop) (E:Value->ao->Prop),Q (.bool (g i j)) s->wpAny (bJ X) X.A (f (.int i t) (.int j u)) Q E s):
  bU X f (i6 λ i j=>.bl (g i j)):=by
 intro k s σ H x y v u Q I a b h;obtain⟨i,j,rfl,rfl,q⟩:=h;obtain⟨t,rfl⟩:=a;obtain⟨t',rfl⟩:=b;exact r i j t t' s _ _ ⟨.bl _,H,I,rfl,q⟩
def MA(i j:Int):Prop:=0<j/\j<1073741824
def Ue(i j:Int):Prop:=0<=j/\j<=1000000/\i.natAbs<2^64
def Bx(i j:Int):Prop:=(-(2^64)<i/\i<2^64)\/(-(2^64)<j/\j<2^64)
def Bx.ok(h:Bx i j):IntMulOk i j:=by
 rcases h with ⟨a,b⟩|⟨a,b⟩
 .exact .of_left (intBits_le_64 a b)
 .exact .of_right (intBits_le_64 a b)
def Ug:bU X (hZ .Add) (i6 λ i j=>.int (i+j)):=Mz λ _ _ _ _ _ _ _ q=>add_int q
def Uh:bU X (hZ .Sub) (i6 λ i j=>.int (i-j)):=Mz λ _ _ _ _ _ _ _ q=>sub_int q
def Ui:bU X (hZ .Mult) (tH Bx λ i j=>.int (i*j)):=Bv λ _ _ _ _ _ _ _ h q=>mul_int q h.ok
def Uj:bU X (hZ .FloorDiv) (tH MA λ i j=>.int (i / j)):=Bv λ i j _ _ _ _ _ h q=>by
 have a:=h.1;have b:=h.2;exact floordiv_int (Bk a) (by rw[Int.fdiv_eq_ediv_of_nonneg i (by lia)];assumption) (.inl (PyProof.noPylong_small (by omega)))
def Uk:bU X (hZ .Mod) (tH (λ _ j=>0<j) λ i j=>.int (i%j)):=Bv λ i j _ _ _ _ _ h q=>mod_int' (Bk h) (by rw[Int.fmod_eq_emod_of_nonneg i (by lia)];assumption)
def Ul:bU X (hZ .Pow) (tH Ue λ i j=>.int (i^j.toNat)):=Bv λ _ _ _ _ _ _ _ h q=>pow_int_small h.1 h.2.1 h.2.2 q
def Um{f:Value->Sem Value}{g:Int->Int}
  (r:∀(i:Int) (t:Tok) (s:ao) (Q:Value->ao->Prop) (E:Value->ao->Prop),Q (.int (g i) s.toks) {s with toks:=s.toks+1}->wpAny (bJ X) X.A (f (.int i t)) Q E s):
  Fg X f (Fh λ i=>.int (g i)):=by
 intro k s σ H x v Q I a h;obtain⟨i,rfl,q⟩:=h;obtain⟨t,rfl⟩:=a;exact r i t s _ _ ⟨.int _,H,I.tok _,⟨_,rfl⟩,q⟩
def Un:Fg X (unaryOp .USub) (Fh λ i=>.int (-i)):=Um λ _ _ _ _ _ q=>neg_int q
end
section
variable{X:aC}{a b c:Expr}{ta tb f:bz}{o:Pos}
def Uo:bU X (eK .Lt) (i6 λ i j=>.bl (decide (i<j))):=Bw λ _ _ _ _ _ _ _ q=>lt_int q
def Up:bU X (eK .LtE) (i6 λ i j=>.bl (decide (i<=j))):=Bw λ _ _ _ _ _ _ _ q=>le_int q
def Uq:bU X (eK .Gt) (i6 λ i j=>.bl (decide (j<i))):=Bw λ _ _ _ _ _ _ _ q=>gt_int q
def MB:bU X (eK .GtE) (i6 λ i j=>.bl (decide (j<=i))):=Bw λ _ _ _ _ _ _ _ q=>ge_int q
noncomputable def isObj:HO->Bool
 | .lst _=>true
 | .ins _ _ _=>true
 |_=>false
def MC(b:Expr)(h:op≠.In:=by decide)(c:op≠.NotIn:=by decide):mL op b=false:=by
 have e:(op==CmpOp.In)=false:=by simp_all
 have a:(op==KF)=false:=by simp_all
 cases b<;>simp[mL,e,a]
def Ur{op:CmpOp}{r:aG}(c:bU X (eK op) r)(ha:aY X a ta)(d:aY X b tb)(m:mL op b=false):aY X (.Compare a [op] [b] o) (tG r ta tb):=by
 intro k s σ H Q I h;exact wpAny_Compare1 (Fi ha d I h λ v u s2 x y e f g i q=>c _ s2 σ e x y v u Q f g i q) m
def Fj(t:bz):ih:=λ σ H Q=>t σ H λ x H'=>∃k,x= .bl k/\Q k H'
def Us(d:bU X (eK op) r)(ha:aY X a ta)(f:aY X b tb)(m:mL op b=false):jw X (.Compare a [op] [b] o) (Fj (tG r ta tb)):=by
 intro E s σ H Q I h;refine Kj (aZ (ha _ s σ H _ I h) λ v g ⟨x,i,j,l,q⟩=>aZ (f _ g σ i _ j q) λ u s2 ⟨y,n,p,t,w⟩=>
  aZ (d _ s2 σ n x y v u _ p l t w) λ c s3 ⟨z,A,B,C,k,e,D⟩=>?_) m
 subst e;cases C;exact pf ⟨A,B,D⟩
def MD(r b:aG)(ta tb f:bz):bz:=λ σ H Q=>ta σ H λ x c=>tb σ c λ y d=>r x y d λ z a=>∃k,z= .bl k/\
 (if k=true then f σ a λ w e=>b y w e Q else Q (.bl false) a)
def Ut(n:bU X (eK op) r)(i:bU X (eK op') r')(ha:aY X a ta)(p:aY X b tb)(t:aY X c f)
  (w:lastMarks [op,op'] [b,c]=false:=by with_unfolding_all rfl):jw X (.Compare a [op,op'] [b,c] o) (Fj (MD r r' ta tb f)):=by
 intro g s σ H Q I h;refine isTrue_chain (aZ (ha g s σ H _ I h) λ v A ⟨x,B,C,D,E⟩=>test_link (aZ (p g A σ B _ C E) λ u s2 ⟨y,F,G,j,J⟩=>
  aZ (n g s2 σ F x y v u _ G D j J) λ d s3 ⟨z,l,m,K,k,e,q⟩=>?_)) w
 subst e;cases K;refine pf ?_;cases k with
 |false=>
  obtain⟨k',L,M⟩:=q;cases L;exact ite_ff ⟨l,m,M⟩
 |true=>
  refine ite_tt (test_last (aZ (t g s3 σ l _ m q) λ N s4 ⟨O,P,R,S,T⟩=>aZ (i g s4 σ P y O u N _ R j S T) λ d' s5 ⟨z2,U,V,W,k2,Y,Z⟩=>?_));subst Y;cases W;exact pf ⟨U,V,Z⟩
def Fk(K:av)(x:V)(H:ah)(k:Bool):Prop:=
 match x with
 | .non=>k=false
 | .bl b=>k=b
 | .int i=>k=(i !=0)
 | .str y=>y.length<=aI/\k=((y.length:Int)!=0)
 | .byt y=>y.size<=aI/\k=((y.size:Int)!=0)
 | .ref p=>(∃xs,bN K H p xs/\k= !xs.isEmpty)\/(∃xs,bf K H p xs/\k= !xs.isEmpty)\/∃v,H p=some (.dK v)/\k= !v.isEmpty
 |_=>False
def Uu(r:EY kvs vs):(!vs.isEmpty)= !kvs.isEmpty:=by
 cases r<;>rfl
def ME(r:Vals xs its):(!its.toArray.isEmpty)= !xs.isEmpty:=by
 cases r<;>simp
def vx:(aI:Nat)<2^63:=by decide
def Uv:Uc X (λ x H Q=>∃k,Fk X.K x H k/\Q k H):=by
 intro n s σ H x v Q I d h;obtain⟨k,e,q⟩:=h;have o:=vx;have u:aI=16777216:=mM;cases x with
 |non=>
  cases d;have a:k=false:=e;subst a;exact truthy_none ⟨H,I,q⟩
 |bl b=>
  cases d;have a:k=b:=e;subst a;exact pf ⟨H,I,q⟩
 |int i=>
  obtain⟨t,rfl⟩:=d;have a:k=(i !=0):=e;subst a;exact PySem.P.truthy_int ⟨H,I,q⟩
 |str y=>
  obtain⟨t,rfl⟩:=d;obtain⟨l,a⟩:y.length<=aI/\k=((y.length:Int)!=0):=e;subst a;exact PySem.P.truthy_str (by lia) ⟨H,I.tok _,q⟩
 |byt y=>
  obtain⟨t,rfl⟩:=d;obtain⟨l,a⟩:y.size<=aI/\k=((y.size:Int)!=0):=e;subst a;exact PySem.W.truthy_bytes (by lia) ⟨H,I.tok _,q⟩
 |ref p=>
  cases d;have a:(∃xs,bN X.K H p xs/\k= !xs.isEmpty)\/(∃xs,bf X.K H p xs/\k= !xs.isEmpty)\/∃c,H p=some (.dK c)/\k= !c.isEmpty:=e
  rcases a with ⟨xs,f,a⟩|⟨xs,f,a⟩|⟨c,f,a⟩
  .subst a
   obtain⟨j,r,aO,hz⟩:=I.list f;have K:=r.length;exact wpAny_truthy_list aO.isList (by simp only[cW];lia) ⟨H,I.tok _,by rw[ME r];exact q⟩
  .subst a
   obtain⟨j,r,aO,hz⟩:=I.tuple f;have K:=r.length;exact truthy_tuple aO (by simp only[cW];lia) ⟨H,I.tok _,by rw[ME r];exact q⟩
  .subst a
   obtain⟨hz,S,g,r,m⟩:c.length<=aI/\(p==AJ)=false/\∃g,EY c g/\s.heap.DictOf (EX X.prog X.w) p g:=I.hok p _ f
   have K:c.length=g.length:=La r;exact wpAny_truthy_dict S m (by lia) ⟨H,I.tok _,by rw[Uu r];exact q⟩
 |_=>exact(show False from e).elim
def Uw(ha:aY X a ta)(e:∀w,isTrue a X.env w=(do let v <-w;qM a.pos;gB [v] (truthy v))):
  jw X a (λ σ H Q=>ta σ H λ x H'=>∃k,Fk X.K x H' k/\Q k H'):=by
 intro f s σ H Q I h;exact isTrue_plain (aZ (ha _ s σ H _ I h) λ v b ⟨x,c,d,r,q⟩=>Uv _ b σ c x v Q d r q) (e _)
def vals1(r:Vals [x] us):∃u,us=[u]/\RelV x u:=by
 cases r with
 |cons a b=>cases b;exact⟨_,rfl,a⟩
def vals2(r:Vals [x,y] us):∃u w,us=[u,w]/\RelV x u/\RelV y w:=by
 cases r with
 |cons a b=>
  cases b with
  |cons c d=>cases d;exact⟨_,_,rfl,a,c⟩
def Ux(c:X.calm=true):fC X (.builtin "max") (λ xs H Q=>∃i j,xs=[.int i,.int j]/\Q (.int (if j>i then j else i)) H):=by
 intro b s σ H xs us Q I r h;obtain⟨i,j,rfl,q⟩:=h;obtain⟨u,w,rfl,⟨t,rfl⟩,⟨t',rfl⟩⟩:=vals2 r;refine max_two_ints (I.ok.hd c) λ h' d k=>⟨_,H,I.kept k,?_,q⟩
 by_cases a:j>i
 .rw[if_pos a,if_pos a];exact⟨_,rfl⟩
 .rw[if_neg a,if_neg a];exact⟨_,rfl⟩
def Uy(c:X.calm=true):fC X (.builtin "min") (λ xs H Q=>∃i j,xs=[.int i,.int j]/\Q (.int (if j<i then j else i)) H):=by
 intro b s σ H xs us Q I r h;obtain⟨i,j,rfl,q⟩:=h;obtain⟨u,w,rfl,⟨t,rfl⟩,⟨t',rfl⟩⟩:=vals2 r;refine min_two_ints (I.ok.hd c) λ h' d k=>⟨_,H,I.kept k,?_,q⟩
 by_cases a:j<i
 .rw[if_pos a,if_pos a];exact⟨_,rfl⟩
 .rw[if_neg a,if_neg a];exact⟨_,rfl⟩
end
structure By(h:Heap)(x dx C:Addr)(mA:Str->Option Value):Prop where
 obj:h.get? x=some (vo C dx)
 ns:h.Ns1 dx mA
 ne:dx≠x
def Uz{h:Heap}{d:Addr}{m:Str->Option Value}(n:h.Ns1 d m):∃b,h.get? d=some b/\∀name,Ba name b=some (m name):=by
 obtain⟨o,es,ep,c,f,g,_,i⟩:=n;refine⟨o,c,λ name=>?_⟩;have e:=i name;unfold nsFind findBy at e;rw[<-Array.find?_toList]at e;unfold Ba;rw[f];cb_eq;split
 .rename_i y q
  rw[q]at e;exact congrArg some e
 .rename_i q
  rw[q]at e;have a:es.toList.any (·.refKey)=false:=by
   rw[List.any_eq_false];intro y j;obtain⟨z,t,k⟩:=g y (Array.mem_toList_iff.mp j);simp[DictEntry.refKey,k]
  grind
def By.look(I:By h x dx C mA):∃o,LA h x (vo C dx) C (some o)/\∀name,Ba name o=some (mA name):=
 let⟨o,ho,hl⟩:=Uz I.ns
 ⟨o,⟨I.obj,rfl,rfl,ho⟩,hl⟩
section
variable{prog:aR}{w:World}{A:aS}{E:Value->ao->Prop}{s:ao}{K:av}{x d C f:Addr}{m:Str->Option Value}{name:Str}
def UA(X:K.In s.heap)(I:By s.heap x d C m)(g:EE K C name=true)
  (hf:j6 K (.ref C) name=some (some (.ref f)))(t:LD K (.ref f)=true)(v:m name=none)(h:Q (.ref f,[.ref x]) s):
  wpAny (model prog w) A (getMethod (.ref x) name aO) Q E s:=by
 obtain⟨o,J,l⟩:=I.look;exact PySem.W.method_fn X J (Lv g).1 (Lv g).2 hf (beq_iff_eq.mp t) (by show(Ba _ o).map _=some _;simp_all) h
def make_map(X:K.In s.heap)(m:PySem.W.makesIn K C=true)
  (i:j6 K (.ref C) "__init__"=some (some (.ref f)))(hf:PySem.W.typeIn K (.ref f)=some (.type "function"))
  (h:ie (model prog w) (A.under (.builtin "type.__call__" ⟨.ref C::vs,kw⟩)) (.call (.ref f) ⟨.ref (s.heap.objs.size+1)::vs,kw⟩) (PySem.W.InitBack (s.heap.objs.size+1) R)
   {s with heap:=(s.heap.push tA).push (vo C s.heap.objs.size)}):
  ie (model prog w) A (.call (.ref C) ⟨vs,kw⟩) R s:=PySem.W.make_core (PySem.W.makes_of X m) (A6 X i) (λ e=>PySem.W.bind_fn X _ hf) (.inl rfl) h
end
def vr.none_of(r:vr none o):o=none:=by
 cases o with
 |none=>rfl
 |some u=>exact(r).elim
section
variable{P:aR}{w:World}{H:ah}{h:Heap}{a C x:Addr}{fs:List (Str×V)}
def Bz(o:fR P w H h)(e:H a=some (.ins C x fs)):∃m,By h a x C m/\(∀f,vr (fs.lookup f) (m f))/\Km m (fs.map (·.1))/\fs.length<=1000/\H x=some (.own a):=by
 obtain⟨d,z,b,c,m,n,r,q⟩:=(o a _ e);exact⟨m,⟨c,n,b⟩,r,q,z,d⟩
end
structure vy(K:av)(C:Addr):Prop where
 pg:EE K C Str.empty=true
 hd:PySem.W.hasDictIn K C=true
 po:PySem.W.plainOver K C=true
 sa:j6 K (.ref C) "__setattr__"=some (some (.builtin "object.__setattr__"))
def vy.get{K:av}{C:Addr}(c:vy K C)(f:Str):EE K C f=true:=c.pg
def UB(K:av)(C:Addr)(f:Str):Prop:=j6 K (.ref C) f=some none
structure Meth(K:av)(C:Addr)(m:Str)(f:Addr):Prop where
 at_:j6 K (.ref C) m=some (some (.ref f))
 fn:LD K (.ref f)=true
 kp:mX K (.ref f)=true
section
variable{X:aC}{d:bF}{σ:St}{H:ah}{s:ao}{a C x:Addr}{fs:List (Str×V)}{A:aS}{E:Value->ao->Prop}
def UC(I:Inv X d σ H s)(e:H a=some (.ins C x fs))(c:vy X.K C)(k:Meth X.K C m g)(l:fs.lookup m=none)
  (h:Q (.ref g,[.ref a]) s):wpAny (bJ X) A (getMethod (.ref a) m aO) Q E s:=by
 obtain⟨b,O,r,_,_,_⟩:=Bz I.hok e;have n:=vr.none_of (by rw[<-l];exact r m);exact UA I.kIn O (c.get m) k.at_ k.fn n h
def Inv.made(I:Inv X d σ H s):Inv X d σ (bq (bq H s.heap.objs.size (.own (s.heap.objs.size+1))) (s.heap.objs.size+1) (.ins C s.heap.objs.size []))
  {s with heap:=(s.heap.push tA).push (vo C s.heap.objs.size)}:=by
 have a:(s.heap.push tA).get? s.heap.objs.size=some tA:=dr s.heap rfl;have c:=by
  have:=dr (s.heap.push tA) (o:=vo C s.heap.objs.size) rfl
  rwa [iM]at this
 have f:(s.heap.push tA).Ns s.heap.objs.size (λ _=>none):=⟨tA,#[],_,a,rfl,(λ e h=>absurd h (by simp)),λ _=>rfl⟩;have g:=I.laid (o:=.own (s.heap.objs.size+1)) (t':=s.toks) (λ b u q=>bj _ q) (bc _) ⟨_,a⟩;refine g.laid (t':=s.toks) (λ b u q=>bj _ q) (Ak (iM _ _)) ?_;have n:s.heap.objs.size≠s.heap.objs.size+1:=cH (il _);refine⟨by rw[bR n,dM],dn _,n,c,λ _=>none,(Heap.Ns1.of_empty f).at λ o q=>bj _ q,λ _=>tD,λ y i=>absurd rfl i⟩
end
def tFld(K:av)(ta:bz)(f:Str):bz:=λ σ H Q=>ta σ H λ x b=>∃a C d fs v,x= .ref a/\b a=some (.ins C d fs)/\vy K C/\UB K C f/\fs.lookup f=some v/\Q v b
section
variable{X:aC}{e:Expr}{f:Str}{p:Pos}
def methcall_of(n:aY X e te)(I:Inv X kX σ H s)
  (h:te σ H λ x d=>∃a C i fs g,x= .ref a/\d a=some (.ins C i fs)/\vy X.K C/\Meth X.K C m g/\fs.lookup m=none/\
   ∀b,Inv X kX σ d b->wpAny (bJ X) X.A (callWith p (.ref g) [.ref a] (gk p (aW args X.env)) (sY p (sX [] X.env))) Q X.xe b)
  (t:eval (.Call (.Attribute e m apos) args [] p) X.env=(do
   let ov <-eval e X.env
   qM apos.atName
   let(f,first) <-gB [ov] (getMethod ov m aO)
   callWith p f first (gk p (aW args X.env)) (sY p (sX [] X.env)))):
  wpAny (bJ X) X.A (eval (.Call (.Attribute e m apos) args [] p) X.env) Q X.xe s:=by
 refine PySem.W.methodCall_KW (aZ (n _ s σ H _ I h) λ u b ⟨x,d,j,r,a,C,i,fs,g,o,ea,c,k,l,q⟩=>?_) t;subst o;obtain rfl:u=fO a:=r;exact UC j ea c k l (q b j)
end
section
variable{X:aC}{k:bF}{σ:St}{H:ah}{s:ao}{A:aS}{E:Value->ao->Prop}{Q:Value->ao->Prop}{c:Value}{b:Bool}
inductive lh(K:av)(H:ah):V->Value->Prop where
 |non:lh K H .non (.type "NoneType")
 |bl (x:Bool):lh K H (.bl x) (.type "bool")
 |int (i:Int):lh K H (.int i) (.type "int")
 |str (x:Str):lh K H (.str x) (.type "str")
 |flt (x:UInt64):lh K H (.flt x) (.type "float")
 |lst {a:Addr} {xs:List V} (e:H a=some (.lst xs)):lh K H (.ref a) (.type "list")
 |frz {a:Addr} {o:Obj} {xs:List V} (e:H a=some (.frz o (.lst xs))):lh K H (.ref a) (.type "list")
 |tup {a:Addr} {xs:List V} (e:H a=some (.tup xs)):lh K H (.ref a) (.type "tuple")
 |dK {a:Addr} {kvs:List (iN×V)} (e:H a=some (.dK kvs)):lh K H (.ref a) (.type "dict")
 |dT {a:Addr} {kvs:List (List iN×V)} (e:H a=some (.dT kvs)):lh K H (.ref a) (.type "dict")
 |ins {a C dx:Addr} {fs:List (Str×V)} (e:H a=some (.ins C dx fs)) (cl:vy K C) (ha:j6 K (.ref C) "__class__"=some (some (.builtin "object.__class__")))
   (hn:PySem.W.specialIn K (.builtin "object.__class__") "__get__"=some (some (.builtin "getset_descriptor.__get__"))) (htk:PySem.W.takesIn K (.builtin "object.__class__")=some true)
   (hm:PySem.W.mroIn K C (.type "object")=some true):lh K H (.ref a) (.ref C)
def UD(I:Inv X k σ H s)(r:RelV x u)(j:lh X.K H x t)(e:n6 X.K t c=some b)(h:∀m,Q (.bool b) {s with toks:=m}):
  wpAny (bJ X) A (call (.builtin "isinstance") [u,c]) Q E s:=by
 cases j with
 |non=>cases (show u=lV from r);exact kq PySem.W.kitx_none I.kIn tD e (λ z=>nomatch z) h
 |bl y=>cases (show u=vm y from r);exact kq PySem.W.kitx_bool I.kIn tD e (λ z=>nomatch z) h
 |int i=>obtain⟨t,q⟩:=(show∃t,u=jZ i t from r);cases q;exact kq PySem.W.kitx_int I.kIn tD e (λ z=>nomatch z) h
 |str y=>obtain⟨t,q⟩:=(show∃t,u=Ey y t from r);cases q;exact kq PySem.W.kitx_str I.kIn tD e (λ z=>nomatch z) h
 |flt y=>obtain⟨t,q⟩:=(show∃t,u=Lr y t from r);cases q;exact kq PySem.W.kitx_float I.kIn tD e (λ z=>nomatch z) h
 |@lst a xs ea=>
  cases (show u=fO a from r);obtain⟨_,_,n,_,d⟩:=(show fZ X.prog X.w H s.heap a (.lst xs)from I.hok a _ ea);exact kq Ly I.kIn ⟨_,d,rfl⟩ e (λ z=>nomatch z) h
 |@frz a w xs ea=>
  cases (show u=fO a from r);obtain⟨_,_,_,n,_,d⟩:=(show fZ X.prog X.w H s.heap a (.frz w (.lst xs))from I.hok a _ ea);exact kq Ly I.kIn ⟨_,d,rfl⟩ e (λ z=>nomatch z) h
 |@tup a xs ea=>
  cases (show u=fO a from r);obtain⟨_,_,_,p⟩:=(show fZ X.prog X.w H s.heap a (.tup xs)from I.hok a _ ea);obtain⟨o,d,f,_⟩:=p;exact kq Lw I.kIn ⟨o,d,f⟩ e (λ z=>nomatch z) h
 |@dK a v ea=>
  cases (show u=fO a from r);obtain⟨_,_,F,_,p⟩:=(show fZ X.prog X.w H s.heap a (.dK v)from I.hok a _ ea);obtain⟨o,es,ep,d,f,_⟩:=p;exact kq ED I.kIn ⟨o,d,f.1⟩ e (λ z=>nomatch z) h
 |@dT a v ea=>
  cases (show u=fO a from r);obtain⟨_,_,xs,_,o,es,ep,d,f,_⟩:=(show fZ X.prog X.w H s.heap a (.dT v)from I.hok a _ ea);exact kq ED I.kIn ⟨o,d,f.1⟩ e (λ z=>nomatch z) h
 |@ins a C G fs ea l ha B g D=>
  cases (show u=fO a from r);obtain⟨K,O,_⟩:=Bz I.hok ea;obtain⟨L,J,_⟩:=O.look;exact kq (PySem.W.kitx_own (l.get _) l.hd ha B g D) I.kIn J e (λ z=>nomatch z) h
end
structure ee(k:Nat)(A:aS):Prop where
 hd:A.handled=none
 dp:A.depth+3*k+5<AD
 un:A.units+16*k+200<cLine
def ee.mono(r:ee k A)(h:j<=k):ee j A:=⟨r.hd,by have:=r.dp;exact LR h this,by have:=r.un;exact LQ h this⟩
theorem ee.deeper(r:ee (k+1) A)(env:Env):ee k (A.deeper env):=
 ⟨r.hd,by have:=r.dp;show A.depth+1+3*k+5<_;exact LN this,by have:=r.un;show A.units+3+16*k+200<_;exact LV this⟩
theorem ee.depth(r:ee k A):A.depth<AD:=by have:=r.dp;exact LZ this
theorem ee.units(r:ee k A):A.units+64<cLine:=by have:=r.un;exact S4 this
def ee.units0(r:ee k A):A.units<cLine:=by have:=r.un;exact SB this
def j9:fv:=λ _ H Q=>Q [] H
def i7(ta:bz)(tr:fv):fv:=λ σ H Q=>ta σ H λ x a=>tr σ a λ xs b=>Q (x::xs) b
section
variable{X:aC}{e:Expr}{es:List Expr}{a:bz}{t:fv}{o:Pos}
def hD:eE X [] j9:=λ _ _ _ _ H Q I h=>Calls.spliced_nil ⟨[],H,I,.nil,h⟩
def dv(ha:aY X e a)(r:eE X es t)(b:aW (e::es) X.env=(false,eval e X.env)::aW es X.env:=by rfl):eE X (e::es) (i7 a t):=by
 intro o m s σ H Q I h;rw[b];refine Calls.spliced_cons (aZ (ha _ s σ H _ I h) λ u c ⟨x,d,f,g,q⟩=>?_);exact aZ (r _ _ c σ d _ f q) λ us s2 ⟨xs,i,j,k,l⟩=>⟨_,i,j,.cons g k,l⟩
def UE(t:fv):bz:=λ σ H Q=>t σ H λ xs a=>xs.length<=aI/\∀p,a p=none->Q (.ref p) (bq a p (.tup xs))
def UF(t:fv):bz:=λ σ H Q=>t σ H λ xs a=>xs.length<=aI/\∀p,a p=none->Q (.ref p) (bq a p (.lst xs))
def UG{x1}(h:eE X es t):aY X (.Tuple es x1 o) (UE t):=by
 intro k s σ H Q I c;refine wpAny_Tuple_spliced (aZ (h _ _ s σ H _ I c) λ us d ⟨xs,f,a,r,z,q⟩=>⟨by rw[<-r.length];simp_all,?_⟩);have hf:=a.hok.fresh (bc _);refine⟨.ref _,_,a.laid (λ b u e=>bj _ e) (bc _) ?_,rfl,q _ hf⟩;exact⟨⟨z,NoD.push _⟩,us,r,⟨_,dr _ rfl,rfl,_,rfl⟩⟩
def UH(h:eE X es t):aY X (.List es o) (UF t):=by
 intro k s σ H Q I c;refine wpAny_List_spliced (aZ (h _ _ s σ H _ I c) λ us d ⟨xs,f,a,r,z,q⟩=>⟨by rw[<-r.length];assumption,?_⟩);have hf:=a.hok.fresh (bc _);refine⟨.ref _,_,a.laid (λ b u e=>bj _ e) (bc _) ?_,rfl,q _ hf⟩;exact⟨z,us,0,r,dr _ rfl⟩
end
abbrev ka:=List V->ah->br->dC->Prop
abbrev oa:=List Env->ah->ao->dC->Value->ao->Prop
structure rh(P:aR)(w:World)(K:av)(mg:Str->Option Value)(base:Heap)(A:aS)(outer:List Env)(s:ao)(H:ah):Prop where
 frames:A.frames=some outer
 mod:Mod K mg base
 bs:∀b o,base.get? b=some o->s.heap.get? b=some o/\H b=none
 bsz:base.objs.size<=s.heap.objs.size
 funs:s.heap.FunFrames base outer
 frf:∀b∈dt outer,H b=none
 hok:fR P w H s.heap
 bare:nS s.gens
def Fl(o:List Env)(P:aR)(w:World)(H:ah)(s:ao)(Q:br)(u:Value)(s':ao):Prop:=
 ∃v H',s'.os=s.os/\nS s'.gens/\fz (dt o) [] H H' s.heap s'.heap/\fR P w H' s'.heap/\RelV v u/\Q v H'
def MF(CX:oa)(o:List Env)(P:aR)(w:World)(H:ah)(s:ao)(Q:br)(E:dC)(r:pj)(s':ao):Prop:=
 match r with
 | .ok (.ret u)=>Fl o P w H s Q u s'
 | .ok _=>False
 | .error e=>CX o H s E e s'
structure fS(P:aR)(w:World)(K:av)(mg:Str->Option Value)(base:Heap)(CX:oa)(k:Nat)(f:Addr)(fd:cB)(ps:List Str)(sp:ka):Prop where
 len:∀vs H Q E,sp vs H Q E->vs.length=ps.length
 run:∀(A:aS) (outer:List Env) (s:ao) (H:ah) (args:Args) (us:List Value) (vs:List V) (Q:br) (E:dC),ee k A->rh P w K mg base A outer s H->vf s fd args (ps.zip us)->Vals vs us->sp vs H Q E->
  ie (model P w) A (.call (.ref f) args) (MF CX outer P w H s Q E) s
section
variable{X:aC}{k:bF}{σ:St}{H:ah}{s s':ao}
def Inv.env0(I:Inv X k σ H s):rh X.prog X.w X.K X.mg X.base X.A X.stack s H:=
 ⟨I.ok.frames,I.ok.mod,I.bs,eJ I.ok.bsz I.sz,I.stack,I.stkFree,I.hok,I.bare⟩
def Inv.after(I:Inv X k σ H s)(h:Fl X.stack X.prog X.w H s Q u s'):hh X k σ Q u s':=by
 obtain⟨v,H',e,a,un,o,r,q⟩:=h;obtain⟨f,g,d,t,c⟩:=s';obtain rfl:c=s.os:=e;exact⟨v,H',I.call un o a (λ b z=>absurd z (by simp)),r,q⟩
end
def yr(s:ka)(d:List V)(E:dC)(t:fv):bz:=λ σ H Q=>t σ H λ v a=>s (v++d) a Q E
def tMeth(C:Addr)(m:Str)(s:ka)(d:List V)(E:dC)(ta:bz)(t:fv):bz:=λ σ H Q=>ta σ H λ x b=>∃a c fs,x= .ref a/\b a=some (.ins C c fs)/\fs.lookup m=none/\
 t σ b λ v e=>s (x::(v++d)) e Q E
def tMake(C:Addr)(p:ka)(s:List V)(E:dC)(t:fv):bz:=λ σ H Q=>t σ H λ b a=>∀x d,a x=none->a d=none->d≠x->
 p (.ref x::(b++s)) (bq (bq a d (.own x)) x (.ins C d [])) (λ v c=>v= .non/\Q (.ref x) c) E
def Binds(K:av)(f:cB)(ps:List Str)(ds:List Value):Prop:=
 ∀(s:ao) (us:List Value),K.In s.heap->(us++ds).length=ps.length->vf s f ⟨us,[]⟩ (ps.zip (us++ds))
def Binds.all{K:av}{f:cB}{ps:List Str}(h:∀us:List Value,us.length=ps.length->AM f ⟨us,[]⟩=pure (ps.zip us)):Binds K f ps []:=λ s us _ l=>by
 rw[fo]at l ⊢;exact .of_eq (h us l)
def tI(CX:oa)(X:aC)(E:dC):Prop:=∀(k:bF) (σ:St) (H:ah) (s:ao) (e:Value) (s':ao),Inv X k σ H s->CX X.stack H s E e s'->X.xe e s'
section
variable{X:aC}{CX:oa}{k:Nat}{f:Addr}{b:cB}{ps:List Str}{a:ka}{d:List V}{ds:List Value}{E:dC}{x:Str}{p o:Pos}{e:Expr}{es:List Expr}{t:fv}
def MG(F:fS X.prog X.w X.K X.mg X.base CX k f b ps a)(g:ee k X.A)(i:Binds X.K b ps ds)(j:Vals d ds)(x:tI CX X E)
  (I:Inv X kX σ H s)(r:Vals vs us)(h:a (vs++d) H Q E):wpAny (bJ X) X.A (call (.ref f) us) (hh X kX σ Q) X.xe s:=by
 have c:=r.append j;have l:(us++ds).length=ps.length:=by rw[<-c.length];exact F.len _ _ _ _ h
 refine AK (qJ (F.run X.A _ s H _ _ _ Q E g I.env0 (i s us I.kIn l) c h) λ r s' q=>?_);cases r with
 |error e=>exact x kX σ H s e s' I q
 |ok m=>
  cases m with
  |ret u=>exact I.after q
  |next=>assumption
  |brk=>assumption
  |cont=>assumption
def UI(F:fS X.prog X.w X.K X.mg X.base CX k f b ps a)(i:ee k X.A)(j:cN X x)(m:X.mg x=some (.ref f))(l:mX X.K (.ref f)=true)(n:Binds X.K b ps ds)(u:Vals d ds)(v:tI CX X E)
  (ha:eE X (e::es) t)(c:Nd x:=by decide)(w:aW (e::es) X.env=(false,eval e X.env)::aW es X.env:=by rfl)(hpl:(gk o (aW es X.env)).any (·.1)=false:=by rfl):
  aY X (.Call (.Name x p) (e::es) [] o) (yr a d E t):=by
 intro y s σ H Q I h;refine qI (vt I j m ?_ c);refine EB I.ok.mod.kin l (aZ (ha _ _ s σ H _ I h) λ us z ⟨A,B,g,r,q⟩=>⟨g.kIn,?_⟩) w hpl;exact MG F i n u v g r q
end
structure dk(N P:List Str)(sc:Scope):Prop where
 kind:sc.kind= .function
 co:sc.isCoroutine=false
 gen:sc.isGenerator=false
 nd:N.Nodup
 pre:N.take P.length=P
 par:∀x∈P,sc.names.lookup x=some .local\/sc.names.lookup x=some .cell
 nofree:∀y∈sc.names,y.2≠.free
theorem MH{cM:Str->Option nZ}{x:Str}:∀{binds:List (Str×Value)} {m:Str->Option Value},(∀v,(x,v)∉binds)->bindL cM binds m x=m x
 |[],_,_=>rfl
 |(n,v)::r,m,h=>by
  unfold bindL;rw[MH λ w a=>h w (cT _ a)];split
  .have:x≠n:=by rintro rfl;exact h v bW
   simp_all
  rfl
theorem MI{cM:Str->Option nZ}{x:Str}:∀{binds:List (Str×Value)} {m:Str->Option Value},(∀v,(x,v)∉binds)->bindC cM binds m x=m x
 |[],_,_=>rfl
 |(n,v)::r,m,h=>by
  unfold bindC;rw[MI λ w a=>h w (cT _ a)];split
  .rfl
  .have:x≠n:=by rintro rfl;exact h v bW
   simp_all
theorem MJ{cM:Str->Option nZ}{x:Str}{v:Value}:∀{P:List Str} {s:List Value} {i:Nat} {m:Str->Option Value},P.Nodup->P[i]? =some x->s[i]? =some v->cM x=some .local->
  bindL cM (P.zip s) m x=some v
 |[],_,_,_,_,h,_,_=>by simp at h
 |_::_,[],_,_,_,_,h,_=>by simp at h
 |p::P,w::s,0,m,nd,a,b,k=>by
  simp at a b;subst a;subst b;show bindL cM ((p,w)::P.zip s) m p=_;unfold bindL;rw[MH λ v c=>(o8.mp nd).1 (uY c).1,if_pos k];simp
 |p::P,w::s,i+1,m,nd,a,b,k=>by
  unfold bindL;exact MJ (i:=i) (o8.mp nd).2 (by simpa using a) (by assumption) k
theorem MK{cM:Str->Option nZ}{x:Str}{v:Value}:∀{P:List Str} {s:List Value} {i:Nat} {m:Str->Option Value},P.Nodup->P[i]? =some x->s[i]? =some v->cM x≠some .local->
  bindC cM (P.zip s) m x=some v
 |[],_,_,_,_,h,_,_=>by simp at h
 |_::_,[],_,_,_,_,h,_=>by simp at h
 |p::P,w::s,0,m,nd,a,b,k=>by
  simp at a b;subst a;subst b;show bindC cM ((p,w)::P.zip s) m p=_;unfold bindC;rw[MI λ v c=>(o8.mp nd).1 (uY c).1,if_neg k];simp
 |p::P,w::s,i+1,m,nd,a,b,k=>by
  show bindC cM ((p,w)::P.zip s) m x=_;unfold bindC;exact MK (i:=i) (o8.mp nd).2 (by simpa using a) (by simpa using b) k
noncomputable def start(N:List Str)(v:List V):St:=v.map some++dO (N.length-v.length) none
noncomputable def m9(CX:oa)(P:aR)(w:World)(K:av)(mg:Str->Option Value)(base:Heap)(N:List Str)(q:Str)(c:Scope)(f:Addr)(d:Value)(A:aS)(outer:List Env)(s:ao)(H:ah)(E:dC):aC where
 prog:=P
 w:=w
 K:=K
 mg:=mg
 base:=base
 A:=A.deeper (gA q c s.heap.objs.size f d)
 N:=N
 z4:=s
 zI:=H
 env:=gA q c s.heap.objs.size f d
 outer:=outer
 stack:=gA q c s.heap.objs.size f d::outer
 ex:=[]
 calm:=true
 fn:=λ _=>true
 pn:=[]
 xe:=λ e s'=>wpAny (model P w) (A.deeper (gA q c s.heap.objs.size f d)) (leaving (gA q c s.heap.objs.size f d) e) (λ _ a=>CX outer H s E e a) (λ b a=>CX outer H s E b a) s'
def BA{sc:Scope}{n:Nat}{x:Str}(h:sc.names.lookup x=some .cell):∃c,(lS n sc.names []).lookup x=some c:=by
 have q:=A5 _ n [] (.inl h);exact Option.isSome_iff_exists.mp q
def Fm{CX:oa}{P:aR}{w:World}{K:av}{mg:Str->Option Value}{base:Heap}{N ps:List Str}{l:Str}{o:Scope}{f:Addr}{D:Value}{A:aS}{t:List Env}{s I:ao}{H:ah}{E:dC}{us:List Value}{j:List V}
  (S:dk N ps o)(M:A.handled=none)(g:rh P w K mg base A t s H)(Q:j.length=ps.length)(r:Vals j us)
  (x:InCallC s s.heap.objs.size (bindL (gA l o s.heap.objs.size f D).kindOf (ps.zip us) λ _=>none) (lS (s.heap.objs.size+1) o.names []) (bindC (gA l o s.heap.objs.size f D).kindOf (ps.zip us) λ _=>none) I):
  Inv (m9 CX P w K mg base N l o f D A t s H E) [] (start N j) H I:=by
 have hpl:ps.length<=N.length:=by have:=congrArg Ad S.pre;rw[eY]at this;lia
 obtain⟨F,R,rfl,J⟩:=x.done;have m:∀b:Addr,b∉(m9 CX P w K mg base N l o f D A t s H E).ex:=λ b z=>absurd (show b∈([]:List Addr)from z) (by simp)
 refine⟨⟨g.mod,S.kind,rfl,rfl,bc _,λ y z c F d=>?_,λ y B=>?_,λ y c _ h=>?_,λ _=>M,Ks g.frames,.inr ⟨rfl,rfl⟩,λ b z=>absurd z (m b),g.bs,g.bsz,λ b _ _=>m b,λ b z=>absurd z (m b),g.funs,g.frf⟩,
  rfl,g.bare,fz.kept J,⟨_,x.toInCall.ns,λ i y v F d T=>?_⟩,λ y c h=>⟨_,x.cell y c h⟩,g.hok.fresh (bc _),λ y c h=>?_,λ p C=>absurd (show p∈([]:bF)from C) (by simp),g.hok.kept J,?_,λ p C=>absurd (show p∈([]:bF)from C) (by simp)⟩
 .exact name_of_addr x.apart (i2 F) (i2 d)
 .have B:o.names.lookup y=some .cell\/o.names.lookup y=some .free:=B
  rcases B with B|B
  .exact BA B
  .exact absurd rfl (S.nofree _ (i2 B))
 .exact lR (x.above y c (i2 h))
 .have G:i<j.length:=by
   unfold start at d;by_cases G:i<j.length
   .exact G
   .rw[oS (by simpa using G)]at d
    rw[Ju]at d;split at d<;>cases d
  have ha:j[i]? =some v:=by
   unfold start at d;rw[nI (by simpa using G),fM]at d;cases e:j[i]? with
   |none=>rw[e]at d;cases d
   |some a=>rw[e]at d;cases d;rfl
  obtain⟨u,L,O⟩:=r.get ha;have C:ps[i]? =some y:=by
   rw[<-S.pre,qu (by simp_all)];exact F
  have BB:ps.Nodup:=by rw[<-S.pre];exact S.nd.sublist (JJ _ _)
  refine⟨u,O,?_⟩;rcases S.par y (nL C)with k|k
  .exact .inl ⟨k,MJ BB C L k⟩
  .obtain⟨c,e⟩:=BA (n:=s.heap.objs.size+1) k
   refine .inr ⟨.inl k,c,e,?_⟩;have q:=x.cell y c e;rw[MK BB C L (by show o.names.lookup y≠_;rw[k];decide)]at q;exact q
 .exact g.hok.fresh (lR (x.above y c (i2 h)))
 .unfold start
  show _=N.length;rw[cy,bb,Jy];simp_all
def UJ{CX:oa}{P:aR}{w:World}{K:av}{mg:Str->Option Value}{base:Heap}{k:Nat}{f:Addr}{name l:Str}{p:mP}{g:List Stmt}{c:Scope}{T eo z U d W oc:Value}{X od:Option Addr}
  {F:Array (Option Value)}{N ps:List Str}{G:ka}(bY:K.lookup f=some ⟨oc,od,.func (kV name l p g c T eo z U X d W),F⟩)(L:vp K d l=true)(S:dk N ps c)
  (len:∀h H Q E,G h H Q E->h.length=ps.length)
  (j:∀(A:aS) (a:List Env) (s:ao) (H:ah) (h:List V) (Q:br) (E:dC),ee k (A.deeper (gA l c s.heap.objs.size f d))->G h H Q E->
   ∃t,iu (m9 CX P w K mg base N l c f d A a s H E) g t/\t {nx:=λ _ H'=>Q .non H',rt:=Q} (start N h) H):
  fS P w K mg base CX (k+1) f (kV name l p g c T eo z U X d W) ps G:=by
 refine⟨len,λ A a s H Y us h Q E M B hb r C=>?_⟩;have hl:=len _ _ _ _ C;have Z:K.In s.heap:=B.mod.kin.keeps λ b o e=>(B.bs b o e).1
 have O:s.heap.NoLimit:=B.mod.nolimit.keeps λ b o e=>(B.bs b o e).1
 have bX:∀y∈ps.zip us,c.names.lookup y.1=some .local\/(c.names.lookup y.1=some .cell/\((lS (s.heap.objs.size+1) c.names []).lookup y.1).isSome=true):=λ⟨n,v⟩ hy=>by
  rcases S.par n (uY hy).1 with q|q
  .exact .inl q
  .exact .inr ⟨q,A5 _ _ _ (.inl q)⟩
 refine DV M.depth (Z _ _ bY) rfl S.co S.gen rfl (EC Z L) (hb _ _ _ _ ?_);refine DU S.kind bX λ env he s1 x=>?_
 subst he;refine⟨O.keeps x.toInCall.keep,D5 ?_⟩;obtain⟨t,ht,hq⟩:=j A a s H h Q E (M.deeper _) C;have I:Inv (m9 CX P w K mg base N l c f d A a s H E) [] (start N h) H s1:=Fm S M.hd B hl r x;refine iq (ht [] s1 (start N h) H _ I hq) (λ fl s' m=>?_) λ e s' m=>m
 have D:∀{i:St} {H':ah} {v:V} {u:Value},Inv (m9 CX P w K mg base N l c f d A a s H E) [] i H' s'->RelV v u->Q v H'->Fl a P w H s Q u s':=
  λ{i H' v u} J R q=>⟨v,H',J.os,J.bare,J.base,J.hok,R,q⟩
 cases fl with
 |ret u=>
  obtain⟨v,i,H',J,R,q⟩:=m;exact D J R q
 |next=>
  obtain⟨i,H',J,q⟩:=m;exact D (v:=V.non) (u:=lV) J rfl q
 |brk=>
  obtain⟨_,_,_,q⟩:=m;exact aX q
 |cont=>
  obtain⟨_,_,_,q⟩:=m;exact aX q
section
variable{X:aC}{x:Str}{p o:Pos}{e:Expr}{es:List Expr}{t:fv}{i T:String}{r:List V->ah->br->Prop}
def md(r:List V->ah->br->Prop)(t:fv):bz:=λ σ H Q=>t σ H λ v a=>r v a Q
def tJ(c:fC X (.builtin i) r)(g:cN X x)(m:X.mg x=none)(v:fu x=some (.builtin i))(ha:eE X (e::es) t)(n:x≠"__name__":=by decide)(d:Nd x:=by decide)
  (a:aW (e::es) X.env=(false,eval e X.env)::aW es X.env:=by rfl)(hpl:(gk o (aW es X.env)).any (·.1)=false:=by rfl):aY X (.Call (.Name x p) (e::es) [] o) (md r t):=by
 intro u s σ H Q I h;refine qI (vv I g m v ?_ n d);exact PyProof.Rows.callWith_builtin1 (aZ (ha _ _ s σ H _ I h) λ us b ⟨f,j,k,l,q⟩=>c _ b σ j f us Q k l q) a hpl
def tK(c:fC X (.type T) r)(g:cN X x)(m:X.mg x=none)(v:fu x=some (.type T))(ha:eE X (e::es) t)(n:x≠"__name__":=by decide)(d:Nd x:=by decide)
  (a:aW (e::es) X.env=(false,eval e X.env)::aW es X.env:=by rfl)(hpl:(gk o (aW es X.env)).any (·.1)=false:=by rfl):aY X (.Call (.Name x p) (e::es) [] o) (md r t):=by
 intro l s σ H Q I h;refine qI (vv I g m v ?_ n d);exact Ap (aZ (ha _ _ s σ H _ I h) λ us b ⟨f,i,j,k,q⟩=>c _ b σ i f us Q j k q) a hpl
end
end L2
namespace HT
open PySem PyProof.Rows
noncomputable def lexLt:List Int->List Int->Bool
 |[],[]=>false
 |[],_::_=>true
 |_::_,[]=>false
 |x::xs,y::s=>if x=y then lexLt xs s else decide (x<y)
def kZ(x y:Int)(xs s:List Int):lexLt (x::xs) (y::s)=if x=y then lexLt xs s else decide (x<y):=rfl
def UK:lexLt [] []=false:=rfl
def UL(y:Int)(s:List Int):lexLt [] (y::s)=true:=rfl
def UM(x:Int)(xs:List Int):lexLt (x::xs) []=false:=rfl
def ML(A:aS)(s:ao)(a:Int)(t:Tok)(c:Int)(u:Tok):∃e,mT A s (.int a t) (.int c u) e/\(e=true↔a=c):=
 ⟨_,Es a t c u,by simp⟩
def UN(A:aS)(s:ao)(a:Int)(t:Tok)(c:Int)(u:Tok)(prog:aR)(w:World)(E:Value->ao->Prop)(Q:Value->ao->Prop)(h:Q (.bool (decide (a<c))) s):
  wpAny (model prog w) A (vb .Lt (.int a t) (.int c u)) Q E s:=
 (Kc h)
section
open PySem.SeqAt
open PySem.AutoSeq1(wpAny_loadPart')
open PySem.MeetsSeq PySem.MeetsSeq2 PySem.MeetsSeq3
def UO(l b:Addr)(items i:Array Value)(n M:Nat)(dd F:Option Addr)(sl G:Array (Option Value))(ns z:List Int)(I:dE items.toList ns)(J:dE i.toList z):
  Meets (ia.«tuple.__lt__» ⟨[.ref l,.ref b],[]⟩)
   (λ _ R s=>s.heap.get? l=some {cls:=.type "tuple",dict:=dd,data:=.seq items n,slots:=sl}/\s.heap.get? b=some {cls:=.type "tuple",dict:=F,data:=.seq i M,slots:=G}/\
    R (.ok (.ret (.bool (lexLt ns z)))) s):=
 .of_wp λ prog w A R s h=>by
  obtain⟨B,g,d,C,D⟩:=s;obtain⟨N,O,h⟩:=h;have V:=Kt;have P:items.size=ns.length:=by rw[<-I.length];simp
  have Q:i.size=z.length:=by rw[<-J.length];simp
  wp_walk using nX N,nX O,wpAny_forIn_list _ (λ rest b s'=>b.1=none/\s'=⟨B,g,d,C,D⟩/\∃(E ws:List Value) (f m:List Int),rest=E.zip ws/\
   dE E f/\dE ws m/\f.length+i.size=m.length+items.size/\R (.ok (.ret (.bool (lexLt f m)))) ⟨B,g,d,C,D⟩) _
  case turn=>
   rintro⟨y,x⟩ rest b s' ⟨o,rfl,E,ws,f,m,hz,v,j,K,k⟩;cases v with
   |nil=>rw[JK]at hz;cases hz
   |cons a t p=>
    cases j with
    |nil=>rw[JH]at hz;cases hz
    |cons c u r=>
     rw[qz]at hz;injection hz with hyx hrest
     injection hyx with hy hx
     subst hy hx;rw[kZ]at k;simp only[eX]at K;obtain⟨e,T,S⟩:=ML A.in1 ⟨B,g,d,C,D⟩ a t c u;refine ak (T prog w _ _ ?_);cases e with
     |true=>
      rw[if_pos (S.mp rfl)]at k;wp_walk;exact⟨rfl,rfl,_,_,_,_,hrest,p,r,L3 K,k⟩
     |false=>
      rw[if_neg (λ q=>absurd (S.mpr q) cL)]at k;have H:=UN A.in1 ⟨B,g,d,C,D⟩ a t c u prog w;wp_walk using H;exact⟨_,rfl,by simpa using k⟩
  case fin=>
   rintro⟨W,X⟩ s' ⟨o,rfl,E,ws,f,m,hz,v,j,K,k⟩;simp only at o;subst o;have L:lexLt f m=decide (items.size<i.size):=by
    cases v with
    |nil=>
     cases j with
     |nil=>
      simp only[mH]at K;rw[UK];exact(decide_eq_false (Th K)).symm
     |cons c u U=>
      simp only[mH,eX]at K;rw[UL];exact(decide_eq_true (by simp_all)).symm
    |cons a t L=>
     cases j with
     |nil=>
      simp only[mH,eX]at K;rw[UM];exact(decide_eq_false (by lia)).symm
     |cons c u U=>
      rw[qz]at hz;cases hz
   rw[L]at k;wp_walk;exact⟨_,rfl,by simpa[Kz]using k⟩
  case h=>
   exact⟨rfl,rfl,items.toList,i.toList,ns,z,rfl,I,J,L6 P Q,h⟩
end
section
variable{prog:aR}{w:World}{A:aS}{E:Value->ao->Prop}{s:ao}
def zN(g:IsTup s.heap l items)(i:IsTup s.heap b items2)(j:dE items.toList ns)(k:dE items2.toList ms)
  (u:A.units<cLine)(h:Q (.bool (lexLt ns ms)) s):wpAny (model prog w) A (eK .Lt (.ref l) (.ref b)) Q E s:=by
 obtain⟨⟨m,dd,t,sl⟩,e,p,n,q⟩:=id g;obtain⟨⟨f,r,d,v⟩,o,c,y,a⟩:=id i;subst p q c a;exact Ki (op:=.Lt) ⟨_,e,rfl⟩ ⟨_,o,rfl⟩ PySem.F.slot_tuple_lt PySem.F.entry_tuple_lt (PySem.F.args_tuple_lt_2 _ _) (UO l b _ _ n y dd _ sl _ ns ms j k)
  ⟨e,o,⟨(λ x=>nomatch x),h⟩⟩ u
def aMk(p:IsTup s.heap t vs.toArray)(q:IsTup s.heap b ws.toArray)(v:vs≠[])
  (r:ws=[]->Q (.ref t) s)(u:ws≠[]->Q (.ref s.heap.objs.size) {s with heap:=s.heap.push {cls:=.type "tuple",data:=.seq (vs++ws).toArray}})
  (z:vs.length+ws.length<=aI):wpAny (model prog w) A (hZ .Add (.ref t) (.ref b)) Q E s:=by
 obtain⟨⟨cls,dd,data,sl⟩,o,i,n,j⟩:=id p;obtain⟨⟨k,d,f,l⟩,h,c,m,a⟩:=id q;simp only at i j c a;subst i j c a;have e:vs.toArray++ws.toArray=(vs++ws).toArray:=by simp
 by_cases g:ws=[]
 .exact D6 ⟨_,o,rfl⟩ ⟨_,h,rfl⟩ Az AF vi vh (vg _ _)
   (tuple_addW1 t b vs.toArray ws.toArray n m dd d sl l (by simpa using v) (by simp[g])) ⟨o,h,r g⟩
 .refine D6 ⟨_,o,rfl⟩ ⟨_,h,rfl⟩ Az AF vi vh (vg _ _)
   (tuple_addW2 t b vs.toArray ws.toArray n m dd d sl l (by simpa using v) (by simp_all) (by omega)) ⟨o,h,?_⟩
  rw[e];exact u g
noncomputable def sIx(n d:Nat):Option Int->Nat
 |none=>d
 |some v=>if v<0 then(v+(n:Int)).toNat else min v.toNat n
def aCg(n d:Nat):sIx n d none=d:=rfl
def xn(n d k:Nat):sIx n d (some (k:Int))=min k n:=by
 show(if (k:Int)<0 then((k:Int)+(n:Int)).toNat else min (k:Int).toNat n)=min k n
 rw[if_neg (by simp),oR]
def UP(n d:Nat)(a:d<=n)(o:Option Int):sIx n d o<=n:=by
 cases o with
 |none=>assumption
 |some v=>
  show(if v<0 then(v+(n)).toNat else min _ n)<=n
  by_cases h:v<0
  .rw[if_pos h];lia
  .rw[if_neg h];exact Nat.min_le_right _ _
def MM(v:Int)(n d:Nat):(if v<0 then max (v+(n:Int)) 0 else min v (n:Int))=((sIx n d (some v):Nat):Int):=by
 show(if v<0 then max _ 0 else min v _)=(((if v<0 then(v+(n)).toNat else min _ n)))
 grind
def UQ(l h:Option Int)(n:Nat):AO l h 1 (n:Int)=(((sIx n 0 l:Nat):Int),((sIx n n h:Nat):Int)):=by
 have a:¬((1:Int)<0):=by decide
 refine sM ?_ ?_
 .cases l with
  |none=>rfl
  |some v=>exact MM v n 0
 .cases h with
  |none=>rfl
  |some v=>exact MM v n n
def UR(i j:Nat):tj (i:Int) (j:Int) 1=j-i:=by
 unfold tj;have h:(1:Int)>0:=by decide
 simp only[h,if_true,Int.ediv_one];split<;>simp_all
def MN(p:lT v o)(h:Q o s):wpAny (model prog w) A (Sj v) Q E s:=by
 cases p with
 |none=>exact Aq h
 |int i t=>exact slicePart_int h
def MO{sl:Addr}{v u:Value}{l i:Option Int}{n:Nat}{Q:Int×Int×Nat->ao->Prop}(a:s.heap.IsSliceOf sl v u .none)(aO:lT v l)(p:lT u i)
  (h:Q (((sIx n 0 l:Nat):Int),1,sIx n n i-sIx n 0 l) s):wpAny (model prog w) A (Ee (.ref sl) (pure (n:Int))) Q E s:=by
 obtain⟨b,o,c,d⟩:=id a;refine ak (ak (gR o d (x:=v) rfl (ak (gR o d (x:=u) rfl (ak (gR o d (x:=.none) rfl (aB ?_)))))));refine ak (Aq ?_);refine ak (MN aO (ak (MN p (ak (aB ?_)))));show wpAny _ _ (match AO l i 1 (n:Int)with|(l,i)=>pure (l,(1:Int),tj l i 1)) _ _ s;rw[UQ l i n];show wpAny _ _ (pure _) _ _ s;rw[UR];exact aB h
def US(xs:Array Value)(i k:Nat):((dP k).filterMap λ(m:Nat)=>xs[((i:Int)+(m:Int)*1).toNat]?).toArray=((xs.toList.drop i).take k).toArray:=by
 have e:(λ(m:Nat)=>xs[((i:Int)+(m:Int)*1).toNat]?)=λ m=>xs[i+m]?:=by
  funext m
  have:((i:Int)+(m:Int)*1).toNat=i+m:=by lia
  rw[this]
 rw[e]
 have:=pick_run xs i k
 have a:((λ x=>xs[x]?)∘λ x=>i+x)=λ m=>xs[i+m]?:=rfl
 simp_all
def ur{t sl:Addr}{items:Array Value}{v u:Value}{l i:Option Int}{Q:Value->ao->Prop}(a:IsTup s.heap t items)(d:s.heap.IsSliceOf sl v u .none)(aO:lT v l)(p:lT u i)
  (e:¬(sIx items.size 0 l=0/\sIx items.size items.size i=items.size))
  (h:Q (.ref s.heap.objs.size) {s with heap:=s.heap.push {cls:=.type "tuple",data:=.seq ((items.toList.drop (sIx items.size 0 l)).take (sIx items.size items.size i-sIx items.size 0 l)).toArray}})
  (z:items.size<=aI):wpAny (model prog w) A (pl (.ref t) (.ref sl)) Q E s:=by
 have b:sizeOk (.seq ((items.toList.drop (sIx items.size 0 l)).take (sIx items.size items.size i-sIx items.size 0 l)).toArray):=by
  show((items.toList.drop (sIx items.size 0 l)).take (sIx items.size items.size i-sIx items.size 0 l)).toArray.size<=aI
  rw[cW,eY,iJ,dY];exact Su z
 have j:sIx items.size items.size i<=items.size:=UP _ _ (bc _) i;obtain⟨f,o,c,g⟩:=id d;have T:s.TypeIs (.ref sl) "slice":=⟨f,o,c⟩;unfold pl
 try with_reducible refine iL ?_
 first|refine ak (aB ?_)|skip
 refine ak (Ay a.typeIs (by decide) ?_);refine ak (mK (name:=mW "__getitem__") a.typeIs qG
  (jX qG a.typeIs DL ?_ (DM _ _)))
 show wpAny _ _ (Ef (.ref t)>>=_) _ _ s;refine ak (DN a ?_);refine ak (sW T ?_);rw[if_pos (by decide)];refine ak (MO d aO p ?_);have n:¬((((sIx items.size 0 l:Nat):Int)==0&&(1:Int)==1&&(sIx items.size items.size i-sIx items.size 0 l)==items.size)=true):=by
  intro q;rw[cF,cF]at q;have k:((sIx items.size 0 l:Nat):Int)=0:=qt q.1.1;have r:sIx items.size items.size i-sIx items.size 0 l=items.size:=qt q.2;exact e ⟨by simp_all,by simp_all⟩
 show wpAny _ _ (if (((sIx items.size 0 l:Nat):Int)==0&&(1:Int)==1&&(sIx items.size items.size i-sIx items.size 0 l)==items.size)=true then _ else _) _ _ s;rw[if_neg n,US]
 first
  |exact ak (m:=qP _) (i3 (aB ⟨_,rfl,aB h⟩) b)
  |exact ak (m:=qP _) (i3 (ak (aB (aB ⟨_,rfl,aB h⟩))) b)
  |exact ak (ak (m:=qP _) (i3 (aB (aB ⟨_,rfl,aB h⟩)) b))
  |exact ak (ak (m:=qP _) (i3 (aB ⟨_,rfl,aB h⟩) b))
end
end HT
namespace L2
open PySem PySem.Spec PyProof.Rows
abbrev dc:=St->ah->(Option Int->ah->Prop)->Prop
def tL(X:aC)(e:Option Expr)(t:dc):Prop:=
 ∀(k:bF) (s:ao) (σ:St) (H:ah) (Q:Option Int->ah->Prop),Inv X k σ H s->t σ H Q->
  wpAny (bJ X) X.A (evalPart e X.env) (λ u s'=>∃o H',Inv X k σ H' s'/\lT u o/\Q o H') X.xe s
def UT:dc:=λ _ H Q=>Q none H
def UU(t:bz):dc:=λ σ H Q=>t σ H λ x a=>∃i,x= .int i/\Q (some i) a
def intsAre_of:∀{us:List Value},Vals (ns.map V.int) us->dE us ns:=by
 induction ns with
 |nil=>intro us r;cases r;exact .nil
 |cons n ns i=>
  intro us r;cases r with
  |cons a b=>
   obtain⟨t,e⟩:=a;subst e;exact .cons n t (i b)
section
variable{X:aC}{e:Expr}{d:bz}{o c:Option Expr}{g th:dc}{j f:Pos}
def UV:tL X none UT:=by
 intro k s σ H Q I h;exact aB ⟨_,H,I,.none,h⟩
def UW(h:aY X e d):tL X (some e) (UU d):=by
 intro k s σ H Q I w;refine aZ (h _ s σ H _ I w) λ u f ⟨x,a,b,r,c⟩=>?_
 obtain⟨i,rfl,q⟩:=c;obtain⟨t,rfl⟩:=r;exact⟨_,a,b,.int i t,q⟩
def ri(X:aC)(r:V->Option Int->Option Int->ah->br->Prop):Prop:=
 ∀(k:bF) (s:ao) (σ:St) (H:ah) (x:V) (v l u:Value) (o c:Option Int) (sl:Addr) (Q:br),Inv X k σ H s->RelV x v->s.heap.IsSliceOf sl l u .none->lT l o->lT u c->r x o c H Q->
  ∃T i,vc (.type T) "__getitem__"=pure (some (.builtin i))/\s.TypeIs v T/\wpAny (bJ X) X.A (pl v (.ref sl)) (hh X k σ Q) X.xe s
def ri.or(h:ri X r)(h':ri X r'):ri X (λ x o c H Q=>r x o c H Q\/r' x o c H Q):=by
 intro k s σ H x v l u o c sl Q I a b aO p q;rcases q with q|q
 .exact h _ s σ H x v l u o c sl Q I a b aO p q
 .exact h' _ s σ H x v l u o c sl Q I a b aO p q
def MP(r:V->Option Int->Option Int->ah->br->Prop)(d:bz)(g th:dc):bz:=λ σ H Q=>d σ H λ x a=>g σ a λ l b=>th σ b λ u c=>r x l u c Q
def UX(n:ri X r)(p:aY X e d)(t:tL X o g)(w:tL X c th):aY X (.Subscript e (.Slice o c none f) j) (MP r d g th):=by
 intro k s σ H Q I h;refine DP (aZ (p k s σ H _ I h) λ v y ⟨x,z,A,B,C⟩=>?_);refine D9 (aZ (t k y σ z _ A C) λ a s2 ⟨l,D,E,aO,F⟩=>aZ (w k s2 σ D _ E F) λ i s3 ⟨u,m,G,J,K⟩=>?_);rw[D3];refine aB ?_;have L:Inv X k σ m {s3 with heap:=s3.heap.push {cls:=.type "slice",data:=.fields #[a,i,.none]}}:=G.kept (t':=s3.toks) λ b P q=>bj _ q
 obtain⟨T,R,M,N,O⟩:=n k {s3 with heap:=s3.heap.push {cls:=.type "slice",data:=.fields #[a,i,.none]}} σ m x v a i l u _ Q L B (Eo ..) aO J K;exact tail_any N M O (by with_unfolding_all rfl)
noncomputable def og(xs:List V)(o c:Option Int):List V:=(xs.drop (HT.sIx xs.length 0 o)).take (HT.sIx xs.length xs.length c-HT.sIx xs.length 0 o)
def MQ(xs:List V)(o c:Option Int):(og xs o c).length<=xs.length:=by
 unfold og;rw[eY,iJ];exact Sp
def BC(K:av):aG:=λ x y H Q=>∃a b ns m,x= .ref a/\y= .ref b/\bf K H a (ns.map V.int)/\bf K H b (m.map V.int)/\Q (.bl (HT.lexLt ns m)) H
def UY(c:X.A.units<cLine):bU X (eK .Lt) (BC X.K):=by
 intro l s σ H x y v u Q I r d h;obtain⟨a,b,ns,m,rfl,rfl,ha,e,q⟩:=h;cases r;cases d;obtain⟨t,g,p,_⟩:=I.tuple ha;obtain⟨i,j,f,_⟩:=I.tuple e;have k:=intsAre_of g;have bw:=intsAre_of j;exact HT.zN p f k bw c ⟨.bl _,H,I,rfl,q⟩
def UZ(K:av):aG:=λ x y H Q=>∃a b xs s,x= .ref a/\y= .ref b/\bf K H a xs/\bf K H b s/\xs≠[]/\xs.length+s.length<=aI/\
 (s=[]->Q (.ref a) H)/\(s≠[]->∀p,H p=none->Q (.ref p) (bq H p (.tup (xs++s))))
def Vals.nil_iff(r:Vals xs us):us=[]↔xs=[]:=by
 cases r<;>simp_all
def U0:bU X (hZ .Add) (UZ X.K):=by
 intro m s σ H x y v u Q I d e h;obtain⟨a,b,xs,n,rfl,rfl,ha,g,j,hz,k,l⟩:=h;cases d;cases e;obtain⟨t,c,p,_⟩:=I.tuple ha;obtain⟨i,r,f,_⟩:=I.tuple g;refine HT.aMk p f (λ z=>j (c.nil_iff.mp z)) (λ z=>⟨.ref a,H,I,rfl,k (r.nil_iff.mp z)⟩) (λ z=>?_) (by rw[<-c.length,<-r.length];assumption);refine⟨.ref _,_,I.laid (λ b o q=>bj _ q) (bc _) ?_,rfl,l (λ w=>z (r.nil_iff.mpr w)) _ (I.hok.fresh (bc _))⟩;exact⟨⟨by simp_all,NoD.push _⟩,_,c.append r,sQ _ _⟩
end
noncomputable def me(n:Nat)(i:Int):Option Nat:=if 0<=i then(if i<n then some i.toNat else none)else if -(n:Int)<=i then some (i+n).toNat else none
noncomputable def nf{α:Type}(xs:List α)(i:Int):Option α:=(me xs.length i).bind λ j=>xs[j]?
def MR(h:me n i=some j):seqIndex? i n=some j/\j<n/\-(n:Int)<=i/\i<n:=by
 unfold me at h;by_cases b:0<=i
 .rw[if_pos b]at h
  by_cases a:i<n
  .rw[if_pos a]at h
   have e:i.toNat=j:=hX h;exact⟨by rw[D8 b a,e],by lia,by lia,a⟩
  simp_all
 .rw[if_neg b]at h
  by_cases a: -(n:Int)<=i
  .rw[if_pos a]at h
   have e:=hX h;exact⟨by rw[D7 (by simp_all) a,e],by lia,a,by lia⟩
  simp_all
def Fn(h:nf xs i=some v):∃j,seqIndex? i xs.length=some j/\xs[j]? =some v/\j<xs.length/\-(xs.length:Int)<=i/\i<xs.length:=by
 unfold nf at h;cases e:me xs.length i with
 |none=>simp_all
 |some j=>
  rw[e]at h;obtain⟨a,b,c,d⟩:=MR e;exact⟨j,a,h,b,c,d⟩
def MS(b:Expr):Prop:=∀o i,subscripted b false o i=operate [o,i] (pl o i)
def pD(X:aC)(r:aG):Prop:=
 ∀(a l:Expr) (k:bF) (s:ao) (σ:St) (H:ah) (x y:V) (v u:Value) (Q:br),Inv X k σ H s->RelV x v->RelV y u->r x y H Q->
  subscripted l false v u=operate [v,u] (pl v u)->wpAny (bJ X) X.A (subscriptTail a l v u) (hh X k σ Q) X.xe s
def yt(X:aC)(i:String)(r:V->List V->ah->br->Prop):Prop:=
 ∀(k:bF) (s:ao) (σ:St) (H:ah) (x:V) (xs:List V) (v:Value) (us:List Value) (Q:br),Inv X k σ H s->RelV x v->Vals xs us->r x xs H Q->
  wpAny (bJ X) X.A (call (.builtin i) (v::us)) (hh X k σ Q) X.xe s
section
variable{X:aC}{a b:Expr}{ta tb:bz}{g:Pos}
def pD.or(h:pD X r)(h':pD X r'):pD X (λ x y H Q=>r x y H Q\/r' x y H Q):=by
 intro a l k s σ H x y v u Q I b c q d;rcases q with q|q
 .exact h _ _ _ s σ H x y v u Q I b c q d
 .exact h' _ _ _ s σ H x y v u Q I b c q d
def MT{r:aG}(c:pD X r)(ha:aY X a ta)(d:aY X b tb)(e:MS b):aY X (.Subscript a b g) (tG r ta tb):=by
 intro l s σ H Q I h;exact DP (Fi ha d I h λ v u s2 x y f i j k q=>c a b _ s2 σ f x y v u Q i j k q (e _ _))
def MU(K:av):aG:=λ x y H Q=>∃p xs i v,x= .ref p/\y= .int i/\bN K H p xs/\nf xs i=some v/\Q v H
def MV(K:av):aG:=λ x y H Q=>∃p xs i v,x= .ref p/\y= .int i/\bf K H p xs/\nf xs i=some v/\Q v H
def MW:aG:=λ x y H Q=>∃z i c,x= .str z/\y= .int i/\z.length<=aI/\nf z.cps.toList i=some c/\Q (.str ⟨#[c]⟩) H
def MX:pD X (MU X.K):=by
 intro l c n s σ H x y v u Q I o A h g;obtain⟨p,xs,i,z,rfl,rfl,B,C,q⟩:=h;cases o;obtain⟨t,rfl⟩:=A;obtain⟨b,r,aO,hz⟩:=I.list B;obtain⟨j,a,D,J,E,F⟩:=Fn C;obtain⟨w,k,d⟩:=r.get D;have G:=r.length;have K:=vx;have f:hh X n σ Q w s:=⟨z,H,I,d,q⟩;by_cases m:0<=i
 .have e:i.toNat=j:=by
   rw[D8 m F]at a;exact hX a
  exact item_listR aO.isList m (by lia) (by rw[e];simpa using k) f g
 .have e:(i+(b.toArray.size:Int)).toNat=j:=by
   rw[D7 (by simp_all) E]at a;rw[cW,<-G];exact hX a
  exact Kd (x:=w) aO.isList.typeIs Kn.lookup
   (wpAny_getItem_list_neg aO.isList (by simp_all) (by rw[cW]<;>simp_all) (by lia) (by rw[e];simpa using k) ⟨rfl,f⟩) g
def U1:pD X (MV X.K):=by
 intro a l A s σ H x y v u Q I c d h e;obtain⟨p,xs,i,z,rfl,rfl,g,k,q⟩:=h;cases c;obtain⟨t,rfl⟩:=d;obtain⟨m,r,aO,hz⟩:=I.tuple g;obtain⟨j,B,n,C,D,E⟩:=Fn k;obtain⟨w,o,b⟩:=r.get n;have F:=r.length;have G:=vx;have f:hh X _ σ Q w s:=⟨z,H,I,b,q⟩;exact Kd aO.typeIs slot_tuple_getitem.lookup
  (getItem_tuple (j:=j) aO (by lia) (by lia) (by simp_all) (by simpa using o) ⟨rfl,f⟩) e
def U2:pD X MW:=by
 intro a l o s σ H x y v u Q I r d h e;obtain⟨z,i,c,rfl,rfl,hz,f,q⟩:=h;obtain⟨t,rfl⟩:=r;obtain⟨t',rfl⟩:=d;obtain⟨j,b,g,p,k,m⟩:=Fn f;have n:z.cps.toList.length=z.length:=by rfl
 rw[n]at b k m;have w:=vx;exact tail_any (typeIs_str s z t) slot_str_getitem.lookup (getItem_str (by lia) (by rw[b];simpa using g) ⟨.str _,H,I.tok _,⟨_,rfl⟩,q⟩) e
def Fo(K:av):aG:=λ x y H Q=>MU K x y H Q\/MV K x y H Q\/MW x y H Q
def U3:pD X (Fo X.K):=MX.or (U1.or U2)
def U4(i:List Value)(n j:Nat)(u:Value):kU (·.setIfInBounds j u) {cls:=.type "list",data:=.seq i.toArray n}={cls:=.type "list",data:=.seq (i.set j u).toArray n}:=by
 simp[kU]
theorem Inv.lst(I:Inv X kX σ H s)(h:H p=some (.lst xs)):
  ∃(i:List Value) (n:Nat),Vals xs i/\s.heap.get? p=some {cls:=.type "list",data:=.seq i.toArray n}/\xs.length<=aI:=by
 obtain⟨z,i,n,r,e⟩:=I.hok p _ h;exact⟨_,n,r,e,z⟩
def Inv.lstUpd{k:bF}{σ:St}{H:ah}{s:ao}{p:Addr}{xs y:List V}{i its':List Value}{n n':Nat}{f:Obj->Obj}(I:Inv X k σ H s)(h:H p=some (.lst xs))
  (o:s.heap.get? p=some {cls:=.type "list",data:=.seq i.toArray n})(hf:f {cls:=.type "list",data:=.seq i.toArray n}={cls:=.type "list",data:=.seq its'.toArray n'})(r:Vals y its')(hz:y.length<=aI)(t:Nat):
  Inv X k σ (bq H p (.lst y)) {s with heap:=s.heap.update p f,toks:=t}:=by
 have e:(s.heap.update p f).get? p=some {cls:=.type "list",data:=.seq its'.toArray n'}:=by
  rw[vj f o (by rw[hf]<;>rfl),hf]
 refine I.write (by rw[h];trivial) (.inl rfl) (λ b u a q=>(tv _ _ (jT a)).trans q) ⟨_,e⟩ ?_;exact⟨hz,_,n',r,e⟩
def MY:V->V->V->ah->(ah->Prop)->Prop:=λ o i v H Q=>∃p xs k j,o= .ref p/\i= .int k/\H p=some (.lst xs)/\me xs.length k=some j/\Q (bq H p (.lst (xs.set j v)))
def set_list:Mq X MY:=by
 intro B s σ H o i v C D u Q I x y z h;obtain⟨p,xs,k,j,rfl,rfl,e,A,q⟩:=h;cases x;obtain⟨t,rfl⟩:=y;obtain⟨a,n,r,b,hz⟩:=I.lst e;obtain⟨c,E,f,g⟩:=MR A;have l:=r.length;have F:=vx;have m:=
  I.lstUpd e b (U4 a n j u) (r.set z j) (by rw[nN];exact hz) s.toks
 by_cases w:0<=k
 .have d:k.toNat=j:=by
   rw[D8 w g]at c;exact hX c
  exact PySem.W.ki_setAt b w (by lia) (by rw[cW,<-l];exact g) (by rw[d];exact⟨_,m,q⟩)
 .have d:(k+(a.toArray.size:Int)).toNat=j:=by
   rw[D7 (by simp_all) f]at c;simp_all
  exact PySem.W.ki_setBack b (by simp_all) (by rw[cW,<-l];exact f) (by lia) (by rw[d];exact⟨_,m,q⟩)
def Fp(l a:Option Int)(n:Nat):(mO l a none n).1=((HT.sIx n 0 l:Nat):Int)/\(mO l a none n).2.1=((HT.sIx n n a:Nat):Int)/\(mO l a none n).2.2=1:=by
 refine⟨?_,?_,rfl⟩
 .cases l with
  |none=>rfl
  |some i=>
   simp only[mO,HT.sIx,DI,show(1:Int)>0 by decide,if_true];by_cases h:i<0
   .simp only[h,if_true]<;>grind
   .simp only[h,if_false]<;>grind
 .cases a with
  |none=>rfl
  |some i=>
   simp only[mO,HT.sIx,DI,show(1:Int)>0 by decide,if_true];by_cases h:i<0
   .simp only[h,if_true]<;>grind
   .simp only[h,if_false]<;>grind
def U5(i:List Value)(l h:Option Int):slicePick i.toArray l h none=((i.drop (HT.sIx i.length 0 l)).take (HT.sIx i.length i.length h-HT.sIx i.length 0 l)).toArray:=by
 obtain⟨a,b,c⟩:=Fp l h _;unfold slicePick;rw[a,b,c];simp only[sliceRange_one,pick_run]<;>rfl
def MZ(K:av):V->Option Int->Option Int->ah->br->Prop:=λ x l h H Q=>∃a xs,x= .ref a/\bN K H a xs/\∀p,H p=none->Q (.ref p) (bq H p (.lst (og xs l h)))
def U6:ri X (MZ X.K):=by
 intro g s σ H x v j u l i sl Q I c d aO p h;obtain⟨a,xs,rfl,e,q⟩:=h;cases c;obtain⟨f,r,t,hz⟩:=I.list e;have k:=r.length;refine⟨"list",_,Kn.lookup,t.isList.typeIs,?_⟩;refine wpAny_getItem_list_slice t.isList d aO p .none (by simp) ?_ (by simp_all);rw[U5,<-k];refine⟨.ref s.heap.objs.size,_,I.laid (t':=s.toks) (λ b o q=>bj _ q) (bc _) ?_,rfl,q _ (I.hok.fresh (bc _))⟩;exact⟨eJ (MQ xs l i) hz,_,0,(r.drop _).take _,dr _ rfl⟩
def M0:fC X (.builtin "len") (λ xs H Q=>∃p y,xs=[.ref p]/\(bN X.K H p y\/bf X.K H p y)/\Q (.int y.length) H):=by
 intro c s σ H xs us Q I r h;obtain⟨p,y,rfl,a,q⟩:=h;obtain⟨u,rfl,x⟩:=vals1 r;cases x;have n:=vx;rcases a with a|a
 .obtain⟨i,b,aO,hz⟩:=I.list a
  have k:=b.length;exact Calls.call_len_list aO.isList (by simp only[cW]<;>lia) ⟨.int _,H,I.tok _,⟨_,by rw[cW,k]⟩,q⟩
 .obtain⟨i,b,aO,hz⟩:=I.tuple a
  have k:=b.length;exact len_tuple aO (by simp only[cW]<;>lia) ⟨.int _,H,I.tok _,⟨_,by rw[cW,k]⟩,q⟩
def fC.or(h:fC X f r)(h':fC X f r'):fC X f (λ xs H Q=>r xs H Q\/r' xs H Q):=by
 intro k s σ H xs us Q I a q;rcases q with q|q
 .exact h _ s σ H xs us Q I a q
 .exact h' _ s σ H xs us Q I a q
def M1:fC X (.type "list") (λ xs H Q=>∃p y,xs=[.ref p]/\(bN X.K H p y\/bf X.K H p y)/\∀l,H l=none->Q (.ref l) (bq H l (.lst y))):=by
 intro v s σ H xs us Q I r h;obtain⟨p,y,rfl,d,q⟩:=h;obtain⟨u,rfl,x⟩:=vals1 r;cases x;have f:∀(i:List Value),Vals y i->y.length<=aI->∀(h':Heap) (c:Nat),(∀b t,s.heap.get? b=some t->h'.get? b=some t)->
   h'.get? s.heap.objs.size=some _->hh X v σ Q (.ref s.heap.objs.size) {s with heap:=h'}:=λ i a hz h' c k e=>
  ⟨.ref s.heap.objs.size,_,I.laid (t':=s.toks) k (bc _) (show fZ X.prog X.w _ h' _ (.lst y)from⟨hz,i,c,a,e⟩),rfl,q _ (I.hok.fresh (bc _))⟩
 rcases d with d|d
 .obtain⟨i,a,aO,hz⟩:=I.list d
  have K:=a.length;obtain⟨o,g,j,n,m⟩:=aO.isList;exact call_list_seq p (.inl rfl) g j m (λ h' c k e=>f i a hz h' c k e) (by simp_all)
 .obtain⟨i,a,aO,hz⟩:=I.tuple d
  have K:=a.length;obtain⟨o,g,j,n,m⟩:=aO;exact call_list_seq p (.inr rfl) g j m (λ h' c k e=>f i a hz h' c k e) (by simp_all)
def U7:fC X (.type "tuple") (λ xs H Q=>∃p y,xs=[.ref p]/\((bN X.K H p y/\∀l,H l=none->Q (.ref l) (bq H l (.tup y)))\/(bf X.K H p y/\Q (.ref p) H))):=by
 intro g s σ H xs us Q I r h;obtain⟨p,y,rfl,h⟩:=h;obtain⟨u,rfl,x⟩:=vals1 r;cases x;rcases h with ⟨a,q⟩|⟨a,q⟩
 .obtain⟨i,c,aO,hz⟩:=I.list a
  have K:=c.length;refine call_tuple_list aO.isList (λ h' k=>?_) (by simp_all);have d:=I.kept (t':=s.toks) k;have f:=
   d.laid (t':=s.toks) (λ b o e=>bj _ e) (bc _) (show fZ X.prog X.w _ _ _ (.tup y)from⟨⟨hz,NoD.push _⟩,i,c,sQ _ _⟩)
  exact⟨.ref _,_,f,rfl,q _ (d.hok.fresh (bc _))⟩
 .obtain⟨i,c,aO,hz⟩:=I.tuple a
  exact call_tuple_same aO ⟨.ref p,H,I,rfl,q⟩
def Fq(K:av)(T:String)(x:V)(H:ah):Prop:=match x with
 | .str _=>T="str"
 | .int _=>T="int"
 | .ref p=>(T="list"/\∃xs,bN K H p xs)\/(T="tuple"/\∃o,K.lookup p=some o/\o.cls= .type "tuple"/\o.dict=none)\/
   (T="dict"/\((∃k,H p=some (.dK k))\/∃k,H p=some (.dT k)))\/(T="set"/\∃S n,H p=some (.set S n))
 |_=>False
def M3(I:Inv X kX σ H s)(r:RelV x v)(y:Fq X.K T x H):
  s.TypeIs v T/\∀a,v= .ref a->∃g,s.heap.get? a=some g/\g.dict=none:=by
 cases x with
 |str z=>
  obtain⟨t,rfl⟩:=r;cases (show T="str" from y);exact⟨typeIs_str s z t,λ _ e=>nomatch e⟩
 |int i=>
  obtain⟨t,rfl⟩:=r;cases (y);exact⟨ph s i t,λ _ e=>nomatch e⟩
 |ref p=>
  cases r;rcases y with ⟨rfl,xs,q⟩|⟨rfl,o,h,j,d⟩|⟨rfl,h⟩|⟨rfl,S,n,h⟩
  .obtain⟨l,_,aO,_⟩:=I.list q
   refine⟨aO.isList.typeIs,λ a e=>?_⟩;cases e;obtain⟨o,n,e,c,d,_⟩:=aO;exact⟨o,e,d⟩
  .refine⟨⟨o,I.kIn p o h,j⟩,λ a e=>?_⟩
   cases e;exact⟨o,I.kIn _ o h,d⟩
  .have z:∃o,s.heap.get? p=some o/\o.ExactDict:=by
    rcases h with ⟨k,h⟩|⟨k,h⟩
    .obtain⟨_,_,_,_,o,_,_,e,b,_⟩:=I.hok p _ h
     exact⟨o,e,b⟩
    .obtain⟨_,_,_,_,o,_,_,e,b,_⟩:=I.hok p _ h
     exact⟨o,e,b⟩
   obtain⟨o,e,b⟩:=z;refine⟨⟨o,e,b.1⟩,λ a f=>?_⟩;cases f;exact⟨o,e,b.2.1⟩
  .obtain⟨o,_,_,_,e,b,_⟩:=I.hok p _ h
   refine⟨⟨o,e,b.1⟩,λ a f=>?_⟩;cases f;exact⟨o,e,b.2.1⟩
 |_=>exact aX y
def M4(K:av)(T:String)(r:V->List V->ah->br->Prop)(t:bz):bz:=λ σ H Q=>t σ H λ x a=>Fq K T x a/\r x [] a Q
def yu(K:av)(T:String)(r:V->List V->ah->br->Prop)(o:bz)(t:fv):bz:=λ σ H Q=>o σ H λ x a=>Fq K T x a/\t σ a λ xs b=>r x xs b Q
variable{o e:Expr}{es:List Expr}{d:bz}{t:fv}{name:Str}{p c:Pos}{T i:String}{r:V->List V->ah->br->Prop}
def U8(pa:PlainAttrs T)(l:Slot T name i)(t:typeOf (.builtin i)=pure (.type "method_descriptor"))(m:yt X i r)(f:aY X o d)
  (b:sU o name X.env (eval o X.env)=eval o X.env:=by rfl)(hline:(p.endLine==c.line)=true:=by rfl):aY X (.Call (.Attribute o name p) [] [] c) (M4 X.K T r d):=by
 intro u s σ H Q I h;refine wpAny_Call_method0_late b hline (aZ (f _ s σ H _ I h) λ v g ⟨x,j,a,e,y,q⟩=>?_);obtain⟨k,n⟩:=M3 a e y;exact⟨T,i,pa,l,t,k,n,KC rfl (PySem.evalArgs_none (m _ g σ j x [] v [] Q a e .nil q))⟩
def vz(pa:PlainAttrs T)(l:Slot T name i)(y:typeOf (.builtin i)=pure (.type "method_descriptor"))(m:yt X i r)(n:aY X o d)(ha:eE X (e::es) t)
  (b:sU o name X.env (eval o X.env)=eval o X.env:=by rfl)
  (f:((gk c (aW (e::es) X.env)).all (λ x=>!x.1)&&(sY c (sX [] X.env)).all (λ x=>x.1.isSome)
   &&decide ((e::es).length+([]:List jt).length+(if ([]:List jt).isEmpty then 0 else 1)<30))=true:=by rfl)
  (hline:(p.endLine==c.line)=true:=by rfl)(q:aW (e::es) X.env=(false,eval e X.env)::aW es X.env:=by rfl)(a:(gk c (aW es X.env)).any (·.1)=false:=by rfl):
  aY X (.Call (.Attribute o name p) (e::es) [] c) (yu X.K T r d t):=by
 intro k s σ H Q I h;refine wpAny_Call_method_late b f hline rfl (aZ (n k s σ H _ I h) λ v u ⟨x,w,g,j,z,B⟩=>?_);obtain⟨C,D⟩:=M3 g j z;refine⟨T,i,pa,l,y,C,D,?_⟩;have A:=ha c k u σ w _ g B;rw[q]at A ⊢;refine KC (by assumption) (KD ?_);exact aZ A λ us s2 ⟨E,F,G,J,K⟩=>m _ s2 σ F x E v us Q G j J K
end
def vA(X:aC)(i:String)(r:V->List V->ah->br->Prop):Prop:=
 ∀(k:bF) (s:ao) (σ:St) (H:ah) (x:V) (xs:List V) (v:Value) (us:List Value) (Q:br),Inv X k σ H s->RelV x v->Vals xs us->r x xs H Q->
  wpAny (bJ X) X.A (call (.builtin i) (v::us)) (hh X k σ Q) X.xe s
def Vals.one:∀{x:V} {us:List Value},Vals [x] us->∃u,us=[u]/\RelV x u
 |_,_,.cons r .nil=>⟨_,rfl,r⟩
def Vals.zero:∀{us:List Value},Vals [] us->us=[]
 |_,.nil=>rfl
theorem Vals.dropLast(h:Vals xs us):Vals xs.dropLast us.dropLast:=by
 induction h with
 |nil=>exact .nil
 |cons r t i=>
  cases t with
  |nil=>exact .nil
  |cons q t'=>exact .cons r i
theorem Vals.reverse(h:Vals xs us):Vals xs.reverse us.reverse:=by
 induction h with
 |nil=>exact .nil
 |cons r t i=>rw[xt,xt];exact Vals.append i (.cons r .nil)
theorem Vals.rep(h:Vals xs us):∀k:Nat,Vals (dO k xs).flatten (dO k us).flatten
 |0=>.nil
 |k+1=>Vals.append h (Vals.rep h k)
def U9(l:List α):l.eraseIdx (l.length-1)=l.dropLast:=by
 induction l with
 |nil=>rfl
 |cons a r i=>
  cases r with
  |nil=>rfl
  |cons b r=>
   have e:(a::b::r).length-1=((b::r).length-1)+1:=by
    have h:(a::b::r).length=r.length+2:=rfl;have c:(b::r).length=r.length+1:=rfl;assumption
   rw[e,List.eraseIdx_cons_succ,i]
   all_goals rfl
theorem foldl_rep(i:List Value):∀(k:Nat) (acc:List Value),
  xB (λ x a=>x++a) acc.toArray (dO k i.toArray)=(acc++(dO k i).flatten).toArray
 |0,acc=>by simp
 |k+1,acc=>by
  have e:acc.toArray++i.toArray=(acc++i).toArray:=by simp
  have b:(acc++i)++(dO k i).flatten=acc++(dO (k+1) i).flatten:=by
   rw[xr,iV,fL]
  rw[<-b,<-foldl_rep _ k _,<-e,xr,Ab]
section
variable{X:aC}{k:bF}{σ:St}{H:ah}{s:ao}{l:Addr}{xs y:List V}
def Inv.lset{i its':List Value}{n:Nat}{f:Array Value->Array Value}{t':Nat}(I:Inv X k σ H s)(h:H l=some (.lst xs))
  (e:s.heap.get? l=some {cls:=.type "list",data:=.seq i.toArray n})(hf:f i.toArray=its'.toArray)(v:Vals y its')(hz:y.length<=aI):
  Inv X k σ (bq H l (.lst y)) {s with heap:=s.heap.update l (kU f),toks:=t'}:=by
 have q:=PySem.IsL.update e f;rw[hf]at q;refine I.write (by rw[h];exact trivial) (.inl rfl) (λ c u b a=>(tv _ _ (jT b)).trans a) ⟨_,q⟩ ?_;exact⟨hz,_,_,v,q⟩
def Inv.lnew(I:Inv X k σ H s)(h:Vals y its)(hz:y.length<=aI):
  Inv X k σ (bq H s.heap.objs.size (.lst y)) {s with heap:=s.heap.push {cls:=.type "list",data:=.seq its.toArray},toks:=t'}:=
 I.laid (λ _ _ q=>bj _ q) (bc _) ⟨hz,_,0,h,dr _ rfl⟩
theorem Inv.fresh(I:Inv X k σ H s):H s.heap.objs.size=none:=I.hok.fresh (bc _)
def Inv.lstM(I:Inv X k σ H s)(h:H l=some (.lst xs)):xs.length<=aI/\∃(i:List Value) (n:Nat),Vals xs i/\xs.length=i.length/\s.heap.get? l=some {cls:=.type "list",data:=.seq i.toArray n}:=by
 obtain⟨z,i,n,r,e⟩:=I.hok l _ h;exact⟨z,_,n,r,r.length,e⟩
def BD(h:n<=aI):xY n=false:=decide_eq_false (by simp_all)
end
section
variable{X:aC}
def Va:V->List V->ah->br->Prop:=λ x v H Q=>∃l xs y,x= .ref l/\v=[y]/\H l=some (.lst xs)/\xs.length<aI/\Q .non (bq H l (.lst (xs++[y])))
def Vb:vA X "list.append" Va:=by
 intro k s σ H x f v us Q I b c h;obtain⟨l,xs,y,rfl,rfl,a,hz,q⟩:=h;cases b;obtain⟨u,rfl,d⟩:=c.one;obtain⟨z,i,n,r,g,e⟩:=I.lstM a;refine hY F.slot_list_append ⟨_,e,rfl⟩ F.entry_list_append (F.args_list_append_2 _ _) (PySem.list_append l _ n u (by simp_all)) ⟨e,?_⟩;refine⟨.non,_,I.lset a e (by simp) (r.append (.cons d .nil)) ?_,rfl,q⟩;rw[cy,z7];assumption
def Vc:V->List V->ah->br->Prop:=λ x v H Q=>∃l b xs z,x= .ref l/\v=[.ref b]/\H l=some (.lst xs)/\H b=some (.lst z)/\xs.length+z.length<=aI/\Q .non (bq H l (.lst (xs++z)))
def Vd:vA X "list.extend" Vc:=by
 intro p s σ H x w v us Q I d f h;obtain⟨l,b,xs,y,rfl,rfl,c,B,hz,q⟩:=h;cases d;obtain⟨u,rfl,g⟩:=f.one;cases g;obtain⟨z,t,n,r,A,e⟩:=I.lstM c;obtain⟨C,i,j,k,m,o⟩:=I.lstM B;have a:t.toArray.size+i.toArray.size<=aI:=by rw[cW,cW];simp_all
 have E:¬(!t.toArray.isEmpty&&xY (t.toArray.size+i.toArray.size))=true:=by
  rw[BD a,xm];exact cL
 refine hY xZ ⟨_,e,rfl⟩ KY (KV _ _)
  (AutoSeq1.list_extend_list_list_0 l t.toArray n b i.toArray j E (by rw[cW];simp_all) (L1 a)) ⟨e,o,?_⟩
 refine⟨.non,_,I.lset (its':=t++i) c e (by simp) (r.append k) ?_,rfl,q⟩;rw[cy];omega
def Ve:V->List V->ah->br->Prop:=λ x v H Q=>∃l xs y,x= .ref l/\v=[]/\H l=some (.lst xs)/\xs[xs.length-1]? =some y/\Q y (bq H l (.lst xs.dropLast))
def Vf:vA X "list.pop" Ve:=by
 intro o s σ H x p v us Q I d f h;obtain⟨l,xs,y,rfl,rfl,c,g,q⟩:=h;cases d;have a:=f.zero;subst a;obtain⟨z,i,n,r,j,e⟩:=I.lstM c;obtain⟨u,k,m⟩:=r.get g;have b:i.toArray[i.toArray.size-1]? =some u:=by
  show i.toArray[i.length-1]? =some u;rw[<-hV,<-j];exact k
 refine hY KS ⟨_,e,rfl⟩ F.entry_list_pop (F.args_list_pop_1 _) (MeetsSeq.list_pop_last l i.toArray n u b (by rw[cW];simp_all)) ⟨e,?_⟩;refine⟨y,_,I.lset (its':=i.dropLast) c e ?_ r.dropLast ?_,m,q⟩
 .show i.toArray.eraseIdxIfInBounds (i.toArray.size-1)=i.dropLast.toArray
  rw[cW,List.eraseIdxIfInBounds_toArray,U9]
 .rw[List.length_dropLast]
  exact LH z
def Vg:aG:=λ x y H Q=>∃l b xs z,x= .ref l/\y= .ref b/\H l=some (.lst xs)/\H b=some (.lst z)/\xs.length+z.length<=aI/\∀p,H p=none->Q (.ref p) (bq H p (.lst (xs++z)))
def Vh:bU X (hZ .Add) Vg:=by
 intro k s σ H x y v u Q I a c h;obtain⟨l,b,xs,m,rfl,rfl,d,B,hz,q⟩:=h;cases a;cases c;obtain⟨z,t,n,r,o,e⟩:=I.lstM d;obtain⟨p,i,w,f,g,j⟩:=I.lstM B;refine PySem.P.add_list e j ?_ (by simp_all);have ea:t.toArray++i.toArray=(t++i).toArray:=by simp
 rw[ea];exact⟨.ref _,_,I.lnew (r.append f) (by rw[cy];omega),rfl,q _ I.fresh⟩
def M5:aG:=λ x y H Q=>∃l k xs,x= .ref l/\y= .int k/\H l=some (.lst xs)/\-(2^63)<=k/\k<2^63/\xs.length*k.toNat<=aI/\
 ∀p,H p=none->Q (.ref p) (bq H p (.lst (dO k.toNat xs).flatten))
def len_rep(xs:List α)(k:Nat):(dO k xs).flatten.length=k*xs.length:=by simp_all
def Vi:bU X (hZ .Mult) M5:=by
 intro D s σ H x y v u Q I b d h;obtain⟨l,k,xs,rfl,rfl,g,j,o,hz,q⟩:=h;cases b;obtain⟨t,rfl⟩:=d;obtain⟨z,i,n,r,p,e⟩:=I.lstM g;have K:i.toArray.size*k.toNat<=aI:=by rw[cW,<-p];exact hz
 have c:¬i.toArray.size*k.toNat>(2^63-1) / 8:=by
  have:(aI:Nat)<=(2^63-1) / 8:=by decide
  lia
 have f:¬(!Builtin.List.listFitsIndex k)=true:=by
  rw[fitsIndex_both j o];exact cL
 have E:¬xY (i.toArray.size*k.toNat)=true:=by
  rw[BD K];exact cL
 have w:xB (λ A B=>A++B) #[] (dO (if i.toArray.isEmpty=true then 0 else k.toNat) i.toArray)=(dO k.toNat i).flatten.toArray:=by
  have C:=λ m=>by
   have:=foldl_rep i m []
   rw[oY]at this;exact this
  rw[C];cases i with
  |nil=>simp
  |cons a G=>rw[if_neg (by simp)]
 refine Au (T:="list") (U:="int") (by decide) ⟨_,e,rfl⟩ (λ s'=>ph s' k t) noFill_list_mul AX qS repeat_list AV.lookup
  (hY qS (ph s k t) AU (AS _ _) (int___rmul___int_list k t l i.toArray n)
   ⟨e,rfl,⟨_,e,rfl⟩,hY F.slot_list_mul ⟨_,e,rfl⟩ F.entry_list_mul (F.args_list_mul_2 _ _) (AutoListH.list___mul___list_int_3 l i.toArray n k t f c E) ⟨e,?_⟩⟩)
 rw[w];exact⟨.ref _,_,I.lnew (t':=s.toks) (r.rep k.toNat) (by rw[len_rep,xG];exact hz),rfl,q _ I.fresh⟩
end
end L2
namespace Att
open PySem PySem.W PySem.Calls PyProof.Rows
def Vj:∀(ns:List Int) (v:List Value),WellAll P h v (ns.map WData.int)->dE v ns:=by
 intro ns;induction ns with
 |nil=>
  intro v w;cases w;exact .nil
 |cons n ns i=>
  intro v w;cases w with
  |cons a b=>
   cases a;exact .cons _ _ (i _ b)
def Vk{l:OpenLaw}{n:Nat}(e:l.most=some n){P:Params}{h:Heap}{args:List WData}{vals:List Value}
  (p:l.row.toRowW.claim.pre args=true)(w:WellAll P h vals args):
  ∃a v ns,vals=[fO a]/\args=[WData.list (ns.map WData.int)]/\h.get? a=some {cls:=.type "list",data:=.seq v.toArray}/\dE v ns/\ns.length<=n:=by
 have Fs:WShape.hasAll [] args [.list .int]=true:=(pre_splitW p).1;have c:l.pre.holds [] {args:=args}=true:=(pre_splitW p).2;obtain⟨d,r,rfl,f,g⟩:=hasAllW_cons Fs;obtain rfl:=hasAllW_nil g;obtain⟨xs,rfl,i⟩:=hasW_list f;obtain⟨ns,rfl⟩:=items_int i;have k:ns.length<=n:=by
  unfold OpenLaw.pre at c;have b:=by
   have b:=(holds_andW c).1;rw[e]at b;exact b
  have m:=condW_of b (w_not (w_lt w_lit (w_len_list (w_arg rfl))));simp_all
 cases w with
 |cons w1 j=>
  cases j;cases w1 with
  |list o Q=>exact⟨_,_,ns,rfl,rfl,o,Vj ns _ Q,k⟩
def Vl(l:OpenLaw)(a:List WData):l.row.toRowW.claim.post a (.bool true) a=true:=
 postW_of
  (show WShape.has [] _ _=true by rfl)
  (w_eq_bool (w_res rfl) w_lit) rfl
def aDk{l:OpenLaw}{n:Nat}{q:aR}{s:List Str}{X:(Str->Option Value)->Heap->Prop}{P:World->Heap->Prop}{d:DefRec}
  (B:l.most=some n)(g:d.params.defaults=[])
  (call:∀(w:World) (i z:ao) (mg m:Str->Option Value) (b:Addr) (o:Obj) (k e c:Value) (a:Addr) (v:List Value) (ns:List Int),
   Ground q s [] X w i mg m z.heap->P w z.heap->
   z.heap.get? b=some o->o.data= .func (docDef d.name d.params d.body d.scope k e c)->z.heap.CodeRec e d.name->mg d.name=some (.ref b)->
   z.heap.get? a=some {cls:=.type "list",data:=.seq v.toArray}->dE v ns->ns.length<=n->z.gens=#[]->
   ie (model l.prog w) ib (.call (.ref b) ⟨[.ref a],[]⟩) (λ r s'=>r= .ok (.ret (.bool true))/\OldK z.heap s'.heap/\s'.os=z.os/\nS s'.gens) z):
  WalkO q s X P l.row.toRowW d [] (λ f v=>D2 f v):=by
 intro w i z mg m G Y b o k e c V eo C E t D u F y vals as p A H x I;obtain rfl:V= .none:=Dflts.none D g;obtain rfl:eo= .none:=Dflts.noKw D;obtain⟨a,v,ns,rfl,rfl,j,h,K⟩:=Vk B p x;refine enter_call (qJ (call w i z mg m b o k e c a v ns G Y C (fd_plain E) t u j h K F) λ r s' J=>?_);obtain⟨rfl,L,M,N⟩:=J;exact⟨.inl ⟨_,.bool true,[],rfl,λ _=>rfl,.bool true,Vl l _,λ _=>⟨JX,λ _ O=>(nomatch O)⟩⟩,L,M,N⟩
section
variable{prog:aR}{w:World}{A:aS}{E:Value->ao->Prop}{s:ao}{K:Frag}
def make_obj(X:K.In s.heap)(m:makesIn K C=true)(i:findIn K (.ref C) "__init__"=some (some (.ref fI)))(hf:isFn K (.ref fI)=true)
  (h:ie (model prog w) (A.under (.builtin "type.__call__" ⟨.ref C::rest,kw⟩)) (.call (.ref fI) ⟨.ref (s.heap.objs.size+1)::rest,kw⟩) (InitBack (s.heap.objs.size+1) R)
   {s with heap:=(s.heap.push emptyDict).push (instObj C s.heap.objs.size)}):ie (model prog w) A (.call (.ref C) ⟨rest,kw⟩) R s:=make_core (makes_of X m) (looks_findIn X i) (λ e=>bind_fn X _ (beq_iff_eq.mp hf)) (.inl rfl) h
def get_field(X:K.In s.heap)(I:LA s.heap x ox C (some (dictOf es n)))(g:plainGet K C name=true)(a:hasDictIn K C=true)(ha:findIn K (.ref C) name=some none)
  (l:getL name es=some (some v))(b:handedIn v=true)(h:Q v {s with toks:=s.toks+1}):wpAny (model prog w) A (getAttr (.ref x) name expr) Q E s:=
 get_value X I (plainGet_of g).1 (findObj_own a ha rfl l) b h
def ledger(h:Heap)(L d:Addr):bF:=(dP h.objs.size).filterMap λ a=>if a=L\/a=d then none else(h.get? a).map λ o=>(a,o)
end
end Att
namespace L2
open PySem PySem.Spec PyProof.Rows
theorem M6:∀{v:List Value} {ns:List Int},dE v ns->Vals (ns.map V.int) v
 |_,_,.nil=>.nil
 |_,_,.cons n t h=>.cons ⟨t,rfl⟩ (M6 h)
def Only(H:ah):Prop:=∀b,H b=none\/∃o xs,H b=some (.frz o (.lst xs))
noncomputable def tM(s:Stmt):mP:=match s with
 | .FunctionDef _ a _ _ _ _ _ _ _ _=>a
 |_=>{posonlyargs:=[],args:=[],vararg:=none,kwonlyargs:=[],kw_defaults:=[],kwarg:=none,defaults:=[]}
def iz(s:Stmt):List Stmt:=match s with
 | .FunctionDef _ _ b _ _ _ _ _ _ _=>b
 |_=>[]
noncomputable def bg(s:Stmt):Scope:=match s with
 | .FunctionDef _ _ _ _ _ _ sc _ _ _=>sc
 |_=>{kind:=.function,names:=[],isGenerator:=false,isCoroutine:=false}
abbrev Ft:oa:=λ _ _ _ _ _ _=>False
abbrev vB:dC:=λ _ _ _=>False
structure Fun(K:av)(x qual:Str)(st:Stmt)(f:Addr)(fd:cB):Prop where
 ex:∃(oc:Value) (od:Option Addr) (eo doc pm:Value) (an:Option Addr) (cdv ct:Value) (osl:Array (Option Value)),
  fd=kV x qual (tM st) (iz st) (bg st) .none eo doc pm an cdv ct/\K.lookup f=some ⟨oc,od,.func fd,osl⟩/\vp K cdv qual=true
 kp:mX K (.ref f)=true
section
variable{K:av}
def Fun.binds{x q:Str}{st:Stmt}{f:Addr}{b:cB}{ps:List Str}(F:Fun K x q st f b)
  (h:∀(eo d p:Value) (a:Option Addr) (c t:Value) (us:List Value),us.length=ps.length->AM (kV x q (tM st) (iz st) (bg st) .none eo d p a c t) ⟨us,[]⟩=pure (ps.zip us)):Binds K b ps []:=by
 obtain⟨g,i,eo,d,p,a,c,t,o,rfl,bY,e⟩:=F.ex;exact .all (h eo _ p a _ t)
def Vm{x q:Str}{st:Stmt}{f:Addr}{b:Value}{e a:Option Addr}{s:Array (Option Value)}{eo o p d t:Value}(l:K.lookup f=some ⟨b,e,.func (kV x q (tM st) (iz st) (bg st) .none eo o p a d t),s⟩)
  (c:vp K d q=true)(k:mX K (.ref f)=true):Fun K x q st f (kV x q (tM st) (iz st) (bg st) .none eo o p a d t):=⟨⟨b,e,eo,_,p,a,_,t,_,rfl,l,c⟩,k⟩
end
def Vn(h:ee k A):A.units+1<cLine:=xE (Nat.add_le_add_left (by decide:1<=64) _) h.units
section
variable{X:aC}
def lj(i:Nat)(N:X.N[i]? =some x:=by rfl)(v:j7 X.env.scope x:=by first|exact fq rfl|exact dz (fq rfl)|exact dz (dz rfl))(d:Nd x:=by decide)
  (h:(x==("__classdict__":Str))=false:=by decide):aY X (.Name x pos) (iw i):=jz N v d h
end
def aE(H H':ah):Prop:=∀b o,H b=some o->H' b=some o
def aE.refl(H:ah):aE H H:=λ _ _ h=>h
def aE.trans(a:aE H H1)(b:aE H1 H2):aE H H2:=λ c o h=>b c o (a c o h)
def aE.free(e:aE H H')(h:H' l=Kb):H l=Kb:=by
 cases q:H l with
 |none=>rfl
 |some o=>
  rw[e l o q]at h;omega
end L2
set_option maxHeartbeats 4000000
namespace HT
open PySem PyProof.Rows
noncomputable def lexLe:List Int->List Int->Bool
 |[],_=>true
 |_::_,[]=>false
 |x::xs,y::s=>if x=y then lexLe xs s else decide (x<=y)
def Vo(x y:Int)(xs s:List Int):lexLe (x::xs) (y::s)=if x=y then lexLe xs s else decide (x<=y):=rfl
def Vp(A:aS)(s:ao)(a:Int)(t:Tok)(c:Int)(u:Tok)(prog:aR)(w:World)(E:Value->ao->Prop)(Q:Value->ao->Prop)(h:Q (.bool (decide (a<=c))) s):
  wpAny (model prog w) A (vb .LtE (.int a t) (.int c u)) Q E s:=
 (PyProof.Rows.le_int h)
section
open PySem.SeqAt
open PySem.AutoSeq1(wpAny_loadPart')
open PySem.MeetsSeq PySem.MeetsSeq2 PySem.MeetsSeq3
def Vq(l b:Addr)(items i:Array Value)(n M:Nat)(dd F:Option Addr)(sl G:Array (Option Value))(ns z:List Int)(I:dE items.toList ns)(J:dE i.toList z):
  Meets (ia.«tuple.__le__» ⟨[.ref l,.ref b],[]⟩)
   (λ _ R s=>s.heap.get? l=some {cls:=.type "tuple",dict:=dd,data:=.seq items n,slots:=sl}/\s.heap.get? b=some {cls:=.type "tuple",dict:=F,data:=.seq i M,slots:=G}/\
    R (.ok (.ret (.bool (lexLe ns z)))) s):=
 .of_wp λ prog w A R s h=>by
  obtain⟨B,g,d,C,D⟩:=s;obtain⟨N,O,h⟩:=h;have U:=Kt;have P:items.size=ns.length:=by rw[<-I.length];simp
  have Q:i.size=z.length:=by rw[<-J.length];simp
  wp_walk using nX N,nX O,wpAny_forIn_list _ (λ rest b s'=>b.1=none/\s'=⟨B,g,d,C,D⟩/\∃(E ws:List Value) (f m:List Int),rest=E.zip ws/\
   dE E f/\dE ws m/\f.length+i.size=m.length+items.size/\R (.ok (.ret (.bool (lexLe f m)))) ⟨B,g,d,C,D⟩) _
  case turn=>
   rintro⟨y,x⟩ rest b s' ⟨k,rfl,E,ws,f,m,hz,v,o,K,j⟩;cases v with
   |nil=>rw[JK]at hz;cases hz
   |cons a t p=>
    cases o with
    |nil=>rw[JH]at hz;cases hz
    |cons c u r=>
     rw[qz]at hz;injection hz with hyx hrest
     injection hyx with hy hx
     subst hy hx;rw[Vo]at j;simp only[eX]at K;obtain⟨e,T,S⟩:=ML A.in1 ⟨B,g,d,C,D⟩ a t c u;refine ak (T prog w _ _ ?_);cases e with
     |true=>
      rw[if_pos (S.mp rfl)]at j;wp_walk;exact⟨rfl,rfl,_,_,_,_,hrest,p,r,L3 K,j⟩
     |false=>
      rw[if_neg (λ q=>absurd (S.mpr q) cL)]at j;have H:=Vp A.in1 ⟨B,g,d,C,D⟩ a t c u prog w;wp_walk using H;exact⟨_,rfl,by simpa using j⟩
  case fin=>
   rintro⟨V,W⟩ s' ⟨k,rfl,E,ws,f,m,hz,v,o,K,j⟩;simp only at k;subst k;have L:lexLe f m=decide (items.size<=i.size):=by
    cases v with
    |nil=>
     simp only[mH]at K;have e:lexLe [] m=true:=by cases m<;>rfl
     rw[e];exact(decide_eq_true (by simp_all)).symm
    |cons a t L=>
     cases o with
     |nil=>
      simp only[mH,eX]at K;show false=_;exact(decide_eq_false (by lia)).symm
     |cons c u X=>
      rw[qz]at hz;cases hz
   rw[L]at j;wp_walk;exact⟨_,rfl,by simpa[Kz]using j⟩
  case h=>
   exact⟨rfl,rfl,items.toList,i.toList,ns,z,rfl,I,J,L6 P Q,h⟩
end
section
variable{prog:aR}{w:World}{A:aS}{E:Value->ao->Prop}{s:ao}
def aEg(g:IsTup s.heap l items)(i:IsTup s.heap b items2)(j:dE items.toList ns)(k:dE items2.toList ms)
  (u:A.units<cLine)(h:Q (.bool (lexLe ns ms)) s):wpAny (model prog w) A (eK .LtE (.ref l) (.ref b)) Q E s:=by
 obtain⟨⟨m,dd,t,sl⟩,e,p,n,q⟩:=id g;obtain⟨⟨f,r,d,v⟩,o,c,y,a⟩:=id i;subst p q c a;exact Ki (op:=.LtE) ⟨_,e,rfl⟩ ⟨_,o,rfl⟩ PySem.F.slot_tuple_le PySem.F.entry_tuple_le (PySem.F.args_tuple_le_2 _ _) (Vq l b _ _ n y dd _ sl _ ns ms j k)
  ⟨e,o,⟨(λ x=>nomatch x),h⟩⟩ u
def aKc{ws:List Value}(f:IsTup s.heap t #[])(g:IsTup s.heap b ws.toArray)(i:Q (.ref b) s):wpAny (model prog w) A (hZ .Add (.ref t) (.ref b)) Q E s:=by
 obtain⟨⟨j,dd,e,sl⟩,o,k,n,m⟩:=id f;obtain⟨⟨l,p,d,q⟩,h,c,r,a⟩:=id g;subst k m c a;exact D6 ⟨_,o,rfl⟩ ⟨_,h,rfl⟩ Az AF vi vh (vg _ _)
   (tuple_addW0 t b _ _ n r dd _ sl _ (by simp)) ⟨o,h,i⟩
def ut{l i:Option Int}(a:IsTup s.heap t items)(b:s.heap.IsSliceOf sl vl vu .none)(aO:lT vl l)(p:lT vu i)
  (d:sIx items.size 0 l=0)(e:sIx items.size items.size i=items.size)
  (h:Q (.ref t) s):wpAny (model prog w) A (pl (.ref t) (.ref sl)) Q E s:=by
 obtain⟨f,o,c,g⟩:=id b;have T:s.TypeIs (.ref sl) "slice":=⟨f,o,c⟩;obtain⟨n,j,k,m⟩:=id a;unfold pl
 try with_reducible refine iL ?_
 first|refine ak (aB ?_)|skip
 refine ak (Ay a.typeIs (by decide) ?_);refine ak (mK (name:=mW "__getitem__") a.typeIs qG
  (jX qG a.typeIs DL ?_ (DM _ _)))
 show wpAny _ _ (Ef (.ref t)>>=_) _ _ s;refine ak (DN a ?_);refine ak (sW T ?_);rw[if_pos (by decide)];refine ak (MO b aO p ?_);have y:(((sIx items.size 0 l:Nat):Int)==0&&(1:Int)==1&&(sIx items.size items.size i-sIx items.size 0 l)==items.size)=true:=by
  rw[d,e];simp
 show wpAny _ _ (if (((sIx items.size 0 l:Nat):Int)==0&&(1:Int)==1&&(sIx items.size items.size i-sIx items.size 0 l)==items.size)=true then _ else _) _ _ s;rw[if_pos y];unfold Sl;refine ak (ak (sW a.typeIs (aB ?_)));rw[if_pos (by decide)];exact ak (mQ (aB ⟨_,rfl,aB h⟩))
def Vr(n:Nat):AO none none (-1) (n:Int)=((n:Int)-1,-1):=by rfl
def Vs(n:Nat):tj ((n:Int)-1) (-1) (-1)=n:=by
 unfold tj;rw[if_neg (by decide)];by_cases h:n=0
 .subst h;rfl
 .rw[if_pos (by lia)]
  simp_all
def Vt(xs:Array Value):((dP xs.size).filterMap λ(m:Nat)=>xs[(((xs.size:Int)-1)+(m:Int)*(-1)).toNat]?)=xs.toList.reverse:=by
 apply Ds;intro i;have k:∀n,n<=xs.size->((dP n).filterMap λ(m:Nat)=>xs[(((xs.size:Int)-1)+(m:Int)*(-1)).toNat]?)=xs.toList.reverse.take n:=by
  intro n;induction n with
  |zero=>intro _;simp
  |succ n b=>
   intro a;rw[JR,List.filterMap_append,b (EM a),Du];congr 1;have e:(((xs.size:Int)-1)+(n:Int)*(-1)).toNat=xs.size-1-n:=by lia
   simp only[oX,List.filterMap_nil,e];rw[z5 (by rw[dY];assumption)];have c:xs.toList.length-1-n=xs.size-1-n:=by simp
   rw[c,hV];have h:xs.size-1-n<xs.size:=Sy a;rw[gj h];rfl
 rw[k xs.size (bc _),iI (by simp)]
def Vu{n:Nat}(a:s.heap.IsSliceOf sl .none .none (.int (-1) u))
  (h:Q ((n:Int)-1,-1,n) s):wpAny (model prog w) A (Ee (.ref sl) (pure (n:Int))) Q E s:=by
 obtain⟨b,o,c,d⟩:=id a;unfold Ee Si;refine ak (ak (gR o d (x:=.none) rfl (ak (gR o d (x:=.none) rfl (ak (gR o d (x:=.int (-1) u) rfl (aB ?_)))))));refine ak (slicePart_int ?_);show wpAny _ _ (if ((-1:Int)==0)=true then _ else _) _ _ s;rw[if_neg (by decide)];refine ak (Aq (ak (Aq (ak (aB ?_)))));show wpAny _ _ (match AO none none (-1) (n:Int)with|(l,i)=>pure (l,(-1:Int),tj l i (-1))) _ _ s;rw[Vr n];show wpAny _ _ (pure ((n:Int)-1,(-1:Int),tj ((n:Int)-1) (-1) (-1))) _ _ s;rw[Vs];exact aB h
def uq(a:IsTup s.heap t items)(d:s.heap.IsSliceOf sl .none .none (.int (-1) u))
  (h:Q (.ref s.heap.objs.size) {s with heap:=s.heap.push {cls:=.type "tuple",data:=.seq items.toList.reverse.toArray}})
  (z:items.size<=aI):wpAny (model prog w) A (pl (.ref t) (.ref sl)) Q E s:=by
 have b:sizeOk (.seq items.toList.reverse.toArray):=by
  show items.toList.reverse.toArray.size<=aI;rw[cW,qy,dY];omega
 obtain⟨e,o,c,f⟩:=id d;have T:s.TypeIs (.ref sl) "slice":=⟨e,o,c⟩;unfold pl
 try with_reducible refine iL ?_
 first|refine ak (aB ?_)|skip
 refine ak (Ay a.typeIs (by decide) ?_);refine ak (mK (name:=mW "__getitem__") a.typeIs qG
  (jX qG a.typeIs DL ?_ (DM _ _)))
 show wpAny _ _ (Ef (.ref t)>>=_) _ _ s;refine ak (DN a ?_);refine ak (sW T ?_);rw[if_pos (by decide)];refine ak (Vu d ?_);show wpAny _ _ (if (((items.size:Int)-1==0&&(-1:Int)==1&&items.size==items.size))=true then _ else _) _ _ s;rw[if_neg (by simp)];rw[show((dP items.size).filterMap λ(k:Nat)=>items[(((items.size:Int)-1)+(k:Int)*(-1)).toNat]?)=items.toList.reverse from Vt items]
 first
  |exact ak (m:=qP _) (i3 (aB ⟨_,rfl,aB h⟩) b)
  |exact ak (m:=qP _) (i3 (ak (aB (aB ⟨_,rfl,aB h⟩))) b)
  |exact ak (ak (m:=qP _) (i3 (aB (aB ⟨_,rfl,aB h⟩)) b))
  |exact ak (ak (m:=qP _) (i3 (aB ⟨_,rfl,aB h⟩) b))
end
end HT
namespace L2
open PySem PySem.Spec PyProof.Rows
noncomputable def M7(t T:String):Bool:=decide (t=T)||(decide (t="bool")&&decide (T="int"))
def Vv{K:av}(h:t∈["NoneType","bool","int","str","list","tuple","dict"])(a:T∈["bool","int","str","list","tuple","dict"]):
  n6 K (.type t) (.type T)=some (M7 t T):=by
 simp only[bI,iK,or_false]at h a;rcases h with rfl|rfl|rfl|rfl|rfl|rfl|rfl<;>rcases a with rfl|rfl|rfl|rfl|rfl|rfl<;>kernel_rfl
noncomputable def ng(t T:String)(b:Bool):Bool:=decide (t∈["NoneType","bool","int","str","list","tuple","dict"])&&decide (T∈["bool","int","str","list","tuple","dict"])&&(M7 t T==b)
def Fu{K:av}(h:ng t T b=true):n6 K (.type t) (.type T)=some b:=by
 unfold ng at h;rw[cF,cF]at h;rw[Vv (of_decide_eq_true h.1.1) (of_decide_eq_true h.1.2),qt h.2]
def eG(h:H p=none)(o:HO):aE H (bq H p o):=λ b u q=>by rw[bR (ir q h)];assumption
section
variable{X:aC}
def Vw(K:av):List V->ah->br->Prop:=λ xs H Q=>∃x T t b,xs=[x,.ty T]/\lh K H x (.type t)/\ng t T b=true/\Q (.bl b) H
def vC:fC X (.builtin "isinstance") (Vw X.K):=by
 intro d s σ H xs us Q I r h;obtain⟨x,T,t,b,rfl,y,ok,q⟩:=h;obtain⟨u,w,rfl,a,c⟩:=vals2 r;obtain rfl:w=ma T:=c;exact UD I a y (Fu ok) λ k=>⟨.bl b,H,I.tok k,rfl,q⟩
def BE(K:av):aG:=λ x y H Q=>∃a b ns m,x= .ref a/\y= .ref b/\bf K H a (ns.map V.int)/\bf K H b (m.map V.int)/\Q (.bl (HT.lexLe ns m)) H
def Vx(c:X.A.units<cLine):bU X (eK .LtE) (BE X.K):=by
 intro l s σ H x y v u Q I r d h;obtain⟨a,b,ns,m,rfl,rfl,ha,e,q⟩:=h;cases r;cases d;obtain⟨t,f,p,_⟩:=I.tuple ha;obtain⟨i,g,j,_⟩:=I.tuple e;have k:=intsAre_of f;have bw:=intsAre_of g;exact HT.aEg p j k bw c ⟨.bl _,H,I,rfl,q⟩
end
def ij(l:Addr)(H H':ah):Prop:=∀b o,b≠l->H b=some o->H' b=some o
def aE.sqt{K:av}(e:aE H H')(h:bf K H a xs):bf K H' a xs:=by
 rcases h with (h|⟨o,h⟩)|h
 .exact .inl (.inl (e _ _ h))
 .exact .inl (.inr ⟨o,e _ _ h⟩)
 .exact .inr h
inductive D where
 |non|bl (b:Bool)|int (i:Int)|str (x:Str)|tup (l:List D)|lst (l:List D)|dct
mutual
inductive rj(H:ah):V->D->Prop where
 |non:rj H .non .non
 |bl (b:Bool):rj H (.bl b) (.bl b)
 |int (i:Int):rj H (.int i) (.int i)
 |str (x:Str):rj H (.str x) (.str x)
 |tup {a:Addr} {xs:List V} {ds:List D} (h:H a=some (.tup xs)) (r:yv H xs ds):rj H (.ref a) (.tup ds)
 |lst {a:Addr} {xs:List V} {ds:List D} (h:H a=some (.lst xs)) (r:yv H xs ds):rj H (.ref a) (.lst ds)
 |dct {a:Addr} (h:H a=some (.dK [])):rj H (.ref a) .dct
inductive yv(H:ah):List V->List D->Prop where
 |nil:yv H [] []
 |cons {x:V} {d:D} {xs:List V} {ds:List D} (h:rj H x d) (r:yv H xs ds):yv H (x::xs) (d::ds)
end
def aY.weaken(h:aY X e t)(imp:∀σ H Q,t' σ H Q->t σ H Q):aY X e t':=λ k s σ H Q I q=>h _ s σ H Q I (imp σ H Q q)
def bU.weaken(h:bU X f r)(imp:∀x y H Q,r' x y H Q->r x y H Q):bU X f r':=λ k s σ H x y v u Q I a b q=>h _ s σ H x y v u Q I a b (imp x y H Q q)
def nh(H:ah)(o:HO)(Q:br):Prop:=∀p H',aE H H'->H' p=some o->H p=none->Q (.ref p) H'
def nh.at(n:nh H o Q)(h:H p=none):Q (.ref p) (bq H p o):=n p _ (eG h o) dM h
section
variable{X:aC}{es:List Expr}{t:fv}{o:Pos}
def Vy(t:fv):bz:=λ σ H Q=>t σ H λ xs a=>xs.length<=aI/\nh a (.tup xs) Q
def M8(t:fv):bz:=λ σ H Q=>t σ H λ xs a=>xs.length<=aI/\nh a (.lst xs) Q
def Vz{x1}(h:eE X es t):aY X (.Tuple es x1 o) (Vy t):=by
 have h':eE X es (λ σ H Q=>∃R:List V->ah->Prop,t σ H R/\∀xs H',R xs H'->Q xs H'):=by
  intro o k s σ H Q I ⟨R,q,imp⟩;exact aZ (h _ _ s σ H R I q) λ us s' ⟨v,H',a,r,b⟩=>⟨v,H',a,r,imp _ _ b⟩
 exact(UG h').weaken λ σ H Q q=>⟨_,q,λ xs H' ⟨z,n⟩=>⟨z,λ p c=>n.at c⟩⟩
def vD(h:eE X es t):aY X (.List es o) (M8 t):=by
 have h':eE X es (λ σ H Q=>∃R:List V->ah->Prop,t σ H R/\∀xs H',R xs H'->Q xs H'):=by
  intro o k s σ H Q I ⟨R,q,imp⟩;exact aZ (h _ _ s σ H R I q) λ us s' ⟨v,H',a,r,b⟩=>⟨v,H',a,r,imp _ _ b⟩
 exact(UH h').weaken λ σ H Q q=>⟨_,q,λ xs H' ⟨z,n⟩=>⟨z,λ p c=>n.at c⟩⟩
def Fv:aG:=λ x y H Q=>∃l b xs z,x= .ref l/\y= .ref b/\H l=some (.lst xs)/\H b=some (.lst z)/\xs.length+z.length<=aI/\nh H (.lst (xs++z)) Q
def Fw:bU X (hZ .Add) Fv:=Vh.weaken λ x y H Q ⟨l,b,xs,s,e,a,h,c,z,n⟩=>⟨l,b,xs,s,e,a,h,c,z,λ p d=>n.at d⟩
end
noncomputable def bL(s:Scope)(env:Env):List (Str×Addr):=(s.names.filterMap λ y=>if y.2== .free then(env.cells.lookup y.1).map λ c=>(y.1,c)else none).reverse
theorem M9(env:Env):∀(a:List (Str×nZ)) (acc:List (Str×Addr)),(∀y∈a,y.2= .free->∃c,env.cells.lookup y.1=some c)->
  (forIn a acc λ(x:Str×nZ) r=>if (x.2== .free)=true then do let c <-cellOf env x.1;pure (qr ((x.1,c)::r))else pure (qr r):Sem (List (Str×Addr)))=
   pure ((a.filterMap λ y=>if y.2== .free then(env.cells.lookup y.1).map λ c=>(y.1,c)else none).reverse++acc)
 |[],acc,_=>rfl
 |(n,k)::r,acc,h=>by
  rw[Dx];have i:=λ b=>M9 env r b λ y f=>h y (cT _ f)
  by_cases e:k= .free
  .subst e
   obtain⟨c,g⟩:=h (n,.free) bW rfl;have d:env.cells.lookup n=some c:=g;simp only[beq_self_eq_true,if_true,cellOf,d,oX,sL,xt,fL,List.singleton_append];exact i _
  .have j:(k==pv)=false:=by simpa using e
   simp only[j,jq,if_false,oX];exact i _
def Fx(h:∀y∈scope.names,y.2= .free->∃c,env.cells.lookup y.1=some c):xR scope env=pure (bL scope env):=by
 have e:=M9 _ _ [] h;rw[fo]at e;have a:xR scope env=((forIn _ _ _)>>=λ r=>pure r):=rfl;rw[a,e];rfl
def vE(h:(bL scope env).lookup x=some c):env.cells.lookup x=some c:=by
 have m:=i2 h;unfold bL at m;rw[lQ,sD]at m;obtain⟨y,a,e⟩:=m;split at e
 .cases q:env.cells.lookup y.1<;>simp_all
 contradiction
def BF(a:scope.names.lookup x=some .free)(h:env.cells.lookup x=some c):(bL scope env).lookup x=some c:=by
 have b:=i2 a
 have:(x,c)∈bL scope env:=by
  unfold bL;rw[lQ,sD];exact⟨_,b,by simp_all⟩
 cases q:(bL _ _).lookup x with
 |none=>
  exact absurd this (by
   intro m
   have:=List.lookup_eq_none_iff.mp q _ m
   simp_all)
 |some d=>
  have:=vE q
  simp_all
noncomputable def mf(s:Scope)(C:Addr):List (Str×Addr):=lS (C+1) s.names []
theorem yw:∀(a:List (Str×nZ)) (n:Nat) (acc:List (Str×Addr)),lS n a acc=lS n a []++acc
 |[],_,_=>rfl
 |(x,k)::r,n,acc=>by
  unfold lS;split
  .rw[yw r _ _,yw r _ [(x,n)],fL];rfl
  .exact yw r n _
theorem Fy:∀{a:List (Str×nZ)} {n:Nat} {x:Str} {c:Addr},(x,c)∈lS n a []->(x,x5)∈a
 |(y,k)::r,n,x,c,h=>by
  unfold lS at h;split at h
  .rw[yw,cu]at h
   rcases h with h|h
   .exact cT _ (Fy h)
   simp_all
  .exact cT _ (Fy h)
 |[],_,_,_,h=>by cases h
def vF{l m:List (Str×Addr)}(h:(l++m).lookup x=some c):l.lookup x=some c\/(l.lookup x=none/\m.lookup x=some c):=by
 rw[Dr]at h;simp_all
def VA{M:Model}{A:aS}{E:Value->ao->Prop}{s:ao}{scope:Scope}{globals:Addr}{c:List (Str×Addr)}{qual:Str}{env:Env}{Q:Env->ao->Prop}
  (h:∀h':Heap,h'.Ns s.heap.objs.size (λ _=>none)->(∀b o,s.heap.get? b=some o->h'.get? b=some o)->CellsOk h' (s.heap.objs.size+1) (mf scope s.heap.objs.size)->
   Q {scope:=scope,locals:=s.heap.objs.size,globals:=globals,cells:=mf scope s.heap.objs.size++c,qual:=qual,func:=none,code:=env.code,frame:=env.frame,builtins:=env.builtins} {s with heap:=h'}):
  wpAny M A (newFunctionEnv scope globals c [] qual none .none (some env)) Q E s:=by
 refine ak (wpAny_alloc ?_);refine ak (wpAny_layCells _ (λ name k cells=>by rfl) _ _ _ _ ?_);have ok:=cellsFrom_ok scope.names (s.heap.push {cls:=.type "dict",data:=.dict #[]}) (s.heap.objs.size+1) [] ⟨λ _ _ m=>(nomatch m),JX⟩ (by simp);rw[iM]at ok;rw[iM ..,yw];refine aB ?_;exact h _ ((Heap.Ns.new s.heap _).keeps (pushCells_keeps _ _)) (λ b o e=>pushCells_keeps _ _ b o (bj _ e)) ok
noncomputable def aC.block(X:aC)(s:Scope)(C:Addr)(N:List Str)(f:List Addr)(z4:ao)(zI:ah):aC:=
  {prog:=X.prog,w:=X.w,K:=X.K,mg:=X.mg,base:=X.base,A:=X.A,N:=N,z4:=z4,zI:=zI,env:=compEnvC s (mf s C++bL s X.env) C X.env,outer:=X.stack,stack:=X.stack,ex:=f,
    fn:=λ x=>s.names.lookup x==some .cell,calm:=X.calm,pn:=[],xe:=λ _ _=>False}
structure rk(X:aC)(scope:Scope)(N:List Str)(st:St->St)(ks:List Nat):Prop where
 kind:scope.kind= .function
 sep:∀y∈scope.names,y.2= .cell->scope.names.lookup y.1=some .cell
 loc:∀y∈scope.names,y.2= .local->scope.names.lookup y.1=some .local
 free:∀y∈scope.names,y.2= .free->X.env.kindOf y.1=some .cell\/X.env.kindOf y.1=some .free
 len:∀σ,(st σ).length=N.length
 val:∀σ (i:Nat) x v,N[i]? =some x->(st σ)[i]? =some (some v)->scope.names.lookup x=some .free/\i∉ks/\∃j:Nat,X.N[j]? =some x/\σ[j]? =some (some v)
def VB(h:(sZ scope env).names.lookup x=some .cell\/(sZ scope env).names.lookup x=some .free):scope.names.lookup x=some .free\/scope.names.lookup x=some .cell:=by
 have g:∀a:List (Str×nZ),((a.map λ(n,k)=>if (k==pv&&env.scope.kind== .function&&env.kindOf n==some .cell)then(n,x5)else(n,k)).lookup x=some .cell\/
   (a.map λ(n,k)=>if (k==pv&&env.scope.kind== .function&&env.kindOf n==some .cell)then(n,x5)else(n,k)).lookup x=some .free)->a.lookup x=some .free\/a.lookup x=some .cell:=by
  intro a;induction a with
  |nil=>intro h;simp at h
  |cons y r i=>
   obtain⟨n,k⟩:=y;intro h;rw[dH]at h;by_cases d:x==n
   .rw[jr,d]
    show some k=some .free\/some k=some .cell;by_cases c:(k==pv&&env.scope.kind== .function&&env.kindOf n==some .cell)=true
    .simp_all
    .simp only[if_neg c,jr,d]at h
     exact h.elim .inr .inl
   .have b:(x==n)=false:=by simpa using d
    rw[jr,b];refine i ?_;by_cases c:(k==pv&&env.scope.kind== .function&&env.kindOf n==some .cell)=true
    .simp only[if_pos c,jr,b]at h
     exact h
    .simp only[if_neg c,jr,b]at h
     exact h
 exact g scope.names h
def VC(h:scope.names.lookup x=some .free):(sZ scope env).names.lookup x=some .cell\/(sZ scope env).names.lookup x=some .free:=by
 have g:∀a:List (Str×nZ),a.lookup x=some .free->((a.map λ(n,k)=>if (k==pv&&env.scope.kind== .function&&env.kindOf n==some .cell)then(n,x5)else(n,k)).lookup x=some .cell\/
   (a.map λ(n,k)=>if (k==pv&&env.scope.kind== .function&&env.kindOf n==some .cell)then(n,x5)else(n,k)).lookup x=some .free):=by
  intro a;induction a with
  |nil=>intro h;simp at h
  |cons y r i=>
   obtain⟨n,k⟩:=y;intro h;rw[dH];by_cases d:x==n
   .rw[jr,d]at h
    have e:k= .free:=hX h;by_cases c:(k==pv&&env.scope.kind== .function&&env.kindOf n==some .cell)=true
    .simp only[if_pos c,jr,d]
     exact .inl trivial
    .simp only[if_neg c,jr,d]
     exact .inr (by rw[e])
   .have b:(x==n)=false:=by simpa using d
    rw[jr,b]at h;by_cases c:(k==pv&&env.scope.kind== .function&&env.kindOf n==some .cell)=true
    .simp only[if_pos c,jr,b]
     exact i h
    .simp only[if_neg c,jr,b]
     exact i h
 exact g scope.names h
section
variable{X:aC}{a:bF}{σ:St}{H:ah}{s:ao}
theorem Inv.block{st:St->St}{D C:Addr}(I:Inv X a σ H s)(B:rk X scope N st ks)
  (g:∀b∈fp,lg X a H b)(J:∀b∈fp,∃w,s.heap.get? b=some w)
  (G:s.heap.objs.size<=D)(q:s.heap.objs.size<=C)(K:D≠C)(keep:∀b u,s.heap.get? b=some u->h'.get? b=some u)(L:h'.Ns C λ _=>none)(A:CellsOk h' (C+1) (mf scope C))(M:∀c,C<c->D≠c)(pV:fZ X.prog X.w (bq H D o) h' D o):
  Inv (X.block scope C N fp s H) [] (st σ) (bq H D o) {s with heap:=h',toks:=tk}:=by
 have O:H D=none:=I.hok.fresh G;have h:∀x c,(bL scope X.env).lookup x=some c->X.env.cells.lookup x=some c:=λ x c e=>vE e
 have l:∀x c,(mf scope C).lookup x=some c->C<c/\h'.IsCell c none:=λ x c e=>let⟨q1,q2⟩:=A.empty x c (i2 e);⟨q2,q1⟩
 have E:∀x c,(bL scope X.env).lookup x=some c->c<s.heap.objs.size:=λ x c e=>let⟨v,r⟩:=I.cell x c (h x c e);r.lt
 have V:∀b∈fp,b<s.heap.objs.size:=λ b f=>by
  obtain⟨w,e⟩:=J b f;exact bE e
 refine⟨⟨I.mod,?_,I.ok.glob,I.ok.blt,q,λ x y c P Q=>?_,λ x hx=>?_,λ x c hf e=>?_,I.ok.hd,I.ok.frames,.inl rfl,λ b f=>⟨?_,λ x c e z=>?_⟩,
  I.bs,?_,λ b w e f=>?_,λ b f hs=>?_,I.stack,I.stkFree⟩,rfl,I.bare,fz.laid keep G O,⟨_,L,λ i x v P Q hv=>?_⟩,λ x c e=>?_,?_,λ x c e=>?_,λ p R=>absurd (show p∈([]:bF)from R) (by simp),I.hok.laid keep G pV,B.len σ,λ p R=>absurd (show p∈([]:bF)from R) (by simp)⟩
 .show(sZ scope X.env).kind= .function
  exact B.kind
 .rcases vF P with d|⟨_,d⟩<;>rcases vF Q with F|⟨_,F⟩
  .exact PySem.name_of_addr A.apart (i2 d) (i2 F)
  .exact absurd (E y c F) (sJ.mpr (eJ q (lR (l x c d).1)))
  .exact absurd (E x c d) (sJ.mpr (eJ q (lR (l y c F).1)))
  .exact I.ok.inj x y c (h x c d) (h y c F)
 .show∃c,(mf scope C++bL scope X.env).lookup x=some c
  rw[Dr];cases e:(mf scope C).lookup x with
  |some c=>exact⟨c,rfl⟩
  |none=>
   rcases VB hx with hfree|t
   .obtain⟨c,S⟩:=I.ok.has x (B.free (x,.free) (i2 hfree) rfl)
    exact⟨c,BF hfree S⟩
   .obtain⟨c,S⟩:=BA (n:=C+1) t
    rw[show(mf scope C).lookup x=some c from S]at e;cases e
 .rcases vF e with d|⟨W,_⟩
  .exact eJ q (lR (l x c d).1)
  .obtain⟨Y,T⟩:=BA (n:=C+1) (qt hf)
   rw[show(mf scope C).lookup x=some Y from T]at W;cases W
 .exact cH (eZ (V b f) q)
 .rcases vF e with d|⟨_,d⟩
  .exact absurd (V b f) (sJ.mpr (by rw[<-z];exact eJ q (lR (l x c d).1)))
  .exact(g b f).2.2.2.2.1 x c (h x c d) z
 .exact eJ I.ok.bsz I.sz
 .rcases(g b f).2.2.2.1 with z|z
  .exact I.ok.noex b w e z
  .exact absurd (eZ (bE (I.ok.bs b w e).1) z) (kQ _)
 .rcases bI.mp (I.stkSub b hs)with z|z
  .exact(g b f).2.1 z
  .exact(g b f).2.2.1 z
 .obtain⟨hfree,_,j,f1,f2⟩:=B.val σ i x v P Q
  obtain⟨m,hn,hl⟩:=I.loc;have Z:=B.free (x,.free) (i2 hfree) rfl;obtain⟨u,ru,hu⟩:=hl j x v f1 f2 (Z.elim (λ z=>.inr (.inl z)) λ z=>.inr (.inr z));rcases hu with ⟨k,_⟩|⟨_,c,ec,r⟩
  .rcases Z with z|z
   .exact absurd (k.symm.trans z) (by decide)
   .exact absurd (k.symm.trans z) (by decide)
  .have U:(mf scope C).lookup x=none:=by
    cases e:(mf scope C).lookup x with
    |none=>rfl
    |some Y=>
     have:=B.sep _ (Fy (i2 e)) rfl
     rw[hfree]at this;cases this
   refine⟨u,ru,.inr ⟨?_,c,by show(mf scope C++bL scope X.env).lookup x=some c;rw[Dr,U];exact BF hfree ec,r.keeps keep⟩⟩;rcases hv with z|z|z
   .have z':(sZ scope X.env).names.lookup x=some .local:=z
    rcases VC (env:=X.env) hfree with y|y
    .exact absurd (z'.symm.trans y) (by decide)
    .exact absurd (z'.symm.trans y) (by decide)
   .exact .inl z
   .exact .inr z
 .rcases vF e with d|⟨_,d⟩
  .exact⟨_,(l x c d).2⟩
  .obtain⟨v,r⟩:=I.cell x c (h x c d)
   exact⟨v,r.keeps keep⟩
 .show bq H D o C=none
  rw[bR (jT K)];exact I.hok.fresh q
 .show bq H D o c=none
  rcases vF e with d|⟨_,d⟩
  .rw[bR (jT (M c (l x c d).1))]
   exact I.hok.fresh (eJ q (lR (l x c d).1))
  .obtain⟨v,r⟩:=I.cell x c (h x c d)
   rw[bR (cH (eZ r.lt G))];exact I.freeC x c (h x c d)
end
section
variable{prog:aR}{w:World}{A:aS}{R:pj->ao->Prop}{s:ao}
def VD(I:Nat->ao->Prop)
  (turn:∀n s,I n s->wpAny (model prog w) A (jY it) (λ r z=>match r with
   |none=>R (.ok .next) z
   |some v=>wpAny (model prog w) A (AB target it v) (λ _ z=>wpAny (model prog w) A (i5 target env v) (λ _ g=>
     wpAny (model prog w) A (forIn ifs true λ c r=>if r=true then do let ok <-isTrue c env (eval c env);pure (qr ok)else pure (qr r)) (λ ok C=>
      if ok=true then wpAny (model prog w) A (eval elt env) (λ x a=>
       wpAny (model prog w) A (call (.builtin "list.append") [acc,x]) (λ _ b=>∃m,m<n/\I m b) (λ _ _=>False) a) (λ _ _=>False) C
      else∃m,m<n/\I m C) (λ _ _=>False) g) (λ _ _=>False) z) (λ _ _=>False) z) (λ _ _=>False) s)
  (n:Nat)(h:I n s):ie (model prog w) A (.compLoop (.ListComp elt [⟨target,iter,ifs,0⟩] scope pos) 0 it acc env) R s:=by
 refine codeAny_loop rfl I (λ n s i=>?_) n h;show wpAny _ A ((compTurn (.ListComp elt [⟨target,iter,ifs,0⟩] scope pos) 0 it acc env).onRaise (λ x=>do noteFrame x env;theTreesLotGoes x)) _ _ s;refine wpAny_noted ?_;rw[compTurn_list];refine ak (AH (ak (iq (turn n s i) (λ r z D=>?_) λ _ _ h'=>h'.elim)));cases r with
 |none=>exact aB D
 |some v=>
  refine ak (iq D (λ _ z D=>?_) λ _ _ h'=>h'.elim);refine ak (iq D (λ _ g y=>ak (iq y (λ ok C d=>?_) λ _ _ h'=>h'.elim)) λ _ _ h'=>h'.elim);cases ok with
  |false=>exact aB ⟨rfl,d⟩
  |true=>
   exact ak (ak (iq d (λ x a e=>ak (iq e (λ _ b f=>aB (aB ⟨rfl,f⟩)) λ _ _ h'=>h'.elim)) λ _ _ h'=>h'.elim))
end
def tN(g:j8)(ks:List Nat):Prop:=∀v σ H (Q:St->ah->Prop),g v σ H Q->g v σ H (λ a H'=>Q a H'/\a.length=σ.length/\∀k,k∉ks->a[k]? =σ[k]?)
def yx(g:rf)(ks:List Nat):Prop:=∀v σ H (Q:St->ah->Prop),g v σ H Q->g v σ H (λ a H'=>Q a H'/\a.length=σ.length/\∀k,k∉ks->a[k]? =σ[k]?)
def VE(h:i∈ks):tN (n8 i) ks:=λ v σ H Q q=>⟨q,nN,λ k a=>qw (λ(e:i=k)=>a (e▸h))⟩
def VF:yx E9 ks:=λ v σ H Q ⟨e,q⟩=>⟨e,q,rfl,λ _ _=>rfl⟩
def yy(g:j8):Prop:=∀v σ H (Q b:St->ah->Prop),(∀a H',Q a H'->b a H')->g v σ H Q->g v σ H b
def vG(g:rf):Prop:=∀v σ H (Q b:St->ah->Prop),(∀a H',Q a H'->b a H')->g v σ H Q->g v σ H b
def VG:yy (n8 i):=λ v σ H Q a imp q=>imp _ _ q
def VH:vG E9:=λ v σ H Q a imp ⟨e,q⟩=>⟨e,imp _ _ q⟩
def VI(h:yy t)(a:vG u):vG (Fb t u):=λ s σ H Q d imp ⟨v,r,e,q⟩=>⟨v,r,e,h _ _ _ _ _ (λ b H' c=>a _ _ _ _ _ imp c) q⟩
def VJ(a:tN t ks)(m:yy t)(b:yx u ks)(c:vG u):yx (Fb t u) ks:=λ s σ H Q ⟨v,r,e,q⟩=>
 ⟨v,r,e,m _ _ _ _ _ (λ d H' ⟨f,l',g⟩=>c _ _ _ _ _ (λ i l ⟨j,l2,k2⟩=>⟨j,l2.trans l',λ k h=>(k2 k h).trans (g k h)⟩) (b _ _ _ _ f)) (a _ _ _ _ q)⟩
def VK{K:av}(h:yx t ks):tN (Bs K n t) ks:=λ v σ H Q ⟨a,xs,e,b,c,q⟩=>⟨a,xs,e,b,c,h _ _ _ _ q⟩
def VM{K:av}(h:vG t):yy (Bs K n t):=λ v σ H Q d imp ⟨a,xs,e,b,c,q⟩=>⟨a,xs,e,b,c,h _ _ _ _ _ imp q⟩
def vH(X:aC)(i:List Expr)(t:ih):Prop:=
 ∀(k:bF) (s:ao) (σ:St) (H:ah) (Q:Bool->ah->Prop),Inv X k σ H s->t σ H Q->
  wpAny (bJ X) X.A (forIn i true λ c r=>if r=true then do let ok <-isTrue c X.env (eval c X.env);pure (qr ok)else pure (qr r)) (Bq X k σ Q) X.xe s
def VN:ih:=λ _ H Q=>Q true H
def VO:vH X [] VN:=λ _ _ _ H _ I h=>wpAny_tests_nil ⟨H,I,h⟩
def VP(h:jw X c t):vH X [c] t:=λ k s σ H Q I q=>wpAny_tests_one (h _ s σ H Q I q)
def BG(w:dZ)(st:St->St)(g:j8)(t:ih)(h:bz):bz:=λ σ H Q=>w σ H λ J c=>∀l,c l=none->∃W:Nat->Nat->List V->ah->Prop,(∃m,W 0 m [] (bq c l (.lst [])))/\
 ∀i m acc a,W i m acc a->a l=some (.lst acc)/\acc.length<aI/\((J.stop i a/\Q (.ref l) a)\/(J.go i a/\∀x d,J.yld i a x d->g x (st σ) d λ b j=>t b j λ ok e=>
  if ok=true then h b e λ y f=>f l=some (.lst acc)/\∃m',m'<m/\W (i+1) m' (acc++[y]) (bq f l (.lst (acc++[y])))else∃m',m'<m/\W (i+1) m' acc e))
section
variable{X:aC}{d w t:Expr}{f:List Expr}{scope:Scope}{j:Pos}{N:List Str}{st:St->St}{ks:List Nat}{G:dZ}{g:j8}{A:ih}{F:bz}
def Na(B:rk X scope N st ks)(hc:X.calm=true)(hg:∀C a z4 zI,m8 (X.block scope C N a z4 zI) w g)(hgo:tN g ks)(ht:∀C a z4 zI,vH (X.block scope C N a z4 zI) f A)
  (he:∀C a z4 zI,aY (X.block scope C N a z4 zI) d F){H:ah}{Q:br}{RR:Value->Addr->pj->ao->Prop}
  (I:Inv X kX σ H z0)(T:Turn X.prog X.w X.K w J a it tn)(h0:tn 0 z0.heap)(hfp:∀b∈a,lg X kX H b)
  (h:∀l,H l=none->∃W:Nat->Nat->List V->ah->Prop,(∃m,W 0 m [] (bq H l (.lst [])))/\
   ∀i m acc K,W i m acc K->K l=some (.lst acc)/\acc.length<aI/\((J.stop i K/\Q (.ref l) K)\/(J.go i K/\∀x H3,J.yld i K x H3->g x (st σ) H3 λ σ4 H4=>A σ4 H4 λ ok H5=>
    if ok=true then F σ4 H5 λ y H6=>H6 l=some (.lst acc)/\∃m',m'<m/\W (i+1) m' (acc++[y]) (bq H6 l (.lst (acc++[y])))else∃m',m'<m/\W (i+1) m' acc H5)))
  (hRR:∀D C H' s',(∃σ',Inv (X.block scope C N a z0 H) [] σ' H' s')->z0.heap.objs.size<=C->Q (.ref D) H'->RR (.ref D) C (.ok .next) s'):
  wpAny (bJ X) X.A (qL []) (λ acc zC=>wpAny (bJ X) X.A (newFunctionEnv scope X.env.globals (bL scope X.env) [] X.env.qual none .none (some X.env)) (λ R s₄=>
   ie (bJ X) X.A (.compStart (.ListComp d [⟨w,t,f,0⟩] scope j) 0 (.ref it) acc {R with scope:=sZ scope X.env}) (RR acc R.locals) s₄) E zC) E z0:=by
 refine i3 (VA λ zD s y6 G=>?_);dsimp only at s y6 G ⊢;generalize Y:z0.heap.push {cls:=.type "list",dict:=none,data:=.seq ([]:List Value).toArray}=P2 at s y6 G ⊢;have hC:P2.objs.size=z0.heap.objs.size+1:=by rw[<-Y,iM]
 have hDC:z0.heap.objs.size≠P2.objs.size:=by rw[hC];exact cH (il _)
 have qV:z0.heap.objs.size<=P2.objs.size:=by rw[hC];exact pe _
 have old:∀b o,z0.heap.get? b=some o->zD.get? b=some o:=λ b o e=>y6 b o (Y▸bj _ e)
 have pV:zD.get? z0.heap.objs.size=some {cls:=.type "list",dict:=none,data:=.seq ([]:List Value).toArray}:=y6 _ _ (Y▸dr _ rfl);generalize hCe:P2.objs.size=C at s y6 G hDC qV hC ⊢;have hHD:H z0.heap.objs.size=none:=I.hok.fresh (bc _);have I0:Inv (X.block scope C N a z0 H) [] (st σ) (bq H z0.heap.objs.size (.lst [])) {z0 with heap:=zD,toks:=z0.toks}:=
  I.block B hfp (λ b L=>by obtain⟨o,e,_⟩:=T.obj 0 _ h0 b L;exact⟨o,e⟩) (bc _) qV hDC old s G (λ c hc=>cH (xE qV hc)) ⟨dn _,[],0,.nil,pV⟩
 obtain⟨W,⟨m0,w0⟩,step⟩:=h _ hHD;have h01:tn 0 zD:=T.keep 0 _ _ h0 λ b _ o e=>old b o e
 have bP:∀{H':ah},(∀b∈a,H' b=none)->∀b∈a,lg (X.block scope C N a z0 H) [] H' b:=λ{H'} hn b L=>
  ⟨hn b L,(I0.ok.exf b L).1,I0.ok.exfs b L,.inl L,λ x c e=>(I0.ok.exf b L).2 x c e,λ p hp=>absurd (show p∈([]:bF)from hp) (by simp)⟩
 have fr0:∀b∈a,bq H z0.heap.objs.size (.lst []) b=none:=λ b L=>by
  obtain⟨o,e,_⟩:=T.obj 0 _ h0 b L;rw[bR (cH (bE e))];exact(hfp b L).1
 have loop:∀zC:ao,zC={z0 with heap:=zD,toks:=z0.toks}->
   ie (bJ X) X.A (.compLoop (.ListComp d [⟨w,t,f,0⟩] scope j) 0 (.ref it) (.ref z0.heap.objs.size) (X.block scope C N a z0 H).env) (RR (.ref z0.heap.objs.size) C) zC:=by
  rintro zC rfl;refine VD (λ n s'=>∃i acc K,Inv (X.block scope C N a z0 H) [] (st σ) K s'/\tn i s'.heap/\(∀b∈a,K b=none)/\W i n acc K) ?_ m0 ⟨0,[],_,I0,h01,fr0,w0⟩;rintro n s3 ⟨i,acc,K,I2,st2,fr2,w2⟩;obtain⟨hl,hz,alt⟩:=step i n acc K w2;rcases alt with ⟨stop,q⟩|⟨go,nxt⟩
  .refine aZ (T.done (X.block scope C N a z0 H) rfl rfl rfl hc i [] s3 (st σ) K _ I2 (bP fr2) st2 stop) λ r s4 ⟨hr,I4⟩=>?_
   subst hr;exact hRR _ C K s4 ⟨_,I4⟩ qV q
  .refine aZ (T.item (X.block scope C N a z0 H) rfl rfl rfl hc i [] s3 (st σ) K _ I2 (bP fr2) st2 go) λ r s4 ⟨u,hr,h4⟩=>?_
   subst hr;refine aZ h4 λ _ s5 ⟨x,H5,I5,r5,y5,Z,fr5⟩=>?_
   have I5':=I5.pinned (bP fr5) (T.obj _ _ Z);refine aZ (hg C a z0 H _ s5 (st σ) H5 x u _ I5' r5 (hgo _ _ _ _ (nxt x H5 y5))) λ _ s6 ⟨P,H6,I6,q6,Nb,ag6⟩=>?_
   refine aZ (ht C a z0 H _ s6 P H6 _ I6 q6) λ ok s7 ⟨H7,I7,q7⟩=>?_
   have M:∀{S:ah} {s9:ao} {O:List V},Inv (X.block scope C N a z0 H) ([]++yq a s5.heap) P S s9->(∃m',m'<n/\W (i+1) m' O S)->
     ∃m,m<n/\∃i acc K,Inv (X.block scope C N a z0 H) [] (st σ) K s9/\tn i s9.heap/\(∀b∈a,K b=none)/\W i m acc K:=λ{S s9 O} I9 ⟨m',hm,w9⟩=>by
    have U:∀b∈a,∀o,s5.heap.get? b=some o->s9.heap.get? b=some o/\S b=none:=λ b L o e=>by
     have z:=I9.pin (b,o) (gz _ (gz _ (Ff L e)));exact⟨z.1,z.2.1⟩
    refine⟨m',hm,i+1,O,S,I9.unpinned.weak (by rw[Nb]) (λ k v e=>?_),T.keep _ _ _ Z λ b L o e=>(U b L o e).1,λ b L=>?_,w9⟩
    .have hk:k<(st σ).length:=(eW.mp e).1
     have hkN:k<N.length:=by rw[<-B.len σ];exact hk
     obtain⟨_,hks,_⟩:=B.val σ k _ v (en hkN) e;rw[ag6 k hks];exact e
    .obtain⟨o,e,_⟩:=T.obj _ _ Z b L
     exact(U b L o e).2
   cases ok with
   |false=>
    rw[if_neg cL]at q7 ⊢;exact M I7 q7
   |true=>
    rw[if_pos rfl]at q7 ⊢;refine aZ (he C a z0 H _ s7 P H7 _ I7 q7) λ u8 s8 ⟨y,H8,I8,r8,hl8,q8⟩=>?_
    refine aZ (Vb _ s8 P H8 (.ref z0.heap.objs.size) [y] (.ref z0.heap.objs.size) [u8] (λ _ S=>S=bq H8 z0.heap.objs.size (.lst (acc++[y]))) I8 rfl (.cons r8 .nil) ⟨_,acc,y,rfl,rfl,hl8,hz,rfl⟩) λ _ s9 ⟨_,S,I9,_,e9⟩=>?_
    subst e9;exact M I9 q8
 exact codeAny_compStart_list (loop _ rfl) (T.self X.A 0 _ _ _ h01 (loop _ rfl))
def Nc(I:Inv X kX σ H1 z0)(f:∀b∈fp,lg X kX H1 b)(h:∃a,Inv (X.block scope C N fp z0 H1) [] a H' s'):Inv X kX σ H' s':=by
 obtain⟨a,J⟩:=h;exact I.call' J.os J.base J.hok J.bare λ b c=>⟨(f b c).2.2.2.1,(f b c).2.1,(f b c).2.2.2.2.1,(f b c).2.2.2.2.2⟩
def Nf(B:rk X scope N st ks)(P:X.calm=true)(R:pB X w t G)(S:∀C a k l,m8 (X.block scope C N a k l) w g)(r:tN g ks)(U:∀C a k l,vH (X.block scope C N a k l) f A)
  (W:∀C a k l,aY (X.block scope C N a k l) d F)(Y:∀x,sR t X.env x=pure x:=by z_go):aY X (.ListComp d [⟨w,t,f,0⟩] scope j) (BG G st g A F):=by
 intro Z s σ H Q I h;have u:xR scope X.env=pure (bL scope X.env):=Fx λ y hy hk=>I.ok.has _ (B.free y hy hk)
 rw[eval_ListComp];refine Kh (use:=none) rfl Y u B.kind B.loc (aZ (R Z s σ H _ I h) λ v s1 h1=>aZ h1 λ itv s2 h2=>?_);obtain⟨it,a,tn,J,H2,e,i,T,E,L,hq⟩:=h2;subst e;refine Na B P S r U W i T E L hq ?_;intro D C H' s' M V q;have I3:=Nc i L M;obtain⟨σ',O⟩:=M;obtain⟨m,hn,_⟩:=id O.loc;have K:H' C=none:=O.free;refine⟨m,hn,λ h'' n=>⟨.ref D,H',?_,rfl,q⟩⟩;exact I3.turned (t':=s'.toks) (λ b o ne e=>(n.2 b ne).trans e) K (kR (eZ i.lt V)) (.inr (eJ i.sz V))
  (λ x c e z=>by obtain⟨v,ic⟩:=i.cell x c e;exact absurd (eZ ic.lt (by rw[z];exact V)) (kQ _))
  (λ p hp z=>absurd (eZ (i.pinL hp) (by rw[z];exact V)) (kQ _))
def VQ(hN:X.N.Nodup)(K:X.N[i]? =some x)(M:kW X.env.scope x)(B:rk X scope N st ks)(hc:X.calm=true)(hi:pB X w t G)(hg:∀C k n r,m8 (X.block scope C N k n r) w g)(O:tN g ks)
  (ht:∀C k n r,vH (X.block scope C N k n r) f A)(he:∀C k n r,aY (X.block scope C N k n r) d F)(P:nY (.ListComp d [⟨w,t,f,0⟩] scope j) (some (.Name x pos')) spos.line X.env=pure true)
  (hs:∀x,sR t X.env x=pure x:=by z_go)(hf:X.fn x=true\/X.env.scope.names.lookup x=some .local:=by k_go):
  jx X (.Assign [.Name x pos'] (.ListComp d [⟨w,t,f,0⟩] scope j) spos) (n9 (BG G st g A F) (n8 i)):=by
 intro R s σ H D I h;have S:xR scope X.env=pure (bL scope X.env):=Fx λ y hy hk=>I.ok.has _ (B.free y hy hk)
 rw[exec_Assign_Name_used _ _ _ _ P];refine ak (AH (ak ?_));show wpAny _ _ (do let _ <-comprehension (.ListComp d [⟨w,t,f,0⟩] scope j) scope X.env _ (qL []) false (eval t X.env) (some (i5 (.Name x pos') X.env))) _ _ s;refine ak (iq (Kh (use:=some (i5 (.Name x pos') X.env)) (Q:=λ _ s'=>yk X R D .next s') rfl hs S B.kind B.loc (aZ (hi R s σ H _ I h) λ v s1 h1=>aZ h1 λ itv s2 h2=>?_)) (λ _ s' U=>aB (aB U)) λ _ _ e=>e);obtain⟨it,k,tn,J,H2,e,l,T,W,f2,U⟩:=h2;subst e;refine Na (Q:=λ x H1=>n8 i x σ H1 D.nx) (RR:=λ acc C=>compPost (bJ X) X.A X.xe (some (i5 (.Name x pos') X.env)) (λ _ s'=>yk X R D .next s') acc C) B hc hg O ht he l T W f2 U ?_;intro Y C H' s' hJ V q;have I3:=Nc l f2 hJ;obtain⟨σ',J'⟩:=hJ;obtain⟨m,hn,_⟩:=id J'.loc;have Z:H' C=none:=J'.free;have L:C≠X.env.locals:=kR (eZ l.lt V);have u:∀x c,X.env.cells.lookup x=some c->c≠C:=λ x c e z=>by obtain⟨v,ic⟩:=l.cell x c e;exact absurd (eZ ic.lt (by rw[z];exact V)) (kQ _)
 show wpAny _ _ (i5 (.Name x pos') X.env (.ref Y)) _ _ _;refine Kp ?_;refine Mi I3 hN K M (show RelV (.ref Y) (.ref Y)from rfl) (λ s4 I4 ⟨a,hsa,ha⟩=>?_) hf;have nea:C≠a:=by
  rcases ha with z|z
  .rw[z];exact L
  .exact jT (u _ _ z)
 refine⟨m,hn.sameBut hsa nea,λ h'' E=>⟨_,H',?_,q⟩⟩;exact I4.turned (t':=s4.toks) (λ b o ne e=>(E.2 b ne).trans e) Z L (.inr (eJ l.sz V)) u
  (λ p hp z=>absurd (eZ (l.pinL hp) (by rw[z];exact V)) (kQ _))
end
def eh(P:aR)(w:World):oa:=λ u H s E e s'=>∃(ea:Addr) (c a:Value) (B:Heap) (H':ah),e= .ref ea/\s'.os=s.os/\nS s'.gens/\fz (dt u) [] H H' s.heap s'.heap/\fR P w H' B/\K5 B u ea c a s'.heap/\
 (∀b o,s.heap.get? b=some o->H b=none->b∉dt u->B.get? b=some o)/\(∀b o,s.heap.get? b=some o->b∉dt u->∃d,B.get? b=some d)/\E c none H'
structure gc(X:aC)(E:dC):Prop where
 stk:X.stack=X.env::X.outer
 fr:X.env.frame=some X.env.locals
 ex:X.ex=[]
 xe:X.xe=λ e s'=>wpAny (bJ X) X.A (leaving X.env e) (λ _ s''=>eh X.prog X.w X.outer X.zI X.z4 E e s'') (λ e' s''=>eh X.prog X.w X.outer X.zI X.z4 E e' s'') s'
def gc.of{K:av}:
  gc (m9 (eh P w) P w K mg base N qual scope f cd A outer z4 zI E) E:=⟨rfl,rfl,rfl,rfl⟩
section
variable{X:aC}{E:dC}
def Ng{B h':Heap}(p:X.ex=[])(I:Inv X kX σ H s)
  (r:∀b o,s.heap.get? b=some o->H b=none->b∉dt X.stack->B.get? b=some o)(t:∀b o,s.heap.get? b=some o->b∉dt X.stack->∃a,B.get? b=some a)
  (k:B.StaysIn h')(v:∀b o,b∈dt X.outer->s.heap.get? b=some o->H b=none->(∀w,o.data≠.fields w)->∃sl,h'.get? b=some {o with slots:=sl})
  (x:∀b o,s.heap.get? b=some o->H b=none->H' b=none)(y:∀b xs,H b=some (.tup xs)->H' b=some (.tup xs))(A:∀b o u,H b=some (.frz o u)->H' b=some (.frz o u))(C:∀b q,H b=some (.tbl q)->H' b=some (.tbl q)):
  fz (dt X.outer) [] X.zI H' X.z4.heap h'/\(∀b o,X.z4.heap.get? b=some o->X.zI b=none->b∉dt X.outer->B.get? b=some o)/\(∀b o,X.z4.heap.get? b=some o->b∉dt X.outer->∃a,B.get? b=some a):=by
 have nx:∀b,b∉X.ex:=λ b z=>by rw[p]at z;cases z
 have S:∀b o,X.z4.heap.get? b=some o->b∉dt X.outer->b∉dt X.stack:=λ b o e f h=>by
  rcases bI.mp (I.stkSub b h)with z|z
  .exact absurd z (cH (eZ (bE e) I.ok.above))
  .exact f z
 have bk:=λ b o e n f=>
  r b o (I.base.keep b o e n f (nx b)) (I.base.free b o e n (nx b)) (S b o e f)
 have m:∀b o,X.z4.heap.get? b=some o->b∉dt X.outer->∃a,B.get? b=some a:=λ b o e f=>by
  obtain⟨g,c⟩:=I.base.there b o e (nx b);exact t b g c (S b o e f)
 have sl:∀b o,X.z4.heap.get? b=some o->X.zI b=none->b∈dt X.outer->∃sl,h'.get? b=some {o with slots:=sl}:=λ b o e n h=>by
  obtain⟨D,c⟩:=I.base.slot b o e n h (nx b);obtain⟨_,o2,d,i⟩:=I.ok.funs.mem h;rw[e]at d;cases d;obtain⟨l,j⟩:=v b _ h c (I.base.free b o e n (nx b)) i;exact⟨l,j⟩
 refine⟨⟨λ b o e n f _=>k b o (bk b o e n f),λ b o e n h _=>sl b o e n h,λ b o e n _=>?_,λ b o e _=>?_,λ b xs e=>y b xs (I.base.tups b xs e),λ b o u e=>A b o u (I.base.frzs b o u e),λ b q e=>C b q (I.base.tbls b q e)⟩,bk,m⟩
 .obtain⟨g,c⟩:=I.base.there b o e (nx b)
  exact x b g c (I.base.free b o e n (nx b))
 .by_cases h:b∈dt X.outer
  .obtain⟨s2,j⟩:=sl b o e (I.ok.frf b h) h
   exact⟨_,j⟩
  .obtain⟨a,E⟩:=m b o e h
   exact⟨a,k b a E⟩
def gc.pass(D:gc X E):tI (eh X.prog X.w) X E:=by
 intro F σ H s e s' I h;obtain⟨ea,c,i,B,H',rfl,j,a,un,k,l,bk,m,p⟩:=h;rw[D.xe];have f:=l;rw[D.stk]at f;have r:=I.ok.frames;rw[D.stk]at r;refine wpAny_leaves_onW r D.fr f λ h' g up=>?_
 have q:∀b o,b∈dt X.outer->s.heap.get? b=some o->H b=none->(∀v,o.data≠.fields v)->∃sl,h'.get? b=some {o with slots:=sl}:=λ b o t e n u=>by
  have d:b∈dt X.stack:=by
   rw[D.stk];unfold dt;rw[oX,D.fr];exact cT _ t
  obtain⟨G,w⟩:=un.slot b o e n d (λ z=>nomatch z);obtain⟨s2,x⟩:=up b _ w u;exact⟨s2,x⟩
 obtain⟨y,A,C⟩:=Ng (B:=B) D.ex I bk m g.1 q (λ b o e n=>un.free b o e n (λ z=>nomatch z)) un.tups un.frzs un.tbls;exact⟨ea,c,i,B,H',rfl,j.trans I.os,a,y,k,g,A,C,p⟩
def gc.raise(D:gc X E){ea:Addr}(I:Inv X kX σ H s)
  (x:Heap.MadeExcOf s.heap h1 ea cls vs)(j:E cls none H):X.xe (.ref ea) {s with heap:=h1}:=by
 rw[D.xe];have d:=I.stack;have i:∀env∈X.stack,∀a,env.frame=some a->a∈dt X.stack:=λ env m a ha=>sD.mpr ⟨env,m,ha⟩
 have k:=Ls d i;have h:=I.ok.frames;rw[D.stk]at h;have c:s.heap.FunFrames (tB s.heap (dt X.stack)) (X.env::X.outer):=by rw[<-D.stk];exact k
 refine wpAny_leaves_madeW h D.fr (λ b o q=>A7 _ q) c x λ h' t l tup A up=>?_
 have g:fR X.prog X.w H (tB s.heap (dt X.stack)):=λ a o e=>by
  refine(I.hok a o e).stay (λ b u p q=>vn _ q λ r=>?_) (λ _ z=>z) λ _ _ z=>z
  have B:=I.stkFree b r;simp_all
 obtain⟨v,w,y⟩:=Ng (H':=H) D.ex I (λ b o e n f=>vn _ e f) (λ b o e f=>⟨o,vn _ e f⟩) l.1
  (λ b o p e n f=>up b o (x.keeps b o e) f) (λ b o e n=>n) (λ _ _ e=>e) (λ _ _ _ e=>e) (λ _ _ e=>e)
 exact⟨ea,cls,.ref t,_,H,rfl,I.os,I.bare,v,g,l,w,y,j⟩
def gc.own(D:gc X E):AL (bJ X) X.A X.env X.xe:=λ e s' h=>by
 rw[D.xe]at h ⊢;exact wpAny_leaving_again (SameStack.refl _) h
end
section
variable{P:aR}{w:World}{K:av}{mg:Str->Option Value}{base:Heap}
def Fun.okX{st:Stmt}(F:Fun K x q st f fd)(S:dk N ps (bg st))(len:∀v H Q E,sp v H Q E->v.length=ps.length)
  (h:∀(c:Value) (A:aS) (o:List Env) (s:ao) (H:ah) (v:List V) (Q:br) (E:dC),ee k (A.deeper (gA q (bg st) s.heap.objs.size f c))->sp v H Q E->
   ∃t,iu (m9 (eh P w) P w K mg base N q (bg st) f c A o s H E) (iz st) t/\t {nx:=λ _ H'=>Q .non H',rt:=Q} (start N v) H):fS P w K mg base (eh P w) (k+1) f fd ps sp:=by
 obtain⟨b,e,eo,a,m,n,c,g,l,rfl,bY,d⟩:=F.ex;exact UJ bY d S len λ A o s H v Q E r p=>h _ A _ s H v Q E r p
end
def cJ(K:av)(C:Addr):Prop:=EH K C [.type "ValueError",.type "Exception",.type "BaseException",.type "object"] "ValueError.__new__"=true
def vI{K:av}(X:K.In h)(b:mg x=some (.ref C))(q:cJ K C):OwnCls x C [.type "ValueError",.type "Exception",.type "BaseException",.type "object"] "ValueError.__new__" mg h:=by
 refine⟨b,?_⟩;unfold cJ EH at q;split at q
 .rename_i dd c sl e
  split at q
  .rename_i k bm k0 k1 k2 k3 n k5 m a
   simp only[cF,beq_iff_eq,xk]at q;obtain⟨⟨⟨⟨⟨rfl,rfl⟩,d⟩,t⟩,o⟩,i⟩:=q;obtain⟨nm,bs,r,ns,f,g,sn,sub,ab,col,j⟩:=c;dsimp only at m d o i;subst m d;have s:sl=#[k0,k1,k2,k3,some (.builtin "ValueError.__new__"),k5]:=by
    obtain⟨l⟩:=sl;simp only at a;rw[a]
   subst s;exact⟨bm,ns,nm,f,bs,g,sn,sub,ab,col,dd,k0,k1,k2,k3,k5,_,X _ _ e,.of_isNs (PySem.W.isNs_of_in X o),PySem.W.nsMap_none_of_in X o i,PySem.W.tail_of_in X t⟩
  .cases q
 .cases q
def VR(C:Addr)(E:dC)(ta:fv):g9:=λ _ σ H=>ta σ H λ v a=>v.length<=aI/\E (.ref C) none a
section
variable{X:aC}{E:dC}
def VS(D:gc X E)(d:X.calm=true){rest:List Expr}(m:X.mg x=some (.ref C))(f:cJ X.K C)(g:cN X x)
  (ha:eE X (c::rest) ta)(e:aW (c::rest) X.env=(false,eval c X.env)::aW rest X.env:=by rfl)
  (p:(gk cpos (aW rest X.env)).any (·.1)=false:=by rfl)(i:Nd x:=by decide):
  jx X (.Raise (some (.Call (.Name x np) (c::rest) [] cpos)) none pos) (VR C E ta):=by
 intro k s σ H A I h;obtain⟨t,j,nm,q,bs,hdct,sn,sub,ab,col,dd,k0,k1,k2,k3,k5,mN,o,l,n,T⟩:=(vI (h:=X.base) I.mod.kin m f).obj;have rl:=PySem.F.excBase_ValueError;refine wpAny_Raise_call_subU (C:=C) (nm:=nm) (q:=q) (N:=j) (bs:=bs) (bm:=t) (hdct:=hdct) (sn:=sn) (sub:=sub) (ab:=ab) (col:=col) (dd:=dd) (k0:=k0) (k1:=k1) (k2:=k2) (k3:=k3) (k5:=k5)
  rl rl.hasB rl (mN:=mN) (T.hasType rl.hasBase) (I.ok.hd d) (by rw[e];assumption) n
  (vt I g m ⟨rfl,?_⟩ i)
 have a:=ha cpos k s σ H _ I h;rw[e]at a ⊢;refine KD (iq a (λ v B r=>?_) λ _ _ y=>y);obtain⟨xs,F,b,u,hz,w⟩:=r;refine⟨rfl,by show v.length<=aI;rw[<-u.length];exact hz,b.bk _ _ o,l.keeps b.bk,T.keeps b.bk,λ h' ea z=>D.raise b z w⟩
end
section
variable{κ:Type}[DecidableEq κ]
end
end L2
namespace Att
open PySem PySem.W PySem.Calls PyProof.Rows
end Att
namespace L2
open PySem PySem.Spec PyProof.Rows
section
variable{κ:Type}[DecidableEq κ]
end
section
variable{κ:Type}[DecidableEq κ]
end
end L2
namespace Att
open PySem PySem.W PySem.Calls PyProof.Rows
end Att
namespace L2
open PySem PySem.Spec PyProof.Rows
section
variable{κ:Type}[DecidableEq κ]
end
def VT{p:Pos}{a b:Int}{c v:Value}(l:List Value)(h:TriplesOk l)(e:ve p (l++[mS a,mS b,c])=some v):ve p l=some v\/v=c:=by
 fun_induction TriplesOk l with
 |case1=>
  simp only[oY,ve,mS]at e;simp_all
 |case2 f t g u x rest i=>
  simp only[qA,ve]at e ⊢;split at e
  .rename_i d;rw[if_pos d];exact .inl e
  .rename_i d;rw[if_neg d];exact i h e
 |case3 l j k=>simp_all
abbrev aC.noT(X:aC):aC:={X with ta:=[]}
section
variable{X:aC}{g:bF}{σ:St}{H:ah}{s:ao}
theorem Inv.noT(I:Inv X g σ H s):Inv X.noT g σ H s:=
 ⟨⟨I.ok.mod,I.ok.kind,I.ok.glob,I.ok.blt,I.ok.above,I.ok.inj,I.ok.has,I.ok.cab,I.ok.hd,I.ok.frames,I.ok.stk,I.ok.exf,I.ok.bs,I.ok.bsz,I.ok.noex,I.ok.exfs,I.ok.funs,I.ok.frf⟩,
  I.os,I.bare,I.base,I.loc,I.cell,I.free,I.freeC,I.pin,I.hok,I.len,λ p h=>absurd (h) (by simp)⟩
def Inv.ofT{H':ah}{s':ao}(I:Inv X g σ H s)(J:Inv X.noT g σ H' s')(t:∀p∈X.ta,H' p.1=none/\p.1≠X.env.locals/\p.1∉X.fs/\(∀q∈X.pn++g,q.1≠p.1)/\∃ps,s'.heap.get? p.1=some {cls:=.none,data:=.fields ps}/\TabOk X.tq H' ps):Inv X g σ H' s':=
 ⟨I.ok,J.os,J.bare,J.base,J.loc,J.cell,J.free,J.freeC,J.pin,J.hok,J.len,t⟩
structure ro(X:aC)(P:Addr):Prop where
 ta:∃o,X.ta=[(P,o)]
 ex:P∈X.ex
 tq:X.tq=X.env.qual++"<lambda>"
 code:∃c,X.env.code= .ref c/\Lz X.base c P
 blt:X.base.BuiltinsAt X.mg P
 gne:cz≠P
def yz(q:Str)(p:mP)(b:Expr)(s:Scope)(l:List (Str×Addr))(m:Value)(H:ah)(f c:Addr)(t:Value):Prop:=
 H f=some (.frz (tC "<lambda>" q p b s l m c t) (.own f))/\∃o,H c=some (.frz o (.own c))/\Mh q o
def VU{P:Addr}{j:mP}{l:Expr}{i:Scope}{F:Pos}{Q:Value->ao->Prop}{E:Value->ao->Prop}(N:ro X P)(I:Inv X g σ H s)(R:Eb j X.env=([],[]))
  (hfree:∀y∈i.names,y.2= .free->X.env.kindOf y.1=some .cell\/X.env.kindOf y.1=some .free)
  (h:∀(f w:Addr) (A:Value) (H':ah) (s':ao),Inv X g σ H' s'->aE H H'->yz X.tq j l i (bL i X.env) ((X.mg "__name__").getD .none) H' f w A->Q (.ref f) s'):
  wpAny (bJ X) X.A (eval (.Lambda j l i F) X.env) Q E s:=by
 obtain⟨o0,S⟩:=N.ta;obtain⟨c,B,hC⟩:=N.code;obtain⟨G,L,T,K,ps,U,O⟩:=I.tab (P,o0) (by rw[S];exact bW);dsimp only at G L T K U;have V:xR i X.env=pure (bL i X.env):=Fx λ y hy hk=>I.ok.has _ (hfree y hy hk)
 have W:s.heap.Ns cz X.mg:=by
  obtain⟨o,es,ep,e,r⟩:=I.ok.mod.glob;exact⟨o,es,ep,I.bk _ _ e,r⟩
 have Y:Lz s.heap c P:=hC.keeps I.bk;have hb:s.heap.BuiltinsAt X.mg P:=by
  obtain⟨bm,ob,b1,b2,b3,b4,b5,b6⟩:=N.blt;exact⟨bm,ob,b1,b2,b3,b4,I.bk _ _ b5,b6⟩
 refine PySem.W.kla_eval R ?_;rw[<-N.tq];cases hf:ve F ps.toList with
 |some cv=>
  obtain⟨w,C,rfl,hc',hco⟩:=O.2 F cv hf;refine PySem.W.kla_makeFunctionHit V I.ok.glob W B Y U O.1 hf hb λ A h' tk k Z=>?_
  have M:H h'.objs.size=none:=I.hok.fresh Z;have sm:aE H (bq H h'.objs.size (.frz (tC "<lambda>" X.tq j l i (bL i X.env) ((X.mg "__name__").getD .none) w A) (.own h'.objs.size))):=λ b u e=>by rw[bR (ir e M)];exact e
  have I':=I.laid (h':=h'.push (tC "<lambda>" X.tq j l i (bL i X.env) ((X.mg "__name__").getD .none) w A)) (t':=tk) (a:=h'.objs.size) (o:=.frz (tC "<lambda>" X.tq j l i (bL i X.env) ((X.mg "__name__").getD .none) w A) (.own h'.objs.size)) (λ b u e=>bj _ (k b u e)) Z
   ⟨dr _ rfl,_,dr _ rfl⟩
  exact h _ w A _ _ I' sm ⟨dM,C,sm _ _ hc',hco⟩
 |none=>
  refine PySem.W.kla_makeFunction V I.ok.glob W B Y U O.1 hf N.gne hb λ w A h' tk hx D hlt hrec htb=>?_
  obtain⟨c2,C,vs,t,e2,hoc,hd,hv⟩:=hrec;cases e2;have hcn:H w=none:=I.hok.fresh D;have hfn:H h'.objs.size=none:=I.hok.fresh (eJ D (lR hlt));have neT:∀b u,H b=some u->b≠w:=λ b u e=>ir e hcn
  have neP:∀b u,H b=some u->b≠P:=λ b u e=>ir e G
  have sm:aE H (bq H w (.frz C (.own w))):=λ b u e=>by rw[bR (neT b u e)];exact e
  have hcne:∀x a,X.env.cells.lookup x=some a->a≠P:=λ x a e z=>by
   obtain⟨v,o,ho,hdd⟩:=I.cell x a e;rw[z,U]at ho;cases ho;cases hdd
  have J:Inv X.noT g σ (bq H w (.frz C (.own w))) {s with heap:=h',toks:=tk}:=by
   refine I.noT.step (g':=s.gens) (d':=s.drawn) (ch:=[P]) (λ b hb'=>?_) (λ b o _ _ hc e _=>hx b o (λ z=>hc (by simp[z])) e) (λ b o _ _ hc e _=>⟨o.slots,hx b o (λ z=>hc (by simp[z])) e⟩)
    (λ b o _ e n=>by rw[bR (cH (eZ (bE e) D))];exact n) (λ b o hc e=>⟨o,hx b o (λ z=>hc (by simp[z])) e⟩)
    (λ b xs e=>sm _ _ e) (λ b o u e=>sm _ _ e) (λ b q e=>sm _ _ e) (λ m hm=>hm.extBut hx (λ z=>L z.symm)) (λ b u e=>?_) I.bare
   .have e:b=P:=by simpa using hb'
    subst e;exact⟨.inl N.ex,L,λ x c e=>hcne x c e,λ p hp=>K p hp⟩
   .by_cases hbc:b=w
    .subst hbc
     rw[dM]at e;cases e;exact⟨hoc,C,hoc⟩
    .rw[bR hbc]at e
     refine(I.hok b u e).stay (λ d v hd' q=>hx d v ?_ q) (λ d q=>sm _ _ q) (λ d xs q=>sm _ _ q) λ d o2 u2 q=>sm _ _ q
     rcases hd' with z|z
     .rw[z];exact neP b u e
     .exact neP d _ z
  have I':=I.ofT J λ p hp=>by
   rw[S]at hp;have e:p=(P,o0):=by simpa using hp
   subst e;refine⟨by rw[bR (cH (eZ (bE U) D))];exact G,L,T,K,_,htb,?_⟩;refine⟨?_,λ pos2 cv e=>?_⟩
   .rw[kO]
    exact TriplesOk_snoc _ _ _ _ O.1
   .rw[kO]at e
    rcases VT _ O.1 e with z|z
    .obtain⟨c2,oc2,z1,z2,z3⟩:=O.2 pos2 cv z
     exact⟨c2,oc2,z1,sm _ _ z2,z3⟩
    .exact⟨w,C,z,dM,vs,t,hd,hv⟩
  have M:bq H w (.frz C (.own w)) h'.objs.size=none:=by rw[bR (kR hlt)];exact hfn
  have sm2:aE (bq H w (.frz C (.own w))) (bq (bq H w (.frz C (.own w))) h'.objs.size (.frz (tC "<lambda>" X.tq j l i (bL i X.env) ((X.mg "__name__").getD .none) w A) (.own h'.objs.size))):=λ b u e=>by rw[bR (ir e M)];exact e
  have I2:=I'.laid (h':=h'.push (tC "<lambda>" X.tq j l i (bL i X.env) ((X.mg "__name__").getD .none) w A)) (t':=tk) (a:=h'.objs.size) (o:=.frz (tC "<lambda>" X.tq j l i (bL i X.env) ((X.mg "__name__").getD .none) w A) (.own h'.objs.size)) (λ b u e=>bj _ e) (bc _)
   ⟨dr _ rfl,_,dr _ rfl⟩
  exact h _ w A _ _ I2 (sm.trans sm2) ⟨dM,C,sm2 _ _ dM,vs,t,hd,hv⟩
def VV(q:Str)(p:mP)(b:Expr)(s:Scope)(l:List (Str×Addr))(m:Value):bz:=λ σ H Q=>∀f a c H',aE H H'->yz q p b s l m H' f a c->Q (.ref f) H'
def VW{P:Addr}{p:mP}{b:Expr}{c:Scope}{o:Pos}(L:ro X P)(d:Eb p X.env=([],[]))
  (hfree:∀y∈c.names,y.2= .free->X.env.kindOf y.1=some .cell\/X.env.kindOf y.1=some .free):aY X (.Lambda p b c o) (VV X.tq p b c (bL c X.env) ((X.mg "__name__").getD .none)):=
 λ g s σ H Q I h=>VU L I d hfree λ f a t H' s' e sm l=>⟨.ref f,H',e,rfl,h f a _ H' sm l⟩
end
def Fz(X:aC)(k0:Nat)(i:Nat)(E:dC):bz:=λ σ H Q=>∃f c dd sl d k s,σ[i]? =some (some (.ref f))/\H f=some (.frz ⟨c,dd,.func d,sl⟩ (.own f))/\fS X.prog X.w X.K X.mg X.base (eh X.prog X.w) k f d [] s/\k<=k0/\Binds X.K d [] []/\s [] H Q E
def VX{X:aC}{k0 i:Nat}{y:Str}{p m:Pos}{E:dC}(A:ee k0 X.A)(B:tI (eh X.prog X.w) X E)(N:X.N[i]? =some y)(C:j7 X.env.scope y)(n:Nd y:=by decide)(q:(y==("__classdict__":Str))=false:=by decide):
  aY X (.Call (.Name y p) [] [] m) (Fz X k0 i E):=by
 intro T s σ H Q I ⟨f,g,dd,sl,x,k,U,D,hf,F,G,J,h⟩;have r:wpAny (bJ X) X.A (eval (.Name y p) X.env) (λ v s'=>v= .ref f/\s'=s) X.xe s:=by
  obtain⟨mm,t,L⟩:=I.loc;obtain⟨u,M,l⟩:=L i y _ N D C;cases M;rcases l with ⟨a,O⟩|⟨a,c,z,d⟩
  .exact vd (DX I.ok.kind a t O ⟨rfl,rfl⟩) n
  .rcases a with a|a
   .exact vd (DZ I.ok.kind a z d ⟨rfl,rfl⟩) n
   .exact vd (Kl I.ok.kind a z d ⟨rfl,rfl⟩ q) n
 refine qI (aZ r λ v s' ⟨P,w⟩=>?_);subst P w;obtain⟨R,_⟩:s'.heap.get? f=some _/\_:=I.hok f _ hf;have S:PySem.W.Frag.In [(f,⟨g,dd,.func x,sl⟩)] s'.heap:=λ b o e=>by
  rw[jr]at e;by_cases j:b=f
  .subst j
   simp only[beq_self_eq_true]at e;cases e;exact R
  .simp only[beq_eq_false_iff_ne.mpr j]at e
   cases e
 exact PySem.W.callWith_K0 (K:=[(f,⟨g,dd,.func x,sl⟩)]) S (by simp[mX,jr]) (MG (us:=[]) F (A.mono G) J .nil B I .nil h)
def BH(P:aR)(w:World)(K:av)(mg:Str->Option Value)(base:Heap)(N:List Str)(q:Str)(c:Scope)(l:List (Str×Addr))(f:Addr)(d:Value)(A:aS)(outer:List Env)(s:ao)(H:ah)(E:dC):aC where
 prog:=P
 w:=w
 K:=K
 mg:=mg
 base:=base
 A:=A.deeper (q9 q c s.heap.objs.size f d l)
 N:=N
 z4:=s
 zI:=H
 env:=q9 q c s.heap.objs.size f d l
 outer:=outer
 stack:=q9 q c s.heap.objs.size f d l::outer
 ex:=[]
 calm:=true
 fn:=λ _=>false
 pn:=[]
 xe:=λ e s'=>wpAny (model P w) (A.deeper (q9 q c s.heap.objs.size f d l)) (leaving (q9 q c s.heap.objs.size f d l) e) (λ _ a=>eh P w outer H s E e a) (λ b a=>eh P w outer H s E b a) s'
def gc.ofL{P:aR}{w:World}{K:av}{mg:Str->Option Value}{base:Heap}{N:List Str}{q:Str}{c:Scope}{l:List (Str×Addr)}{f:Addr}{d:Value}{A:aS}{o:List Env}{s:ao}{H:ah}{E:dC}:
  gc (BH P w K mg base N q c l f d A o s H E) E:=⟨rfl,rfl,rfl,rfl⟩
structure FA(scope:Scope):Prop where
 kind:scope.kind= .function
 co:scope.isCoroutine=false
 gen:scope.isGenerator=false
 cell:∀y∈scope.names,y.2≠.cell
 loc:∀y∈scope.names,y.2≠.local
structure FB(base:Heap)(N:List Str)(σ:St)(scope:Scope)(cl:List (Str×Addr)):Prop where
 inj:∀x y c,cl.lookup x=some c->cl.lookup y=some c->x=y
 has:∀x,scope.names.lookup x=some .free->∃c,cl.lookup x=some c
 cell:∀x c,cl.lookup x=some c->∃v,base.IsCell c v
 val:∀(i:Nat) x v,N[i]? =some x->σ[i]? =some (some v)->scope.names.lookup x=some .free->∃c u,cl.lookup x=some c/\RelV v u/\base.IsCell c (some u)
 len:σ.length=N.length
def VY{P:aR}{w:World}{K:av}{mg:Str->Option Value}{base:Heap}{N:List Str}{q:Str}{m:mP}{a:Scope}{B:List (Str×Addr)}{f n:Addr}{pm G:Value}{l:Expr}{k:Nat}{σ:St}{H1:ah}{O:ka}
  (la:yz q m l a B pm H1 f n G)(S:FA a)(F:FB base N σ a B)
  (len:∀C H Q E,O C H Q E->C=[]/\aE H1 H)
  (D:∀(A:aS) (d:List Env) (s:ao) (H:ah) (Q:br) (E:dC),ee k (A.deeper (q9 q a s.heap.objs.size f (.ref n) B))->O [] H Q E->∃R,aY (BH P w K mg base N q a B f (.ref n) A d s H E) l R/\R σ H Q):
  fS P w K mg base (eh P w) (k+1) f (EG "<lambda>" q m l a B pm (.ref n) G) [] O:=by
 refine⟨λ C H Q E h=>by rw[(len C H Q E h).1];rfl,λ A d s H args us C Q E T j hb r L=>?_⟩;obtain⟨rfl,M⟩:=len _ _ _ _ L;obtain⟨R,U,V⟩:=D A d s H Q E (T.deeper _) L;have cS:s.heap.NoLimit:=j.mod.nolimit.keeps λ b o e=>(j.bs b o e).1
 obtain⟨hf,oc,hc,W⟩:=la;obtain⟨ho,_⟩:s.heap.get? f=some _/\_:=j.hok f _ (M _ _ hf);obtain⟨X,_⟩:s.heap.get? n=some oc/\_:=j.hok n _ (M _ _ hc);obtain⟨C,t,hd,hv⟩:=W;refine PySem.W.kla_callFunE T.depth ho rfl S.co S.gen rfl ⟨n,oc,C,t,rfl,X,hd,hv⟩ (hb _ _ _ _ ?_);refine wpAny_newFunctionEnv S.cell (by intro y hy;simp at hy) (λ Y Z hsb=>?_) S.kind;have g:∀b o,s.heap.get? b=some o->Y.get? b=some o:=λ b o e=>hsb.extBut b o (cH (bE e)) (bj _ e)
 refine⟨cS.keeps g,?_⟩;show ie _ _ (.expr l (q9 q a s.heap.objs.size f (.ref n) B)) _ _;have kb:∀b o,base.get? b=some o->Y.get? b=some o:=λ b o e=>g b o (j.bs b o e).1
 have I:Inv (BH P w K mg base N q a B f (.ref n) A d s H E) [] σ H {s with heap:=Y,toks:=s.toks+(([]:List Str).zip us).length}:=by
  refine⟨⟨j.mod,S.kind,rfl,rfl,bc _,F.inj,λ x hx=>?_,λ x c z=>absurd z cL,λ _=>T.hd,Ks j.frames,.inr ⟨rfl,rfl⟩,λ b z=>(nomatch z),j.bs,j.bsz,λ b _ _=>λ z=>(nomatch z),λ b z=>(nomatch z),j.funs,j.frf⟩,
   rfl,j.bare,fz.kept g,⟨_,Z,λ i x v e1 e2 e3=>?_⟩,λ x c e=>?_,j.hok.fresh (bc _),λ x c e=>?_,λ p hp=>(nomatch hp),j.hok.kept g,F.len,λ p hp=>(nomatch hp)⟩
  .rcases hx with z|z
   .exact absurd rfl (S.cell _ (i2 z))
   .exact F.has x z
  .rcases e3 with z|z|z
   .exact absurd rfl (S.loc _ (i2 z))
   .exact absurd rfl (S.cell _ (i2 z))
   .obtain⟨c,u,c1,c2,c3⟩:=F.val i x v e1 e2 z
    exact⟨u,c2,.inr ⟨.inr z,c,c1,c3.keeps kb⟩⟩
  .obtain⟨v,z⟩:=F.cell x c e
   exact⟨v,z.keeps kb⟩
  .obtain⟨v,o,z,_⟩:=F.cell x c e
   exact(j.bs c o z).2
 refine PySem.W.kla_codeExpr (iq (U [] _ σ H _ I V) (λ u s' hq=>?_) λ e s' hq=>hq);obtain⟨v,H',J,rv,q⟩:=hq;exact⟨v,H',J.os,J.bare,J.base,J.hok,rv,q⟩
def rq(X:aC)(s:ao)(H:ah):Heap:=tB s.heap (Bo s.heap H++dt X.stack)
section
variable{X:aC}{d:bF}{σ:St}{H:ah}{s:ao}
def Nh{b:Addr}{o:Obj}(e:s.heap.get? b=some o)(n:H b=none)(f:b∉dt X.stack):(rq X s H).get? b=some o:=
 vn _ e λ h=>by
  rcases cu.mp h with z|z
  .have q:=(mI.mp z).2
   simp_all
  .exact f z
def VZ{b:Addr}{o:Obj}(e:(rq X s H).get? b=some o):s.heap.get? b=some o/\H b=none:=by
 have a:=A7 _ e;refine⟨a,?_⟩;cases q:H b with
 |none=>rfl
 |some u=>
  have h:b∈Bo _ H++dt X.stack:=fQ _ (mI.mpr ⟨kl.mpr (bE a),by simp_all⟩);have z:(tB s.heap _).get? b=none:=Ez _ h;have c:(tB _ _).get? b=some o:=e;simp_all
def Inv.env1(I:Inv X d σ H s):rh X.prog X.w X.K X.mg (rq X s H) X.A X.stack s H:=by
 have kb:=λ b o e=>Nh (I.bs b o e).1 (I.bs b o e).2 λ h=>by
  have z:=(I.stack.mem h).1;lia
 have ns:∀{b:Addr} {m:Str->Option _},X.base.Ns b m->(rq X s H).Ns b m:=λ{b m} ⟨o,es,ep,e,r⟩=>⟨o,es,ep,kb _ _ e,r⟩
 refine⟨I.ok.frames,⟨I.mod.kin.keeps kb,ns I.mod.glob,?_,I.mod.nolimit.keeps kb⟩,λ b o e=>VZ e,Ak (EA _ _),Ls I.stack λ env c a ha=>gz _ (sD.mpr ⟨_,c,ha⟩),I.stkFree,I.hok,I.bare⟩;obtain⟨f,g,i⟩:=I.mod.blt;exact⟨f,ns g,i⟩
def V0{CX:oa}{k:Nat}{f:Addr}{a:cB}{ps:List Str}{p:ka}{E:dC}{Q:br}{v:List V}{us:List Value}(I:Inv X d σ H s)(F:fS X.prog X.w X.K X.mg (rq X s H) CX k f a ps p)(c:ee k X.A)(g:Binds X.K a ps [])(x:tI CX X E)
  (r:Vals v us)(h:p v H Q E):wpAny (bJ X) X.A (call (.ref f) us) (hh X d σ Q) X.xe s:=by
 have l:(us++[]).length=ps.length:=by rw[fo,<-r.length];exact F.len _ _ _ _ h
 have b:=g s us I.kIn l;rw[fo]at b;refine AK (qJ (F.run _ _ s H _ us v Q E c I.env1 b r h) λ r s' q=>?_);cases r with
 |error e=>exact x _ σ H s e s' I q
 |ok i=>
  cases i with
  |ret u=>exact I.after q
  |next=>assumption
  |brk=>assumption
  |cont=>assumption
def V1{p:Scope}(I:Inv X d σ H s)(n:X.outer=[])(S:FA p)(hfree:∀y∈p.names,y.2= .free->X.env.kindOf y.1=some .cell\/X.env.kindOf y.1=some .free):FB (rq X s H) X.N σ p (bL p X.env):=by
 have g:∀x c v,X.env.cells.lookup x=some c->s.heap.IsCell c v->(rq X s H).IsCell c v:=λ x c v e ⟨o,q,r⟩=>⟨o,Nh q (I.freeC x c e) λ t=>by
  rcases bI.mp (I.stkSub c t)with z|z
  .exact I.cne x c e z
  .have j:c∈dt X.outer:=z
   rw[n]at j;exact absurd j (by simp[dt]),r⟩
 have a:=λ x h=>hfree (x,.free) (i2 h) rfl
 refine⟨λ x y c b f=>I.ok.inj x y c (vE b) (vE f),λ x h=>?_,λ x c e=>?_,λ i x v b f h=>?_,I.len⟩
 .obtain⟨c,w⟩:=I.ok.has x (a x h)
  exact⟨c,BF h w⟩
 .obtain⟨v,z⟩:=I.cell x c (vE e)
  exact⟨v,g x c v (vE e) z⟩
 .obtain⟨m,E,A⟩:=I.loc
  obtain⟨u,B,C⟩:=A i x v b f ((a x h).elim (λ z=>.inr (.inl z)) λ z=>.inr (.inr z));rcases C with ⟨k,_⟩|⟨_,c,l,D⟩
  .rcases a x h with z|z<;>simp_all
  .exact⟨c,u,BF h l,B,g x c _ l D⟩
end
abbrev BI:List Value:=[.type "ValueError",.type "Exception",.type "BaseException",.type "object"]
section
variable{prog:aR}{w:World}{A:aS}{E:Value->ao->Prop}{h:Heap}{g:Array Av}{d:Drawn}{t:Nat}{c:OsState}{a:Addr}{o:Obj}
 {nm q:Str}{C N:Addr}{bs bm:List Value}{hdct:Bool}{sn:List Str}{sub:List Value}{ab:Bool}{col:Option Bool}{dd:Option Addr}{k0 k1 k2 k3 k5:Option Value}{I:String}{K:av}
def V2{R:pj->ao->Prop}(i:h.get? C=some (va nm q C N bs bm hdct sn sub ab col dd k0 k1 k2 k3 k5 I))(T:OwnTail h BI bm)
  (x:h.get? a=some o)(f:o.cls= .ref C)(j:R (.ok (.ret (.ref C))) ⟨h,g,d,t,c⟩):
  ie (model prog w) A (.call (.builtin "getset_descriptor.__get__") ⟨[.builtin "object.__class__",.ref a,.ref C],[]⟩) R ⟨h,g,d,t,c⟩:=by
 have e:(⟨h,g,d,t,c⟩:ao).TypeIs (.builtin "object.__class__") "getset_descriptor":=Ei;have B:(fO C::bm).contains (.type (".".intercalate ("object.__class__".cutAt '.').dropLast))=true:=by
  rw[F.owner_object_class,JG,T.hasType (X:="object") (b:=true) (by f_are)];rfl
 refine DW Em.plain F.entry_gs_get (Em.check _ _ _ _ _ _ _ _ e (F.args_gs_get _ _ _) ?_)
 repeat (any_goals (first|assumption|(with_reducible refine sS x ?_;rw[f])|(with_reducible refine Aw i ?_;rw[B])|wp_step))
 refine⟨KG _ (by f_are),nW F.entry_object_class ?_⟩
 repeat (any_goals (first|assumption|(with_reducible refine sS x ?_;rw[f])|wp_step))
def V3{M:Model}{n:Value}{Q:Unit->ao->Prop}(e:h.get? C=some (va nm q C N bs bm hdct sn sub ab col dd k0 k1 k2 k3 k5 I))(T:OwnTail h BI bm)
  (x:h.get? a=some o)(f:o.cls= .ref C)(i:Q () ⟨h,g,d,t,c⟩):wpAny M A (checkBuiltinCall "BaseException.__getattribute__" ⟨[.ref a,n],[]⟩) Q E ⟨h,g,d,t,c⟩:=by
 have k:builtinKind "BaseException.__getattribute__"=some .slot:=by f_are
 have j:splitId "BaseException.__getattribute__"=some ("BaseException","__getattribute__"):=by f_are
 have B:(fO C::bm).contains (.type "BaseException")=true:=by rw[JG,T.hasType (X:="BaseException") (b:=true) (by f_are)];rfl
 have ha:=F.args_bexc_ga (.ref a) n;simp only[checkBuiltinCall,k,j];refine ak ?_
 .unfold isInstance
  repeat (first|(with_reducible refine sS x ?_;rw[f])|(with_reducible refine Aw e ?_;rw[B])|wp_step)
  exact i
def V4{k:Tok}{Q:Fin->ao->Prop}(e:h.get? C=some (va nm q C N bs bm hdct sn sub ab col dd k0 k1 k2 k3 k5 I))(T:OwnTail h BI bm)(bY:∀M:Model,Bb M h (vc (.ref C) "__class__") (some (.builtin "object.__class__")))
  (x:h.get? a=some o)(b:o.cls= .ref C)(i:Q (.done (.ret (.ref C))) ⟨h,g,d,t,c⟩):
  wpAny (model prog w) A (ia.«object.__getattribute__» ⟨[.ref a,.str "__class__" k],[]⟩) Q E ⟨h,g,d,t,c⟩:=by
 have f:(⟨h,g,d,t,c⟩:ao).TypeIs (.builtin "object.__class__") "getset_descriptor":=Ei;have j:=Ei;have l:=Em.lookup;have m:=F.slot_gs_set.lookup
 repeat (any_goals (first|assumption|(with_reducible refine sS x ?_;rw[b])|with_reducible refine(bY _).here ?_|wp_step))
 refine V2 e T x b ?_
 repeat (any_goals (first|assumption|wp_step))
def V5{Q:Option Value->ao->Prop}(i:h.get? C=some (va nm q C N bs bm hdct sn sub ab col dd k0 k1 k2 k3 k5 I))(T:OwnTail h BI bm)(bY:∀M:Model,Bb M h (vc (.ref C) "__class__") (some (.builtin "object.__class__")))
  (l:∀M:Model,Bb M h (vc (.ref C) "__getattribute__") (some (.builtin "BaseException.__getattribute__")))(n:∀M:Model,Bb M h (vc (.ref C) "__getattr__") none)
  (x:h.get? a=some o)(e:o.cls= .ref C)(j:Q (some (.ref C)) ⟨h,g,d,t+1,c⟩):wpAny (model prog w) A (getAttr? (.ref a) "__class__") Q E ⟨h,g,d,t,c⟩:=by
 have b:∀{E:Value->ao->Prop} {t:Nat} {k:Tok} {Q:Value->ao->Prop},Q (.ref C) ⟨h,g,d,t,c⟩->wpAny (model prog w) A (getAttrBy (.ref a) (.str "__class__" k) false) Q E ⟨h,g,d,t,c⟩:=by
  intro E t k Q j;have rl:=PySem.F.excAttr_ValueError;have r:=rl.ga.bind (.ref a);have m:(false&&onTheHeap (ya "BaseException.__getattribute__"))=false:=rfl;have f:(ya "BaseException.__getattribute__"==ya "object.__getattribute__")=false:=by f_are
  have p:(onTheHeap (fO C)&&ya "BaseException.__getattribute__"==ya "object.__getattribute__")=false:=by rw[f];rfl
  repeat (any_goals (first|assumption|(with_reducible refine sS x ?_;rw[e])|with_reducible refine(l _).here ?_|with_reducible refine(n _).here ?_|wp_step))
  refine DW rl.ga.plain F.entry_bexc_ga (V3 i T x e (V4 i T bY x e ?_))
  repeat (any_goals (first|assumption|wp_step))
 unfold getAttr? getAttrBy?
 repeat (any_goals (first|assumption|with_reducible apply b|wp_step))
def V6(f:cJ K C)(ha:j6 K (.ref C) "__class__"=some (some (.builtin "object.__class__")))(i:j6 K (.ref C) "__getattribute__"=some (some (.builtin "BaseException.__getattribute__")))
  (j:j6 K (.ref C) "__getattr__"=some none):PySem.W.KitX K (.ref a) (.ref C) (λ h=>∃o,h.get? a=some o/\o.cls= .ref C) where
 ty:=λ M h _ ⟨o,l,m⟩=>m▸(Sm l).andThen .now
 it:=λ M h X _=>by
  obtain⟨bm,N,nm,q,bs,hdct,sn,sub,ab,col,dd,k0,k1,k2,k3,k5,mN,b,_⟩:=(vI (h:=h) (mg:=λ _=>some (.ref C)) (x:="x") X rfl f).obj;intro A' y E' s' k q;unfold isType loadHead;exact ak (wpAny_loadPart (k _ _ b) (aB q))
 ne:=λ h r dd u n sl X p=>by
  obtain⟨bm,N,nm,q,bs,hdct,sn,sub,ab,col,dd,k0,k1,k2,k3,k5,mN,b,_⟩:=(vI (h:=h) (mg:=λ _=>some (.ref C)) (x:="x") X rfl f).obj;refine Bool.eq_false_iff.mpr λ z=>?_
  have e:C=r:=Value.ref.inj (beq_iff_eq.mp z);subst e;rw[b]at p;exact absurd (congrArg Obj.cls (hX p)) (by show ma "type"≠ma "tuple";f_are)
 ca:=λ{prog w A E Q s} X ⟨o,l,m⟩ k=>by
  obtain⟨h,g,d,t,c⟩:=s;obtain⟨bm,N,nm,q,bs,hdct,sn,sub,ab,col,dd,k0,k1,k2,k3,k5,mN,b,B,v,T⟩:=(vI (h:=h) (mg:=λ _=>some (.ref C)) (x:="x") X rfl f).obj;exact V5 b T (λ M=>A6 X ha) (λ M=>A6 X i) (λ M=>A6 X j) l m k
end
def excφ(a C:Addr):Heap->Prop:=λ h=>∃o,h.get? a=some o/\o.cls= .ref C
def excφ_stay{a C:Addr}:∀h b:Heap,excφ a C h->(∀o,h.get? a=some o->b.get? a=some o)->excφ a C b:=λ h b ⟨o,e,c⟩ k=>⟨o,k o e,c⟩
structure BJ(K:av)(C:Addr):Prop where
 ex:cJ K C
 ca:j6 K (.ref C) "__class__"=some (some (.builtin "object.__class__"))
 gt:j6 K (.ref C) "__getattribute__"=some (some (.builtin "BaseException.__getattribute__"))
 ga:j6 K (.ref C) "__getattr__"=some none
section
variable{X:aC}
def Ni(K:av):List V->ah->br->Prop:=λ xs H Q=>∃a C y c b,xs=[.ref a,y]/\RelV y c/\H a=some (.ext (excφ a C))/\BJ K C/\n6 K (.ref C) c=some b/\Q (.bl b) H
def V7:fC X (.builtin "isinstance") (Ni X.K):=by
 intro j s σ H xs us Q I r h;obtain⟨a,C,y,c,b,rfl,d,ha,k,e,q⟩:=h;obtain⟨u,w,rfl,g,f⟩:=vals2 r;cases g;have i:w=c:=by
  cases y<;>first
   |(cases f;cases d;rfl)
   |(obtain⟨l,rfl⟩:=f;obtain⟨m,rfl⟩:=d;exact absurd e (by simp[n6,PySem.W.kitCls]))
 subst i;obtain⟨p,_⟩:excφ a C s.heap/\_:=I.hok a _ ha;exact kq (V6 k.ex k.ca k.gt k.ga) I.kIn p e (λ z=>nomatch z) λ t=>⟨.bl b,H,I.tok t,rfl,q⟩
end
abbrev aC.re(X:aC)(A:aS)(c:Bool)(aO:bF)(E:Value->ao->Prop):aC:={X with A:=A,calm:=c,pn:=X.pn++aO,xe:=E}
section
variable{X:aC}{f:bF}{σ:St}{H:ah}{s:ao}
theorem Inv.re{A:aS}{c:Bool}{E:Value->ao->Prop}(I:Inv X f σ H s)(hf:A.frames=X.A.frames)(g:c=true->A.handled=none):Inv (X.re A c f E) [] σ H s:=
 ⟨⟨I.ok.mod,I.ok.kind,I.ok.glob,I.ok.blt,I.ok.above,I.ok.inj,I.ok.has,I.ok.cab,g,hf.trans I.ok.frames,I.ok.stk,I.ok.exf,I.ok.bs,I.ok.bsz,I.ok.noex,I.ok.exfs,I.ok.funs,I.ok.frf⟩,
  I.os,I.bare,I.base,I.loc,I.cell,I.free,I.freeC,λ p h=>I.pin p (by simp_all),I.hok,I.len,λ p h=>let⟨a,b,c,d,e⟩:=I.tab p h;⟨a,b,c,λ q i=>d q (by simp_all),e⟩⟩
def Inv.unre{A:aS}{c:Bool}{E:Value->ao->Prop}{i:bF}{g:St}{H:ah}{s2:ao}(ok:X.Ok)(J:Inv (X.re A c f E) i g H s2):Inv X f g H s2:=
 ⟨ok,J.os,J.bare,J.base,J.loc,J.cell,J.free,J.freeC,λ p h=>J.pin p (fQ _ h),J.hok,J.len,λ p h=>let⟨a,b,c,d,e⟩:=J.tab p h;⟨a,b,c,λ q j=>d q (fQ _ j),e⟩⟩
def Inv.track{a:Addr}{o:HO}(I:Inv X f σ H s)(ha:H a=none)(l:X.z4.heap.get? a=none)(L:X.env.locals≠a)(m:∀x c,X.env.cells.lookup x=some c->c≠a)(j:∀p∈X.ta++(X.pn++f),p.1≠a)
  (w:fZ X.prog X.w (bq H a o) s.heap a o):Inv X f σ (bq H a o) s:=by
 have g:∀b u,H b=some u->b≠a:=λ b u e=>ir e ha
 refine⟨I.ok,I.os,I.bare,⟨I.base.keep,I.base.slot,λ b i e n nx=>?_,I.base.there,λ b xs e=>?_,λ b i u e=>?_,λ b ps e=>?_⟩,I.loc,I.cell,?_,λ x c e=>?_,λ p h=>?_,λ b u e=>?_,I.len,λ p h=>?_⟩
 .rw[bR (λ z=>by rw[z,l]at e;cases e)]
  exact I.base.free b i e n nx
 .have d:=I.base.tups b xs e
  rw[bR (g b _ d)];exact d
 .have d:=I.base.frzs b i u e
  rw[bR (g b _ d)];exact d
 .have d:=I.base.tbls b ps e
  rw[bR (g b _ d)];exact d
 .rw[bR L];exact I.free
 .rw[bR (m x c e)];exact I.freeC x c e
 .obtain⟨r,t,y⟩:=I.pin p h
  exact⟨r,by rw[bR (j p (gz _ h))];exact t,y⟩
 .by_cases k:b=a
  .subst k;rw[dM]at e;cases e;exact w
  .rw[bR k]at e
   exact(I.hok b u e).stay (λ c v _ q=>q) (λ c q=>by rw[bR (g c _ q)];exact q) (λ c xs q=>by rw[bR (g c _ q)];exact q) λ c o2 G q=>by rw[bR (g c _ q)];exact q
 .obtain⟨A,B,C,D,ps,E,F⟩:=I.tab p h
  exact⟨by rw[bR (j p (fQ _ h))];exact A,B,C,D,ps,E,F.mono λ b o u e=>by rw[bR (g b _ e)];exact e⟩
def Inv.gone{i:Nat}{n:Str}{h':Heap}{m:Str->Option Value}{v:Option Value}{F:Nat}(I:Inv X f σ H s)(N:X.N.Nodup)(G:X.N[i]? =some n)(J:s.heap.Ns X.env.locals m)(K:h'.Ns X.env.locals λ x=>if x=n then v else m x)(t:vk X.env.locals s.heap h'):
  Inv X f (σ.set i none) H {s with heap:=h',toks:=F}:=by
 obtain⟨L,h,M⟩:=id I.loc;have cne:=I.cne;have O:L=m:=by
  obtain⟨o1,P,Q,a,R,k1⟩:=h;obtain⟨o2,S,T,d,B,k2⟩:=J;rw[a]at d;cases d;rw[R]at B;cases B;funext x;exact(k1.2 x).symm.trans (k2.2 x)
 subst O;obtain⟨oL,_,_,U,_⟩:=id h;have keep:∀b o,b≠X.env.locals->s.heap.get? b=some o->h'.get? b=some o:=λ b o V e=>(t.2 b V).trans e
 refine⟨I.ok,I.os,I.bare,⟨λ b o e n' w g=>?_,λ b o e n' w g=>?_,I.base.free,λ b o e g=>?_,I.base.tups,I.base.frzs,I.base.tbls⟩,⟨_,K,λ j y l a d W=>?_⟩,λ y c e=>?_,I.free,I.freeC,λ p A=>?_,λ b u e=>?_,by simpa using I.len,λ p A=>?_⟩
 .exact keep b o (cH (eZ (bE e) I.ok.above)) (I.base.keep b o e n' w g)
 .obtain⟨sl,a⟩:=I.base.slot b o e n' w g
  exact⟨sl,keep b _ (cH (eZ (bE e) I.ok.above)) a⟩
 .obtain⟨Y,a⟩:=I.base.there b o e g
  exact⟨Y,keep b _ (cH (eZ (bE e) I.ok.above)) a⟩
 .have C:j≠i:=λ z=>by
   subst z;rw[List.getElem?_set]at d;simp at d
  rw[qw (jT C)]at d;obtain⟨u,r,q⟩:=M j y l a d W;refine⟨u,r,?_⟩;have Z:y≠n:=λ z=>C (EZ N a (z▸G))
  rcases q with ⟨k,e⟩|⟨k,c,e,z⟩
  .exact .inl ⟨k,by simp[Z,e]⟩
  .exact .inr ⟨k,c,e,z.sameBut t (cne y c e)⟩
 .obtain⟨l,z⟩:=I.cell y c e
  exact⟨l,z.sameBut t (cne y c e)⟩
 .obtain⟨p1,p2,D,p4⟩:=I.pin p A
  exact⟨keep _ _ D p1,p2,D,p4⟩
 .refine(I.hok b u e).stay (λ c l hc q=>keep c l ?_ q) (λ _ q=>q) λ _ _ q=>q
  rintro rfl;rcases hc with z|z
  .rw[<-z,I.free]at e;cases e
  .rw[I.free]at z;cases z
 .obtain⟨n1,E,n3,n0,ps,n4,n5⟩:=I.tab p A
  exact⟨n1,E,n3,n0,ps,keep _ _ E n4,n5⟩
end
section
variable{M:Model}{A:aS}{E:Value->ao->Prop}{h:Heap}{g:Array Av}{d:Drawn}{t:Nat}{y:OsState}
variable{nm q:Str}{C N:Addr}{bs bm:List Value}{hdct:Bool}{sn:List Str}{sub:List Value}{ab:Bool}{col:Option Bool}{dd:Option Addr}{k0 k1 k2 k3 k5:Option Value}{w:String}
variable{m z:Str}{a B:Addr}{v b:List Value}{c:Bool}{i:List Str}{s:List Value}{x:Bool}{o:Option Bool}{u:Option Addr}{r p l j k:Option Value}{n:String}
def V8{e:Addr}{G:Obj}{Q:Bool->ao->Prop}(H:h.get? C=some (va nm q C N bs bm hdct sn sub ab col dd k0 k1 k2 k3 k5 w))(D:h.get? a=some (va m z a B v b c i s x o u r p l j k n))
  (I:h.get? e=some G)(L:G.cls= .ref C)(J:b.contains (.type "BaseException")=true)(K:(fO C::bm).contains (.ref a)=true)
  (O:Q true ⟨h,g,d,t,y⟩):wpAny M A (excMatches (.ref e) (.ref a)) Q E ⟨h,g,d,t,y⟩:=by
 have F:(fO a::b).contains (.type "BaseException")=true:=by assumption
 have f:=tc_notTuple;unfold excMatches
 repeat (first|(with_reducible refine sS I ?_;rw[L])|with_reducible refine sS D ?_|(with_reducible refine Aw D ?_;rw[F])|(with_reducible refine Aw H ?_;rw[K])|wp_step)
 exact O
end
def fZ.there{P:aR}{w:World}{H:ah}{h:Heap}{a:Addr}{o:HO}(x:fZ P w H h a o):∃b,h.get? a=some b:=by
 cases o with
 |lst xs=>obtain⟨_,_,_,_,e⟩:=x;exact⟨_,e⟩
 |tup xs=>
  obtain⟨_,_,_,p⟩:=x;obtain⟨o,e,_⟩:=p;exact⟨_,e⟩
 |dK k=>obtain⟨_,_,_,_,o,_,_,e,_⟩:=x;exact⟨_,e⟩
 |dT k=>obtain⟨_,_,_,_,o,_,_,e,_⟩:=x;exact⟨_,e⟩
 |set S n=>obtain⟨o,_,_,_,e,_⟩:=x;exact⟨_,e⟩
 |ins C d fs=>obtain⟨_,_,_,e,_⟩:=x;exact⟨_,e⟩
 |own y=>assumption
 |xd fs=>obtain⟨_,⟨_,_,_,e,_⟩,_⟩:=x;exact⟨_,e⟩
 |rng l i=>obtain⟨_,_,_,e⟩:=x;exact⟨_,e⟩
 |frz b u=>obtain⟨e,_⟩:=x;exact⟨_,e⟩
 |tbl q=>obtain⟨_,e,_⟩:=x;exact⟨_,e⟩
 |met f y=>exact⟨_,x⟩
 |ext φ=>obtain⟨_,e,_⟩:=x;simp_all
def vJ(K:av)(C a:Addr):Bool:=
 match K.lookup C with
 |some ⟨_,_,.cls c,_⟩=>c.mro.contains (.ref a)
 |_=>false
abbrev aC.tr(X:aC)(k:bF)(E':dC):aC:=X.re X.A true k λ e s'=>∃σ H s,Inv X k σ H s/\eh X.prog X.w X.stack H s E' e s'
abbrev aC.ha(X:aC)(k:bF)(ea:Addr):aC:=X.re (X.A.mark (some (.ref ea))) false k λ _ _=>False
def Nj(X:aC)(i:Nat)(e:Addr)(E':dC)(tb th:g9):g9:=λ D σ H=>tb D σ H/\∀c d,E' c none d->∃C,c= .ref C/\cJ X.K C/\vJ X.K C e=true/\∀(b:St) (ea:Addr),b.length=X.N.length->d ea=none->
 th {nx:=λ a H'=>D.nx (a.set i none) H',rt:=D.rt,bk:=λ a H'=>D.bk (a.set i none) H',ct:=λ a H'=>D.ct (a.set i none) H'} (b.set i (some (.ref ea))) (bq d ea (.ext (excφ ea C)))
section
variable{X:aC}{E E':dC}
def aC.tr_ok{k:bF}(J:(X.tr k E').Ok):X.Ok:=
 ⟨J.mod,J.kind,J.glob,J.blt,J.above,J.inj,J.has,J.cab,λ _=>J.hd rfl,J.frames,J.stk,J.exf,J.bs,J.bsz,J.noex,J.exfs,J.funs,J.frf⟩
def aC.tr_pass{k:bF}:tI (eh X.prog X.w) (X.tr k E') E':=λ p σ H s e s' I h=>⟨σ,H,s,Inv.unre (aC.tr_ok I.ok) I,h⟩
def V9(D:gc X E)(hc:X.calm=true)(hN:X.N.Nodup){i:Nat}{n:Str}(hi:X.N[i]? =some n)(hl:X.env.scope.names.lookup n=some .local){x:Str}{C':Addr}(hm:X.mg x=some (.ref C'))(hg:cN X x)(hC':cJ X.K C')
  {L t:List Stmt}{M:Stmt}{tb th:g9}{np N pos:Pos}(V:∀g,iu (X.tr g E') L tb)(hs:∀g ea,iu (X.ha g ea) (M::t) th)(hdb:Nd x:=by decide):
  jx X (.Try L [.ExceptHandler (some (.Name x np)) (some n) (M::t) N] [] [] pos) (Nj X i C' E' tb th):=by
 intro g s σ H DD I O;obtain⟨h1,h2⟩:=O;refine wpAny_Try_except (iq (V g [] s σ H DD (I.re rfl λ _=>I.ok.hd hc) h1) (λ f s1 q=>?_) λ e s1 q=>?_)
 .cases f with
  |next=>
   obtain⟨d,H',J,q⟩:=q;exact xK ⟨d,H',Inv.unre I.ok J,q⟩
  |brk=>obtain⟨d,H',J,q⟩:=q;exact⟨d,H',Inv.unre I.ok J,q⟩
  |cont=>obtain⟨d,H',J,q⟩:=q;exact⟨d,H',Inv.unre I.ok J,q⟩
  |ret u=>obtain⟨v,d,H',J,r,q⟩:=q;exact⟨v,d,H',Inv.unre I.ok J,r,q⟩
 .obtain⟨j,H1,s0,J,ea,cls,a0,B,W,rfl,os,bare,un,hok,fly,bk,ba,hE⟩:=q
  obtain⟨C,rfl,hC,b9,hth⟩:=h2 cls W hE;have hfr:=I.ok.frames;rw[D.stk]at hfr;have P:=fly;rw[D.stk]at P;have mk:∀O:Heap,K5 B X.stack ea (.ref C) a0 O->s1.heap.UpToSlots O->Inv X g j W {s1 with heap:=O}:=λ O fl up=>by
   refine J.call' (ch:=[]) os ⟨λ b o e n R _=>fl.1 b o (bk b o e n R),λ b o e n V _=>?_,un.free,λ b o e _=>?_,un.tups,un.frzs,un.tbls⟩ (λ a o e=>(hok a o e).stay (λ b u _ q=>fl.1 b u q) (λ _ z=>z) λ _ _ z=>z) bare (λ b z=>nomatch z)
   .obtain⟨s2,S⟩:=un.slot b o e n V (λ z=>nomatch z)
    obtain⟨_,o3,A,R⟩:=fly.2.2.1.mem V;rw[S]at A;cases A;obtain⟨s4,e4⟩:=up b _ S R;exact⟨s4,e4⟩
   .by_cases V:b∈dt X.stack
    .obtain⟨_,o3,A,R⟩:=fl.2.2.1.mem V
     exact⟨o3,A⟩
    .obtain⟨o',F⟩:=ba b o e V
     exact⟨o',fl.1 b o' F⟩
  refine wpAny_looks_onW hfr D.fr P λ h3 held up3=>?_
  refine wpAny_landsW held λ h4 l up4=>?_
  rw[<-D.stk]at l;have J4:=mk h4 l (up3.trans up4);have K4:Inv (X.ha g ea) [] j W {s1 with heap:=h4}:=J4.re rfl (λ z=>nomatch z);obtain⟨ob4,he4,hc4⟩:=l.there;obtain⟨tl,NN,nm,q,bs,hdct,sn,sub,ab,col,dd,k0,k1,k2,k3,k5,mN,hCo,hNn,hni,T⟩:=(vI (h:=h4) (mg:=λ _=>some (.ref C)) (x:="x") J4.kIn rfl hC).obj;obtain⟨tl',NN',nm',q',bs',hdct',sn',sub',ab',col',dd',k0',k1',k2',k3',k5',mN',hCo',hNn',hni',T'⟩:=(vI (h:=h4) (mg:=λ _=>some (.ref C')) (x:="x") J4.kIn rfl hC').obj;have hmro:(fO C::tl).contains (.ref C')=true:=by
   unfold vJ at b9;split at b9
   .rename_i oc od cd sl ho
    have e:=J4.kIn _ _ ho;have S:(some _:Option Obj)=some _:=e.symm.trans hCo;injection S with S
    have A:=congrArg Obj.data S;injection A with A
    subst A;exact b9
   .cases b9
  refine wpAny_handleBy_cons (codeAny_handlers_test (vt (X:=X.ha g ea) K4 hg hm ?_ hdb)) (by intro q;cases q);refine V8 hCo hCo' he4 hc4 (T'.hasType (X:="BaseException") (b:=true) (by f_are)) hmro ?_;refine codeAny_handlers_suite_as ?_;refine lands_againW l λ h5 U up5=>?_
  have J5:=mk h5 U ((up3.trans up4).trans up5);obtain⟨f1,f2,f3,oe,vs,T5,oT,ts,G,⟨hcl5,h05⟩,Y,_⟩:=id U;have nof:ea∉dt X.stack:=λ z=>by
   obtain⟨_,o3,A,R⟩:=f3.mem z;rw[G]at A;cases A;exact R vs Y
  have inB:∀b o,s0.heap.get? b=some o->b∉dt X.stack->b≠ea:=λ b o e R z=>by
   obtain⟨o',F⟩:=ba b o e R;rw[z,f2]at F;cases F
  have hL:X.env.locals∈dt X.stack:=by
   rw[D.stk];unfold dt;rw[oX,D.fr];exact bW
  have h2n:W ea=none:=by
   cases e:W ea with
   |none=>rfl
   |some o=>
    obtain⟨ob,F⟩:=(hok ea o e).there;rw[f2]at F;cases F
  have J6:Inv X g j (bq W ea (.ext (excφ ea C))) {s1 with heap:=h5}:=by
   refine J5.track h2n ?_ (λ z=>nof (z▸hL)) (λ y c e z=>?_) (λ p hp z=>?_) ⟨⟨oe,G,hcl5⟩,⟨oe,G⟩,excφ_stay⟩
   .cases e:X.z4.heap.get? ea with
    |none=>rfl
    |some o=>
     obtain⟨o',F⟩:=J.base.there ea o e (by rw[D.ex];exact λ z=>nomatch z);exact absurd rfl (inB ea o' F nof)
   .obtain⟨v,o,ho,hd⟩:=J5.cell y c e
    rw[z]at ho;have S:some o=some oe:=ho.symm.trans G;cases S;rw[hd]at Y;cases Y
   .have O:∃o,s0.heap.get? p.1=some o/\p.1≠X.env.locals/\p.1∉X.fs:=by
     rcases cu.mp hp with z|z
     .obtain⟨_,a,b,_,_,c,_⟩:=J.tab p z
      exact⟨_,c,a,b⟩
     .obtain⟨p1,p2,p3,p4,_⟩:=J.pin p z
      exact⟨_,p1,p3,p4⟩
    obtain⟨o,p1,p3,p4⟩:=O;refine inB p.1 o p1 (λ w=>?_) z;rcases bI.mp (J.stkSub p.1 w)with z|z
    .exact p3 z
    .exact p4 z
  have K6:Inv (X.ha g ea) [] j (bq W ea (.ext (excφ ea C))) {s1 with heap:=h5}:=J6.re rfl (λ z=>nomatch z);refine Bp (X:=X.ha g ea) (v:=.ref ea) K6 hN hi (.inl hl) rfl (λ s7 I7=>?_) (.inr hl);refine iq (hs g ea [] s7 _ _ _ I7 (hth j ea J.len h2n)) (λ f s8 q8=>?_) λ _ _ z=>z.elim
  have dA:∀{d:St} {H':ah} {Q:ao->Prop},Inv (X.ha g ea) [] d H' s8->(∀s9,Inv X g (d.set i none) H' s9->Q s9)->
    wpAny (bJ X) X.A (do bindName X.env n .none;unbindBehindTheSuite X.env n N) (λ _ s9=>Q s9) X.xe s8:=λ{d H' Q} K k=>by
   have J8:Inv X g d H' s8:=Inv.unre I.ok K;obtain⟨m,hmm,_⟩:=id J8.loc;refine wpAny_nameGoes_keeps hl hmm (by rw[I.ok.kind];rfl) λ h' v hn hsb=>k _ (Inv.gone J8 hN hi hmm hn hsb)
  cases f with
  |next=>obtain⟨d,H',K,q⟩:=q8;exact dA K λ s9 Z=>⟨_,_,Z,q⟩
  |brk=>obtain⟨d,H',K,q⟩:=q8;exact dA K λ s9 Z=>⟨_,_,Z,q⟩
  |cont=>obtain⟨d,H',K,q⟩:=q8;exact dA K λ s9 Z=>⟨_,_,Z,q⟩
  |ret u=>obtain⟨v,d,H',K,r,q⟩:=q8;exact dA K λ s9 Z=>⟨v,_,_,Z,r,q⟩
end
structure kc(k:Nat)(A:aS):Prop where
 dp:A.depth+3*k+5<AD
 un:A.units+16*k+200<cLine
def ee.h{k:Nat}{A:aS}(r:ee k A):kc k A:=⟨r.dp,r.un⟩
theorem kc.mark{k:Nat}{A:aS}{v:Option Value}(r:kc k A):kc k (A.mark v):=⟨r.dp,r.un⟩
def kc.mono{j k:Nat}{A:aS}(r:kc k A)(h:j<=k):kc j A:=⟨by have:=r.dp;exact LR h this,by have:=r.un;exact LQ h this⟩
theorem kc.deeper{k:Nat}{A:aS}(r:kc (k+1) A)(env:Env):kc k (A.deeper env):=
 ⟨by have:=r.dp;show A.depth+1+3*k+5<_;exact LN this,by have:=r.un;show A.units+3+16*k+200<_;exact LV this⟩
theorem kc.depth{k:Nat}{A:aS}(r:kc k A):A.depth<AD:=by have:=r.dp;exact LZ this
abbrev FD(A:aS):aS:={A with handled:=none}
structure vK(P:aR)(w:World)(K:av)(mg:Str->Option Value)(base:Heap)(k:Nat)(f:Addr)(fd:cB)(ps:List Str)(sp:ka):Prop where
 len:∀vs H Q E,sp vs H Q E->vs.length=ps.length
 run:∀(A:aS) (outer:List Env) (s:ao) (H:ah) (args:Args) (us:List Value) (vs:List V) (Q:br) (E:dC),kc k A->rh P w K mg base A outer s H->vf s fd args (ps.zip us)->Vals vs us->sp vs H Q E->
  ie (model P w) A (.call (.ref f) args) (MF Ft outer P w H s Q E) s
abbrev oh(P:aR)(w:World)(K:av)(mg:Str->Option Value)(base:Heap)(N:List Str)(q:Str)(c:Scope)(f:Addr)(d:Value)(A:aS)(o:List Env)(s:ao)(H:ah):aC:=
 (m9 Ft P w K mg base N q c f d (FD A) o s H λ _ _ _=>False).re (A.deeper (gA q c s.heap.objs.size f d)) false [] λ _ _=>False
section
variable{P:aR}{w:World}{K:av}{mg:Str->Option Value}{base:Heap}
def Fun.okH{x q:Str}{st:Stmt}{f:Addr}{D:cB}{N ps:List Str}{k:Nat}{l:ka}(F:Fun K x q st f D)(S:dk N ps (bg st))(len:∀h H Q E,l h H Q E->h.length=ps.length)
  (i:∀(d:Value) (A:aS) (c:List Env) (s:ao) (H:ah) (h:List V) (Q:br) (E:dC),kc k (A.deeper (gA q (bg st) s.heap.objs.size f d))->l h H Q E->
   ∃t,iu (oh P w K mg base N q (bg st) f d A c s H) (iz st) t/\t {nx:=λ _ H'=>Q .non H',rt:=Q} (start N h) H):vK P w K mg base (k+1) f D ps l:=by
 obtain⟨oc,od,eo,L,pm,an,d,ct,M,rfl,bY,m⟩:=F.ex;refine⟨len,λ A c s H G us h Q E I g O r p=>?_⟩;have X:K.In s.heap:=g.mod.kin.keeps λ b o e=>(g.bs b o e).1
 have n:∀y∈ps.zip us,(bg st).names.lookup y.1=some .local\/((bg st).names.lookup y.1=some .cell/\((lS (s.heap.objs.size+1) (bg st).names []).lookup y.1).isSome=true):=λ y R=>
  (S.par y.1 (uY (a:=y.1) (b:=y.2) R).1).imp id λ z=>⟨z,A5 _ _ _ (.inl z)⟩
 refine DV I.depth (X _ _ bY) rfl S.co S.gen rfl (EC X m) (O _ _ _ _ (DU S.kind n λ env T B x=>?_));cases T;refine⟨(g.mod.nolimit.keeps λ b o e=>(g.bs b o e).1).keeps x.toInCall.keep,D5 ?_⟩;obtain⟨t,U,W⟩:=i d A c s H h Q E (I.deeper _) p;have Y:rh P w K mg base (FD A) c s H:=⟨g.frames,g.mod,g.bs,g.bsz,g.funs,g.frf,g.hok,g.bare⟩;have Z:Inv (m9 Ft P w K mg base N q (bg st) f d (FD A) c s H λ _ _ _=>False) [] (start N h) H B:=Fm S rfl Y (len _ _ _ _ p) r x;have I1:Inv (oh P w K mg base N q (bg st) f d A c s H) [] (start N h) H B:=Z.re rfl (λ z=>nomatch z);refine iq (U [] B (start N h) H _ I1 W) (λ fl s' j=>?_) λ e s' j=>j.elim
 cases fl with
 |ret u=>obtain⟨v,C,H',J,rv,q⟩:=j;exact⟨v,H',J.os,J.bare,J.base,J.hok,rv,q⟩
 |next=>obtain⟨C,H',J,q⟩:=j;exact⟨.non,H',J.os,J.bare,J.base,J.hok,rfl,q⟩
 |brk=>obtain⟨_,_,_,q⟩:=j;exact q.elim
 |cont=>obtain⟨_,_,_,q⟩:=j;exact q.elim
end
section
variable{X:aC}{k:Nat}{f:Addr}{b:cB}{ps:List Str}{a:ka}{d:List V}{ds:List Value}{E:dC}{x:Str}{p o:Pos}{e:Expr}{es:List Expr}{t:fv}
def Wa(F:vK X.prog X.w X.K X.mg X.base k f b ps a)(m:kc k X.A)(n:cN X x)(v:X.mg x=some (.ref f))(w:mX X.K (.ref f)=true)(y:Binds X.K b ps ds)(j:Vals d ds)
  (ha:eE X (e::es) t)(i:Nd x:=by decide)(z:aW (e::es) X.env=(false,eval e X.env)::aW es X.env:=by rfl)(hpl:(gk o (aW es X.env)).any (·.1)=false:=by rfl):
  aY X (.Call (.Name x p) (e::es) [] o) (yr a d E t):=by
 intro A s σ H Q I h;refine qI (vt I n v (EB I.ok.mod.kin w (aZ (ha o A s σ H _ I h) λ us l hz=>?_) z hpl) i);obtain⟨B,C,c,r,q⟩:=hz;refine⟨c.kIn,AK (qJ (F.run X.A X.stack l C _ (us++ds) (B++d) Q E m c.env0 (y l us c.kIn ?_) (r.append j) q) λ D s' g=>?_)⟩
 .rw[<-(r.append j).length];exact F.len _ _ _ _ q
 .cases D with
  |error e=>exact aX g
  |ok G=>
   cases G with
   |ret u=>exact c.after g
   |next=>exact aX g
   |brk=>exact aX g
   |cont=>assumption
end
def tO(wd:Addr->Option Str):ka:=λ v H Q _=>∃ea C w,v=[.ref ea]/\H ea=some (.ext (excφ ea C))/\wd C=some w/\∀H',aE H H'->Q (.str w) H'
def yA(P:aR)(w:World)(K:av)(mg:Str->Option Value)(base:Heap)(k0:Nat)(t:Str)(wd:Addr->Option Str):ka:=λ v H Q _=>∃f l dd sl d k s,v=[.ref f]/\H f=some (.frz ⟨l,dd,.func d,sl⟩ (.own f))/\fS P w K mg base (eh P w) k f d [] s/\k<=k0/\Binds K d [] []/\
 s [] H (λ _ H'=>Q (.str t) H') (λ c _ a=>∃C o,c= .ref C/\wd C=some o/\∀H',aE a H'->Q (.str o) H')
section
variable{X:aC}{E:dC}{g n d few j r l:Str}{m p:Addr}{i:cB}{s k0:Nat}{wd:Addr->Option Str}
def Wb(D:gc X E)(hc:X.calm=true)(N:X.N=[g,n,d])(nd:X.N.Nodup)(l0:X.env.scope.names.lookup g=some .local)(l1:X.env.scope.names.lookup n=some .local)(l2:X.env.scope.names.lookup d=some .local)(hf:∀x,X.fn x=true)
  (hm:X.mg few=some (.ref m))(hg:cN X few)(I:cJ X.K m)(FC:vK X.prog X.w X.K X.mg X.base s p i [r] (tO wd))(J:cN X j)(K:X.mg j=some (.ref p))(L:mX X.K (.ref p)=true)(M:Binds X.K i [r] [])
  (hr:ee k0 X.A)(O:s<=k0)(hw:∀C w,wd C=some w->cJ X.K C/\vJ X.K C m=true){p1 p2 p3 p4 p5 p6 p7 p8 p9 P R S T U W Y:Pos}{j1:Nat}{vs:List V}{H:ah}{Q:br}{vB:dC}(h:yA X.prog X.w X.K X.mg X.base k0 l wd vs H Q vB)
  (d1:Nd few:=by decide)(d2:Nd j:=by decide)(d3:Nd g:=by decide)(d4:Nd n:=by decide)(d5:Nd d:=by decide)
  (d6:(g==("__classdict__":Str))=false:=by decide)(d7:(n==("__classdict__":Str))=false:=by decide)(d8:(d==("__classdict__":Str))=false:=by decide):
  ∃t,iu X [.Assign [.Name n p1] (.Constant (.str l) j1 p2) p3,.Try [.Expr (.Call (.Name g p4) [] [] p5) p6] [.ExceptHandler (some (.Name few p7)) (some d) [.Assign [.Name n p8] (.Call (.Name j p9) [.Name d P] [] R) S] T] [] [] U,.Return (some (.Name n W)) Y] t/\
   t {nx:=λ _ H'=>Q .non H',rt:=Q} (start X.N vs) H:=by
 obtain⟨f,Z,dd,sl,fd,k,sp,rfl,hH,F,hk,hb,A⟩:=h;have i0:X.N[0]? =some g:=by rw[N];rfl
 have i1:X.N[1]? =some n:=by rw[N];rfl
 have bw:X.N[2]? =some d:=by rw[N];rfl
 refine⟨_,n7 (pA nd i1 (.inl l1) jA (hf:=.inl (hf _))) (n7 (V9 (E':=λ c _ y=>∃C u,c= .ref C/\wd C=some u/\∀H',aE y H'->Q (.str u) H') D hc nd bw l2 hm hg I (tb:=vw (Fz X k0 0 λ c _ y=>∃C u,c= .ref C/\wd C=some u/\∀H',aE y H'->Q (.str u) H')) (th:=n9 (yr (tO wd) [] E (i7 (iw 2) j9)) (n8 1))
  (λ B=>tF (ym (VX (X:=X.tr B _) hr aC.tr_pass i0 (.inl l0) d3 d6))) (λ B ea=>tF (pA (X:=X.ha B ea) nd i1 (.inl l1) (Wa (X:=X.ha B ea) FC ((hr.h.mono O).mark) J K L M .nil (dv (jz (X:=X.ha B ea) bw (.inl l2) d5 d8) hD) d2) (hf:=.inl (hf _)))) d1) (tF (yn (jz i1 (.inl l1) d4 d7)))),?_⟩
 have hs:start X.N [.ref f]=[some (.ref f),none,none]:=by rw[N];rfl
 rw[hs];have e:(λ(_:V) y=>Q (.str l) y)=λ(_:V) y=>E6 (iw 1) {nx:=λ _ H'=>Q .non H',rt:=Q} [some (.ref f),some (.str l),none] y:=by
  funext v y;exact propext ⟨λ q=>⟨_,rfl,q⟩,λ⟨v',e',q⟩=>by cases e';exact q⟩
 rw[e]at A;have key:Nj X 2 m (λ c _ y=>∃C u,c= .ref C/\wd C=some u/\∀H',aE y H'->Q (.str u) H') (vw (Fz X k0 0 λ c _ y=>∃C u,c= .ref C/\wd C=some u/\∀H',aE y H'->Q (.str u) H')) (n9 (yr (tO wd) [] E (i7 (iw 2) j9)) (n8 1))
  {nx:=E6 (iw 1) {nx:=λ _ H'=>Q .non H',rt:=Q},rt:=Q} [some (.ref f),some (.str l),none] H:=?_
 .exact key
 refine⟨⟨f,Z,dd,sl,fd,k,sp,rfl,hH,F,hk,hb,A⟩,λ c y ⟨C,u,ec,z,hq⟩=>⟨C,ec,(hw C u z).1,(hw C u z).2,λ G ea hl hn=>?_⟩⟩
 .rw[N]at hl
  obtain⟨a,b,c,rfl⟩:∃a b c,G=[a,b,c]:=by
   match G,hl with
   |[a,b,c],_=>exact⟨a,b,c,rfl⟩
  refine⟨.ref ea,rfl,ea,C,u,rfl,dM,z,λ H' sm=>⟨.str u,rfl,hq H' λ b o e=>sm b o ?_⟩⟩;rw[bR (ir e hn)];exact e
end
def tP(K:av)(c:V):bz:=md (Ni K) (i7 (iw 0) (i7 (m7 c) j9))
def mh(K:av):List V->fv
 |[]=>j9
 |c::cs=>i7 (tP K c) (mh K cs)
def vL:List Str->fv
 |[]=>j9
 |x::xs=>i7 (m7 (.str x)) (vL xs)
def pE(K:av)(C:Addr)(c:V)(b:Bool):Prop:=∃u,RelV c u/\n6 K (.ref C) u=some b
section
variable{K:av}{σ:St}{H:ah}{ea C:Addr}
def FE{c:V}{b:Bool}{Q:br}(s:σ[0]? =some (some (.ref ea)))(a:H ea=some (.ext (excφ ea C)))(k:BJ K C)(h:pE K C c b)(q:Q (.bl b) H):tP K c σ H Q:=by
 obtain⟨u,r,e⟩:=h;exact⟨_,s,ea,C,c,u,b,rfl,r,a,k,e,q⟩
theorem yB(s:σ[0]? =some (some (.ref ea)))(a:H ea=some (.ext (excφ ea C)))(k:BJ K C):∀{cs:List V} {bs:List Bool} {Q:List V->ah->Prop},mR (pE K C) cs bs->Q (bs.map V.bl) H->mh K cs σ H Q
 |_,_,_,.nil,q=>q
 |_,_,_,.cons h r,q=>FE s a k h (yB s a k r q)
theorem FG:∀{l:List Str} {Q:List V->ah->Prop},Q (l.map V.str) H->vL l σ H Q
 |[],_,q=>q
 |x::l,_,q=>FG (l:=l) q
end
structure FH(K:av)(c1 c2:V)(ks:List (List V))(ws:List Str)(C:Addr)(w:Str):Prop where
 k:BJ K C
 q1:pE K C c1 true
 q2:pE K C c2 true
 bs:∃(b1 b2 b3 b4:List Bool) (j:Nat) (k1 k2 k3 k4:List V),ks=[k1,k2,k3,k4]/\mR (pE K C) k1 b1/\mR (pE K C) k2 b2/\mR (pE K C) k3 b3/\mR (pE K C) k4 b4/\(b1++b2++b3++b4).length<=100/\(b1++b2++b3++b4).count true=1/\
  (b1++b2++b3++b4)[j]? =some true/\(∀m,m<j->(b1++b2++b3++b4)[m]? =some false)/\ws[j]? =some w
section
variable{X:aC}{n0 n1 n2 F:Str}{c1 c2:V}{k1 k2 k3 k4:List V}{l1 l2:List Str}{a1 a2:Expr}{K J e1 e2 e3 e4 w1 L:List Expr}{I G:List jt}{Q:br}{H:ah}{M:List V}
 {p1 p2 p3 p4 p5 p6 Z Y W E D C B A z y x w v u t s r q o n m l k j i h g f e d c b a p:Pos}{U T S R P O N:Pos}{j1 j2 j3 j4 j5:Nat}{vB:dC}{wd:Addr->Option Str}
end
end L2
namespace VL
open PySem PySem.Spec PyProof.Rows L2
inductive D where
 |non|bl (b:Bool)|int (i:Int)|str (x:Str)|tup (l:List D)|lst (l:List D)|dct (ks vs:List D)|set (l:List Int)|scr (l:List Int)|fn (x:Str)|itm (o:Option Nat) (l:bK)|itx (o:Option Nat) (l:List (List Int×Int))
instance:Inhabited D:=⟨.non⟩
noncomputable def Wc:iN->D
 | .inl i=>.int i
 | .inr x=>.str x
variable{K:av}
def ni(K:av)(H:ah)(a:Addr)(ns:List Int):Prop:=(∃o,H a=some (.frz o (.lst (ns.map V.int))))\/
 ∃(o:Obj) (i:Array Value) (n:Nat),K.lookup a=some o/\o.cls= .type "list"/\o.dict=none/\o.data= .seq i n/\i.size<=aI/\Vals (ns.map V.int) i.toList
def ni.sq(h:ni K H a ns):bN K H a (ns.map V.int):=by
 rcases h with h|h
 .exact .inl (.inr h)
 .exact .inr h
def rr(H:ah)(a:Addr)(b:Option Nat)(l:bK):Prop:=∃o es ep,o.data= .dict es ep/\(b=none\/b=some ep)/\H a=some (.frz o (.dK (l.map λ p=>(.inl p.1,V.int p.2))))
noncomputable def Fs(ns:List Int):Int:=reduceHash (Sk (ns.map hashInt))
def FI(a:Addr)(es:List (List Int×Addr×V)):HO:=.ext λ h=>es.length<=aI/\(a==AJ)=false/\∃(xs:List (List Int×Addr×Value)) (o:Obj) (t:Array xQ) (ep:Nat),mR (λ e x=>e.1=x.1/\e.2.1=x.2.1/\RelV e.2.2 x.2.2) es xs/\
 h.get? a=some o/\o.ExactDict/\o.data= .dict t ep/\t.toList=xs.map λ x=>⟨Fs x.1,.ref x.2.1,x.2.2⟩
structure ry(K:av)(H:ah)(a:Addr)(es:List (List Int×Addr×V)):Prop where
 at_:H a=some (FI a es)
 ks:∀e∈es,bf K H e.2.1 (e.1.map V.int)
 nd:(es.map (·.1)).Nodup
def rA(K:av)(H:ah)(a:Addr)(b:Option Nat)(l:List (List Int×Int)):Prop:=∃o t ep es,o.data= .dict t ep/\(b=none\/b=some ep)/\(es.map λ e=>(e.1,e.2.2))=(l.map λ p=>(p.1,V.int p.2))/\(es.map (·.1)).Nodup/\(∀e∈es,bf K H e.2.1 (e.1.map V.int))/\H a=some (.frz o (FI a es))
mutual
inductive aw(K:av):(Addr->Prop)->ah->V->D->Prop where
 |non {A:Addr->Prop} {H:ah}:aw K A H .non .non
 |bl {A:Addr->Prop} {H:ah} (b:Bool):aw K A H (.bl b) (.bl b)
 |int {A:Addr->Prop} {H:ah} (i:Int):aw K A H (.int i) (.int i)
 |str {A:Addr->Prop} {H:ah} (x:Str):aw K A H (.str x) (.str x)
 |tup {A:Addr->Prop} {H:ah} {a:Addr} {xs:List V} {ds:List D} (h:bf K H a xs) (r:az K A H xs ds):aw K A H (.ref a) (.tup ds)
 |lst {A:Addr->Prop} {H:ah} {a:Addr} {xs:List V} {ds:List D} (h:H a=some (.lst xs)) (m:A a) (r:az K (λ p=>A p/\p≠a) H xs ds):aw K A H (.ref a) (.lst ds)
 |dK {A:Addr->Prop} {H:ah} {a:Addr} {kvs:List (iN×V)} {ds:List D} (h:H a=some (.dK kvs)) (m:A a) (r:az K (λ p=>A p/\p≠a) H (kvs.map (·.2)) ds):aw K A H (.ref a) (.dct (kvs.map λ p=>Wc p.1) ds)
 |dT {A:Addr->Prop} {H:ah} {a:Addr} {es:List (List Int×Addr×V)} {ds:List D} (h:ry K H a es) (m:A a) (r:az K (λ p=>A p/\p≠a) H (es.map (·.2.2)) ds):aw K A H (.ref a) (.dct (.non::es.map λ e=>.tup (e.1.map .int)) ds)
 |set {A:Addr->Prop} {H:ah} {a:Addr} {S:Int->Bool} {l:List Int} (h:H a=some (.set S l.length)) (m:A a) (hS:∀i,S i=decide (i∈l)) (nd:l.Nodup):aw K A H (.ref a) (.set l)
 |scr {A:Addr->Prop} {H:ah} {a:Addr} {ns:List Int} (h:ni K H a ns):aw K A H (.ref a) (.scr ns)
 |fn {A:Addr->Prop} {H:ah} {a:Addr} {x:Str} (h:dF K cz x=some (some (.ref a))):aw K A H (.ref a) (.fn x)
 |itm {A:Addr->Prop} {H:ah} {a:Addr} {oo:Option Nat} {l:bK} (h:rr H a oo l):aw K A H (.ref a) (.itm oo l)
 |itx {A:Addr->Prop} {H:ah} {a:Addr} {oo:Option Nat} {l:List (List Int×Int)} (h:rA K H a oo l):aw K A H (.ref a) (.itx oo l)
inductive az(K:av):(Addr->Prop)->ah->List V->List D->Prop where
 |nil {A:Addr->Prop} {H:ah}:az K A H [] []
 |cons {A:Addr->Prop} {H:ah} {x:V} {d:D} {xs:List V} {ds:List D} (h:aw K A H x d) (r:az K A H xs ds):az K A H (x::xs) (d::ds)
end
def ni.mono(s:aE H H')(h:ni K H a ns):ni K H' a ns:=by
 rcases h with ⟨o,h⟩|h
 .exact .inl ⟨o,s _ _ h⟩
 .exact .inr h
def rr.mono(h:rr H a oo l)(s:aE H H'):rr H' a oo l:=let⟨o,es,ep,y,z,e⟩:=h;⟨o,es,ep,y,z,s _ _ e⟩
def rA.mono(h:rA K H a oo l)(s:aE H H'):rA K H' a oo l:=let⟨o,ts,ep,es,y,z,q,n,k,e⟩:=h;⟨o,ts,ep,es,y,z,q,n,λ e b=>s.sqt (k e b),s _ _ e⟩
def ry.mono(h:ry K H a es)(s:aE H H'):ry K H' a es:=⟨s _ _ h.at_,λ e b=>s.sqt (h.ks e b),h.nd⟩
def aw.mono'(s:aE H H')(r:aw K A H x d)(a:∀p o,H p=some o->A p->A' p):aw K A' H' x d:=
 aw.rec (motive_2:=λ A H xs ds _=>∀H',aE H H'->∀A',(∀p o,H p=some o->A p->A' p)->az K A' H' xs ds)
  (λ _ _ _ _=>.non) (λ b _ _ _ _=>.bl b) (λ i _ _ _ _=>.int i) (λ x _ _ _ _=>.str x) (λ h _ c _ s _ a=>.tup (s.sqt h) (c _ s _ a))
  (λ h m _ c _ s _ a=>.lst (s _ _ h) (a _ _ h m) (c _ s _ λ p o e z=>⟨a p o e z.1,z.2⟩)) (λ h m _ c _ s _ a=>.dK (s _ _ h) (a _ _ h m) (c _ s _ λ p o e z=>⟨a p o e z.1,z.2⟩))
  (λ h m _ c _ s _ a=>.dT (h.mono s) (a _ _ h.at_ m) (c _ s _ λ p o e z=>⟨a p o e z.1,z.2⟩)) (λ h m S nd _ s _ a=>.set (s _ _ h) (a _ _ h m) S nd) (λ h _ s _ _=>.scr (h.mono s)) (λ h _ _ _ _=>.fn h) (λ h _ s _ _=>.itm (h.mono s)) (λ h _ s _ _=>.itx (h.mono s)) (λ _ _ _ _=>.nil) (λ _ _ c f _ s _ a=>.cons (c _ s _ a) (f _ s _ a)) r H' s A' a
def az.mono'(s:aE H H')(r:az K A H xs ds)(a:∀p o,H p=some o->A p->A' p):az K A' H' xs ds:=
 az.rec (motive_1:=λ A H x d _=>∀H',aE H H'->∀A',(∀p o,H p=some o->A p->A' p)->aw K A' H' x d)
  (λ _ _ _ _=>.non) (λ b _ _ _ _=>.bl b) (λ i _ _ _ _=>.int i) (λ x _ _ _ _=>.str x) (λ h _ c _ s _ a=>.tup (s.sqt h) (c _ s _ a))
  (λ h m _ c _ s _ a=>.lst (s _ _ h) (a _ _ h m) (c _ s _ λ p o e z=>⟨a p o e z.1,z.2⟩)) (λ h m _ c _ s _ a=>.dK (s _ _ h) (a _ _ h m) (c _ s _ λ p o e z=>⟨a p o e z.1,z.2⟩))
  (λ h m _ c _ s _ a=>.dT (h.mono s) (a _ _ h.at_ m) (c _ s _ λ p o e z=>⟨a p o e z.1,z.2⟩)) (λ h m S nd _ s _ a=>.set (s _ _ h) (a _ _ h m) S nd) (λ h _ s _ _=>.scr (h.mono s)) (λ h _ _ _ _=>.fn h) (λ h _ s _ _=>.itm (h.mono s)) (λ h _ s _ _=>.itx (h.mono s)) (λ _ _ _ _=>.nil) (λ _ _ c f _ s _ a=>.cons (c _ s _ a) (f _ s _ a)) r H' s A' a
def aw.mono(s:aE H H')(h:∀p o,H p=some o->A p->A' p)(r:aw K A H x d):aw K A' H' x d:=r.mono' s h
def az.mono(s:aE H H')(h:∀p o,H p=some o->A p->A' p)(r:az K A H x d):az K A' H' x d:=r.mono' s h
def aw.up(s:aE H H')(r:aw K A H x d):aw K A H' x d:=r.mono s λ _ _ _ h=>h
def aw.wk(h:∀p o,H p=some o->A p->A' p)(r:aw K A H x d):aw K A' H x d:=r.mono (aE.refl H) h
def az.up(s:aE H H')(r:az K A H x d):az K A H' x d:=r.mono s λ _ _ _ h=>h
def az.wk(h:∀p o,H p=some o->A p->A' p)(r:az K A H x d):az K A' H x d:=r.mono (aE.refl H) h
noncomputable def ky:HO->Bool
 | .lst _=>true| .dK _=>true| .dT _=>true| .set _ _=>true| .ext _=>true|_=>false
def BK(s:ij l H H')(b:H l=some o)(c:ky o=true)(h:bf K H a xs):bf K H' a xs:=by
 rcases h with (h|⟨u,h⟩)|h
 .refine .inl (.inl (s _ _ (λ e=>?_) h))
  subst e;rw[b]at h;cases h;cases c
 .refine .inl (.inr ⟨u,s _ _ (λ e=>?_) h⟩)
  subst e;rw[b]at h;cases h;cases c
 .exact .inr h
def Nk(s:ij l H H')(b:H l=some o)(c:ky o=true)(h:ni K H a ns):ni K H' a ns:=by
 rcases h with ⟨u,h⟩|h
 .exact .inl ⟨u,s _ _ (λ e=>by subst e;rw[b]at h;cases h;cases c) h⟩
 .exact .inr h
def rr.but(h:rr H a oo q)(s:ij l H H')(b:H l=some o)(c:ky o=true):rr H' a oo q:=let⟨u,es,ep,y,z,e⟩:=h;⟨u,es,ep,y,z,s _ _ (λ z=>by subst z;rw[b]at e;cases e;cases c) e⟩
def rA.but(h:rA K H a oo q)(s:ij l H H')(b:H l=some o)(c:ky o=true):rA K H' a oo q:=let⟨u,ts,ep,es,y,z,q,n,k,e⟩:=h;⟨u,ts,ep,es,y,z,q,n,λ e d=>BK s b c (k e d),s _ _ (λ z=>by subst z;rw[b]at e;cases e;cases c) e⟩
def ry.but(h:ry K H a es)(s:ij l H H')(b:H l=some o)(c:ky o=true)(n:a≠l):ry K H' a es:=
 ⟨s _ _ n h.at_,λ e d=>BK s b c (h.ks e d),h.nd⟩
def aw.but'(s:ij l H H')(a:H l=some o)(c:ky o=true)(r:aw K A H x d)(f:¬A l):aw K A H' x d:=
 aw.rec (motive_2:=λ A H xs ds _=>∀H',ij l H H'->∀o,H l=some o->ky o=true->¬A l->az K A H' xs ds)
  (λ _ _ _ _ _ _=>.non) (λ b _ _ _ _ _ _=>.bl b) (λ i _ _ _ _ _ _=>.int i) (λ x _ _ _ _ _ _=>.str x) (λ h _ g _ s o a c f=>.tup (BK s a c h) (g _ s o a c f))
  (λ h m _ g _ s o a c f=>.lst (s _ _ (λ e=>f (e▸m)) h) m (g _ s o a c λ z=>f z.1)) (λ h m _ g _ s o a c f=>.dK (s _ _ (λ e=>f (e▸m)) h) m (g _ s o a c λ z=>f z.1))
  (λ h m _ g _ s o a c f=>.dT (h.but s a c λ e=>f (e▸m)) m (g _ s o a c λ z=>f z.1)) (λ h m S nd _ s o a c f=>.set (s _ _ (λ e=>f (e▸m)) h) m S nd) (λ h _ s o a c _=>.scr (Nk s a c h)) (λ h _ _ _ _ _ _=>.fn h) (λ h _ s o a c _=>.itm (h.but s a c)) (λ h _ s o a c _=>.itx (h.but s a c)) (λ _ _ _ _ _ _=>.nil) (λ _ _ g j _ s o a c f=>.cons (g _ s o a c f) (j _ s o a c f)) r H' s o a c f
def az.but'(s:ij l H H')(a:H l=some o)(c:ky o=true)(r:az K A H xs ds)(f:¬A l):az K A H' xs ds:=
 az.rec (motive_1:=λ A H x d _=>∀H',ij l H H'->∀o,H l=some o->ky o=true->¬A l->aw K A H' x d)
  (λ _ _ _ _ _ _=>.non) (λ b _ _ _ _ _ _=>.bl b) (λ i _ _ _ _ _ _=>.int i) (λ x _ _ _ _ _ _=>.str x) (λ h _ g _ s o a c f=>.tup (BK s a c h) (g _ s o a c f))
  (λ h m _ g _ s o a c f=>.lst (s _ _ (λ e=>f (e▸m)) h) m (g _ s o a c λ z=>f z.1)) (λ h m _ g _ s o a c f=>.dK (s _ _ (λ e=>f (e▸m)) h) m (g _ s o a c λ z=>f z.1))
  (λ h m _ g _ s o a c f=>.dT (h.but s a c λ e=>f (e▸m)) m (g _ s o a c λ z=>f z.1)) (λ h m S nd _ s o a c f=>.set (s _ _ (λ e=>f (e▸m)) h) m S nd) (λ h _ s o a c _=>.scr (Nk s a c h)) (λ h _ _ _ _ _ _=>.fn h) (λ h _ s o a c _=>.itm (h.but s a c)) (λ h _ s o a c _=>.itx (h.but s a c)) (λ _ _ _ _ _ _=>.nil) (λ _ _ g j _ s o a c f=>.cons (g _ s o a c f) (j _ s o a c f)) r H' s o a c f
def aw.but(s:ij l H H')(h:H l=some o)(a:ky o=true)(b:¬A l)(r:aw K A H x d):aw K A H' x d:=r.but' s h a b
def az.but(s:ij l H H')(h:H l=some o)(a:ky o=true)(b:¬A l)(r:az K A H x d):az K A H' x d:=r.but' s h a b
mutual
def imm:D->Bool
 | .tup l=>er l
 | .lst _=>false
 | .dct _ _=>false
 | .set _=>false
 |_=>true
def er:List D->Bool
 |[]=>true
 |d::r=>imm d&&er r
end
def BL(e:er (d::r)=true):imm d=true/\er r=true:=by
 simp only[er,cF]at e;assumption
def Nl(e:imm (.tup l)=true):er l=true:=by assumption
def Nm(e:imm (.lst l)=true):False:=by simp[imm]at e
def BM(e:imm (.dct l k)=true):False:=by simp[imm]at e
def Nn(e:imm (.set l)=true):False:=by simp[imm]at e
def aw.imm'(r:aw K A H x d)(e:VL.imm d=true):aw K A' H x d:=
 aw.rec (motive_2:=λ _ H xs ds _=>er ds=true->az K A' H xs ds)
  (λ _=>.non) (λ b _=>.bl b) (λ i _=>.int i) (λ x _=>.str x) (λ h _ a e=>.tup h (a (Nl e)))
  (λ _ _ _ _ e=>(Nm e).elim) (λ _ _ _ _ e=>(BM e).elim) (λ _ _ _ _ e=>(BM e).elim) (λ _ _ _ _ e=>(Nn e).elim) (λ h _=>.scr h) (λ h _=>.fn h) (λ h _=>.itm h) (λ h _=>.itx h) (λ _=>.nil) (λ _ _ a c e=>.cons (a (BL e).1) (c (BL e).2)) r e
def az.imm'(r:az K A H xs ds)(e:er ds=true):az K A' H xs ds:=
 az.rec (motive_1:=λ _ H x d _=>VL.imm d=true->aw K A' H x d)
  (λ _=>.non) (λ b _=>.bl b) (λ i _=>.int i) (λ x _=>.str x) (λ h _ a e=>.tup h (a (Nl e)))
  (λ _ _ _ _ e=>(Nm e).elim) (λ _ _ _ _ e=>(BM e).elim) (λ _ _ _ _ e=>(BM e).elim) (λ _ _ _ _ e=>(Nn e).elim) (λ h _=>.scr h) (λ h _=>.fn h) (λ h _=>.itm h) (λ h _=>.itx h) (λ _=>.nil) (λ _ _ a c e=>.cons (a (BL e).1) (c (BL e).2)) r e
theorem aw.imm(r:aw K A H x d)(h:VL.imm d=true):aw K A' H x d:=r.imm' h
def az.imm(r:az K A H x d)(h:er d=true):az K A' H x d:=r.imm' h
def aw.int_inv(r:aw K A H v (.int i)):v= .int i:=by cases r;rfl
def aw.bl_inv(r:aw K A H v (.bl b)):v= .bl b:=by cases r;rfl
def aw.tup_inv(r:aw K A H v (.tup ds)):∃a xs,v= .ref a/\bf K H a xs/\az K A H xs ds:=by cases r with|tup h r=>exact⟨_,_,rfl,h,r⟩
def aw.lst_inv(r:aw K A H v (.lst ds)):∃a xs,v= .ref a/\H a=some (.lst xs)/\A a/\az K (λ p=>A p/\p≠a) H xs ds:=by cases r with|lst h m r=>exact⟨_,_,rfl,h,m,r⟩
def aw.scr_inv(r:aw K A H v (.scr ns)):∃a,v= .ref a/\ni K H a ns:=by cases r with|scr h=>exact⟨_,rfl,h⟩
def az.one_inv(r:az K A H vs [d]):∃v,vs=[v]/\aw K A H v d:=by cases r with|cons h r=>cases r;exact⟨_,rfl,h⟩
section
variable{A:Addr->Prop}{H:ah}
theorem az.length:∀{xs:List V} {ds:List D},az K A H xs ds->xs.length=ds.length:=by
 intro xs ds h;induction xs generalizing ds with
 |nil=>cases h;rfl
 |cons x xs i=>cases h with|cons _ r=>exact congrArg _ (i r)
theorem az.get:∀{xs:List V} {ds:List D} {i:Nat} {x:V},az K A H xs ds->xs[i]? =some x->∃d,ds[i]? =some d/\aw K A H x d
 |_,_,_,_,.nil,e=>by contradiction
 |_,_,0,_,.cons h _,e=>by simp at e;subst e;exact⟨_,rfl,h⟩
 |_,_,i+1,x,.cons _ r,e=>by
  obtain⟨d,b,a⟩:=az.get r (by assumption);exact⟨d,by assumption,a⟩
theorem az.getD:∀{xs:List V} {ds:List D} {i:Nat} {d:D},az K A H xs ds->ds[i]? =some d->∃x,xs[i]? =some x/\aw K A H x d
 |_,_,_,_,.nil,e=>by contradiction
 |_,_,0,_,.cons h _,e=>by simp at e;subst e;exact⟨_,rfl,h⟩
 |_,_,i+1,d,.cons _ r,e=>by
  obtain⟨x,b,a⟩:=az.getD r (by assumption);exact⟨x,by assumption,a⟩
def az.append:∀{xs y:List V} {ds es:List D},az K A H xs ds->az K A H y es->az K A H (xs++y) (ds++es):=by
 intro xs y ds es h s;induction xs generalizing ds with
 |nil=>cases h;assumption
 |cons x xs i=>cases h with|cons h r=>exact .cons h (i r)
theorem az.take:∀{xs:List V} {ds:List D} (n:Nat),az K A H xs ds->az K A H (xs.take n) (ds.take n)
 |_,_,0,_=>.nil
 |_,_,_+1,.nil=>.nil
 |_,_,n+1,.cons h r=>.cons h (az.take n r)
theorem az.drop:∀{xs:List V} {ds:List D} (n:Nat),az K A H xs ds->az K A H (xs.drop n) (ds.drop n)
 |_,_,0,r=>r
 |_,_,_+1,.nil=>.nil
 |_,_,n+1,.cons _ r=>az.drop n r
theorem az.reverse:∀{xs:List V} {ds:List D},az K A H xs ds->az K A H xs.reverse ds.reverse:=by
 intro xs ds h;induction xs generalizing ds with
 |nil=>cases h;exact .nil
 |cons x xs i=>
  cases h with
  |cons h r=>
   rw[xt,xt];exact az.append (i r) (.cons h .nil)
theorem az.set(h:aw K A H x d):∀{xs:List V} {ds:List D} (n:Nat),az K A H xs ds->az K A H (xs.set n x) (ds.set n d)
 |_,_,_,.nil=>.nil
 |_,_,0,.cons _ r=>.cons h r
 |_,_,n+1,.cons k r=>.cons k (az.set h n r)
theorem az.ints:∀{ns:List Int},az K A H (ns.map V.int) (ns.map D.int)
 |[]=>.nil
 |n::ns=>.cons (.int n) az.ints
theorem az.ints_of:∀{xs:List V} {ns:List Int},az K A H xs (ns.map D.int)->xs=ns.map V.int
 |_,[],.nil=>rfl
 |_,n::ns,.cons h r=>by
  cases h;rw[dH,az.ints_of r]
end
def bp(h:a=b):a=b:=h
inductive ag(α:Type) where
 |ok (a:α)|ex (c:Str)|st
noncomputable def ag.bd{α β:Type}:ag α->(α->ag β)->ag β
 | .ok a,f=>f a
 | .ex c,_=>.ex c
 | .st,_=>.st
@[simp] def aU(a:α)(f:α->ag β):(ag.ok a).bd f=f a:=bp rfl
@[simp] def bd_ex(c:Str)(f:α->ag β):(ag.ex c:ag α).bd f= .ex c:=bp rfl
@[simp] def bd_st(f:α->ag β):(ag.st:ag α).bd f= .st:=bp rfl
def oi{r:ag α}(h:r.bd f= .ok b):∃a,r= .ok a/\f a= .ok b:=by
 cases r<;>simp_all
inductive Slot where
 |no|sh (d:D)|nw (d:D)|ow (d:D)|oz (d:D)|o2 (l:List (List D))
abbrev af:=List Slot
abbrev kz:=Addr->Nat×Nat
abbrev Mode:=Option (List Nat)
def pH(m:Mode)(n:Nat):Prop:=match m with
 |none=>True
 |some L=>n∈L
noncomputable def nj:Mode->Mode->Mode
 |some a,some b=>some (a++b)
 |_,_=>none
def Wd(h:pH a n):pH (nj a b) n:=by
 cases a with
 |none=>assumption
 |some L=>
  cases b with
  |none=>exact trivial
  |some M=>exact fQ _ h
def We(h:pH b n):pH (nj a b) n:=by
 cases a with
 |none=>cases b<;>exact trivial
 |some L=>
  cases b with
  |none=>assumption
  |some M=>exact gz _ h
def lk(m:Mode)(lab:kz)(H:ah):Addr->Prop:=λ p=>H p=none\/pH m (lab p).1
def Np(h:lk a lab H p):lk (nj a b) lab H p:=h.imp id Wd
def Nq(h:lk b lab H p):lk (nj a b) lab H p:=h.imp id We
def FJ(s:aE H H')(h:lk m lab H' p):lk m lab H p:=h.imp (λ z=>s.free z) id
structure fw where
 H0:ah
 E:dC
 cl:Str->Addr
abbrev oj(G:fw):fw:={G with E:=λ _ _ _=>False}
noncomputable def vM:D->Bool
 | .lst _=>true
 | .dct _ _=>true
 | .set _=>true
 |_=>false
def i8(K:av)(H:ah)(lab:kz)(i:Nat)(v:V):Slot->Prop
 | .no=>True
 | .sh d=>aw K (λ p=>(lab p).1<=1) H v d
 | .nw d=>aw K (λ p=>(lab p).1=1) H v d
 | .ow d=>aw K (λ p=>(lab p).1=1\/(lab p).1=i+2) H v d/\(vM d=true->∃a,v= .ref a/\(lab a).1=i+2)
 | .oz d=>∃a xs ds,v= .ref a/\d= .lst ds/\H a=some (.lst xs)/\(lab a).1=i+2/\az K (λ p=>(lab p).1<=1) H xs ds
 | .o2 l=>∃a xs,v= .ref a/\H a=some (.lst xs)/\lab a=(i+2,0)/\xs.length=l.length/\∀(j:Nat) x ds,xs[j]? =some x->l[j]? =some ds->aw K (λ p=>lab p=(i+2,j+1)) H x (.lst ds)
structure RR(K:av)(G:fw)(τ:List (V×D))(ρ:af)(σ:L2.St)(H:ah)(lab:kz):Prop where
 len:σ.length=ρ.length
 sl:∀(i:Nat) (s:Slot),ρ[i]? =some s->s= .no\/∃v,σ[i]? =some (some v)/\i8 K H lab i v s
 old:aE G.H0 H
 new:∀p,(lab p).1≠0->G.H0 p=none
 tm:∀q∈τ,aw K (λ p=>(lab p).1<=1) H q.1 q.2
theorem i8.up(s:aE H H')(h:i8 K H lab i v x):i8 K H' lab i v x:=by
 cases x with
 |no=>assumption
 |sh d=>exact aw.up s h
 |nw d=>exact aw.up s h
 |ow d=>exact⟨aw.up s h.1,h.2⟩
 |oz d=>
  obtain⟨a,xs,ds,e,b,c,f,g⟩:=h;exact⟨a,xs,ds,e,b,s _ _ c,f,g.up s⟩
 |o2 l=>
  obtain⟨a,xs,e,b,c,f,g⟩:=h;exact⟨a,xs,e,s _ _ b,c,f,λ j x ds k m=>(g j x ds k m).up s⟩
def Nr(r:aw K A H (.ref a) d)(b:vM d=true):∃o,H a=some o/\ky o=true/\A a:=by
 cases r with
 |lst h m _=>exact⟨_,h,rfl,m⟩
 |dK h m _=>exact⟨_,h,rfl,m⟩
 |dT h m _=>exact⟨_,h.at_,rfl,m⟩
 |set h m _ _=>exact⟨_,h,rfl,m⟩
 |tup _ _=>cases b
 |scr _=>cases b
 |fn _=>cases b
 |itm _=>cases b
 |itx _=>cases b
def Wf(r:aw K A H v d)(b:vM d=true):∃a,v= .ref a:=by
 cases r with
 |lst h m _=>exact⟨_,rfl⟩
 |dK h m _=>exact⟨_,rfl⟩
 |dT h m _=>exact⟨_,rfl⟩
 |set h m _ _=>exact⟨_,rfl⟩
 |_=>cases b
theorem i8.lab{lab b:kz}(c:∀p o,H p=some o->b p=lab p)(h:i8 K H lab i v x):i8 K H b i v x:=by
 cases x with
 |no=>assumption
 |sh d=>exact aw.wk (λ p o e q=>(c p o e).symm▸q) h
 |nw d=>exact aw.wk (λ p o e q=>(c p o e).symm▸q) h
 |ow d=>
  obtain⟨h,t⟩:=h;refine⟨aw.wk (λ p o e q=>(c p o e).symm▸q) h,λ m=>?_⟩;obtain⟨a,rfl,ea⟩:=t m;obtain⟨o,s,_⟩:=Nr h m;exact⟨a,rfl,(congrArg _ (c a o s)).trans ea⟩
 |oz d=>
  obtain⟨a,xs,ds,k,f,g,n,r⟩:=h;exact⟨a,xs,ds,k,f,g,(congrArg _ (c _ _ g)).trans n,az.wk (λ p o e q=>(c p o e).symm▸q) r⟩
 |o2 l=>
  obtain⟨a,xs,k,f,g,n,r⟩:=h;exact⟨a,xs,k,f,(c _ _ f).trans g,n,λ j x ds u w=>aw.wk (λ p o e q=>(c p o e).symm▸q) (r j x ds u w)⟩
section
variable{G:fw}{τ:List (V×D)}{ρ:af}{σ:L2.St}{H H':ah}{lab l:kz}
theorem RR.up(R:RR K G τ ρ σ H lab)(s:aE H H'):RR K G τ ρ σ H' lab:=
 ⟨R.len,λ i x e=>(R.sl i x e).imp id λ⟨v,a,b⟩=>⟨v,a,b.up s⟩,R.old.trans s,R.new,λ q h=>(R.tm q h).up s⟩
def RR.relab(R:RR K G τ ρ σ H lab)(h:∀p o,H p=some o->l p=lab p)(n:∀p,(l p).1≠0->G.H0 p=none):RR K G τ ρ σ H l:=
 ⟨R.len,λ i x e=>(R.sl i x e).imp id λ⟨v,a,b⟩=>⟨v,a,b.lab h⟩,R.old,n,λ q c=>aw.wk (λ p o e z=>by rw[h p o e];simp_all) (R.tm q c)⟩
def RR.drop(R:RR K G (τ'++τ) ρ σ H lab):RR K G τ ρ σ H lab:=⟨R.len,R.sl,R.old,R.new,λ z hz=>R.tm z (gz _ hz)⟩
def RR.put(R:RR K G τ ρ σ H lab)(h:i8 K H lab i v s):RR K G τ (ρ.set i s) (σ.set i (some v)) H lab:=by
 refine⟨by rw[nN,nN,R.len],λ j x e=>?_,R.old,R.new,R.tm⟩;by_cases a:i=j
 .subst a
  have b:i<ρ.length:=by
   have:=(eW.mp e).1
   simp_all
  rw[uS b]at e;cases e;exact .inr ⟨v,by rw[uS (by rw[R.len];assumption)],h⟩
 .rw[qw a]at e
  rcases R.sl j x e with z|⟨u,d,c⟩
  .exact .inl z
  .exact .inr ⟨u,by rw[qw a];assumption,c⟩
noncomputable def gD(H:ah)(n:Nat)(lab:kz):kz:=λ p=>match H p with
 |none=>(n,0)
 |some _=>lab p
def iO(h:H p=some o):gD H n lab p=lab p:=by unfold gD;rw[h]
def Nt(h:H p=none):gD H n lab p=(n,0):=by unfold gD;rw[h]
def RR.fresh{P:Nat->Prop}(a:P 1)(b:∀k,pH m k->P k)(R:RR K G τ ρ σ H lab)(s:aE H H')(r:aw K (lk m lab H) H' v d):
  RR K G τ ρ σ H' (gD H 1 lab)/\aw K (λ p=>P (gD H 1 lab p).1) H' v d:=by
 refine⟨(R.relab (λ p o e=>iO e) λ p h=>?_).up s,aw.wk (λ p o e z=>?_) r⟩
 .cases e:H p with
  |none=>exact R.old.free e
  |some o=>rw[iO e]at h;exact R.new p h
 .rcases z with z|z
  .rw[Nt z];assumption
  .cases e:H p with
   |none=>rw[Nt e];assumption
   |some o=>rw[iO e];simp_all
def RR.freshO(i:Nat)(g:∀k,pH m k->k=1\/k=i+2)(R:RR K G τ ρ σ H lab)(s:aE H H')(r:aw K (lk m lab H) H' v d)(t:vM d=true->∃a,v= .ref a/\H a=none):
  ∃l,RR K G τ ρ σ H' l/\i8 K H' l i v (.ow d):=by
 obtain⟨b,c⟩:=R.fresh (.inl rfl) g s r;cases h:vM d with
 |false=>exact⟨_,b,c,λ z=>absurd z (by simp[h])⟩
 |true=>
  obtain⟨a,rfl,ha⟩:=t h;refine⟨λ p=>if p=a then(i+2,0)else gD H 1 lab p,?_,aw.wk (λ p o e z=>?_) c,λ _=>⟨a,rfl,by simp⟩⟩
  .refine(R.relab (λ p o e=>?_) λ p f=>?_).up s
   .rw[if_neg (λ z=>by lia),iO e]
   .by_cases z:p=a
    .subst z;exact R.old.free ha
    .rw[if_neg z]at f;exact b.new p f
  .cb_eq
   by_cases q:p=a
   .rw[if_pos q];exact .inr rfl
   .rw[if_neg q];exact z
def RR.freshZ(i:Nat)(c:∀k,pH m k->k<=1)(R:RR K G τ ρ σ H lab)(s:aE H H')(r:aw K (lk m lab H) H' v (.lst ds))(t:∃a,v= .ref a/\H a=none):
  ∃l,RR K G τ ρ σ H' l/\i8 K H' l i v (.oz (.lst ds)):=by
 obtain⟨d,f⟩:=R.fresh (P:=λ k=>k<=1) (bc 1) c s r;obtain⟨a,rfl,ha⟩:=t;cases f with
 |lst h mm g=>
  rename_i xs;refine⟨λ p=>if p=a then(i+2,0)else gD H 1 lab p,?_,a,xs,ds,rfl,rfl,h,by lia,g.wk λ p o e z=>?_⟩
  .refine(R.relab (λ p o e=>?_) λ p b=>?_).up s
   .rw[if_neg (λ z=>by lia),iO e]
   .by_cases z:p=a
    .subst z;exact R.old.free ha
    .rw[if_neg z]at b;exact d.new p b
  simp_all
def Nu(h:i8 K H lab i v (.oz d)):aw K (λ p=>(lab p).1<=1\/(lab p).1=i+2) H v d:=by
 obtain⟨a,xs,ds,rfl,rfl,b,c,f⟩:=h;exact .lst b (.inr c) (f.wk λ p o e z=>⟨.inl z,λ q=>by simp_all⟩)
end
def aw.cs{K:av}{A:Addr->Prop}{H:ah}{o:(v:V)->(d:D)->aw K A H v d->Prop}
  (non:o .non .non .non)(bl:∀b,o (.bl b) (.bl b) (.bl b))(int:∀i,o (.int i) (.int i) (.int i))(str:∀x,o (.str x) (.str x) (.str x))
  (tup:∀{a xs ds} (h:bf K H a xs) (r:az K A H xs ds),o (.ref a) (.tup ds) (.tup h r))
  (lst:∀{a xs ds} (h:H a=some (.lst xs)) (m:A a) (r:az K (λ p=>A p/\p≠a) H xs ds),o (.ref a) (.lst ds) (.lst h m r))
  (dK:∀{a k ds} (h:H a=some (.dK k)) (m:A a) (r:az K (λ p=>A p/\p≠a) H (k.map (·.2)) ds),o (.ref a) _ (.dK h m r))
  (dT:∀{a es ds} (h:ry K H a es) (m:A a) (r:az K (λ p=>A p/\p≠a) H (es.map (·.2.2)) ds),o (.ref a) _ (.dT h m r))
  (set:∀{a S l} (h:H a=some (.set S l.length)) (m:A a) (e:∀i,S i=decide (i∈l)) (nd:l.Nodup),o (.ref a) (.set l) (.set h m e nd))
  (scr:∀{a ns} (h:ni K H a ns),o (.ref a) (.scr ns) (.scr h))
  (fn:∀{a x} (h:dF K cz x=some (some (.ref a))),o (.ref a) (.fn x) (.fn h))
  (itm:∀{a c l} (h:rr H a c l),o (.ref a) (.itm c l) (.itm h))
  (itx:∀{a c l} (h:rA K H a c l),o (.ref a) (.itx c l) (.itx h)){v:V}{d:D}(r:aw K A H v d):o v d r:=by
 cases r with
 |non=>exact non
 |bl b=>exact bl b
 |int i=>exact int i
 |str x=>exact str x
 |tup h r=>exact tup h r
 |lst h m r=>exact lst h m r
 |dK h m r=>exact dK h m r
 |dT h m r=>exact dT h m r
 |set h m e nd=>exact set h m e nd
 |scr h=>exact scr h
 |fn h=>exact fn h
 |itm h=>exact itm h
 |itx h=>exact itx h
def az.cs{K:av}{A:Addr->Prop}{H:ah}{m:(xs:List V)->(ds:List D)->az K A H xs ds->Prop}(nil:m [] [] .nil)
  (cons:∀{x d xs ds} (h:aw K A H x d) (r:az K A H xs ds),m (x::xs) (d::ds) (.cons h r)){xs:List V}{ds:List D}(r:az K A H xs ds):m xs ds r:=by
 cases r with
 |nil=>exact nil
 |cons h r=>exact cons h r
structure bB where
 ι:Type
 X:ι->aC
 prog:aR
 w:World
 K:av
 mg:Str->Option Value
 base:Heap
 k:Nat
 G:fw
 cx:∀i,(X i).prog=prog/\(X i).w=w/\(X i).K=K/\(X i).mg=mg/\(X i).base=base
 calm:∀i,(X i).calm=true
 room:∀i,ee k (X i).A
 own:∀i,AL (model (X i).prog (X i).w) (X i).A (X i).env (X i).xe
 pass:∀i,tI (eh (X i).prog (X i).w) (X i) G.E
 dOk:Bool
 dcx:dOk=true->∀i,gc (X i) G.E
def bB.hK(C:bB)(i:C.ι):(C.X i).K=C.K:=(C.cx i).2.2.1
def iA{α:Type}(G:fw)(r:ag α)(P:α->Prop):Prop:=match r with
 | .ok a=>P a
 | .ex c=>∀H',aE G.H0 H'->G.E (.ref (G.cl c)) none H'
 | .st=>False
theorem iA.bd(h:iA G (r.bd k) P):iA G r (λ a=>iA G (k a) P):=by
 cases r with
 |ok a=>assumption
 |ex c=>assumption
 |st=>assumption
def iA.imp(h:iA G r P)(f:∀a,r= .ok a->P a->P' a):iA G r P':=by
 cases r with
 |ok a=>exact f a rfl h
 |ex c=>assumption
 |st=>assumption
abbrev BN(K:av)(m:Mode)(lab:kz)(H:ah)(Q:br):D->Prop:=λ d=>∀v H',aE H H'->aw K (lk m lab H) H' v d->Q v H'
abbrev Wg(K:av)(m:Mode)(lab:kz)(H:ah)(Q:List V->ah->Prop):List D->Prop:=λ ds=>∀v H',aE H H'->az K (lk m lab H) H' v ds->Q v H'
abbrev Wh(H:ah)(Q:Bool->ah->Prop):Bool->Prop:=λ b=>∀H',aE H H'->Q b H'
def gE(K:av)(G:fw)(m:Mode)(t:bz)(f:af->ag D):Prop:=∀τ σ H ρ lab (Q:br),RR K G τ ρ σ H lab->iA G (f ρ) (BN K m lab H Q)->t σ H Q
def BO(K:av)(G:fw)(m:Mode)(t:fv)(f:af->ag (List D)):Prop:=∀τ σ H ρ lab (Q:List V->ah->Prop),RR K G τ ρ σ H lab->iA G (f ρ) (Wg K m lab H Q)->t σ H Q
def vN(K:av)(G:fw)(t:ih)(f:af->ag Bool):Prop:=∀τ σ H ρ lab (Q:Bool->ah->Prop),RR K G τ ρ σ H lab->iA G (f ρ) (Wh H Q)->t σ H Q
def aA(C:bB)(m:Mode)(e:Expr)(f:af->ag D):Prop:=∃t,(∀i,aY (C.X i) e t)/\gE C.K C.G m t f
def fD(C:bB)(m:Mode)(es:List Expr)(f:af->ag (List D)):Prop:=∃t,(∀i,eE (C.X i) es t)/\BO C.K C.G m t f
def gS(C:bB)(e:Expr)(f:af->ag Bool):Prop:=∃t,(∀i,jw (C.X i) e t)/\vN C.K C.G t f
def i9(C:bB)(e:Expr)(f:af->ag Bool):Prop:=∃t,(∀i,pz (C.X i) e t)/\vN C.K C.G t f
def i9.st(h:i9 C e f):gS C e f:=let⟨t,h1,h2⟩:=h;⟨t,λ i=>(h1 i).pt,h2⟩
noncomputable def eL(i:Nat):af->ag D:=λ ρ=>match ρ[i]? with
 |some (.sh d)=>.ok d
 |some (.nw d)=>.ok d
 |some (.ow d)=>.ok d
 |some (.oz d)=>.ok d
 |some (.o2 l)=>.ok (.lst (l.map .lst))
 |_=>.st
noncomputable def aa(i:Nat):af->ag D:=λ ρ=>match ρ[i]? with
 |some (.sh d)=>.ok d
 |some (.nw d)=>.ok d
 |_=>.st
noncomputable def eu(i:Nat):af->ag D:=λ ρ=>match ρ[i]? with
 |some (.nw d)=>.ok d
 |_=>.st
noncomputable def tQ(i:Nat):af->ag D:=λ ρ=>match ρ[i]? with
 |some (.ow d)=>.ok d
 |some (.o2 l)=>.ok (.lst (l.map .lst))
 |_=>.st
noncomputable def aq(d:D):af->ag D:=λ _=>.ok d
def BP{K:av}{H:ah}{lab:kz}{i:Nat}{v:V}{l:List (List D)}(h:i8 K H lab i v (.o2 l)):aw K (λ p=>(lab p).1=i+2) H v (.lst (l.map .lst)):=by
 obtain⟨a,xs,rfl,ha,c,k,d⟩:=h;refine .lst ha (by rw[c]) ?_;have m:∀(xs:List V) (l:List (List D)) (n:Nat),xs.length=l.length->0<n->(∀(j:Nat) x ds,xs[j]? =some x->l[j]? =some ds->aw K (λ p=>lab p=(i+2,n+j)) H x (.lst ds))->az K (λ p=>(lab p).1=i+2/\p≠a) H xs (l.map .lst):=by
  intro xs;induction xs with
  |nil=>intro l n b _ _;cases l with|nil=>exact .nil|cons _ _=>simp at b
  |cons x xs q=>
   intro l n b r h;cases l with
   |nil=>simp at b
   |cons ds l=>
    refine .cons (aw.wk (λ p o e z=>⟨by rw[z],λ e=>by simp_all⟩) (h 0 x ds rfl rfl)) (q l (n+1) (by simpa using b) (by simp) λ j y es f g=>?_);have z:=h (j+1) y es (by simpa using f) (by simpa using g);rw[show n+1+j=n+(j+1)by exact Ma];exact z
 exact m xs l 1 k (il _) λ j x ds f g=>by have z:=d j x ds f g;rw[show 1+j=j+1 by lia];exact z
section
variable{C:bB}{n:Pos}
def FK(K:av)(G:fw)(i:Nat):gE K G (some [0,1,i+2]) (iw i) (eL i):=by
 intro τ σ H ρ lab Q R W;unfold eL at W;cases e:ρ[i]? with
 |none=>rw[e]at W;exact W.elim
 |some s=>
  rw[e]at W;rcases R.sl i s e with rfl|⟨v,a,h⟩
  .exact aX W
  .cases s with
   |no=>exact aX W
   |sh d=>exact⟨v,a,W v H (aE.refl H) (aw.wk (λ p o e z=>.inr (by show(lab p).1∈[0,1,i+2];rcases(show(lab p).1=0\/(lab p).1=1 by exact EU z)with q|q<;>rw[q]<;>simp)) h)⟩
   |nw d=>exact⟨v,a,W v H (aE.refl H) (aw.wk (λ p o e z=>.inr (by show(lab p).1∈[0,1,i+2];rw[z];simp)) h)⟩
   |ow d=>exact⟨v,a,W v H (aE.refl H) (aw.wk (λ p o e z=>.inr (by show(lab p).1∈[0,1,i+2];simp_all)) h.1)⟩
   |oz d=>exact⟨v,a,W v H (aE.refl H) (aw.wk (λ p o e z=>.inr (by show(lab p).1∈[0,1,i+2];rcases(show(lab p).1=0\/(lab p).1=1\/(lab p).1=i+2 by lia)with q|q|q<;>rw[q]<;>simp)) (Nu h))⟩
   |o2 l=>exact⟨v,a,W v H (aE.refl H) (aw.wk (λ p o e z=>.inr (by show(lab p).1∈[0,1,i+2];rw[z];simp)) (BP h))⟩
def Wi(K:av)(G:fw)(i:Nat):gE K G (some [0,1]) (iw i) (aa i):=by
 intro τ σ H ρ lab Q R W;unfold aa at W;cases e:ρ[i]? with
 |none=>rw[e]at W;exact W.elim
 |some s=>
  rw[e]at W;rcases R.sl i s e with rfl|⟨v,a,h⟩
  .exact aX W
  .cases s with
   |sh d=>exact⟨v,a,W v H (aE.refl H) (aw.wk (λ p o e z=>.inr (by show(lab p).1∈[0,1];rcases(show(lab p).1=0\/(lab p).1=1 by exact EU z)with q|q<;>rw[q]<;>simp)) h)⟩
   |nw d=>exact⟨v,a,W v H (aE.refl H) (aw.wk (λ p o e z=>.inr (by show(lab p).1∈[0,1];simp_all)) h)⟩
   |_=>exact aX W
def Wj(K:av)(G:fw)(i:Nat):gE K G (some [1]) (iw i) (eu i):=by
 intro τ σ H ρ lab Q R W;unfold eu at W;cases e:ρ[i]? with
 |none=>rw[e]at W;exact W.elim
 |some s=>
  rw[e]at W;rcases R.sl i s e with rfl|⟨v,a,h⟩
  .exact aX W
  .cases s with
   |nw d=>exact⟨v,a,W v H (aE.refl H) (aw.wk (λ p o e z=>.inr (by show(lab p).1∈[1];simp_all)) h)⟩
   |_=>exact aX W
def Wk(K:av)(G:fw)(i:Nat):gE K G (some [1,i+2]) (iw i) (tQ i):=by
 intro τ σ H ρ lab Q R W;unfold tQ at W;cases e:ρ[i]? with
 |none=>rw[e]at W;exact W.elim
 |some s=>
  rw[e]at W;rcases R.sl i s e with rfl|⟨v,a,h⟩
  .exact aX W
  .cases s with
   |ow d=>exact⟨v,a,W v H (aE.refl H) (aw.wk (λ p o e z=>.inr (by show(lab p).1∈[1,i+2];simp_all)) h.1)⟩
   |o2 l=>exact⟨v,a,W v H (aE.refl H) (aw.wk (λ p o e z=>.inr (by show(lab p).1∈[1,i+2];simp_all)) (BP h))⟩
   |_=>exact aX W
def pI(i:Nat)(N:∀j,(C.X j).N[i]? =some x:=by z_go)(v:∀j,j7 (C.X j).env.scope x:=by x_go)(d:Nd x:=by decide)
  (h:(x==("__classdict__":Str))=false:=by decide):aA C (some [0,1,i+2]) (.Name x n) (eL i):=⟨_,λ j=>jz (N j) (v j) d h,FK _ _ i⟩
def au(i:Nat)(N:∀j,(C.X j).N[i]? =some x:=by z_go)(v:∀j,j7 (C.X j).env.scope x:=by x_go)(d:Nd x:=by decide)
  (h:(x==("__classdict__":Str))=false:=by decide):aA C (some [0,1]) (.Name x n) (aa i):=⟨_,λ j=>jz (N j) (v j) d h,Wi _ _ i⟩
def mi(i:Nat)(N:∀j,(C.X j).N[i]? =some x:=by z_go)(v:∀j,j7 (C.X j).env.scope x:=by x_go)(d:Nd x:=by decide)
  (h:(x==("__classdict__":Str))=false:=by decide):aA C (some [1]) (.Name x n) (eu i):=⟨_,λ j=>jz (N j) (v j) d h,Wj _ _ i⟩
def Nv(i:Nat)(N:∀j,(C.X j).N[i]? =some x:=by z_go)(v:∀j,j7 (C.X j).env.scope x:=by x_go)(d:Nd x:=by decide)
  (h:(x==("__classdict__":Str))=false:=by decide):aA C (some [1,i+2]) (.Name x n) (tQ i):=⟨_,λ j=>jz (N j) (v j) d h,Wk _ _ i⟩
def aJ:aA C (some []) (.Constant (.int i) j n) (aq (.int i)):=⟨_,λ _=>E0,λ τ σ H ρ lab Q R W=>W _ H (aE.refl H) (.int i)⟩
def jB:aA C (some []) (.Constant (.bool b) j n) (aq (.bl b)):=⟨_,λ _=>E1,λ τ σ H ρ lab Q R W=>W _ H (aE.refl H) (.bl b)⟩
def Wl:aA C (some []) (.Constant .none j n) (aq .non):=⟨_,λ _=>Tz,λ τ σ H ρ lab Q R W=>W _ H (aE.refl H) .non⟩
def iB:aA C (some []) (.Constant (.str x) j n) (aq (.str x)):=⟨_,λ _=>jA,λ τ σ H ρ lab Q R W=>W _ H (aE.refl H) (.str x)⟩
def tR(m:C.mg x=some u)(r:RelV v u)(a:∀A H,aw C.K A H v d)(h:Nd x:=by decide)(g:∀i,cN (C.X i) x:=by z_go):aA C (some []) (.Name x n) (aq d):=
 ⟨_,λ i=>kx (g i) (by rw[(C.cx i).2.2.2.1];assumption) r h,λ τ σ H ρ lab Q R W=>W _ H (aE.refl H) (a _ _)⟩
def mj(d:D):ag D:=if imm d=true then .ok d else .st
def bO(f:af->ag D):af->ag D:=λ ρ=>(f ρ).bd mj
def gd(h:aA C m e f):aA C (some []) e (bO f):=by
 obtain⟨t,b,c⟩:=h;refine⟨t,b,λ τ σ H ρ lab Q R W=>c τ σ H ρ _ Q R (W.bd.imp λ d _ w v H' s r=>?_)⟩;unfold mj at w;by_cases a:imm d=true
 .rw[if_pos a]at w
  exact w v H' s (r.imm a)
 .rw[if_neg a]at w
  exact aX w
def aj:af->ag (List D):=λ _=>.ok []
def ae(f:af->ag D)(g:af->ag (List D)):af->ag (List D):=λ ρ=>(f ρ).bd λ d=>(g ρ).bd λ ds=>.ok (d::ds)
variable{m F E:Mode}{e a b:Expr}{es:List Expr}{f j B:af->ag D}{g:af->ag (List D)}
def ay:fD C (some []) [] aj:=⟨_,λ _=>hD,λ τ σ H ρ lab Q R W=>W _ H (aE.refl H) .nil⟩
def ar(h:aA C F e f)(r:fD C E es g)(a:∀i,aW (e::es) (C.X i).env=(false,eval e (C.X i).env)::aW es (C.X i).env:=by z_go):fD C (nj F E) (e::es) (ae f g):=by
 obtain⟨t,b,c⟩:=h;obtain⟨u,k1,k2⟩:=r;refine⟨_,λ i=>dv (b i) (k1 i) (a i),λ τ σ H ρ lab Q R W=>?_⟩;refine c τ σ H ρ _ _ R (W.bd.imp λ d _ w x j s k=>?_);refine k2 τ σ j ρ _ _ (R.up s) (w.bd.imp λ ds _ w xs l s2 m=>?_);exact w _ l (s.trans s2) (.cons (k.mono s2 λ p o _ z=>Np z) (m.wk λ p o _ z=>Nq (FJ s z)))
def bC(g:af->ag (List D)):af->ag D:=λ ρ=>(g ρ).bd λ ds=>if ds.length<=aI then .ok (.tup ds)else .st
def dm(g:af->ag (List D)):af->ag D:=λ ρ=>(g ρ).bd λ ds=>if ds.length<=aI then .ok (.lst ds)else .st
def da{x1}(h:fD C m es g):aA C m (.Tuple es x1 n) (bC g):=by
 obtain⟨t,a,b⟩:=h;refine⟨_,λ i=>Vz (a i),λ τ σ H ρ lab Q R W=>b τ σ H ρ _ _ R (W.bd.imp λ ds _ w xs e c r=>?_)⟩;by_cases hz:ds.length<=aI
 .rw[if_pos hz]at w
  exact⟨by rw[r.length];simp_all,λ p H' s d _=>w _ H' (c.trans s) (.tup (bf.of d) (r.up s))⟩
 .rw[if_neg hz]at w
  exact aX w
def ja(h:fD C m es g):aA C m (.List es n) (dm g):=by
 obtain⟨t,b,c⟩:=h;refine⟨_,λ i=>vD (b i),λ τ σ H ρ lab Q R W=>c τ σ H ρ _ _ R (W.bd.imp λ ds _ w xs j a r=>?_)⟩;by_cases hz:ds.length<=aI
 .rw[if_pos hz]at w
  exact⟨by rw[r.length];assumption,λ p H' s d f=>w _ H' (a.trans s) (.lst d (.inl (a.free f)) ((r.wk λ q o e z=>⟨z,λ k=>by lia⟩).up s))⟩
 .rw[if_neg hz]at w
  exact aX w
def Wm(H:ah)(v:V)(d:D):Prop:=vM d=true->∃a,v= .ref a/\H a=none
def FM(K:av)(G:fw)(m:Mode)(t:bz)(f:af->ag D):Prop:=∀τ σ H ρ lab (Q:br),RR K G τ ρ σ H lab->iA G (f ρ) (λ d=>∀v H',aE H H'->aw K (lk m lab H) H' v d->Wm H v d->Q v H')->t σ H Q
def FN(C:bB)(m:Mode)(e:Expr)(f:af->ag D):Prop:=∃t,(∀i,aY (C.X i) e t)/\FM C.K C.G m t f
def gE.toF{K:av}{G:fw}{t:bz}{f:af->ag D}(h:gE K G (some []) t f):FM K G (some []) t f:=λ τ σ H ρ lab Q R W=>
 h τ σ H ρ _ Q R (W.imp λ d _ w v H' s r=>w v H' s r λ m=>by
  obtain⟨a,rfl⟩:=Wf r m;obtain⟨o,_,_,z⟩:=Nr r m;rcases z with z|z
  .exact⟨a,rfl,z⟩
  .cases z)
def Nw(h:aA C (some []) e f):FN C (some []) e f:=let⟨t,h1,h2⟩:=h;⟨t,h1,h2.toF⟩
def FO(h:fD C m es g):FN C m (.List es n) (dm g):=by
 obtain⟨t,c,d⟩:=h;refine⟨_,λ i=>vD (c i),λ τ σ H ρ lab Q R W=>d τ σ H ρ _ _ R (W.bd.imp λ ds _ w xs j a r=>?_)⟩;by_cases hz:ds.length<=aI
 .rw[if_pos hz]at w
  exact⟨by rw[r.length];assumption,λ p H' s f b=>w _ H' (a.trans s) (.lst f (.inl (a.free b)) ((r.wk λ q o e z=>⟨z,λ k=>by lia⟩).up s)) λ _=>⟨p,rfl,a.free b⟩⟩
 .rw[if_neg hz]at w
  exact aX w
def fE(K:av)(r:aG)(f:D->D->ag D):Prop:=∀(A:Addr->Prop) x y d e H (Q:br) z,aw K A H x d->aw K A H y e->f d e= .ok z->(∀v H',aE H H'->aw K (λ p=>H p=none\/A p) H' v z->Q v H')->r x y H Q
def om(K:av)(r:List V->ah->br->Prop)(f:List D->ag D):Prop:=∀(A:Addr->Prop) xs ds H (Q:br) z,az K A H xs ds->f ds= .ok z->(∀v H',aE H H'->aw K (λ p=>H p=none\/A p) H' v z->Q v H')->r xs H Q
def okD(r:ag D):ag D:=match r with
 | .ok d=>.ok d
 |_=>.st
def ai(f:D->D->ag D)(j B:af->ag D):af->ag D:=λ ρ=>(j ρ).bd λ x=>(B ρ).bd λ y=>okD (f x y)
def ml(f:D->ag D)(j:af->ag D):af->ag D:=λ ρ=>(j ρ).bd λ x=>okD (f x)
def aN(f:List D->ag D)(j:af->ag (List D)):af->ag D:=λ ρ=>(j ρ).bd λ x=>okD (f x)
theorem iA.okD(h:iA G (okD r) P):∃z,r= .ok z/\P z:=by
 cases r with
 |ok z=>exact⟨z,rfl,h⟩
 |ex c=>exact aX h
 |st=>exact aX h
def FP{K:av}{G:fw}{r:aG}{ta tb:bz}{f:D->D->ag D}(h:fE K r f)(b:gE K G F ta j)(c:gE K G E tb B):gE K G (nj F E) (tG r ta tb) (ai f j B):=by
 intro τ σ H ρ lab Q R W;refine b τ σ H ρ _ _ R (W.bd.imp λ d _ w x g a i=>?_);refine c τ σ g ρ _ _ (R.up a) (w.bd.imp λ e _ w y k s2 l=>?_);obtain⟨z,m,w⟩:=w.okD;refine h _ x y d e k Q z (i.mono s2 λ p o _ q=>Np q) (l.wk λ p o _ q=>Nq (FJ a q)) m λ v H' s r=>w v H' ((a.trans s2).trans s) (r.wk λ p o _ q=>?_)
 rcases q with q|q
 .exact .inl ((a.trans s2).free q)
 simp_all
def Nx{K:av}{G:fw}{r:List V->ah->br->Prop}{ta:fv}{f:List D->ag D}(h:om K r f)(b:BO K G m ta g):gE K G m (md r ta) (aN f g):=by
 intro τ σ H ρ lab Q R W;refine b τ σ H ρ _ _ R (W.bd.imp λ d _ w x c a e=>?_);obtain⟨z,i,w⟩:=w.okD;refine h _ x d c Q z e i λ v H' s r=>w v H' (a.trans s) (r.wk λ p o _ q=>?_)
 rcases q with q|q
 .exact .inl (a.free q)
 assumption
def mn(h:aA C m e f)(i:∀ρ d,f ρ= .ok d->imm d=true):aA C (some []) e f:=by
 obtain⟨t,a,b⟩:=h;exact⟨t,a,λ τ σ H ρ lab Q R W=>b τ σ H ρ _ Q R (W.imp λ d c w v H' s r=>w v H' s (r.imm (i ρ d c)))⟩
def vO(h:∀x y z,fd x y= .ok z->imm z=true)(e:ai fd j B ρ= .ok d):imm d=true:=by
 obtain⟨x,_,e⟩:=oi e;obtain⟨y,_,e⟩:=oi e;unfold okD at e;split at e<;>grind
def vP(h:∀x z,fd x= .ok z->imm z=true)(e:aN fd g ρ= .ok d):imm d=true:=by
 obtain⟨x,_,e⟩:=oi e;unfold okD at e;split at e<;>grind
def tS(o:∀i,bU (C.X i) (hZ op) r)(h:fE C.K r fd)(ha:aA C F a j)(c:aA C E b B):aA C (nj F E) (.BinOp a op b n) (ai fd j B):=by
 obtain⟨t,d,e⟩:=ha;obtain⟨u,k1,k2⟩:=c;exact⟨_,λ i=>Bu (o i) (d i) (k1 i),FP h e k2⟩
def Ny(o:∀i,bU (C.X i) (eK op) r)(h:fE C.K r fd)(ha:aA C F a j)(c:aA C E b B)(m:mL op b=false:=by first|exact MC _|(with_unfolding_all rfl)):
  aA C (nj F E) (.Compare a [op] [b] n) (ai fd j B):=by
 obtain⟨t,d,e⟩:=ha;obtain⟨u,k1,k2⟩:=c;exact⟨_,λ i=>Ur (o i) (d i) (k1 i) m,FP h e k2⟩
variable{p:Pos}{x:Str}{I T:String}
def vQ(o:∀i,fC (C.X i) (.builtin I) r)(s:om C.K r fd)(a:∀i,cN (C.X i) x)(j:C.mg x=none)(v:fu x=some (.builtin I))(ha:fD C m (e::es) g)
  (b:x≠"__name__":=by decide)(h:Nd x:=by decide)(c:∀i,aW (e::es) (C.X i).env=(false,eval e (C.X i).env)::aW es (C.X i).env:=by z_go)
  (hpl:∀i,(gk n (aW es (C.X i).env)).any (·.1)=false:=by z_go):aA C m (.Call (.Name x p) (e::es) [] n) (aN fd g):=by
 obtain⟨t,d,f⟩:=ha;exact⟨_,λ i=>tJ (o i) (a i) (by rw[(C.cx i).2.2.2.1];assumption) v (d i) b h (c i) (hpl i),Nx s f⟩
def Nz(o:∀i,fC (C.X i) (.type T) r)(s:om C.K r fd)(a:∀i,cN (C.X i) x)(j:C.mg x=none)(v:fu x=some (.type T))(ha:fD C m (e::es) g)
  (b:x≠"__name__":=by decide)(h:Nd x:=by decide)(c:∀i,aW (e::es) (C.X i).env=(false,eval e (C.X i).env)::aW es (C.X i).env:=by z_go)
  (hpl:∀i,(gk n (aW es (C.X i).env)).any (·.1)=false:=by z_go):aA C m (.Call (.Name x p) (e::es) [] n) (aN fd g):=by
 obtain⟨t,d,f⟩:=ha;exact⟨_,λ i=>tK (o i) (a i) (by rw[(C.cx i).2.2.2.1];assumption) v (d i) b h (c i) (hpl i),Nx s f⟩
def BQ(f g:af->ag D):af->ag D:=λ ρ=>(f ρ).bd λ d=>match d with
 | .bl true=>g ρ
 | .bl false=>.ok (.bl false)
 |_=>.st
noncomputable def notD:D->ag D
 | .bl b=>.ok (.bl (!b))
 |_=>.st
variable{rest:List Expr}
def NA{op}(h:aA C m a j):aA C m (.BoolOp op [a] n) j:=by assumption
def NB(ha:aA C F a j)(h:aA C E (.BoolOp .And (b::rest) n) B):aA C E (.BoolOp .And (a::b::rest) n) (BQ j B):=by
 obtain⟨t,g,k⟩:=ha;obtain⟨u,k1,k2⟩:=h;refine⟨_,λ i=>TO (g i) (k1 i),λ τ σ H ρ lab Q R W=>k τ σ H ρ lab _ R (W.bd.imp λ d _ w x f e l=>?_)⟩;induction l using aw.cs with
 |bl c=>
  refine⟨c,rfl,?_⟩;cases c with
  |true=>
   exact k2 τ σ f ρ lab Q (R.up e) (w.imp λ z _ w v H' s r=>w v H' (e.trans s) (r.wk λ p o _ q=>FJ e q))
  |false=>
   exact w _ f e (.bl false)
 |_=>exact aX w
def yC(d f:D->D->ag D)(j B c:af->ag D):af->ag D:=λ ρ=>(j ρ).bd λ x=>(B ρ).bd λ y=>(okD (d x y)).bd λ z=>match z with
 | .bl true=>(c ρ).bd λ w=>okD (f y w)
 | .bl false=>.ok (.bl false)
 |_=>.st
def Wn{K:av}{G:fw}{r b:aG}{ta tb t:bz}{g f:D->D->ag D}{i:af->ag D}{m:Mode}(n:fE K r g)(h:fE K b f)(u:∀x y z,f x y= .ok z->imm z=true)(A:gE K G F ta j)(C:gE K G E tb B)(I:gE K G m t i):
  gE K G (some []) (MD r b ta tb t) (yC g f j B i):=by
 intro τ σ H ρ lab Q R W;refine A τ σ H ρ lab _ R (W.bd.imp λ d _ w x J s L=>?_);refine C τ σ J ρ lab _ (R.up s) (w.bd.imp λ e _ w y M s2 k=>?_);obtain⟨z,N,w⟩:=w.bd.okD;refine n (λ _=>True) x y d e M _ z (L.mono s2 λ p o _ q=>trivial) (k.wk λ p o _ q=>trivial) N λ v l s3 O=>?_
 induction O using aw.cs with
 |bl c=>
  refine⟨c,rfl,?_⟩;cases c with
  |false=>
   rw[if_neg cL];exact w _ l ((s.trans s2).trans s3) (.bl false)
  |true=>
   rw[if_pos rfl];refine I τ σ l ρ lab _ ((R.up s).up (s2.trans s3)) (w.bd.imp λ P _ w S T s4 U=>?_);obtain⟨V,a,w⟩:=w.okD;exact h (λ _=>True) y S e P T Q V (k.mono (s3.trans s4) λ p o _ q=>trivial) (U.wk λ p o _ q=>trivial) a λ v X s5 Y=>w v X ((((s.trans s2).trans s3).trans s4).trans s5) (Y.imm (u _ _ _ a))
 |_=>exact aX w
noncomputable def BR:D->ag Bool
 | .non=>.ok false
 | .bl b=>.ok b
 | .int i=>.ok (i !=0)
 | .tup l=>.ok (!l.isEmpty)
 | .lst l=>.ok (!l.isEmpty)
 |_=>.st
def yD:D->ag Bool
 | .bl b=>.ok b
 |_=>.st
def jb(f:af->ag D):af->ag Bool:=λ ρ=>(f ρ).bd BR
def bD(f:af->ag D):af->ag Bool:=λ ρ=>(f ρ).bd yD
def NC{K:av}{A:Addr->Prop}{H:ah}{xs:List V}{ds:List D}(r:az K A H xs ds):(!ds.isEmpty)= !xs.isEmpty:=by induction r using az.cs<;>rfl
def kA(ha:aA C m a j)(e:∀i o,isTrue a (C.X i).env o=(do let v <-o;qM a.pos;gB [v] (truthy v)):=by intro _ _;rfl):gS C a (jb j):=by
 obtain⟨t,f,g⟩:=ha;refine⟨λ σ H Q=>t σ H λ x H'=>∃k,Fk C.K x H' k/\Q k H',λ i=>by rw[<-C.hK i];exact Uw (f i) (e i),λ τ σ H ρ lab Q R W=>g τ σ H ρ lab _ R (W.bd.imp λ d _ w x c s l=>?_)⟩;induction l using aw.cs with
 |non=>exact⟨_,rfl,w c s⟩
 |bl b=>exact⟨b,rfl,w c s⟩
 |int i=>exact⟨_,rfl,w c s⟩
 |tup h r=>exact⟨_,.inr (.inl ⟨_,h,rfl⟩),by rw[<-NC r];exact w c s⟩
 |lst h m r=>exact⟨_,.inl ⟨_,bN.of h,rfl⟩,by rw[<-NC r];exact w c s⟩
 |_=>exact aX w
def ND{K:av}{G:fw}{t:bz}{f:af->ag D}(h:gE K G m t f):vN K G (Fj t) (bD f):=λ τ σ H ρ lab Q R W=>h τ σ H ρ _ _ R (W.bd.imp λ d _ w x a s r=>by
 induction r using aw.cs with
 |bl b=>exact⟨b,rfl,w a s⟩
 |_=>exact aX w)
def rB(o:∀i,bU (C.X i) (eK op) r)(h:fE C.K r fd)(ha:aA C F a j)(c:aA C E b B)(m:mL op b=false:=by first|exact MC _|(with_unfolding_all rfl)):
  gS C (.Compare a [op] [b] n) (bD (ai fd j B)):=by
 obtain⟨t,d,e⟩:=ha;obtain⟨u,k1,k2⟩:=c;exact⟨_,λ i=>Us (o i) (d i) (k1 i) m,ND (FP h e k2)⟩
def Wo(d:∀i,bU (C.X i) (eK op) r)(s:fE C.K r fd)(o:∀i,bU (C.X i) (eK op') r')(h:fE C.K r' fd')(e:∀x y z,fd' x y= .ok z->imm z=true)
  (ha:aA C F a j)(f:aA C E b B)(g:aA C m3 c fc)(m:lastMarks [op,op'] [b,c]=false:=by with_unfolding_all rfl):gS C (.Compare a [op,op'] [b,c] n) (bD (yC fd fd' j B fc)):=by
 obtain⟨t,k,l⟩:=ha;obtain⟨u,k1,k2⟩:=f;obtain⟨v,l1,l2⟩:=g;exact⟨_,λ i=>Ut (d i) (o i) (k i) (k1 i) (l1 i) m,ND (Wn s h e l k2 l2)⟩
variable{c d:af->ag Bool}
def FQ(f g:af->ag Bool):af->ag Bool:=λ ρ=>(f ρ).bd λ k=>if k=true then g ρ else .ok false
def mq(f g:af->ag Bool):af->ag Bool:=λ ρ=>(f ρ).bd λ k=>if k=true then .ok true else g ρ
def lp(f:af->ag Bool):af->ag Bool:=λ ρ=>(f ρ).bd λ k=>.ok (!k)
def Wp(ha:gS C a c):i9 C (.BoolOp .And [a] n) c:=let⟨t,h1,h2⟩:=ha;⟨t,λ i=>TL (h1 i),h2⟩
def rC(ha:gS C a c):i9 C (.BoolOp .Or [a] n) c:=let⟨t,h1,h2⟩:=ha;⟨t,λ i=>Mn (h1 i),h2⟩
def Wq(ha:gS C a c)(h:i9 C (.BoolOp .And (b::rest) n) d):i9 C (.BoolOp .And (a::b::rest) n) (FQ c d):=by
 obtain⟨t,g,j⟩:=ha;obtain⟨u,k1,k2⟩:=h;refine⟨_,λ i=>TM (g i) (k1 i),λ τ σ H ρ lab Q R W=>j τ σ H ρ _ _ R (W.bd.imp λ k _ w f e=>?_)⟩;cases k with
 |true=>
  exact k2 τ σ f ρ _ Q (R.up e) (w.imp λ z _ w H' s=>w H' (e.trans s))
 |false=>
  exact w f e
def nk(ha:gS C a c)(h:i9 C (.BoolOp .Or (b::rest) n) d):i9 C (.BoolOp .Or (a::b::rest) n) (mq c d):=by
 obtain⟨t,g,j⟩:=ha;obtain⟨u,k1,k2⟩:=h;refine⟨_,λ i=>Mo (g i) (k1 i),λ τ σ H ρ lab Q R W=>j τ σ H ρ _ _ R (W.bd.imp λ k _ w f e=>?_)⟩;cases k with
 |false=>
  exact k2 τ σ f ρ _ Q (R.up e) (w.imp λ z _ w H' s=>w H' (e.trans s))
 |true=>
  exact w f e
def mr(ha:gS C a c):gS C (.UnaryOp .Not a n) (lp c):=by
 obtain⟨t,h,b⟩:=ha;exact⟨_,λ i=>E4 (h i),λ τ σ H ρ lab Q R W=>b τ σ H ρ _ _ R (W.bd.imp λ k _ w d s=>w d s)⟩
end
inductive ax where
 |nx (ρ:af)|rt (d:D)|bk (ρ:af)|ct (ρ:af)|ex (c:Str)|st
noncomputable def ag.bo{α:Type}:ag α->(α->ax)->ax
 | .ok a,f=>f a
 | .ex c,_=>.ex c
 | .st,_=>.st
@[simp] def ez(a:α)(f:α->ax):(ag.ok a).bo f=f a:=bp rfl
@[simp] def bo_ex(c:Str)(f:α->ax):(ag.ex c:ag α).bo f= .ex c:=bp rfl
noncomputable def ax.sq:ax->(af->ax)->ax
 | .nx ρ,f=>f ρ
 |o,_=>o
@[simp] def ck(ρ:af)(f:af->ax):(ax.nx ρ).sq f=f ρ:=bp rfl
@[simp] def sq_rt(d:D)(f:af->ax):(ax.rt d).sq f= .rt d:=bp rfl
@[simp] def sq_ex(c:Str)(f:af->ax):(ax.ex c).sq f= .ex c:=bp rfl
def nq(K:av)(G:fw)(τ:List (V×D))(o:ax)(e:Ends):Prop:=match o with
 | .nx ρ=>∀σ H lab,RR K G τ ρ σ H lab->e.nx σ H
 | .bk ρ=>∀σ H lab,RR K G τ ρ σ H lab->e.bk σ H
 | .ct ρ=>∀σ H lab,RR K G τ ρ σ H lab->e.ct σ H
 | .rt d=>∀v H,aE G.H0 H->aw K (λ p=>G.H0 p=none) H v d->e.rt v H
 | .ex c=>∀H',aE G.H0 H'->G.E (.ref (G.cl c)) none H'
 | .st=>False
theorem nq.bo{K:av}(h:nq K G τ (r.bo k) De):iA G r (λ a=>nq K G τ (k a) De):=by
 cases r with
 |ok a=>assumption
 |ex c=>assumption
 |st=>assumption
def NF(K:av)(G:fw)(t:g9)(f:af->ax):Prop:=∀τ σ H ρ lab (D:Ends),RR K G τ ρ σ H lab->nq K G τ (f ρ) D->t D σ H
def hG(C:bB)(s:Stmt)(f:af->ax):Prop:=∃t,(∀i,jx (C.X i) s t)/\NF C.K C.G t f
def jd(C:bB)(s:List Stmt)(f:af->ax):Prop:=∃t,(∀i,iu (C.X i) s t)/\NF C.K C.G t f
section
variable{C:bB}{A:Pos}{s:Stmt}{M:List Stmt}{f g:af->ax}{e:Expr}{m:Mode}{fe:af->ag D}
def gf:jd C [] .nx:=⟨_,λ _=>E5,λ τ σ H ρ lab D R W=>W σ H _ R⟩
def aM(f g:af->ax):af->ax:=λ ρ=>(f ρ).sq g
def bA(h:hG C s f):jd C [s] f:=let⟨t,h1,h2⟩:=h;⟨t,λ i=>tF (h1 i),h2⟩
def bx(h:hG C s f)(k:jd C M g):jd C (s::M) (aM f g):=by
 obtain⟨t,b,e⟩:=h;obtain⟨u,k1,k2⟩:=k;refine⟨_,λ i=>n7 (b i) (k1 i),λ τ σ H ρ lab D R W=>e τ σ H ρ _ _ R ?_⟩;unfold aM at W;cases h:f ρ with
 |nx a=>rw[h]at W;exact λ j H' l m=>k2 τ _ H' _ _ D m W
 |rt d=>rw[h]at W;assumption
 |bk a=>rw[h]at W;assumption
 |ct a=>rw[h]at W;assumption
 |ex c=>rw[h]at W;assumption
 |st=>rw[h]at W;assumption
noncomputable def frz(i:Nat)(ρ:af):af:=match ρ[i]? with
 |some (.ow d)=>ρ.set i (.nw d)
 |some (.o2 l)=>ρ.set i (.nw (.lst (l.map .lst)))
 |_=>ρ
noncomputable def Wr:Mode->Bool
 |some L=>L.all (·!=0)
 |none=>false
def retS(fe:af->ag D):af->ax:=λ ρ=>(fe ρ).bo .rt
def cP(a:aA C m e fe)(h:Wr m=true:=by rfl):hG C (.Return (some e) A) (retS fe):=by
 obtain⟨t,b,c⟩:=a;refine⟨_,λ i=>yn (b i),λ τ σ H ρ lab D R W=>c τ σ H ρ _ _ R (W.bo.imp λ d _ w v H' s r=>w v H' (R.old.trans s) (r.wk λ p o _ z=>?_))⟩;rcases z with z|z
 .exact R.old.free z
 .cases m with
  |none=>cases h
  |some L=>
   refine R.new p λ f=>?_
   have:=kk.mp h _ z
   simp_all
def FR(fe:af->ag D):af->ax:=λ ρ=>(fe ρ).bo λ _=>.nx ρ
def Ws(h:aA C m e fe)(a:∀i,nY e none A.line (C.X i).env=pure false:=by z_go):hG C (.Expr e A) (FR fe):=by
 obtain⟨t,b,c⟩:=h;exact⟨_,λ i=>ym (b i) (a i),λ τ σ H ρ lab D R W=>c τ σ H ρ _ _ R (W.bo.imp λ d _ w v H' s r=>w σ H' _ (R.up s))⟩
def de(c:af->ag Bool)(f g:af->ax):af->ax:=λ ρ=>(c ρ).bo λ k=>if k=true then f ρ else g ρ
def fF{a b:List Stmt}(h:gS C c fc)(ha:jd C a f)(e:jd C b g):hG C (.If c a b A) (de fc f g):=by
 obtain⟨m,c1,c2⟩:=h;obtain⟨t,j,l⟩:=ha;obtain⟨u,k1,k2⟩:=e;refine⟨_,λ i=>E7 (c1 i) (j i) (k1 i),λ τ σ H ρ lab D R W=>c2 τ σ H ρ _ _ R (W.bo.imp λ k _ w d s=>?_)⟩;cases k with
 |true=>exact l τ σ d ρ _ D (R.up s) w
 |false=>exact k2 τ σ d ρ _ D (R.up s) w
def BS(C:bB)(i:Nat)(s:Stmt)(m:Mode)(f:af->ag D):Prop:=∃t,(∀j,jx (C.X j) s (n9 t (n8 i)))/\gE C.K C.G m t f
def eM(h:aA C m e fe)(N:∀j,(C.X j).N[i]? =some x:=by z_go)(a:∀j,kW (C.X j).env.scope x:=by f_tup)(s:∀j,nY e (some (.Name x pos')) A.line (C.X j).env=pure false:=by z_go)(hf:∀j,(C.X j).fn x=true\/(C.X j).env.scope.names.lookup x=some .local:=by fin2)(nd:∀j,(C.X j).N.Nodup:=by intro _;assumption):
  BS C i (.Assign [.Name x pos'] e A) m fe:=by
 obtain⟨t,b,c⟩:=h;exact⟨t,λ j=>pA (nd j) (N j) (a j) (b j) (s j) (hf j),c⟩
def FS(C:bB)(i:Nat)(s:Stmt)(m:Mode)(f:af->ag D):Prop:=∃t,(∀j,jx (C.X j) s (n9 t (n8 i)))/\FM C.K C.G m t f
def yE(h:FN C m e fe)(N:∀j,(C.X j).N[i]? =some x:=by z_go)(a:∀j,kW (C.X j).env.scope x:=by f_tup)(s:∀j,nY e (some (.Name x pos')) A.line (C.X j).env=pure false:=by z_go)(hf:∀j,(C.X j).fn x=true\/(C.X j).env.scope.names.lookup x=some .local:=by fin2)(nd:∀j,(C.X j).N.Nodup:=by intro _;assumption):
  FS C i (.Assign [.Name x pos'] e A) m fe:=by
 obtain⟨t,b,c⟩:=h;exact⟨t,λ j=>pA (nd j) (N j) (a j) (b j) (s j) (hf j),c⟩
noncomputable def BU(P:Nat->Bool):Mode->Bool
 |some L=>L.all P
 |none=>false
def rE(h:BU P m=true):∀k,pH m k->P k=true:=by
 intro k a;cases m with
 |none=>cases h
 |some L=>exact kk.mp h k a
abbrev oq:Mode->Bool:=BU λ k=>decide (k<=1)
abbrev BV:Mode->Bool:=BU λ k=>k==1
abbrev Wt(i:Nat):Mode->Bool:=BU λ k=>k==1||k==i+2
def dD(i:Nat)(fe:af->ag D):af->ax:=λ ρ=>(fe ρ).bo λ d=>.nx (ρ.set i (.sh d))
def ik(i:Nat)(fe:af->ag D):af->ax:=λ ρ=>(fe ρ).bo λ d=>.nx (ρ.set i (.nw d))
def ot(i:Nat)(fe:af->ag D):af->ax:=λ ρ=>(fe ρ).bo λ d=>.nx (ρ.set i (.ow d))
def RR.shared{K:av}(h:oq m=true)(R:RR K G τ ρ σ H lab)(s:aE H H')(r:aw K (lk m lab H) H' v d):
  RR K G τ ρ σ H' (gD H 1 lab)/\aw K (λ p=>(gD H 1 lab p).1<=1) H' v d:=R.fresh (by decide) (λ k a=>of_decide_eq_true (rE h k a)) s r
def gF{i:Nat}(h:BS C i s m fe)(a:oq m=true:=by rfl):hG C s (dD i fe):=by
 obtain⟨t,b,c⟩:=h;refine⟨_,b,λ τ σ H ρ lab D R W=>c τ σ H ρ _ _ R (W.bo.imp λ d _ w v H' s r=>?_)⟩;obtain⟨e,f⟩:=R.shared a s r;exact w _ _ _ (e.put f)
def pJ(h:BS C i s m fe)(a:BV m=true:=by rfl):hG C s (ik i fe):=by
 obtain⟨t,b,c⟩:=h;refine⟨_,b,λ τ σ H ρ lab D R W=>c τ σ H ρ _ _ R (W.bo.imp λ d _ w v H' s r=>?_)⟩;obtain⟨e,f⟩:=R.fresh (P:=λ k=>k=1) rfl (λ k g=>beq_iff_eq.mp (rE a k g)) s r;exact w _ _ _ (e.put f)
def BW(h:FS C i s m fe)(a:Wt i m=true:=by rfl):hG C s (ot i fe):=by
 obtain⟨t,b,c⟩:=h;refine⟨_,b,λ τ σ H ρ lab D R W=>c τ σ H ρ _ _ R (W.bo.imp λ d _ w v H' s r e=>?_)⟩;obtain⟨l,f,g⟩:=R.freshO i (λ k j=>by have:=rE a k j;simp_all) s r e;exact w _ _ _ (f.put g)
def BX(i:Nat)(fe:af->ag D):af->ax:=λ ρ=>(fe ρ).bo λ d=>match d with
 | .lst ds=>.nx (ρ.set i (.oz (.lst ds)))
 |_=>.st
def Wu(h:FS C i s m fe)(a:oq m=true:=by rfl):hG C s (BX i fe):=by
 obtain⟨t,b,c⟩:=h;refine⟨_,b,λ τ σ H ρ lab D R W=>c τ σ H ρ _ _ R (W.bo.imp λ d _ w v H' s r e=>?_)⟩;cases d with
 |lst ds=>
  obtain⟨l,f,g⟩:=R.freshZ i (λ k j=>by have:=rE a k j;simp_all) s r (e rfl);exact w _ _ _ (f.put g)
 |_=>exact aX w
def FT(K:av)(G:fw)(g:j8)(fg:D->af->ag af):Prop:=∀τ v d σ H ρ lab (Q:L2.St->ah->Prop) ρ',RR K G τ ρ σ H lab->aw K (λ p=>(lab p).1<=1) H v d->fg d ρ= .ok ρ'->(∀a,RR K G τ ρ' a H lab->Q a H)->g v σ H Q
def Wv(K:av)(G:fw)(g:rf)(fg:List D->af->ag af):Prop:=∀τ v ds σ H ρ lab (Q:L2.St->ah->Prop) ρ',RR K G τ ρ σ H lab->az K (λ p=>(lab p).1<=1) H v ds->fg ds ρ= .ok ρ'->(∀a,RR K G τ ρ' a H lab->Q a H)->g v σ H Q
def ou(C:bB)(t:Expr)(ks:List Nat)(fg:D->af->ag af):Prop:=∃g,(∀i,m8 (C.X i) t g)/\FT C.K C.G g fg/\tN g ks/\yy g
def BY(C:bB)(t:List Expr)(ks:List Nat)(fg:List D->af->ag af):Prop:=∃g,(∀i,yo (C.X i) t g)/\Wv C.K C.G g fg/\yx g ks/\vG g
noncomputable def aD(i:Nat):D->af->ag af:=λ d ρ=>.ok (ρ.set i (.sh d))
def e7:List D->af->ag af:=λ ds ρ=>match ds with
 |[]=>.ok ρ
 |_=>.st
def bM(f:D->af->ag af)(g:List D->af->ag af):List D->af->ag af:=λ ds ρ=>match ds with
 |d::r=>(f d ρ).bd (g r)
 |_=>.st
noncomputable def eP(n:Nat)(g:List D->af->ag af):D->af->ag af:=λ d ρ=>match d with
 | .tup ds=>if ds.length=n then g ds ρ else .st
 |_=>.st
variable{ks:List Nat}{fg:D->af->ag af}{F:List D->af->ag af}{E:Expr}{B:List Expr}
def dQ(h:∀j,(C.X j).N[i]? =some x:=by z_go)(a:∀j,kW (C.X j).env.scope x:=by f_tup)(hf:∀j,(C.X j).fn x=true\/(C.X j).env.scope.names.lookup x=some .local:=by fin2)(nd:∀j,(C.X j).N.Nodup:=by intro _;assumption)(k:i∈ks:=by decide):ou C (.Name x A) ks (aD i):=
 ⟨_,λ j=>TT (nd j) (h j) (a j) (hf j),λ τ v d σ H ρ lab Q b R r e q=>by cases e;exact q _ (R.put r),VE k,VG⟩
def mu:BY C [] ks e7:=by
 refine⟨_,λ _=>TU,λ τ v ds σ H ρ lab Q a R r e q=>?_,VF,VH⟩;induction r using az.cs with
 |nil=>cases e;exact⟨rfl,q _ R⟩
 |cons _ _=>cases e
def fG(h:ou C E ks fg)(k:BY C B ks F)(s:∀i,(ko (E::B) (C.X i).env).map (·.2)=i5 E (C.X i).env::(ko B (C.X i).env).map (·.2):=by z_go):BY C (E::B) ks (bM fg F):=by
 obtain⟨g,b,c,d,a⟩:=h;obtain⟨u,k1,k2,k3,k4⟩:=k;refine⟨_,λ i=>TV (b i) (k1 i) (s i),λ τ v ds σ H ρ lab Q f R r e q=>?_,VJ d a k3 k4,VI a k4⟩;induction r using az.cs with
 |nil=>cases e
 |cons h r=>
  obtain⟨j,l,m⟩:=oi e;exact⟨_,_,rfl,c τ _ _ σ H ρ _ _ _ R h l λ n o=>k2 τ _ _ _ H _ _ Q _ o r m q⟩
def mv(h:BY C B ks F)(b:∀i,(ko B (C.X i).env).length=n:=by z_go)(s:∀i,(ko B (C.X i).env).findIdx? (·.1)=none:=by z_go):ou C (.Tuple B k A) ks (eP n F):=by
 obtain⟨u,k1,k2,k3,k4⟩:=h;refine⟨Bs C.K n u,λ i=>by rw[<-C.hK i];exact TX (C.calm i) (k1 i) (b i) (s i),λ τ v d σ H ρ lab Q a R r e q=>?_,VK k3,VM k4⟩;induction r using aw.cs with
 |tup h r=>
  unfold eP at e;dsimp only at e;split at e
  .rename_i l
   exact⟨_,_,rfl,h,by rw[r.length];exact l,k2 τ _ _ σ H ρ lab Q a R r e q⟩
  contradiction
 |_=>cases e
def kB(fe:af->ag D)(fg:D->af->ag af):af->ax:=λ ρ=>(fe ρ).bo λ d=>match fg d ρ with
 | .ok a=>.nx a
 |_=>.st
def vR(b:aA C m e fe)(f:ou C E ks fg)(j:oq m=true:=by rfl)(k:∀i,xP [E] e A.line (C.X i).env=pure false:=by z_go)(l:∀i,xO [E] e (C.X i).env=pure none:=by z_go)
  (n:∀i,(ko [E] (C.X i).env).map (·.2)=[i5 E (C.X i).env]:=by z_go):hG C (.Assign [E] e A) (kB fe fg):=by
 obtain⟨t,p,o⟩:=b;obtain⟨g,q,u,_,_⟩:=f;refine⟨_,λ i=>Bt (p i) (q i) (k i) (l i) (n i),λ τ σ H ρ lab D R W=>o τ σ H ρ lab _ R (W.bo.imp λ d _ w v H' s r=>?_)⟩;obtain⟨x,y⟩:=R.shared j s r;cases h:fg d ρ with
 |ok z=>rw[h]at w;exact u τ v d σ H' ρ _ _ _ x y h λ a aG=>w a H' _ aG
 |ex c=>rw[h]at w;exact aX w
 |st=>rw[h]at w;exact aX w
def vS(K:av)(lab:kz)(J:kY)(H:ah)(ds:List D):Prop:=∀i,(ds.length<=i->J.stop i H)/\(i<ds.length->J.go i H/\∀x H',J.yld i H x H'->aE H H'/\∃d,ds[i]? =some d/\aw K (λ p=>(lab p).1<=1) H' x d)
def FU(K:av)(G:fw)(w:dZ)(f:af->ag (List D)):Prop:=∀τ σ H ρ lab (R:kY->ah->Prop),RR K G τ ρ σ H lab->
 iA G (f ρ) (λ ds=>∀J c l b,aE H c->(∀p o,H p=some o->l p=lab p)->RR K G (b++τ) ρ σ c l->(∀a H',(∀q∈b,aw K (λ p=>(a p).1<=1) H' q.1 q.2)->vS K a J H' ds)->R J c)->w σ H R
def rF(C:bB)(E t:Expr)(f:af->ag (List D)):Prop:=∃w,(∀i,pB (C.X i) E t w)/\FU C.K C.G w f
def NG(K:av)(t:bz):dZ:=λ σ H R=>t σ H λ x b=>∃a,x= .ref a/\(((∃xs,bN K b a xs)/\R (Fd K a) b)\/((∃xs,bf K b a xs)/\R (Fe K a) b))
def Ww(m:aY X l tl):pB X E l (NG X.K tl):=by
 intro k s σ H R I h;refine aZ (m k s σ H _ I h) λ v d ⟨x,f,c,r,a,e,n⟩=>?_
 subst e;cases r;have j:∀b∈[d.heap.objs.size],lg X k f b:=λ b t=>by
  have e:b=d.heap.objs.size:=by simpa using t
  rw[e];exact c.fpOk (bc _) (c.hok.fresh (bc _))
 rcases n with ⟨⟨xs,g⟩,q⟩|⟨⟨xs,g⟩,q⟩
 .obtain⟨i,u,p,hz⟩:=c.list g
  refine Ax p.isList ?_;exact⟨_,_,_,_,f,rfl,c.kept (t':=d.toks) λ b o e=>bj _ e,T3 a _,⟨_,dr _ rfl,rfl,rfl⟩,j,q⟩
 .obtain⟨i,u,p,hz⟩:=c.tuple g
  refine u4 (p) ?_;exact⟨_,_,_,_,f,rfl,c.kept (t':=d.toks) λ b o e=>bj _ e,T4 a _,⟨_,dr _ rfl,rfl,rfl⟩,j,q⟩
noncomputable def BZ:D->ag (List D)
 | .tup l=>.ok l
 | .lst l=>.ok l
 | .scr l=>.ok (l.map .int)
 |_=>.st
def eA(fe:af->ag D):af->ag (List D):=λ ρ=>(fe ρ).bd BZ
def NH{K:av}(h:bN K H a xs)(r:az K (λ p=>(lab p).1<=1) H xs ds):vS K lab (Fd K a) H ds:=by
 have l:=r.length;refine λ i=>⟨λ b=>⟨xs,h,by simp_all⟩,λ b=>⟨⟨xs,xs[i]'(Bi l b),h,by simp⟩,λ x H' y=>?_⟩⟩
 obtain⟨e,y⟩:=y;subst e;obtain⟨d,c,f⟩:=r.get (y xs h);exact⟨aE.refl _,d,c,f⟩
def Wx{K:av}(h:bf K H a xs)(r:az K (λ p=>(lab p).1<=1) H xs ds):vS K lab (Fe K a) H ds:=by
 have l:=r.length;refine λ i=>⟨λ b=>⟨xs,h,by simp_all⟩,λ b=>⟨⟨xs,xs[i]'(Bi l b),h,by simp⟩,λ x H' y=>?_⟩⟩
 obtain⟨e,y⟩:=y;subst e;obtain⟨d,c,f⟩:=r.get (y xs h);exact⟨aE.refl _,d,c,f⟩
def jC(n:aA C m e fe)(u:oq m=true:=by rfl):rF C E e (eA fe):=by
 obtain⟨t,x,y⟩:=n;refine⟨NG C.K t,λ i=>by rw[<-C.hK i];exact Ww (x i),λ τ σ H ρ lab A R W=>y τ σ H ρ lab _ R (W.bd.imp λ d _ w v g s r=>?_)⟩;obtain⟨b,j⟩:=R.shared u s r;cases d with
 |tup l=>
  obtain⟨a,xs,rfl,h,q⟩:=j.tup_inv
  .refine⟨_,rfl,.inr ⟨⟨_,h⟩,w _ g _ [(.ref a,.tup l)] s (λ p o e=>iO e) ⟨b.len,b.sl,b.old,b.new,λ z hz=>?_⟩ λ c H' f=>?_⟩⟩
   .rcases bI.mp hz with rfl|hz
    .exact .tup h q
    .exact b.tm z hz
   .have z:=f _ (bW ..)
    obtain⟨_,_,e,h',k⟩:=z.tup_inv;cases e;exact Wx h' k
 |lst l=>
  obtain⟨a,xs,rfl,h,mm,q⟩:=j.lst_inv
  .refine⟨_,rfl,.inl ⟨⟨_,bN.of h⟩,w _ g _ [(.ref a,.lst l)] s (λ p o e=>iO e) ⟨b.len,b.sl,b.old,b.new,λ z hz=>?_⟩ λ c H' f=>?_⟩⟩
   .rcases bI.mp hz with rfl|hz
    .exact .lst h mm q
    .exact b.tm z hz
   .have z:=f _ (bW ..)
    obtain⟨_,_,e,h',_,k⟩:=z.lst_inv;cases e;exact NH (bN.of h') (k.wk λ _ _ _ z=>z.1)
 |scr l=>
  obtain⟨a,rfl,h⟩:=j.scr_inv
  .refine⟨_,rfl,.inl ⟨⟨_,h.sq⟩,w _ g _ [(.ref a,.scr l)] s (λ p o e=>iO e) ⟨b.len,b.sl,b.old,b.new,λ z hz=>?_⟩ λ c H' f=>?_⟩⟩
   .rcases bI.mp hz with rfl|hz
    .exact .scr h
    .exact b.tm z hz
   .have z:=f _ (bW ..)
    obtain⟨_,e,h'⟩:=z.scr_inv;cases e;exact NH h'.sq az.ints
 |_=>exact aX w
end
section
variable{C:bB}{l:Pos}{s:Stmt}{A:List Stmt}{f:af->ax}{e a b:Expr}{es:List Expr}{m:Mode}{I:af->ag D}{ks:List Nat}{fg:D->af->ag af}{u:Expr}{B:af->ag (List D)}{g:af->ag (List D)}
noncomputable def eB(l h:Int):List D:=(dP (h-l).toNat).map λ(k:Nat)=>.int (l+(k:Int))
noncomputable def hI:List D->ag (List D)
 |[.int j]=>if -(2^62)<=j/\j<2^62 then .ok (eB 0 j)else .st
 |_=>.st
def gs(r:List D->ag (List D))(g:af->ag (List D)):af->ag (List D):=λ ρ=>(g ρ).bd r
def Wy{K:av}{l a:Int}:vS K lab (yp l (a-l).toNat) H (eB l a):=by
 have b:(eB l a).length=(a-l).toNat:=by unfold eB;simp
 refine λ i=>⟨λ h=>by show(a-l).toNat<=i;simp_all,λ h=>⟨by show i<(a-l).toNat;simp_all,λ x H' y=>?_⟩⟩
 obtain⟨e,rfl⟩:=y;subst e;refine⟨aE.refl _,_,?_,.int _⟩;unfold eB;rw[fM,Dq (by simp_all)];rfl
def rG(ha:fD C m [a] g)(d:C.mg "range"=none)(e:∀i,aW [a] (C.X i).env=[(false,eval a (C.X i).env)]:=by z_go)(f:∀i,cN (C.X i) "range":=by z_go):rF C u (.Call (.Name "range" p) [a] [] l) (gs hI g):=by
 obtain⟨t,k,n⟩:=ha;refine⟨_,λ i=>T9 (f i) (by rw[(C.cx i).2.2.2.1];exact d) (k i) (e i),λ τ σ H ρ lab q R W=>n τ σ H ρ lab _ R (W.bd.imp λ ds _ w v o s r=>?_)⟩;unfold hI at w;split at w
 .rename_i j _
  split at w
  .rename_i b
   cases r with
   |cons h r=>
    cases h;cases r;refine⟨j,rfl,b.1,b.2,?_⟩;have z:=w (yp 0 (j-0).toNat) o lab [] s (λ _ _ _=>rfl) (R.up s) λ c H' _=>Wy
    rwa [Int.sub_zero]at z
  .exact aX w
 .exact aX w
noncomputable def forL(fg:D->af->ag af)(b:af->ax):List D->af->ax
 |[],ρ=>.nx ρ
 |d::ds,ρ=>match fg d ρ with
  | .ok c=>match b c with
   | .nx a=>forL fg b ds a
   | .ct a=>forL fg b ds a
   | .bk a=>.nx a
   |o=>o
  |_=>.st
def gh(B:af->ag (List D))(fg:D->af->ag af)(b:af->ax):af->ax:=λ ρ=>(B ρ).bo λ ds=>forL fg b ds ρ
def kC(y:rF C u e B)(K:ou C u ks fg)(L:jd C A f)(M:∀i,∀x,sR e (C.X i).env x=pure x:=by intro _ _;rfl):hG C (.For u e A [] l) (gh B fg f):=by
 obtain⟨wi,N,bw⟩:=y;obtain⟨gg,O,P,_,g4⟩:=K;obtain⟨tb,Q,S⟩:=L;refine⟨_,λ i=>Ub (C.own i) (C.calm i) (N i) (O i) (Q i) (M i),λ τ σ H ρ lab G R W=>bw τ σ H ρ lab _ R (W.bo.imp λ ds _ w J H1 s m s1 _ T U=>?_)⟩;refine⟨λ i n o H'=>∃k g,RR C.K C.G (m++τ) k o H' g/\n=ds.length-i/\i<=ds.length/\nq C.K C.G τ (forL fg f (ds.drop i) k) G,⟨ds.length,ρ,s,T,by rfl,Bd,w⟩,?_⟩;rintro i n o H' ⟨k,g,v,rfl,y,b⟩;have I:=U g H' λ q V=>v.tm q (fQ _ V)
 by_cases t:i<ds.length
 .obtain⟨X,Y⟩:=(I i).2 t
  refine .inr ⟨X,λ j r=>∃h a,RR C.K C.G (m++τ) h j r a/\nq C.K C.G τ (forL fg f (ds.drop (i+1)) h) G,λ j r ⟨h,a,aG,Z⟩=>⟨ds.length-(i+1),yd t,h,a,aG,rfl,t,Z⟩,λ x r hy=>?_⟩;obtain⟨s2,d,ed,rx⟩:=Y x r hy;replace v:=v.up s2;have z:ds.drop i=d::ds.drop (i+1):=by
   rw[sx t]
   have:=en t
   rw[ed]at this;cases this;rfl
  rw[z]at b;unfold forL at b;cases eg:fg d k with
  |ex c=>rw[eg]at b;exact aX b
  |st=>rw[eg]at b;exact aX b
  |ok p=>
   rw[eg]at b;refine P (m++τ) x d o r k g _ p v rx eg λ D E=>S (m++τ) D r p g _ E ?_
   dsimp only at b;cases eb:f p with
   |nx h=>rw[eb]at b;exact λ j F a aG=>⟨h,a,aG,b⟩
   |ct h=>rw[eb]at b;exact λ j F a aG=>⟨h,a,aG,b⟩
   |bk h=>rw[eb]at b;exact λ j F a aG=>b j F a aG.drop
   |rt d=>rw[eb]at b;exact b
   |ex c=>rw[eb]at b;exact b
   |st=>rw[eb]at b;exact b
 .have e:i=ds.length:=ye y t
  subst e;rw[Dw]at b;exact .inl ⟨(I _).1 (bc _),b o H' g v.drop⟩
def mw(c:af->ag Bool)(b:af->ax):Nat->af->ax
 |0,_=>.st
 |n+1,ρ=>(c ρ).bo λ k=>if k=true then(match b ρ with
   | .nx a=>mw c b n a
   | .ct a=>mw c b n a
   | .bk a=>.nx a
   |o=>o)else .nx ρ
def fuel:Nat:=1000000
def tT(c:af->ag Bool)(b:af->ax):af->ax:=mw c b fuel
def NI(r:gS C c fc)(t:jd C A f):hG C (.While c A [] l) (tT fc f):=by
 obtain⟨z,c1,c2⟩:=r;obtain⟨tb,u,v⟩:=t;refine⟨_,λ i=>T2 (C.own i) (c1 i) (u i),λ τ σ H ρ lab D R W=>?_⟩;refine⟨λ n h H'=>∃g e,RR C.K C.G τ g h H' e/\nq C.K C.G τ (mw fc f n g) D,⟨fuel,ρ,lab,R,W⟩,?_⟩;rintro n h H' ⟨g,e,m,o⟩;cases n with
 |zero=>exact aX o
 |succ n=>
  refine c2 τ h H' g e _ m (nq.bo (o) |>.imp λ k _ w p s=>?_);cases k with
  |false=>
   rw[if_neg cL]at w ⊢;exact w h p e (m.up s)
  |true=>
   rw[if_pos rfl]at w ⊢;refine⟨λ j q=>∃b a,RR C.K C.G τ b j q a/\nq C.K C.G τ (mw fc f n b) D,λ j q ⟨b,a,aG,x⟩=>⟨n,il n,b,a,aG,x⟩,?_⟩;refine v τ h p g e _ (m.up s) ?_;cases eb:f g with
   |nx b=>rw[eb]at w;exact λ j y a aG=>⟨b,a,aG,w⟩
   |ct b=>rw[eb]at w;exact λ j y a aG=>⟨b,a,aG,w⟩
   |bk b=>rw[eb]at w;exact w
   |rt d=>rw[eb]at w;exact w
   |ex c=>rw[eb]at w;exact w
   |st=>rw[eb]at w;exact w
def FV(x:Str)(g:af->ag (List D)):af->ax:=λ ρ=>(g ρ).bo λ ds=>if ds.length<=aI then .ex x else .st
def Wz{rest:List Expr}(a:C.dOk=true)(b:C.mg x=some (.ref Ca))(c:C.G.cl x=Ca)(e:cJ C.K Ca)(ha:fD C m (y::rest) g)(f:∀i,aW (y::rest) (C.X i).env=(false,eval y (C.X i).env)::aW rest (C.X i).env:=by z_go)(h:∀i,(gk cpos (aW rest (C.X i).env)).any (·.1)=false:=by z_go)(d:Nd x:=by decide)(j:∀i,cN (C.X i) x:=by z_go):hG C (.Raise (some (.Call (.Name x np) (y::rest) [] cpos)) none l) (FV x g):=by
 obtain⟨t,k,n⟩:=ha;refine⟨_,λ i=>VS (C.dcx a i) (C.calm i) (by rw[(C.cx i).2.2.2.1];exact b) (by rw[C.hK i];exact e) (j i) (k i) (f i) (h i) d,λ τ σ H ρ lab D R W=>n τ σ H ρ lab _ R (W.bo.imp λ ds _ w v o s r=>?_)⟩;by_cases hz:ds.length<=aI
 .rw[if_pos hz]at w
  refine⟨by rw[r.length];exact hz,?_⟩
  have:=w o (R.old.trans s)
  rwa [c]at this
 .rw[if_neg hz]at w
  exact aX w
def kd(K:av)(c:Str->Addr)(n:Nat)(F:List D->ag D):ka:=λ s H Q E=>∃ds,s.length=n/\az K (λ _=>True) H s ds/\iA ⟨H,E,c⟩ (F ds) (λ d=>∀v H',aE H H'->aw K (λ p=>H p=none) H' v d->Q v H')
def bt(F:List D->ag D)(g:af->ag (List D)):af->ag D:=λ ρ=>(g ρ).bd F
def WA{K:av}(b:∀ρ ds,g ρ= .ok ds->ds.length=n)(h:BO K G m t g):gE K G (some []) (yr (kd K G.cl n F) [] G.E t) (bt F g):=by
 intro τ σ H ρ lab Q R W;refine h τ σ H ρ _ _ R (W.bd.imp λ ds e w i j s r=>⟨ds,by rw[fo,r.length];exact b ρ ds e,by rw[fo];exact r.wk λ _ _ _ _=>trivial,?_⟩);cases a:F ds with
 |ok d=>
  rw[a]at w;exact λ v H' s' f=>w v H' (s.trans s') (f.wk λ p o _ z=>.inl (s.free z))
 |ex c=>rw[a]at w;exact λ H' s'=>w H' ((R.old.trans s).trans s')
 |st=>rw[a]at w;assumption
variable{k:Nat}{fn:Addr}{c:cB}{ps:List Str}{x:Str}{p:Pos}{F:List D->ag D}{n:Nat}
def WB(d:fS C.prog C.w C.K C.mg C.base (eh C.prog C.w) k fn c ps (kd C.K C.G.cl n F))(r:k<=C.k)(f:C.mg x=some (.ref fn))(A:mX C.K (.ref fn)=true)(j:Binds C.K c ps [])(ha:fD C m (e::es) g)(o:∀ρ ds,g ρ= .ok ds->ds.length=n)(h:Nd x:=by decide)(q:∀i,aW (e::es) (C.X i).env=(false,eval e (C.X i).env)::aW es (C.X i).env:=by z_go)(hpl:∀i,(gk l (aW es (C.X i).env)).any (·.1)=false:=by z_go)(s:∀i,cN (C.X i) x:=by z_go):aA C (some []) (.Call (.Name x p) (e::es) [] l) (bt F g):=by
 obtain⟨t,u,v⟩:=ha;refine⟨_,λ i=>?_,WA o v⟩;obtain⟨w,y,a,b,z⟩:=C.cx i;refine UI (by rw[w,y,a,b,z];exact d) ((C.room i).mono r) (s i) (by rw[b];exact f) (by rw[a];assumption) (by rw[a];exact j) .nil (C.pass i) (u i) h (q i) (hpl i)
def WC(h:aj ρ= .ok ds):ds.length=0:=by cases h;rfl
def WD(h:∀ρ ds,g ρ= .ok ds->ds.length=n):∀ρ ds,ae I g ρ= .ok ds->ds.length=n+1:=λ ρ ds e=>by
 obtain⟨d,_,e⟩:=oi e;obtain⟨r,a,e⟩:=oi e;cases e;rw[eX,h ρ r a]
end
noncomputable def bL(mg:Str->Option Value):Str->Addr:=λ x=>match mg x with
 |some (.ref a)=>a
 |_=>0
abbrev vT(P:aR)(w:World)(K:av)(mg:Str->Option Value)(base:Heap)(N:List Str)(q:Str)(sc:Scope)(f:Addr)(c:Value)(A:aS)(o:List Env)(s:ao)(H:ah)(E:dC)(k:Nat)(h:ee k (A.deeper (gA q sc s.heap.objs.size f c))):bB where
 ι:=Unit
 X:=λ _=>m9 (eh P w) P w K mg base N q sc f c A o s H E
 prog:=P
 w:=w
 K:=K
 mg:=mg
 base:=base
 k:=k
 G:=⟨H,E,bL mg⟩
 cx:=λ _=>⟨rfl,rfl,rfl,rfl,rfl⟩
 calm:=λ _=>rfl
 room:=λ _=>h
 own:=λ _=>gc.own gc.of
 pass:=λ _=>gc.pass gc.of
 dOk:=true
 dcx:=λ _ _=>gc.of
noncomputable def dw(n:Nat)(ds:List D):af:=ds.map .sh++dO (n-ds.length) .no
noncomputable def dN(n:Nat)(f:af->ax):List D->ag D:=λ ds=>match f (dw n ds)with
 | .nx _=>.ok .non
 | .rt d=>.ok d
 | .ex c=>.ex c
 |_=>.st
theorem RR.start{K:av}(r:az K (λ _=>True) H vs ds):RR K ⟨H,E,cl⟩ [] (dw N.length ds) (start N vs) H (λ _=>(0,0)):=by
 have l:=r.length;refine⟨by unfold dw L2.start;simp[l],λ i s e=>?_,aE.refl H,λ p b=>absurd rfl b,λ q c=>by cases c⟩;unfold dw at e;by_cases h:i<ds.length
 .rw[nI (by simpa using h),fM]at e
  cases a:ds[i]? with
  |none=>rw[a]at e;cases e
  |some d=>
   rw[a]at e;cases e;obtain⟨x,f,g⟩:=r.getD a;refine .inr ⟨x,?_,g.wk λ _ _ _ _=>dn _⟩;unfold L2.start;rw[nI (by simpa[l]using h),fM,f];rfl
 .rw[oS (by simpa using h),Ju]at e
  split at e
  .cases e;exact .inl rfl
  .cases e
section
variable{P:aR}{w:World}{K:av}{mg:Str->Option Value}{base:Heap}
def WE{x q:Str}{st:Stmt}(F:L2.Fun K x q st fn fd)(S:dk N ps (bg st))
  (b:∀v A o s H E h,jd (vT P w K mg base N q (bg st) fn v A o s H E k h) (iz st) f):
  fS P w K mg base (eh P w) (k+1) fn fd ps (kd K (bL mg) ps.length (dN N.length f)):=by
 refine F.okX S (λ a H Q E ⟨ds,l,_⟩=>l) λ v A o s H a Q E h ⟨ds,l,r,W⟩=>?_
 obtain⟨t,g,i⟩:=b v A o s H E h;refine⟨t,g (),i [] _ H _ _ _ (RR.start r) ?_⟩;unfold dN at W;cases e:f (dw N.length ds)with
 |nx ρ=>rw[e]at W;exact λ j H' lab R=>W .non H' R.old .non
 |rt d=>rw[e]at W;assumption
 |ex c=>rw[e]at W;exact W
 |bk ρ=>rw[e]at W;exact aX W
 |ct ρ=>rw[e]at W;exact aX W
 |st=>rw[e]at W;exact aX W
def WG{st:Stmt}(F:L2.Fun K x q st fn fd)(S:dk N ps (bg st))
  (h:∀c A o s H E r,jd (vT P w K mg base N q (bg st) fn c A o s H E k r) (iz st) f)(a:ps.length=n)(b:dN N.length f=FF):
  fS P w K mg base (eh P w) (k+1) fn fd ps (kd K (bL mg) n FF):=by
 subst a b;exact WE F S h
end
def bU.or(h:bU X f r)(h':bU X f r'):bU X f (λ x y H Q=>r x y H Q\/r' x y H Q):=by
 intro k s σ H x y v u Q I a b q;rcases q with q|q
 .exact h _ s σ H x y v u Q I a b q
 .exact h' _ s σ H x y v u Q I a b q
def fE.or{K:av}(h:fE K r fd)(h':fE K r' fd'):fE K (λ x y H Q=>r x y H Q\/r' x y H Q) (λ d e=>match fd d e with
  | .ok z=>.ok z
  |_=>fd' d e):=by
 intro A x y d e H Q z f g a q;dsimp only at a;cases b:fd d e with
 |ok w=>rw[b]at a;cases a;exact .inl (h A x y d e H Q _ f g b q)
 |ex c=>rw[b]at a;exact .inr (h' A x y d e H Q z f g a q)
 |st=>rw[b]at a;exact .inr (h' A x y d e H Q z f g a q)
section
variable{K:av}
noncomputable def bw(p:Int->Int->Bool)(g:Int->Int->D):D->D->ag D
 | .int i,.int j=>if p i j=true then .ok (g i j)else .st
 |_,_=>.st
def FW{g:Int->Int->Int}(b:∀i j,p i j=true->c i j):fE K (tH c λ i j=>.int (g i j)) (bw p λ i j=>.int (g i j)):=by
 intro A x y d e H Q z r f a q;unfold bw at a;split at a
 .rename_i i j
  split at a
  .rename_i h
   cases a;obtain rfl:=r.int_inv;obtain rfl:=f.int_inv;exact⟨i,j,rfl,rfl,b i j h,q _ H (aE.refl H) (.int _)⟩
  simp_all
 simp_all
def WH{g:Int->Int->Int}:fE K (i6 λ i j=>.int (g i j)) (bw (λ _ _=>true) λ i j=>.int (g i j)):=by
 intro A x y d e H Q z r b a q;unfold bw at a;split at a
 .rename_i i j
  cases a;obtain rfl:=r.int_inv;obtain rfl:=b.int_inv;exact⟨i,j,rfl,rfl,q _ H (aE.refl H) (.int _)⟩
 simp_all
def yF{g:Int->Int->Bool}:fE K (i6 λ i j=>.bl (g i j)) (bw (λ _ _=>true) λ i j=>.bl (g i j)):=by
 intro A x y d e H Q z r b a q;unfold bw at a;split at a
 .rename_i i j
  cases a;obtain rfl:=r.int_inv;obtain rfl:=b.int_inv;exact⟨i,j,rfl,rfl,q _ H (aE.refl H) (.bl _)⟩
 simp_all
def B0{g:Int->Int->Int}:∀x y z,bw p (λ i j=>.int (g i j)) x y= .ok z->imm z=true:=by
 intro x y z e;unfold bw at e;split at e
 .split at e
  .cases e;rfl
  contradiction
 lia
def NJ{g:Int->Int->Bool}:∀x y z,bw p (λ i j=>.bl (g i j)) x y= .ok z->imm z=true:=by
 intro x y z e;unfold bw at e;split at e
 .split at e
  .cases e;rfl
  grind
 lia
noncomputable def bZ:D->D->ag D
 | .int i,.int j=>.ok (.int (i+j))
 | .lst l,.lst m=>if l.length+m.length<=aI then .ok (.lst (l++m))else .st
 | .tup l,.tup m=>if l.length+m.length<=aI then .ok (.tup (l++m))else .st
 |_,_=>.st
def yG(K:av):aG:=λ x y H Q=>∃a b xs s,x= .ref a/\y= .ref b/\bf K H a xs/\bf K H b s/\xs.length+s.length<=aI/\
 (xs=[]->Q (.ref b) H)/\(s=[]->Q (.ref a) H)/\nh H (.tup (xs++s)) Q
def WI:bU X (hZ .Add) (yG X.K):=by
 intro o s σ H x y v u Q I r c h;obtain⟨a,b,xs,f,rfl,rfl,ha,d,hz,q,g,j⟩:=h;by_cases e:xs=[]
 .subst e
  cases r;cases c;obtain⟨t,k,l,_⟩:=I.tuple ha;obtain⟨i,w,m,_⟩:=I.tuple d;cases k;exact HT.aKc l m ⟨.ref b,H,I,rfl,q rfl⟩
 .exact U0 _ s σ H _ _ v u Q I r c ⟨a,b,xs,f,rfl,rfl,ha,d,e,hz,g,λ _ p n=>j.at n⟩
def FX(K:av):aG:=λ x y H Q=>i6 (λ i j=>.int (i+j)) x y H Q\/(Fv x y H Q\/yG K x y H Q)
def WJ:bU X (hZ .Add) (FX X.K):=bU.or Ug (bU.or Fw WI)
def WK:fE K (FX K) bZ:=by
 intro A x y d e H Q z i j a q;unfold bZ at a;split at a
 .cases a;obtain rfl:=i.int_inv;obtain rfl:=j.int_inv;exact .inl ⟨_,_,rfl,rfl,q _ H (aE.refl H) (.int _)⟩
 .split at a
  .rename_i l
   cases a;obtain⟨_,_,rfl,h,t,c⟩:=i.lst_inv;obtain⟨_,_,rfl,g,u,f⟩:=j.lst_inv;refine .inr (.inl ⟨_,_,_,_,rfl,rfl,h,g,by rw[c.length,f.length];exact l,λ p H' s k n=>q _ H' s (.lst k (.inl n) ?_)⟩);exact(((c.wk λ _ _ _ z=>z.1).append (f.wk λ _ _ _ z=>z.1)).wk (A':=λ q=>(H q=none\/A q)/\q≠p) λ q o e z=>⟨.inr z,λ m=>by subst m;rw[n]at e;cases e⟩).up s
  .cases a
 .split at a
  .rename_i l
   cases a;obtain⟨_,_,rfl,h,c⟩:=i.tup_inv;obtain⟨_,_,rfl,g,f⟩:=j.tup_inv;have r:=c.wk (A':=λ p=>H p=none\/A p) λ _ _ _ z=>.inr z
   have b:=f.wk (A':=λ p=>H p=none\/A p) λ _ _ _ z=>.inr z
   refine .inr (.inr ⟨_,_,_,_,rfl,rfl,h,g,by rw[c.length,f.length];exact l,λ e=>?_,λ e=>?_,λ p H' s k n=>q _ H' s (.tup (bf.of k) ((r.append b).up s))⟩)
   .subst e
    cases r;exact q _ H (aE.refl H) (.tup g b)
   .subst e
    cases b;rw[fo]at q;exact q _ H (aE.refl H) (.tup h r)
  .cases a
 .cases a
noncomputable def fH:D->D->ag D
 | .int i,.int j=>if (decide (-(2^64)<i)&&decide (i<2^64))||(decide (-(2^64)<j)&&decide (j<2^64))then .ok (.int (i*j))else .st
 | .lst l,.int k=>if decide (-(2^63)<=k)&&decide (k<2^63)&&decide (l.length*k.toNat<=aI)&&er l then .ok (.lst (dO k.toNat l).flatten)else .st
 |_,_=>.st
theorem az.rep(r:az K A H xs ds):∀k:Nat,az K A H (dO k xs).flatten (dO k ds).flatten
 |0=>.nil
 |k+1=>r.append (az.rep r k)
def NK:aG:=λ x y H Q=>tH Bx (λ i j=>.int (i*j)) x y H Q\/M5 x y H Q
def WL:bU X (hZ .Mult) NK:=bU.or Ui Vi
def WM:fE K NK fH:=by
 intro A x y d e H Q z r c a q;unfold fH at a;split at a
 .split at a
  .rename_i h
   cases a;obtain rfl:=r.int_inv;obtain rfl:=c.int_inv;refine .inl ⟨_,_,rfl,rfl,?_,q _ H (aE.refl H) (.int _)⟩;simp only[Bool.or_eq_true,cF,decide_eq_true_eq]at h;exact h
  .cases a
 .split at a
  .rename_i h
   simp only[cF,decide_eq_true_eq]at h;cases a;obtain⟨_,_,rfl,g,m,f⟩:=r.lst_inv;obtain rfl:=c.int_inv;refine .inr ⟨_,_,_,rfl,rfl,g,h.1.1.1,h.1.1.2,by rw[f.length];exact h.1.2,λ p b=>q _ _ (eG b _) (.lst dM (.inl b) ?_)⟩;exact((f.rep _).wk λ q o e z=>⟨.inr z.1,λ i=>by subst i;rw[b]at e;cases e⟩).up (eG b _)
  .cases a
 .cases a
noncomputable def intsOf:List D->Option (List Int)
 |[]=>some []
 | .int i::r=>(intsOf r).map (i::·)
 |_=>none
theorem lx:∀{l:List D} {ns:List Int},intsOf l=some ns->l=ns.map .int
 |[],ns,h=>by cases h;rfl
 | .int i::r,ns,h=>by
  simp only[intsOf,DH]at h;obtain⟨m,a,rfl⟩:=h;rw[lx a];rfl
 | .non::_,_,h=>by cases h
 | .bl _::_,_,h=>by cases h
 | .str _::_,_,h=>by cases h
 | .tup _::_,_,h=>by cases h
 | .lst _::_,_,h=>by cases h
 | .dct _ _::_,_,h=>by cases h
 | .set _::_,_,h=>by cases h
 | .scr _::_,_,h=>by cases h
theorem pL:∀ns:List Int,intsOf (ns.map .int)=some ns
 |[]=>rfl
 |n::ns=>by simp only[dH,intsOf,pL ns,sL]
noncomputable def vU(p:List Int->List Int->Bool):D->D->ag D
 | .tup l,.tup m=>match intsOf l,intsOf m with
  |some ns,some s=>.ok (.bl (p ns s))
  |_,_=>.st
 |_,_=>.st
def NL(r:aw K A H x (.tup l))(e:intsOf l=some ns):∃a,x= .ref a/\bf K H a (ns.map V.int):=by
 have:=lx e
 subst this;cases r with
 |tup h r=>
  have:=r.ints_of
  simp_all
def NM(h:∀x y H Q,(∃a b ns m,x= .ref a/\y= .ref b/\bf K H a (ns.map V.int)/\bf K H b (m.map V.int)/\Q (.bl (p ns m)) H)->r x y H Q):fE K r (vU p):=by
 intro A x y d e H Q z f g c q;unfold vU at c;split at c
 .split at c
  .rename_i ns m i j
   cases c;obtain⟨a,rfl,ha⟩:=NL f i;obtain⟨b,rfl,k⟩:=NL g j;exact h _ _ _ _ ⟨a,b,ns,m,rfl,rfl,ha,k,q _ H (aE.refl H) (.bl _)⟩
  simp_all
 .cases c
noncomputable def nr:D->D->ag D:=λ d e=>match bw (λ _ _=>true) (λ i j=>.bl (decide (i<j))) d e with
 | .ok z=>.ok z
 |_=>vU HT.lexLt d e
noncomputable def B1:D->D->ag D:=λ d e=>match bw (λ _ _=>true) (λ i j=>.bl (decide (i<=j))) d e with
 | .ok z=>.ok z
 |_=>vU HT.lexLe d e
noncomputable def kD:D->D->ag D:=bw (λ _ _=>true) (λ i j=>.bl (decide (j<i)))
def yH:D->D->ag D:=bw (λ _ _=>true) (λ i j=>.bl (decide (j<=i)))
def WN(h:X.A.units<cLine):bU X (eK .Lt) (λ x y H Q=>i6 (λ i j=>.bl (decide (i<j))) x y H Q\/BC X.K x y H Q):=bU.or Uo (UY h)
def WO(h:X.A.units<cLine):bU X (eK .LtE) (λ x y H Q=>i6 (λ i j=>.bl (decide (i<=j))) x y H Q\/BE X.K x y H Q):=bU.or Up (Vx h)
def NO:fE K (λ x y H Q=>i6 (λ i j=>.bl (decide (i<j))) x y H Q\/BC K x y H Q) nr:=fE.or yF (NM λ _ _ _ _ h=>h)
def WQ:fE K (λ x y H Q=>i6 (λ i j=>.bl (decide (i<=j))) x y H Q\/BE K x y H Q) B1:=fE.or yF (NM λ _ _ _ _ h=>h)
def WR(e:vU p x y= .ok z):imm z=true:=by
 unfold vU at e;split at e
 .split at e
  .cases e;rfl
  lia
 lia
def WS:∀x y z,nr x y= .ok z->imm z=true:=by
 intro x y z e;unfold nr at e;split at e
 .rename_i w h;cases e;exact NJ _ _ _ h
 .exact WR e
noncomputable def iE(l:List D)(i:Int):ag D:=match nf l i with
 |some d=>.ok d
 |none=>.st
noncomputable def aF:D->D->ag D
 | .tup l,.int i=>iE l i
 | .lst l,.int i=>iE l i
 | .scr l,.int i=>iE (l.map .int) i
 |_,_=>.st
theorem az.at(r:az K A H xs ds)(e:nf ds i=some d):∃x,nf xs i=some x/\aw K A H x d:=by
 unfold nf at e ⊢;rw[r.length];cases h:me _ i with
 |none=>simp_all
 |some j=>
  rw[h]at e;obtain⟨x,a,b⟩:=r.getD e;exact⟨x,a,b⟩
def WT:fE K (Fo K) aF:=by
 intro A x y d e H Q z g i a q;unfold aF at a;split at a
 .unfold iE at a
  split at a
  .rename_i w b
   cases a;obtain⟨_,_,rfl,h,r⟩:=g.tup_inv;obtain rfl:=i.int_inv;obtain⟨v,c,f⟩:=r.at b;exact .inr (.inl ⟨_,_,_,v,rfl,rfl,h,c,q v H (aE.refl H) (f.wk λ _ _ _ z=>.inr z)⟩)
  .cases a
 .unfold iE at a
  split at a
  .rename_i w b
   cases a;obtain⟨_,_,rfl,h,m,r⟩:=g.lst_inv;obtain rfl:=i.int_inv;obtain⟨v,c,f⟩:=r.at b;exact .inl ⟨_,_,_,v,rfl,rfl,bN.of h,c,q v H (aE.refl H) (f.wk λ _ _ _ z=>.inr z.1)⟩
  .cases a
 .unfold iE at a
  split at a
  .rename_i w b
   cases a;obtain⟨_,rfl,h⟩:=g.scr_inv;obtain rfl:=i.int_inv;obtain⟨v,c,f⟩:=(az.ints (K:=K) (A:=A) (H:=H)).at b;exact .inl ⟨_,_,_,v,rfl,rfl,h.sq,c,q v H (aE.refl H) (f.wk λ _ _ _ z=>.inr z)⟩
  .cases a
 .cases a
noncomputable def cw:List D->ag D
 |[.tup l]=>.ok (.int l.length)
 |[.lst l]=>.ok (.int l.length)
 |[.scr l]=>.ok (.int l.length)
 |_=>.st
def NP:om K (λ xs H Q=>∃p y,xs=[.ref p]/\(bN K H p y\/bf K H p y)/\Q (.int y.length) H) cw:=by
 intro A xs ds H Q z r e q;unfold cw at e;split at e
 .cases e
  obtain⟨_,rfl,a⟩:=r.one_inv;obtain⟨_,_,rfl,h,r⟩:=a.tup_inv;exact⟨_,_,rfl,.inr h,by rw[r.length];exact q _ H (aE.refl H) (.int _)⟩
 .cases e
  obtain⟨_,rfl,a⟩:=r.one_inv;obtain⟨_,_,rfl,h,m,r⟩:=a.lst_inv;exact⟨_,_,rfl,.inl (bN.of h),by rw[r.length];exact q _ H (aE.refl H) (.int _)⟩
 .cases e
  obtain⟨_,rfl,a⟩:=r.one_inv;obtain⟨_,rfl,h⟩:=a.scr_inv;exact⟨_,_,rfl,.inl h.sq,by rw[bb];exact q _ H (aE.refl H) (.int _)⟩
 simp_all
def NQ:∀x z,cw x= .ok z->imm z=true:=by
 intro x z e;unfold cw at e;split at e<;>first|(cases e;rfl)|lia
noncomputable def rH:D->String
 | .non=>"NoneType"| .bl _=>"bool"| .int _=>"int"| .str _=>"str"| .tup _=>"tuple"| .lst _=>"list"| .dct _ _=>"dict"| .set _=>"set"| .scr _=>"script"| .fn _=>"function"| .itm _ _=>"items"| .itx _ _=>"items"
noncomputable def jD(T:String):D->ag D:=λ d=>if ng (rH d) T true=true then .ok (.bl true)else if ng (rH d) T false=true then .ok (.bl false)else .st
def NR(K:av)(T:String):List V->ah->br->Prop:=λ xs H Q=>∃x d A b,xs=[x,.ty T]/\aw K A H x d/\ng (rH d) T b=true/\Q (.bl b) H
def WU:fC X (.builtin "isinstance") (NR X.K T):=by
 intro k s σ H xs us Q I v h;obtain⟨x,d,A,b,rfl,g,ok,q⟩:=h;induction g using aw.cs with
 |tup h r=>
  obtain⟨u,i,rfl,a,w⟩:=vals2 v;cases a;cases w;obtain⟨t,_,⟨o,e,f,_⟩,_⟩:=I.tuple h;exact kq Lw I.kIn ⟨o,e,f⟩ (Fu ok) (λ z=>nomatch z) λ j=>⟨.bl b,H,I.tok _,rfl,q⟩
 |set h m S nd=>cases b<;>simp[ng,rH]at ok
 |scr h=>cases b<;>simp[ng,rH]at ok
 |fn h=>cases b<;>simp[ng,rH]at ok
 |itm h=>cases b<;>simp[ng,rH]at ok
 |itx h=>cases b<;>simp[ng,rH]at ok
 |non=>exact vC k s σ H _ us Q I v ⟨_,T,_,b,rfl,.non,ok,q⟩
 |bl c=>exact vC k s σ H _ us Q I v ⟨_,T,_,b,rfl,.bl c,ok,q⟩
 |int c=>exact vC k s σ H _ us Q I v ⟨_,T,_,b,rfl,.int c,ok,q⟩
 |str c=>exact vC k s σ H _ us Q I v ⟨_,T,_,b,rfl,.str c,ok,q⟩
 |lst h m r=>exact vC k s σ H _ us Q I v ⟨_,T,_,b,rfl,.lst h,ok,q⟩
 |dK h m r=>exact vC k s σ H _ us Q I v ⟨_,T,_,b,rfl,.dK h,ok,q⟩
 |dT h m r=>
  obtain⟨u,i,rfl,a,w⟩:=vals2 v;cases a;cases w;obtain⟨⟨_,_,_,o,_,_,_,e,f,_⟩,_⟩:=(show fZ X.prog X.w H s.heap _ (FI _ _)from I.hok _ _ h.at_);exact kq ED I.kIn ⟨o,e,f.1⟩ (Fu ok) (λ z=>nomatch z) λ j=>⟨.bl b,H,I.tok _,rfl,q⟩
end
section
variable{C:bB}{o p b:Pos}{m:Mode}{a:Expr}{f:af->ag D}
def pM(ha:aA C m a f)(n:C.mg "isinstance"=none)(c:C.mg x=none)(q:x≠"__name__":=by decide)(u:Nd x:=by decide)(k:∀i,aW [a,.Name x b] (C.X i).env=(false,eval a (C.X i).env)::aW [.Name x b] (C.X i).env:=by z_go)(hpl:∀i,(gk o (aW [.Name x b] (C.X i).env)).any (·.1)=false:=by z_go)(y:∀i,cN (C.X i) "isinstance":=by z_go)(A:fu "isinstance"=some (.builtin "isinstance"):=by f_are)(g:∀i,cN (C.X i) x:=by z_go)(j:fu x=some (.type T):=by f_are):
  aA C (some []) (.Call (.Name "isinstance" p) [a,.Name x b] [] o) (ml (jD T) f):=by
 obtain⟨t,B,D⟩:=ha;refine⟨md (NR C.K T) (i7 t (i7 (m7 (.ty T)) j9)),λ i=>?_,λ τ σ H ρ lab Q R W=>?_⟩
 .rw[<-C.hK i]
  exact tJ WU (y i) (by rw[(C.cx i).2.2.2.1];exact n) A (dv (B i) (dv (Mj (v:=.ty T) (g i) (by rw[(C.cx i).2.2.2.1];exact c) j rfl q u) hD) (k i)) (by decide) (by decide) (k i) (hpl i)
 .refine D τ σ H ρ lab _ R (W.bd.imp λ d _ w x l s r=>?_)
  obtain⟨z,e,w⟩:=w.okD;unfold jD at e;split at e
  .rename_i h;cases e;exact⟨x,d,_,true,rfl,r,h,w _ l s (.bl _)⟩
  .split at e
   .rename_i h;cases e;exact⟨x,d,_,false,rfl,r,h,w _ l s (.bl _)⟩
   .cases e
end
noncomputable def nt:Slot->Slot
 | .ow d=>.sh d
 | .nw d=>.sh d
 | .oz d=>.sh d
 | .o2 l=>.sh (.lst (l.map .lst))
 |s=>s
noncomputable def shE(ρ:af):af:=ρ.map nt
noncomputable def je(js:ku)(σ:L2.St):L2.St:=js.map λ o=>o.bind λ j=>(σ[j]?).join
noncomputable def fJ(js:ku)(ρ:af):af:=js.map λ o=>match o with
 |none=>.no
 |some j=>(ρ[j]?).getD .no
def WV{K:av}(h:i8 K H lab i v s):∃d,(s= .no\/nt s= .sh d)/\(s= .no\/aw K (λ _=>True) H v d):=by
 cases s with
 |no=>exact⟨.non,.inl rfl,.inl rfl⟩
 |sh d=>exact⟨d,.inr rfl,.inr (aw.wk (λ _ _ _ _=>trivial) h)⟩
 |nw d=>exact⟨d,.inr rfl,.inr (aw.wk (λ _ _ _ _=>trivial) h)⟩
 |ow d=>exact⟨d,.inr rfl,.inr (aw.wk (λ _ _ _ _=>trivial) h.1)⟩
 |oz d=>exact⟨d,.inr rfl,.inr (aw.wk (λ _ _ _ _=>trivial) (Nu h))⟩
 |o2 l=>exact⟨_,.inr rfl,.inr (aw.wk (λ _ _ _ _=>trivial) (BP h))⟩
theorem RR.shE{K:av}(R:RR K G τ ρ σ H lab):RR K G τ (shE ρ) σ H (λ _=>(0,0)):=by
 refine⟨by unfold VL.shE;rw[bb];exact R.len,λ i s e=>?_,R.old,λ p c=>absurd rfl c,λ q f=>(R.tm q f).wk λ _ _ _ _=>dn _⟩;unfold VL.shE at e;rw[fM]at e;cases a:ρ[i]? with
 |none=>rw[a]at e;cases e
 |some g=>
  rw[a]at e;cases e;rcases R.sl i g a with rfl|⟨v,j,k⟩
  .exact .inl rfl
  .obtain⟨d,h,b⟩:=WV k
   rcases h with rfl|h
   .exact .inl rfl
   .rcases b with rfl|b
    .exact .inl rfl
    .exact .inr ⟨v,j,by rw[h];exact b.wk λ _ _ _ _=>dn _⟩
def B2{i:Nat}(e:(fJ js ρ)[i]? =some s):s= .no\/∃j,js[i]? =some (some j)/\ρ[j]? =some s:=by
 unfold fJ at e;rw[fM]at e;cases a:js[i]? with
 |none=>simp_all
 |some o=>
  rw[a]at e;cases o with
  |none=>simp_all
  |some j=>
   cases r:ρ[j]? with
   |none=>simp[r]at e;exact .inl e.symm
   |some s'=>simp_all
def RR.block{K:av}{τ:List (V×D)}(R:RR K G τ (VL.shE ρ) σ H lab)(hz:∀p,(lab p).1<=1)(b:H l=none):
  RR K G τ (fJ js (VL.shE ρ)) (je js σ) H (λ p=>if p=l then(2,0)else(0,0)):=by
 have n:∀p o,H p=some o->p≠l:=λ p o e z=>by subst z;rw[b]at e;cases e
 refine⟨by unfold fJ je;rw[bb,bb],λ i s e=>?_,R.old,λ p f=>?_,λ q g=>(R.tm q g).wk λ p o e _=>by rw[if_neg (n p o e)];exact dn _⟩
 .rcases B2 e with rfl|⟨j,k,es⟩
  .exact .inl rfl
  .rcases R.sl j s es with rfl|⟨v,m,h⟩
   .exact .inl rfl
   .refine .inr ⟨v,?_,?_⟩
    .unfold je
     rw[fM,k];simp[m]
    .unfold VL.shE at es
     rw[fM]at es;cases c:ρ[j]? with
     |none=>rw[c]at es;cases es
     |some r=>
      rw[c]at es;cases es;cases r with
      |no=>trivial
      |oz d=>exact aw.wk (λ p o e _=>by show(if p=l then((2,0):Nat×Nat)else(0,0)).1<=1;rw[if_neg (n p o e)];exact dn _) h
      |nw d=>exact aw.wk (λ p o e _=>by show(if p=l then((2,0):Nat×Nat)else(0,0)).1<=1;rw[if_neg (n p o e)];exact dn _) h
      |sh d=>exact aw.wk (λ p o e _=>by show(if p=l then((2,0):Nat×Nat)else(0,0)).1<=1;rw[if_neg (n p o e)];exact dn _) h
      |ow d=>exact aw.wk (λ p o e _=>by show(if p=l then((2,0):Nat×Nat)else(0,0)).1<=1;rw[if_neg (n p o e)];exact dn _) h
      |o2 d=>exact aw.wk (λ p o e _=>by show(if p=l then((2,0):Nat×Nat)else(0,0)).1<=1;rw[if_neg (n p o e)];exact dn _) h
 .by_cases a:p=l
  .subst a;exact R.old.free b
  .exact absurd (show(if p=l then((2,0):Nat×Nat)else(0,0)).1=0 by rw[if_neg a]) f
noncomputable def WW(X N:List Str)(js:ku)(ks:List Nat)(sc:Scope):Bool:=(dP js.length).all λ i=>match js[i]? with
 |some (some j)=>match N[i]?,X[j]? with
  |some x,some y=>x==y&&sc.names.lookup x==some .free&& !ks.contains i
  |_,_=>false
 |_=>true
def FY(g:sc.kind= .function)(k:(sc.names.all λ y=>y.2 != .cell||sc.names.lookup y.1==some .cell)=true)(l:(sc.names.all λ y=>y.2 != .local||sc.names.lookup y.1==some .local)=true)
  (m:(sc.names.all λ y=>y.2 != .free||(X.env.kindOf y.1==some .cell||X.env.kindOf y.1==some .free))=true)(n:js.length=N.length)(p:WW X.N N js ks sc=true):rk X sc N (je js) ks:=by
 refine⟨g,λ y b e=>?_,λ y b e=>?_,λ y b e=>?_,λ σ=>by unfold je;rw[bb];exact n,λ σ i x v q a=>?_⟩
 .have:=kk.mp k y b
  rw[e]at this;simpa using this
 .have:=kk.mp l y b
  rw[e]at this;simpa using this
 .have:=kk.mp m y b
  rw[e]at this;simpa using this
 .unfold je at a
  rw[fM]at a;cases d:js[i]? with
  |none=>rw[d]at a;cases a
  |some o=>
   rw[d]at a;cases o with
   |none=>cases a
   |some j=>
    have r:i<js.length:=(eW.mp d).1
    have:=kk.mp p i (kl.mpr r)
    rw[d,q]at this;dsimp only at this;cases f:X.N[j]? with
    |none=>rw[f]at this;cases this
    |some y=>
     rw[f]at this;simp only[cF,beq_iff_eq,xk]at this;obtain⟨⟨h,h'⟩,c⟩:=this;subst h;refine⟨h',λ s=>?_,j,f,?_⟩
     .rw[List.contains_iff_mem.mpr s]at c;cases c
     .simp only[sL,qF,Ao]at a
      cases es:σ[j]? with
      |none=>rw[es]at a;cases a
      |some w=>rw[es]at a;simp at a;subst a;rfl
abbrev bB.blk(C:bB)(sc:Scope)(N:List Str):bB where
 ι:=C.ι×Addr×List Addr×ao×ah
 X:=λ i=>(C.X i.1).block sc i.2.1 N i.2.2.1 i.2.2.2.1 i.2.2.2.2
 prog:=C.prog
 w:=C.w
 K:=C.K
 mg:=C.mg
 base:=C.base
 k:=C.k
 G:={C.G with E:=λ _ _ _=>False}
 cx:=λ i=>C.cx i.1
 calm:=λ i=>C.calm i.1
 room:=λ i=>C.room i.1
 own:=λ i=>PassesOwn.never
 pass:=λ i b σ H s e s' I h=>by obtain⟨_,_,_,_,_,_,_,_,_,_,_,_,_,a⟩:=h;exact a
 dOk:=false
 dcx:=λ h=>absurd h cL
def gT(ρ:af)(fg:D->af->ag af)(ft:af->ag Bool)(fe:af->ag D):List D->ag (List D)
 |[]=>.ok []
 |d::ds=>(fg d ρ).bd λ a=>(ft a).bd λ k=>if k=true then(fe a).bd λ y=>(gT ρ fg ft fe ds).bd λ s=>.ok (y::s)else gT ρ fg ft fe ds
def e8(f:af->ag (List D))(js:ku)(fg:D->af->ag af)(ft:af->ag Bool)(fe:af->ag D):af->ag D:=λ ρ=>(f (shE ρ)).bd λ ds=>
 if ds.length<aI then(match gT (fJ js (shE ρ)) fg ft fe ds with
  | .ok l=>.ok (.lst l)
  |_=>.st)else .st
def yI(C:bB)(s:List Expr)(f:af->ag Bool):Prop:=∃t,(∀i,vH (C.X i) s t)/\vN C.K C.G t f
def gH:af->ag Bool:=λ _=>.ok true
def rI:yI C [] gH:=⟨_,λ _=>VO,λ τ σ H ρ lab Q R W=>W H (aE.refl H)⟩
def B3(h:gS C c f):yI C [c] f:=let⟨t,h1,h2⟩:=h;⟨t,λ i=>VP (h1 i),h2⟩
def NS(h:gT ρ fg ft fe (d::ds)= .ok l):
  ∃a k,fg d ρ= .ok a/\ft a= .ok k/\((k=true/\∃y s,fe a= .ok y/\gT ρ fg ft fe ds= .ok s/\l=y::s)\/(k=false/\gT ρ fg ft fe ds= .ok l)):=by
 unfold gT at h;obtain⟨a,e,h⟩:=oi h;obtain⟨k,b,h⟩:=oi h;refine⟨a,k,e,b,?_⟩;cases k with
 |true=>
  obtain⟨y,c,h⟩:=oi h;obtain⟨s,f,h⟩:=oi h;simp_all
 |false=>
  exact .inr ⟨rfl,h⟩
def RR.but_blk{K:av}{τ:List (V×D)}(R:RR K G τ (fJ js (VL.shE ρ)) σ H (λ p=>if p=l then(2,0)else(0,0)))(B:ij l H H')(h:H l=some o)(a:ky o=true)(m:G.H0 l=none):
  RR K G τ (fJ js (VL.shE ρ)) σ H' (λ p=>if p=l then(2,0)else(0,0)):=by
 have T:¬((λ p=>if p=l then((2,0):Nat×Nat)else(0,0)) l).1<=1:=by simp
 refine⟨R.len,λ j s e=>?_,λ b o d=>?_,R.new,λ q f=>(R.tm q f).but B h a T⟩
 .rcases R.sl j s e with z|⟨u,g,i⟩
  .exact .inl z
  .refine .inr ⟨u,g,?_⟩
   rcases B2 e with rfl|⟨x,n,es⟩
   .trivial
   .unfold VL.shE at es
    rw[fM]at es;cases c:ρ[x]? with
    |none=>rw[c]at es;cases es
    |some k=>rw[c]at es;cases es;cases k<;>first|trivial|exact aw.but B h a T i
 .exact B b o (λ z=>by lia) (R.old b o d)
def RR.blk0{K:av}(R:RR K G τ (VL.shE ρ) σ H lab)(h:G'.H0=G.H0):RR K G' τ (VL.shE ρ) σ H (λ _=>(0,0)):=by
 refine⟨R.len,λ i s e=>?_,by rw[h];exact R.old,λ p a=>absurd rfl a,λ q b=>(R.tm q b).wk λ _ _ _ _=>dn _⟩;rcases R.sl i s e with rfl|⟨v,c,d⟩
 .exact .inl rfl
 .unfold VL.shE at e
  rw[fM]at e;cases f:ρ[i]? with
  |none=>simp_all
  |some g=>rw[f]at e;cases e;cases g<;>first|exact .inl rfl|exact .inr ⟨v,c,aw.wk (λ _ _ _ _=>dn _) d⟩
section
variable{K:av}{G:fw}{a:dZ}{h:af->ag (List D)}{js:ku}{g:j8}{fg:D->af->ag af}{t:ih}{ft:af->ag Bool}{f:bz}{fe:af->ag D}
def NT(U:FU K G a h)(hg:FT K (oj G) g fg)(ht:vN K (oj G) t ft)(he:gE K (oj G) (some []) f fe):
  gE K G (some []) (BG a (je js) g t f) (e8 h js fg ft fe):=by
 intro τ σ H ρ lab Q R W;refine U τ σ H _ _ _ R.shE (W.bd.imp λ ds _ w J H1 lab1 E s1 _ R1 jl=>?_);intro l N;obtain⟨T,m,u,w⟩:ds.length<aI/\∃m,gT (fJ js (VL.shE ρ)) fg ft fe ds= .ok m/\BN K (some []) lab H Q (.lst m):=by
  by_cases T:ds.length<aI
  .rw[if_pos T]at w
   cases u:gT (fJ js (VL.shE ρ)) fg ft fe ds with
   |ok m=>rw[u]at w;exact⟨T,m,rfl,w⟩
   |ex c=>rw[u]at w;exact aX w
   |st=>rw[u]at w;exact aX w
  .rw[if_neg T]at w
   exact aX w
 have R0:RR K (oj G) (E++τ) (VL.shE ρ) σ H1 (λ _=>(0,0)):=R1.blk0 rfl;have RB:=R0.block (js:=js) (λ _=>dn _) N;have O:H l=none:=s1.free N;have aT:¬((λ p=>if p=l then((2,0):Nat×Nat)else(0,0)) l).1<=1:=by simp
 refine⟨λ i n acc I=>∃F,n=ds.length-i/\i<=ds.length/\I l=some (.lst acc)/\RR K (oj G) (E++τ) (fJ js (VL.shE ρ)) (je js σ) I (λ p=>if p=l then(2,0)else(0,0))/\aE H I/\acc.length<=i/\
  az K (λ p=>H p=none/\p≠l) I acc F/\∃C,gT (fJ js (VL.shE ρ)) fg ft fe (ds.drop i)= .ok C/\m=F++C,⟨ds.length,[],by rfl,Bd,dM,RB.up (eG N _),s1.trans (eG N _),bc _,.nil,m,u,rfl⟩,?_⟩
 rintro i n acc I ⟨F,rfl,U,A,aG,s2,pV,r,C,s,D⟩;refine⟨A,by lia,?_⟩;have jj:=jl _ I λ q hq=>aG.tm q (fQ _ hq)
 by_cases j:i<ds.length
 .obtain⟨go,yl⟩:=(jj i).2 j
  refine .inr ⟨go,λ x V hy=>?_⟩;obtain⟨s3,d,ed,rx⟩:=yl x V hy;replace aG:=aG.up s3;replace A:=s3 _ _ A;replace s2:=s2.trans s3;replace r:=r.up s3;have X:ds.drop i=d::ds.drop (i+1):=by
   rw[sx j]
   have:=en j
   rw[ed]at this;cases this;rfl
  rw[X]at s;obtain⟨L,k,e1,e2,Y⟩:=NS s;refine hg (E++τ) x d _ V _ _ _ L aG rx e1 λ P R4=>?_
  refine ht (E++τ) P V L _ _ R4 ?_;rw[e2];intro H5 s5;rcases Y with ⟨rfl,y,ys,Y,Z,rfl⟩|⟨rfl,Z⟩
  .rw[if_pos rfl]
   refine he (E++τ) P H5 L _ _ (R4.up s5) ?_;rw[Y];intro v H6 s6 r6;have M:H6 l=some (.lst acc):=s6 _ _ (s5 _ _ A);have B:ij l H6 (bq H6 l (.lst (acc++[v]))):=λ b o ne S=>by rw[bR ne];exact S
   refine⟨M,ds.length-(i+1),yd j,F++[y],rfl,j,dM,?_,?_,by rw[cy];simp;omega,?_,ys,Z,by rw[D];simp⟩
   .exact(aG.up (s5.trans s6)).but_blk B M rfl (R1.old.free N)
   .exact λ b o S=>B b o (λ z=>by subst z;rw[O]at S;cases S) (((s2.trans s5).trans s6) b o S)
   .refine((r.up (s5.trans s6)).append (.cons (r6.wk λ p o _ z=>?_) .nil)).but B M rfl λ z=>z.2 rfl
    rcases z with z|z
    .exact⟨(s2.trans s5).free z,λ e=>by subst e;rw[s5 _ _ A]at z;cases z⟩
    .cases z
  .rw[if_neg cL]
   exact⟨ds.length-(i+1),yd j,F,rfl,j,s5 _ _ A,aG.up s5,s2.trans s5,LG pV,r.up s5,C,Z,D⟩
 .have ei:i=ds.length:=ye U j
  subst ei;rw[Dw]at s;cases s;rw[fo]at D;subst D;exact .inl ⟨(jj _).1 (bc _),w _ I s2 (.lst A (.inl O) (r.wk λ p o _ z=>⟨.inl z.1,z.2⟩))⟩
end
section
variable{C:bB}{p:Pos}{e a t:Expr}{f:List Expr}{sc:Scope}{N:List Str}{js:ku}{ks:List Nat}{b:af->ag (List D)}{fg:D->af->ag af}{ft:af->ag Bool}{fe:af->ag D}
def kE{C:bB}(nd:N.Nodup:=by f_are)(h:i∈ks:=by decide)(a:∀j,((C.blk sc N).X j).N[i]? =some x:=by z_go)(b:∀j,kW ((C.blk sc N).X j).env.scope x:=by f_tup)
  (hf:∀j,((C.blk sc N).X j).fn x=true\/((C.blk sc N).X j).env.scope.names.lookup x=some .local:=by fin2):ou (C.blk sc N) (.Name x p) ks (aD i):=
 dQ a b hf (λ _=>nd) h
def oA(h:rF C a t b)(j:ou (C.blk sc N) a ks fg)(k:yI (C.blk sc N) f ft)(l:aA (C.blk sc N) (some []) e fe)(s:∀i x,sR t (C.X i).env x=pure x:=by intro _ _;rfl)(B:∀i,rk (C.X i) sc N (je js) ks:=by intro _;exact FY rfl rfl rfl rfl rfl rfl):aA C (some []) (.ListComp e [⟨a,t,f,0⟩] sc p) (e8 b js fg ft fe):=by
 obtain⟨y,m,bw⟩:=h;obtain⟨g,n,o,q,A⟩:=j;obtain⟨D,r,u⟩:=k;obtain⟨E,v,w⟩:=l;exact⟨_,λ i=>Nf (B i) (C.calm i) (m i) (λ c d z I=>n (i,c,d,z,I)) q (λ c d z I=>r (i,c,d,z,I)) (λ c d z I=>v (i,c,d,z,I)) (s i),NT bw o u w⟩
def WX(k:rF C a t b)(l:ou (C.blk sc N) a ks fg)(m:yI (C.blk sc N) f ft)(n:aA (C.blk sc N) (some []) e fe)(o:∀j,(C.X j).N[i]? =some x:=by z_go)(q:∀j,kW (C.X j).env.scope x:=by f_tup)(h:∀j,nY (.ListComp e [⟨a,t,f,0⟩] sc p) (some (.Name x pos')) spos.line (C.X j).env=pure true:=by z_go)(s:∀i x,sR t (C.X i).env x=pure x:=by intro _ _;rfl)(hf:∀j,(C.X j).fn x=true\/(C.X j).env.scope.names.lookup x=some .local:=by fin2)(nd:∀j,(C.X j).N.Nodup:=by intro _;assumption)(B:∀i,rk (C.X i) sc N (je js) ks:=by intro _;exact FY rfl rfl rfl rfl rfl rfl):
  BS C i (.Assign [.Name x pos'] (.ListComp e [⟨a,t,f,0⟩] sc p) spos) (some []) (e8 b js fg ft fe):=by
 obtain⟨F,r,bw⟩:=k;obtain⟨g,u,v,w,G⟩:=l;obtain⟨H,y,A⟩:=m;obtain⟨J,D,E⟩:=n;exact⟨_,λ j=>VQ (nd j) (o j) (q j) (B j) (C.calm j) (r j) (λ c d z I=>u (j,c,d,z,I)) w (λ c d z I=>y (j,c,d,z,I)) (λ c d z I=>D (j,c,d,z,I)) (h j) (s j) (hf j),NT bw v A E⟩
end
def NU:Slot->Slot
 | .sh d=>.sh d
 | .nw d=>.sh d
 |_=>.no
def puE(ρ:af):af:=ρ.map NU
def vV(f:af->ag (List D))(js:ku)(fg:D->af->ag af)(ft:af->ag Bool)(fe:af->ag D):af->ag D:=λ ρ=>(f (puE ρ)).bd λ ds=>
 if ds.length<aI then(match gT (fJ js (puE ρ)) fg ft fe ds with
  | .ok l=>.ok (.lst l)
  |_=>.st)else .st
theorem RR.puE{K:av}(R:RR K G τ ρ σ H lab):RR K G τ (puE ρ) σ H lab:=by
 refine⟨by unfold VL.puE;rw[bb];exact R.len,λ i s e=>?_,R.old,R.new,R.tm⟩;unfold VL.puE at e;rw[fM]at e;cases a:ρ[i]? with
 |none=>simp_all
 |some b=>
  rw[a]at e;cases e;rcases R.sl i b a with rfl|⟨v,c,h⟩
  .exact .inl rfl
  .cases b with
   |sh d=>exact .inr ⟨v,c,h⟩
   |nw d=>exact .inr ⟨v,c,aw.wk (λ p o _ z=>by simp_all) h⟩
   |_=>exact .inl rfl
def NV{i:Nat}(e:(puE ρ)[i]? =some s):s= .no\/∃d,s= .sh d:=by
 unfold puE at e;rw[fM]at e;cases a:ρ[i]? with
 |none=>simp_all
 |some b=>
  rw[a]at e;cases e;cases b with
  |sh d=>exact .inr ⟨d,rfl⟩
  |nw d=>exact .inr ⟨d,rfl⟩
  |_=>exact .inl rfl
def WY{ρ:af}{i:Nat}(e:(fJ js (puE ρ))[i]? =some s):s= .no\/∃d,s= .sh d:=by
 rcases B2 e with rfl|⟨j,_,h⟩
 .exact .inl rfl
 .exact NV h
def WZ{i j:Nat}(e:js[i]? =some (some j))(a:σ[j]? =some (some v)):(je js σ)[i]? =some (some v):=by
 unfold je;simp_all
def RR.blockZ{K:av}{G:fw}{τ:List (V×D)}(R:RR K G τ (VL.puE ρ) σ H lab)(b:H l=none):
  RR K G τ (fJ js (VL.puE ρ)) (je js σ) H (λ p=>if p=l then(2,0)else lab p):=by
 have n:∀p o,H p=some o->p≠l:=λ p o e z=>by simp_all
 have w:∀{v:V} {d:D},aw K _ H v d->aw K (λ p=>(if p=l then((2,0):Nat×Nat)else lab p).1<=1) H v d:=λ r=>r.wk λ p o e z=>by rw[if_neg (n p o e)];exact z
 refine⟨by unfold je fJ;rw[bb,bb],λ i s e=>?_,R.old,λ p a=>?_,λ q c=>w (R.tm q c)⟩
 .rcases B2 e with rfl|⟨j,f,es⟩
  .exact .inl rfl
  .rcases NV es with rfl|⟨d,rfl⟩
   .exact .inl rfl
   .rcases R.sl j _ es with z|⟨v,g,k⟩
    .cases z
    .exact .inr ⟨v,WZ f g,w k⟩
 .by_cases h:p=l
  .subst h;exact R.old.free b
  .rw[if_neg h]at a
   exact R.new p a
section
variable{K:av}{G:fw}{a:dZ}{h:af->ag (List D)}{js:ku}{g:j8}{fg:D->af->ag af}{t:ih}{ft:af->ag Bool}{f:bz}{fe:af->ag D}{m:Mode}
def W0(hm:oq m=true)(hi:FU K G a h)(hg:FT K (oj G) g fg)(ht:vN K (oj G) t ft)(he:gE K (oj G) m f fe):
  gE K G (some [0,1]) (BG a (je js) g t f) (vV h js fg ft fe):=by
 intro τ σ H ρ lab Q R W;refine hi τ σ H _ _ _ R.puE (W.bd.imp λ ds _ w J H1 M N s1 X V jl=>?_);intro l Y;obtain⟨kK,E,A,w⟩:ds.length<aI/\∃E,gT (fJ js (VL.puE ρ)) fg ft fe ds= .ok E/\BN K (some [0,1]) lab H Q (.lst E):=by
  by_cases kK:ds.length<aI
  .rw[if_pos kK]at w
   cases A:gT (fJ js (VL.puE ρ)) fg ft fe ds with
   |ok E=>rw[A]at w;exact⟨kK,E,rfl,w⟩
   |ex c=>rw[A]at w;exact aX w
   |st=>rw[A]at w;exact aX w
  .rw[if_neg kK]at w
   exact aX w
 have R0:RR K (oj G) (N++τ) (VL.puE ρ) σ H1 M:=⟨V.len,V.sl,V.old,V.new,V.tm⟩;have RB:=R0.blockZ (js:=js) Y;have Z:H l=none:=s1.free Y;have aT:¬((λ p=>if p=l then((2,0):Nat×Nat)else M p) l).1<=1:=by simp
 refine⟨λ i n acc T=>∃O,n=ds.length-i/\i<=ds.length/\T l=some (.lst acc)/\RR K (oj G) (N++τ) (fJ js (VL.puE ρ)) (je js σ) T (λ p=>if p=l then(2,0)else M p)/\aE H T/\acc.length<=i/\
  az K (λ p=>(H p=none\/(lab p).1<=1)/\p≠l) T acc O/\∃I,gT (fJ js (VL.puE ρ)) fg ft fe (ds.drop i)= .ok I/\E=O++I,⟨ds.length,[],by rfl,Bd,dM,RB.up (eG Y _),s1.trans (eG Y _),bc _,.nil,E,A,rfl⟩,?_⟩
 rintro i n acc T ⟨O,rfl,hi,F,aG,s2,pV,C,I,r,L⟩;refine⟨F,by lia,?_⟩;have jj:=jl _ T λ q hq=>aG.tm q (fQ _ hq)
 by_cases D:i<ds.length
 .obtain⟨go,yl⟩:=(jj i).2 D
  refine .inr ⟨go,λ x H3 hy=>?_⟩;obtain⟨s3,d,ed,rx⟩:=yl x H3 hy;replace aG:=aG.up s3;replace F:=s3 _ _ F;replace s2:=s2.trans s3;replace C:=C.up s3;have ed2:ds.drop i=d::ds.drop (i+1):=by
   rw[sx D]
   have:=en D
   rw[ed]at this;cases this;rfl
  rw[ed2]at r;obtain⟨U,k,e1,e2,e3⟩:=NS r;refine hg (N++τ) x d _ H3 _ _ _ U aG rx e1 λ σ4 R4=>?_
  refine ht (N++τ) σ4 H3 U _ _ R4 ?_;rw[e2];intro H5 s5;rcases e3 with ⟨rfl,y,ys,e3,e4,rfl⟩|⟨rfl,e4⟩
  .rw[if_pos rfl]
   refine he (N++τ) σ4 H5 U _ _ (R4.up s5) ?_;rw[e3];intro v H6 s6 r6;have P:H6 l=some (.lst acc):=s6 _ _ (s5 _ _ F);have B:ij l H6 (bq H6 l (.lst (acc++[v]))):=λ b o ne S=>by rw[bR ne];exact S
   refine⟨P,ds.length-(i+1),yd D,O++[y],rfl,D,dM,?_,?_,by rw[cy];simp;omega,?_,ys,e4,by rw[L];simp⟩
   .have R6:=aG.up (s5.trans s6)
    refine⟨R6.len,λ j s e=>?_,λ b o S=>?_,R6.new,λ q hq=>(R6.tm q hq).but B P rfl aT⟩
    .rcases R6.sl j s e with z|⟨u,e1,e2⟩
     .exact .inl z
     .rcases WY e with rfl|⟨d,rfl⟩
      .exact .inl rfl
      .exact .inr ⟨u,e1,aw.but B P rfl aT e2⟩
    .have:=R6.old b o S
     exact B b o (λ z=>by subst z;rw[V.old.free Y]at S;cases S) this
   .exact λ b o S=>B b o (λ z=>by subst z;rw[Z]at S;cases S) (((s2.trans s5).trans s6) b o S)
   .refine((C.up (s5.trans s6)).append (.cons (r6.wk λ p o _ z=>?_) .nil)).but B P rfl λ z=>z.2 rfl
    rcases z with z|z
    .exact⟨.inl ((s2.trans s5).free z),λ e=>by subst e;rw[s5 _ _ F]at z;cases z⟩
    .have z1:=rE hm _ z
     simp only[decide_eq_true_eq]at z1;have hp:p≠l:=λ e=>by subst e;simp at z1
     rw[if_neg hp]at z1;refine⟨?_,hp⟩;cases hH:H p with
     |none=>exact .inl rfl
     |some o=>rw[X p o hH]at z1;exact .inr z1
  .rw[if_neg cL]
   exact⟨ds.length-(i+1),yd D,O,rfl,D,s5 _ _ F,aG.up s5,s2.trans s5,LG pV,C.up s5,I,e4,L⟩
 .have ei:i=ds.length:=ye hi D
  subst ei;rw[Dw]at r;cases r;rw[fo]at L;subst L;refine .inl ⟨(jj _).1 (bc _),w _ T s2 (.lst F (.inl Z) (C.wk λ p o _ z=>⟨z.1.imp id λ q=>?_,z.2⟩))⟩
  show(lab p).1∈[0,1]
  have:(lab p).1=0\/(lab p).1=1:=EU q
  rcases this with q|q<;>rw[q]<;>simp
end
section
variable{C:bB}{p:Pos}{e a t:Expr}{f:List Expr}{sc:Scope}{N:List Str}{js:ku}{ks:List Nat}{b:af->ag (List D)}{fg:D->af->ag af}{ft:af->ag Bool}{fe:af->ag D}{m:Mode}
def W1(h:rF C a t b)(j:ou (C.blk sc N) a ks fg)(k:yI (C.blk sc N) f ft)(l:aA (C.blk sc N) m e fe)(n:oq m=true:=by rfl)(s:∀i x,sR t (C.X i).env x=pure x:=by intro _ _;rfl)(B:∀i,rk (C.X i) sc N (je js) ks:=by intro _;exact FY rfl rfl rfl rfl rfl rfl):aA C (some [0,1]) (.ListComp e [⟨a,t,f,0⟩] sc p) (vV b js fg ft fe):=by
 obtain⟨D,o,bw⟩:=h;obtain⟨g,q,r,u,E⟩:=j;obtain⟨F,v,w⟩:=k;obtain⟨G,y,A⟩:=l;exact⟨_,λ i=>Nf (B i) (C.calm i) (o i) (λ c d z I=>q (i,c,d,z,I)) u (λ c d z I=>v (i,c,d,z,I)) (λ c d z I=>y (i,c,d,z,I)) (s i),W0 n bw r w A⟩
end
def RR.mut{K:av}(R:RR K G τ ρ σ H lab)(w:σ[i]? =some (some v))(h:H l=some o)(c:ky o=true)(g:(lab l).1=i+2)
  (B:ij l H H')(h':i8 K H' lab i v s'):RR K G τ (ρ.set i s') σ H' lab:=by
 refine⟨by rw[nN];exact R.len,λ j x e=>?_,λ b u k=>B b u (λ z=>?_) (R.old b u k),R.new,λ q A=>(R.tm q A).but B h c λ z=>by simp_all⟩
 .by_cases m:i=j
  .subst m
   have C:i<ρ.length:=by
    have:=(eW.mp e).1
    rwa [nN]at this
   rw[uS C]at e;cases e;exact .inr ⟨v,w,h'⟩
  .rw[qw m]at e
   rcases R.sl j x e with z|⟨u,D,f⟩
   .exact .inl z
   .refine .inr ⟨u,D,?_⟩
    cases x with
    |no=>trivial
    |sh d=>exact aw.but B h c (λ z=>by simp_all) f
    |nw d=>exact aw.but B h c (λ z=>by simp_all) f
    |ow d=>exact⟨aw.but B h c (λ z=>by simp_all) f.1,f.2⟩
    |oz d=>
     obtain⟨a,xs,ds,n,p,r,s,t⟩:=f;exact⟨a,xs,ds,n,p,B a _ (λ z=>by subst z;exact m (by simp_all)) r,s,az.but B h c (λ z=>by simp_all) t⟩
    |o2 J=>
     obtain⟨a,xs,n,p,r,s,t⟩:=f;refine⟨a,xs,n,B a _ (λ z=>?_) p,r,s,λ E y ds F I=>(t E y ds F I).but B h c λ z=>?_⟩<;>simp_all
 .subst z
  have:=R.new b (by rw[g];lia)
  rw[this]at k;cases k
mutual
def cD:D->D->Bool
 | .non,.non=>true
 | .bl a,.bl b=>a==b
 | .bl a,.int b=>(if a then 1 else 0)==b
 | .int a,.bl b=>a==(if b then 1 else 0)
 | .int a,.int b=>a==b
 | .str a,.str b=>a==b
 | .tup l,.tup m=>iF l m
 | .lst l,.lst m=>iF l m
 |_,_=>false
def iF:List D->List D->Bool
 |[],[]=>true
 |x::xs,y::s=>cD x y&&iF xs s
 |_,_=>false
end
mutual
def dR:D->Nat
 | .tup l=>cQ l+1
 | .lst l=>cQ l+1
 |_=>0
def cQ:List D->Nat
 |[]=>0
 |d::r=>max (dR d) (cQ r)
end
mutual
def bu:D->Bool
 | .tup l=>cA l
 | .lst l=>cA l
 | .dct _ _=>false
 | .set _=>false
 | .scr _=>false
 | .fn _=>false
 | .itm _ _=>false
 | .itx _ _=>false
 |_=>true
def cA:List D->Bool
 |[]=>true
 |d::r=>bu d&&cA r
end
mutual
theorem FZ:∀d:D,bu d=true->cD d d=true
 | .non,_=>by simp[cD]
 | .bl b,_=>by simp[cD]
 | .int i,_=>by simp[cD]
 | .str x,_=>by simp[cD]
 | .tup l,h=>by exact Ga l (by simpa[bu]using h)
 | .lst l,h=>by exact Ga l (by simpa[bu]using h)
 | .dct _ _,h=>by simp[bu]at h
 | .set _,h=>by simp[bu]at h
 | .scr _,h=>by simp[bu]at h
theorem Ga:∀l:List D,cA l=true->iF l l=true
 |[],_=>by simp[iF]
 |d::r,h=>by
  simp only[cA,cF]at h;simp only[iF,cF];exact⟨FZ d h.1,Ga r h.2⟩
end
structure ly(K:av)(H:ah)(s:ao):Prop where
 tup:∀{a:Addr} {xs:List V},bf K H a xs->∃its:List Value,Vals xs its/\s.heap.IsTuple a its.toArray
 lst:∀{a:Addr} {xs:List V},H a=some (.lst xs)->∃its:List Value,Vals xs its/\s.heap.IsList a its.toArray
 inj:∀{a:Addr} {xs ys:List V},bf K H a xs->bf K H a ys->xs=ys
 ne:∀{a:Addr} {xs ys:List V},bf K H a xs->H a=some (.lst ys)->False
def Inv.seqOk(I:L2.Inv X kX σ H s):ly X.K H s where
 tup:=λ h=>let⟨i,r,p,_⟩:=I.tuple h;⟨_,r,p⟩
 lst:=λ h=>let⟨i,r,p,_⟩:=I.list (bN.of h);⟨i,r,p.isList⟩
 inj:=λ h h'=>I.tuple_inj h h'
 ne:=λ h h'=>by
  obtain⟨i,_,⟨o,e,c,_⟩,_⟩:=I.tuple h;obtain⟨t,_,⟨o2,n,a,c2,_⟩,_⟩:=I.list (bN.of h');lia
section
variable{K:av}{H:ah}{s:ao}
def BB:D->Prop
 | .dct _ _=>False
 | .set _=>False
 | .scr _=>False
 | .fn _=>False
 | .itm _ _=>False
 | .itx _ _=>False
 |_=>True
def rJ{d:D}(h:bu d=true):BB d:=by cases d<;>first|exact tD|(simp[bu]at h)
def iP(h:bu (.dct a b)=true):False:=by simp[bu]at h
def pN(h:bu (.set a)=true):False:=by simp[bu]at h
def pO(h:bu (.scr a)=true):False:=by simp[bu]at h
def pP(h:bu (.fn a)=true):False:=by simp[bu]at h
def pQ(h:bu (.itm o a)=true):False:=by simp[bu]at h
def pR(h:bu (.itx o a)=true):False:=by simp[bu]at h
def vW(h:bu (.tup a)=true):cA a=true:=by assumption
def vX(h:bu (.lst a)=true):cA a=true:=by assumption
def B4(h:cA (d::a)=true):bu d=true/\cA a=true:=by
 simp only[cA,cF]at h;assumption
def Gb(K:av)(s:ao)(H:ah)(x:V)(d:D):Prop:=ly K H s->∀(A':Addr->Prop) (e:D),aw K A' H x e->bu d=true->bu e=true->d=e
def B5(K:av)(s:ao)(H:ah)(xs:List V)(ds:List D):Prop:=ly K H s->∀(A':Addr->Prop) (es:List D),az K A' H xs es->cA ds=true->cA es=true->ds=es
def W2(ha:bf K H a xs)(i:B5 K s H xs ds):Gb K s H (.ref a) (.tup ds):=λ ok A' e h c n=>by
 cases h with
 |tup b r=>
  have e:=ok.inj ha b;subst e;rw[i ok _ _ r (vW c) (vW n)]
 |lst b _ _=>exact(ok.ne ha b).elim
 |_=>exact aX (rJ n)
def W3(ha:H a=some (.lst xs))(i:B5 K s H xs ds):Gb K s H (.ref a) (.lst ds):=λ ok A' e h c n=>by
 cases h with
 |tup b r=>exact(ok.ne b ha).elim
 |lst b _ r=>
  rw[ha]at b;cases b;rw[i ok _ _ r (vX c) (vX n)]
 |_=>exact aX (rJ n)
def W4(b:Gb K s H x d)(c:B5 K s H xs ds):B5 K s H (x::xs) (d::ds):=λ ok A' es h n a=>by
 cases h with
 |cons k r=>rw[b ok _ _ k (B4 n).1 (B4 a).1,c ok _ _ r (B4 n).2 (B4 a).2]
def aw.inj(ok:ly K H s)(r:aw K A H x d)(h:aw K A' H x e)(n:bu d=true)(a:bu e=true):d=e:=
 aw.rec
  (λ _ _ _ h _ _=>by cases h;rfl) (λ _ _ _ _ h _ _=>by cases h;rfl) (λ _ _ _ _ h _ _=>by cases h;rfl) (λ _ _ _ _ h _ _=>by cases h;rfl) (λ ha _ i=>W2 ha i) (λ ha _ _ i=>W3 ha i)
  (λ _ _ _ _ _ _ _ _ n _=>(iP n).elim) (λ _ _ _ _ _ _ _ _ n _=>(iP n).elim) (λ _ _ _ _ _ _ _ _ n _=>(pN n).elim) (λ _ _ _ _ _ n _=>(pO n).elim) (λ _ _ _ _ _ n _=>(pP n).elim) (λ _ _ _ _ _ n _=>(pQ n).elim) (λ _ _ _ _ _ n _=>(pR n).elim)
  (λ _ _ _ h _ _=>by cases h;rfl) (λ _ _ b c=>W4 b c) r ok A' e h n a
end
theorem NW:∀(l m:List D),iF l m=((dP (min l.length m.length)).all (λ j=>match l[j]?,m[j]? with|some a,some b=>cD a b|_,_=>true)&&l.length==m.length)
 |[],[]=>by simp[iF]
 |[],y::s=>by simp[iF]
 |x::xs,[]=>by simp[iF]
 |x::xs,y::s=>by
  have i:=NW xs s;simp only[iF,i,eX,Nat.succ_min_succ,List.range_succ_eq_map,Ac,List.all_map,sy,Function.comp_def,Nat.add_one_inj,Jk];simp
theorem NX:∀{l:List D} {d:D},d∈l->dR d<=cQ l
 |x::r,d,h=>by
  rcases bI.mp h with rfl|h
  .exact DF _ _
  .exact eJ (NX h) (DC _ _)
theorem Gc:∀{l:List D} {d:D},d∈l->cA l=true->bu d=true
 |x::r,d,h,n=>by
  simp only[cA,cF]at n;rcases bI.mp h with rfl|h
  .exact n.1
  .exact Gc h n.2
def yJ(h:n=ds.length)(c:m=es.length):((dP (min n m)).all (λ j=>match ds[j]?,es[j]? with|some a,some b=>cD a b|_,_=>true)&&n==m)=iF ds es:=by
 subst h c;exact(NW ds es).symm
section
variable{K:av}{H:ah}{s:ao}
def Gd(K:av)(H:ah)(s:ao)(n:Nat):Prop:=∀(a b:Addr->Prop) (x y:V) (d e:D) (A:aS) (u v:Value),aw K a H x d->aw K b H y e->RelV x u->RelV y v->dR d<=n->bu d=true->bu e=true->A.units+n<cLine->mT A s u v (cD d e)
def NY(K:av)(H:ah)(s:ao)(n:Nat):Prop:=∀(c d:Addr->Prop) (xs y:List V) (ds es:List D) (A:aS) (us v:List Value),az K c H xs ds->az K d H y es->Vals xs us->Vals y v->cQ ds<=n->cA ds=true->cA es=true->A.units+n<cLine->
  ∀(j:Nat) (h:j<us.toArray.size) (e:j<v.toArray.size),mT A s us.toArray[j] v.toArray[j] (match ds[j]?,es[j]? with|some a,some b=>cD a b|_,_=>true)
def NZ(ok:ly K H s)(n:Nat)(N:∀k,n=k+1->NY K H s k):Gd K H s n:=by
 intro Q R x y d e A u v O D E r F nd c L;have h:A.units<cLine:=LW L;induction O using aw.cs with
 |tup G w=>
  rename_i a xs ds;cases E;obtain⟨B,w1,l⟩:=ok.tup G;induction D using aw.cs with
  |tup f q=>
   rename_i b P es;cases r;obtain⟨j,C,t⟩:=ok.tup f;by_cases m:a=b
   .subst m
    have e:=aw.inj ok (aw.tup G w) (aw.tup f q) nd c;rw[<-e,FZ _ nd];exact Eu _
   .simp only[dR]at F
    obtain⟨k,rfl⟩:∃k,n=k+1:=⟨n-1,Bf F⟩
    have z:=Lg l t h (N k rfl _ _ _ _ _ _ _ _ _ w q w1 C (Bg F) (vW nd) (vW c) (by show A.units+1+k<cLine;exact Be L));rw[yJ (by rw[cW,<-w1.length,w.length]) (by rw[cW,<-C.length,q.length])]at z;simp only[cD];exact Et m z
  |lst f o q=>
   cases r;obtain⟨j,C,t⟩:=ok.lst f;simp only[cD];exact SeqAt.EqAt.tuple_list l t h
  |non=>cases r;exact SeqAt.EqAt.tuple_none l h
  |bl b=>cases r;exact SeqAt.EqAt.tuple_bool b l h
  |int i=>obtain⟨g,rfl⟩:=r;exact SeqAt.EqAt.tuple_int i g l h
  |str i=>obtain⟨g,rfl⟩:=r;exact SeqAt.EqAt.tuple_str i g l h
  |_=>exact aX (rJ c)
 |lst G M w=>
  rename_i a xs ds;cases E;obtain⟨B,w1,l⟩:=ok.lst G;induction D using aw.cs with
  |lst f o q=>
   rename_i b P es;cases r;obtain⟨j,C,t⟩:=ok.lst f;by_cases m:a=b
   .subst m
    have e:=aw.inj ok (aw.lst G M w) (aw.lst f o q) nd c;rw[<-e,FZ _ nd];exact Eu _
   .simp only[dR]at F
    obtain⟨k,rfl⟩:∃k,n=k+1:=⟨n-1,Bf F⟩
    have l1:B.toArray.size=ds.length:=by rw[cW,<-w1.length,w.length]
    have l2:j.toArray.size=es.length:=by rw[cW,<-C.length,q.length]
    by_cases J:B.toArray.size=j.toArray.size
    .have z:=Lh l t J h (N k rfl _ _ _ _ _ _ _ _ _ w q w1 C (Bg F) (vX nd) (vX c) (by show A.units+1+k<cLine;exact Be L))
     have I:=yJ (ds:=ds) (es:=es) l1 l2;rw[<-J,Am,beq_self_eq_true,uQ]at I;rw[I]at z;simp only[cD];exact Et m z
    .have z:=Lf l t (by simpa using J) h
     have I:=yJ (ds:=ds) (es:=es) l1 l2;rw[beq_eq_false_iff_ne.mpr J,xm]at I;simp only[cD];rw[<-I];exact Et m z
  |tup f q=>
   cases r;obtain⟨j,C,t⟩:=ok.tup f;simp only[cD];exact SeqAt.EqAt.list_tuple l t h
  |non=>cases r;exact SeqAt.EqAt.list_none l h
  |bl b=>cases r;exact SeqAt.EqAt.list_bool b l h
  |int i=>obtain⟨g,rfl⟩:=r;exact SeqAt.EqAt.list_int i g l h
  |str i=>obtain⟨g,rfl⟩:=r;exact SeqAt.EqAt.list_str i g l h
  |_=>exact aX (rJ c)
 |non=>
  cases E;induction D using aw.cs with
  |tup f q=>cases r;obtain⟨_,_,t⟩:=ok.tup f;exact SeqAt.EqAt.none_tuple t h
  |lst f o q=>cases r;obtain⟨_,_,t⟩:=ok.lst f;exact SeqAt.EqAt.none_list t h
  |dK _ _ _=>exact(iP c).elim
  |dT _ _ _=>exact(iP c).elim
  |set _ _ _ _=>exact(pN c).elim
  |scr _=>exact(pO c).elim
  |fn _=>exact(pP c).elim
  |itm _=>exact(pQ c).elim
  |itx _=>exact(pR c).elim
  |non=>cases r;exact Eu _
  |bl b=>cases r;exact SeqAt.EqAt.none_bool b
  |int i=>obtain⟨g,rfl⟩:=r;exact SeqAt.EqAt.none_int i g
  |str i=>obtain⟨g,rfl⟩:=r;exact SeqAt.EqAt.none_str i g
 |bl a=>
  cases E;induction D using aw.cs with
  |tup f q=>cases r;obtain⟨_,_,t⟩:=ok.tup f;exact SeqAt.EqAt.bool_tuple a t h
  |lst f o q=>cases r;obtain⟨_,_,t⟩:=ok.lst f;exact SeqAt.EqAt.bool_list a t h
  |dK _ _ _=>exact(iP c).elim
  |dT _ _ _=>exact(iP c).elim
  |set _ _ _ _=>exact(pN c).elim
  |scr _=>exact(pO c).elim
  |fn _=>exact(pP c).elim
  |itm _=>exact(pQ c).elim
  |itx _=>exact(pR c).elim
  |non=>cases r;exact SeqAt.EqAt.bool_none a
  |bl b=>cases r;exact Lc a b
  |int i=>obtain⟨g,rfl⟩:=r;exact SeqAt.EqAt.bool_int a i g
  |str i=>obtain⟨g,rfl⟩:=r;exact SeqAt.EqAt.bool_str a i g
 |int a=>
  obtain⟨p,rfl⟩:=E;induction D using aw.cs with
  |tup f q=>cases r;obtain⟨_,_,t⟩:=ok.tup f;exact SeqAt.EqAt.int_tuple a p t h
  |lst f o q=>cases r;obtain⟨_,_,t⟩:=ok.lst f;exact SeqAt.EqAt.int_list a p t h
  |dK _ _ _=>exact(iP c).elim
  |dT _ _ _=>exact(iP c).elim
  |set _ _ _ _=>exact(pN c).elim
  |scr _=>exact(pO c).elim
  |fn _=>exact(pP c).elim
  |itm _=>exact(pQ c).elim
  |itx _=>exact(pR c).elim
  |non=>cases r;exact SeqAt.EqAt.int_none a p
  |bl b=>cases r;exact SeqAt.EqAt.int_bool a p b
  |int i=>obtain⟨g,rfl⟩:=r;exact Es a p i g
  |str i=>obtain⟨g,rfl⟩:=r;exact Ld a p i g
 |str a=>
  obtain⟨p,rfl⟩:=E;induction D using aw.cs with
  |tup f q=>cases r;obtain⟨_,_,t⟩:=ok.tup f;exact SeqAt.EqAt.str_tuple a p t h
  |lst f o q=>cases r;obtain⟨_,_,t⟩:=ok.lst f;exact SeqAt.EqAt.str_list a p t h
  |dK _ _ _=>exact(iP c).elim
  |dT _ _ _=>exact(iP c).elim
  |set _ _ _ _=>exact(pN c).elim
  |scr _=>exact(pO c).elim
  |fn _=>exact(pP c).elim
  |itm _=>exact(pQ c).elim
  |itx _=>exact(pR c).elim
  |non=>cases r;exact SeqAt.EqAt.str_none a p
  |bl b=>cases r;exact SeqAt.EqAt.str_bool a p b
  |int i=>obtain⟨g,rfl⟩:=r;exact Le a p i g
  |str i=>obtain⟨g,rfl⟩:=r;exact SeqAt.EqAt.str_str a p i g
 |_=>exact aX (rJ nd)
def N0(ok:ly K H s)(n:Nat)(I:Gd K H s n):NY K H s n:=by
 intro F G xs g ds es A us c q i w1 w k nd l m j o p;have h:j<us.length:=by simpa using o
 have a:j<c.length:=by simpa using p
 have r:j<xs.length:=by rw[w1.length];exact h
 have t:j<g.length:=by rw[w.length];exact a
 have x:=en r;have y:=en t;obtain⟨d,b,z⟩:=q.get x;obtain⟨e,f,re⟩:=i.get y;obtain⟨u,J,B⟩:=w1.get x;obtain⟨v,L,C⟩:=w.get y;have D:us.toArray[j]=u:=by simp_all
 have E:c.toArray[j]=v:=by simp_all
 rw[D,E,b,f];exact I _ _ _ _ _ _ _ _ _ z re B C (eJ (NX (nL b)) k) (Gc (nL b) nd) (Gc (nL f) l) m
theorem Ge(ok:ly K H s):∀n,Gd K H s n
 |0=>NZ ok 0 λ k h=>absurd h (by simp)
 |n+1=>NZ ok _ λ k h=>by
  have h':=DG h;subst h';exact N0 ok n (Ge ok n)
def W5(ok:ly K H s):∀{a b:Addr->Prop} {x y:V} {d e:D} (n:Nat) {A:aS} {u v:Value},aw K a H x d->aw K b H y e->RelV x u->RelV y v->dR d<=n->bu d=true->bu e=true->A.units+n<cLine->mT A s u v (cD d e)
 |_,_,_,_,_,_,n,A,u,v,r,c,f,g,h,nd,i,j=>Ge ok n _ _ _ _ _ _ _ _ _ r c f g h nd i j
def N1(ok:ly K H s):∀{d e:Addr->Prop} {xs y:List V} {ds es:List D} (n:Nat) {A:aS} {us v:List Value},az K d H xs ds->az K e H y es->Vals xs us->Vals y v->cQ ds<=n->cA ds=true->cA es=true->A.units+n<cLine->
  ∀(j:Nat) (h:j<us.toArray.size) (c:j<v.toArray.size),mT A s us.toArray[j] v.toArray[j] (match ds[j]?,es[j]? with|some a,some b=>cD a b|_,_=>true)
 |_,_,xs,y,ds,es,n,A,us,v,q,f,w1,w,g,nd,i,u,j,h,c=>N0 ok n (Ge ok n) _ _ _ _ _ _ _ _ _ q f w1 w g nd i u j h c
def N2(ok:ly K H s)(n:Nat)(N:aw K A1 H x d)(B:aw K A2 H y e)(C:RelV x u)(r:RelV y v)(D:dR d<=n)(nd:bu d=true)(f:bu e=true)(L:A.units+n<cLine):
  SeqAt.RcAt A s u v (cD d e)/\SeqAt.RcNeAt A s u v (!cD d e):=by
 have h:A.units<cLine:=LW L;induction N using aw.cs with
 |tup M F=>
  rename_i a xs ds;cases C;obtain⟨p,w1,g⟩:=ok.tup M;induction B using aw.cs with
  |tup l q=>
   rename_i b O es;cases r;obtain⟨m,w,t⟩:=ok.tup l;simp only[dR]at D;obtain⟨k,rfl⟩:∃k,n=k+1:=⟨n-1,Bf D⟩
   have G:=N1 ok (A:=A.in1) k F q w1 w (Bg D) (vW nd) (vW f) (by show A.units+1+k<cLine;exact Be L);have z:=Lg g t h G;have I:=SeqAt.RcNeAt.tuples g t h G;rw[yJ (by rw[cW,<-w1.length,F.length]) (by rw[cW,<-w.length,q.length])]at z I;simp only[cD];exact⟨z,I⟩
  |lst l o q=>
   cases r;obtain⟨m,w,t⟩:=ok.lst l;simp only[cD];exact⟨SeqAt.RcAt.tuple_list g t h,SeqAt.RcNeAt.tuple_list g t h⟩
  |non=>cases r;exact⟨SeqAt.RcAt.tuple_none g h,SeqAt.RcNeAt.tuple_none g h⟩
  |bl b=>cases r;exact⟨SeqAt.RcAt.tuple_bool b g h,SeqAt.RcNeAt.tuple_bool b g h⟩
  |int i=>obtain⟨c,rfl⟩:=r;exact⟨SeqAt.RcAt.tuple_int i c g h,SeqAt.RcNeAt.tuple_int i c g h⟩
  |str i=>obtain⟨c,rfl⟩:=r;exact⟨SeqAt.RcAt.tuple_str i c g h,SeqAt.RcNeAt.tuple_str i c g h⟩
  |_=>exact aX (rJ f)
 |lst M P F=>
  rename_i a xs ds;cases C;obtain⟨p,w1,g⟩:=ok.lst M;induction B using aw.cs with
  |lst l o q=>
   rename_i b O es;cases r;obtain⟨m,w,t⟩:=ok.lst l;simp only[dR]at D;obtain⟨k,rfl⟩:∃k,n=k+1:=⟨n-1,Bf D⟩
   have l1:p.toArray.size=ds.length:=by rw[cW,<-w1.length,F.length]
   have l2:m.toArray.size=es.length:=by rw[cW,<-w.length,q.length]
   have J:=yJ (ds:=ds) (es:=es) l1 l2;by_cases E:p.toArray.size=m.toArray.size
   .have G:=N1 ok (A:=A.in1) k F q w1 w (Bg D) (vX nd) (vX f) (by show A.units+1+k<cLine;exact Be L)
    have z:=Lh g t E h G;have I:=SeqAt.RcNeAt.lists g t E h G;rw[<-E,Am,beq_self_eq_true,uQ]at J;rw[J]at z I;simp only[cD];exact⟨z,I⟩
   .rw[beq_eq_false_iff_ne.mpr E,xm]at J
    simp only[cD];rw[<-J];exact⟨Lf g t (by simpa using E) h,SeqAt.RcNeAt.lists_lengths g t (by simpa using E) h⟩
  |tup l q=>
   cases r;obtain⟨m,w,t⟩:=ok.tup l;simp only[cD];exact⟨SeqAt.RcAt.list_tuple g t h,SeqAt.RcNeAt.list_tuple g t h⟩
  |non=>cases r;exact⟨SeqAt.RcAt.list_none g h,SeqAt.RcNeAt.list_none g h⟩
  |bl b=>cases r;exact⟨SeqAt.RcAt.list_bool b g h,SeqAt.RcNeAt.list_bool b g h⟩
  |int i=>obtain⟨c,rfl⟩:=r;exact⟨SeqAt.RcAt.list_int i c g h,SeqAt.RcNeAt.list_int i c g h⟩
  |str i=>obtain⟨c,rfl⟩:=r;exact⟨SeqAt.RcAt.list_str i c g h,SeqAt.RcNeAt.list_str i c g h⟩
  |_=>exact aX (rJ f)
 |non=>
  cases C;induction B using aw.cs with
  |tup l q=>cases r;obtain⟨_,_,t⟩:=ok.tup l;exact⟨SeqAt.RcAt.none_tuple t h,SeqAt.RcNeAt.none_tuple t h⟩
  |lst l o q=>cases r;obtain⟨_,_,t⟩:=ok.lst l;exact⟨SeqAt.RcAt.none_list t h,SeqAt.RcNeAt.none_list t h⟩
  |dK _ _ _=>exact(iP f).elim
  |dT _ _ _=>exact(iP f).elim
  |set _ _ _ _=>exact(pN f).elim
  |scr _=>exact(pO f).elim
  |fn _=>exact(pP f).elim
  |itm _=>exact(pQ f).elim
  |itx _=>exact(pR f).elim
  |non=>cases r;exact⟨SeqAt.RcAt.none_none,SeqAt.RcNeAt.none_none⟩
  |bl b=>cases r;exact⟨SeqAt.RcAt.none_bool b,SeqAt.RcNeAt.none_bool b⟩
  |int i=>obtain⟨c,rfl⟩:=r;exact⟨SeqAt.RcAt.none_int i c,SeqAt.RcNeAt.none_int i c⟩
  |str i=>obtain⟨c,rfl⟩:=r;exact⟨SeqAt.RcAt.none_str i c,SeqAt.RcNeAt.none_str i c⟩
 |bl a=>
  cases C;induction B using aw.cs with
  |tup l q=>cases r;obtain⟨_,_,t⟩:=ok.tup l;exact⟨SeqAt.RcAt.bool_tuple a t h,SeqAt.RcNeAt.bool_tuple a t h⟩
  |lst l o q=>cases r;obtain⟨_,_,t⟩:=ok.lst l;exact⟨SeqAt.RcAt.bool_list a t h,SeqAt.RcNeAt.bool_list a t h⟩
  |dK _ _ _=>exact(iP f).elim
  |dT _ _ _=>exact(iP f).elim
  |set _ _ _ _=>exact(pN f).elim
  |scr _=>exact(pO f).elim
  |fn _=>exact(pP f).elim
  |itm _=>exact(pQ f).elim
  |itx _=>exact(pR f).elim
  |non=>cases r;exact⟨SeqAt.RcAt.bool_none a,SeqAt.RcNeAt.bool_none a⟩
  |bl b=>cases r;exact⟨SeqAt.RcAt.bool_bool a b,SeqAt.RcNeAt.bool_bool a b⟩
  |int i=>obtain⟨c,rfl⟩:=r;exact⟨SeqAt.RcAt.bool_int a i c,SeqAt.RcNeAt.bool_int a i c⟩
  |str i=>obtain⟨c,rfl⟩:=r;exact⟨SeqAt.RcAt.bool_str a i c,SeqAt.RcNeAt.bool_str a i c⟩
 |int a=>
  obtain⟨j,rfl⟩:=C;induction B using aw.cs with
  |tup l q=>cases r;obtain⟨_,_,t⟩:=ok.tup l;exact⟨SeqAt.RcAt.int_tuple a j t h,SeqAt.RcNeAt.int_tuple a j t h⟩
  |lst l o q=>cases r;obtain⟨_,_,t⟩:=ok.lst l;exact⟨SeqAt.RcAt.int_list a j t h,SeqAt.RcNeAt.int_list a j t h⟩
  |dK _ _ _=>exact(iP f).elim
  |dT _ _ _=>exact(iP f).elim
  |set _ _ _ _=>exact(pN f).elim
  |scr _=>exact(pO f).elim
  |fn _=>exact(pP f).elim
  |itm _=>exact(pQ f).elim
  |itx _=>exact(pR f).elim
  |non=>cases r;exact⟨SeqAt.RcAt.int_none a j,SeqAt.RcNeAt.int_none a j⟩
  |bl b=>cases r;exact⟨SeqAt.RcAt.int_bool a j b,SeqAt.RcNeAt.int_bool a j b⟩
  |int i=>obtain⟨c,rfl⟩:=r;exact⟨SeqAt.RcAt.int_int a j i c,SeqAt.RcNeAt.int_int a j i c⟩
  |str i=>obtain⟨c,rfl⟩:=r;exact⟨SeqAt.RcAt.int_str a j i c,SeqAt.RcNeAt.int_str a j i c⟩
 |str a=>
  obtain⟨j,rfl⟩:=C;induction B using aw.cs with
  |tup l q=>cases r;obtain⟨_,_,t⟩:=ok.tup l;exact⟨SeqAt.RcAt.str_tuple a j t h,SeqAt.RcNeAt.str_tuple a j t h⟩
  |lst l o q=>cases r;obtain⟨_,_,t⟩:=ok.lst l;exact⟨SeqAt.RcAt.str_list a j t h,SeqAt.RcNeAt.str_list a j t h⟩
  |dK _ _ _=>exact(iP f).elim
  |dT _ _ _=>exact(iP f).elim
  |set _ _ _ _=>exact(pN f).elim
  |scr _=>exact(pO f).elim
  |fn _=>exact(pP f).elim
  |itm _=>exact(pQ f).elim
  |itx _=>exact(pR f).elim
  |non=>cases r;exact⟨SeqAt.RcAt.str_none a j,SeqAt.RcNeAt.str_none a j⟩
  |bl b=>cases r;exact⟨SeqAt.RcAt.str_bool a j b,SeqAt.RcNeAt.str_bool a j b⟩
  |int i=>obtain⟨c,rfl⟩:=r;exact⟨SeqAt.RcAt.str_int a j i c,SeqAt.RcNeAt.str_int a j i c⟩
  |str i=>obtain⟨c,rfl⟩:=r;exact⟨SeqAt.RcAt.str_str a j i c,SeqAt.RcNeAt.str_str a j i c⟩
 |_=>exact aX (rJ nd)
end
section
variable{K:av}{H:ah}{s:ao}
open Classical in
def kF(K:av)(H:ah)(d:D)(u:Value):Bool:=if h:∃e,bu e=true/\∃y,RelV y u/\aw K (λ _=>True) H y e then cD (choose h) d else false
def N3(ok:ly K H s)(r:RelV y u)(h:aw K A H y e)(n:bu e=true):kF K H d u=cD e d:=by
 have x:∃e,bu e=true/\∃y,RelV y u/\aw K (λ _=>True) H y e:=⟨e,n,y,r,h.wk λ _ _ _ _=>trivial⟩
 unfold kF;rw[dif_pos x];obtain⟨n',c,a,h'⟩:=Classical.choose_spec x;have b:=RelV.inj r a;subst b;rw[aw.inj ok h' h n' n]
noncomputable def ke(d:D)(es:List D):Bool:=es.any λ e=>cD e d
def B6(ok:ly K H s):∀{A:Addr->Prop} {xs:List V} {es:List D} {us:List Value},az K A H xs es->Vals xs us->cA es=true->us.any (kF K H d)=ke d es:=by
 intro A xs es us h v n;induction v generalizing es with
 |nil=>cases h;rfl
 |cons k t i=>
  cases h with
  |cons h r=>
   simp only[cA,cF]at n;rw[List.any_cons,N3 ok k h n.1,i r n.2];rfl
def B7(ok:ly K H s)(c:aw K A0 H x d)(f:RelV x v)(g:A.units+n<cLine)(nd:bu d=true):∀{a:Addr->Prop} {xs:List V} {es:List D} {us:List Value},az K a H xs es->Vals xs us->cQ es<=n->cA es=true->∀u∈us,mT A s u v (kF K H d u):=by
 intro a xs es us h i b e u m;induction i generalizing es with
 |nil=>simp_all
 |cons k t j=>
  cases h with
  |cons h r=>
   simp only[cA,cF]at e;rcases bI.mp m with z|z
   .subst z
    rw[N3 ok k h e.1];exact W5 ok n h c k f (eJ (DF _ _) b) e.1 nd g
   .exact j r (eJ (DC _ _) b) e.2 z
end
section
variable{X:aC}
def vY(K:av)(n:Bool):aG:=λ x y H Q=>∃A B d e,aw K A H x d/\aw K B H y e/\dR d<=60/\bu d=true/\bu e=true/\Q (.bl (if n then !cD d e else cD d e)) H
def N4(a:X.A.units+64<cLine):bU X (eK .Eq) (vY X.K false):=by
 intro k s σ H x y v u Q I r b h;obtain⟨A,B,d,e,c,f,g,nd,n,q⟩:=h;exact(N2 (Inv.seqOk I) 60 c f r b g nd n (L4 a)).1 _ _ _ _ ⟨.bl _,H,I,rfl,q⟩
def W6(a:X.A.units+64<cLine):bU X (eK .NotEq) (vY X.K true):=by
 intro k s σ H x y v u Q I r b h;obtain⟨A,B,d,e,c,f,g,nd,n,q⟩:=h;exact(N2 (Inv.seqOk I) 60 c f r b g nd n (L4 a)).2 _ _ _ _ ⟨.bl _,H,I,rfl,q⟩
def yK(K:av)(n:Bool):aG:=λ x y H Q=>∃A B d a es,aw K A H x d/\y= .ref a/\(aw K B H (.ref a) (.lst es)\/aw K B H (.ref a) (.tup es))/\cQ es<=60/\bu d=true/\cA es=true/\Q (.bl (if n then !ke d es else ke d es)) H
def W7(o:X.A.units+64<cLine):bU X (eK .In) (yK X.K false):=by
 intro p s σ H x y v u Q I j m h;obtain⟨A,B,d,a,es,k,rfl,b,l,nd,n,q⟩:=h;cases m;have ok:=Inv.seqOk I;have c:X.A.in1.units+60<cLine:=by lia
 rcases b with b|b
 .obtain⟨_,_,f,ha,_,r⟩:=b.lst_inv
  cases f;obtain⟨i,e,t⟩:=ok.lst ha;refine SeqAt.in_listAt _ t (λ w g=>B7 ok k j c nd r e l n w (by simpa using g)) ⟨.bl _,H,I,rfl,?_⟩;rw[show i.toArray.any (kF X.K H d)=i.any (kF X.K H d)by simp,B6 ok r e n];exact q
 .obtain⟨_,_,f,ha,r⟩:=b.tup_inv
  cases f;obtain⟨i,e,t⟩:=ok.tup ha;refine SeqAt.in_tupleAt (kF X.K H d) t (λ w g=>B7 ok k j c nd r e l n w (by simpa using g)) ⟨.bl _,H,I,rfl,?_⟩;rw[show i.toArray.any (kF X.K H d)=i.any (kF X.K H d)by simp,B6 ok r e n];exact q
def W8(o:X.A.units+64<cLine):bU X (eK .NotIn) (yK X.K true):=by
 intro p s σ H x y v u Q I g m h;obtain⟨A,B,d,a,es,j,rfl,b,k,nd,n,q⟩:=h;cases m;have ok:=Inv.seqOk I;have c:X.A.in1.units+60<cLine:=by grind
 rcases b with b|b
 .obtain⟨_,_,f,ha,_,r⟩:=b.lst_inv
  cases f;obtain⟨i,e,t⟩:=ok.lst ha;refine SeqAt.notIn_listAt _ t (λ w l=>B7 ok j g c nd r e k n w (by simp_all)) ⟨.bl _,H,I,rfl,?_⟩;rw[show i.toArray.any (kF X.K H d)=i.any (kF X.K H d)by simp,B6 ok r e n];exact q
 .obtain⟨_,_,f,ha,r⟩:=b.tup_inv
  cases f;obtain⟨i,e,t⟩:=ok.tup ha;refine SeqAt.notIn_tupleAt (kF X.K H d) t (λ w l=>B7 ok j g c nd r e k n w (by simpa using l)) ⟨.bl _,H,I,rfl,?_⟩;rw[show i.toArray.any (kF X.K H d)=i.any (kF X.K H d)by simp,B6 ok r e n];exact q
end
section
variable{K:av}
noncomputable def cq(n:Bool):D->D->ag D:=λ d e=>if decide (dR d<=60)&&bu d&&bu e then .ok (.bl (if n then !cD d e else cD d e))else .st
noncomputable def gI(n:Bool):D->D->ag D:=λ d e=>match e with
 | .lst es=>if decide (cQ es<=60)&&bu d&&cA es then .ok (.bl (if n then !ke d es else ke d es))else .st
 | .tup es=>if decide (cQ es<=60)&&bu d&&cA es then .ok (.bl (if n then !ke d es else ke d es))else .st
 |_=>.st
def os_eq:fE K (vY K n) (cq n):=by
 intro A x y d e H Q z r b a q;unfold cq at a;split at a
 .rename_i h
  simp only[cF,decide_eq_true_eq]at h;cases a;exact⟨A,A,d,e,r,b,h.1.1,h.1.2,h.2,q _ H (aE.refl H) (.bl _)⟩
 contradiction
def N5:fE K (yK K n) (gI n):=by
 intro A x y d e H Q z c f a q;unfold gI at a;split at a
 .split at a
  .rename_i h
   simp only[cF,decide_eq_true_eq]at h;cases a;obtain⟨_,_,b,ha,mm,r⟩:=f.lst_inv;cases b;exact⟨A,A,d,_,_,c,rfl,.inl (.lst ha mm r),h.1.1,h.1.2,h.2,q _ H (aE.refl H) (.bl _)⟩
  .cases a
 .split at a
  .rename_i h
   simp only[cF,decide_eq_true_eq]at h;cases a;obtain⟨_,_,b,ha,r⟩:=f.tup_inv;cases b;exact⟨A,A,d,_,_,c,rfl,.inr (.tup ha r),h.1.1,h.1.2,h.2,q _ H (aE.refl H) (.bl _)⟩
  .cases a
 simp_all
def W9:∀x y z,cq n x y= .ok z->imm z=true:=by
 intro x y z e;unfold cq at e;split at e
 .cases e;rfl
 contradiction
end
section
variable{K:av}
noncomputable def boolsOf:List D->Option (List Bool)
 |[]=>some []
 | .bl i::r=>(boolsOf r).map (i::·)
 |_=>none
theorem N6:∀{l:List D} {ns:List Bool},boolsOf l=some ns->l=ns.map .bl
 |[],ns,h=>by cases h;rfl
 | .bl i::r,ns,h=>by
  simp only[boolsOf,DH]at h;obtain⟨m,a,rfl⟩:=h;rw[N6 a];rfl
 | .non::_,_,h=>by cases h
 | .int _::_,_,h=>by cases h
 | .str _::_,_,h=>by cases h
 | .tup _::_,_,h=>by cases h
 | .lst _::_,_,h=>by cases h
 | .dct _ _::_,_,h=>by cases h
 | .set _::_,_,h=>by cases h
 | .scr _::_,_,h=>by cases h
theorem N7:∀ns:List Bool,boolsOf (ns.map .bl)=some ns
 |[]=>rfl
 |n::ns=>by simp only[dH,boolsOf,N7 ns,sL]
theorem N8{X:aC}:∀{bs:List Bool} {us:List Value},Vals (bs.map V.bl) us->LSm.BoolsAre us bs
 |[],_,.nil=>.nil
 |b::bs,_,.cons r t=>by
  have e:=r;subst e;exact .cons b (N8 (X:=X) t)
theorem az.bools_of:∀{xs:List V} {bs:List Bool},az K A H xs (bs.map D.bl)->xs=bs.map V.bl
 |_,[],.nil=>rfl
 |_,n::ns,.cons h r=>by
  cases h;rw[dH,az.bools_of r]
noncomputable def pS(f:List Bool->Bool):List D->ag D
 |[.lst l]=>match boolsOf l with
  |some bs=>.ok (.bl (f bs))
  |none=>.st
 |_=>.st
def Xa{X:aC}(f:X.calm=true):fC X (.builtin "all") (λ xs H Q=>∃(p:Addr) (bs:List Bool),xs=[.ref p]/\H p=some (.lst (bs.map V.bl))/\Q (.bl (bs.all id)) H):=by
 intro n s σ H xs us Q I r h;obtain⟨p,bs,rfl,g,q⟩:=h;obtain⟨u,rfl,j⟩:=vals1 r;cases j;obtain⟨t,k,aO,hz⟩:=I.list (bN.of g);have c:=N8 (X:=X) k;have l:=aO.isList;have a:p<s.heap.objs.size:=by obtain⟨_,e,_⟩:=l;exact bE e
 refine call_all_walk (Ax l ?_);refine⟨s.heap.objs.size,_,_,t.toArray.size,_,_,λ i=>(bs[i]?).getD true,rfl,EJ (A:=X.A.in1) (I.ok.hd f) _ p (cH a) t.toArray,
  ⟨⟨_,dr _ rfl,rfl,rfl⟩,l.push _⟩,λ i v s' o E' P d=>?_,λ h' w m=>?_⟩
 .obtain⟨b,e,rfl⟩:=c.get i v (by simpa using P)
  simp only[e,J9]at d;exact pf d
 .have e:((dP t.toArray.size).all λ i=>(bs[i]?).getD true)=bs.all id:=by
   rw[cW,c.length];exact LSm.range_all bs
  rw[e];exact⟨.bl _,H,I.kept (LSm.kept_iter m),rfl,q⟩
def Xb:om K (λ xs H Q=>∃(p:Addr) (bs:List Bool),xs=[.ref p]/\H p=some (.lst (bs.map V.bl))/\Q (.bl (f bs)) H) (pS f):=by
 intro A xs ds H Q z r a q;unfold pS at a;split at a
 .split at a
  .rename_i l bs e
   cases a
   have:=N6 e
   subst this;cases r with
   |cons h r=>
    cases r;replace h:=h.lst_inv;obtain⟨_,_,b,h,m,r⟩:=h;cases b
    have:=r.bools_of
    subst this;exact⟨_,bs,rfl,h,q _ H (aE.refl H) (.bl _)⟩
  simp_all
 simp_all
def Xc:∀x z,pS f x= .ok z->imm z=true:=by
 intro x z e;unfold pS at e;split at e
 .split at e
  .cases e;rfl
  simp_all
 contradiction
noncomputable def jf(f:Int->Int->Int):List D->ag D
 |[.int i,.int j]=>.ok (.int (f i j))
 |_=>.st
def N9:om K (λ xs H Q=>∃i j,xs=[.int i,.int j]/\Q (.int (f i j)) H) (jf f):=by
 intro A xs ds H Q z r e q;unfold jf at e;split at e
 .cases e
  cases r with
  |cons h r=>
   cases h;cases r with
   |cons h r=>
    cases h;cases r;exact⟨_,_,rfl,q _ H (aE.refl H) (.int _)⟩
 simp_all
def Oa:∀x z,jf f x= .ok z->imm z=true:=by
 intro x z e;unfold jf at e;split at e
 .cases e;rfl
 lia
noncomputable def nu:List D->ag D
 |[.lst l]=>.ok (.tup l)
 |[.tup l]=>.ok (.tup l)
 |_=>.st
def yL:List D->ag D
 |[.lst l]=>.ok (.lst l)
 |[.tup l]=>.ok (.lst l)
 |_=>.st
def Xd:om K (λ xs H Q=>∃p y,xs=[.ref p]/\((bN K H p y/\∀l,H l=none->Q (.ref l) (bq H l (.tup y)))\/(bf K H p y/\Q (.ref p) H))) nu:=by
 intro A xs ds H Q z r e q;unfold nu at e;split at e
 .cases e
  cases r with
  |cons h r=>
   cases r;replace h:=h.lst_inv;obtain⟨_,_,a,h,m,r⟩:=h;cases a;exact⟨_,_,rfl,.inl ⟨bN.of h,λ l b=>q _ _ (eG b _) (.tup (bf.of dM) ((r.wk λ _ _ _ z=>.inr z.1).up (eG b _)))⟩⟩
 .cases e
  cases r with
  |cons h r=>
   cases r;replace h:=h.tup_inv;obtain⟨_,_,a,h,r⟩:=h;cases a;exact⟨_,_,rfl,.inr ⟨h,q _ H (aE.refl H) (.tup h (r.wk λ _ _ _ z=>.inr z))⟩⟩
 contradiction
def Xe:om K (λ xs H Q=>∃p y,xs=[.ref p]/\(bN K H p y\/bf K H p y)/\∀l,H l=none->Q (.ref l) (bq H l (.lst y))) yL:=by
 intro A xs ds H Q z r b q;unfold yL at b;split at b
 .cases b
  cases r with
  |cons h r=>
   cases r;replace h:=h.lst_inv;obtain⟨_,_,c,h,m,r⟩:=h;cases c;exact⟨_,_,rfl,.inl (bN.of h),λ l a=>q _ _ (eG a _) (.lst dM (.inl a) ((r.wk λ p o e z=>⟨.inr z.1,λ d=>by simp_all⟩).up (eG a _)))⟩
 .cases b
  cases r with
  |cons h r=>
   cases r;replace h:=h.tup_inv;obtain⟨_,_,c,h,r⟩:=h;cases c;exact⟨_,_,rfl,.inr h,λ l a=>q _ _ (eG a _) (.lst dM (.inl a) ((r.wk λ p o e z=>⟨.inr z,λ d=>by simp_all⟩).up (eG a _)))⟩
 .cases b
end
noncomputable def cutD(l:List D)(o h:Option Int):List D:=(l.drop (HT.sIx l.length 0 o)).take (HT.sIx l.length l.length h-HT.sIx l.length 0 o)
def az.cut{K:av}(r:az K A H xs ds)(l h:Option Int):az K A H (og xs l h) (cutD ds l h):=by
 unfold og cutD;rw[r.length];exact(r.drop _).take _
noncomputable def B8(d:D)(o h:Option Int):ag D:=match d with
 | .tup l=>.ok (.tup (cutD l o h))
 | .lst l=>.ok (.lst (cutD l o h))
 |_=>.st
def Ob(K:av):V->Option Int->Option Int->ah->br->Prop:=λ x l h H Q=>(∃a xs,x= .ref a/\bf K H a xs/\∀c H',aE H H'->bf K H' c (og xs l h)->Q (.ref c) H')\/MZ K x l h H Q
def Xf:ri X (λ x l i H Q=>∃a xs,x= .ref a/\bf X.K H a xs/\∀c H',aE H H'->bf X.K H' c (og xs l i)->Q (.ref c) H'):=by
 intro j s σ H x v m u l i sl Q I g e aO p h;obtain⟨a,xs,rfl,f,q⟩:=h;cases g;obtain⟨t,r,d,hz⟩:=I.tuple f;have k:t.toArray.size=xs.length:=by rw[cW];exact r.length.symm
 refine⟨"tuple",_,qG.lookup,d.typeIs,?_⟩;by_cases w:HT.sIx xs.length 0 l=0/\HT.sIx xs.length xs.length i=xs.length
 .refine HT.ut d e aO p (by rw[k];exact w.1) (by rw[k];exact w.2) ⟨.ref a,H,I,rfl,q a H (aE.refl H) ?_⟩
  have:og xs l i=xs:=by
   unfold og;simp_all
  rw[this];exact f
 .refine HT.ur d e aO p (by rw[k];exact w) ?_ (by rw[k];exact hz)
  rw[k];refine⟨.ref s.heap.objs.size,_,I.laid (t':=s.toks) (o:=.tup (og xs l i)) (λ b n q=>bj _ q) (bc _) ?_,rfl,q _ _ (eG (I.hok.fresh (bc _)) _) (bf.of dM)⟩;exact⟨⟨eJ (MQ xs l i) hz,NoD.push _⟩,_,(r.drop (HT.sIx xs.length 0 l)).take _,sQ _ _⟩
def Xg:ri X (Ob X.K):=Xf.or U6
section
variable{C:bB}{g n:Pos}{m:Mode}{a e:Expr}{k fe:af->ag D}{A B:Option Expr}
def Xh(K:av)(G:fw)(t:dc)(f:af->ag (Option Int)):Prop:=∀τ σ H ρ lab (Q:Option Int->ah->Prop),RR K G τ ρ σ H lab->iA G (f ρ) (λ o=>∀H',aE H H'->Q o H')->t σ H Q
def vZ(C:bB)(e:Option Expr)(f:af->ag (Option Int)):Prop:=∃t,(∀i,tL (C.X i) e t)/\Xh C.K C.G t f
def hP:af->ag (Option Int):=λ _=>.ok none
def fx(fe:af->ag D):af->ag (Option Int):=λ ρ=>(fe ρ).bd λ d=>match d with
 | .int i=>.ok (some i)
 |_=>.st
def tW:vZ C none hP:=⟨_,λ _=>UV,λ τ σ H ρ lab Q R W=>W H (aE.refl H)⟩
def nv(h:aA C m e fe):vZ C (some e) (fx fe):=by
 obtain⟨t,a,b⟩:=h;refine⟨_,λ i=>UW (a i),λ τ σ H ρ lab Q R W=>b τ σ H ρ _ _ R (W.bd.imp λ d _ w x c s r=>?_)⟩;induction r using aw.cs with
 |int i=>exact⟨i,rfl,w c s⟩
 |_=>exact aX w
def fP(k:af->ag D)(f a:af->ag (Option Int)):af->ag D:=λ ρ=>(k ρ).bd λ d=>(f ρ).bd λ l=>(a ρ).bd λ h=>okD (B8 d l h)
def rK{v y:af->ag (Option Int)}(ha:aA C m a k)(G:vZ C A v)(I:vZ C B y):aA C m (.Subscript a (.Slice A B none n) g) (fP k v y):=by
 obtain⟨t,J,K⟩:=ha;obtain⟨L,l1,l2⟩:=G;obtain⟨th,k1,k2⟩:=I;refine⟨MP (Ob C.K) t L th,λ i=>by rw[<-C.hK i];exact UX Xg (J i) (l1 i) (k1 i),λ τ σ H ρ lab Q R W=>K τ σ H ρ lab _ R (W.bd.imp λ d _ w x M b N=>?_)⟩;refine l2 τ σ M ρ lab _ (R.up b) (w.bd.imp λ D _ w O s2=>?_);refine k2 τ σ O ρ lab _ ((R.up b).up s2) (w.bd.imp λ E _ w S s3=>?_);obtain⟨z,f,w⟩:=w.okD;have s:=b.trans (s2.trans s3);have F:=N.up (s2.trans s3);cases d with
 |tup l=>
  cases f;obtain⟨_,_,j,h,r⟩:=F.tup_inv;cases j;exact .inl ⟨_,_,rfl,h,λ c H' s' P=>w _ H' (s.trans s') (.tup P ((r.cut D E).up s'))⟩
 |lst l=>
  cases f;obtain⟨_,_,j,h,mm,r⟩:=F.lst_inv;cases j;exact .inr ⟨_,_,rfl,bN.of h,λ p u=>w _ _ (s.trans (eG u _)) (.lst dM (.inl (s.free u)) (((r.cut D E).wk λ q o e z=>⟨z.1,λ T=>by lia⟩).up (eG u _)))⟩
 |_=>cases f
def Gf:D->ag D
 | .tup l=>.ok (.tup l.reverse)
 |_=>.st
def Oc(K:av)(t:bz):bz:=λ σ H Q=>t σ H λ x b=>∃a xs,x= .ref a/\bf K b a xs/\∀c H',aE b H'->H' c=some (.tup xs.reverse)->Q (.ref c) H'
def Xi(m:aY X e te):aY X (.Subscript e (.Slice none none (some (.UnaryOp .USub (.Constant (.int 1) j p3) p4)) n) g) (Oc X.K te):=by
 intro k s σ H Q I h;refine DP (aZ (m k s σ H _ I h) λ v p ⟨x,f,w,y,A⟩=>?_);obtain⟨a,xs,rfl,B,q⟩:=A;cases y;have C:aY X (.UnaryOp .USub (.Constant (.int 1) j p3) p4) (Mx (Fh λ i=>.int (-i)) (m7 (.int 1))):=Ud Un E0;refine D9 ?_;rw[D3];refine aB (aB ?_);rw[evalPart_some];refine aZ (C k p σ f (λ z c=>z= .int (-1)/\c=f) w ⟨1,rfl,rfl,rfl⟩) λ u s2 ⟨z,c,D,E,F,G⟩=>?_
 subst F G;obtain⟨J,rfl⟩:=E;have d:Inv X k σ c {s2 with heap:=s2.heap.push {cls:=.type "slice",data:=.fields #[.none,.none,.int (-1) J]}}:=D.kept (t':=s2.toks) λ b K q=>bj _ q
 obtain⟨t,r,l,hz⟩:=d.tuple B;have L:t.toArray.size=xs.length:=by rw[cW];exact r.length.symm
 show wpAny (bJ X) X.A (subscriptTail e _ (.ref a) (.ref s2.heap.objs.size)) (hh X k σ Q) X.xe _;refine tail_any (ops:=[.ref a,.ref s2.heap.objs.size]) l.typeIs qG.lookup ?_ (by with_unfolding_all rfl);refine HT.uq l (Eo ..) ?_ (by rw[L];exact hz);refine⟨.ref _,_,d.laid (t':=s2.toks) (o:=.tup xs.reverse) (λ b K q=>bj _ q) (bc _) ?_,rfl,q _ _ (eG (d.hok.fresh (bc _)) _) dM⟩;exact⟨⟨by rw[qy];exact hz,NoD.push _⟩,_,r.reverse,sQ _ _⟩
def Xj(h:aA C m e fe):aA C m (.Subscript e (.Slice none none (some (.UnaryOp .USub (.Constant (.int 1) j p3) p4)) n) g) (ml Gf fe):=by
 obtain⟨t,a,b⟩:=h;refine⟨Oc C.K t,λ i=>by rw[<-C.hK i];exact Xi (a i),λ τ σ H ρ lab Q R W=>b τ σ H ρ _ _ R (W.bd.imp λ d _ w x u f k=>?_)⟩;obtain⟨z,o,w⟩:=w.okD;cases d with
 |tup l=>
  obtain⟨_,_,p,h,r⟩:=k.tup_inv;cases p;exact⟨_,_,rfl,h,λ c H' s q=>w _ H' (f.trans s) (.tup (bf.of q) (r.reverse.up s))⟩
 |_=>cases o
def oB(f:D->D->ag D)(i:Nat)(fe:af->ag D):af->ax:=λ ρ=>(ai f (eL i) fe ρ).bo λ d=>.nx (ρ.set i (.sh d))
def Od(h:aA C m e fe)(o:∀j,Br (C.X j) op (Mt f))(N:∀j,(C.X j).N[i]? =some x:=by z_go)(k:∀j,kW (C.X j).env.scope x:=by f_tup)(hf:∀j,(C.X j).fn x=true\/(C.X j).env.scope.names.lookup x=some .local:=by fin2)(nd:∀j,(C.X j).N.Nodup:=by intro _;assumption):hG C (.AugAssign (.Name x pos') op e g) (oB (bw (λ _ _=>true) λ a b=>.int (f a b)) i fe):=by
 obtain⟨t,l,n⟩:=h;refine⟨_,λ j=>Ms (nd j) (N j) (k j) (l j) (o j) (hf j),λ τ σ H ρ lab D R W=>?_⟩;have p:=(nq.bo W).bd;refine FK C.K C.G i τ σ H ρ lab _ R (p.imp λ d _ w v H' s r=>n τ σ H' ρ lab _ (R.up s) (w.bd.imp λ e _ w y A q u=>?_));obtain⟨z,c,w⟩:=w.okD;unfold bw at c;split at c
 .cases c
  cases r;cases u;exact⟨_,_,rfl,rfl,w _ _ _ (((R.up s).up q).put (s:=.sh (.int _)) (aw.int _))⟩
 .cases c
end
section
variable{C:bB}{f p:Pos}{m l n E:Mode}{a b c e:Expr}{k g B:af->ag D}{A:af->ag (List D)}
def bB.u0(C:bB)(i:C.ι):(C.X i).A.units<cLine:=(C.room i).units0
def bB.u64(C:bB)(i:C.ι):(C.X i).A.units+64<cLine:=(C.room i).units
def bB.ltR(C:bB)(i:C.ι):bU (C.X i) (eK .Lt) (λ x y H Q=>i6 (λ i j=>.bl (decide (i<j))) x y H Q\/BC C.K x y H Q):=by have h:=WN (C.u0 i);rw[C.hK i]at h;assumption
def bB.leR(C:bB)(i:C.ι):bU (C.X i) (eK .LtE) (λ x y H Q=>i6 (λ i j=>.bl (decide (i<=j))) x y H Q\/BE C.K x y H Q):=by have h:=WO (C.u0 i);rw[C.hK i]at h;assumption
def bB.eqRl(C:bB)(i:C.ι):bU (C.X i) (eK .Eq) (vY C.K false):=by have h:=N4 (C.u64 i);rw[C.hK i]at h;assumption
def bB.neRl(C:bB)(i:C.ι):bU (C.X i) (eK .NotEq) (vY C.K true):=by have h:=W6 (C.u64 i);rw[C.hK i]at h;assumption
def bB.inRl(C:bB)(i:C.ι):bU (C.X i) (eK .In) (yK C.K false):=by have h:=W7 (C.u64 i);rw[C.hK i]at h;assumption
def bB.ninRl(C:bB)(i:C.ι):bU (C.X i) (eK .NotIn) (yK C.K true):=by have h:=W8 (C.u64 i);rw[C.hK i]at h;assumption
def bB.aPz(C:bB)(i:C.ι):bU (C.X i) (hZ .Add) (FX C.K):=by have h:=WJ (X:=C.X i);rw[C.hK i]at h;assumption
noncomputable def yM:D->D->ag D:=bw (λ _ _=>true) λ i j=>.int (i-j)
noncomputable def rL:D->D->ag D:=bw (λ _ j=>decide (0<j)&&decide (j<1073741824)) λ i j=>.int (i / j)
noncomputable def lz:D->D->ag D:=bw (λ _ j=>decide (0<j)) λ i j=>.int (i%j)
noncomputable def Gg:D->D->ag D:=bw (λ i j=>decide (0<=j)&&decide (j<=1000000)&&decide (i.natAbs<2^64)) λ i j=>.int (i^j.toNat)
def fT(ha:aA C l a k)(h:aA C n b g):aA C (nj l n) (.BinOp a .Add b f) (ai bZ k g):=tS C.aPz WK ha h
def pT(ha:aA C l a k)(h:aA C n b g):aA C (nj l n) (.BinOp a .Mult b f) (ai fH k g):=tS (λ _=>WL) WM ha h
def Oe(ha:aA C l a k)(c:aA C n b g):aA C (some []) (.BinOp a .Sub b f) (ai yM k g):=mn (tS (λ _=>Uh) WH ha c) λ _ _ h=>vO B0 h
def Of(ha:aA C l a k)(c:aA C n b g):aA C (some []) (.BinOp a .FloorDiv b f) (ai rL k g):=mn (tS (λ _=>Uj) (FW λ i j h=>by simpa[MA]using h) ha c) λ _ _ h=>vO B0 h
def v5(ha:aA C l a k)(c:aA C n b g):aA C (some []) (.BinOp a .Mod b f) (ai lz k g):=mn (tS (λ _=>Uk) (FW λ i j h=>by simp_all) ha c) λ _ _ h=>vO B0 h
def Xk(ha:aA C l a k)(c:aA C n b g):aA C (some []) (.BinOp a .Pow b f) (ai Gg k g):=mn (tS (λ _=>Ul) (FW λ i j h=>by simp only[cF,decide_eq_true_eq]at h;exact⟨h.1.1,h.1.2,h.2⟩) ha c) λ _ _ h=>vO B0 h
def Xl(ha:aA C l a k)(c:aA C n b g):aA C (some []) (.Compare a [.GtE] [b] f) (ai yH k g):=mn (Ny (λ _=>MB) yF ha c) λ _ _ h=>vO NJ h
def B9(ha:aA C l a k)(c:aA C n b g):aA C (some []) (.Compare a [.Eq] [b] f) (ai (cq false) k g):=mn (Ny C.eqRl os_eq ha c) λ _ _ h=>vO W9 h
def Gh(ha:aA C l a k)(h:aA C n b g):gS C (.Compare a [.Lt] [b] f) (bD (ai nr k g)):=rB C.ltR NO ha h
def v7(ha:aA C l a k)(h:aA C n b g):gS C (.Compare a [.Gt] [b] f) (bD (ai kD k g)):=rB (λ _=>Uq) yF ha h
def Xm(ha:aA C l a k)(h:aA C n b g):gS C (.Compare a [.GtE] [b] f) (bD (ai yH k g)):=rB (λ _=>MB) yF ha h
def tX(ha:aA C l a k)(h:aA C n b g):gS C (.Compare a [.Eq] [b] f) (bD (ai (cq false) k g)):=rB C.eqRl os_eq ha h
def v8(ha:aA C l a k)(h:aA C n b g):gS C (.Compare a [.NotEq] [b] f) (bD (ai (cq true) k g)):=rB C.neRl os_eq ha h
def Og(ha:aA C l a k)(h:aA C n b g)(m:mL .In b=false:=by with_unfolding_all rfl):gS C (.Compare a [.In] [b] f) (bD (ai (gI false) k g)):=rB C.inRl N5 ha h m
def Cb(ha:aA C l a k)(h:aA C n b g)(m:mL .NotIn b=false:=by with_unfolding_all rfl):gS C (.Compare a [.NotIn] [b] f) (bD (ai (gI true) k g)):=rB C.ninRl N5 ha h m
def Oh(ha:aA C l a k)(h:aA C n b g)(d:aA C E c B)(m:lastMarks [.LtE,.Lt] [b,c]=false:=by with_unfolding_all rfl):gS C (.Compare a [.LtE,.Lt] [b,c] f) (bD (yC B1 nr k g B)):=Wo C.leR WQ C.ltR NO WS ha h d m
def cE(ha:aA C l a k)(j:aA C n b g)(m:MS b:=by exact λ _ _=>rfl):aA C l (.Subscript a b f) (ai aF k g):=by
 obtain⟨t,A,B⟩:=ha;obtain⟨u,k1,k2⟩:=j;refine⟨tG (Fo C.K) t u,λ i=>by rw[<-C.hK i];exact MT U3 (A i) (k1 i) m,λ τ σ H ρ lab Q R W=>?_⟩;refine B τ σ H ρ lab _ R (W.bd.imp λ d _ w x D h E=>?_);refine k2 τ σ D ρ lab _ (R.up h) (w.bd.imp λ e _ w y F s2 G=>?_);obtain⟨z,c,w⟩:=w.okD;have I:imm e=true:=by
  unfold aF at c;split at c<;>first|rfl|cases c
 refine WT _ x y d e F Q z (E.up s2) (G.imm I) c λ v H' s r=>w v H' ((h.trans s2).trans s) (r.wk λ p o _ q=>?_)
 rcases q with q|q
 .exact .inl ((h.trans s2).free q)
 simp_all
def gx(b:C.mg "len"=none)(ha:fD C m [a] A)(e:∀i,aW [a] (C.X i).env=[(false,eval a (C.X i).env)]:=by z_go)(g:∀i,cN (C.X i) "len":=by z_go):aA C (some []) (.Call (.Name "len" p) [a] [] f) (aN cw A):=
 mn (vQ (λ i=>by have h:=M0 (X:=C.X i);rw[C.hK i]at h;assumption) NP g b Kk ha (by decide) (by decide) e) λ _ _ h=>vP NQ h
def Xn(b:C.mg "all"=none)(ha:fD C m [a] A)(e:∀i,aW [a] (C.X i).env=[(false,eval a (C.X i).env)]:=by z_go)(g:∀i,cN (C.X i) "all":=by z_go)(v:fu "all"=some (.builtin "all"):=by f_are):aA C (some []) (.Call (.Name "all" p) [a] [] f) (aN (pS λ bs=>bs.all id) A):=
 mn (vQ (λ i=>Xa (C.calm i)) Xb g b v ha (by decide) (by decide) e) λ _ _ h=>vP Xc h
def Gi(c:C.mg "min"=none)(ha:fD C m [a,b] A)(e:∀i,aW [a,b] (C.X i).env=(false,eval a (C.X i).env)::aW [b] (C.X i).env:=by z_go)(hpl:∀i,(gk f (aW [b] (C.X i).env)).any (·.1)=false:=by z_go)(g:∀i,cN (C.X i) "min":=by z_go)(v:fu "min"=some (.builtin "min"):=by f_are):aA C (some []) (.Call (.Name "min" p) [a,b] [] f) (aN (jf λ i j=>if j<i then j else i) A):=
 mn (vQ (λ i=>Uy (C.calm i)) N9 g c v ha (by decide) (by decide) e hpl) λ _ _ h=>vP Oa h
def Cc(c:C.mg "max"=none)(ha:fD C m [a,b] A)(e:∀i,aW [a,b] (C.X i).env=(false,eval a (C.X i).env)::aW [b] (C.X i).env:=by z_go)(hpl:∀i,(gk f (aW [b] (C.X i).env)).any (·.1)=false:=by z_go)(g:∀i,cN (C.X i) "max":=by z_go)(v:fu "max"=some (.builtin "max"):=by f_are):aA C (some []) (.Call (.Name "max" p) [a,b] [] f) (aN (jf λ i j=>if j>i then j else i) A):=
 mn (vQ (λ i=>Ux (C.calm i)) N9 g c v ha (by decide) (by decide) e hpl) λ _ _ h=>vP Oa h
def v9(b:C.mg "tuple"=none)(ha:fD C m [a] A)(e:∀i,aW [a] (C.X i).env=[(false,eval a (C.X i).env)]:=by z_go)(g:∀i,cN (C.X i) "tuple":=by z_go)(v:fu "tuple"=some (.type "tuple"):=by f_are):aA C m (.Call (.Name "tuple" p) [a] [] f) (aN nu A):=
 Nz (λ i=>by have h:=U7 (X:=C.X i);rw[C.hK i]at h;assumption) Xd g b v ha (by decide) (by decide) e
def Xo(b:C.mg "list"=none)(ha:fD C m [a] A)(e:∀i,aW [a] (C.X i).env=[(false,eval a (C.X i).env)]:=by z_go)(g:∀i,cN (C.X i) "list":=by z_go)(v:fu "list"=some (.type "list"):=by f_are):aA C m (.Call (.Name "list" p) [a] [] f) (aN yL A):=
 Nz (λ i=>by have h:=M1 (X:=C.X i);rw[C.hK i]at h;assumption) Xe g b v ha (by decide) (by decide) e
def Xp{K:av}{a:Addr}(O:Only H)(h:bN K H a (ns.map V.int)):ni K H a ns:=by
 rcases h with (h|⟨o,h⟩)|h
 .rcases O a with z|⟨o,xs,z⟩<;>simp_all
 .exact .inl ⟨o,h⟩
 .exact .inr h
end
def Gj:V->List V->ah->br->Prop:=λ x v H Q=>∃l b xs z,x= .ref l/\v=[.ref b]/\H l=some (.lst xs)/\H b=some (.lst z)/\xs.length+z.length<=aI/\∀H',ij l H H'->H' l=some (.lst (xs++z))->Q .non H'
def Oi:vA X "list.extend" Gj:=λ k s σ H x xs v us Q I r a ⟨l,b,y,c,e,d,h,f,z,n⟩=>
 Vd _ s σ H x xs v us Q I r a ⟨l,b,y,c,e,d,h,f,z,n _ (λ b o g i=>by rw[bR g];assumption) dM⟩
def Oj:V->List V->ah->br->Prop:=λ x v H Q=>∃l xs y,x= .ref l/\v=[]/\H l=some (.lst xs)/\xs[xs.length-1]? =some y/\∀H',ij l H H'->H' l=some (.lst xs.dropLast)->Q y H'
def Xq:vA X "list.pop" Oj:=λ k s σ H x xs v us Q I r a ⟨l,c,y,e,d,h,z,n⟩=>
 Vf _ s σ H x xs v us Q I r a ⟨l,c,y,e,d,h,z,n _ (λ b o f g=>by rw[bR f];assumption) dM⟩
theorem az.dropLast{K:av}(r:az K A H xs ds):az K A H xs.dropLast ds.dropLast:=by
 rw[Jw,Jw,r.length];exact r.take _
section
variable{C:bB}{n f a p:Pos}{e u:Expr}{fe:af->ag D}{fg:D->af->ag af}{i:Nat}{x:Str}{m:Mode}{ks:List Nat}
def tY(ds:List D)(k:List D->ax):D->ax
 | .lst es=>if ds.length+es.length<=aI then k (ds++es)else .st
 |_=>.st
def tZ(i:Nat)(fe:af->ag D):af->ax:=λ ρ=>match ρ[i]? with
 |some (.ow (.lst ds))=>(fe ρ).bo (tY ds λ l=>.nx (ρ.set i (.ow (.lst l))))
 |_=>.st
def yN(i:Nat)(fe:af->ag D):af->ax:=λ ρ=>match ρ[i]? with
 |some (.oz (.lst ds))=>(fe ρ).bo (tY ds λ l=>.nx (ρ.set i (.oz (.lst l))))
 |_=>.st
def Xr(i:Nat)(J:aA C m e fe)(K:oq m=true:=by rfl)(N:∀j,(C.X j).N[i]? =some x:=by z_go)(L:∀j,j7 (C.X j).env.scope x:=by x_go)(M:Nd x:=by decide)
  (u:(x==("__classdict__":Str))=false:=by decide)(g:∀j,aW [e] (C.X j).env=[(false,eval e (C.X j).env)]:=by z_go)
  (c:∀j,sU (.Name x p) "extend" (C.X j).env (eval (.Name x p) (C.X j).env)=eval (.Name x p) (C.X j).env:=by z_go)
  (k:∀j,((gk a (aW [e] (C.X j).env)).all (λ x=>!x.1)&&(sY a (sX [] (C.X j).env)).all (λ x=>x.1.isSome)&&decide ([e].length+([]:List jt).length+(if ([]:List jt).isEmpty then 0 else 1)<30))=true:=by z_go)
  (hline:(f.endLine==a.line)=true:=by rfl)
  (A:∀j,nY (.Call (.Attribute (.Name x p) "extend" f) [e] [] a) none n.line (C.X j).env=pure false:=by z_go):
  hG C (.Expr (.Call (.Attribute (.Name x p) "extend" f) [e] [] a) n) (yN i fe):=by
 obtain⟨t,O,P⟩:=J;refine⟨vw (yu C.K "list" Gj (iw i) (i7 t j9)),λ j=>ym (by rw[<-C.hK j];exact vz tp xZ Eh Oi (jz (N j) (L j) M u) (dv (O j) hD (g j)) (c j) (k j) hline (g j) rfl) (A j),λ τ σ H ρ lab De R W=>?_⟩;unfold yN at W;cases es:ρ[i]? with
 |none=>rw[es]at W;exact aX W
 |some s=>
  rw[es]at W;split at W
  .rename_i ds Q
   cases Q;rcases R.sl i _ es with z|⟨v,F,q,xs,S,rfl,D,h,E,r⟩
   .cases z
   .cases D
    refine⟨.ref q,F,.inl ⟨rfl,xs,bN.of h⟩,P τ σ H ρ lab _ R (W.bo.imp λ d _ w y T s2 U=>?_)⟩;cases d with
    |lst l=>
     dsimp only[tY]at w;by_cases hz:ds.length+l.length<=aI
     .rw[if_pos hz]at w
      obtain⟨V,X⟩:=R.shared K s2 U;obtain⟨b,G,Y,Z,mb,I⟩:=X.lst_inv;cases Y;refine⟨q,b,xs,G,rfl,rfl,s2 _ _ h,Z,by rw[r.length,I.length];exact hz,λ H3 B h3=>?_⟩;have la:(gD H 1 lab q).1=i+2:=by rw[iO h];exact E
      refine w σ H3 _ (V.mut F (s2 _ _ h) rfl la B ⟨q,_,_,rfl,rfl,h3,la,?_⟩);have ra:az C.K (λ p=>(gD H 1 lab p).1<=1) T (xs++G) (ds++l):=
       (r.mono s2 λ p o e z=>by rw[iO e];exact z).append (I.wk λ p o e z=>z.1)
      exact ra.but B (s2 _ _ h) rfl λ z=>by simp_all
     .rw[if_neg hz]at w
      exact aX w
    |_=>exact aX w
  .exact aX W
def Ol(i:Nat)(O:aA C m e fe)(Q:BV m=true:=by rfl)(S:∀j,(C.X j).N[i]? =some x:=by z_go)(T:∀j,j7 (C.X j).env.scope x:=by x_go)(U:Nd x:=by decide)
  (E:(x==("__classdict__":Str))=false:=by decide)(g:∀j,aW [e] (C.X j).env=[(false,eval e (C.X j).env)]:=by z_go)
  (c:∀j,sU (.Name x p) "extend" (C.X j).env (eval (.Name x p) (C.X j).env)=eval (.Name x p) (C.X j).env:=by z_go)
  (l:∀j,((gk a (aW [e] (C.X j).env)).all (λ x=>!x.1)&&(sY a (sX [] (C.X j).env)).all (λ x=>x.1.isSome)&&decide ([e].length+([]:List jt).length+(if ([]:List jt).isEmpty then 0 else 1)<30))=true:=by z_go)
  (hline:(f.endLine==a.line)=true:=by rfl)
  (F:∀j,nY (.Call (.Attribute (.Name x p) "extend" f) [e] [] a) none n.line (C.X j).env=pure false:=by z_go):
  hG C (.Expr (.Call (.Attribute (.Name x p) "extend" f) [e] [] a) n) (tZ i fe):=by
 obtain⟨t,V,X⟩:=O;refine⟨vw (yu C.K "list" Gj (iw i) (i7 t j9)),λ j=>ym (by rw[<-C.hK j];exact vz tp xZ Eh Oi (jz (S j) (T j) U E) (dv (V j) hD (g j)) (c j) (l j) hline (g j) rfl) (F j),λ τ σ H ρ lab De R W=>?_⟩;unfold tZ at W;cases es:ρ[i]? with
 |none=>rw[es]at W;exact aX W
 |some s=>
  rw[es]at W;split at W
  .rename_i ds Y
   cases Y;rcases R.sl i _ es with z|⟨v,L,G⟩
   .cases z
   .obtain⟨I,u⟩:=G
    obtain⟨A,J,K⟩:=u rfl;subst J;obtain⟨_,xs,Z,h,mm,r⟩:=I.lst_inv;cases Z;refine⟨.ref A,L,.inl ⟨rfl,xs,bN.of h⟩,X τ σ H ρ lab _ R (W.bo.imp λ d _ w y H2 s2 r2=>?_)⟩;cases d with
    |lst D=>
     dsimp only[tY]at w;by_cases hz:ds.length+D.length<=aI
     .rw[if_pos hz]at w
      obtain⟨R',r'⟩:=R.fresh (P:=λ k=>k=1) rfl (λ k hk=>beq_iff_eq.mp (rE Q k hk)) s2 r2;have la:(gD H 1 lab A).1=i+2:=by rw[iO h];exact K
      cases r' with
      |lst hb mb M=>
       rename_i b N;refine⟨A,b,xs,N,rfl,rfl,s2 _ _ h,hb,by rw[r.length,M.length];exact hz,λ H3 B h3=>?_⟩;refine w σ H3 _ (R'.mut L (s2 _ _ h) rfl la B ⟨.lst h3 (.inr la) ?_,λ _=>⟨A,rfl,la⟩⟩);have ra:az C.K (λ p=>((gD H 1 lab p).1=1\/(gD H 1 lab p).1=i+2)/\p≠A) H2 (xs++N) (ds++D):=by
        refine(r.mono s2 λ p o e z=>⟨by rw[iO e];exact z.1,z.2⟩).append (M.wk λ p o e z=>⟨.inl z.1,λ q=>?_⟩);subst q;have z1:(gD H 1 lab p).1=1:=z.1;simp_all
       exact ra.but B (s2 _ _ h) rfl λ z=>z.2 rfl
     .rw[if_neg hz]at w
      exact aX w
    |_=>exact aX w
  .exact aX W
def Gk(i:Nat)(fg:D->af->ag af)(ρ:af)(ds:List D):ax:=match ds.getLast? with
 |some d=>match fg d (ρ.set i (.oz (.lst ds.dropLast)))with
  | .ok a=>.nx a
  |_=>.st
 |none=>.st
def yO(i:Nat)(fg:D->af->ag af):af->ax:=λ ρ=>match ρ[i]? with
 |some (.oz (.lst ds))=>Gk i fg ρ ds
 |_=>.st
def Xs(i:Nat)(F:ou C u ks fg)(N:∀j,(C.X j).N[i]? =some x:=by z_go)(G:∀j,j7 (C.X j).env.scope x:=by x_go)(I:Nd x:=by decide)
  (m:(x==("__classdict__":Str))=false:=by decide)
  (e:∀j,sU (.Name x p) "pop" (C.X j).env (eval (.Name x p) (C.X j).env)=eval (.Name x p) (C.X j).env:=by z_go)
  (hline:(f.endLine==a.line)=true:=by rfl)
  (o:∀j,xP [u] (.Call (.Attribute (.Name x p) "pop" f) [] [] a) n.line (C.X j).env=pure false:=by z_go)(J:∀j,xO [u] (.Call (.Attribute (.Name x p) "pop" f) [] [] a) (C.X j).env=pure none:=by z_go)
  (K:∀j,(ko [u] (C.X j).env).map (·.2)=[i5 u (C.X j).env]:=by z_go):
  hG C (.Assign [u] (.Call (.Attribute (.Name x p) "pop" f) [] [] a) n) (yO i fg):=by
 obtain⟨g,L,M,_,_⟩:=F;refine⟨n9 (M4 C.K "list" Oj (iw i)) g,λ j=>Bt (by rw[<-C.hK j];exact U8 tp KS PySem.F.type_list_pop Xq (jz (N j) (G j) I m) (e j) hline) (L j) (o j) (J j) (K j),λ τ σ H ρ lab U R W=>?_⟩;unfold yO at W;cases es:ρ[i]? with
 |none=>rw[es]at W;exact aX W
 |some s=>
  rw[es]at W;split at W
  .rename_i ds o
   cases o;rcases R.sl i _ es with z|⟨v,D,q,xs,O,rfl,t,h,k,r⟩
   .cases z
   .cases t
    unfold Gk at W;cases l:ds.getLast? with
    |none=>rw[l]at W;exact aX W
    |some d=>
     rw[l]at W;dsimp only at W;rw[List.getLast?_eq_getElem?,<-r.length]at l;obtain⟨y,P,Q⟩:=r.getD l;refine⟨.ref q,D,.inl ⟨rfl,xs,bN.of h⟩,q,xs,y,rfl,rfl,h,P,λ E B S=>?_⟩;have T:=R.mut D h rfl k B (s':=.oz (.lst ds.dropLast)) ⟨q,_,_,rfl,rfl,S,k,(r.dropLast).but B h rfl λ z=>by simp_all⟩;cases b:fg d (ρ.set i (.oz (.lst ds.dropLast)))with
     |ok w=>rw[b]at W;exact M τ y d σ E _ _ _ w T (Q.but B h rfl λ z=>by simp_all) b λ A aG=>W A E _ aG
     |ex c=>rw[b]at W;exact aX W
     |st=>rw[b]at W;exact aX W
  .exact aX W
end
section
theorem Om:∀{ns:List Int} {us:List Value},Vals (ns.map V.int) us->∃s:List (Int×Tok),us=s.map (λ q=>jZ q.1 q.2)/\s.map DJ=ns
 |[],_,.nil=>⟨[],rfl,rfl⟩
 |n::ns,_,.cons r t=>by
  obtain⟨k,e⟩:∃k,_=jZ n k:=r
  obtain⟨s,a,b⟩:=Om t;subst e;exact⟨(n,k)::s,by rw[a];rfl,by rw[<-b];rfl⟩
end
def Gl:fillsNumberSlot (.type "tuple") "mul"=pure false:=
 PySem.fillsNumberSlot_seq AW.lookup (by rfl) F.slot_tuple_rmul.lookup (by rfl)
def Gm:seqRepeat? (.type "tuple")=pure (some (.builtin "tuple.__mul__")):=by rfl
def Gn(k:Int)(t:Tok)(a:Addr)(i:Array Value)(n:Nat)(dd:Option Addr)(sl:Array (Option Value)):
  Meets (ia.«int.__rmul__» ⟨[.int k t,.ref a],[]⟩) (λ _ R s=>s.heap.get? a=some {cls:=.type "tuple",dict:=dd,data:=.seq i n,slots:=sl}/\R (.ok (.ret Value.notImplemented)) s):=by
 refine .of_wp λ P w A R s h=>?_
 obtain⟨l,h⟩:=h;wp_walk;exact⟨_,rfl,h⟩
def Xt(k:Int)(t:Tok)(a:Addr)(l:List Value)(n:Nat)(dd:Option Addr)(sl:Array (Option Value))(m:1<k)(o:k<2^63)(hz:l.length*k.toNat<=aI)(e:l.isEmpty=false):
  Meets (ia.«tuple.__mul__» ⟨[.ref a,.int k t],[]⟩) (λ _ R s=>s.heap.get? a=some {cls:=.type "tuple",dict:=dd,data:=.seq l.toArray n,slots:=sl}/\
   R (.ok (.ret (fO s.heap.objs.size))) {s with heap:=s.heap.push {cls:=ma "tuple",data:=Eg (dO k.toNat l).flatten.toArray}}):=by
 have b:(l.length:Int)*k<=aI:=by lia
 have p:(aI:Int)<=(2^63-1) / 8:=by decide
 have c:¬(decide (k < -2^63)||decide (k ≥ 2^63))=true:=by simp;lia
 have c1:¬(l.toArray.isEmpty||k==1)=true:=by simp only[Jz,e];simp;lia
 have c2:¬(decide (k<=0)||l.toArray.isEmpty)=true:=by simp only[Jz,e];simp;lia
 have d:¬((l.toArray.size:Int)*k>(2^63-1) / 8):=by rw[cW];omega
 have f:¬KA ((l.toArray.size:Int)*k)=true:=by rw[cW];unfold KA;simp[aI]at b ⊢;omega
 have g:xB (λ x i=>x++i) #[] (dO k.toNat l.toArray)=(dO k.toNat l).flatten.toArray:=by
  have:=foldl_rep l k.toNat []
  simpa using this
 have j:¬((dO k.toNat l).flatten.toArray.size>aI):=by rw[cW,len_rep,xG];simp_all
 refine .of_wp λ P w A R s h=>?_
 obtain⟨_,_,_,_,_⟩:=s;obtain⟨q,h⟩:=h;wp_walk;rw[if_neg c];wp_walk
 try rw[if_neg c1]
 wp_walk
 try rw[if_neg c2]
 wp_walk
 try rw[if_neg d]
 wp_walk
 try rw[if_neg f]
 try rw[g]
 wp_walk
 try rw[if_neg j]
 wp_walk;exact⟨_,rfl,h⟩
def Gp(K:av):aG:=λ x y H Q=>∃a k xs,x= .ref a/\y= .int k/\bf K H a xs/\1<k/\k<2^63/\xs≠[]/\xs.length*k.toNat<=aI/\nh H (.tup (dO k.toNat xs).flatten) Q
def Xu:bU X (hZ .Mult) (Gp X.K):=by
 intro B s σ H x y v u Q I c f h;obtain⟨a,k,xs,rfl,rfl,ha,g,j,e,hz,q⟩:=h;cases c;obtain⟨t,rfl⟩:=f;obtain⟨i,r,p,_⟩:=I.tuple ha;obtain⟨⟨l,dd,d,sl⟩,o,m,n,w⟩:=id p;subst m w;have z:i.length*k.toNat<=aI:=by rw[<-r.length];exact hz
 have A:i.isEmpty=false:=by
  cases i with
  |nil=>exact absurd (r.nil_iff.mp rfl) e
  |cons _ _=>rfl
 refine Au (T:="tuple") (U:="int") (by decide) ⟨_,o,rfl⟩ (λ s'=>ph s' k t) Gl AX qS Gm AV.lookup
  (hY qS (ph s k t) AU (AS _ _) (Gn k t a i.toArray n dd sl)
   ⟨o,rfl,⟨_,o,rfl⟩,hY AW ⟨_,o,rfl⟩ Ek (Ej _ _) (Xt k t a i n dd sl g j z A) ⟨o,?_⟩⟩)
 refine⟨.ref _,_,I.laid (t':=s.toks) (λ b C q=>bj _ q) (bc _) ?_,rfl,q.at (I.hok.fresh (bc _))⟩;exact⟨⟨by rw[len_rep,xG];exact hz,NoD.push _⟩,_,r.rep k.toNat,sQ _ _⟩
def Cd:D->D->ag D
 | .tup l,.int k=>if decide (1<k)&&decide (k<2^63)&& !l.isEmpty&&decide (l.length*k.toNat<=aI)then .ok (.tup (dO k.toNat l).flatten)else .st
 |_,_=>.st
def Xv{K:av}:fE K (Gp K) Cd:=by
 intro A x y d e H Q z b f a q;unfold Cd at a;split at a
 .split at a
  .rename_i c
   simp only[cF,decide_eq_true_eq]at c;obtain⟨⟨⟨c1,c2⟩,g⟩,i⟩:=c;cases a;cases f;obtain⟨_,_,j,h,r⟩:=b.tup_inv;cases j;refine⟨_,_,_,rfl,rfl,h,c1,c2,λ e=>?_,by rw[r.length];exact i,λ p H' s k n=>q _ H' s (.tup (bf.of k) ?_)⟩
   .subst e
    cases r;cases g
   .exact((az.rep r _).up s).wk λ _ _ _ z=>.inr z
  simp_all
 contradiction
def On{K:av}:fS P w K mg base CX k fn fd ps (kd K cl n λ _=>.st):=by
 constructor
 .rintro v H Q E ⟨_,_,_,h⟩
  exact aX h
 .intros
  rename_i h;obtain⟨_,_,_,h⟩:=h;exact aX h
abbrev Xw(P:aR)(w:World)(K:av)(mg:Str->Option Value)(base:Heap)(N:List Str)(q:Str)(sc:Scope)(l:List (Str×Addr))(f:Addr)(c:Value)(A:aS)(o:List Env)(s:ao)(H:ah)(E:dC)(k:Nat)(h:ee k (A.deeper (q9 q sc s.heap.objs.size f c l))):bB where
 ι:=Unit
 X:=λ _=>BH P w K mg base N q sc l f c A o s H E
 prog:=P
 w:=w
 K:=K
 mg:=mg
 base:=base
 k:=k
 G:=⟨H,E,bL mg⟩
 cx:=λ _=>⟨rfl,rfl,rfl,rfl,rfl⟩
 calm:=λ _=>rfl
 room:=λ _=>h
 own:=λ _=>gc.own gc.ofL
 pass:=λ _=>gc.pass gc.ofL
 dOk:=true
 dcx:=λ _ _=>gc.ofL
def rM:Slot->Slot
 | .no=>.no
 | .sh d=>.sh d
 | .nw d=>.sh d
 | .ow d=>.sh d
 | .oz d=>.sh d
 | .o2 l=>.sh (.lst (l.map .lst))
def i8.shut{K:av}{H:ah}{lab:kz}{i:Nat}{v:V}{x:Slot}(h:i8 K H lab i v x):i8 K H (λ _=>(0,0)) i v (rM x):=by
 cases x with
 |no=>assumption
 |sh d=>exact aw.wk (λ _ _ _ _=>dn _) h
 |nw d=>exact aw.wk (λ _ _ _ _=>dn _) h
 |ow d=>exact aw.wk (λ _ _ _ _=>dn _) h.1
 |oz d=>
  obtain⟨a,xs,ds,rfl,rfl,b,f,c⟩:=h;exact .lst b (dn _) (az.wk (λ p o e z=>⟨dn _,λ ep=>by simp_all⟩) c)
 |o2 l=>exact aw.wk (λ _ _ _ _=>dn _) (BP h)
theorem RR.shut{K:av}{G:fw}{τ:List (V×D)}{ρ:af}{σ:L2.St}{H:ah}{lab:kz}{E:dC}{c:Str->Addr}(R:RR K G τ ρ σ H lab):RR K ⟨H,E,c⟩ [] (ρ.map rM) σ H (λ _=>(0,0)):=by
 refine⟨by rw[bb];exact R.len,λ i s e=>?_,aE.refl H,λ p a=>absurd rfl a,λ q f=>by simp_all⟩;rw[fM]at e;cases h:ρ[i]? with
 |none=>simp_all
 |some x=>
  rw[h]at e;cases e;rcases R.sl i x h with z|⟨v,b,d⟩
  .subst z;exact .inl rfl
  .exact .inr ⟨v,b,d.shut⟩
def Xx(c:Str->Addr)(a:ah)(r:ag D):ka:=λ s H Q E=>s=[]/\aE a H/\iA ⟨H,E,c⟩ r (λ _=>∀v H',aE H H'->Q v H')
def rO(wn:Str->Option Str)(t:Str)(fe:af->ag D):af->ag D:=λ ρ=>match fe (ρ.map rM)with
 | .ok _=>.ok (.str t)
 | .ex c=>(match wn c with
  |some w=>.ok (.str w)
  |none=>.st)
 | .st=>.st
def Xy(P:aR)(w:World)(K:av)(mg:Str->Option Value)(N:List Str)(q:Str)(p:mP)(b:Expr)(s:Scope)(k0:Nat)(t:Str)(wd:Addr->Option Str)(E:dC):bz:=λ σ H Q=>
 ∀(base:Heap) (l:List (Str×Addr)) (f d:Addr) (c m:Value) (a:ah),aE H a->yz q p b s l m a f d c->FB base N σ s l->yA P w K mg base k0 t wd [.ref f] a Q E
section
variable{C:bB}{m:Mode}{x u g q:Str}{p n j:Pos}{k k0 kb:Nat}{fn:Addr}{B:cB}{wd:Addr->Option Str}{wn:Str->Option Str}{a:mP}{b:Expr}{o:Scope}{N:List Str}{fe:af->ag D}
def Oo(hF:∀base,fS C.prog C.w C.K C.mg base (eh C.prog C.w) k fn B [u] (yA C.prog C.w C.K C.mg base k0 g wd))(X:k<=C.k)(hm:C.mg x=some (.ref fn))(hk:mX C.K (.ref fn)=true)(hb:Binds C.K B [u] [])
  (hL:∀i,(∃P,ro (C.X i) P)/\(C.X i).outer=[]/\(C.X i).N=N/\(C.X i).tq=q)(S:FA o)(hcl:C.G.cl=bL C.mg)(Y:∀c w,wn c=some w->wd (bL C.mg c)=some w)(Z:kb+1<=k0)
  (K:∀base L f cd A F s H E X,aA (Xw C.prog C.w C.K C.mg base N q o L f cd A F s H E kb X) m b fe)
  (M:∀L U G D,AM (EG "<lambda>" q a b o L U (.ref G) D) ⟨[],[]⟩=pure []:=by intro _ _ _ _;rfl)(O:∀i,Eb a (C.X i).env=([],[]):=by z_go)
  (hfree:∀i,∀y∈o.names,y.2= .free->(C.X i).env.kindOf y.1=some .cell\/(C.X i).env.kindOf y.1=some .free)(hdb:Nd x:=by decide)(hg:∀i,cN (C.X i) x:=by z_go):
  aA C (some []) (.Call (.Name x p) [.Lambda a b o j] [] n) (rO wn g fe):=by
 refine⟨Xy C.prog C.w C.K C.mg N q a b o k0 g wd C.G.E,λ i=>?_,λ τ σ H ρ lab Q R W=>?_⟩
 .obtain⟨e1,e2,V,e4,e5⟩:=C.cx i
  obtain⟨⟨P,Lx⟩,ho,eN,eq⟩:=hL i;intro kX s σ H Q I h;refine qI (vt I (hg i) (by rw[e4];exact hm) ?_ hdb);have ha:eE (C.X i) [.Lambda a b o j] _:=dv (VW Lx (O i) (hfree i)) hD;refine EB (h₀:=(C.X i).base) I.ok.mod.kin (by rw[V];exact hk) (aZ (ha n kX s σ H (λ vs J=>aE H J/\∃f G D,vs=[.ref f]/\yz (C.X i).tq a b o (L2.bL o (C.X i).env) (((C.X i).mg "__name__").getD .none) J f G D) I
   (λ f G D H' sm l=>⟨sm,f,G,D,rfl,l⟩)) λ us s1 ⟨vs,J,I1,r,sm,f,G,D,ev,la⟩=>⟨I1.kIn,?_⟩)
  subst ev;have hz:=h (rq (C.X i) s1 J) (L2.bL o (C.X i).env) f G D _ J sm (by rw[<-eq];exact la) (by rw[<-eN];exact V1 I1 ho S (hfree i));exact V0 (CX:=eh (C.X i).prog (C.X i).w) I1 (by rw[e1,e2,V,e4];exact hF _) ((C.room i).mono X) (by rw[V];exact hb) (C.pass i) r (by rw[e1,e2,V,e4]at*;exact hz)
 .intro base L f G D U J sm la cp
  have R1:=R.up sm;have FL:fS C.prog C.w C.K C.mg base (eh C.prog C.w) (kb+1) f (EG "<lambda>" q a b o L U (.ref G) D) [] (Xx (bL C.mg) J (fe (ρ.map rM))):=by
   refine VY la S cp (λ vs H Q E h=>⟨h.1,h.2.1⟩) λ A F s H2 Q2 E2 hr2 T=>?_
   obtain⟨t,h1,h2⟩:=K base L f (.ref G) A F s H2 E2 hr2;exact⟨t,h1 (),h2 [] σ H2 _ _ Q2 (R1.up T.2.1).shut (T.2.2.imp λ d _ z v H' s' _=>z v H' s')⟩
  refine⟨f,_,_,_,_,kb+1,_,rfl,la.1,FL,Z,λ s us _ hl=>?_,rfl,aE.refl J,?_⟩
  .have e:us=[]:=by
    rw[fo]at hl;exact uR.mp hl
   subst e;exact .of_eq (M L U G D)
  .unfold rO at W
   cases he:fe (ρ.map rM)with
   |ok d=>rw[he]at W;exact λ v H' s'=>W (.str g) H' (sm.trans s') (.str g)
   |ex c=>
    rw[he]at W;cases hw:wn c with
    |none=>simp only[hw]at W;exact W.elim
    |some w=>
     simp only[hw]at W;exact λ H' s'=>⟨_,w,rfl,Y c w hw,λ H'' s''=>W (.str w) H'' (sm.trans (s'.trans s'')) (.str w)⟩
   |st=>rw[he]at W;exact W.elim
end
end VL
namespace L2
open PySem PySem.Spec PyProof.Rows
noncomputable def mx(P:aR)(w:World)(K:av)(mg:Str->Option Value)(base:Heap)(N:List Str)(q:Str)(c:Scope)(f:Addr)(d:Value)(A:aS)(s:ao)(H:ah)(t:Addr):aC where
 prog:=P
 w:=w
 K:=K
 mg:=mg
 base:=base
 A:=A.deeper (gA q c s.heap.objs.size f d)
 N:=N
 z4:=s
 zI:=H
 env:=gA q c s.heap.objs.size f d
 outer:=[]
 stack:=[gA q c s.heap.objs.size f d]
 ex:=[t]
 calm:=true
 fn:=λ _=>true
 pn:=[]
 xe:=λ _ _=>False
 ta:=[(t,q0 #[])]
 tq:=q++".<locals>."++"<lambda>"
section
variable{P:aR}{w:World}{K:av}{mg:Str->Option Value}{base:Heap}{N ps:List Str}{u:Str}{a:Scope}{f t:Addr}{d:Value}{A:aS}{s g:ao}{H:ah}{v:List V}{us:List Value}
def Xz(S:dk N ps a)(C:A.handled=none)(D:rh P w K mg base A [] s H)(E:v.length=ps.length)(r:Vals v us)
  (m:s.heap.get? t=some (q0 #[]))(F:H t=none)(n:base.get? t=none)
  (x:InCallC s s.heap.objs.size (bindL (gA u a s.heap.objs.size f d).kindOf (ps.zip us) λ _=>none) (lS (s.heap.objs.size+1) a.names []) (bindC (gA u a s.heap.objs.size f d).kindOf (ps.zip us) λ _=>none) g):
  Inv (mx P w K mg base N u a f d A s H t) [] (start N v) H g:=by
 have I:Inv (m9 (eh P w) P w K mg base N u a f d A [] s H λ _ _ _=>False) [] (start N v) H g:=Fm S C D E r x;obtain⟨Q,R,G,J⟩:=x.done;have l:=bE m;have h:∀b∈[t],b≠s.heap.objs.size:=λ b n z=>by
  simp_all
 refine⟨⟨I.ok.mod,I.ok.kind,I.ok.glob,I.ok.blt,I.ok.above,I.ok.inj,I.ok.has,I.ok.cab,I.ok.hd,I.ok.frames,I.ok.stk,λ b i=>⟨h b i,λ y c e z=>?_⟩,I.ok.bs,I.ok.bsz,λ b o e k=>?_,λ b _=>λ z=>(nomatch z),I.ok.funs,I.ok.frf⟩,
  I.os,I.bare,I.base.mono (λ b z=>z) (λ b z=>(nomatch z)),I.loc,I.cell,I.free,I.freeC,I.pin,I.hok,I.len,λ p L=>?_⟩
 .have q:s.heap.objs.size<=c:=I.ok.cab y c rfl e
  have j:b=t:=by simpa using(show b∈[t]from i)
  rw[z,j]at q;exact absurd l (sJ.mpr q)
 .have j:b=t:=by simpa using(show b∈[t]from k)
  have B:base.get? b=some o:=e;rw[j,n]at B;cases B
 .have j:p=(t,q0 #[]):=by simpa using(show p∈[(t,q0 #[])]from L)
  subst j;refine⟨F,h t bW,λ z=>(nomatch z),λ q M=>(nomatch M),#[],?_,trivial,λ O T e=>nomatch e⟩;subst G;exact J _ _ m
end
def XA{P:aR}{w:World}{K:av}{mg mb:Str->Option Value}{k:Nat}{D a c h:Addr}{x:Str}{f:ao}{F:List Value}{ns:List Int}{N:List Str}{oc R pm ct dV eo:Value}{od:Option Addr}{osl:Array (Option Value)}{name l:Str}{i:mP}{A:List Stmt}{p:Scope}{an:Option Addr}
  (X:K.In f.heap)(T:f.heap.Ns cz mg)(j:f.heap.Ns Ea mb)(hbb:∀x:Str,x≠"__name__"->mb x=fu x)(cS:f.heap.NoLimit)(hg:f.gens=#[])
  (ha:f.heap.get? a=some {cls:=.type "list",data:=.seq F.toArray})(hi:dE F ns)(hl:ns.length<=aI)(hr:ee (k+1) ib)
  (U:f.heap.get? h=some (q0 #[]))(hKP:K.lookup h=none)(hC:A8 K c h=true)(hbl:f.heap.BuiltinsAt mg h)
  (bY:K.lookup D=some ⟨oc,od,.func (kV name l i A p dV eo R pm an (.ref c) ct),osl⟩)(hcd:vp K (.ref c) l=true)(S:dk N [x] p)
  (G:∀(s:ao) (u:Value),vf s (kV name l i A p dV eo R pm an (.ref c) ct) ⟨[u],[]⟩ [(x,u)])
  (L:∀(base:Heap) (s:ao) (H:ah),ee k (ib.deeper (gA l p s.heap.objs.size D (.ref c)))->ro (mx P w K mg base N l p D (.ref c) ib s H h) h->Only H->bN K H a (ns.map V.int)->
   ∃t,iu (mx P w K mg base N l p D (.ref c) ib s H h) A t/\t {nx:=λ _ _=>False,rt:=λ v _=>v= .bl true} (start N [.ref a]) H):
  ie (model P w) ib (.call (.ref D) ⟨[.ref a],[]⟩) (λ r s'=>r= .ok (.ret (.bool true))/\OldK f.heap s'.heap/\s'.os=f.os/\nS s'.gens) f:=by
 have rv:=M6 hi;have W:=hi.length;have aP:a≠h:=λ z=>by
  rw[z,U]at ha;have e2:=congrArg Obj.cls (hX ha);cases e2
 have E:∀H:ah,Only H->bN K H a (ns.map V.int)->fR P w H f.heap->(∀b,H b≠none->b=a)->(H a≠none->K.lookup a=none)->
   ie (model P w) ib (.call (.ref D) ⟨[.ref a],[]⟩) (λ r s'=>r= .ok (.ret (.bool true))/\OldK f.heap s'.heap/\s'.os=f.os/\nS s'.gens) f:=by
  intro H hO hS Y hA hK;have hPn:H h=none:=by
   cases q:H h with
   |none=>rfl
   |some u=>exact absurd (hA h (by rw[q];simp)).symm aP
  let B:=tB (yj f.heap H) [h];have g:∀{b:Addr} {o:Obj},f.heap.get? b=some o->H b=none->b≠h->B.get? b=some o:=λ e n ne=>vn _ (Tt e n) (by simpa using ne)
  have M:∀{b:Addr} {o:Obj} {es:Array xQ} {ep:Nat},f.heap.get? b=some o->o.data= .dict es ep->H b=none/\b≠h:=λ{b o es ep} e d=>by
   refine⟨?_,λ z=>?_⟩
   .cases q:H b with
    |none=>rfl
    |some u=>
     have Z:b=a:=hA b (by rw[q];simp);subst Z;rw[ha]at e;cases e;have d':Eg F.toArray _=Data.dict es ep:=d;cases d'
   .rw[z,U]at e
    cases e;cases d
  have O:∀{b:Addr} {m:Str->Option Value},f.heap.Ns b m->B.Ns b m:=λ{b m} ⟨o,es,ep,e,d,r⟩=>⟨o,es,ep,g e (M e d).1 (M e d).2,d,r⟩
  have hKb:K.In B:=λ b o e=>g (X b o e) (by
   cases q:H b with
   |none=>rfl
   |some u=>
    have Z:b=a:=hA b (by rw[q];simp);subst Z;rw[hK (by rw[q];simp)]at e;cases e) (λ z=>by rw[z,hKP]at e;cases e)
  have hM:Mod K mg B:=⟨hKb,O T,⟨mb,O j,hbb⟩,let⟨mc,h1,h2⟩:=cS;⟨mc,O h1,h2⟩⟩;have e0:rh P w K mg B ib [] f H:=⟨rfl,hM,λ b o e=>Tu (A7 _ e),Ak ((EA _ _).trans (Ts _ _)),trivial,λ b j=>absurd (show b∈([]:List Addr)from j) (by simp),Y,.of_eq hg⟩;have gP:cz≠h:=by
   obtain⟨o,es,ep,e,d,_⟩:=T;exact(M e d).2
  have hLx:ro (mx P w K mg B N l p D (.ref c) ib f H h) h:=by
   refine⟨⟨_,rfl⟩,bW,rfl,⟨c,rfl,Lu hKb hC⟩,?_,gP⟩;obtain⟨bm,o,b1,b2,b3,b4,b5,b6,b7,b8⟩:=hbl;refine⟨bm,o,b1,b2,b3,b4,g b5 ?_ b4,b6,b7,b8⟩;cases q:H bm with
   |none=>rfl
   |some u=>
    have Z:bm=a:=hA bm (by rw[q];simp);rw[Z,ha]at b5;cases b5;cases b8
  have bX:∀y∈[x].zip [fO a],p.names.lookup y.1=some .local\/(p.names.lookup y.1=some .cell/\((lS (f.heap.objs.size+1) p.names []).lookup y.1).isSome=true):=λ⟨n,v⟩ hy=>by
   rcases S.par n (uY hy).1 with q|q
   .exact .inl q
   .exact .inr ⟨q,A5 _ _ _ (.inl q)⟩
  refine DV hr.depth (X _ _ bY) rfl S.co S.gen rfl (EC X hcd) (G f (.ref a) _ _ _ _ ?_);refine DU S.kind bX λ env he s1 x'=>?_
  subst he;refine⟨cS.keeps x'.toInCall.keep,D5 ?_⟩;obtain⟨t,ht,hq⟩:=L B f H (hr.deeper _) hLx hO hS;have I:Inv (mx P w K mg B N l p D (.ref c) ib f H h) [] (start N [.ref a]) H s1:=Xz (ps:=[x]) (us:=[.ref a]) S hr.hd e0 rfl (.cons rfl .nil) U hPn (Ez _ bW) x';refine iq (ht [] s1 (start N [.ref a]) H _ I hq) (λ fl s' Q=>?_) λ e s' Q=>Q.elim
  cases fl with
  |next=>obtain⟨_,_,_,q⟩:=Q;exact q.elim
  |brk=>obtain⟨_,_,_,q⟩:=Q;exact q.elim
  |cont=>obtain⟨_,_,_,q⟩:=Q;exact q.elim
  |ret u=>
   obtain⟨v,σ',H',J,rv',q⟩:=Q;have q':v= .bl true:=q;subst q';obtain rfl:u=vm true:=rv';obtain⟨_,_,_,_,ps,hps,_⟩:=J.tab (h,q0 #[]) bW;have all:∀b o,f.heap.get? b=some o->b≠h->s'.heap.get? b=some o:=λ b o e ne=>by
    cases q:H b with
    |none=>exact J.base.keep b o e q (λ z=>(nomatch z)) (by simpa[mx]using ne)
    |some u=>
     rcases hO b with z|⟨ob,xs,z⟩
     .rw[q]at z;cases z
     .have z2:=J.base.frzs b ob _ z
      obtain⟨e1,_⟩:=Y b _ z;obtain⟨e2,_⟩:=J.hok b _ z2;rw[e]at e1;cases e1;exact e2
   refine⟨rfl,⟨λ b o e=>?_,λ b o e=>?_⟩,J.os,J.bare⟩
   .by_cases C:b=h
    .subst C
     rw[U]at e;cases e;obtain⟨⟨o1,vs1,f1,f2,f3,f4⟩,_⟩:=(Lu X hC).tab U;exact .inr (.inl ⟨⟨c,o1,vs1,f1,f2,f3,f4⟩,rfl,#[],ps,rfl,by simpa using hps⟩)
    .exact .inl (all b o e C)
   .by_cases C:b=h
    .subst C;exact⟨_,hps⟩
    .exact⟨o,all b o e C⟩
 cases hk:K.lookup a with
 |some o=>
  have e:=X a o hk;rw[ha]at e;cases e;refine E (λ _=>none) (λ _=>.inl rfl) (.inr ⟨_,F.toArray,_,hk,rfl,rfl,rfl,by rw[cW,W];exact hl,by simpa using rv⟩) (λ b u z=>by have z':(none:Option HO)=some u:=z;cases z') (λ b z=>absurd rfl z) λ z=>absurd rfl z
 |none=>
  refine E (λ b=>if b=a then some (.frz {cls:=.type "list",data:=.seq F.toArray} (.lst (ns.map V.int)))else none) (λ b=>?_) (.inl (.inr ⟨{cls:=.type "list",data:=.seq F.toArray},if_pos rfl⟩)) (λ b u z=>?_) (λ b z=>?_) λ _=>hk
  .by_cases j:b=a
   .exact .inr ⟨_,_,if_pos j⟩
   .exact .inl (if_neg j)
  .by_cases j:b=a
   .have z':=(if_pos j).symm.trans z
    cases z';subst j;exact⟨ha,by rw[bb];exact hl,F,_,rv,ha⟩
   .have z':=(if_neg j).symm.trans z
    cases z'
  .by_cases j:b=a
   .exact j
   .exact absurd (if_neg j) z
end L2
namespace VL
open PySem PySem.Spec PyProof.Rows L2
abbrev Gq(P:aR)(w:World)(K:av)(mg:Str->Option Value)(base:Heap)(N:List Str)(q:Str)(sc:Scope)(f:Addr)(c:Value)(A:aS)(s:ao)(H:ah)(t:Addr)(k:Nat)(r:ee k (A.deeper (gA q sc s.heap.objs.size f c))):bB where
 ι:=Unit
 X:=λ _=>mx P w K mg base N q sc f c A s H t
 prog:=P
 w:=w
 K:=K
 mg:=mg
 base:=base
 k:=k
 G:=⟨H,λ _ _ _=>False,bL mg⟩
 cx:=λ _=>⟨rfl,rfl,rfl,rfl,rfl⟩
 calm:=λ _=>rfl
 room:=λ _=>r
 own:=λ _=>λ _ _ h=>aX h
 pass:=λ _=>λ _ _ _ _ _ _ _ ⟨_,_,_,_,_,_,_,_,_,_,_,_,_,z⟩=>z
 dOk:=false
 dcx:=λ z=>nomatch z
def XB{P:aR}{w:World}{K:av}{mg:Str->Option Value}{base:Heap}{N:List Str}{q:Str}{sc:Scope}{h a i:Addr}{g:Value}{A:aS}{s:ao}{H:ah}{k:Nat}{l:ee k (A.deeper (gA q sc s.heap.objs.size h g))}{b:List Stmt}{f:af->ax}{ns:List Int}
  (m:jd (Gq P w K mg base N q sc h g A s H i k l) b f)(e:dN N.length f [.scr ns]= .ok (.bl true))(r:az K (λ _=>True) H [.ref a] [.scr ns]):
  ∃t,iu (mx P w K mg base N q sc h g A s H i) b t/\t {nx:=λ _ _=>False,rt:=λ v _=>v= .bl true} (start N [.ref a]) H:=by
 obtain⟨t,n,o⟩:=m;refine⟨t,n (),o [] _ H _ _ _ (RR.start r) ?_⟩;unfold dN at e;cases j:f _ with
 |nx ρ=>simp_all
 |rt d=>rw[j]at e;cases e;exact λ v H' s r=>r.bl_inv
 |ex c=>simp_all
 |bk ρ=>simp_all
 |ct ρ=>simp_all
 |st=>rw[j]at e;cases e
def XC{P:aR}{w:World}{K:av}{mg:Str->Option Value}{base:Heap}{x q n a b few c I t:Str}{st:Stmt}{f g h:Addr}{J d:cB}{L k0:Nat}{wd:Addr->Option Str}{M N O R T U V W X p i j k l m o:Pos}{Y:Nat}
  (F:L2.Fun K x q st f J)(S:dk [n,a,b] [n] (bg st))(r:iz st=[.Assign [.Name a M] (.Constant (.str t) Y N) O,.Try [.Expr (.Call (.Name n R) [] [] T) U] [.ExceptHandler (some (.Name few V)) (some b) [.Assign [.Name a W] (.Call (.Name c X) [.Name b p] [] i) j] k] [] [] l,.Return (some (.Name a m)) o])
  (Z:(bg st).names.lookup n=some .local)(l1:(bg st).names.lookup a=some .local)(l2:(bg st).names.lookup b=some .local)(g1:(bg st).names.lookup few=some .globalImplicit)(g2:(bg st).names.lookup c=some .globalImplicit)
  (hm:mg few=some (.ref h))(u:cJ K h)(FC:vK P w K mg base L g d [I] (tO wd))(v:mg c=some (.ref g))(y:mX K (.ref g)=true)(z:Binds K d [I] [])(B:L<=k0)(hw:∀C w,wd C=some w->cJ K C/\vJ K C h=true)
  (d1:Nd few:=by decide)(d2:Nd c:=by decide)(d3:Nd n:=by decide)(d4:Nd a:=by decide)(d5:Nd b:=by decide)
  (d6:(n==("__classdict__":Str))=false:=by decide)(d7:(a==("__classdict__":Str))=false:=by decide)(d8:(b==("__classdict__":Str))=false:=by decide):
  fS P w K mg base (eh P w) (k0+1) f J [n] (yA P w K mg base k0 t wd):=by
 refine F.okX S (λ vs H Q E ⟨_,_,_,_,_,_,_,e,_⟩=>by rw[e];rfl) λ cdv A D s H vs Q E hr G=>?_
 rw[r];exact Wb gc.of rfl rfl S.nd Z l1 l2 (λ _=>rfl) hm g1 u FC g2 v y z hr B hw G d1 d2 d3 d4 d5 d6 d7 d8
end VL
namespace L2
open PySem PySem.Spec PyProof.Rows
def kG{X:aC}{n:Str}{e:Expr}{c:V}{p a o:Pos}(N:X.N[0]? =some n)(v:X.env.scope.names.lookup n=some .local)(g:cN X "isinstance")(m:X.mg "isinstance"=none)(b:aY X e (m7 c))(h:aW [e] X.env=(false,eval e X.env)::aW [] X.env:=by rfl)
  (hpl:(gk o (aW [e] X.env)).any (·.1)=false:=by rfl)(d:Nd n:=by decide)(d':(n==("__classdict__":Str))=false:=by decide):aY X (.Call (.Name "isinstance" p) [.Name n a,e] [] o) (tP X.K c):=
 tJ V7 g m rfl (dv (jz N (.inl v) d d') (dv b hD h)) (hpl:=hpl)
section
variable{P:aR}{w:World}{K:av}{mg:Str->Option Value}{base:Heap}{x q n0 n1 n2 L:Str}{st:Stmt}{f:Addr}{fd:cB}{k:Nat}{wd:Addr->Option Str}{c1 c2:V}{k1 k2 k3 k4:List V}{l1 l2:List Str}{a1 a2:Expr}{Q O e1 e2 e3 e4 w1 R:List Expr}{N M:List jt}
 {p1 p2 p3 p4 p5 p6 p7 p8 p9 J I H G F E D C B A z y v u t s r o n m l j i h g e d c b a p:Pos}{Z Y X W U T S:Pos}{j1 j2 j3 j4 j5:Nat}
end
structure aG4(P:aR)(w:World)(K:av)(mg:Str->Option Value)(fa Pt:Addr)(k n:Nat):Prop where
 ex:∃(x name qual:Str) (params:mP) (body:List Stmt) (scope:Scope) (dV eo doc pm ct oc:Value) (an od:Option Addr) (c:Addr) (osl:Array (Option Value)) (N:List Str),
  K.lookup Pt=none/\A8 K c Pt=true/\K.lookup fa=some ⟨oc,od,.func (kV name qual params body scope dV eo doc pm an (.ref c) ct),osl⟩/\vp K (.ref c) qual=true/\dk N [x] scope/\
  (∀(s:ao) (u:Value),vf s (kV name qual params body scope dV eo doc pm an (.ref c) ct) ⟨[u],[]⟩ [(x,u)])/\
  ∀(a:Addr) (ns:List Int),ns.length<=n->∀(base:Heap) (s:ao) (H:ah),ee k (ib.deeper (gA qual scope s.heap.objs.size fa (.ref c)))->ro (mx P w K mg base N qual scope fa (.ref c) ib s H Pt) Pt->Only H->bN K H a (ns.map V.int)->
   ∃t,iu (mx P w K mg base N qual scope fa (.ref c) ib s H Pt) body t/\t {nx:=λ _ _=>False,rt:=λ v _=>v= .bl true} (start N [.ref a]) H
def aHn{l:EF}{n k:Nat}{q:aR}{b:List Str}{Q:(Str->Option Value)->Heap->Prop}{C:World->Heap->Prop}{d:DefRec}{K:Params->av}{P:Addr}
  (R:l.most=some n)(r:n<=aI)(t:d.params.defaults=[])(S:ee (k+1) ib)
  (T:∀(w:World) (h:Heap),C w h->(K w.params).In h/\h.get? P=some (q0 #[]))
  (F:∀(w:World) (mg:Str->Option Value) (m:Addr) (h:Heap),(K w.params).In h->h.Ns cz mg->mg d.name=some (.ref m)->aG4 l.prog w (K w.params) mg m P k n):
  LC q b Q C l.row.toRowW d [] (λ f D=>D2 f D):=by
 refine Att.aDk R t λ w z4 U mg mb m o V cd u a D ns G Y ho E W v j i I Z=>?_
 obtain⟨X,J⟩:=T w _ Y;obtain⟨x,name,L,p,M,y,dV,eo,u,V,ct,oc,an,od,c,osl,N,h1,h2,h3,h4,h5,h6,h7⟩:=(F w mg m _ X G.T.g v).ex;have A:U.heap.BuiltinsAt mg P:=by
  obtain⟨bm,ob,b1,b2,g,O,b5,B⟩:=G.T.bmain;refine⟨bm,ob,b1,b2,λ z=>?_,λ z=>?_,g,O,b5,B⟩
  .obtain⟨o,es,ep,e,E,_⟩:=G.T.g
   rw[z,e]at g;cases g;rw[E]at B;cases B
  .rw[z,J]at g;cases g;cases O
 exact XA X G.T.g G.T.b G.T.builtins G.T.nolimit Z j i (eJ I r) S J h1 h2 A h3 h4 h5 h6 λ base s H r1 r2 r3 r4=>h7 a ns I base s H r1 r2 r3 r4
def Oq(K:av)(few C:Addr):Bool:=EH K C [.type "ValueError",.type "Exception",.type "BaseException",.type "object"] "ValueError.__new__"&&decide (j6 K (.ref C) "__class__"=some (some (.builtin "object.__class__")))&&decide (j6 K (.ref C) "__getattribute__"=some (some (.builtin "BaseException.__getattribute__")))&&decide (j6 K (.ref C) "__getattr__"=some none)&&decide (n6 K (.ref C) (.ref few)=some true)&&decide (n6 K (.ref C) (.type "ValueError")=some true)&&vJ K C few
def aFF(K:av)(few:Addr)(cs:List Addr):Bool:=(dP cs.length).all λ j=>match cs[j]? with
 |none=>true
 |some C=>Oq K few C&&(dP cs.length).all λ i=>match cs[i]? with
  |none=>true
  |some c=>decide (n6 K (.ref C) (.ref c)=some (i==j))
theorem lookup_at{C:Addr}{w:Str}:∀{cs:List Addr} {ws:List Str},(cs.zip ws).lookup C=some w->∃j:Nat,cs[j]? =some C/\ws[j]? =some w
 |[],_,h=>by simp_all
 |_::_,[],h=>by contradiction
 |c::cs,x::ws,h=>by
  rw[qz,jr]at h;by_cases e:C==c
  .simp only[e]at h
   cases h;exact⟨0,by rw[qt e];rfl,rfl⟩
  .simp only[e]at h
   obtain⟨j,a,b⟩:=lookup_at h;exact⟨j+1,a,b⟩
def Os{K:av}{few d c1 c2 f g k l n o p a b:Addr}{ws:List Str}(h:aFF K few [d,c1,c2,f,g,k,l,n,o,p,a,b]=true){C:Addr}{w:Str}(x:([d,c1,c2,f,g,k,l,n,o,p,a,b].zip ws).lookup C=some w):
  FH K (.ref few) (.ty "ValueError") [[.ref d,.ref c1,.ref c2],[.ref f,.ref g,.ref k],[.ref l,.ref n,.ref o],[.ref p,.ref a,.ref b]] ws C w/\cJ K C/\vJ K C few=true:=by
 obtain⟨j,s,y⟩:=lookup_at x;have q:j<12:=(eW.mp s).1;have t:=kk.mp h j (kl.mpr q);simp only[s,cF]at t;obtain⟨r,z⟩:=t;have F:∀(i:Nat) c,[d,c1,c2,f,g,k,l,n,o,p,a,b][i]? =some c->pE K C (.ref c) (i==j):=λ i c e=>by
  have u:=kk.mp z i (kl.mpr (eW.mp e).1);simp only[e]at u;exact⟨_,rfl,of_decide_eq_true u⟩
 unfold Oq at r;simp only[cF,decide_eq_true_eq]at r;obtain⟨⟨⟨⟨⟨⟨v,A⟩,B⟩,D⟩,E⟩,G⟩,H⟩:=r;refine⟨⟨⟨v,A,B,D⟩,⟨_,rfl,E⟩,⟨_,rfl,G⟩,[0==j,1==j,2==j],[3==j,4==j,5==j],[6==j,7==j,8==j],[9==j,10==j,11==j],j,_,_,_,_,rfl,.cons (F 0 d rfl) (.cons (F 1 c1 rfl) (.cons (F 2 c2 rfl) .nil)),.cons (F 3 f rfl) (.cons (F 4 g rfl) (.cons (F 5 k rfl) .nil)),
  .cons (F 6 l rfl) (.cons (F 7 n rfl) (.cons (F 8 o rfl) .nil)),.cons (F 9 p rfl) (.cons (F 10 a rfl) (.cons (F 11 b rfl) .nil)),by simp,?_,?_,?_,y⟩,v,H⟩
 .exact(by decide:∀j,j<12->([0==j,1==j,2==j]++[3==j,4==j,5==j]++[6==j,7==j,8==j]++[9==j,10==j,11==j]).count true=1) j q
 .exact(by decide:∀j,j<12->([0==j,1==j,2==j]++[3==j,4==j,5==j]++[6==j,7==j,8==j]++[9==j,10==j,11==j])[j]? =some true) j q
 .exact λ m I=>(by decide:∀j,j<12->∀m,m<j->([0==j,1==j,2==j]++[3==j,4==j,5==j]++[6==j,7==j,8==j]++[9==j,10==j,11==j])[m]? =some false) j q m I
def Ot{s sc:Scope}(h:∀y∈s.names,y.2= .free->sc.names.lookup y.1=some .cell\/sc.names.lookup y.1=some .free):∀y∈s.names,y.2= .free->sc.names.lookup y.1=some .cell\/sc.names.lookup y.1=some .free:=h
def Ou{K:av}{few:Addr}{cs:List Addr}(h:aFF K few cs=true){i j:Nat}{C c:Addr}(a:cs[j]? =some C)(d:cs[i]? =some c):n6 K (.ref C) (.ref c)=some (i==j):=by
 have b:=kk.mp h j (kl.mpr (eW.mp a).1);simp only[a,cF]at b;have e:=kk.mp b.2 i (kl.mpr (eW.mp d).1);simp_all
def XD{K:av}{few:Addr}{cs:List Addr}(h:aFF K few cs=true){i j:Nat}{C:Addr}(c:cs[j]? =some C)(d:cs[i]? =some C):i=j:=by
 have a:=Ou h c d;have b:=Ou h c c;simp_all
theorem Ov{C:Addr}{w:Str}:∀{cs:List Addr} {ws:List Str} {j:Nat},(∀i:Nat,cs[i]? =some C->i=j)->cs[j]? =some C->ws[j]? =some w->(cs.zip ws).lookup C=some w
 |[],_,_,_,h,_=>by simp at h
 |_::_,[],_,_,_,h=>by simp at h
 |c::cs,x::ws,j,u,b,a=>by
  rw[qz,jr];by_cases e:C==c
  .have d:0=j:=u 0 (by rw[qt e];rfl)
   subst d;simp only[e];simpa using a
  .simp only[e]
   cases j with
   |zero=>
    simp_all
   |succ j=>exact Ov (j:=j) (λ i f=>DG (u (i+1) f)) b a
def XE{K:av}{few:Addr}{cs:List Addr}{ws:List Str}(h:aFF K few cs=true){j:Nat}{C:Addr}{w:Str}(a:cs[j]? =some C)(b:ws[j]? =some w):(cs.zip ws).lookup C=some w:=Ov (λ i c=>XD h a c) a b
end L2
namespace VL
open PySem PySem.Spec PyProof.Rows L2
def XF{K:av}{mg:Str->Option Value}{few d c1 c2 f g i k l m n a b:Addr}{ws:List Str}{ns:List Str}(h:aFF K few [d,c1,c2,f,g,i,k,l,m,n,a,b]=true)
  (q:ns.map (VL.bL mg)=[d,c1,c2,f,g,i,k,l,m,n,a,b]):∀c w,(ns.zip ws).lookup c=some w->([d,c1,c2,f,g,i,k,l,m,n,a,b].zip ws).lookup (VL.bL mg c)=some w:=λ c w e=>by
 have r:∀(ns:List Str) (ws:List Str),(ns.zip ws).lookup c=some w->∃j:Nat,ns[j]? =some c/\ws[j]? =some w:=by
  intro ns;induction ns with
  |nil=>intro ws h;cases h
  |cons x ns s=>
   intro ws h;cases ws with
   |nil=>cases h
   |cons y ws=>
    rw[qz,jr]at h;by_cases e:c==x
    .simp only[e]at h
     cases h;exact⟨0,by rw[qt e];rfl,rfl⟩
    .simp only[e]at h
     obtain⟨j,o,p⟩:=s ws h;exact⟨j+1,o,p⟩
 obtain⟨j,o,p⟩:=r ns ws e;refine XE h ?_ p;rw[<-q,fM,o];rfl
theorem Gr:∀a:List Int,HT.lexLt a a=false
 |[]=>rfl
 |x::a=>by rw[HT.kZ,if_pos rfl];exact Gr a
theorem Ce:∀a b c:List Int,HT.lexLt a b=true->HT.lexLt b c=true->HT.lexLt a c=true
 |[],[],c,h,_=>by omega
 |[],_::_,[],_,h=>by assumption
 |[],_::_,_::_,_,_=>rfl
 |_::_,[],_,h,_=>by cases h
 |_::_,_::_,[],_,h=>by assumption
 |x::a,y::b,z::c,d,e=>by
  rw[HT.kZ]at d e ⊢;by_cases f:x=y
  .subst f
   rw[if_pos rfl]at d;by_cases g:x=z
   .rw[if_pos g]at e ⊢
    exact Ce a b c d e
   simp_all
  .rw[if_neg f]at d
   grind
theorem yP:∀a b:List Int,HT.lexLt a b=false->HT.lexLt b a=false->a=b
 |[],[],_,_=>rfl
 |[],_::_,h,_=>by cases h
 |_::_,[],_,h=>by cases h
 |x::a,y::b,c,d=>by
  rw[HT.kZ]at c d;by_cases e:x=y
  .subst e
   rw[if_pos rfl]at c d;rw[yP a b c d]
  lia
def Ow(a b c:List Int)(h:HT.lexLt a c=true):HT.lexLt a b=true\/HT.lexLt b c=true:=by
 cases d:HT.lexLt a b with
 |true=>exact .inl rfl
 |false=>
  right;cases e:HT.lexLt b a with
  |true=>exact Ce b a c e h
  |false=>rw[<-yP a b d e];assumption
def Gs:fN:=⟨List Int,HT.lexLt,Gr,Ce,Ow,yP⟩
inductive kH(h:Heap):List Value->List (List Int)->Prop where
 |nil:kH h [] []
 |cons {x:Addr} {o:Obj} {xs:Array Value} {k:Nat} {ns:List Int} {vs:List Value} {nss:cf} (ho:h.get? x=some o) (hc:o.cls= .type "tuple") (hd:o.data= .seq xs k) (hi:dE xs.toList ns) (hne:ns≠[]) (r:kH h vs nss):kH h (.ref x::vs) (ns::nss)
theorem kH.mono(k:∀x o,h.get? x=some o->o.cls= .type "tuple"->h'.get? x=some o):∀{v:List Value} {nss:cf},kH h v nss->kH h' v nss
 |_,_,.nil=>.nil
 |_,_,.cons a c d i n r=>.cons (k _ _ a c) c d i n (kH.mono k r)
theorem kH.firsts:∀{v:List Value} {nss:cf},kH h v nss->∃fs,PySem.W.KatTups h v fs/\fs.length=v.length/\∀f∈fs,∃n t,f=jZ n t
 |_,_,.nil=>⟨[],.nil,rfl,λ f hf=>by simp_all⟩
 |_,_,.cons (xs:=xs) ho hc hd hi _ r=>by
  obtain⟨fs,a,b,c⟩:=kH.firsts r;obtain⟨l,rfl⟩:∃l:List _,xs=l.toArray:=⟨xs.toList,by simp⟩
  cases hi with
  |nil=>contradiction
  |cons n t q=>
   refine⟨.int n t::fs,.cons ho hc hd (by simp) a,by simp_all,λ f hf=>?_⟩;rcases bI.mp hf with rfl|hf
   .exact⟨n,t,rfl⟩
   simp_all
section
variable{prog:aR}{w:World}{A:aS}{E:Value->ao->Prop}{s:ao}
def XG:∀{xs a:List Value} {ns m:List Int} (i:Nat),dE xs ns->dE a m->fin=decide (xs.length<a.length)->Q (HT.lexLt ns m) s->PySem.W.KatLex prog w A b fin Q (xs.zip a) i s:=by
 intro xs a ns m i c;induction c generalizing a m i with
 |nil=>intro h hf q;cases h<;>(subst hf;exact q)
 |@cons x t xs ns r d=>
  intro h hf q;cases h with
  |nil=>subst hf;exact q
  |@cons y u a m f=>?_
  rw[qz];refine PySem.W.kat_cons (wpAny_eqBool_int ?_);rw[HT.kZ]at q;by_cases e:x=y
  .rw[if_pos e]at q
   rw[show(x==y)=true by simpa using e];exact PySem.W.kat_yes (d (i+1) f (by rw[hf];simp) q)
  .rw[if_neg e]at q
   rw[show(x==y)=false by simpa using e];refine PySem.W.kat_no ?_;cases g:(b&&i==0)with
   |true=>exact oneLt_int q
   |false=>exact PySem.W.kat_one _ _ (Kc q)
def XH(h:s.heap.get? x=some ox)(d:ox.data= .seq xs n)(a:s.heap.get? y=some oy)(c:oy.data= .seq ys k)(i:dE xs.toList ns)(j:dE ys.toList ms)
  (q:Q (HT.lexLt ns ms) s):wpAny (model prog w) A (keyLt' (tuples' b) (.ref x) (.ref y)) Q E s:=
 PySem.W.kat_lt h d a c (XG 0 i j (by simp) q)
end
theorem sub_len[BEq α][LawfulBEq α]:∀{l l':List α},l.Nodup->(∀x∈l,x∈l')->l.length<=l'.length
 |[],_,_,_=>dn _
 |x::l,l',nd,h=>by
  have a:=h x bW;have i:=sub_len (l':=l'.erase x) (o8.mp nd).2 λ y b=>(JA λ e=>by simp_all).mpr (h y (cT _ b))
  rw[Jt a]at i
  have:=Do a
  rw[eX];exact LS i this
def yQ(xs:Array Nat):Prop:=∀i j,i<j->j<xs.size->xs.getD i 0<xs.getD j 0
theorem Gu(r:yQ xs):∀(f l h:Nat),l<=h->h<=xs.size->h-l<=f->(∀i,i<l->xs.getD i 0<j)->(∀i,h<=i->i<xs.size->j<=xs.getD i 0)->
  A4 xs j f l h<=xs.size/\(∀i,i<A4 xs j f l h->xs.getD i 0<j)/\∀i,A4 xs j f l h<=i->i<xs.size->j<=xs.getD i 0
 |0,l,h,a,b,d,g,k=>by
  have e:l=h:=SV a d;subst e;exact⟨b,g,k⟩
 |f+1,l,h,a,b,d,g,k=>by
  unfold A4;by_cases m:l<h
  .rw[if_pos m]
   cb_eq;have o:(l+h) / 2<xs.size:=by lia
   have e:xs.getD ((l+h) / 2) j=xs.getD ((l+h) / 2) 0:=by simp[xj,o]
   rw[e];by_cases c:xs.getD ((l+h) / 2) 0<j
   .rw[if_pos c]
    refine Gu r f _ h (by lia) b (Sq d) (λ i n=>?_) k;by_cases q:i=(l+h) / 2
    .rw[q];exact c
    .exact Al (r i ((l+h) / 2) (S9 n q) o) c
   .rw[if_neg c]
    refine Gu r f l _ (SJ a) (by lia) (Sr d) g λ i p s=>?_
    by_cases q:i=(l+h) / 2
    .rw[q];exact yg c
    .have:=r ((l+h) / 2) i (Ta p q) s
     omega
  .rw[if_neg m]
   have e:l=h:=ye a m;subst e;exact⟨b,g,k⟩
def Cf(r:yQ xs)(j:Nat):gC xs j<=xs.size/\(∀i,i<gC xs j->xs.getD i 0<j)/\∀i,gC xs j<=i->i<xs.size->j<=xs.getD i 0:=
 Gu r _ 0 _ (dn _) (bc _) (by simp) (λ i h=>by simp_all) λ i a b=>by grind
structure ff(t:kT)(n:Nat):Prop where
 dum:t.dummies=#[]
 siz:t.place.size=n
 ris:yQ t.place
 top:∀i,i<n->t.place.getD i 0<=t.mask
 msk:t.mask=7/\n<5\/t.mask=31/\n<19\/t.mask=127/\n<77
 pla:t.plain=true
def ff.fresh(l:Bool):ff (Ll 0 0 l) 0:=⟨rfl,rfl,λ i j _ h=>by simp[Ll]at h,λ i h=>dn _,.inl ⟨rfl,by simp⟩,rfl⟩
def ff.few(h:ff t n):n<t.mask:=by
 rcases h.msk with ⟨e,l⟩|⟨e,l⟩|⟨e,l⟩<;>lia
theorem ff.fill(h:ff t n):t.fill=n:=by unfold Lm;rw[h.dum,h.siz];rfl
theorem ff.fits(h:ff t n):t.fits n=true:=by
 unfold Lo;rw[h.fill,h.siz]
 have:=h.few
 simp;exact EO this
def Gv(h:ff t n)(j:Nat):t.slot j= .empty\/∃i,i<n/\t.slot j= .live i/\t.place.getD i 0=j:=by
 unfold Lp;cb_eq;by_cases e:(t.place[gC t.place j]? ==some j)=true
 .rw[if_pos e]
  have a:=beq_iff_eq.mp e;obtain⟨b,c⟩:=Dd.mp a;exact .inr ⟨_,by rw[<-h.siz];exact b,rfl,by simp_all⟩
 .rw[if_neg e]
  have:x8 t.dummies j=false:=by rw[h.dum];unfold x8;simp
  rw[this];exact .inl (by simp)
def XI(h:ff t n)(e:t.slot j= .empty):∀i,i<n->t.place.getD i 0≠j:=by
 intro i a q;obtain⟨k,b,c⟩:=Cf h.ris j;have d:gC t.place j=i:=by
  rcases J1 (gC t.place j) i with z|z|z
  .have l:=c _ (bc _) (by rw[h.siz];lia)
   have m:=h.ris _ i z (by rw[h.siz];exact a);omega
  .exact z
  .have:=b i z
   exact S8 q this
 have f:i<t.place.size:=by rw[h.siz];exact a
 have g:t.place[i]? =some j:=by simp_all
 unfold Lp at e;dsimp only at e;rw[d,g]at e;simp at e
noncomputable def iQ(m:Nat):Nat->Nat×Nat->Nat×Nat
 |0,st=>st
 |k+1,st=>iQ m k (mV m st.1 st.2)
theorem Ox(m:Nat):∀(k:Nat) (st:Nat×Nat),(iQ m k st).2=st.2 / 32^k
 |0,st=>by simp[iQ]
 |k+1,st=>by
  show(iQ _ k _).2=_
  rw[Ox _ k];show st.2 / 32 / 32^k=_;rw[Nat.div_div_eq_div_mul,Nat.pow_succ,xG]
theorem Oy(m:Nat):∀(j k:Nat) (st:Nat×Nat),iQ m (j+k) st=iQ m k (iQ m j st)
 |0,k,st=>by rw[uZ];rfl
 |j+1,k,st=>by
  rw[show j+1+k=(j+k)+1 by lia];exact Oy _ j k _
noncomputable def rS(M:Nat):Nat->Nat->Nat
 |0,i=>i
 |k+1,i=>rS M k ((i*5+1)%M)
theorem Cg(M:Nat):∀(j k i:Nat),rS M (j+k) i=rS M k (rS M j i)
 |0,k,i=>by rw[uZ];rfl
 |j+1,k,i=>by
  rw[show j+1+k=(j+k)+1 by lia];exact Cg M j k _
theorem Oz(m:Nat):∀(k i:Nat),iQ m k (i,0)=(rS (m+1) k i,0)
 |0,i=>rfl
 |k+1,i=>by
  show iQ _ k _=_
  have:mV m i 0=((i*5+1)%(m+1),0):=by rfl
  rw[this];exact Oz _ k _
def XJ:∀M∈[8,32,128],(∀t∈dP M,∃k∈dP M,rS M k 0=t)/\rS M M 0=0:=by f_are
def XK(m:mask=7\/mask=31\/mask=127)(g:i<=mask)(j:t<=mask):∃k,k<=mask/\rS (mask+1) k i=t:=by
 have M:mask+1∈[8,32,128]:=by rcases m with e|e|e<;>subst e<;>decide
 obtain⟨h,c⟩:=XJ _ M;obtain⟨a,ha,ea⟩:=h i (by simp;lia);obtain⟨b,d,eb⟩:=h t (by simp;lia);simp only[kl]at ha d;by_cases f:a<=b
 .refine⟨b-a,by grind,?_⟩
  rw[<-ea,<-Cg,show a+(b-a)=b by simp_all,eb]
 .refine⟨mask+1-a+b,by lia,?_⟩
  rw[<-ea,<-Cg,show a+(mask+1-a+b)=(mask+1)+b by lia,Cg,c,eb]
def XM(h:Int):jv h<2^64:=by
 unfold jv;lia
def OA(m:mask=7\/mask=31\/mask=127)(h:Int)(a:t<=mask)(y:Nat):∃k,k<mask+15/\(iQ mask k (y,jv h)).1=t:=by
 have e:(iQ mask 13 (y,jv h)).2=0:=by
  rw[Ox]
  have:=XM h
  exact Nat.div_eq_of_lt (Al this (by decide))
 have b:(iQ mask 13 (y,jv h)).1<=mask:=by
  show(iQ mask 12 (mV mask y (jv h))).1<=mask
  have g:∀k (st:Nat×Nat),st.1<=mask->(iQ mask k st).1<=mask:=by
   intro k;induction k with
   |zero=>intro st q;exact q
   |succ k i=>
    intro st q;refine i _ ?_
    show(st.1*5+1+st.2 / 32)%(mask+1)<=mask
    exact sH (sI _ (nP _))
  refine g 12 _ ?_
  show(y*5+1+jv h / 32)%(mask+1)<=mask
  exact sH (sI _ (nP _))
 obtain⟨k,f,c⟩:=XK m b a;refine⟨13+k,by lia,?_⟩;rw[Oy];have d:iQ mask 13 (y,jv h)=((iQ mask 13 (y,jv h)).1,0):=by rw[<-e]
 rw[d,Oz];exact c
def OB(h:i<=mask):i<=mU mask i/\mU mask i<=mask/\mU mask i<=i+9:=by
 unfold mU;split<;>simp_all
section
variable{t:kT}{n:Nat}{hashAt:Nat->Int}{h:Int}
abbrev Ci(t:kT)(i p:Nat):Ew:={j:=i,more:=mU t.mask i-i,i:=i,perturb:=p,dummy:=none}
def OC(fuel:Nat)(p:Ew):tx t hashAt h (fuel+1) p=(match t.slot p.j with
  | .empty=>some (.empty p.j p.dummy)
  | .dummy=>tx t hashAt h fuel (t.advance {p with dummy:=some p.j})
  | .live i=>if hashAt i==h then some (.candidate p.j i (t.advance p))else tx t hashAt h fuel (t.advance p)):=rfl
theorem OD(T:ff t n)(a:∀i,i<n->hashAt i≠h):∀(m fuel:Nat) (p:Ew),p.more=m->p.dummy=none->
  (∃j,p.j<=j/\j<=p.j+m/\t.slot j= .empty/\tx t hashAt h (fuel+m+1) p=some (.empty j none))\/
  (t.slot p.j≠.empty/\tx t hashAt h (fuel+m+1) p=tx t hashAt h fuel (Ci t (mV t.mask p.i p.perturb).1 (mV t.mask p.i p.perturb).2))
 |0,fuel,p,c,d=>by
  rw[show fuel+0+1=fuel+1 from rfl,OC];rcases Gv T p.j with e|⟨i,b,e,_⟩
  .rw[e]
   exact .inl ⟨p.j,bc _,bc _,e,by rw[d]⟩
  .rw[e]
   right;refine⟨by simp,?_⟩;cb_eq;rw[if_neg (by simpa using a i b)];congr 1;unfold Lk;rw[if_neg (by simp_all)];simp[Ci,d]
 |m+1,fuel,p,c,d=>by
  rw[OC];rcases Gv T p.j with e|⟨i,b,e,_⟩
  .rw[e]
   exact .inl ⟨p.j,bc _,by simp,e,by rw[d]⟩
  .rw[e]
   cb_eq;rw[if_neg (by simpa using a i b)];have ha:t.advance p={p with j:=p.j+1,more:=p.more-1}:=by
    unfold Lk;rw[if_pos (by simp_all)]
   rw[ha];rcases OD T a m fuel {p with j:=p.j+1,more:=p.more-1} (by show p.more-1=m;simp_all) d with ⟨j,q1,q2,q3,q4⟩|⟨q1,q2⟩
   .exact .inl ⟨j,by show p.j<=j;have:p.j+1<=j:=q1;exact EM this,by have:j<=p.j+1+m:=q2;lia,q3,q4⟩
   .exact .inr ⟨by simp,q2⟩
theorem OE(T:ff t n)(a:∀i,i<n->hashAt i≠h):∀(N fuel i p:Nat),i<=t.mask->10*N<=fuel->
  (∃j,j<=t.mask/\t.slot j= .empty/\tx t hashAt h fuel (Ci t i p)=some (.empty j none))\/∀k,k<N->t.slot (iQ t.mask k (i,p)).1≠.empty
 |0,fuel,i,p,b,hf=>.inr λ k c=>by simp_all
 |N+1,fuel,i,p,b,hf=>by
  obtain⟨r,o,u⟩:=OB b;obtain⟨f,rfl⟩:∃f,fuel=f+(mU t.mask i-i)+1:=⟨fuel-(mU t.mask i-i)-1,by lia⟩
  rcases OD T a (mU t.mask i-i) f (Ci t i p) rfl rfl with ⟨j,d,q,e,g⟩|⟨d,q⟩
  .exact .inl ⟨j,by have:j<=i+(mU t.mask i-i):=q;grind,e,g⟩
  .have l:(mV t.mask i p).1<=t.mask:=sH (sI _ (nP _))
   rcases OE T a N f _ (mV t.mask i p).2 l (by grind)with ⟨j,m,s2,s3⟩|s
   .exact .inl ⟨j,m,s2,q.trans s3⟩
   .right
    intro k c;cases k with
    |zero=>exact d
    |succ k=>exact s k (LX c)
def ff.mask3(T:ff t n):t.mask=7\/t.mask=31\/t.mask=127:=by
 rcases T.msk with ⟨e,_⟩|⟨e,_⟩|⟨e,_⟩
 .exact .inl e
 .exact .inr (.inl e)
 .exact .inr (.inr e)
def XN(T:ff t n)(c:∀i,i<n->hashAt i≠h):∃j,j<=t.mask/\t.slot j= .empty/\t.probe hashAt h (t.probeStart h)=some (.empty j none):=by
 have s:jv h%(t.mask+1)<=t.mask:=sH (sI _ (nP _));rcases OE T c (t.mask+15) (10*A3 t.mask) _ (jv h) s (by unfold A3;simp)with z|z
 .exact z
 .exfalso
  have o:∀x∈dP (t.mask+1),x∈t.place.toList:=by
   intro x b;simp only[kl]at b;obtain⟨k,d,f⟩:=OA T.mask3 h (t:=x) (EP b) (jv h%(t.mask+1))
   have:=z k d
   rw[f]at this;rcases Gv T x with e|⟨i,g,_,e⟩
   .exact absurd e this
   .rw[<-e]
    have a:i<t.place.size:=by rw[T.siz];exact g
    rw[show t.place.getD i 0=t.place[i]by simp[xj,a]];exact Array.getElem_mem_toList a
  have:=sub_len z9 o
  have l:=T.few;rw[sF,dY,T.siz]at this;lia
end
def Bz(xs:Array α)(p:Nat)(x d:α)(b:p<=xs.size)(i:Nat):(lU xs p x).getD i d=if i<p then xs.getD i d else if i=p then x else xs.getD (i-1) d:=by
 have e:∀(y:Array α) i,y.getD i d=(y.toList[i]?).getD d:=λ y i=>by simp_all
 rw[e,e,e,SetTable.toList_insertAt];have l:p<=xs.toList.length:=by simpa using b
 by_cases h:i<p
 .rw[if_pos h,nI (by simp_all),List.getElem?_take,if_pos h]
 .rw[if_neg h,oS (by simp_all),eY,qD l]
  by_cases a:i=p
  .rw[if_pos a,a,An]
   rfl
  .rw[if_neg a,show i-p=(i-p-1)+1 by exact LI h a,qv,uV]
   congr 2;lia
def Cj(xs:Array α)(p:Nat)(x:α):(lU xs p x).size=xs.size+1:=by
 rw[<-dY,(Li xs p x).length_eq];simp
def OF{t:kT}(hf:t.fill=n):t.tooFull=decide (t.mask*3<=n*5):=by unfold SetTable.tooFull;rw[hf]
structure ny(t:kT)(n:Nat):Prop where
 dum:t.dummies=#[]
 siz:t.place.size=n
 ris:yQ t.place
 top:∀i,i<n->t.place.getD i 0<=t.mask
 msk:t.mask=7/\n<=5\/t.mask=31/\n<=19\/t.mask=127/\n<77
 pla:t.plain=true
theorem ny.fill(h:ny t n):t.fill=n:=by unfold Lm;rw[h.dum,h.siz];rfl
theorem ny.fits(h:ny t n):t.fits n=true:=by
 unfold Lo;rw[h.fill,h.siz]
 have:=h.msk
 simp;lia
def XO(T:ff t n)(l:n<76)(m:j<=t.mask)(p:t.slot j= .empty):ny (t.put j).1 (n+1)/\(t.put j).2=gC t.place j/\(t.put j).2<=n/\(t.put j).1.mask=t.mask/\(t.put j).1.led=t.led:=by
 have o:=XI T p;obtain⟨f,q,r⟩:=Cf T.ris j;have h:=T.siz;have g:=Bz t.place (gC t.place j) j 0 f;refine⟨⟨?_,?_,?_,?_,?_,T.pla⟩,rfl,by rw[<-h];exact f,rfl,rfl⟩
 .show(if x8 t.dummies j then SetTable.eraseAt t.dummies (gC t.dummies j)else t.dummies)=#[]
  rw[T.dum]
  have:x8 #[] j=false:=by unfold x8;simp
  rw[this];rfl
 .show(lU t.place _ j).size=n+1
  rw[Cj,h]
 .intro a b c s
  have d:b<n+1:=by
   have:b<(lU t.place (gC t.place j) j).size:=s
   rw[Cj,h]at this;exact this
  show(lU t.place (gC t.place j) j).getD a 0<(lU t.place (gC t.place j) j).getD b 0
  rw[g,g];by_cases e:a<gC t.place j
  .rw[if_pos e]
   by_cases c1:b<gC t.place j
   .rw[if_pos c1];exact T.ris a b c (by grind)
   .rw[if_neg c1]
    by_cases c2:b=gC t.place j
    .rw[if_pos c2];exact q a e
    .rw[if_neg c2]
     exact T.ris a (b-1) (by lia) (EK h c d)
  .rw[if_neg e,if_neg (show¬b<gC t.place j by lia),if_neg (show¬b=gC t.place j by lia)]
   by_cases k:a=gC t.place j
   .rw[if_pos k]
    have u:=r (b-1) (by lia) (EK h c d);have v:=o (b-1) (SY c d);lia
   .rw[if_neg k]
    exact T.ris (a-1) (b-1) (by lia) (EK h c d)
 .intro i w
  show(lU t.place (gC t.place j) j).getD i 0<=t.mask
  rw[g];split
  .exact T.top i (by lia)
  .split
   .exact m
   .exact T.top (i-1) (by grind)
 .have:=T.msk
  show t.mask=7/\n+1<=5\/t.mask=31/\n+1<=19\/t.mask=127/\n+1<77;lia
def ny.still{t:kT}(h:ny t n)(hf:t.tooFull=false):ff t n:=by
 rw[OF h.fill]at hf;refine⟨h.dum,h.siz,h.ris,h.top,?_,h.pla⟩;rcases h.msk with ⟨e,l⟩|⟨e,l⟩|⟨e,l⟩<;>rw[]at hf
 .exact .inl ⟨e,by lia⟩
 .exact .inr (.inl ⟨e,by lia⟩)
 simp_all
def ny.full{t:kT}(h:ny t n)(a:n<=76)(hf:t.tooFull=true):n=5\/n=19:=by
 rw[OF h.fill]at hf;simp only[decide_eq_true_eq]at hf
 have:=h.msk
 lia
noncomputable def heldBy(owner:Array (Option Nat)):List Nat:=owner.toList.filterMap id
theorem Gw:∀(l:ku) (j x:Nat),l[j]? =some none->((l.set j (some x)).filterMap id).Perm (x::l.filterMap id)
 |[],j,x,h=>by contradiction
 |a::l,0,x,h=>by
  simp at h;subst h;rfl
 |none::l,j+1,x,h=>by
  have i:=Gw l j x (by assumption);assumption
 |some a::l,j+1,x,h=>by
  have i:=Gw l j x (by assumption)
  have:(((some a::l).set (j+1) (some x)).filterMap id).Perm (a::x::l.filterMap id):=by simp_all
  exact this.trans (xC _ _ _)
theorem OG:∀(l:ku),(∀j,j<l.length->∃x,l[j]? =some (some x))->(l.filterMap id).length=l.length
 |[],_=>rfl
 |a::l,h=>by
  obtain⟨x,e⟩:=h 0 (by simp);have b:=by simpa using e
  subst b;have i:=OG l λ j c=>by simpa using h (j+1) (by simp_all)
  simp[i]
theorem OH(f:owner.size=mask+1):∀(N i p:Nat),i<=mask->
  (∃j,owner.toList[j]? =some none/\x9 mask owner N i p=some j)\/∀k,k<N->∃x,owner.toList[(iQ mask k (i,p)).1]? =some (some x)
 |0,i,p,b=>.inr λ k c=>by simp_all
 |N+1,i,p,b=>by
  obtain⟨r,n,t⟩:=OB b;have o:x9 mask owner (N+1) i p=(match (dP (mU mask i+1-i)).find? λ k=>(owner.getD (i+k) (some 0)).isNone with
   |some k=>some (i+k)
   |none=>x9 mask owner N (mV mask i p).1 (mV mask i p).2):=rfl
  rw[o];cases hf:(dP (mU mask i+1-i)).find? λ k=>(owner.getD (i+k) (some 0)).isNone with
  |some k=>
   left;have g:=List.mem_of_find?_eq_some hf;have d:=List.find?_some hf;simp only[kl]at g;have h:i+k<owner.size:=by grind
   refine⟨i+k,?_,rfl⟩;have e:owner.getD (i+k) (some 0)=owner[i+k]:=by simp[xj,h]
   rw[e]at d;rw[hV,Dd];exact⟨h,by simpa using d⟩
  |none=>
   have a:=List.find?_eq_none.mp hf 0 (by simp;lia);have h:i<owner.size:=by lia
   have e:owner.getD (i+0) (some 0)=owner[i]:=by simp[xj,h]
   rw[e]at a;have l:(mV mask i p).1<=mask:=sH (sI _ (nP _));rcases OH f N _ (mV mask i p).2 l with ⟨j,m,s2⟩|s
   .exact .inl ⟨j,m,s2⟩
   .right
    intro k c;cases k with
    |zero=>
     show∃x,owner.toList[i]? =some (some x)
     rw[hV];cases q:owner[i]with
     |none=>rw[q]at a;simp at a
     |some x=>exact⟨x,by rw[Dd];exact⟨h,q⟩⟩
    |succ k=>exact s k (LX c)
def XP(m:mask=7\/mask=31\/mask=127)(o:owner.size=mask+1)(f:(heldBy owner).length<mask+1)(h:Int):
  ∃j,owner.toList[j]? =some none/\x9 mask owner (A3 mask) (jv h%(mask+1)) (jv h)=some j:=by
 rcases OH o _ _ _ (sH (sI _ (nP mask)))with z|z
 .exact z
 .exfalso
  have:=OG _ λ j a=>by
   rw[dY,o]at a;obtain⟨k,c,b⟩:=OA m h (t:=j) (EP a) _;obtain⟨x,e⟩:=z k (by assumption);rw[b]at e;exact⟨x,e⟩
  unfold heldBy at f;simp_all
noncomputable def Ck(m:Nat)(acc:Option (Array (Option Nat)×Nat))(h:Int):Option (Array (Option Nat)×Nat):=do
 let(owner,k) <-acc
 let j <-x9 m owner (A3 m) (jv h%(m+1)) (jv h)
 pure (owner.setIfInBounds j (some k),k+1)
theorem OI(m:mask=7\/mask=31\/mask=127):∀(s:List Int) (owner:Array (Option Nat)) (k:Nat),owner.size=mask+1->(heldBy owner).Perm (dP k)->k+s.length<=mask->
  ∃o,s.foldl (Ck mask) (some (owner,k))=some (o,k+s.length)/\o.size=mask+1/\(heldBy o).Perm (dP (k+s.length))
 |[],owner,k,a,p,l=>⟨owner,rfl,a,p⟩
 |h::s,owner,k,a,p,l=>by
  rw[eX]at l;obtain⟨j,e,b⟩:=XP m a (by rw[p.length_eq,sF];lia) h;have t:Ck mask (some (owner,k)) h=some (owner.setIfInBounds j (some k),k+1):=by
   unfold Ck;simp[b]
  rw[Ab,t];obtain⟨c,f,d,g⟩:=OI m s (owner.setIfInBounds j (some k)) (k+1) (by simpa using a) (by
   unfold heldBy;rw[Df];refine(Gw owner.toList j k e).trans ?_;rw[JR];exact(List.Perm.cons k p).trans (List.perm_append_singleton k _).symm) (Tc l)
  refine⟨c,?_,d,?_⟩
  .rw[f,eX,show k+1+s.length=k+(s.length+1)by exact Ma]
  .rw[eX,show k+(s.length+1)=k+1+s.length by exact L8]
   exact g
def XQ(m:Nat):heldBy (Ji m none)=[]:=by
 unfold heldBy;simp
def XR(m:mask=7\/mask=31\/mask=127)(h:Array Int)(l:h.size<=mask):∃owner,Lj mask h=some owner/\owner.size=mask+1/\(heldBy owner).Perm (dP h.size):=by
 obtain⟨o,a,f,b⟩:=OI m h.toList (Ji (mask+1) _) 0 (by simp) (by rw[XQ];rfl) (by simp_all);refine⟨o,?_,f,by simp_all⟩;have e:Lj mask h=(h.foldl (Ck _) _).map _:=rfl;simp_all
noncomputable def oC(owner:Array (Option Nat))(m:Nat):List (Nat×Nat):=(dP m).filterMap λ j=>(owner.getD j none).map (j,·)
theorem OJ:∀(l:ku) (b:Nat) (f:Nat->Option Nat),(∀i,i<l.length->f (b+i)=(l[i]?).getD none)->
  ((DA b l.length).filterMap λ j=>(f j).map (j,·)).map (·.2)=l.filterMap id
 |[],_,_,_=>rfl
 |a::l,b,f,h=>by
  have c:=h 0 (by simp);simp at c;have d:=OJ l _ f λ i e=>by
   have:=h (i+1) (by simp_all)
   rw[show b+(i+1)=b+1+i by exact L8]at this;assumption
  rw[eX,JP];cases a<;>simp_all
def XS(owner:Array (Option Nat)):(oC owner owner.size).map (·.2)=heldBy owner:=by
 have:=OJ owner.toList 0 (λ j=>owner.getD j none) λ i h=>by simp
 unfold oC heldBy;rw[JB,<-this,dY]
theorem OK(f:Nat->Option Nat):∀(m b:Nat),(((DA b m).filterMap λ j=>(f j).map (j,·)).map (·.1)).Pairwise (·< ·)/\∀x∈((DA b m).filterMap λ j=>(f j).map (j,·)).map (·.1),b<=x/\x<b+m
 |0,b=>⟨.nil,λ x h=>by simp_all⟩
 |m+1,b=>by
  obtain⟨a,i⟩:=OK f m _;rw[JP,oX];cases hf:f b with
  |none=>
   simp only[Ka];exact⟨a,λ x h=>by have:=i x h;lia⟩
  |some y=>
   simp only[sL,dH];refine⟨gQ.mpr ⟨λ x h=>by have:=i x h;lia,a⟩,λ x h=>?_⟩;rcases bI.mp h with e|h
   .simp_all
   .have:=i x h
    lia
def XT{l:List Nat}(h:l.Pairwise (·< ·)):yQ l.toArray:=by
 intro i j b c;have a:=by simpa using c
 have:=nK.mp h i j (Md b a) a b
 simp[a,show i<l.length by exact Md b a];simp_all
def XU{t:kT}(p:t.plain=true)(g:n=5\/n=19)(s:Array Int)(l:s.size=n):
  ∃t' o,t.relaid s (Ex n)=some (t',o)/\ff t' n/\t'.led=t.led/\o.toList.Perm (dP n):=by
 have q:∃mask,SetTable.sizeAbove (Ex n)-1=mask/\(mask=31/\n=5\/mask=127/\n=19):=by
  rcases g with e|e<;>subst e
  .exact⟨31,by decide,.inl ⟨rfl,rfl⟩⟩
  .exact⟨127,by decide,.inr ⟨rfl,rfl⟩⟩
 obtain⟨mask,u,m⟩:=q;have b:mask=7\/mask=31\/mask=127:=by lia
 obtain⟨owner,v,o2,c⟩:=XR b s (SK l m);have h:=XS owner;obtain⟨r,d⟩:=OK (λ j=>owner.getD j none) (mask+1) 0;rw[<-JB]at r d;have k:((oC owner (mask+1)).map (·.1)).length=n:=by
  rw[bb,<-bb (f:=(·.2)),<-o2,h,c.length_eq,sF,l]
 refine⟨{mask:=mask,place:=((oC owner (mask+1)).map (·.1)).toArray,dummies:=#[],finger:=t.finger,led:=t.led,moves:=t.movedTo mask,plain:=t.plain},((oC owner (mask+1)).map (·.2)).toArray,?_,⟨rfl,?_,XT r,?_,?_,p⟩,rfl,?_⟩
 .unfold SetTable.relaid SetTable.laid
  rw[u,v];rfl
 .simpa using k
 .intro i w
  have a:i<((oC owner (mask+1)).map (·.1)).length:=by rw[k];exact w
  show((oC owner (mask+1)).map (·.1)).toArray.getD i 0<=mask
  have:((oC owner (mask+1)).map (·.1)).toArray.getD i 0=((oC owner (mask+1)).map (·.1))[i]:=by
   rw[Array.getD_eq_getD_getElem?,List.getElem?_toArray,en a];rfl
  rw[this]
  have:=d _ (lO a)
  grind
 .show mask=7/\n<5\/mask=31/\n<19\/mask=127/\n<77
  lia
 .show((oC owner (mask+1)).map (·.2)).Perm (dP n)
  rw[<-o2,h,<-l];exact c
abbrev bT(es:Array (Int×Value))(ep:Nat)(t:kT):Obj:={cls:=.type "set",dict:=none,data:=.set es ep t}
structure TupAt(h:Heap)(x:Addr)(ns:List Int):Prop where
 ex:∃o xs k,h.get? x=some o/\o.cls= .type "tuple"/\o.data= .seq xs k/\dE xs.toList ns
section
variable{prog:aR}{w:World}{A:aS}{E:Value->ao->Prop}{s:ao}
def OL(o:s.heap.get? a=some (bT es ep t))(hz:es'.size<=4000)
  (h:(s.heap.update a (Er es' t')).get? a=some (bT es' (ep+1) t')->Q () {s with heap:=s.heap.update a (Er es' t')}):wpAny (model prog w) A (storeSet a es' t') Q E s:=by
 refine wpAny_storeSet_of o rfl (h ?_) (by rw[mM];lia)
 have:=vj (Er es' t') o (by rw[putSet_of es' t' rfl];rfl)
 rw[putSet_of es' t' rfl]at this;exact this
end
end VL
namespace PySem
section
variable{prog:aR}{w:World}{A:aS}{E:Value->ao->Prop}{s:ao}
def XW(a:Value)(h:Q₁ (.ref s.heap.objs.size) {s with heap:=s.heap.push (VL.bT #[] 0 (.fresh 0 0 (!w.params.followText "set-order")))}):
  ie (model prog w) A (.call (.builtin "set.__new__") ⟨[.type "set",a],[]⟩) (wants Q₁ E) s:=by
 refine codeAny_of_tree ?_;refine ak (AI (F.newCall_set_1 a) (aB ⟨sV KP _,nW PySem.F.entry_set_new ?_⟩));rw[qN KP _];unfold ia.«set.__new__» Sd;have b:=sub_set_self;cb_eq;wp_walk;refine xJ (aB ?_);cb_eq;simp only[newObj];exact ak (wpAny_alloc (aB (aB h)))
set_option maxHeartbeats 3200000 in
def mD{l:Addr}{T:String}{I:Obj}{Φ:Heap->Prop}{Q:Value->ao->Prop}(y:s.TypeIs (.ref l) T)(G:isSubtype (.type T) (.type "set")=pure false)(H:isSubtype (.type T) (.type "frozenset")=pure false)(N:(ma T==ma "dict")=false)
  (q:∀(z:Heap) (O:aS) (Y:Value->ao->Prop) (Q₁:Value->ao->Prop),(∀b o,s.heap.get? b=some o->z.get? b=some o)->Q₁ (.ref z.objs.size) {s with heap:=z.push I}->wpAny (model prog w) O (tf (.ref l)) Q₁ Y {s with heap:=z})
  (u:∀R:pj->ao->Prop,(∀h' k,Φ h'->(∀b o,s.heap.get? b=some o->h'.get? b=some o)->R (.ok (.ret .none)) {s with heap:=h',toks:=k})->
   ie (model prog w) A.in1.in1 (.builtin "set.update.loop" ⟨[.ref s.heap.objs.size,.ref (s.heap.push (VL.bT #[] 0 (.fresh 0 0 (!w.params.followText "set-order")))).objs.size],[]⟩) R {s with heap:=(s.heap.push (VL.bT #[] 0 (.fresh 0 0 (!w.params.followText "set-order")))).push I})
  (h:∀h' k,Φ h'->(∀b o,s.heap.get? b=some o->h'.get? b=some o)->Q (.ref s.heap.objs.size) {s with heap:=h',toks:=k}):
  wpAny (model prog w) A (call (.type "set") [.ref l]) Q E s:=by
 obtain⟨c,tl,J⟩:=qY.mro;have v:=qY.made;have b9:=qY.sub
 refine AK (codeAny_of_tree ?_);show wpAny _ _ (callAny (.type "set") _) _ _ _;refine aB ⟨KG _ (by f_are),nW PySem.F.entry_type_call ?_⟩;rw[Around.under_plain (weight_type_call_type "set" [.ref l] []) rfl];have h1:=qY.notType;have h2:=qY.canCreate
 have U:=F.typeCall_set_1 (.ref l);repeat (any_goals (first|assumption|wp_step))
 generalize j:(!w.params.followText "set-order")=d at u;refine qJ (XW (.ref l) (E:=E) (Q₁:=λ m S=>m= .ref s.heap.objs.size/\S={s with heap:=s.heap.push (VL.bT #[] 0 (.fresh 0 0 d))}) ⟨rfl,by rw[j]⟩) λ r S x=>?_
 cases r with
 |error e=>exact x
 |ok V=>
  cases V with
  |ret m=>
   obtain⟨rfl,rfl⟩:=x;have W:(s.heap.push (VL.bT #[] 0 (.fresh 0 0 d))).get? s.heap.objs.size=some (VL.bT #[] 0 (.fresh 0 0 d)):=dr _ rfl;have X:Shared.TypeIs {s with heap:=s.heap.push (VL.bT #[] 0 (.fresh 0 0 d))} (.ref s.heap.objs.size) "set":=⟨_,W,rfl⟩;have Z:=qY.init.lookup;have hbi:=qY.init.bind (.ref s.heap.objs.size)
   repeat (any_goals (first|assumption|wp_step))
   refine qJ (DW (R:=wants (λ r K=>r= .none/\∃h' k,K={s with heap:=h',toks:=k}/\Φ h'/\(∀b o,s.heap.get? b=some o->h'.get? b=some o)) E) qY.init.plain F.entry_set_init (check_set_init_1 X ?_)) λ n K a=>?_
   .obtain⟨ol,B,p⟩:=y
    obtain⟨L,i,f,t⟩:=ol;simp only at p;subst p;have M:(s.heap.push (VL.bT #[] 0 (.fresh 0 0 d))).get? l=some {cls:=.type T,dict:=i,data:=f,slots:=t}:=bj _ B;unfold ia.«set.__init__» noKeywords Sg;generalize P:tf=pB;wp_walk;subst P;refine q _ _ _ _ (λ b o e=>bj _ e) (ak (wpAny_runValue (u _ λ h' k C D=>?_)));show wpAny _ _ _ _ _ _;refine aB ?_;show wpAny _ _ (ret lV) _ _ _;exact aB ⟨rfl,h',k,rfl,C,D⟩
   .cases n with
    |error e=>exact a
    |ok g=>
     cases g with
     |ret r=>
      obtain⟨rfl,h',k,rfl,C,D⟩:=a
      repeat (any_goals (first|assumption|wp_step))
      exact h _ _ C D
     |_=>exact a.elim
  |_=>exact x.elim
end
end PySem
namespace VL
open PySem PySem.Spec PyProof.Rows L2
theorem OM:∀{l:List α} {i:Nat} (h:i<l.length),(l[i]::l.eraseIdx i).Perm l
 |a::l,0,_=>g0 _
 |a::l,i+1,h=>by
  have h':=by simpa using h
  have b:=OM h';exact(xC _ _ _).trans (b.cons a)
theorem ON(next:Nat->Nat):∀(f k:Nat) (left:List α) (o:Array α),left.length<=f->(pickOrder.go next f k left o).toList.Perm (o.toList++left)
 |0,k,left,o,h=>by
  have:left=[]:=uR.mp (by simp_all)
  subst this;rw[fo];exact g0 _
 |f+1,k,left,o,h=>by
  unfold pickOrder.go;cases left with
  |nil=>simp
  |cons a l=>
   have t:next k%(a::l).length<(a::l).length:=sI _ (by simp)
   rw[en t];cb_eq;refine(ON next f (k+1) _ _ (by rw[List.length_eraseIdx];simp_all)).trans ?_;rw[su,fL];exact Af _ (OM t)
def XX(next:Nat->Nat)(xs:Array α):(pickOrder next xs).toList.Perm xs.toList:=by
 have:=ON next xs.size 0 xs.toList #[] (by simp)
 assumption
noncomputable def kg(w:World)(d:Addr)(ep:Nat)(es:Array (Int×Value)):Array (Int×Value):=if w.params.followText "set-order" then pickOrder (w.params.setOrder d ep) es else es
def Cm(w:World)(d:Addr)(ep:Nat)(es:Array (Int×Value)):(kg w d ep es).toList.Perm es.toList:=by
 unfold kg;split
 .exact XX _ _
 rfl
noncomputable def slotAt(w:World)(t:kT):Nat->Nat
 |0=>0
 |i+1=>if w.params.followText "set-order" then 0 else t.place.getD i 0+1
def XY(T:ff t n)(hf:w.params.followText "set-order"=false):∀i,i<=n->gC t.place (slotAt w t i)=i
 |0,_=>by
  obtain⟨c,b,a⟩:=Cf T.ris 0;show gC t.place 0=0;cases h:gC t.place 0 with
  |zero=>rfl
  |succ k=>
   rw[h]at b
   have:=b 0 (by simp)
   simp_all
 |i+1,d=>by
  unfold slotAt;rw[hf];simp only[jq,if_false];obtain⟨c,b,a⟩:=Cf T.ris (t.place.getD i 0+1);have s:=T.siz;rcases J1 (gC t.place (t.place.getD i 0+1)) (i+1)with z|z|z
  .have:=a i (EP z) (by lia)
   lia
  .exact z
  .have e:=b (i+1) (by omega)
   have f:=T.ris i (i+1) (il _) (by omega);omega
section
variable{prog:aR}{w:World}{A:aS}{E:Value->ao->Prop}{s:ao}{d:Addr}{es:Array (Int×Value)}{ep:Nat}{t:kT}
def OO(f:s.heap.get? d=some (bT es ep t))(T:ff t es.size)(l:t.led= !w.params.followText "set-order")(g:i<=es.size)
  (h:Q (((kg w d ep es)[i]?).map λ e=>(e.2,slotAt w t (i+1))) s):wpAny (model prog w) A (setNext d (slotAt w t i) i ep) Q E s:=by
 unfold setNext;refine ak (u5 f rfl T.fits ?_);cb_eq;unfold Ec;refine ak (ak (xJ (aB ?_)));show wpAny _ _ (if w.params.followText "set-order"=true then _ else _) _ _ _;unfold kg at h;cases hf:w.params.followText "set-order" with
 |true=>
  rw[hf]at h;simp only[if_true]at h ⊢;simp only[bne_self_eq_false,jq,if_false];unfold setWalk;refine ak (ak (u5 f rfl T.fits ?_));cb_eq;unfold Ec;refine ak (ak (xJ (aB ?_)));show wpAny _ _ (if w.params.followText "set-order"=true then _ else _) _ _ _;rw[hf];simp only[if_true];refine ak (xJ (aB (aB ?_)));have j:slotAt w t (i+1)=slotAt w t i:=by
   unfold slotAt;cases i with
   |zero=>simp[hf]
   |succ i=>simp[hf]
  rw[j]at h;exact h
 |false=>
  rw[hf]at h l;simp only[jq,if_false]at h ⊢;have k:(!t.plain&&decide (es.size>1))=false:=by rw[T.pla];rfl
  show wpAny _ _ (if (!t.plain&&decide (es.size>1))=true then _ else _) _ _ _;rw[k];simp only[jq,if_false];refine ak ?_;show wpAny _ _ (if (!t.led&& !es.isEmpty)=true then _ else _) _ _ _;rw[l];simp only[Jm,Jn,Jl,jq,if_false];refine aB ?_;rw[XY T hf i g];have o:slotAt w t (i+1)=t.place.getD i 0+1:=by unfold slotAt;rw[hf];rfl
  rw[o]at h;by_cases b:i<es.size
  .have c:es[i]? =some es[i]:=gj b
   have a:i<t.place.size:=by rw[T.siz];exact b
   have m:t.place[i]? =some (t.place.getD i 0):=by
    rw[gj a];simp[xj,a]
   rw[c,m];rw[c]at h;exact aB h
  .have c:es[i]? =none:=Jd (yg b)
   rw[c];rw[c]at h;exact aB h
def wa:PySem.Slot "set_iterator" "__next__" "set_iterator.__next__":=
 .of (owner:="set_iterator") (n:="__next__") (by rfl) (by rfl) (by rfl) (by rfl) (.inl (by rfl)) (by rfl)
def OP:PySem.Slot "set_iterator" "__iter__" "set_iterator.__iter__":=
 .of (owner:="set_iterator") (n:="__iter__") (by rfl) (by rfl) (by rfl) (by rfl) (.inl (by rfl)) (by rfl)
def OQ:entryFor table "set_iterator.__next__"=some ia.«set_iterator.__next__»:=entryFor_of_fast (by kernel_rfl)
def XZ:entryFor table "set_iterator.__iter__"=some ia.«dict_keyiterator.__iter__»:=entryFor_alias (id':="dict_keyiterator.__iter__") (by kernel_rfl) rfl (by f_are) (by kernel_rfl)
def X0:entryFor table "set.__iter__"=some ia.«frozenset.__iter__»:=entryFor_alias (id':="frozenset.__iter__") (by kernel_rfl) rfl (by f_are) (by kernel_rfl)
def OR(a:Value):argsOk "set_iterator.__next__" ⟨[a],[]⟩:=by rfl
def X1(a:Value):argsOk "set_iterator.__iter__" ⟨[a],[]⟩:=by rfl
end
section
variable{prog:aR}{w:World}{A:aS}{E:Value->ao->Prop}{s:ao}{d I:Addr}{es:Array (Int×Value)}{ep:Nat}{t:kT}{c:Nat}
abbrev OS(d:Addr)(sl i n ep:Nat):Obj:={cls:=.type "set_iterator",data:=.fields #[.int sl 0,.int i 0,.ref d,.int n 0,.int ep 0]}
def Cn(h:Heap)(I d:Addr)(sl i n ep:Nat):Prop:=h.get? I=some (OS d sl i n ep)
def OT{h:Heap}{sl i n ep k:Nat}(e:h.get? I=some {cls:=.type "set_iterator",data:=.fields vs}):(h.update I (K9 (·.setIfInBounds k x))).get? I=some {cls:=.type "set_iterator",data:=.fields (vs.setIfInBounds k x)}:=by
 have:=vj (K9 (·.setIfInBounds k x)) e (K8 (Ep rfl _))
 assumption
def X2(a:Cn s.heap I d (slotAt w t c) c es.size ep)(o:s.heap.get? d=some (bT es ep t))(T:ff t es.size)(l:t.led= !w.params.followText "set-order"){v:Value}(j:c<es.size)(b:((kg w d ep es)[c]?).map (·.2)=some v){Q:Option Value->ao->Prop}
  (h:∀h',Cn h' I d (slotAt w t (c+1)) (c+1) es.size ep->vk I s.heap h'->Q (some v) {s with heap:=h'}):wpAny (model prog w) A (jY (.ref I)) Q E s:=by
 have f:s.TypeIs (.ref I) "set_iterator":=⟨_,a,rfl⟩;unfold jY;refine ak (u6 (mK (name:=mW "__next__") f wa (jX wa f OQ ?_ (OR _))));show wpAny _ _ (fieldsOf (.ref I)>>=_) _ _ s;refine ak (wpAny_fieldsOf a rfl ?_);cb_eq;refine ak ?_;unfold setEntries;refine ak (u5 o rfl T.fits (aB ?_));simp only[bne_self_eq_false,jq,if_false];refine ak ?_;simp only[oR];refine OO o T l (lR j) ?_;cases q:(kg w d ep es)[c]? with
 |none=>rw[q]at b;cases b
 |some e=>
  rw[q]at b;cases b;dsimp only[sL];refine ak (xN a rfl (by simp) ?_);have g:=OT (h:=s.heap) (I:=I) (k:=0) (x:=mS (slotAt w t (c+1))) (sl:=0) (i:=0) (n:=0) (ep:=0) a;refine ak (xN g rfl (by simp) ?_);have m:=OT (k:=1) (x:=mS (c+1)) (sl:=0) (i:=0) (n:=0) (ep:=0) g;exact aB ⟨_,rfl,aB (h _ m ((qZ ..).trans (qZ ..)))⟩
def X3(f:A.handled=none)(c:Cn s.heap I d (slotAt w t es.size) es.size es.size ep)(o:s.heap.get? d=some (bT es ep t))(T:ff t es.size)(l:t.led= !w.params.followText "set-order")
  (h:∀h',AZ I s.heap h'->Q none {s with heap:=h'}):wpAny (model prog w) A (jY (.ref I)) Q E s:=by
 have e:s.TypeIs (.ref I) "set_iterator":=⟨_,c,rfl⟩;unfold jY;refine ak (u6 (mK (name:=mW "__next__") e wa (jX wa e OQ ?_ (OR _))));show wpAny _ _ (fieldsOf (.ref I)>>=_) _ _ s;refine ak (wpAny_fieldsOf c rfl ?_);cb_eq;refine ak ?_;unfold setEntries;refine ak (u5 o rfl T.fits (aB ?_));simp only[bne_self_eq_false,jq,if_false];refine ak ?_;simp only[oR];refine OO o T l (bc _) ?_;have q:(kg w d ep es)[es.size]? =none:=Jd (by
  have:=(Cm w d ep es).length_eq
  rw[dY,dY]at this;simp_all)
 rw[q];dsimp only[Ka];refine ak (xN c rfl (by simp) ?_);show wpAny _ _ (newExc (.type "StopIteration") []>>=_) _ _ _;refine ak ?_;simp only[newExc,newTuple];refine ak (i3 (ak (m:=AC _ _) (AI (a:=lV) (by first|rfl|(simp only[AC];rfl)) (i3 ?_ (by size_fits)))) (by size_fits));simp only[raiseNew];refine ak (wpAny_handled ?_);rw[show A.in1.handled=none from f];refine ak (aB (wpAny_throw ?_));refine ak (AA (T:="StopIteration") (b:=true) ⟨_,dr _ rfl,rfl⟩ D0 ?_);exact aB (h _ (((qZ ..).extBut.push _).push _))
def X4(q:A.handled=none)(I d:Addr)(n:d≠I)(es:Array (Int×Value))(ep:Nat)(t:kT)(T:ff t es.size)(l:t.led= !w.params.followText "set-order"):
  Walks prog w A I [I,d] [I] es.size (λ i v=>((kg w d ep es)[i]?).map (·.2)=some v) (λ i h=>Cn h I d (slotAt w t i) i es.size ep/\h.get? d=some (bT es ep t)) where
 sub:=λ b a=>by simp at a;simp[a]
 frame:=λ _ _ _ st m=>⟨m I (by simp) _ st.1,m d (by simp) _ st.2⟩
 item:=λ i s Q E r st c=>by
  have u:i<(kg w d ep es).size:=by
   have:=(Cm w d ep es).length_eq
   rw[dY,dY]at this;simp_all
  have p:((kg w d ep es)[i]?).map (·.2)=some (kg w d ep es)[i].2:=by rw[gj u];rfl
  refine X2 st.1 st.2 T l r p λ h' g f=>?_
  exact c _ h' s.toks p ⟨g,by rw[f.2 d n];exact st.2⟩ λ b o a e=>f.extBut b o (λ h=>a (by simp[h])) e
 done:=λ s Q E st c=>X3 q st.1 st.2 T l λ h' j=>c h' s.toks λ b o a e=>j b o (λ h=>a (by simp[h])) e
 self:=λ i s Q E st c=>by
  have k:s.TypeIs (.ref I) "set_iterator":=⟨_,st.1,rfl⟩;refine Kr k OP (jX OP k XZ ?_ (X1 _));show wpAny _ _ (ret (.ref I)) _ _ s;exact aB ⟨_,rfl,"set_iterator",_,k,wa.lookup,c⟩
def X5(o:s.heap.get? d=some (bT es ep t))(T:ff t es.size)(h:Q (.ref s.heap.objs.size) {s with heap:=s.heap.push (OS d 0 0 es.size ep)}):wpAny (model prog w) A (tf (.ref d)) Q E s:=by
 have a:s.TypeIs (.ref d) "set":=⟨_,o,rfl⟩;refine Kr a KQ (jX KQ a X0 ?_ (PySem.F.args_set_iter_1 _));unfold ia.«frozenset.__iter__» Sf slotArgs;simp only[List.isEmpty_nil,Jn,jq,↓reduceIte,bind_assoc,mH,bne_self_eq_false];unfold Sb Se;refine ak (aB (ak (aB (ak (ak (wpAny_setEntries_of o rfl T.fits (aB ?_)))))));unfold setDrawn;refine ak (ak (u5 o rfl T.fits ?_));cb_eq;unfold Ec;refine ak (ak (xJ (aB (aB ?_))));have b:(!w.params.followText "set-order"&&(!t.plain&&decide (es.size>1)))=false:=by rw[T.pla];simp
 show wpAny _ _ (if (!w.params.followText "set-order"&&(!t.plain&&decide (es.size>1)))=true then _ else _) _ _ _;rw[b];simp only[jq,if_false];refine ak (aB (ak (wpAny_setEpoch_of o rfl T.fits ?_)));simp only[newFields];refine ak (i3 (aB ⟨_,rfl,"set_iterator",_,⟨_,dr _ rfl,rfl⟩,wa.lookup,?_⟩));exact h
def X6(c:s.TypeIs (.ref r) "set")(h:Q false s):wpAny (model prog w) A (Ku (.ref r)) Q E s:=by
 unfold Ku;refine ak (wpAny_specialOf c PySem.F.slot_set_len.lookup ?_);generalize i:("set.__len__":String)=d;wp_delta;rw[show splitId d=some ("set","__len__")from by subst i;decide+kernel];subst i;refine ak (AA (T:="set") (b:=true) c (by rw[isSubtype_type];kernel_rfl) ?_);refine wpAny_ite_split (λ a=>absurd a (by decide)) λ _=>wpAny_ite_split (λ _=>?_) λ a=>absurd (by f_are) a
 exact ak (sW c (aB h))
def X7(T:ff t es.size)(l:t.led= !w.params.followText "set-order"):LB prog w "set" d d es.size (λ i v=>((kg w d ep es)[i]?).map (·.2)=some v) (λ h=>h.get? d=some (bT es ep t)) where
 type:=λ _ m=>⟨_,m,rfl⟩
 there:=λ _ m=>⟨bE m,bE m⟩
 keep:=λ _ _ m k=>k d (.inl rfl) _ m
 notList:=by decide
 notTuple:=by decide
 hint:=λ _ _ _ _ m q=>X6 ⟨_,m,rfl⟩ q
 iter:=λ A s a m=>⟨_,_,(λ _ _ q=>X5 m T q),X4 a _ d (cH (bE m)) es ep t T l,⟨dr _ rfl,bj _ m⟩⟩
end
section
variable{prog:aR}{w:World}{A:aS}{E:Value->ao->Prop}{s:ao}{T:String}{r d:Addr}{n:Nat}{P:Nat->Value->Prop}{O:Heap->Prop}
def X8(K:LB prog w T r d n P O)(D:A.handled=none)(k:O s.heap)(F:n<=aI)
  (h:∀h' t u,s.heap.objs.size<h'.objs.size->(∀b o,s.heap.get? b=some o->h'.get? b=some o)->u.length=n->(∀(j:Nat) v,u[j]? =some v->P j v)->Q u {s with heap:=h',toks:=t}):wpAny (model prog w) A (collect (.ref r)) Q E s:=by
 have m:=K.there _ k;unfold collect;refine ak (wpAny_runValue (nW PySem.F.entry_proto_collect ?_));rw[qN PySem.F.plain_proto_collect _];show wpAny _ A.in1 (qL []>>=λ l=>again (.builtin "list.__iadd__" ⟨[l,.ref r],[]⟩)) _ _ s;refine ak (i3 (aB ⟨sV KJ _,nW PySem.F.entry_list_iadd ?_⟩));rw[qN KJ _];show wpAny _ A.in1 (Builtin.List.listExtendWith (.ref s.heap.objs.size) (.ref r) (.ref s.heap.objs.size)) _ _ _;have p:∀h' t g i,(∀b o,b≠s.heap.objs.size->(s.heap.push (e6 "list" #[] 0)).get? b=some o->h'.get? b=some o)->h'.get? s.heap.objs.size=some {cls:=.type "list",dict:=none,data:=.seq g i,slots:=#[]}->ItemsOf P g n->
   wpAny (model prog w) A (do match (fO s.heap.objs.size)with
    | .ref a=>match (<-load a).data with
     | .seq xs _=>pure xs.toList
     |_=>unsupported "internal:collect"
    |_=>unsupported "internal:collect") Q E {s with heap:=h',toks:=t}:=λ h' t g i x S V=>
  ak (wpAny_load S (aB (h h' t g.toList (bE S) (λ b o e=>x b o (cH (bE e)) (bj _ e)) (by rw[dY];exact V.1) λ j v e=>V.2 j v (by rw[<-hV];exact e))))
 refine iq (PySem.W.kdl_extend (A:=A) (s:={s with heap:=s.heap.push (e6 "list" #[] 0)}) (R:=λ r s'=>∃h' t g i,r= .ok (.ret (.ref s.heap.objs.size))/\s'={s with heap:=h',toks:=t}/\(∀b o,b≠s.heap.objs.size->(s.heap.push (e6 "list" #[] 0)).get? b=some o->h'.get? b=some o)/\h'.get? s.heap.objs.size=some {cls:=.type "list",dict:=none,data:=.seq g i,slots:=#[]}/\ItemsOf P g n)
  K D (K.keep _ _ k λ b _ o e=>bj _ e) s.heap.objs.size (kR m.1) (kR m.2) (.ref s.heap.objs.size) 0 (dr _ rfl) (λ h' t g i x S V=>⟨h',t,g,i,rfl,rfl,x,S,V⟩) F) (λ f s' hf=>?_) λ e s' G=>?_
 .cases f with
  |done f=>
   obtain⟨h',t,g,i,q,y,z,B,C⟩:=hf;cases q;subst y;exact p h' t g i z B C
  |again c=>
   refine⟨hf.1,qJ hf.2 λ r s' H=>?_⟩;obtain⟨h',t,g,i,q,y,z,B,C⟩:=H;subst q y;exact p h' t g i z B C
 .obtain⟨h',t,g,i,q,_⟩:=G
  cases q
end
def kI(h:Heap)(p:Value×List Int):Prop:=∃x o xs k,p.1= .ref x/\h.get? x=some o/\o.cls= .type "tuple"/\o.data= .seq xs k/\dE xs.toList p.2/\p.2≠[]
theorem kH.all:∀{v:List Value} {nss:cf},kH h v nss->∀p∈v.zip nss,kI h p
 |_,_,.nil,p,a=>by simp_all
 |_,_,.cons o c d i n r,p,a=>by
  rcases bI.mp a with e|a
  .subst e;exact⟨_,_,_,_,rfl,o,c,d,i,n⟩
  .exact r.all p a
theorem OU:∀{z:pw},(∀p∈z,kI h p)->kH h (z.map (·.1)) (z.map (·.2))
 |[],_=>.nil
 |p::z,hz=>by
  obtain⟨x,o,xs,k,e,a,b,c,d,f⟩:=hz p bW;rw[dH,e];exact .cons a b c d f (OU λ q g=>hz q (cT _ g))
def Gx(h:l.Perm m'):∀{m:List α},m'=m.map f->∃c:List α,c.Perm m/\l=c.map f:=by
 induction h with
 |nil=>intro m e;exact⟨m,g0 _,e⟩
 |cons x p g=>
  intro m e;cases m with
  |nil=>cases e
  |cons a m=>
   injection e with e1 e2
   obtain⟨c,j,t⟩:=g e2;exact⟨_,j.cons a,by simp_all⟩
 |swap x y l=>
  intro m e;cases m with
  |nil=>cases e
  |cons a m=>
   cases m with
   |nil=>simp_all
   |cons b m=>
    exact⟨_,xC _ _ _,by simp_all⟩
 |trans p q i d=>
  intro m e;obtain⟨c,k,n⟩:=d e;obtain⟨o,r,s⟩:=i n;exact⟨o,r.trans k,s⟩
def my(l:cf):Prop:=l.Pairwise λ a b=>HT.lexLt b a=false
section
variable{prog:aR}{w:World}{A:aS}{E:Value->ao->Prop}{s:ao}
def Gy(h:wpAny (model prog w) A.in1 (collect v) (λ a s'=>wpAny (model prog w) A.in1 (qL a>>=λ l=>gB [l] (call (.builtin "list.sort") [l])>>=λ _=>ret l) (λ f s'=>∃r,f= .done (.ret r)/\Q r s') E s') E s):
  wpAny (model prog w) A (call (.builtin "sorted") [v]) Q E s:=by
 refine Calls.call_function_entry kind_sorted plain_sorted entry_sorted (args_sorted1 _) ?_;refine ak (aB (ak ?_));assumption
end
inductive iG(K:av)(H:ah):List V->List (List Int)->Prop where
 |nil:iG K H [] []
 |cons {a:Addr} {ns:List Int} {vs:List V} {nss:cf} (h:bf K H a (ns.map V.int)) (hne:ns≠[]) (r:iG K H vs nss):iG K H (.ref a::vs) (ns::nss)
def ki:V->Value
 | .ref a=>.ref a
 |_=>.none
def iG.vals{K:av}:∀{a:List V} {nss:cf} {us:List Value},iG K H a nss->Vals a us->us=a.map ki:=by
 intro a nss us t v;induction v generalizing nss with
 |nil=>rfl
 |cons q s i=>
  cases t with
  |cons _ _ r=>
   cases q;rw[i r];rfl
theorem iG.len{K:av}:∀{v:List V} {nss:cf},iG K H v nss->v.length=nss.length
 |_,_,.nil=>rfl
 |_,_,.cons _ _ r=>by rw[eX,eX,r.len]
theorem iG.refs{K:av}:∀{s:List V} {nss:cf},iG K H s nss->∀v∈s,RelV v (ki v)
 |_,_,.nil,v,h=>by simp_all
 |_,_,.cons _ _ r,v,h=>by
  rcases bI.mp h with e|h
  .subst e;rfl
  .exact r.refs v h
theorem iG.at(I:Inv X kX σ H s):∀{v:List V} {nss:cf},iG X.K H v nss->kH s.heap (v.map ki) nss
 |_,_,.nil=>.nil
 |_,_,.cons h e r=>by
  obtain⟨i,a,⟨o,b,c,n,d⟩,_⟩:=I.tuple h;exact .cons b c d (by simpa using intsAre_of a) e (r.at I)
theorem OV:∀{s:List V},(∀v∈s,RelV v (ki v))->Vals s (s.map ki)
 |[],_=>.nil
 |v::s,h=>.cons (h v bW) (OV λ u a=>h u (cT _ a))
section
def yR(H:ah)(v:List V)(nss:cf)(Q:br):Prop:=∀z:List (V×List Int),z.Perm (v.zip nss)->my (z.map (·.2))->nh H (.lst (z.map (·.1))) Q
end
def wb:Bool->Keyed->Array Keyed->Nat->Nat->Nat->StateT SortSt Sem (Option Nat):=sortPriv%PySem.Builtin.gallop
def Co(left:Bool)(k:Keyed)(a:Array Keyed)(i:Nat):StateT aK Sem (Option Bool):=elem' a i>>=λ x=>if left=true then lt' x k else lt' k x>>=λ b=>pure (b.map (!·))
section
variable{prog:aR}{w:World}{A:aS}{E:Value->ao->Prop}{s:ao}
def OW{γ:Type}{P:Nat->Bool}{mid:Nat->Nat->Nat}{f:Option γ×Nat×Nat->StateT aK Sem (ForInStep (Option γ×Nat×Nat))}{st:aK}{n N o a:Nat}{Q:Option γ×Nat×Nat->aK->Prop}(v:∀l r,l<r->l<=mid l r/\mid l r<r)
  (y:∀l r,l<r->r<=n->∀R:ForInStep (Option γ×Nat×Nat)->aK->Prop,R (.yield (none,if P (mid l r)=true then(mid l r+1,r)else(l,mid l r))) st->wpS (model prog w) A E s (f (none,l,r)) R st)
  (mono:∀i j,i<=j->j<n->P j=true->P i=true)(e:o<=a)(m:a<=n)(z:a-o<=N)(B:∀i,i<o->P i=true)(C:∀i,a<=i->i<n->P i=false)
  (h:∀k,k<=n->(∀i,i<k->P i=true)->(∀i,k<=i->i<n->P i=false)->Q (none,k,k) st):
  wpS (model prog w) A E s (forIn [0:N] ((none,o,a):Option γ×Nat×Nat) λ _ c=>if c.2.1 ≥ c.2.2 then pure (Dj (none,c.2.1,c.2.2))else f c) Q st:=by
 refine nQ (I:=λ x c t=>t=st/\∃o a,c=(none,o,a)/\o<=a/\a<=n/\a-o<=N-x/\(∀i,i<o->P i=true)/\∀i,a<=i->i<n->P i=false) ?_ ?_ ⟨rfl,o,a,rfl,e,m,z,B,C⟩
 .rintro x c t _ H ⟨rfl,o,a,rfl,u,g,D,b,d⟩
  cb_eq;by_cases p:o ≥ a
  .rw[if_pos p]
   cases DE u p;exact cI (h o g b d)
  .rw[if_neg p]
   have⟨m1,m2⟩:=v o a (by lia)
   refine y o a (by lia) g _ ?_;cases q:P (mid o a)with
   |true=>exact⟨rfl,_,_,rfl,m2,g,by lia,λ i F=>mono i _ (by lia) (by lia) q,d⟩
   |false=>
    refine⟨rfl,_,_,rfl,m1,by lia,by lia,b,λ i k1 k2=>?_⟩;cases G:P i with
    |false=>rfl
    |true=>rw[mono _ i k1 k2 G]at q;cases q
 .rintro c t ⟨rfl,o,a,rfl,u,g,D,b,d⟩
  cases (by lia:o=a);exact h o g b d
def OX{P:Nat->Bool}{ask:Nat->StateT aK Sem (Option Bool)}{st:aK}{n o a:Nat}{Q:Option (Option Nat)×Nat×Nat->aK->Prop}(d:∀i,i<n->∀R:Option Bool->aK->Prop,R (some (P i)) st->wpS (model prog w) A E s (ask i) R st)
  (mono:∀i j,i<=j->j<n->P j=true->P i=true)(e:o<=a)(b:a<=n)(f:∀i,i<o->P i=true)(p:∀i,a<=i->i<n->P i=false)
  (h:∀k,k<=n->(∀i,i<k->P i=true)->(∀i,k<=i->i<n->P i=false)->Q (none,k,k) st):
  wpS (model prog w) A E s (forIn [0:n] ((none,o,a):Option (Option Nat)×Nat×Nat) λ _ c=>if c.2.1 ≥ c.2.2 then pure (Dj (none,c.2.1,c.2.2))else ask (c.2.1+(c.2.2-c.2.1) / 2)>>=λ x=>match x with
   |some m=>if m=true then pure (qr (none,c.2.1+(c.2.2-c.2.1) / 2+1,c.2.2))else pure (qr (none,c.2.1,c.2.1+(c.2.2-c.2.1) / 2))
   |_=>pure (Dj (some none,c.2.1,c.2.2))) Q st:=
 OW (P:=P) (mid:=λ l r=>l+(r-l) / 2) (λ l r h=>⟨Ai _ _,by lia⟩) (λ l r h g R q=>by
  refine aQ (d (l+(r-l) / 2) (by lia) _ ?_);revert q;cb_eq;cases P (l+(r-l) / 2)<;>exact λ q=>cI q) mono e b (by lia) f p h
def X9{P:Nat->Bool}{st:aK}{left:Bool}{e:Keyed}{r:Array Keyed}{base n t:Nat}{Q:Option Nat->aK->Prop}
  (m:∀i,i<n->∀R:Option Bool->aK->Prop,R (some (P i)) st->wpS (model prog w) A E s (Co left e r (base+i)) R st)
  (mono:∀i j,i<=j->j<n->P j=true->P i=true)(p:t<n)
  (h:∀k,k<=n->(∀i,i<k->P i=true)->(∀i,k<=i->i<n->P i=false)->Q (some k) st):wpS (model prog w) A E s (wb left e r base n t) Q st:=by
 refine aQ (m t p _ ?_);cb_eq;cases y:P t with
 |true=>
  rw[if_pos rfl];refine aQ (sP (nQ (I:=λ x c a=>a=st/\∃l o,c=(none,l,o)/\l<o/\x<o/\t+l<n/\P (t+l)=true)
   (Q:=λ c a=>a=st/\∃l o,c=(none,l,o)/\l<o/\t+l<n/\P (t+l)=true/\(t+o<n->P (t+o)=false)) ?_ ?_ ⟨rfl,0,1,rfl,il _,il _,by omega,y⟩) ?_)
  .rintro x c a _ B ⟨rfl,l,o,rfl,d,u,b,g⟩
   cb_eq;by_cases f:o ≥ n-t
   .rw[if_pos f]
    exact cI ⟨rfl,l,o,rfl,d,b,g,λ z=>by grind⟩
   .rw[if_neg f]
    refine aQ (m (t+o) (by lia) _ ?_);cb_eq;cases q:P (t+o)with
    |true=>
     rw[if_neg (by decide)];exact cI ⟨rfl,o,2*o+1,rfl,by lia,by lia,by lia,q⟩
    |false=>
     rw[if_pos (by decide)];exact cI ⟨rfl,l,o,rfl,d,b,g,λ _=>q⟩
  .rintro c a ⟨rfl,l,o,rfl,d,u,b,g⟩
   exact⟨rfl,l,o,rfl,d,b,g,λ z=>by lia⟩
  .rintro c a ⟨rfl,l,o,rfl,d,b,g,v⟩
   cb_eq;refine aQ (OX (ask:=λ i=>Co left e r (base+i)) (n:=n) m mono (SE d b) (by omega) (λ i C=>mono i _ (by lia) b g) (λ i k1 k2=>?_) λ k k1 k2 k3=>cI (h k k1 k2 k3));by_cases f:t+o<n
   .have:=v f
    cases q:P i with
    |false=>rfl
    |true=>rw[mono _ i (by lia) k2 q]at this;cases this
   .lia
 |false=>
  rw[if_neg cL];refine aQ (sP (nQ (I:=λ x c a=>a=st/\∃l o,c=(none,l,o)/\l<o/\x<o/\l<=t/\P (t-l)=false)
   (Q:=λ c a=>a=st/\∃l o,c=(none,l,o)/\l<o/\l<=t/\P (t-l)=false/\(o<=t->P (t-o)=true)) ?_ ?_ ⟨rfl,0,1,rfl,il _,il _,Bd,y⟩) ?_)
  .rintro x c a _ B ⟨rfl,l,o,rfl,d,u,b,g⟩
   cb_eq;by_cases f:o ≥ t+1
   .rw[if_pos f]
    exact cI ⟨rfl,l,o,rfl,d,b,g,λ z=>by lia⟩
   .rw[if_neg f]
    refine aQ (m (t-o) (LL p) _ ?_);cb_eq;cases q:P (t-o)with
    |true=>
     rw[if_pos rfl];exact cI ⟨rfl,l,o,rfl,d,b,g,λ _=>q⟩
    |false=>
     rw[if_neg cL];exact cI ⟨rfl,o,2*o+1,rfl,by lia,by lia,by lia,q⟩
  .rintro c a ⟨rfl,l,o,rfl,d,u,b,g⟩
   exact⟨rfl,l,o,rfl,d,b,g,λ z=>by lia⟩
  .rintro c a ⟨rfl,l,o,rfl,d,b,g,v⟩
   cb_eq;refine aQ (OX (ask:=λ i=>Co left e r (base+i)) (n:=n) m mono (by omega) (by grind) (λ i C=>?_) (λ i k1 k2=>?_) λ k k1 k2 k3=>cI (h k k1 k2 k3))
   .by_cases f:o<=t
    .exact mono i _ (by grind) (LL p) (v f)
    .omega
   .cases q:P i with
    |false=>rfl
    |true=>rw[mono _ i (by omega) k2 q]at g;cases g
end
structure gV{β:Type}(r:β->β->Prop)(T out ra rb:List β):Prop where
 pm:(out++(ra++rb)).Perm T
 so:out.Pairwise r
 lo:∀x∈out,∀y∈ra++rb,r x y
 sa:ra.Pairwise r
 sb:rb.Pairwise r
section
variable{β:Type}{r:β->β->Prop}{T u a b L:List β}
def gV.ta(m:gV r T u (L++a) b)(h:∀x∈L,∀y∈b,r x y):gV r T (u++L) a b:=by
 obtain⟨s,s2,s3⟩:=lN.mp m.sa;refine⟨by have:=m.pm;simp_all,lN.mpr ⟨m.so,s,λ x c y d=>m.lo x c y (by simp_all)⟩,λ x c y d=>?_,s2,m.sb⟩;rcases cu.mp c with c|c
 .exact m.lo x c y (by simp_all)
 .rcases cu.mp d with d|d<;>simp_all
def gV.flip(m:gV r T u a b):gV r T u b a:=
 ⟨(xq.append_left _).trans m.pm,m.so,λ x h y c=>m.lo x h y (by grind),m.sb,m.sa⟩
def gV.tb(m:gV r T u a (L++b))(h:∀x∈L,∀y∈a,r x y):gV r T (u++L) a b:=(m.flip.ta h).flip
def jI(r:β->β->Prop)(T o:List β):Prop:=o.Perm T/\o.Pairwise r
def gV.ea(m:gV r T u a []):jI r T (u++a):=by
 have:=m.pm
 rw[fo]at this;exact⟨this,lN.mpr ⟨m.so,m.sa,λ x h y b=>m.lo x h y (by simp_all)⟩⟩
def gV.eb(m:gV r T u [] b):jI r T (u++b):=m.flip.ea
def gV.el(m:gV r T u [z] b)(h:∀y∈b,r y z):jI r T (u++b++[z]):=by
 have a:=gV.tb (by rw[fo];assumption) λ x c y d=>by simp_all
 have:=a.ea
 assumption
end
structure fh(prog:aR)(w:World)(A:aS)(s:ao)(κ:jV)(O:fN)(kf:Keyed->O.α)(G:Keyed->Prop):Prop where
 lt:∀x y,G x->G y->∀C:Bool->ao->Prop,C (O.blt (kf x) (kf y)) s->wpAny (model prog w) A (keyLt' κ x.1 y.1) C (λ _ _=>False) s
structure gi(st st':aK):Prop where
 k:cM st'=cM st
 a:arrOf st'=arrOf st
 p:cY st'=cY st
 f:iX st'=iX st
def gi.refl(st:aK):gi st st:=⟨rfl,rfl,rfl,rfl⟩
theorem gi.trans{st t s:aK}(h:gi st t)(k:gi t s):gi st s:=⟨k.k.trans h.k,k.a.trans h.a,k.p.trans h.p,k.f.trans h.f⟩
def Cp:Nat->StateT SortSt Sem Unit:=sortPriv%PySem.Builtin.setMinGallop
section
variable{prog:aR}{w:World}{A:aS}{E:Value->ao->Prop}{s:ao}{κ:jV}{O:fN}{kf:Keyed->O.α}{G:Keyed->Prop}
def yS{st:aK}{x y:Keyed}{Q:Option Bool->aK->Prop}(c:fh prog w A s κ O kf G)(k:cM st=κ)(g:G x)(a:G y)(h:Q (some (O.blt (kf x) (kf y))) st):wpS (model prog w) A E s (lt' x y) Q st:=by
 rw[lt'_eq];refine aQ (nV ?_);rw[k];refine aQ (u1 (u6 ?_));refine iq (c.lt x y g a (λ b s'=>s'=s/\b=O.blt _ _) ⟨rfl,rfl⟩) (λ b s' e=>⟨e.1,?_⟩) λ _ _ e=>e.elim
 rw[e.2];exact cI h
def gJ{a:Array Keyed}{i:Nat}{x:Keyed}{st:aK}{Q:Keyed->aK->Prop}(h:a[i]? =some x)(q:Q x st):wpS (model prog w) A E s (elem' a i) Q st:=by
 rw[elem'_eq,h];exact cI q
def Gz{g:Nat}{st:aK}{Q:Unit->aK->Prop}(q:∀t,gi st t->Q () t):wpS (model prog w) A E s (Cp g) Q st:=sO (q _ ⟨rfl,rfl,rfl,rfl⟩)
def Ya(c:fh prog w A s κ O kf G){left:Bool}{k x:Keyed}{a:Array Keyed}{i:Nat}{st:aK}{R:Option Bool->aK->Prop}(b:cM st=κ)(g:G k)(e:a[i]? =some x)(d:G x)
  (h:R (some (if left=true then O.blt (kf x) (kf k)else !O.blt (kf k) (kf x))) st):wpS (model prog w) A E s (Co left k a i) R st:=by
 refine aQ (gJ e ?_);cases left with
 |true=>exact yS c b d g h
 |false=>
  exact aQ (yS c b g d (cI h))
def wc(c:fh prog w A s κ O kf G){left:Bool}{a:Keyed}{r:Array Keyed}{base n t:Nat}{st:aK}{Q:Option Nat->aK->Prop}(u:cM st=κ)(v:G a)(L:List Keyed)(z:∀i,i<n->r[base+i]? =L[i]?)(H:n=L.length)
  (bG:∀x∈L,G x)(B:L.Pairwise λ x y=>O.kle (kf x) (kf y))(C:t<n)
  (h:∀k,k<=n->(∀x∈L.take k,(if left=true then O.klt (kf x) (kf a)else O.kle (kf x) (kf a)))->(∀x∈L.drop k,(if left=true then O.kle (kf a) (kf x)else O.klt (kf a) (kf x)))->Q (some k) st):
  wpS (model prog w) A E s (wb left a r base n t) Q st:=by
 have D:∀i (d:i<n),r[base+i]? =some (L[i]'(by simp_all)):=λ i d=>by rw[z i d,en (by simp_all)]
 have I:∀i j (b:i<=j) (f:j<n),O.kle (kf (L[i]'(by lia))) (kf (L[j]'(by simp_all))):=λ i j b f=>by
  by_cases e:i=j
  .subst e;exact qH _
  .exact nK.mp B i j _ _ (Tg b e)
 refine X9 (P:=λ i=>if h:i<L.length then(if left=true then O.blt (kf L[i]) (kf a)else !O.blt (kf a) (kf L[i]))else false) (λ i d R o=>Ya c u v (D i d) (bG _ (lO _)) ?_) (λ i j b f p=>?_) C λ k g l F=>h k g (λ x m=>?_) λ x m=>?_
 .rw[dif_pos (by simp_all)]at o
  exact o
 .rw[dif_pos (by lia)]at p ⊢
  have q:=I i j b f;cases left with
  |true=>rw[if_pos rfl]at p ⊢;exact KeyOrd.klt_of_kle_of_klt q p
  |false=>
   rw[if_neg cL]at p ⊢;have g:O.kle (kf (L[j]'(by lia))) (kf a):=by simpa[DS]using p
   have l:=ip q g;simpa[DS]using l
 .obtain⟨i,d,e⟩:=qx m
  rw[eY]at d;rw[sE]at e
  have:=l i (by simp_all)
  rw[dif_pos (by grind),e]at this;cases left with
  |true=>rw[if_pos rfl]at this ⊢;exact this
  |false=>rw[if_neg cL]at this ⊢;simpa[DS]using this
 .obtain⟨i,d,e⟩:=qx m
  rw[iJ]at d;rw[Dt]at e
  have:=F (k+i) (tE) (by grind)
  rw[dif_pos (by grind),e]at this;cases left with
  |true=>rw[if_pos rfl]at this ⊢;exact this
  |false=>rw[if_neg cL]at this ⊢;simpa[KeyOrd.klt]using this
end
def we(a:Array Keyed)(i j:Nat):(a.extract i j).toList=(a.toList.drop i).take (j-i):=by simp_all
def wh(a:Array Keyed)(i:Nat):(a.extract i a.size).toList=a.toList.drop i:=by
 rw[we,iI (by simp_all)]
def OY(l:List Keyed)(i k:Nat):l.drop i=(l.drop i).take k++l.drop (i+k):=by
 rw[<-xw,gO]
def yT{a:Array Keyed}{i:Nat}(h:i<a.size):a.toList.drop i=a[i]::a.toList.drop (i+1):=sx _
def OZ{a:Array Keyed}{i:Nat}(h:i+1=a.size):a.toList.drop i=[a[i]'(yh h)]:=by
 rw[yT _,zZ (by simp_all)]
abbrev wm(X:Type):=StateT aK Sem (ForInStep (Option (Array Keyed)×X))
structure gK{X:Type}(p:Prop)(F:Array Keyed->Prop)(g:Nat->X->Prop)(n:Nat)(st:aK)(Q:ForInStep (Option (Array Keyed)×X)->aK->Prop):Prop where
 ret:∀o x st',gi st st'->F o->Q (.done (some o,x)) st'
 on:∀x st',gi st st'->g (n+1) x->Q (.yield (none,x)) st'
 off:p->∀x st',gi st st'->g (n+1) x->Q (.done (none,x)) st'
section
variable{M:Model}{A:aS}{E:Value->ao->Prop}{s:ao}{X:Type}{F:Array Keyed->Prop}{g:Nat->X->Prop}{n i j N:Nat}{o:Array Keyed}{x:X}{st a:aK}{κ:jV}{p:Prop}
def gK.eg{Q:ForInStep (Option (Array Keyed)×X)->aK->Prop}(t:gK p F g n st Q)(h:gi st a):gK p F g n a Q:=
 ⟨λ o x s e f=>t.ret o x _ (h.trans e) f,λ x s e=>t.on x _ (h.trans e),λ q x s e=>t.off q x _ (h.trans e)⟩
def yU{α:Type}{m m':StateT aK Sem α}{Q:α->aK->Prop}(h:i=j->wpS M A E s m Q st)(a:i≠j->wpS M A E s m' Q st):wpS M A E s (if (i==j)=true then m else m') Q st:=by
 by_cases c:i=j
 .rw[if_pos (beq_iff_eq.mpr c)];exact h c
 .rw[if_neg λ z=>c (beq_iff_eq.mp z)];exact a c
def pU{Q:ForInStep (Option (Array Keyed)×X)->aK->Prop}{m:wm X}(t:gK p F g n st Q)(h:i=j->F o)(a:i≠j->wpS M A E s m Q st):wpS M A E s (if (i==j)=true then pure (.done (some o,x))else m) Q st:=
 yU (λ c=>cI (t.ret _ _ _ (gi.refl st) (h c))) a
def wo{Q:ForInStep (Option (Array Keyed)×X)->aK->Prop}{q:Prop}[Decidable q](t:gK True F g n st Q)(a:i=j->F o)(h:i≠j->g (n+1) x):
  wpS M A E s (if (i==j)=true then pure (.done (some o,x))else if q then pure (.done (none,x))else pure (.yield (none,x))) Q st:=
 pU t a λ c=>by
  split
  .exact cI (t.off trivial x st (gi.refl st) (h c))
  .exact cI (t.on x st (gi.refl st) (h c))
def Cq{f:Nat->Option (Array Keyed)×X->wm X}{Q:Option (Array Keyed)×X->aK->Prop}(l:∀m x,g m x->m<N)(hf:∀i m x a Q,cM a=κ->g m x->gK p F g m a Q->wpS M A E s (f i (none,x)) Q a)(k:cM st=κ)(u:g n x)
  (v:∀o x t,gi st t->F o->Q (some o,x) t)(w:p->∀x t,gi st t->g (n+1) x->Q (none,x) t)(mono:∀m m' x,m'<=m->g m x->g m' x):wpS M A E s (forIn [0:N] (none,x) f) Q st:=by
 refine nQ (I:=λ i c t=>gi st t/\c.1=none/\g (n+i) c.2) ?_ ?_ ⟨gi.refl st,rfl,u⟩
 .intro i c t _ _ ⟨e,j,h⟩
  obtain⟨r,x⟩:=c;cases j;exact hf i _ x t _ (e.k.trans k) h ⟨λ o x b d h=>v o x b (e.trans d) h,λ x b d h=>⟨e.trans d,rfl,h⟩,λ q x b d h=>w q x b (e.trans d) (mono _ _ x (by simp) h)⟩
 .intro c t ⟨e,j,h⟩
  have:=l _ _ h
  lia
end
section
variable{prog:aR}{w:World}{A:aS}{E:Value->ao->Prop}{s:ao}{κ:jV}{O:fN}{kf:Keyed->O.α}{G:Keyed->Prop}{T:List Keyed}{a b u:Array Keyed}{d f mg j g k n:Nat}{st:aK}
structure pW(O:fN)(kf:Keyed->O.α)(G:Keyed->Prop)(a b:Array Keyed):Prop where
 ga:∀x∈a.toList,G x
 gb:∀x∈b.toList,G x
 la:∀i (h:i+1=a.size),∀y∈b.toList,O.klt (kf y) (kf (a[i]'(yh h)))
abbrev cc(O:fN)(kf:Keyed->O.α)(x y:Keyed):Prop:=O.kle (kf x) (kf y)
abbrev dS(O:fN)(kf:Keyed->O.α)(T:List Keyed)(a b u:Array Keyed)(d f:Nat):Prop:=gV (cc O kf) T u.toList (a.toList.drop d) (b.toList.drop f)
def dS.pa(m:dS O kf T a b u d f)(h:d<a.size)(l:∀y∈b.toList.drop f,O.kle (kf a[d]) (kf y)):dS O kf T a b (u.push a[d]) (d+1) f:=by
 unfold dS at m ⊢;rw[yT h]at m;rw[su];exact gV.ta (L:=[a[d]]) m λ x c y e=>by rw[kj.mp c];exact l y e
def dS.pb(m:dS O kf T a b u d f)(h:f<b.size)(l:∀y∈a.toList.drop d,O.kle (kf b[f]) (kf y)):dS O kf T a b (u.push b[f]) d (f+1):=by
 unfold dS at m ⊢;rw[yT h]at m;rw[su];exact gV.tb (L:=[b[f]]) m λ x c y e=>by rw[kj.mp c];exact l y e
def Cr{r:Keyed->Keyed->Prop}(f:∀x,r x x){L:List Keyed}(h:L.Pairwise r)(e:L=x::R):∀y∈L,r x y:=by
 subst e;intro y a;rcases bI.mp a with rfl|a
 .exact f _
 .exact(gQ.mp h).1 y a
def dS.la(m:dS O kf T a b u d f)(h:d<a.size):∀y∈a.toList.drop d,O.kle (kf a[d]) (kf y):=Cr (λ _=>qH _) m.sa (yT h)
def dS.lb(m:dS O kf T a b u d f)(h:f<b.size):∀y∈b.toList.drop f,O.kle (kf b[f]) (kf y):=Cr (λ _=>qH _) m.sb (yT h)
def dS.enB{q:Nat}(h:q=b.size)(m:dS O kf T a b u d q):jI (cc O kf) T (u++a.extract d a.size++b.extract q b.size).toList:=by
 unfold dS at m;have hz:b.toList.drop q=[]:=zZ (by simp[h]);rw[hz]at m;rw[kO,kO,wh,wh,hz,fo];exact m.ea
def dS.enA{q:Nat}(h:q=a.size)(m:dS O kf T a b u q f):jI (cc O kf) T (u++a.extract q a.size++b.extract f b.size).toList:=by
 unfold dS at m;have hz:a.toList.drop q=[]:=zZ (by simp[h]);rw[hz]at m;rw[kO,kO,wh,wh,hz,fo];exact m.eb
def dS.enL{q:Nat}(B:pW O kf G a b)(h:q+1=a.size)(m:dS O kf T a b u q f):jI (cc O kf) T (u++b.extract f b.size++a.extract q a.size).toList:=by
 unfold dS at m;rw[OZ h]at m;rw[kO,kO,wh,wh,OZ h];exact m.el λ y c=>jW (B.la _ h y (oU c))
structure iR(O:fN)(kf:Keyed->O.α)(T:List Keyed)(a b:Array Keyed)(n:Nat)(u:Array Keyed)(d f:Nat):Prop where
 m:dS O kf T a b u d f
 h1:d+1<a.size
 h2:f<b.size
 h3:n<d+f
def iR.bd(L:iR O kf T a b n u d f):n<a.size+b.size:=by have:=L.h1;have:=L.h2;have:=L.h3;lia
def iR.mo{m:Nat}(h:m<=n)(L:iR O kf T a b n u d f):iR O kf T a b m u d f:=⟨L.m,L.h1,L.h2,by have:=L.h3;lia⟩
abbrev bG{γ:Type}(O:fN)(kf:Keyed->O.α)(T:List Keyed)(a b:Array Keyed)(n:Nat)(x:Array Keyed×Nat×Nat×γ):Prop:=iR O kf T a b n x.1 x.2.1 x.2.2.1
abbrev O0:=Array Keyed×Nat×Nat×Nat×Nat×Nat
abbrev jM(O:fN)(kf:Keyed->O.α)(T:List Keyed)(o:Array Keyed):Prop:=jI (cc O kf) T o.toList
abbrev wq:=StateT aK Sem (ForInStep (Option (Array Keyed)×O0))
def GA(a b u:Array Keyed)(d f mg j g:Nat):wq:=elem' a d>>=λ x=>if (d+1+1==a.size)=true then pure (.done (some (u.push x++b.extract f b.size++a.extract (d+1) a.size),u.push x,d+1,f,mg,j,g))
 else if (decide (j<7)&&decide (g<7))=true then pure (.done (none,u.push x,d+1,f,mg,j,g))else pure (.yield (none,u.push x,d+1,f,mg,j,g))
def GB(a b u:Array Keyed)(d f mg j k:Nat):wq:=if k>0 then(if (f+k==b.size)=true then pure (.done (some (u++b.extract f (f+k)++a.extract d a.size++b.extract (f+k) b.size),u++b.extract f (f+k),d,f+k,mg,j,k))
 else GA a b (u++b.extract f (f+k)) d (f+k) mg j k)else GA a b u d f mg j k
def O1(a b u:Array Keyed)(d f mg j g:Nat):wq:=elem' a d>>=λ x=>wb true x b f (b.size-f) 0>>=λ r=>match r with
 |some k=>GB a b u d f mg j k
 |_=>pure (.done (some (u++a.extract d a.size++b.extract f b.size),u,d,f,mg,j,g))
def GC(a b u:Array Keyed)(d f mg j g:Nat):wq:=elem' b f>>=λ x=>if (f+1==b.size)=true then pure (.done (some (u.push x++a.extract d a.size++b.extract (f+1) b.size),u.push x,d,f+1,mg,j,g))else O1 a b (u.push x) d (f+1) mg j g
def GD(a b u:Array Keyed)(d f mg k g:Nat):wq:=if k>0 then(if (d+k+1==a.size)=true then pure (.done (some (u++a.extract d (d+k)++b.extract f b.size++a.extract (d+k) a.size),u++a.extract d (d+k),d+k,f,mg,k,g))
 else if (d+k==a.size)=true then pure (.done (some (u++a.extract d (d+k)++a.extract (d+k) a.size++b.extract f b.size),u++a.extract d (d+k),d+k,f,mg,k,g))else GC a b (u++a.extract d (d+k)) (d+k) f mg k g)else GC a b u d f mg k g
def GE(a b u:Array Keyed)(d f mg j g:Nat):wq:=Cp mg>>=λ _=>elem' b f>>=λ x=>wb false x a d (a.size-d) 0>>=λ r=>match r with
 |some k=>GD a b u d f mg k g
 |_=>pure (.done (some (u++a.extract d a.size++b.extract f b.size),u,d,f,mg,j,g))
variable{Q:ForInStep (Option (Array Keyed)×O0)->aK->Prop}
def O2(B:pW O kf G a b)(t:gK True (jM O kf T) (bG O kf T a b) n st Q)(L:iR O kf T a b n u d f)(l:∀y∈b.toList.drop f,O.kle (kf (a[d]'(by have:=L.h1;exact mZ this))) (kf y)):wpS (model prog w) A E s (GA a b u d f mg j g) Q st:=by
 obtain⟨m,h,i,k⟩:=L;have e:=m.pa (mZ h) l;exact aQ (gJ (gj (mZ h)) (wo t (λ z=>dS.enL B z e) λ c=>⟨e,by lia,i,by lia⟩))
def Yb(B:pW O kf G a b)(t:gK True (jM O kf T) (bG O kf T a b) n st Q)(L:iR O kf T a b n u d f)(r:k<=b.size-f)(l:∀y∈(b.toList.drop f).take k,O.klt (kf y) (kf (a[d]'(by have:=L.h1;exact mZ this))))(h:∀y∈(b.toList.drop f).drop k,O.kle (kf (a[d]'(by have:=L.h1;exact mZ this))) (kf y)):
  wpS (model prog w) A E s (GB a b u d f mg j k) Q st:=by
 unfold GB;rw[xw]at h;obtain⟨m,c,i,o⟩:=L;by_cases e:k>0
 .rw[if_pos e]
  have g:dS O kf T a b (u++b.extract f (f+k)) d (f+k):=by
   have la:=m.la (mZ c);unfold dS at m ⊢;rw[OY b.toList f k]at m;rw[kO,we,o9];exact m.tb λ x p y q=>ip (jW (l x p)) (la y q)
  exact pU t (λ z=>dS.enB z g) λ c1=>O2 B t ⟨g,c,by grind,by lia⟩ h
 .rw[if_neg e]
  have:k=0:=by simp_all
  subst this;exact O2 B t ⟨m,c,i,o⟩ h
def Yc(c:fh prog w A s κ O kf G)(h:cM st=κ)(B:pW O kf G a b)(t:gK True (jM O kf T) (bG O kf T a b) n st Q)(L:iR O kf T a b n u d f):wpS (model prog w) A E s (O1 a b u d f mg j g) Q st:=by
 have e:=L.h1;have m:=L.h2;exact aQ (gJ (gj (mZ e)) (aQ (wc c h (B.ga _ (by simp)) _ (λ i o=>by simp) (by simp) (λ x l=>B.gb x (oU l)) L.m.sb (by lia) λ k k1 k2 k3=>Yb B t L k1 k2 k3)))
def O3(c:fh prog w A s κ O kf G)(h:cM st=κ)(B:pW O kf G a b)(t:gK True (jM O kf T) (bG O kf T a b) n st Q)(L:iR O kf T a b n u d f)(l:∀y∈a.toList.drop d,O.klt (kf (b[f]'L.h2)) (kf y)):wpS (model prog w) A E s (GC a b u d f mg j g) Q st:=by
 obtain⟨m,k,e,p⟩:=L;have i:=m.pb e λ y o=>jW (l y o)
 exact aQ (gJ (gj e) (pU t (λ z=>dS.enB z i) λ c1=>Yc c h B t ⟨i,k,by lia,by lia⟩))
def Yd(c:fh prog w A s κ O kf G)(h:cM st=κ)(B:pW O kf G a b)(t:gK True (jM O kf T) (bG O kf T a b) n st Q)(L:iR O kf T a b n u d f)(C:k<=a.size-d)
  (l:∀y∈(a.toList.drop d).take k,O.kle (kf y) (kf (b[f]'L.h2)))(r:∀y∈(a.toList.drop d).drop k,O.klt (kf (b[f]'L.h2)) (kf y)):wpS (model prog w) A E s (GD a b u d f mg k g) Q st:=by
 unfold GD;rw[xw]at r;obtain⟨m,o,e,p⟩:=L;by_cases j:k>0
 .rw[if_pos j]
  have i:dS O kf T a b (u++a.extract d (d+k)) (d+k) f:=by
   have lb:=m.lb e;unfold dS at m ⊢;rw[OY a.toList d k]at m;rw[kO,we,o9];exact m.ta λ x q y v=>ip (l x q) (lb y v)
  exact pU t (λ z=>dS.enL B z i) λ c1=>pU t (λ z=>dS.enA z i) λ c2=>O3 c h B t ⟨i,by lia,e,by lia⟩ r
 .rw[if_neg j]
  have:k=0:=by simp_all
  subst this;exact O3 c h B t ⟨m,o,e,p⟩ r
def O4(c:fh prog w A s κ O kf G)(h:cM st=κ)(B:pW O kf G a b)(t:gK True (jM O kf T) (bG O kf T a b) n st Q)(L:iR O kf T a b n u d f):wpS (model prog w) A E s (GE a b u d f mg j g) Q st:=by
 have o:=L.h1;exact aQ (Gz λ l e=>aQ (gJ (gj L.h2) (aQ (wc c (e.k.trans h) (B.gb _ (by simp)) _ (λ i p=>by simp) (by simp) (λ x m=>B.ga x (oU m)) L.m.sa (by lia) λ k k1 k2 k3=>Yd c (e.k.trans h) B (t.eg e) L k1 k2 k3))))
end
def O5:Array Keyed->Array Keyed->StateT SortSt Sem (Array Keyed):=sortPriv%PySem.Builtin.mergeLo
abbrev O6:=Array Keyed×Nat×Nat×Nat×Nat
abbrev Ye:=StateT aK Sem (ForInStep (Option (Array Keyed)×O6))
def O7(a b o:Array Keyed)(i c d e mg:Nat):Ye:=elem' b c>>=λ y=>elem' a i>>=λ x=>lt' y x>>=λ r=>match r with
 |some t=>if t=true then elem' b c>>=λ x=>if (c+1==b.size)=true then pure (.done (some (o.push x++a.extract i a.size++b.extract (c+1) b.size),o.push x,i,c+1,0,e+1))
   else if e+1 ≥ mg then pure (.done (none,o.push x,i,c+1,0,e+1))else pure (.yield (none,o.push x,i,c+1,0,e+1))
  else elem' a i>>=λ x=>if (i+1+1==a.size)=true then pure (.done (some (o.push x++b.extract c b.size++a.extract (i+1) a.size),o.push x,i+1,c,d+1,0))
   else if d+1 ≥ mg then pure (.done (none,o.push x,i+1,c,d+1,0))else pure (.yield (none,o.push x,i+1,c,d+1,0))
 |_=>pure (.done (some (o++a.extract i a.size++b.extract c b.size),o,i,c,d,e))
section
variable{prog:aR}{w:World}{A:aS}{E:Value->ao->Prop}{s:ao}{κ:jV}{O:fN}{kf:Keyed->O.α}{G:Keyed->Prop}{T:List Keyed}{a b u:Array Keyed}{v C mg l j n:Nat}{st:aK}
def Yf{Q:ForInStep (Option (Array Keyed)×O6)->aK->Prop}(c:fh prog w A s κ O kf G)(g:cM st=κ)(B:pW O kf G a b)(t:gK True (jM O kf T) (bG O kf T a b) n st Q)(L:iR O kf T a b n u v C):wpS (model prog w) A E s (O7 a b u v C l j mg) Q st:=by
 obtain⟨m,h,f,o⟩:=L;have k:=gj f;have ha:=gj (show v<a.size by exact mZ h);have la:=m.la (mZ h);have lb:=m.lb f;refine aQ (gJ k (aQ (gJ ha (aQ (yS c g (B.gb _ (by simp)) (B.ga _ (by simp)) ?_)))));cb_eq;cases d:O.blt (kf b[C]) (kf (a[v]'(mZ h)))with
 |true=>
  have e:=m.pb f λ y i=>ip (jW d) (la y i)
  exact aQ (gJ k (wo t (λ z=>dS.enB z e) λ _=>⟨e,h,by lia,by lia⟩))
 |false=>
  have e:=m.pa (mZ h) λ y i=>ip d (lb y i)
  exact aQ (gJ ha (wo t (λ z=>dS.enL B z e) λ _=>⟨e,by lia,f,by lia⟩))
def O8{F:Array Keyed->Prop}{N:Nat}{α β δ:Type}{g:Nat->α->β->δ->Prop}{Q:ForInStep (Option (Array Keyed)×α×β×δ×Nat)->aK->Prop}{x:α×β×δ×Nat}{fA:Option (Array Keyed)×α×β×δ×Nat×Nat->wm (α×β×δ×Nat×Nat)}{fB:Option (Array Keyed)×α×β×δ×Nat×Nat×Nat->wm (α×β×δ×Nat×Nat×Nat)}
  {K:Option (Array Keyed)×α×β×δ×Nat×Nat->wm (α×β×δ×Nat)}{f:Option (Array Keyed)×α×β×δ×Nat×Nat×Nat->wm (α×β×δ×Nat)}(bd:∀{n p q r},g n p q r->n<N)(mo:∀{m n p q r},m<=n->g n p q r->g m p q r)
  (y:∀m p q r l j a Q,cM a=κ->g m p q r->gK True F (λ n x=>g n x.1 x.2.1 x.2.2.1) m a Q->wpS (model prog w) A E s (fA (none,p,q,r,l,j)) Q a)(B:∀m p q r mg l j a Q,cM a=κ->g m p q r->gK True F (λ n x=>g n x.1 x.2.1 x.2.2.1) m a Q->wpS (model prog w) A E s (fB (none,p,q,r,mg,l,j)) Q a)
  (b:cM st=κ)(t:gK False F (λ n x=>g n x.1 x.2.1 x.2.2.1) n st Q)(L:g n x.1 x.2.1 x.2.2.1)
  (z:∀r d,K (some r,d)=(pure (.done (some r,d.1,d.2.1,d.2.2.1,x.2.2.2)):StateT aK Sem _))(C:∀d,K (none,d)=(liftM (rule "list.sort.gallop")>>=λ _=>forIn [0:N] (none,d.1,d.2.1,d.2.2.1,x.2.2.2+1,d.2.2.2.1,d.2.2.2.2) (λ _ c=>fB c)>>=f:StateT aK Sem _))
  (D:∀r d,f (some r,d)=(pure (.done (some r,d.1,d.2.1,d.2.2.1,d.2.2.2.1)):StateT aK Sem _))(G:∀d,f (none,d)=(Cp (d.2.2.2.1+1)>>=λ _=>pure (.yield (none,d.1,d.2.1,d.2.2.1,d.2.2.2.1+1)):StateT aK Sem _)):
  wpS (model prog w) A E s (forIn [0:N] (none,x.1,x.2.1,x.2.2.1,0,0) (λ _ d=>fA d)>>=K:StateT aK Sem _) Q st:=by
 refine aQ (Cq (p:=True) (g:=λ n x=>g n x.1 x.2.1 x.2.2.1) (F:=F) (λ m x=>bd) (λ i m x a Q k h t=>y m _ _ _ _ _ a Q k h t) b L (λ o x a e h=>?_) (λ _ x a e h=>?_) λ m m' x=>mo)
 .rw[z]
  exact cI (t.ret _ _ _ e h)
 rw[C];refine aQ (u1 (mQ ⟨rfl,aQ (Cq (p:=True) (g:=λ n x=>g n x.1 x.2.1 x.2.2.1) (F:=F) (λ m x=>bd) (λ i m x a Q k h t=>B m _ _ _ _ _ _ a Q k h t) (e.k.trans b) (mo (pe n) h) (λ o x u v h=>?_) (λ _ x u v h=>?_) λ m m' x=>mo)⟩))
 .rw[D]
  exact cI (t.ret _ _ _ (e.trans v) h)
 .rw[G]
  exact aQ (Gz λ H I=>cI (t.on (x.1,x.2.1,x.2.2.1,_) _ ((e.trans v).trans I) h))
def Yg{Q:Array Keyed->aK->Prop}(c:fh prog w A s κ O kf G)(C:cM st=κ)(B:pW O kf G a b)(J:(a.toList++b.toList).Perm T)(K:a.toList.Pairwise (cc O kf))(L:b.toList.Pairwise (cc O kf))(ha:0<a.size)(H:0<b.size)(hf:O.klt (kf b[0]) (kf a[0]))
  (h:∀o v,gi st v->jI (cc O kf) T o.toList->Q o v):wpS (model prog w) A E s (O5 a b) Q st:=by
 have I:dS O kf T a b #[] 0 0:=⟨by simpa using J,.nil,λ x M=>by simp at M,by simpa using K,by simpa using L⟩;have D:=I.pb H λ y N=>ip (jW hf) (I.la ha y N)
 refine aQ (u1 (mQ ⟨rfl,aQ (gJ (gj H) (yU (λ c1=>cI (h _ _ (gi.refl st) (dS.enB c1 D))) λ c1=>yU (λ c2=>cI (h _ _ (gi.refl st) (dS.enL B c2 D))) λ c2=>aQ (nV (aQ ?_))))⟩));refine Cq (p:=False) (g:=bG O kf T a b) (n:=0) (F:=jM O kf T) (λ m x h=>iR.bd h) (λ i m x u Q k h t=>O8 (fA:=λ d=>O7 a b d.2.1 d.2.2.1 d.2.2.2.1 d.2.2.2.2.1 d.2.2.2.2.2 x.2.2.2) (fB:=λ c=>if c.2.2.2.2.1>1 then GE a b c.2.1 c.2.2.1 c.2.2.2.1 (c.2.2.2.2.1-1) c.2.2.2.2.2.1 c.2.2.2.2.2.2 else GE a b c.2.1 c.2.2.1 c.2.2.2.1 c.2.2.2.2.1 c.2.2.2.2.2.1 c.2.2.2.2.2.2) (g:=iR O kf T a b) iR.bd iR.mo
  (λ m p q r l j u Q k h t=>Yf c k B t h) (λ m p q r mg l j u Q k h t=>?_) k t h (λ _ _=>rfl) (λ _=>rfl) (λ _ _=>rfl) λ _=>rfl) C ⟨D,by lia,by lia,il _⟩ (λ o x u e f=>cI (h o u e f)) (λ z=>z.elim) λ m m' x=>iR.mo
 cb_eq;split
 .exact O4 c k B t h
 .exact O4 c k B t h
end
def O9(a:Array Keyed)(j n:Nat):(a.extract j n).reverse.toList=((a.toList.take n).drop j).reverse:=by
 rw[Array.toList_reverse,we,List.drop_take]
def Pa(l:List Keyed){j n:Nat}(h:j<=n):(l.take n).reverse=((l.take n).drop j).reverse++(l.take j).reverse:=by
 rw[<-JF]
 conv=>lhs;rw[<-gO j (l.take n)]
 rw[xx,qD h]
def yV{a:Array Keyed}{n:Nat}(b:0<n)(h:n<=a.size):(a.toList.take n).reverse=(a[n-1]'(mY b h))::(a.toList.take (n-1)).reverse:=by
 have e:n=(n-1)+1:=by lia
 conv=>lhs;rw[e]
 rw[Dk _,JF];rfl
abbrev Pb:=Nat×Nat×Array Keyed×Nat×Nat×Nat
abbrev wt:=StateT aK Sem (ForInStep (Option (Array Keyed)×Pb))
def GF(a b o:Array Keyed)(n c mg d e:Nat):wt:=elem' a (n-1)>>=λ x=>if (n-1==0)=true then pure (.done (some (a.extract 0 (n-1)++b.extract 0 c++(o.push x).reverse),n-1,c,o.push x,mg,d,e))
 else if (decide (d<7)&&decide (e<7))=true then pure (.done (none,n-1,c,o.push x,mg,d,e))else pure (.yield (none,n-1,c,o.push x,mg,d,e))
def GG(a b o:Array Keyed)(c n mg d j:Nat):wt:=if n-j>0 then(if (j==1)=true then pure (.done (some (b.extract 0 j++a.extract 0 c++(o++(b.extract j n).reverse).reverse),c,j,o++(b.extract j n).reverse,mg,d,n-j))
 else if (j==0)=true then pure (.done (some (a.extract 0 c++b.extract 0 j++(o++(b.extract j n).reverse).reverse),c,j,o++(b.extract j n).reverse,mg,d,n-j))else GF a b (o++(b.extract j n).reverse) c j mg d (n-j))else GF a b o c n mg d (n-j)
def Pc(a b o:Array Keyed)(c n mg d e:Nat):wt:=elem' a (c-1)>>=λ x=>wb true x b 0 n (n-1)>>=λ r=>match r with
 |some j=>GG a b o c n mg d j
 |_=>pure (.done (some (a.extract 0 c++b.extract 0 n++o.reverse),c,n,o,mg,d,e))
def GH(a b o:Array Keyed)(c n mg d e:Nat):wt:=elem' b (n-1)>>=λ x=>if (n-1==1)=true then pure (.done (some (b.extract 0 (n-1)++a.extract 0 c++(o.push x).reverse),c,n-1,o.push x,mg,d,e))else Pc a b (o.push x) c (n-1) mg d e
def GI(a b o:Array Keyed)(n c mg j d:Nat):wt:=if n-j>0 then(if (j==0)=true then pure (.done (some (a.extract 0 j++b.extract 0 c++(o++(a.extract j n).reverse).reverse),j,c,o++(a.extract j n).reverse,mg,n-j,d))else GH a b (o++(a.extract j n).reverse) j c mg (n-j) d)else GH a b o n c mg (n-j) d
def GJ(a b o:Array Keyed)(n c mg e d:Nat):wt:=Cp mg>>=λ _=>elem' b (c-1)>>=λ x=>wb false x a 0 n (n-1)>>=λ r=>match r with
 |some j=>GI a b o n c mg j d
 |_=>pure (.done (some (a.extract 0 n++b.extract 0 c++o.reverse),n,c,o,mg,e,d))
section
variable{prog:aR}{w:World}{A:aS}{E:Value->ao->Prop}{s:ao}{κ:jV}{O:fN}{kf:Keyed->O.α}{G:Keyed->Prop}{T:List Keyed}{a b o:Array Keyed}{d f mg p g j n:Nat}{st:aK}
abbrev lA(O:fN)(kf:Keyed->O.α)(x y:Keyed):Prop:=O.kle (kf y) (kf x)
abbrev dX(O:fN)(kf:Keyed->O.α)(T:List Keyed)(a b o:Array Keyed)(d f:Nat):Prop:=gV (lA O kf) T o.toList (a.toList.take d).reverse (b.toList.take f).reverse
def jI.rev{l:List Keyed}(h:jI (lA O kf) T l):jI (cc O kf) T l.reverse:=⟨(z8 l).trans h.1,uT.mpr h.2⟩
def dX.enA{n:Nat}(h:n=0)(m:dX O kf T a b o n f):jI (cc O kf) T (a.extract 0 n++b.extract 0 f++o.reverse).toList:=by
 subst h
 have:=m.eb.rev
 simp_all
def dX.enB{n:Nat}(h:n=0)(m:dX O kf T a b o d n):jI (cc O kf) T (a.extract 0 d++b.extract 0 n++o.reverse).toList:=by
 subst h
 have:=m.ea.rev
 simp_all
def dX.enF{n:Nat}(h:0<b.size)(f:∀x∈a.toList,O.kle (kf b[0]) (kf x))(c:n=1)(m:dX O kf T a b o d n):jI (cc O kf) T (b.extract 0 n++a.extract 0 d++o.reverse).toList:=by
 subst c;have e:(b.toList.take 1).reverse=[b[0]]:=by rw[yV (by decide) h];rfl
 unfold dX at m;rw[e]at m
 have:=(m.flip.el λ y g=>f y (kP (lQ.mp g))).rev
 simp_all
structure rU(O:fN)(kf:Keyed->O.α)(G:Keyed->Prop)(a b:Array Keyed):Prop where
 ga:∀x∈a.toList,G x
 gb:∀x∈b.toList,G x
 b0:0<b.size
 fb:∀x∈a.toList,O.kle (kf b[0]) (kf x)
def dX.pa(m:dX O kf T a b o d f)(h:0<d)(c:d<=a.size)(l:∀y∈b.toList.take f,O.kle (kf y) (kf (a[d-1]'(mY h c)))):dX O kf T a b (o.push (a[d-1]'(mY h c))) (d-1) f:=by
 unfold dX at m ⊢;rw[yV h c]at m;rw[su];exact gV.ta m λ x e y g=>by rw[kj.mp e];exact l y (lQ.mp g)
def dX.pb(m:dX O kf T a b o d f)(h:0<f)(c:f<=b.size)(l:∀y∈a.toList.take d,O.kle (kf y) (kf (b[f-1]'(mY h c)))):dX O kf T a b (o.push (b[f-1]'(mY h c))) d (f-1):=by
 unfold dX at m ⊢;rw[yV h c]at m;rw[su];exact gV.tb m λ x e y g=>by rw[kj.mp e];exact l y (lQ.mp g)
def dX.la(m:dX O kf T a b o d f)(h:0<d)(c:d<=a.size):∀y∈a.toList.take d,O.kle (kf y) (kf (a[d-1]'(mY h c))):=λ y e=>Cr (λ _=>qH _) m.sa (yV h c) y (lQ.mpr e)
def dX.lb(m:dX O kf T a b o d f)(h:0<f)(c:f<=b.size):∀y∈b.toList.take f,O.kle (kf y) (kf (b[f-1]'(mY h c))):=λ y e=>Cr (λ _=>qH _) m.sb (yV h c) y (lQ.mpr e)
structure iS(O:fN)(kf:Keyed->O.α)(T:List Keyed)(a b:Array Keyed)(n:Nat)(d f:Nat)(o:Array Keyed):Prop where
 m:dX O kf T a b o d f
 h0:0<d
 h2:1<f
 h1:d<=a.size
 h3:f<=b.size
 h4:n+d+f<a.size+b.size
def iS.bd(L:iS O kf T a b n d f o):n<a.size+b.size:=by have:=L.h4;lia
def iS.mo{m:Nat}(h:m<=n)(L:iS O kf T a b n d f o):iS O kf T a b m d f o:=⟨L.m,L.h0,L.h2,L.h1,L.h3,by have:=L.h4;lia⟩
abbrev rV{γ:Type}(O:fN)(kf:Keyed->O.α)(T:List Keyed)(a b:Array Keyed)(n:Nat)(x:Nat×Nat×Array Keyed×γ):Prop:=iS O kf T a b n x.1 x.2.1 x.2.2.1
variable{Q:ForInStep (Option (Array Keyed)×Pb)->aK->Prop}
def Pd(B:rU O kf G a b)(t:gK True (jM O kf T) (rV O kf T a b) n st Q)(L:iS O kf T a b n d f o)(l:∀y∈b.toList.take f,O.kle (kf y) (kf (a[d-1]'(by have:=L.h0;have:=L.h1;lia)))):wpS (model prog w) A E s (GF a b o d f mg p g) Q st:=by
 obtain⟨m,h,j,e,k,q⟩:=L;have i:=m.pa h e l;exact aQ (gJ (gj (mY h e)) (wo t (λ z=>dX.enA z i) λ c=>⟨i,by lia,j,by lia,k,by lia⟩))
def Yh(B:rU O kf G a b)(t:gK True (jM O kf T) (rV O kf T a b) n st Q)(L:iS O kf T a b n d f o)(i:j<=f)
  (l:∀y∈(b.toList.take f).take j,O.klt (kf y) (kf (a[d-1]'(by have:=L.h0;have:=L.h1;lia))))(r:∀y∈(b.toList.take f).drop j,O.kle (kf (a[d-1]'(by have:=L.h0;have:=L.h1;lia))) (kf y)):wpS (model prog w) A E s (GG a b o d f mg p j) Q st:=by
 unfold GG;rw[xx,qD i]at l;obtain⟨m,c,q,e,u,v⟩:=L;by_cases k:f-j>0
 .rw[if_pos k]
  have g:dX O kf T a b (o++(b.extract j f).reverse) d j:=by
   have la:=m.la c e;unfold dX at m ⊢;rw[Pa b.toList i]at m;rw[kO,O9];exact m.tb λ x C y h=>ip (la y (lQ.mp h)) (r x (lQ.mp C))
  exact pU t (λ z=>dX.enF B.b0 B.fb z g) λ c1=>pU t (λ z=>dX.enB z g) λ c2=>Pd B t ⟨g,c,by lia,e,by lia,by lia⟩ λ y h=>jW (l y h)
 .rw[if_neg k]
  have:j=f:=by lia
  subst this;exact Pd B t ⟨m,c,q,e,u,v⟩ λ y h=>jW (l y h)
def Pe{a:Array Keyed}{n i:Nat}(h:i<n):a[0+i]? =(a.toList.take n)[i]?:=by simp_all
def Yi(c:fh prog w A s κ O kf G)(h:cM st=κ)(B:rU O kf G a b)(t:gK True (jM O kf T) (rV O kf T a b) n st Q)(L:iS O kf T a b n d f o):wpS (model prog w) A E s (Pc a b o d f mg p g) Q st:=by
 have⟨m,h0,h2,h1,h3,_⟩:=L
 exact aQ (gJ (gj (mY h0 h1)) (aQ (wc c h (B.ga _ (by simp)) (b.toList.take f) (λ i e=>Pe e) (by simp;simp_all) (λ x j=>B.gb x (kP j)) (uT.mp m.sb) (by omega) λ k k1 k2 k3=>Yh B t L k1 k2 k3)))
def Pf(c:fh prog w A s κ O kf G)(h:cM st=κ)(B:rU O kf G a b)(t:gK True (jM O kf T) (rV O kf T a b) n st Q)(L:iS O kf T a b n d f o)(l:∀y∈a.toList.take d,O.kle (kf y) (kf (b[f-1]'(by have:=L.h2;have:=L.h3;lia)))):wpS (model prog w) A E s (GH a b o d f mg p g) Q st:=by
 obtain⟨m,k,i,q,e,r⟩:=L;have j:=m.pb (Bl i) e l;exact aQ (gJ (gj (Bh i e)) (pU t (λ z=>dX.enF B.b0 B.fb z j) λ c1=>Yi c h B t ⟨j,k,by lia,q,LH e,by lia⟩))
def Yj(c:fh prog w A s κ O kf G)(h:cM st=κ)(B:rU O kf G a b)(t:gK True (jM O kf T) (rV O kf T a b) n st Q)(L:iS O kf T a b n d f o)(k:j<=d)
  (l:∀y∈(a.toList.take d).take j,O.kle (kf y) (kf (b[f-1]'(by have:=L.h2;have:=L.h3;lia))))(r:∀y∈(a.toList.take d).drop j,O.klt (kf (b[f-1]'(by have:=L.h2;have:=L.h3;lia))) (kf y)):wpS (model prog w) A E s (GI a b o d f mg j g) Q st:=by
 unfold GI;rw[xx,qD k]at l;obtain⟨m,u,e,v,i,C⟩:=L;by_cases p:d-j>0
 .rw[if_pos p]
  have q:dX O kf T a b (o++(a.extract j d).reverse) j f:=by
   have lb:=m.lb (Bl e) i;unfold dX at m ⊢;rw[Pa a.toList k]at m;rw[kO,O9];exact m.ta λ x D y F=>ip (lb y (lQ.mp F)) (jW (r x (lQ.mp D)))
  exact pU t (λ z=>dX.enA z q) λ c1=>Pf c h B t ⟨q,LJ c1,e,by lia,i,by lia⟩ l
 .rw[if_neg p]
  have:j=d:=by lia
  subst this;exact Pf c h B t ⟨m,u,e,v,i,C⟩ l
def Pg(c:fh prog w A s κ O kf G)(h:cM st=κ)(B:rU O kf G a b)(t:gK True (jM O kf T) (rV O kf T a b) n st Q)(L:iS O kf T a b n d f o):wpS (model prog w) A E s (GJ a b o d f mg p g) Q st:=by
 have⟨m,h0,h2,h1,h3,_⟩:=L
 exact aQ (Gz λ j e=>aQ (gJ (gj (Bh h2 h3)) (aQ (wc c (e.k.trans h) (B.gb _ (by simp)) (a.toList.take d) (λ i l=>Pe l) (by simp;simp_all) (λ x q=>B.ga x (kP q)) (uT.mp m.sa) (yf h0) λ k k1 k2 k3=>Yj c (e.k.trans h) B (t.eg e) L k1 k2 k3))))
end
def Ph:Array Keyed->Array Keyed->StateT SortSt Sem (Array Keyed):=sortPriv%PySem.Builtin.mergeHi
abbrev Pi:=Nat×Nat×Array Keyed×Nat×Nat
abbrev Yk:=StateT aK Sem (ForInStep (Option (Array Keyed)×Pi))
def Pj(a b o:Array Keyed)(n c d e mg:Nat):Yk:=elem' b (c-1)>>=λ y=>elem' a (n-1)>>=λ x=>lt' y x>>=λ r=>match r with
 |some t=>if t=true then elem' a (n-1)>>=λ x=>if (n-1==0)=true then pure (.done (some (a.extract 0 (n-1)++b.extract 0 c++(o.push x).reverse),n-1,c,o.push x,d+1,0))
   else if d+1 ≥ mg then pure (.done (none,n-1,c,o.push x,d+1,0))else pure (.yield (none,n-1,c,o.push x,d+1,0))
  else elem' b (c-1)>>=λ x=>if (c-1==1)=true then pure (.done (some (b.extract 0 (c-1)++a.extract 0 n++(o.push x).reverse),n,c-1,o.push x,0,e+1))
   else if e+1 ≥ mg then pure (.done (none,n,c-1,o.push x,0,e+1))else pure (.yield (none,n,c-1,o.push x,0,e+1))
 |_=>pure (.done (some (a.extract 0 n++b.extract 0 c++o.reverse),n,c,o,d,e))
section
variable{prog:aR}{w:World}{A:aS}{E:Value->ao->Prop}{s:ao}{κ:jV}{O:fN}{kf:Keyed->O.α}{G:Keyed->Prop}{T:List Keyed}{a b u:Array Keyed}{l j mg C v n:Nat}{st:aK}
def Yl{Q:ForInStep (Option (Array Keyed)×Pi)->aK->Prop}(c:fh prog w A s κ O kf G)(k:cM st=κ)(B:rU O kf G a b)(t:gK True (jM O kf T) (rV O kf T a b) n st Q)(L:iS O kf T a b n l j u):wpS (model prog w) A E s (Pj a b u l j C v mg) Q st:=by
 obtain⟨m,h,d,e,f,q⟩:=L;have p:=gj (show j-1<b.size by exact Bh d f);have ha:=gj (show l-1<a.size by exact mY h e);refine aQ (gJ p (aQ (gJ ha (aQ (yS c k (B.gb _ (by simp)) (B.ga _ (by simp)) ?_)))));cb_eq;cases g:O.blt (kf (b[j-1]'(Bh d f))) (kf (a[l-1]'(mY h e)))with
 |true=>
  have i:=m.pa h e λ y o=>ip (m.lb (Bl d) f y o) (jW g)
  exact aQ (gJ ha (wo t (λ z=>dX.enA z i) λ _=>⟨i,by lia,d,by lia,f,by lia⟩))
 |false=>
  have i:=m.pb (Bl d) f λ y o=>ip (m.la h e y o) g
  exact aQ (gJ p (wo t (λ z=>dX.enF B.b0 B.fb z i) λ _=>⟨i,h,by lia,e,by lia,by lia⟩))
def Ym{Q:Array Keyed->aK->Prop}(c:fh prog w A s κ O kf G)(u:cM st=κ)(B:rU O kf G a b)(H:(a.toList++b.toList).Perm T)(I:a.toList.Pairwise (cc O kf))(J:b.toList.Pairwise (cc O kf))(ha:0<a.size)(K:∀y∈b.toList,O.kle (kf y) (kf (a[a.size-1]'(yf ha))))
  (h:∀o l,gi st l->jI (cc O kf) T o.toList->Q o l):wpS (model prog w) A E s (Ph a b) Q st:=by
 have P:=B.b0;have L:dX O kf T a b #[] a.size b.size:=by
  unfold dX;rw[iI (by simp),iI (by simp)];exact⟨((z8 _).append (z8 _)).trans H,.nil,λ x M=>by simp at M,uT.mpr I,uT.mpr J⟩
 have D:=dX.pa L ha (bc _) λ y N=>K y (kP N)
 refine aQ (u1 (mQ ⟨rfl,aQ (gJ (gj (by lia)) (yU (λ c1=>cI (h _ _ (gi.refl st) (dX.enA c1 D))) λ c1=>yU (λ c2=>cI (h _ _ (gi.refl st) (dX.enF B.b0 B.fb c2 D))) λ c2=>aQ (nV (aQ ?_))))⟩));refine Cq (p:=False) (g:=rV O kf T a b) (n:=0) (F:=jM O kf T) (λ m x h=>iS.bd h) (λ i m x j Q k h t=>O8 (fA:=λ d=>Pj a b d.2.2.2.1 d.2.1 d.2.2.1 d.2.2.2.2.1 d.2.2.2.2.2 x.2.2.2) (fB:=λ c=>if c.2.2.2.2.1>1 then GJ a b c.2.2.2.1 c.2.1 c.2.2.1 (c.2.2.2.2.1-1) c.2.2.2.2.2.1 c.2.2.2.2.2.2 else GJ a b c.2.2.2.1 c.2.1 c.2.2.1 c.2.2.2.2.1 c.2.2.2.2.2.1 c.2.2.2.2.2.2) (g:=iS O kf T a b) iS.bd iS.mo
  (λ m p q r C v j Q k h t=>Yl c k B t h) (λ m p q r mg C v j Q k h t=>?_) k t h (λ _ _=>rfl) (λ _=>rfl) (λ _ _=>rfl) λ _=>rfl) u ⟨D,by lia,by lia,by simp,by simp,by lia⟩ (λ o x j e f=>cI (h o j e f)) (λ z=>z.elim) λ m m' x=>iS.mo
 cb_eq;split
 .exact Pg c k B t h
 .exact Pg c k B t h
end
def wx(P R:List Keyed){n k:Nat}(h:P.length=n):(P++R).drop (n+k)=R.drop k:=by
 subst h;simp_all
def GK(P R:List Keyed){n i:Nat}(h:P.length=n):(P++R)[n+i]? =R[i]?:=by
 subst h;rw[oS (Ai _ _),o9]
theorem Pk:∀(l:List Keyed) (o d:Nat) (acc:Array Keyed),o+d+l.length<=acc.size->
  ((l.zipIdx d).foldl (λ a x=>a.setIfInBounds (o+x.2) x.1) acc).toList=acc.toList.take (o+d)++l++acc.toList.drop (o+d+l.length)
 |[],o,d,acc,_=>by simp
 |x::l,o,d,acc,h=>by
  rw[eX]at h;rw[Aa,Ab,Pk l o (d+1) _ (by simp;lia)];have b:o+d<acc.toList.length:=by simp;lia
  have e:(acc.setIfInBounds (o+d) x).toList=acc.toList.set (o+d) x:=Df ..;rw[e];have c:(acc.toList.set (o+d) x).take (o+(d+1))=acc.toList.take (o+d)++[x]:=by
   rw[<-qE,Dk (by rw[nN];exact b),List.getElem_set_self];congr 1;rw[List.take_set_of_le (bc _)]
  have f:(acc.toList.set (o+d) x).drop (o+(d+1)+l.length)=acc.toList.drop (o+d+(l.length+1)):=by
   rw[List.drop_set_of_lt (by lia)];congr 1;lia
  rw[c,f,eX];simp
section
variable{prog:aR}{w:World}{A:aS}{E:Value->ao->Prop}{s:ao}{κ:jV}{O:fN}{kf:Keyed->O.α}{G:Keyed->Prop}
def Yn{X Y M:List Keyed}{k n:Nat}(f:X.Pairwise (cc O kf))(g:Y.Pairwise (cc O kf))(m:M.Perm (X.drop k++Y.take n))(i:M.Pairwise (cc O kf))(j:∀x∈X.take k,∀y∈Y,cc O kf x y)(d:∀x∈X,∀y∈Y.drop n,cc O kf x y):
  (X.take k++M++Y.drop n).Perm (X++Y)/\(X.take k++M++Y.drop n).Pairwise (cc O kf):=by
 constructor
 .have e:X++Y=X.take k++(X.drop k++Y.take n)++Y.drop n:=by
   have l:=gO k X;have o:=gO n Y
   calc X++Y=(X.take k++X.drop k)++(Y.take n++Y.drop n):=by rw[l,o]
    _=_:=by simp only[fL]
  rw[e];exact(m.append_left _).append_right _
 .have s:=f
  rw[<-gO k X]at s;have a:=g;rw[<-gO n Y]at a;obtain⟨p,u,q⟩:=lN.mp s;obtain⟨v,r,t⟩:=lN.mp a;refine lN.mpr ⟨lN.mpr ⟨p,i,λ x c y b=>?_⟩,r,λ x c y b=>?_⟩
  .rcases cu.mp (m.mem_iff.mp b)with h|h
   .exact q x c y h
   .exact j x c y (kP h)
  .rcases cu.mp c with h|h
   .exact d x (kP h) y b
   .rcases cu.mp (m.mem_iff.mp h)with h|h
    .exact d x (oU h) y b
    .exact t x h y b
def Pl{Y:List Keyed}(s:Y.Pairwise (cc O kf)){y0:Keyed}(h:Y[0]? =some y0):∀y∈Y,cc O kf y0 y:=λ y a=>by
 cases Y with
 |nil=>contradiction
 |cons z Y=>
  have:=by simpa using h
  subst this;rcases bI.mp a with rfl|a
  .exact qH _
  .exact(gQ.mp s).1 y a
def Pm{X:List Keyed}(s:X.Pairwise (cc O kf)){z:Keyed}{n:Nat}(a:n+1=X.length)(h:X[n]? =some z):∀x∈X,cc O kf x z:=λ x b=>by
 obtain⟨i,d,e⟩:=qx b;have hz:=by
  rw[en (yh a)]at h;exact hX h
 by_cases c:i=n
 .subst c
  rw[<-e,hz];exact qH _
 .rw[<-e,<-hz]
  exact nK.mp s i n d (yh a) (by lia)
def Yo{st:aK}{Q:Bool->aK->Prop}{i b n p d z p2:Nat}{P X Y Z:List Keyed}(c:fh prog w A s κ O kf G)(hκ:cM st=κ)(hf:iX st=none)(h1:(cY st)[i]? =some (b,n,p))(h2:(cY st)[i+1]? =some (d,z,p2))
  (F:(arrOf st).toList=P++(X++(Y++Z)))(lP:P.length=b)(lX:X.length=n)(lY:Y.length=z)(U:d=b+n)(n0:0<n)(n1:0<z)(gG:∀x∈(arrOf st).toList,G x)(V:X.Pairwise (cc O kf))(W:Y.Pairwise (cc O kf))
  (h:∀M q,cM q=κ->iX q=none->cY q=((cY st).setIfInBounds i (b,n+z,p)).eraseIdxIfInBounds (i+1)->(arrOf q).toList=P++(M++Z)->M.Perm (X++Y)->M.Pairwise (cc O kf)->Q true q):
  wpS (model prog w) A E s (mergeAt' i) Q st:=by
 have L:(arrOf st).toList=(P++X)++(Y++Z):=by rw[F,fL]
 have B:(P++X).length=d:=by rw[cy,lP,lX,U]
 have gX:∀x∈X,G x:=λ x l=>gG x (by rw[F];simp[l])
 have gY:∀x∈Y,G x:=λ x l=>gG x (by rw[F];simp[l])
 have atX:∀j,j<n->(arrOf st)[b+j]? =X[j]?:=λ j H=>by
  rw[<-hV,F,GK P _ lP,nI (by simp_all)]
 have atY:∀j,j<z->(arrOf st)[d+j]? =Y[j]?:=λ j H=>by
  rw[<-hV,L,GK (P++X) _ B,nI (by lia)]
 have hsz:d+z<=(arrOf st).size:=by
  have:=congrArg Ad L
  rw[dY,cy,B,cy]at this;simp_all
 obtain⟨y0,C⟩:∃y,Y[0]? =some y:=⟨Y[0]'(by simp_all),en _⟩
 obtain⟨xl,D⟩:∃x,X[n-1]? =some x:=⟨X[n-1]'(by lia),en _⟩
 have fY:=Pl W C;have fX:=Pm V (by grind) D;refine aQ (nV ?_);rw[h1,h2];cb_eq;refine aQ (sO (f:=λ _=>DT (cM st) (arrOf st) (((cY st).setIfInBounds i (b,n+z,p)).eraseIdxIfInBounds (i+1)) (gallopOf st) (iX st)) ?_);obtain⟨g,m⟩:∃g,g=DT (cM st) (arrOf st) (((cY st).setIfInBounds i (b,n+z,p)).eraseIdxIfInBounds (i+1)) (gallopOf st) (iX st):=⟨_,rfl⟩
 have k1:cM g=κ:=by rw[m];exact hκ
 have a1:arrOf g=arrOf st:=by rw[m]
 have p1:cY g=((cY st).setIfInBounds i (b,n+z,p)).eraseIdxIfInBounds (i+1):=by rw[m]
 have f1:iX g=none:=by rw[m];exact hf
 rw[<-m];refine aQ (gJ (x:=y0) (by have:=atY 0 n1;rw[xF]at this;rw[this,C]) ?_);refine aQ (wc c k1 (gY y0 (nL C)) X (λ j H=>atX j H) lX.symm gX V n0 λ k q1 q2 q3=>?_);simp only[jq,if_false]at q2 q3;cb_eq;have hA:∀x∈X.take k,∀y∈Y,cc O kf x y:=λ x l y r=>ip (q2 x l) (fY y r)
 by_cases c1:n-k=0
 .rw[if_pos (by simpa using c1)]
  have ek:X.take k=X:=iI (by grind);rw[ek]at hA;exact cI (h (X++Y) g k1 f1 p1 (by rw[a1,F,fL]) (g0 _) (lN.mpr ⟨V,W,hA⟩))
 rw[if_neg (by simpa using c1)];have hix:b+k+(n-k)-1=b+(n-1):=by lia
 rw[hix];refine aQ (gJ (x:=xl) (by rw[atX (n-1) (yf n0),D]) ?_);refine aQ (wc c k1 (gX xl (nL D)) Y (λ j H=>atY j H) lY.symm gY W (yf n1) λ n' r1 r2 r3=>?_);simp only[if_true]at r2 r3;cb_eq;have hB:∀x∈X,∀y∈Y.drop n',cc O kf x y:=λ x l y r=>ip (fX x l) (r3 y r)
 by_cases c2:n'=0
 .rw[if_pos (by simpa using c2)]
  subst c2;rw[qC]at hB;exact cI (h (X++Y) g k1 f1 p1 (by rw[a1,F,fL]) (g0 _) (lN.mpr ⟨V,W,hB⟩))
 rw[if_neg (by simpa using c2)];have I:((arrOf st).extract (b+k) d).toList=X.drop k:=by
  rw[we,F,wx P _ lP,Jr (by simp_all),Dl (by rw[iJ];exact Sw lX U)];exact iI (by rw[iJ];exact Sx lX U)
 have J:((arrOf st).extract d (d+n')).toList=Y.take n':=by
  have:(arrOf st).toList.drop d=Y++Z:=by rw[L,<-B,List.drop_left]
  rw[we,this,o9,Dl (by lia)]
 have sXk:(X.drop k).Pairwise (cc O kf):=V.sublist (List.drop_sublist _ _);have sYn:(Y.take n').Pairwise (cc O kf):=W.sublist (JJ _ _);obtain⟨u,hu⟩:∃u,u=(arrOf st).extract (b+k) d:=⟨_,rfl⟩
 obtain⟨v,hv⟩:∃v,v=(arrOf st).extract d (d+n'):=⟨_,rfl⟩
 rw[<-hu]at I;rw[<-hv]at J;have lu:u.size=n-k:=by rw[<-dY,I,iJ,lX]
 have lv:v.size=n':=by rw[<-dY,J,eY];simp_all
 have v0:v[0]'(by lia)=y0:=by
  have:v.toList[0]? =some y0:=by rw[J,qu (LJ c2),C]
  rw[hV,gj (by lia)]at this;exact hX this
 have ul:u[u.size-1]'(LU c1 lu)=xl:=by
  have:u.toList[u.size-1]? =some xl:=by
   rw[I,uV]
   have:k+(u.size-1)=n-1:=by lia
   rw[this,D]
  rw[hV,gj (LU c1 lu)]at this;exact hX this
 have fin:∀(o:Array Keyed) (t:aK),gi g t->jI (cc O kf) (u.toList++v.toList) o.toList->
   wpS (model prog w) A E s (modify (λ s2:aK=>DT (cM s2) (xB (λ a x=>a.setIfInBounds (b+k+x.2) x.1) (arrOf s2) o.toList.zipIdx) (cY s2) (gallopOf s2) (iX s2))>>=λ _=>get>>=λ s3=>pure (iX s3).isNone) Q t:=λ o t K N=>by
  refine aQ (sO (aQ (nV (cI ?_))));have hf2:iX t=none:=K.f.trans f1;show Q (iX t).isNone _;rw[hf2];rw[I,J]at N;obtain⟨j1,j2⟩:=Yn V W N.1 N.2 hA hB;refine h (X.take k++o.toList++Y.drop n') _ (K.k.trans k1) (by first|exact hf2|rfl) (K.p.trans p1) ?_ j1 j2
  show(xB (λ a x=>a.setIfInBounds (b+k+x.2) x.1) (arrOf t) o.toList.zipIdx).toList=_
  have lo:o.toList.length=(n-k)+n':=by rw[N.1.length_eq,cy,iJ,eY];simp_all
  rw[K.a,a1,Pk o.toList (b+k) 0 (arrOf st) (by rw[lo];grind),xF];have t1:(arrOf st).toList.take (b+k)=P++X.take k:=by
   rw[F,<-lP,xv,iI (tE),o9,Dl (by simp_all)]
  have t2:(arrOf st).toList.drop (b+k+o.toList.length)=Y.drop n'++Z:=by
   have:b+k+o.toList.length=d+n':=by rw[lo];grind
   rw[this,L,wx (P++X) _ B,Jr (by lia)]
  rw[t1,t2];simp
 have gu:∀x∈u.toList,G x:=λ x l=>by rw[I]at l;exact gX x (oU l)
 have gv:∀x∈v.toList,G x:=λ x l=>by rw[J]at l;exact gY x (kP l)
 have R:∀x∈u.toList,O.klt (kf y0) (kf x):=λ x l=>by rw[I]at l;exact q3 x l
 have S:∀y∈v.toList,O.klt (kf y) (kf xl):=λ y r=>by rw[J]at r;exact r2 y r
 by_cases c3:n-k<=n'
 .rw[if_pos c3]
  refine aQ ?_;show wpS _ _ _ _ (O5 ((arrOf st).extract (b+k) d) ((arrOf st).extract d (d+n'))) _ _;rw[<-hu,<-hv];refine Yg (T:=u.toList++v.toList) c k1 ⟨gu,gv,λ j H y r=>?_⟩ (g0 _) (by rw[I];exact sXk) (by rw[J];exact sYn) (by lia) (by lia) ?_ λ o t K N=>fin o t K N
  .have:u[j]'(yh H)=xl:=by
    have e:j=u.size-1:=SO H;subst e;exact ul
   rw[this];exact S y r
  .rw[v0]
   exact R _ (by simp)
 .rw[if_neg c3]
  refine aQ ?_;show wpS _ _ _ _ (Ph ((arrOf st).extract (b+k) d) ((arrOf st).extract d (d+n'))) _ _;rw[<-hu,<-hv];refine Ym (T:=u.toList++v.toList) c k1 ⟨gu,gv,by lia,λ x l=>?_⟩ (g0 _) (by rw[I];exact sXk) (by rw[J];exact sYn) (by lia) (λ y r=>?_) λ o t K N=>fin o t K N
  .rw[v0]
   exact jW (R x l)
  .rw[ul]
   exact jW (S y r)
end
def Yp(xs:Array Keyed){i j:Nat}(h:i<=j)(a:j<=xs.size):(mirror xs i j ((j-i) / 2)).toList=xs.toList.take i++(((xs.toList.take j).drop i).reverse++xs.toList.drop j):=by
 refine Ds λ k=>?_
 rw[hV,getElem?_mirror_all a];have l1:(xs.toList.take i).length=i:=by rw[eY,dY];lia
 have l2:((xs.toList.take j).drop i).length=j-i:=by rw[iJ,eY,dY];simp_all
 by_cases c1:k<i
 .rw[if_neg (by lia),nI (Bi l1 c1),qu c1,hV]
 .rw[oS (by simp_all),l1]
  by_cases c2:k<j
  .rw[if_pos (by simp_all),nI (by rw[qy];lia),z5 (by lia),l2,uV,qu (SF c1 c2),hV]
   congr 1;lia
  .rw[if_neg (by simp_all),oS (by rw[qy];simp_all),qy,l2,uV,hV]
   congr 1
   grind
def yW{β:Type}{r:β->β->Prop}(tr:∀a b c,r a b->r b c->r a c){l:List β}{n:Nat}(m:0<n)(d:n<l.length)(h:(l.take n).Pairwise r)(hz:r (l[n-1]'(rd d)) l[n]):(l.take (n+1)).Pairwise r:=by
 rw[Dk d];refine lN.mpr ⟨h,zX _ _,λ x g y j=>?_⟩;rw[kj.mp j];obtain⟨i,f,e⟩:=qx g;have k:i<n:=by rw[eY]at f;lia
 by_cases c:i=n-1
 .simp_all
 .have:=nK.mp h i (n-1) f (by rw[eY];grind) (by lia)
  rw[e,sE]at this;exact tr _ _ _ this hz
structure gW(st st':aK):Prop where
 k:cM st'=cM st
 p:cY st'=cY st
 f:iX st'=iX st
def gW.refl(st:aK):gW st st:=⟨rfl,rfl,rfl⟩
theorem gW.trans{st t s:aK}(h:gW st t)(k:gW t s):gW st s:=⟨k.k.trans h.k,k.p.trans h.p,k.f.trans h.f⟩
abbrev yX:=Option (Option Nat)×Nat
abbrev GL:=Option (Option Nat)×Nat×Nat
def yZ(l a n:Nat):StateT aK Sem yX:=forIn [a:n] ((none,a):yX) λ _ c=>ltAt' (l+c.2) (l+c.2-1)>>=λ x=>match x with
 |some b=>if b=true then pure (.done (none,c.2))else pure (.yield (none,c.2+1))
 |_=>pure (.done (some none,c.2))
def Pn(l n r:Nat):StateT aK Sem GL:=forIn [n:r] ((none,n,0):GL) λ _ c=>ltAt' (l+c.2.1) (l+c.2.1-1)>>=λ x=>match x with
 |some b=>if b=true then(if c.2.2>0 then sN (l+c.2.1-(c.2.2+1)) (l+c.2.1)>>=λ _=>pure (.yield (none,c.2.1+1,0))else pure (.yield (none,c.2.1+1,0)))
  else ltAt' (l+c.2.1-1) (l+c.2.1)>>=λ y=>match y with
   |some d=>if d=true then pure (.done (none,c.2.1,c.2.2))else pure (.yield (none,c.2.1+1,c.2.2+1))
   |_=>pure (.done (some none,c.2.1,c.2.2))
 |_=>pure (.done (some none,c.2.1,c.2.2))
section
variable{prog:aR}{w:World}{A:aS}{E:Value->ao->Prop}{s:ao}{κ:jV}{O:fN}{kf:Keyed->O.α}{G:Keyed->Prop}{st:aK}{P R:List Keyed}{o:Nat}
structure gL(κ:jV)(G:Keyed->Prop)(st:aK)(o:Nat)(P R:List Keyed):Prop where
 k:cM st=κ
 l:(arrOf st).toList=P++R
 p:P.length=o
 g:∀x∈R,G x
def gL.at(S:gL κ G st o P R)(i:Nat):(arrOf st)[o+i]? =R[i]?:=by rw[<-hV,S.l,GK P R S.p]
def y1{i j:Nat}{Q:Option Bool->aK->Prop}(c:fh prog w A s κ O kf G)(S:gL κ G st o P R)(a:i<R.length)(b:j<R.length)(h:Q (some (O.blt (kf R[i]) (kf R[j]))) st):wpS (model prog w) A E s (ltAt' (o+i) (o+j)) Q st:=by
 rw[ltAt'_eq];refine aQ (nV ?_);refine aQ (gJ (by rw[S.at,en a]) ?_);refine aQ (gJ (x:=R[j]) (by rw[S.at,en b]) ?_);exact yS c S.k (S.g _ (lO _)) (S.g _ (lO _)) h
def Po{i j:Nat}{Q:Unit->aK->Prop}(S:gL κ G st o P R)(a:i<=j)(d:j<=R.length)(h:∀t,gW st t->gL κ G t o P (R.take i++(((R.take j).drop i).reverse++R.drop j))->Q () t):wpS (model prog w) A E s (sN (o+i) (o+j)) Q st:=by
 rw[reverseSlice'_eq];refine sO (h _ ⟨rfl,rfl,rfl⟩ ⟨S.k,?_,S.p,λ x b=>?_⟩)
 .show(mirror (arrOf st) (o+i) (o+j) ((o+j-(o+i)) / 2)).toList=_
  have z:(arrOf st).size=o+R.length:=by rw[<-dY,S.l,cy,S.p]
  rw[Yp _ (by simp_all) (by simp_all),S.l];have e:(P++R).take (o+i)=P++R.take i:=by rw[<-S.p,xv,iI (tE),o9]
  have c:(P++R).take (o+j)=P++R.take j:=by rw[<-S.p,xv,iI (tE),o9]
  rw[e,c,wx P _ S.p,wx P _ S.p,fL]
 .rcases cu.mp b with h|h
  .exact S.g x (kP h)
  .rcases cu.mp h with h|h
   .exact S.g x (kP (oU (lQ.mp h)))
   .exact S.g x (oU h)
def Yq{i j a b:Nat}{Q:Option Bool->aK->Prop}(c:fh prog w A s κ O kf G)(S:gL κ G st o P R)(e:a=o+i)(d:b=o+j)(f:i<R.length)(g:j<R.length)(h:Q (some (O.blt (kf R[i]) (kf R[j]))) st):wpS (model prog w) A E s (ltAt' a b) Q st:=by
 subst e d;exact y1 c S f g h
def GM{i j b c:Nat}{Q:Unit->aK->Prop}(S:gL κ G st o P R)(e:b=o+i)(d:c=o+j)(a:i<=j)(f:j<=R.length)(h:∀t,gW st t->gL κ G t o P (R.take i++(((R.take j).drop i).reverse++R.drop j))->Q () t):wpS (model prog w) A E s (sN b c) Q st:=by
 subst e d;exact Po S a f h
def Cs(R:List Keyed){i j:Nat}(h:i<=j):(R.take i++(((R.take j).drop i).reverse++R.drop j)).Perm R:=by
 have e:R=R.take i++((R.take j).drop i++R.drop j):=by
  have a:=gO j R;have b:=gO i (R.take j)
  grind
 conv=>rhs;rw[e]
 exact((z8 _).append_right _).append_left _
def GN(R:List Keyed){i j:Nat}{q:O.α}(h:i<=j)(a:∀x∈(R.take j).drop i,kf x=q):(R.take i++(((R.take j).drop i).reverse++R.drop j)).map kf=R.map kf:=by
 have e:R=R.take i++((R.take j).drop i++R.drop j):=by
  have g:=gO j R;have k:=gO i (R.take j)
  grind
 have c:=List.eq_replicate_iff.mpr ⟨bb _,λ b d=>by obtain⟨x,f,rfl⟩:=cX.mp d;exact a x f⟩
 conv=>rhs;rw[e]
 simp only[hW,JO,c,List.reverse_replicate]
def Pp{a:Nat}{Q:yX->aK->Prop}(c:fh prog w A s κ O kf G)(S:gL κ G st o P R)(e:0<a)(ha:a<=R.length)(f:(R.take a).Pairwise (cc O kf))
  (h:∀n (m:0<n),n<=R.length->(R.take n).Pairwise (cc O kf)->(n=R.length\/∃i:n<R.length,O.klt (kf R[n]) (kf (R[n-1]'(rd i))))->Q (none,n) st){N:Nat}(j:N=R.length):wpS (model prog w) A E s (yZ o a N) Q st:=by
 subst j;unfold yZ;refine nQ (I:=λ x c t=>t=st/\c=(none,x)/\0<x/\(R.take x).Pairwise (cc O kf)) ?_ ?_ ⟨rfl,rfl,e,f⟩
 .rintro x c1 t l b ⟨rfl,rfl,x0,g⟩
  cb_eq;rw[Ah (by assumption)];refine aQ (y1 c S b (rd b) ?_);cb_eq;cases d:O.blt (kf R[x]) (kf (R[x-1]'(rd b)))with
  |true=>rw[if_pos rfl];exact cI (h x x0 (EO b) g (.inr ⟨b,d⟩))
  |false=>
   rw[if_neg cL];exact cI ⟨rfl,rfl,by simp,yW (r:=cc O kf) (λ _ _ _ h k=>ip h k) x0 b g d⟩
 .rintro c1 t ⟨rfl,rfl,x0,g⟩
  have:max a R.length=R.length:=by simp_all
  rw[this]at g x0 ⊢;exact h R.length x0 (bc _) g (.inl rfl)
def Ct(O:fN)(kf:Keyed->O.α)(κ:jV)(G:Keyed->Prop)(st:aK)(o:Nat)(P R:List Keyed)(Q:Option Nat->aK->Prop):Prop:=∀m a s,gW st s->gL κ G s o P a->a.Perm R->0<m->m<=R.length->(a.take m).Pairwise (cc O kf)->Q (some m) s
def Pq{n N:Nat}{a:List Keyed}{t:aK}{Q:Option Nat->aK->Prop}{F:yX->StateT aK Sem (Option Nat)}(c:fh prog w A s κ O kf G)(g:gW st t)(S:gL κ G t o P a)(e:a.Perm R)(k:0<n)(q:n<=a.length)(r:(a.take n).Pairwise (lA O kf))(h:Ct O kf κ G st o P R Q)(u:N=a.length)(v:∀m,F (none,m)=pure (some m)):
  wpS (model prog w) A E s (sN o (o+n)>>=λ _=>yZ o n N>>=F) Q t:=by
 refine aQ (GM (i:=0) (j:=n) S rfl rfl (dn _) q λ b x d=>?_);rw[xy,oY,qC]at d;have l:((a.take n).reverse++a.drop n).length=a.length:=by rw[cy,qy,eY,iJ];simp_all
 have y:((a.take n).reverse++a.drop n).take n=(a.take n).reverse:=Dy (by rw[qy,eY];simp_all);have p:((a.take n).reverse++a.drop n).Perm a:=by
  have:=Cs a (i:=0) (j:=n) (dn _)
  rwa [xy,oY,qC]at this
 refine aQ (Pp c d k (by simp_all) (by rw[y];exact uT.mpr r) (λ m z f B _=>?_) (u.trans l.symm));rw[v];exact cI (h m _ b (g.trans x) d (p.trans e) z (by rw[l]at f;rw[<-e.length_eq];exact f) B)
def GO{R c:List Keyed}(h:c.map kf=R.map kf)(n:Nat)(s:(R.take n).Pairwise (lA O kf)):(c.take n).Pairwise (lA O kf):=by
 have d:((R.take n).map kf).Pairwise (λ a b=>O.kle b a):=uX.mpr s;have e:(c.take n).map kf=(R.take n).map kf:=by simp_all
 rw[<-e,uX]at d;simp_all
def Pr{n N:Nat}{B:List Keyed}{C:aK}{Q:Option Nat->aK->Prop}{T:yX->StateT aK Sem (Option Nat)}{F:GL->StateT aK Sem (Option Nat)}(c:fh prog w A s κ O kf G)(e1:gW st C)(S:gL κ G C o P B)(Z:B.Perm R)(hn:n+1<=B.length)(hs:(B.take (n+1)).Pairwise (lA O kf))(h:Ct O kf κ G st o P R Q)(hN:N=B.length)(D:∀m,T (none,m)=pure (some m))
  (hF:∀x q,F (none,x,q)=if q>0 then(sN (o+x-(q+1)) (o+x)>>=λ _=>sN o (o+x)>>=λ _=>yZ o x N>>=T)else(sN o (o+x)>>=λ _=>yZ o x N>>=T)):
  wpS (model prog w) A E s ((liftM (rule "list.sort.descending-run"):StateT aK Sem Unit)>>=λ _=>Pn o (n+1) N>>=F) Q C:=by
 subst hN;refine aQ (u1 (mQ ⟨rfl,?_⟩));have H:∀(aG:List Keyed) (x q:Nat) (h:q+1<=x) (b:x<=aG.length),(∀i (d:i<aG.length),x-(q+1)<=i->i<x->kf aG[i]=kf (aG[x-1]'(EL h b)))->∀y∈(aG.take x).drop (x-(q+1)),kf y=kf (aG[x-1]'(EL h b)):=λ aG x q h b J y hy=>by
  obtain⟨i,d,e⟩:=qx hy;rw[iJ,eY]at d;rw[Dt,sE]at e;rw[<-e];exact J _ (by grind) (by simp) (by lia)
 refine aQ (sP (Q:=λ c1 t=>∃aG x q,c1=(none,x,q)/\gW st t/\gL κ G t o P aG/\aG.Perm B/\q+1<=x/\∃b:x<=aG.length,(aG.take x).Pairwise (lA O kf)/\∀i (d:i<aG.length),x-(q+1)<=i->i<x->kf aG[i]=kf (aG[x-1]'(LM b d))) ?_ ?_)
 .unfold Pn
  refine nQ (I:=λ x c1 t=>∃aG q,c1=(none,x,q)/\gW st t/\gL κ G t o P aG/\aG.Perm B/\q+1<=x/\∃b:x<=aG.length,(aG.take x).Pairwise (lA O kf)/\∀i (d:i<aG.length),x-(q+1)<=i->i<x->kf aG[i]=kf (aG[x-1]'(LM b d))) ?_ ?_
   ⟨B,0,rfl,e1,S,g0 _,nP _,hn,hs,λ i d u v=>by
    have:i=n+1-1:=ES u v
    subst this;rfl⟩
  .rintro x c1 t K b ⟨aG,q,rfl,z,f,p,g,a,u,v⟩
   have M:=p.length_eq;cb_eq;rw[Ah (by lia)];refine aQ (y1 c f (by simp_all) (by grind) ?_);cb_eq;cases hb:O.blt (kf (aG[x]'(by simp_all))) (kf (aG[x-1]'(by grind)))with
   |true=>
    rw[if_pos rfl];have g3:(aG.take (x+1)).Pairwise (lA O kf):=yW (r:=lA O kf) (n:=x) (λ _ _ _ h k=>ip k h) (Me K) (by simp_all) u (jW hb);by_cases L:q>0
    .rw[if_pos L]
     have U:o+x-(q+1)=o+(x-(q+1)):=LP g;rw[U];refine aQ (Po f (by simp) a λ V W X=>cI ?_);have J:=GN (O:=O) (kf:=kf) (q:=kf (aG[x-1]'(by grind))) aG (i:=x-(q+1)) (j:=x) (by simp) (H aG x q g a v);have l:=Cs aG (i:=x-(q+1)) (j:=x) (by simp);refine⟨_,0,rfl,z.trans W,X,l.trans p,nP _,by rw[l.length_eq];exact EW b M,GO J _ g3,λ i d k1 k2=>?_⟩
     have:i=x+1-1:=ES k1 k2
     subst this;rfl
    .rw[if_neg L]
     refine cI ⟨aG,0,rfl,z,f,p,nP _,EW b M,g3,λ i d k1 k2=>?_⟩
     have:i=x+1-1:=ES k1 k2
     subst this;rfl
   |false=>
    rw[if_neg cL];refine aQ (y1 c f (by grind) (by simp_all) ?_);cb_eq;cases hd:O.blt (kf (aG[x-1]'(by grind))) (kf (aG[x]'(by simp_all)))with
    |true=>rw[if_pos rfl];exact cI ⟨aG,x,q,rfl,z,f,p,g,a,u,v⟩
    |false=>
     rw[if_neg cL];have Y:kf (aG[x]'(by simp_all))=kf (aG[x-1]'(by grind)):=Kg hd hb;refine cI ⟨aG,q+1,rfl,z,f,p,by simp_all,EW b M,yW (r:=lA O kf) (n:=x) (λ _ _ _ h k=>ip k h) (Me K) (by simp_all) u hd,λ i d k1 k2=>?_⟩;show kf aG[i]=kf (aG[x]'(by simp_all));by_cases ci:i=x
     .subst ci;rfl
     .rw[Y]
      exact v i d (by simp_all) (Td k2 ci)
  .rintro c1 t ⟨aG,q,rfl,z,f,p,g,a,u,v⟩
   exact⟨aG,_,q,rfl,z,f,p,g,a,u,v⟩
 .rintro c1 t ⟨aG,x,q,rfl,z,f,p,g,a,u,v⟩
  rw[hF];have M:=p.length_eq;by_cases L:q>0
  .rw[if_pos L]
   refine aQ (GM (i:=x-(q+1)) (j:=x) f (LP g) rfl (by simp) a λ V W X=>?_);have J:=GN (O:=O) (kf:=kf) (q:=kf (aG[x-1]'(EL g a))) aG (i:=x-(q+1)) (j:=x) (by simp) (H aG x q g a v);have l:=Cs aG (i:=x-(q+1)) (j:=x) (by simp);have hl3:=l.length_eq;exact Pq c (z.trans W) X ((l.trans p).trans Z) (L7 g) (by lia) (GO J _ u) h (by lia) D
  .rw[if_neg L]
   exact Pq c z f (p.trans Z) (L7 g) a u h (by simp_all) D
def Yr{Q:Option Nat->aK->Prop}(c:fh prog w A s κ O kf G)(S:gL κ G st o P R)(d:0<R.length)(h:Ct O kf κ G st o P R Q):wpS (model prog w) A E s (countRun' o R.length) Q st:=by
 have v:(R.take 1).Pairwise (cc O kf):=by
  cases R with
  |nil=>cases d
  |cons x R=>exact zX _ _
 refine aQ (Pp c S (by decide) d v (λ n a g f b=>?_) rfl);cb_eq;by_cases c1:n=R.length
 .rw[if_pos (by simpa using c1)]
  exact cI (h n R st (gW.refl st) S (g0 _) a g f)
 rw[if_neg (by simpa using c1)];rcases b with b|⟨l,b⟩
 .exact absurd b c1
 by_cases c2:n>1
 .rw[if_pos c2]
  refine aQ (Yq (i:=0) (j:=n-1) c S (by rfl) (S3 a) d (rd l) ?_);cb_eq;cases y:O.blt (kf R[0]) (kf (R[n-1]'(rd l)))with
  |true=>rw[if_pos rfl];exact cI (h n R st (gW.refl st) S (g0 _) a g f)
  |false=>
   rw[if_neg cL];have e:∀x∈R.take n,kf x=kf R[0]:=λ x t=>by
    have hf:=Pl f (y0:=R[0]) (by rw[qu (by omega),en d]) x t;have m:=Pm f (z:=R[n-1]'(rd l)) (n:=n-1) (by rw[eY];lia) (by rw[qu (yf a),en (rd l)]) x t;exact Kg (ip m y) hf
   refine aQ (GM (i:=0) (j:=n) S rfl rfl (dn _) g λ B C u=>?_);rw[xy,oY,qC]at u;have p:((R.take n).reverse++R.drop n).Perm R:=by
    have:=Cs R (i:=0) (j:=n) (dn _)
    rwa [xy,oY,qC]at this
   have D:((R.take n).reverse++R.drop n).map kf=R.map kf:=by
    have:=GN (kf:=kf) R (i:=0) (j:=n) (dn _) (q:=kf R[0]) (by rw[qC];exact e)
    rwa [xy,oY,qC]at this
   have F:=p.length_eq;refine Pr (n:=n) c C u p (by lia) (GO D _ ?_) h F.symm (λ _=>rfl) λ _ _=>rfl
   refine yW (r:=lA O kf) (λ _ _ _ h k=>ip k h) a l ?_ (jW b);refine nK.mpr λ i j H I J=>?_
   show O.kle (kf (R.take n)[j]) (kf (R.take n)[i]);rw[e _ (lO I),e _ (lO H)];exact qH _
 .rw[if_neg c2]
  have:n=1:=by lia
  subst this;refine Pr (n:=1) c (gW.refl st) S (g0 _) (by assumption) ?_ h rfl (λ _=>rfl) λ _ _=>rfl
  exact yW (r:=lA O kf) (λ _ _ _ h k=>ip k h) a l (by
   cases R with
   |nil=>cases d
   |cons x R=>exact zX _ _) (jW b)
end
def Ys(xs:Array Keyed){i k:Nat}(h:i<=k)(a:k<xs.size):(bubble xs k (k-i)).toList=xs.toList.take i++(xs[k]::((xs.toList.take k).drop i++xs.toList.drop (k+1))):=by
 refine Ds λ j=>?_
 rw[hV,getElem?_bubble a _ (by simp)];have l1:(xs.toList.take i).length=i:=by rw[eY,dY];lia
 have l2:((xs.toList.take k).drop i).length=k-i:=by rw[iJ,eY,dY];exact SH a
 have b:k-(k-i)=i:=SA h;rw[b];by_cases c1:j<i
 .rw[if_neg (by lia),if_neg (by lia),nI (Bi l1 c1),qu c1,hV]
 .rw[oS (by simp_all),l1]
  by_cases c2:j=i
  .subst c2
   rw[if_pos rfl,An,sy,gj a]
  .rw[if_neg c2]
   obtain⟨d,c⟩:∃d,j-i=d+1:=⟨j-i-1,LI c1 c2⟩
   rw[c,qv];by_cases e:j<=k
   .rw[if_pos (by lia),nI (by grind),uV,qu (by grind),hV]
    congr 1;lia
   .rw[if_neg (by simp_all),oS (by grind),l2,uV,hV]
    congr 1
    grind
section
variable{prog:aR}{w:World}{A:aS}{E:Value->ao->Prop}{s:ao}{κ:jV}{O:fN}{kf:Keyed->O.α}{G:Keyed->Prop}{st:aK}{P R:List Keyed}{o:Nat}
def Pu(R:List Keyed){l k:Nat}(h:l<=k)(c:k<R.length):(R.take l++(R[k]::((R.take k).drop l++R.drop (k+1)))).Perm R:=by
 have e:=by
  have a:=gO k R;have b:=gO l (R.take k);rw[xx]at b
  calc R=R.take k++R.drop k:=a.symm
   _=(R.take l++(R.take k).drop l)++R[k]::R.drop (k+1):=by simp_all
   _=_:=fL _ _ _
 conv=>rhs;rw[e]
 exact List.perm_middle.symm.append_left _
def Yt(R:List Keyed){l k:Nat}(b:l<=k)(f:k<R.length)(s:(R.take k).Pairwise (cc O kf))(g:∀i (h:i<l),cc O kf (R[i]'(by lia)) R[k])(j:∀i (h:i<k),l<=i->cc O kf R[k] (R[i]'(L5 f h))):
  ((R.take l++(R[k]::((R.take k).drop l++R.drop (k+1)))).take (k+1)).Pairwise (cc O kf):=by
 have e:(R.take l++(R[k]::((R.take k).drop l++R.drop (k+1)))).take (k+1)=R.take l++R[k]::(R.take k).drop l:=by
  rw[<-qA,<-fL];exact Dy (by rw[cy,eY,eX,iJ,eY];grind)
 rw[e];have d:=gO l (R.take k);rw[xx,qD b]at d;rw[<-d]at s;obtain⟨m,s2,s3⟩:=lN.mp s;have n:∀x∈R.take l,cc O kf x R[k]:=λ x a=>by
  obtain⟨i,h,e⟩:=qx a;rw[eY]at h;rw[sE]at e;rw[<-e];exact g i (by lia)
 have o:∀x∈(R.take k).drop l,cc O kf R[k] x:=λ x a=>by
  obtain⟨i,h,e⟩:=qx a;rw[iJ,eY]at h;rw[Dt,sE]at e;rw[<-e];exact j _ (by grind) (tE)
 refine lN.mpr ⟨m,gQ.mpr ⟨o,s2⟩,λ x a y c=>?_⟩;rcases bI.mp c with rfl|c
 .exact n x a
 .exact s3 x a y c
def Yu{l k:Nat}{Q:Unit->aK->Prop}(S:gL κ G st o P R)(a:l<=k)(b:k<R.length)(h:∀t,gW st t->gL κ G t o P (R.take l++(R[k]::((R.take k).drop l++R.drop (k+1))))->Q () t):wpS (model prog w) A E s (moveDown' (o+k) (o+l)) Q st:=by
 rw[moveDown'_eq];refine sO (h _ ⟨rfl,rfl,rfl⟩ ⟨S.k,?_,S.p,λ x c=>S.g x ((Pu R a b).mem_iff.mp c)⟩)
 show(bubble (arrOf st) (o+k) (o+k-(o+l))).toList=_
 have z:(arrOf st).size=o+R.length:=by rw[<-dY,S.l,cy,S.p]
 rw[Ys _ (by simp_all) (by simp_all),S.l];have e:(P++R).take (o+l)=P++R.take l:=by rw[<-S.p,xv,iI (tE),o9]
 have d:(P++R).take (o+k)=P++R.take k:=by rw[<-S.p,xv,iI (tE),o9]
 have f:(arrOf st)[o+k]'(by simp_all)=R[k]:=by
  have:=S.at k
  rw[gj (by simp_all),en b]at this;exact hX this
 rw[e,d,f,wx P _ S.p,qE,wx P _ S.p,fL]
def Yv{n ok:Nat}{Q:Bool->aK->Prop}(c:fh prog w A s κ O kf G)(S:gL κ G st o P R)(M:n<=R.length)(N:0<ok)(z:ok<=n)(B:(R.take ok).Pairwise (cc O kf))
  (h:∀a t,gW st t->gL κ G t o P a->a.Perm R->(a.take n).Pairwise (cc O kf)->Q true t):wpS (model prog w) A E s (binarySort' o n ok) Q st:=by
 refine aQ (sP (nQ (I:=λ k c1 t=>c1=(none,())/\∃a,gW st t/\gL κ G t o P a/\a.Perm R/\(a.take (min k n)).Pairwise (cc O kf)) (Q:=λ c1 t=>c1=(none,())/\∃a,gW st t/\gL κ G t o P a/\a.Perm R/\(a.take n).Pairwise (cc O kf)) ?_ ?_ ?_) ?_)
 .rintro k c1 t C D ⟨rfl,a,m,d,p,g⟩
  have T:=p.length_eq;rw[show min k n=k by lia]at g;have b:k<a.length:=by lia
  cb_eq;refine aQ (OW (P:=λ i=>if h:i<k then !O.blt (kf (a[k]'b)) (kf (a[i]'(by lia)))else false) (mid:=λ l r=>(l+r) / 2) (n:=k) (λ l r h=>⟨by lia,by lia⟩) (λ l r v f W q=>?_) (λ i j v f x=>?_) (dn _) (bc _) (bc _) (λ i h=>absurd h (Aj _)) (λ i v f=>absurd f (sJ.mpr v)) λ l y F H=>?_)
  .refine aQ (y1 c d b (by lia) ?_)
   rw[dif_pos (by lia)]at q;revert q;cases O.blt (kf (a[k]'b)) (kf (a[(l+r) / 2]'(by lia)))<;>exact λ q=>cI q
  .rw[dif_pos f]at x
   rw[dif_pos (by lia)];by_cases e:i=j
   .subst e;exact x
   .have:=nK.mp g i j (by rw[eY];lia) (by rw[eY];lia) (by lia)
    rw[sE,sE]at this;exact(xk _).mpr (ip this ((xk _).mp x))
  .refine aQ (Yu d y b λ J K L=>cI ⟨rfl,_,m.trans K,L,(Pu a y b).trans p,?_⟩)
   rw[show min (k+1) n=k+1 by lia];exact Yt a y b g (λ i u=>by have:=F i u;rw[dif_pos (by lia)]at this;exact(xk _).mp this) λ i u f=>by have:=H i f u;rw[dif_pos u]at this;exact jW ((Bool.not_eq_false' _).mp this)
 .rintro c1 t ⟨rfl,a,m,d,p,g⟩
  rw[show min (max (max ok 1) n) n=n by lia]at g;exact⟨rfl,a,m,d,p,g⟩
 .rw[show max ok 1=ok by lia,show min ok n=ok by simp_all]
  exact⟨rfl,R,gW.refl st,S,g0 _,B⟩
 .rintro c1 t ⟨rfl,a,m,d,p,g⟩
  exact cI (h a t m d p g)
end
def gy(O:fN)(kf:Keyed->O.α):Nat->List (List Keyed)->List (Nat×Nat×Nat)->Prop
 |_,[],[]=>True
 |o,x::s,p::ps=>p.1=o/\p.2.1=x.length/\0<x.length/\x.Pairwise (cc O kf)/\gy O kf (o+x.length) s ps
 |_,_,_=>False
section
variable{O:fN}{kf:Keyed->O.α}
theorem gy.len:∀{o:Nat} {s:List (List Keyed)} {ps:List (Nat×Nat×Nat)},gy O kf o s ps->s.length=ps.length
 |_,[],[],_=>rfl
 |_,_::_,_::_,h=>congrArg _ (gy.len h.2.2.2.2)
 |_,[],_::_,h=>h.elim
 |_,_::_,[],h=>h.elim
theorem gy.few:∀{o:Nat} {s:List (List Keyed)} {ps:List (Nat×Nat×Nat)},gy O kf o s ps->ps.length<=s.flatten.length
 |_,[],[],_=>bc _
 |_,x::_,_::_,h=>by
  have:=gy.few h.2.2.2.2
  have:=h.2.2.1
  grind
 |_,[],_::_,h=>h.elim
 |_,_::_,[],h=>h.elim
theorem gy.snoc{x:List Keyed}{q:Nat}(a:0<x.length)(b:x.Pairwise (cc O kf)):∀{o:Nat} {s:List (List Keyed)} {ps:List (Nat×Nat×Nat)},gy O kf o s ps->gy O kf o (s++[x]) (ps++[(o+s.flatten.length,x.length,q)])
 |_,[],[],_=>⟨rfl,rfl,a,b,trivial⟩
 |o,y::s,p::ps,h=>by
  have:=gy.snoc (q:=q) a b h.2.2.2.2
  rw[qE,<-cy]at this;exact⟨h.1,h.2.1,h.2.2.1,h.2.2.2.1,this⟩
 |_,[],_::_,h=>h.elim
 |_,_::_,[],h=>h.elim
theorem gy.mod{f:Nat×Nat×Nat->Nat×Nat×Nat}(hf:∀p,(f p).1=p.1/\(f p).2.1=p.2.1):∀{o:Nat} {s:List (List Keyed)} {ps:List (Nat×Nat×Nat)} (j:Nat),gy O kf o s ps->gy O kf o s (ps.modify j f)
 |_,[],[],j,h=>by simp_all
 |o,x::s,p::ps,0,h=>⟨(hf p).1.trans h.1,(hf p).2.trans h.2.1,h.2.2⟩
 |o,x::s,p::ps,j+1,h=>⟨h.1,h.2.1,h.2.2.1,h.2.2.2.1,gy.mod hf j h.2.2.2.2⟩
 |_,[],_::_,_,h=>h.elim
 |_,_::_,[],_,h=>h.elim
theorem gy.two:∀{o:Nat} {s:List (List Keyed)} {ps:List (Nat×Nat×Nat)} (i:Nat),gy O kf o s ps->i+1<ps.length->∃S X Y b q d,s=S++X::Y::b/\ps[i]? =some (o+S.flatten.length,X.length,q)/\ps[i+1]? =some (o+S.flatten.length+X.length,Y.length,d)/\
  0<X.length/\0<Y.length/\X.Pairwise (cc O kf)/\Y.Pairwise (cc O kf)/\∀M,M.length=X.length+Y.length->M.Pairwise (cc O kf)->gy O kf o (S++M::b) ((ps.set i (o+S.flatten.length,X.length+Y.length,q)).eraseIdx (i+1))
 |o,x::y::s,p::n::ps,0,h,_=>by
  obtain⟨f,g,j,k,k1,k2,k3,k4,k5⟩:=h;refine⟨[],x,y,s,p.2.2,n.2.2,rfl,?_,?_,j,k3,k,k4,λ M c l=>?_⟩
  .rw[sy,xu,mH,xF,<-f,<-g]
  .rw[qv,sy,xu,mH,xF,<-k1,<-k2]
  .refine⟨rfl,c.symm,by lia,l,?_⟩
   rw[c,<-qE];exact k5
 |o,x::s,p::ps,i+1,h,a=>by
  obtain⟨f,g,j,k,r⟩:=h;obtain⟨S,X,Y,b,q,d,e,t,u,v,w,z,A,B⟩:=gy.two i r (by rw[eX]at a;simp_all);have m:o+(x::S).flatten.length=o+x.length+S.flatten.length:=by rw[iV,cy];exact EN
  refine⟨x::S,X,Y,b,q,d,by rw[e];rfl,by rw[qv,t,m],by rw[qv,u,m],v,w,z,A,λ M c l=>?_⟩;rw[m];exact⟨f,g,j,k,B M c l⟩
 |_,_,[],_,_,a=>by simp at a
 |_,_,[_],0,_,a=>by simp at a
 |_,[],_::_,_,h,_=>h.elim
 |_,[_],_::_::_,0,h,_=>h.2.2.2.2.elim
end
section
variable{prog:aR}{w:World}{A:aS}{E:Value->ao->Prop}{s:ao}{κ:jV}{O:fN}{kf:Keyed->O.α}{G:Keyed->Prop}{st:aK}{T R:List Keyed}{g:List (List Keyed)}
structure hQ(κ:jV)(O:fN)(kf:Keyed->O.α)(T:List Keyed)(st:aK)(g:List (List Keyed))(R:List Keyed):Prop where
 k:cM st=κ
 f:iX st=none
 l:(arrOf st).toList=g.flatten++R
 pm:(arrOf st).toList.Perm T
 pr:gy O kf 0 g (cY st).toList
def Pv{i:Nat}{Q:Bool->aK->Prop}(c:fh prog w A s κ O kf G)(n:∀x∈T,G x)(N:hQ κ O kf T st g R)(b:i+1<(cY st).size)
  (h:∀a t,hQ κ O kf T t a R->a.flatten.length=g.flatten.length->(cY t).size+1=(cY st).size->Q true t):wpS (model prog w) A E s (mergeAt' i) Q st:=by
 obtain⟨S,X,Y,d,q,F,e,f,j,o,r,u,v,y⟩:=N.pr.two i (by simpa using b);rw[hV,uZ]at f j;have L:(arrOf st).toList=S.flatten++(X++(Y++(d.flatten++R))):=by rw[N.l,e];simp
 refine Yo c N.k N.f f j L rfl rfl rfl rfl o r (λ x z=>n x (N.pm.mem_iff.mp z)) u v λ M t k1 B C k l D=>?_
 have m:M.length=X.length+Y.length:=by rw[l.length_eq,cy]
 have p:(cY t).toList=((cY st).toList.set i (S.flatten.length,X.length+Y.length,q)).eraseIdx (i+1):=by
  rw[C,Array.toList_eraseIdxIfInBounds,Df]
 refine h (S++M::d) t ⟨k1,B,by rw[k];simp,?_,?_⟩ ?_ ?_
 .refine List.Perm.trans ?_ N.pm
  rw[k,L];refine Af _ ?_;rw[<-fL X];exact l.append_right _
 .rw[p]
  have:=y M m D
  rwa [uZ]at this
 .rw[e]
  simp[m];lia
 .rw[<-dY,p,List.length_eraseIdx_of_lt (by rw[nN,dY];exact b),nN,dY]
  lia
end
def Pw(p:Nat):StateT aK Sem (ForInStep (Option Unit×Unit)):=get>>=λ s=>match (if (cY s).size>1 then(cY s)[(cY s).size-2]? else none)with
 |some (_,_,o)=>if o<=p then pure (.done (none,()))else mergeAt' ((cY s).size-2)>>=λ b=>if (!b)=true then pure (.done (some (),()))else pure (.yield (none,()))
 |_=>pure (.done (none,()))
def GP(l n:Nat):StateT aK Sem (ForInStep (Option Unit×Nat)):=modify (λ s=>DQ s ((cY s).push (l,n,0)))>>=λ _=>pure (.yield (none,l+n))
def Cu(i l n:Nat):StateT aK Sem (ForInStep (Option Unit×Nat)):=get>>=λ s=>match (cY s).back? with
 |some (b,a,_)=>forIn [0:i] ((none,()):Option Unit×Unit) (λ _ _=>Pw (power' i (2*b+a) (2*b+a+a+n) i))>>=λ c=>match c.1 with
  |some r=>pure (.done (some r,l))
  |none=>modify (λ s=>DQ s ((cY s).modify ((cY s).size-1) λ x=>(x.1,x.2.1,power' i (2*b+a) (2*b+a+a+n) i)))>>=λ _=>GP l n
 |none=>GP l n
def Cv(s l:Nat):StateT aK Sem (ForInStep (Option Unit×Nat)):=if l ≥ s then pure (.done (none,l))else countRun' l (s-l)>>=λ r=>match r with
 |some m=>if m<u3 s s 0 then liftM (rule "list.sort.binary-insertion")>>=λ _=>binarySort' l (min (s-l) (u3 s s 0)) m>>=λ b=>if (!b)=true then pure (.done (some (),l))else Cu s l (min (s-l) (u3 s s 0))
  else Cu s l m
 |none=>pure (.done (some (),l))
def GQ{α:Type}{p:Prop}[Decidable p]{a b c d:α}(h:a=c)(k:b=d):(if p then a else b)=if p then c else d:=by rw[h,k]
section
variable{prog:aR}{w:World}{A:aS}{E:Value->ao->Prop}{s:ao}{κ:jV}{O:fN}{kf:Keyed->O.α}{G:Keyed->Prop}{st:aK}{T R:List Keyed}{g:List (List Keyed)}
def Yw{l N:Nat}{P:List Keyed}{Q:Option Nat->aK->Prop}(c:fh prog w A s κ O kf G)(S:gL κ G st l P R)(n:0<R.length)(h:Ct O kf κ G st l P R Q)(a:N=R.length):wpS (model prog w) A E s (countRun' l N) Q st:=by
 subst a;exact Yr c S n h
def hQ.moved{a:List Keyed}{s:aK}{l:Nat}(N:hQ κ O kf T st g R)(e:gW st s)(S:gL κ G s l g.flatten a)(p:a.Perm R):hQ κ O kf T s g a:=
 ⟨e.k.trans N.k,e.f.trans N.f,S.l,by rw[S.l];have:=N.pm;rw[N.l]at this;exact(p.append_left _).trans this,by rw[e.p];exact N.pr⟩
theorem hQ.push{n:Nat}(N:hQ κ O kf T st g R)(a:0<n)(h:n<=R.length)(sn:(R.take n).Pairwise (cc O kf)):hQ κ O kf T (DQ st ((cY st).push (g.flatten.length,n,0))) (g++[R.take n]) (R.drop n):=by
 have l:(R.take n).length=n:=by rw[eY];lia
 refine⟨N.k,N.f,?_,N.pm,?_⟩
 .show(arrOf st).toList=_
  rw[N.l,uU,Dn,fL,gO]
 .show gy O kf 0 _ ((cY st).push _).toList
  rw[su]
  have:=gy.snoc (q:=0) (by lia) sn N.pr
  rwa [uZ,l]at this
def Yx{α:Type}{m m':StateT aK Sem α}{Q:α->aK->Prop}(e:m=m')(h:wpS (model prog w) A E s m' Q st):wpS (model prog w) A E s m Q st:=e▸h
def Yy{p:Nat}{Q:ForInStep (Option Unit×Unit)->aK->Prop}(c:fh prog w A s κ O kf G)(f:∀x∈T,G x)(N:hQ κ O kf T st g R)
  (h:∀e t,hQ κ O kf T t e R->e.flatten.length=g.flatten.length->Q (.done (none,())) t/\Q (.yield (none,())) t):wpS (model prog w) A E s (Pw p) Q st:=by
 refine aQ (nV ?_);by_cases d:(cY st).size>1
 .obtain⟨⟨k,m,n⟩,i⟩:∃u,(cY st)[(cY st).size-2]? =some u:=⟨_,gj (by lia)⟩
  rw[if_pos d,i];cb_eq;split
  .exact cI (h g st N rfl).1
  .exact aQ (Pv c f N (by lia) λ a b j l _=>cI (h a b j l).2)
 .rw[if_neg d]
  exact cI (h g st N rfl).1
def Px{i l n:Nat}{Q:ForInStep (Option Unit×Nat)->aK->Prop}(c:fh prog w A s κ O kf G)(p:∀x∈T,G x)(N:hQ κ O kf T st g R)(o:g.flatten.length=l)(q:0<n)(r:n<=R.length)(sn:(R.take n).Pairwise (cc O kf))
  (h:∀e t,hQ κ O kf T t e (R.drop n)->e.flatten.length=l+n->Q (.yield (none,l+n)) t):wpS (model prog w) A E s (Cu i l n) Q st:=by
 have put:∀e b,hQ κ O kf T b e R->e.flatten.length=l->wpS (model prog w) A E s (GP l n) Q b:=λ e b u l1=>by
  subst l1;exact aQ (sO (cI (h _ _ (u.push q r sn) (by rw[uU,Dn,cy,eY];lia))))
 refine aQ (nV ?_)
 rcases(cY st).back? with _|⟨B,C,D⟩
 .exact put g st N o
 refine aQ (sP (nQ (I:=λ _ c t=>c=(none,())/\∃e,hQ κ O kf T t e R/\e.flatten.length=l) (Q:=λ c t=>c=(none,())/\∃e,hQ κ O kf T t e R/\e.flatten.length=l) ?_ (λ _ _ z=>z) ⟨rfl,g,N,o⟩) ?_)
 .intro y c2 f _ _ ⟨_,e,d,j⟩
  exact Yy c p d λ a v k m=>⟨⟨rfl,a,k,m.trans j⟩,rfl,a,k,m.trans j⟩
 .rintro c2 f ⟨rfl,e,d,j⟩
  refine aQ (sO (put e _ ⟨d.k,d.f,d.l,d.pm,?_⟩ j));show gy O kf 0 _ ((cY f).modify _ _).toList;rw[Array.toList_modify];refine gy.mod ?_ _ d.pr;exact λ _=>⟨rfl,rfl⟩
def Yz{o:Nat}{Q:ForInStep (Option Unit×Nat)->aK->Prop}(c:fh prog w A s κ O kf G)(a:∀x∈T,G x)(r:∀n,0<n->0<u3 n n 0)(N:hQ κ O kf T st g R)(l:g.flatten.length=o)(q:R=[]->Q (.done (none,o)) st)
  (h:∀n e t u,hQ κ O kf T t e u->e.flatten.length=o+n->0<n->Q (.yield (none,o+n)) t):wpS (model prog w) A E s (Cv T.length o) Q st:=by
 have K:o+R.length=T.length:=by
  have:=N.pm.length_eq
  rwa [N.l,cy,l]at this
 unfold Cv;by_cases f:o ≥ T.length
 .rw[if_pos f]
  exact cI (q (uR.mp (by lia)))
 rw[if_neg f];refine aQ (Yw c ⟨N.k,N.l,l,λ x v=>a x (N.pm.mem_iff.mp (by rw[N.l];simp[v]))⟩ (by lia) (λ m I y z S p b J i=>?_) (by lia));have j:=N.moved z S p;have l1:=p.length_eq;cb_eq;split
 .have B:=r T.length (by lia)
  refine aQ (u1 (mQ ⟨rfl,aQ (Yv c S (by lia) b (by lia) i λ aG C D F k H=>?_)⟩));have l2:=k.length_eq;exact Px c a (j.moved D F k) l (by lia) (by lia) H λ e t d l'=>h _ e t _ d l' (by lia)
 .exact Px c a j l b (by lia) i λ e t d l'=>h m e t _ d l' b
def YA{Q:Unit->aK->Prop}(c:fh prog w A s κ O kf G)(k:(arrOf st).toList=T)(B:∀x∈T,G x)(C:cM st=κ)(hf:iX st=none)(D:cY st=#[])(F:∀n,0<n->0<u3 n n 0)
  (h:∀t,iX t=none->(arrOf t).toList.Perm T->(arrOf t).toList.Pairwise (cc O kf)->Q () t):wpS (model prog w) A E s sortRuns' Q st:=by
 have z:(arrOf st).size=T.length:=by rw[<-k,dY]
 rw[sortRuns'_eq];refine aQ (nV ?_);cb_eq;rw[z];refine aQ (sP (nQ (I:=λ x c1 t=>∃g R l,c1=(none,l)/\hQ κ O kf T t g R/\g.flatten.length=l/\x<=l) (Q:=λ c1 t=>∃g l,c1=(none,l)/\hQ κ O kf T t g []) ?_ ?_ ⟨[],T,0,rfl,⟨C,hf,k,by rw[k],by rw[D];exact trivial⟩,rfl,bc _⟩) ?_)
 .rintro x c1 j _ H ⟨g,R,l,rfl,N,o,u⟩
  refine Yx (m':=Cv T.length l) ?_ (Yz c B F N o (λ e=>⟨g,l,rfl,e▸N⟩) λ n d t J K l' V=>⟨d,J,_,rfl,K,l',by lia⟩);unfold Cv;cb_eq;refine GQ rfl (congrArg _ (funext λ x=>?_));cases x with
  |none=>rfl
  |some m=>
   refine GQ (congrArg _ (funext λ _=>congrArg _ (funext λ b=>GQ rfl ?_))) ?_<;>
   .unfold Cu
    refine congrArg _ (funext λ st=>?_)
    rcases(cY st).back? with _|⟨W,X,q⟩
    .rfl
    .cb_eq
     refine congr (congrArg _ (congrArg _ (funext λ _=>funext λ _=>congrArg _ (funext λ st=>?_)))) (funext λ c=>?_)
     .rcases(if (cY st).size>1 then(cY st)[(cY st).size-2]? else none)with _|⟨a,b,c⟩<;>rfl
     .rcases c with ⟨_|r,_⟩<;>rfl
 .rintro c1 j ⟨g,R,l,rfl,N,o,u⟩
  have L:=N.pm.length_eq;rw[N.l,cy,o]at L
  have:R=[]:=uR.mp (by lia)
  subst this;exact⟨g,l,rfl,N⟩
 .rintro c1 j ⟨g,l,rfl,N⟩
  have i:(cY j).size<=T.length:=by
   have M:=N.pr.few;have P:=N.pm.length_eq;rw[N.l,fo]at P;rw[dY]at M;lia
  refine aQ (sP (nQ (I:=λ x c2 t=>c2=(none,())/\∃g,hQ κ O kf T t g []/\(cY t).size<=max 1 (T.length-x)) (Q:=λ c2 t=>c2=(none,())/\∃g,hQ κ O kf T t g []/\(cY t).size<=1) ?_ ?_ ⟨rfl,g,N,by lia⟩) ?_)
  .rintro x c2 f _ H ⟨rfl,g,N,i⟩
   refine aQ (nV ?_);by_cases v:(cY f).size<=1
   .rw[if_pos v]
    exact cI ⟨rfl,g,N,v⟩
   .rw[if_neg v]
    exact aQ (Pv c B N (by split<;>lia) λ d S U Y s3=>cI ⟨rfl,d,U,by lia⟩)
  .rintro c2 f ⟨rfl,g,N,i⟩
   exact⟨rfl,g,N,by lia⟩
  .rintro c2 f ⟨rfl,g,N,i⟩
   refine cI (h f N.f N.pm ?_);have y:g.length<=1:=by rw[N.pr.len,dY];exact i
   have:=N.pr
   rw[N.l,fo]
   match g,y,this with
   |[],_,_=>exact .nil
   |[x],_,q=>
    rw[Dn];cases e:(cY f).toList with
    |nil=>rw[e]at q;exact q.elim
    |cons p ps=>rw[e]at q;exact q.2.2.2.1
   |_::_::_,y,_=>rw[eX,eX]at y;lia
end
theorem Py:∀(f n r:Nat),0<n->0<u3 f n r
 |0,n,r,h=>show 0<n+r by exact Mf h
 |f+1,n,r,h=>by
  rw[minRun'_succ];split
  .exact Mf h
  .exact Py f _ _ (by lia)
theorem Pz:∀{v:List Value} {ns m:List Int},dE v ns->dE v m->ns=m
 |_,_,_,.nil,h=>by cases h;rfl
 |_,_,_,.cons n t r,h=>by
  cases h with
  |cons _ _ a=>rw[Pz r a]
def kI.uniq{h:Heap}{v:Value}{ns m:List Int}(a:kI h (v,ns))(b:kI h (v,m)):ns=m:=by
 obtain⟨x,o,xs,k,e,g,_,i,j,_⟩:=a;obtain⟨y,n,s,p,f,c,_,d,l,_⟩:=b;rw[e]at f;cases f;rw[g]at c;cases c;rw[i]at d;cases d;exact Pz j l
open Classical in
def nz(h:Heap)(p:Keyed):List Int:=if q:∃ns,kI h (p.1,ns)then q.choose else[]
def GR{h:Heap}{p:Keyed}{ns:List Int}(q:kI h (p.1,ns)):nz h p=ns:=by
 have a:∃ns,kI h _:=⟨ns,q⟩
 unfold nz;rw[dif_pos a];exact a.choose_spec.uniq q
section
variable{prog:aR}{w:World}{A:aS}{E:Value->ao->Prop}{s:ao}
def YB:fh prog w A s (tuples' true) Gs (nz s.heap) (λ p=>∃ns,kI s.heap (p.1,ns)):=⟨λ x y ⟨ns,h⟩ ⟨o,c⟩ C d=>by
 rw[GR h,GR c]at d;obtain⟨a,q,xs,k,e,f,_,g,i,_⟩:=h;obtain⟨b,r,t,u,j,l,_,m,n,_⟩:=c;rw[e,j];exact XH f g l m i n d⟩
def PA:∀z:pw,((z.map (·.1)).zip (z.map (·.1)))=z.map λ p=>(p.1,p.1)
 |[]=>rfl
 |p::z=>by grind
def YC{a:Addr}{b:pw}{n:Nat}{P:PySem.Fin->ao->Prop}(D:s.heap.get? a=some (e6 "list" (b.map (·.1)).toArray n))(hz:∀p∈b,kI s.heap p)(hl:b.length<=4000)
  (h:∀c:pw,c.Perm b->my (c.map (·.2))->P (.done (.ret .none)) {s with heap:=Ar s.heap a (b.map (·.1)) (c.map (·.1)).toArray}):
  wpAny (model prog w) A (ia.«list.sort» ⟨[.ref a],[]⟩) P E s:=by
 have K:(b.map (·.1)).length=b.length:=bb _;have m:(b.map (·.1)).length<=aI:=by rw[mM];lia
 obtain⟨u,y⟩:∃u,(s.heap.update a (kU λ _=>(#[]:Array Value))).get? a=some (e6 "list" #[] u):=⟨_,xH D λ _=>#[]⟩
 have f:(((s.heap.update a (kU λ _=>(#[]:Array Value))).push (e6 "tuple" (b.map (·.1)).toArray 0)).push (e6 "list" #[] 0)).get? a=some (e6 "list" #[] u):=bj _ (bj _ y);have g:∀p∈b,kI (((s.heap.update a (kU λ _=>(#[]:Array Value))).push (e6 "tuple" (b.map (·.1)).toArray 0)).push (e6 "list" #[] 0)) p:=λ p B=>by
  obtain⟨x,o,xs,k,V,H,U,W⟩:=hz p B;refine⟨x,o,xs,k,V,?_,U,W⟩;have I:x≠a:=λ z=>by
   subst z;rw[D]at H;cases H;exact absurd U (show¬(ma "list"=ma "tuple")by decide)
  refine bj _ (bj _ ?_);rw[tw _ _ _ _ I];exact H
 rw[list_sort_plain];refine ak (listItems_at D rfl (ak (listUpdate_at D rfl ?_ (by rw[cW];exact m) (dn _))));refine ak (DO y rfl (ak (wpAny_newTuple ?_ (by show(b.map (·.1)).length<=_;exact m))));refine ak (D4 (iL ?_) (dn _));show wpAny (model prog w) A _ P E {s with heap:=((s.heap.update a (kU λ _=>(#[]:Array Value))).push (e6 "tuple" (b.map (·.1)).toArray 0)).push (e6 "list" #[] 0)};obtain⟨s6,j⟩:∃s6:ao,s6={s with heap:=((s.heap.update a (kU λ _=>(#[]:Array Value))).push (e6 "tuple" (b.map (·.1)).toArray 0)).push (e6 "list" #[] 0)}:=⟨_,rfl⟩
 have J:s6.heap=((s.heap.update a (kU λ _=>(#[]:Array Value))).push (e6 "tuple" (b.map (·.1)).toArray 0)).push (e6 "list" #[] 0):=by rw[j]
 rw[<-J]at f g;rw[<-j];cb_eq;have C:∀c:pw,c.Perm b->my (c.map (·.2))->wpAny (model prog w) A (AN (.ref a) (λ _=>(c.map (·.1)).toArray)>>=λ _=>ret .none) P E s6:=λ c F L=>by
  refine ak (listUpdate_at f rfl ?_ (dn _) (by show(c.map (·.1)).toArray.size<=_;rw[cW,bb,F.length_eq];lia));refine aB ?_
  have:=h c F L
  unfold Ar at this;rw[j];exact this
 by_cases i:(b.map (·.1)).toArray.size<2
 .rw[if_pos i,if_pos i]
  refine ak (aB ?_);rw[StateT.run_pure];refine ak (aB ?_);cb_eq;refine ak (DO f rfl ?_);have M:my (b.map (·.2)):=by
   rw[cW,K]at i
   match b,i with
   |[],_=>exact .nil
   |[p],_=>exact zX _ _
   |_::_::_,i=>rw[eX,eX]at i;lia
  have e:((b.map (·.1)).toArray.zip (b.map (·.1)).toArray).map (·.2)=(b.map (·.1)).toArray:=by
   apply Dh;rw[Jg,Jh,PA,fW];rfl
  have:=C b (g0 _) M
  show wpAny (model prog w) A (AN (.ref a) (λ _=>((b.map (·.1)).toArray.zip (b.map (·.1)).toArray).map (·.2))>>=_) P E _;rw[e];simp only[bne_self_eq_false,jq,if_false];exact this
 .rw[if_neg i,if_neg i]
  have X:2<=b.length:=by rw[cW,K]at i;simp_all
  obtain⟨fs,Y,Z,f3⟩:=(OU g).firsts;refine ak (PySem.W.kat_kind (T:=.type "int") Y (by rw[Z,K];lia) (λ v hv=>?_) (by decide) ?_)
  .obtain⟨n,t,rfl⟩:=f3 v hv
   exact Sn
  rw[show(ma "int" !=ma "tuple")=true by decide];refine ak (iq (YA (κ:=tuples' true) (O:=Gs) (kf:=nz s6.heap) (G:=λ p=>∃ns,kI s6.heap (p.1,ns)) (T:=b.map λ p=>(p.1,p.1)) (Q:=λ _ d=>iX d=none/\(arrOf d).toList.Perm (b.map λ p=>(p.1,p.1))/\(arrOf d).toList.Pairwise (cc Gs (nz s6.heap))) YB ?_ ?_ rfl rfl rfl (λ n hn=>Py n n 0 hn) λ d N R S=>⟨N,R,S⟩) (λ r s' M=>?_) λ _ _ e=>e)
  .show((b.map (·.1)).toArray.zip (b.map (·.1)).toArray).toList=_
   rw[Jh,PA]
  .intro x hx
   obtain⟨p,B,rfl⟩:=cX.mp hx;exact⟨p.2,g p B⟩
  .obtain⟨⟨⟩,d⟩:=r
   obtain⟨l,N,R,S⟩:=M;replace l:=l.symm;subst l;refine ak (DO f rfl ?_);have u:(b.map λ p=>(p.1,p.1)).map (λ q:Keyed=>(q.2,nz s6.heap q))=b:=by
    rw[fW]
    conv=>rhs;rw[<-xA b]
    refine sC λ p B=>?_
    show(p.1,nz s6.heap (p.1,p.1))=p
    rw[GR (g p B)]
   have F:((arrOf d).toList.map λ q:Keyed=>(q.2,nz s6.heap q)).Perm b:=by
    have:=R.map λ q:Keyed=>(q.2,nz s6.heap q)
    rwa [u]at this
   have L:my (((arrOf d).toList.map λ q:Keyed=>(q.2,nz s6.heap q)).map (·.2)):=by
    unfold my;rw[fW,uX];exact S
   have e2:(arrOf d).map (·.2)=(((arrOf d).toList.map λ q:Keyed=>(q.2,nz s6.heap q)).map (·.1)).toArray:=by
    rw[fW];apply Dh;rw[Jg];rfl
   have:=C _ F L
   rw[e2,N];simp only[bne_self_eq_false,jq,if_false];exact this
end
section
variable{prog:aR}{w:World}{A:aS}{E:Value->ao->Prop}{s:ao}
def YD{a:pw}{Q:Value->ao->Prop}(hz:∀p∈a,kI s.heap p)(v:a.length<4000)
  (h:∀(z:pw) h' e,z.Perm a->my (z.map (·.2))->(∀b o,s.heap.get? b=some o->h'.get? b=some o)->h'.get? s.heap.objs.size=some (e6 "list" (z.map (·.1)).toArray e)->Q (.ref s.heap.objs.size) {s with heap:=h'}):
  wpAny (model prog w) A (qL (a.map (·.1))>>=λ l=>gB [l] (call (.builtin "list.sort") [l])>>=λ _=>ret l) (λ f s'=>∃r,f= .done (.ret r)/\Q r s') E s:=by
 have K:(a.map (·.1)).length=a.length:=bb _;refine ak (D4 ?_ (by rw[mM];lia));have L:(s.heap.push (e6 "list" (a.map (·.1)).toArray 0)).get? s.heap.objs.size=some (e6 "list" (a.map (·.1)).toArray 0):=dr _ rfl;refine ak (iL (jX slot_list_sort ⟨_,L,rfl⟩ entry_list_sort ?_ (args_list_sort _)));refine YC (s:={s with heap:=s.heap.push (e6 "list" (a.map (·.1)).toArray 0)}) L (λ p g=>?_) (by lia) λ z i j=>⟨_,rfl,?_⟩
 .obtain⟨x,o,xs,k,c,m,q⟩:=hz p g
  exact⟨x,o,xs,k,c,bj _ m,q⟩
 have n:∀b o,s.heap.get? b=some o->b≠s.heap.objs.size:=λ b o e=>cH (bE e)
 obtain⟨c,d⟩:∃c,((s.heap.push (e6 "list" (a.map (·.1)).toArray 0)).update s.heap.objs.size (kU λ _=>(#[]:Array Value))).get? s.heap.objs.size=some (e6 "list" #[] c):=⟨_,xH L λ _=>#[]⟩
 have t:=bj (e6 "list" #[] 0) (bj (e6 "tuple" (a.map (·.1)).toArray 0) d);have u:=xH t (λ _=>(z.map (·.1)).toArray);refine aB ⟨_,rfl,h z _ _ i j (λ b o e=>?_) u⟩;unfold Ar;rw[tw _ _ _ _ (n b o e)];refine bj _ (bj _ ?_);rw[tw _ _ _ _ (n b o e)];exact bj _ e
end
section
variable{X:aC}
def PB{C:bF}(I:Inv X C σ H s)(t:iG X.K H vs nss)(a:vs.length<4000)(q:yR H vs nss Q)
  (j:∃h g,s1={s with heap:=h,toks:=g}/\s.heap.objs.size<=h.objs.size/\∀b o,s.heap.get? b=some o->h.get? b=some o){i:pw}(hz:i.Perm ((vs.map ki).zip nss))(u:us=i.map (·.1)):
  wpAny (bJ X) X.A.in1 (qL us>>=λ l=>gB [l] (call (.builtin "list.sort") [l])>>=λ _=>ret l) (λ n s'=>∃r,n= .done (.ret r)/\hh X C σ Q r s') X.xe s1:=by
 obtain⟨h,g,rfl,z,keep⟩:=j;subst u;have E:∀p∈i,kI h p:=λ p w=>by
  obtain⟨x,o,xs,k,F,G,J⟩:=(t.at I).all p (hz.mem_iff.mp w);exact⟨x,o,xs,k,F,keep _ _ G,J⟩
 have K:i.length<4000:=by
  rw[hz.length_eq,JQ,bb,<-t.len,Am];exact a
 refine YD (s:={s with heap:=h,toks:=g}) E K λ c h' e L M N O=>?_
 have m:(vs.map ki).zip nss=(vs.zip nss).map λ p=>(ki p.1,p.2):=by rw[List.zip_map_left];rfl
 obtain⟨ws,w1,D⟩:=Gx (f:=λ p:V×List Int=>(ki p.1,p.2)) (L.trans hz) m;have y:H h.objs.size=none:=I.hok.fresh z;have d:∀v∈ws.map (·.1),RelV v (ki v):=λ v P=>by
  obtain⟨p,w,rfl⟩:=cX.mp P;exact t.refs p.1 (uY (w1.mem_iff.mp w)).1
 have A:c.map (·.1)=(ws.map (·.1)).map ki:=by rw[D,fW,fW];rfl
 have B:(ws.map (·.1)).length<=aI:=by
  rw[bb,w1.length_eq,JQ,<-t.len,Am,mM];exact Ti a
 refine⟨.ref h.objs.size,bq H h.objs.size (.lst (ws.map (·.1))),I.laid (t':=g) (λ b o e=>N b o (keep b o e)) z ⟨B,(ws.map (·.1)).map ki,e,OV d,?_⟩,rfl,(q ws w1 ?_).at y⟩
 .rw[<-A];exact O
 .have:ws.map (·.2)=c.map (·.2):=by rw[D,fW];rfl
  rw[this];exact M
end
section
variable{X:aC}
def YE{k:bF}(I:Inv X k σ H s)(t:iG X.K H vs nss)(c:vs.length<64)(q:yR H vs nss Q)
  (h:∃a d,s1={s with heap:=a,toks:=d}/\s.heap.objs.size<=a.objs.size/\∀b o,s.heap.get? b=some o->a.get? b=some o){z:pw}(hz:z.Perm ((vs.map ki).zip nss))(u:us=z.map (·.1)):
  wpAny (bJ X) X.A.in1 (qL us>>=λ l=>gB [l] (call (.builtin "list.sort") [l])>>=λ _=>ret l) (λ f s'=>∃r,f= .done (.ret r)/\hh X k σ Q r s') X.xe s1:=PB I t (by lia) q h hz u
end
section
variable{X:aC}
def PC(K:av):List V->ah->br->Prop:=λ xs H Q=>∃p v nss,xs=[.ref p]/\bN K H p v/\iG K H v nss/\v.length<64/\yR H v nss Q
def YF:fC X (.builtin "sorted") (PC X.K):=by
 intro k s σ H xs us Q I r h;obtain⟨p,v,nss,rfl,c,t,a,q⟩:=h;obtain⟨u,rfl,d⟩:=vals1 r;cases d;obtain⟨i,f,aO,hz⟩:=I.list c;have e:=t.vals f;subst e;have l:(v.map ki).length=nss.length:=by rw[bb];exact t.len
 refine Gy (collect_list aO.isList ?_ (by rw[bb];assumption));refine YE I t a q ⟨_,_,rfl,?_,λ b o e=>?_⟩ (g0 _) ?_
 .simp_all
 .rw[tw _ _ _ _ (cH (bE e))]
  exact bj _ e
 .exact(JN (by simp_all)).symm
end
noncomputable def wy(a:List Int):cf->List (List Int)
 |[]=>[a]
 |b::l=>if HT.lexLt b a then b::wy a l else a::b::l
noncomputable def pX:cf->List (List Int)
 |[]=>[]
 |a::l=>wy a (pX l)
theorem GS(a:List Int):∀l,(wy a l).Perm (a::l)
 |[]=>g0 _
 |b::l=>by
  unfold wy;split
  .exact((GS a l).cons b).trans (xC _ _ _)
  simp
theorem Cw:∀l,(pX l).Perm l
 |[]=>g0 _
 |a::l=>(GS a _).trans ((Cw l).cons a)
def YG(h:HT.lexLt a b=true):HT.lexLt b a=false:=by
 cases e:HT.lexLt b a with
 |false=>rfl
 |true=>have:=Ce a b a h e;rw[Gr]at this;simp_all
def YH(h:HT.lexLt b a=false)(d:HT.lexLt c b=false):HT.lexLt c a=false:=by
 cases e:HT.lexLt c a with
 |false=>rfl
 |true=>
  rcases Ow c b a e with z|z<;>lia
theorem PD(a:List Int):∀l,my l->my (wy a l)
 |[],_=>gQ.mpr ⟨λ _ h=>by simp_all,.nil⟩
 |b::l,h=>by
  obtain⟨d,f⟩:=gQ.mp h;unfold wy;cases e:HT.lexLt b a with
  |true=>
   refine gQ.mpr ⟨λ x c=>?_,PD a l f⟩;rcases bI.mp ((GS a l).mem_iff.mp c)with q|q
   .subst q;exact YG e
   .exact d x q
  |false=>
   refine gQ.mpr ⟨λ x c=>?_,h⟩;rcases bI.mp c with q|q
   .simp_all
   .exact YH e (d x q)
theorem GT:∀l,my (pX l)
 |[]=>.nil
 |a::l=>PD a _ (GT l)
theorem PE:∀{a b:cf},a.Perm b->my a->my b->a=b
 |[],b,p,_,_=>p.nil_eq
 |x::a,b,p,d,f=>by
  cases b with
  |nil=>simp_all
  |cons y b=>
   have h:x=y:=by
    obtain⟨q,_⟩:=gQ.mp d;obtain⟨g,_⟩:=gQ.mp f;have m:=p.mem_iff.mp bW;have c:=p.mem_iff.mpr bW;rcases bI.mp m with e|m
    .assumption
    .rcases bI.mp c with e|c
     .exact e.symm
     .exact yP _ _ (g x m) (q y c)
   subst h;rw[PE (List.Perm.cons_inv p) (gQ.mp d).2 (gQ.mp f).2]
abbrev tupI(ns:List Int):D:=.tup (ns.map .int)
noncomputable def pY:List D->Option cf
 |[]=>some []
 | .tup l::r=>match intsOf l,pY r with
  |some (n::ns),some nss=>some ((n::ns)::nss)
  |_,_=>none
 |_=>none
theorem GU:∀{l:List D} {nss:cf},pY l=some nss->l=nss.map tupI/\∀ns∈nss,ns≠[]
 |[],nss,h=>by cases h;decide
 | .tup l::r,nss,h=>by
  unfold pY at h;split at h
  .rename_i n ns s e a
   cases h;obtain⟨q,b⟩:=GU a;rw[lx e,q];refine⟨rfl,λ m c=>?_⟩
   grind
  contradiction
 | .non::_,_,h=>by cases h
 | .int _::_,_,h=>by cases h
 | .bl _::_,_,h=>by cases h
 | .str _::_,_,h=>by cases h
 | .lst _::_,_,h=>by cases h
 | .dct _ _::_,_,h=>by cases h
 | .set _::_,_,h=>by cases h
 | .scr _::_,_,h=>by cases h
theorem GV:∀{nss:cf},(∀ns∈nss,ns≠[])->pY (nss.map tupI)=some nss
 |[],_=>rfl
 |[]::nss,h=>absurd rfl (h [] bW)
 |(n::ns)::nss,h=>by
  have i:=GV λ m a=>h m (cT _ a)
  rw[dH];unfold pY;rw[i,pL _]
theorem GW{K:av}:∀{xs:List V} {nss:cf},az K A H xs (nss.map tupI)->(∀ns∈nss,ns≠[])->iG K H xs nss
 |_,[],.nil,_=>.nil
 |_,ns::nss,.cons h r,n=>by
  replace h:=h.tup_inv;obtain⟨_,_,a,h,b⟩:=h;cases a;have e:=b.ints_of;subst e;exact .cons h (n ns bW) (GW r λ m c=>n m (cT _ c))
theorem PF{K:av}:∀{z:List (V×List Int)},(∀p∈z,∃a,p.1= .ref a/\bf K H a (p.2.map V.int))->az K A H (z.map (·.1)) ((z.map (·.2)).map tupI)
 |[],_=>.nil
 |p::z,h=>by
  obtain⟨a,e,b⟩:=h p bW;rw[dH,e];exact .cons (.tup b .ints) (PF λ q c=>h q (cT _ c))
theorem iG.all{K:av}:∀{v:List V} {nss:cf},iG K H v nss->∀p∈v.zip nss,∃a,p.1= .ref a/\bf K H a (p.2.map V.int)
 |_,_,.nil,p,b=>by simp_all
 |_,_,.cons h _ r,p,b=>by
  rcases bI.mp b with e|b
  .simp_all
  .exact r.all p b
def PG{K:av}(t:iG K H vs nss)(q:∀v H',aE H H'->aw K (λ p=>H p=none) H' v (.lst ((pX nss).map tupI))->Q v H'):yR H vs nss Q:=by
 intro z hz r p H' s h n;have e:=PE (((hz.map _).trans (by rw[List.map_snd_zip (by rw[t.len];simp)])).trans (Cw _).symm) r (GT _);refine q _ H' s (.lst h n ?_);rw[<-e];exact PF λ p h=>by
  obtain⟨a,b,c⟩:=t.all p (hz.mem_iff.mp h);exact⟨a,b,s.sqt c⟩
noncomputable def insI(a:Int):List Int->List Int
 |[]=>[a]
 |b::l=>if b<a then b::insI a l else a::b::l
noncomputable def sortI:List Int->List Int
 |[]=>[]
 |a::l=>insI a (sortI l)
theorem insI_perm(a:Int):∀l,(insI a l).Perm (a::l)
 |[]=>g0 _
 |b::l=>by
  unfold insI;split
  .exact((insI_perm a l).cons b).trans (xC _ _ _)
  simp
theorem sortI_perm:∀l,(sortI l).Perm l
 |[]=>g0 _
 |a::l=>(insI_perm a _).trans ((sortI_perm l).cons a)
theorem PH(a:Int):∀l:List Int,l.Pairwise (·<=·)->(insI a l).Pairwise (·<=·)
 |[],_=>gQ.mpr ⟨λ _ h=>by simp_all,.nil⟩
 |b::l,h=>by
  obtain⟨d,f⟩:=gQ.mp h;unfold insI;by_cases e:b<a
  .rw[if_pos e]
   refine gQ.mpr ⟨λ x c=>?_,PH a l f⟩;rcases bI.mp ((insI_perm a l).mem_iff.mp c)with q|q
   .lia
   simp_all
  .rw[if_neg e]
   refine gQ.mpr ⟨λ x c=>?_,h⟩;rcases bI.mp c with q|q
   .simp_all
   .have:=d x q;lia
theorem rX:∀l,(sortI l).Pairwise (·<=·)
 |[]=>.nil
 |a::l=>PH a _ (rX l)
theorem GX:∀{us:List Value} {ns:List Int},dE us ns->Vals (ns.map V.int) us
 |_,_,.nil=>.nil
 |_,_,.cons n t r=>.cons ⟨t,rfl⟩ (GX r)
section
variable{X:aC}
def PI(K:av):List V->ah->br->Prop:=λ xs H Q=>∃p ns,xs=[.ref p]/\bN K H p (ns.map V.int)/\ns.length<64/\nh H (.lst ((sortI ns).map V.int)) Q
def YI:fC X (.builtin "sorted") (PI X.K):=by
 intro x s σ H xs us Q I r h;obtain⟨p,ns,rfl,c,d,q⟩:=h;obtain⟨u,rfl,g⟩:=vals1 r;cases g;obtain⟨i,v,aO,hz⟩:=I.list c;have j:dE i ns:=intsAre_of v;have k:i.length<64:=by
  have:=v.length
  rw[bb]at this;simp_all
 refine sorted_ints aO.isList j k λ t n l a m=>?_
 have e:n=sortI ns:=A9 (a.trans (sortI_perm ns).symm) m (rX ns);subst e;obtain⟨e,w⟩:=sortedAll_at s.heap i t;have f:=I.hok.fresh (pe _);refine⟨.ref (s.heap.objs.size+1),_,I.laid (t':=s.toks) (λ b o q=>sortedAll_old q) (pe _) ?_,rfl,q.at f⟩;refine⟨?_,t.toList,e,GX l,?_⟩
 .rw[bb,a.length_eq]
  simp_all
 .rw[Je]
  exact w
end
def y2(K:av)(r:List V->ah->br->Prop)(f:List D->ag D):Prop:=∀(A:Addr->Prop) xs ds H (Q:br) z,az K A H xs ds->f ds= .ok z->(∀v H',aE H H'->aw K (λ p=>H p=none) H' v z->Q v H')->r xs H Q
def Cx{K:av}(h:y2 K r fd)(b:BO K G m ta g):gE K G (some []) (md r ta) (aN fd g):=by
 intro τ σ H ρ lab Q R W;refine b τ σ H ρ _ _ R (W.bd.imp λ d _ w x c a e=>?_);obtain⟨z,f,w⟩:=w.okD;exact h _ x d c Q z e f λ v H' s r=>w v H' (a.trans s) (r.wk λ p o _ q=>.inl (a.free q))
noncomputable def lB:List D->ag D
 |[.lst l]=>match pY l with
  |some nss=>if nss.length<64 then .ok (.lst ((pX nss).map tupI))else .st
  |none=>match intsOf l with
   |some ns=>if ns.length<64 then .ok (.lst ((sortI ns).map .int))else .st
   |none=>.st
 |_=>.st
def YJ{K:av}:y2 K (λ xs H Q=>PC K xs H Q\/PI K xs H Q) lB:=by
 intro A xs ds H Q z r a q;unfold lB at a;split at a
 .cases r with
  |cons h r=>
   cases r;replace h:=h.lst_inv;obtain⟨_,_,d,h,m,r⟩:=h;cases d;split at a
   .rename_i nss e
    obtain⟨b,c⟩:=GU e;subst b;split at a
    .rename_i l
     cases a;have t:=GW r c;exact .inl ⟨_,_,nss,rfl,bN.of h,t,by rw[t.len];exact l,PG t q⟩
    .cases a
   .split at a
    .rename_i ns e
     have b:=lx e;subst b;split at a
     .rename_i l
      cases a;have c:=r.ints_of;subst c;exact .inr ⟨_,ns,rfl,bN.of h,l,λ p H' s f n=>q _ H' s (.lst f n .ints)⟩
     .cases a
    .cases a
 .cases a
section
variable{C:bB}{o p:Pos}{m:Mode}{a:Expr}{g:af->ag (List D)}
def GY(e:C.mg "sorted"=none)(ha:fD C m [a] g)(h:∀i,aW [a] (C.X i).env=[(false,eval a (C.X i).env)]:=by z_go)(b:∀i,cN (C.X i) "sorted":=by z_go)(v:fu "sorted"=some (.builtin "sorted"):=by f_are):aA C (some []) (.Call (.Name "sorted" p) [a] [] o) (aN lB g):=by
 obtain⟨t,c,d⟩:=ha;refine⟨_,λ i=>tJ (by rw[<-C.hK i];exact YF.or YI) (b i) (by rw[(C.cx i).2.2.2.1];assumption) v (c i) (by decide) (by decide) (h i) rfl,Cx YJ d⟩
end
section
variable{X:aC}
def PJ(K:av):List V->ah->br->Prop:=λ xs H Q=>∃p v nss,xs=[.ref p]/\bN K H p v/\iG K H v nss/\v.length<4000/\yR H v nss Q
def YK:fC X (.builtin "sorted") (PJ X.K):=by
 intro k s σ H xs us Q I r h;obtain⟨p,v,nss,rfl,c,t,a,q⟩:=h;obtain⟨u,rfl,d⟩:=vals1 r;cases d;obtain⟨i,f,aO,hz⟩:=I.list c;have e:=t.vals f;subst e;have l:(v.map ki).length=nss.length:=by rw[bb];exact t.len
 refine Gy (collect_list aO.isList ?_ (by rw[bb];assumption));refine PB I t a q ⟨_,_,rfl,?_,λ b o e=>?_⟩ (g0 _) ?_
 .simp_all
 .rw[tw _ _ _ _ (cH (bE e))]
  exact bj _ e
 .exact(JN (by simp_all)).symm
end
def wz:List D->ag D
 |[.lst l]=>match pY l with
  |some nss=>if nss.length<4000 then .ok (.lst ((pX nss).map tupI))else .st
  |none=>.st
 |_=>.st
def YL{K:av}:y2 K (PJ K) wz:=by
 intro A xs ds H Q z r a q;unfold wz at a;split at a
 .cases r with
  |cons h r=>
   cases r;cases h with
   |lst h m r=>
    split at a
    .rename_i nss e
     obtain⟨b,c⟩:=GU e;subst b;split at a
     .rename_i l
      cases a;have t:=GW r c;exact⟨_,_,nss,rfl,bN.of h,t,by rw[t.len];exact l,PG t q⟩
     contradiction
    .cases a
 simp_all
section
variable{C:bB}{o p:Pos}{m:Mode}{a:Expr}{g:af->ag (List D)}
def YM(e:C.mg "sorted"=none)(ha:fD C m [a] g)(h:∀i,aW [a] (C.X i).env=[(false,eval a (C.X i).env)]:=by z_go)(b:∀i,cN (C.X i) "sorted":=by z_go)(v:fu "sorted"=some (.builtin "sorted"):=by f_are):aA C (some []) (.Call (.Name "sorted" p) [a] [] o) (aN wz g):=by
 obtain⟨t,c,d⟩:=ha;refine⟨_,λ i=>tJ (by rw[<-C.hK i];exact YK) (b i) (by rw[(C.cx i).2.2.2.1];assumption) v (c i) (by decide) (by decide) (h i) rfl,Cx YL d⟩
end
def df(ns:List Int):List Int:=ns.foldl jU []
def YN(ns:List Int)(n:Int):df (ns++[n])=jU (df ns) n:=by unfold df;simp_all
def YO(ns:List Int):nR (λ i=>ns.getD i 0) ns.length=df ns:=by
 unfold nR df;congr 1;refine JL (by simp) λ i h a=>?_
 simp_all
def YP(a:l.Nodup)(n:Int):(jU l n).Nodup/\∀x,x∈jU l n↔x∈l\/x=n:=by
 unfold jU;by_cases h:l.any (·==n)=true
 .simp_all
 .rw[if_neg h]
  have:n∉l:=by simpa using h
  refine⟨mG.mpr ⟨a,by simp,λ x b y c e=>?_⟩,λ x=>by simp⟩;simp_all
theorem GZ:∀(ns acc:List Int),acc.Nodup->(ns.foldl jU acc).Nodup/\∀x,x∈ns.foldl jU acc↔x∈acc\/x∈ns
 |[],acc,h=>⟨h,λ x=>by simp⟩
 |n::ns,acc,h=>by
  obtain⟨a,b⟩:=YP h n;obtain⟨c,d⟩:=GZ ns _ a;refine⟨c,λ x=>?_⟩;rw[Ab,d,b,bI];lia
def t7(ns:List Int):(df ns).Nodup:=(GZ ns [] (by simp)).1
def y3(ns:List Int)(x:Int):x∈df ns↔x∈ns:=by
 have:=(GZ ns [] (by simp)).2 x
 unfold df;simpa using this
def G0(ns:List Int):(df ns).length<=ns.length:=sub_len (t7 ns) λ x h=>(y3 ns x).mp h
section
variable{X:aC}
def PK(K:av):List V->ah->br->Prop:=λ xs H Q=>∃p ns,xs=[.ref p]/\(bN K H p (ns.map V.int)\/bf K H p (ns.map V.int))/\ns.length<4000/\∀a H',aE H H'->H' a=some (.set (λ k=>(df ns).any (·==k)) (df ns).length)->H a=none->Q (.ref a) H'
def PL(I:Inv X kX σ H s)(q:∀a H',aE H H'->H' a=some (.set (λ k=>(df ns).any (·==k)) (df ns).length)->H a=none->Q (.ref a) H')
  (g:h'.SetOf (ig X.prog X.w) s.heap.objs.size (λ c=>(nR (λ i=>ns.getD i 0) ns.length).any (·==c)) (nR (λ i=>ns.getD i 0) ns.length).length)(d:∀b o,s.heap.get? b=some o->h'.get? b=some o):hh X kX σ Q (.ref s.heap.objs.size) {s with heap:=h',toks:=tk}:=by
 rw[YO]at g;have h:=I.hok.fresh (bc _);exact⟨.ref _,bq H _ (.set _ _),I.laid d (bc _) g,rfl,q _ _ (eG h _) dM h⟩
def PM{s:ao}{St:Nat->ao->Prop}(k:l<s.heap.objs.size)(d:dE its ns)(hz:ns.length<4000)
  (W:WalksS prog w A.in1 (s.heap.objs.size+1) [s.heap.objs.size+1,l] [s.heap.objs.size+1] (λ a b=>b=a) its.toArray.size (λ i v=>its.toArray[i]? =some v) St)(st:St 0 {s with heap:=(s.heap.push (bT #[] 0 (.fresh 0 0 led))).push oI})
  (R:pj->ao->Prop)(n:∀h' p,h'.SetOf (ig prog w) s.heap.objs.size (λ q=>(nR (λ i=>ns.getD i 0) ns.length).any (·==q)) (nR (λ i=>ns.getD i 0) ns.length).length->(∀b o,s.heap.get? b=some o->h'.get? b=some o)->R (.ok (.ret .none)) {s with heap:=h',toks:=p}):
  ie (model prog w) A (.builtin "set.update.loop" ⟨[.ref s.heap.objs.size,.ref (s.heap.objs.size+1)],[]⟩) R {s with heap:=(s.heap.push (bT #[] 0 (.fresh 0 0 led))).push oI}:=by
 have K:its.length=ns.length:=As d;have f:s.heap.objs.size∉[s.heap.objs.size+1,l]:=by
  simp only[bI,iK,or_false,not_or];exact⟨cH (il _),kR k⟩
 have h:its.toArray.size=ns.length:=by rw[cW];exact K
 refine PyProof.Rows.codeAny_set_update_loopS W s.heap.objs.size f (λ i=>ns.getD i 0) (λ i v r=>Kf d i v (by simpa using r)) (by rw[h];unfold xT;lia) (its.toArray.size-0) 0 _ (by rfl) (dn _) st ?_ λ s' m S=>?_
 .have g:((s.heap.push (bT #[] 0 (.fresh 0 0 led))).push oI).get? s.heap.objs.size=some (bT #[] 0 (.fresh 0 0 led)):=bj _ (dr _ rfl)
  exact PyProof.Rows.SetOf_congr ((PyProof.Rows.setObjOf_fresh (knd:=ig prog w) led).setOf g (by unfold xT;simp)) (λ _=>rfl) rfl
 .obtain⟨h',g',d',t,c⟩:=s'
  have eg:g'=s.gens:=m.gens;have u:d'=s.drawn:=m.drawn;have x:c=s.os:=m.os;subst eg;subst u;subst x;rw[h]at S;refine n h' t S λ b o e=>m.heap b o ?_ (bj _ (bj _ e))
  have j:=bE e;simp only[bI,iK,or_false,not_or];exact⟨cH j,cH (mJ j)⟩
def YQ(y:X.calm=true):fC X (.type "set") (PK X.K):=by
 intro G s σ H xs us Q I r h;obtain⟨p,ns,rfl,b,hz,q⟩:=h;obtain⟨u,rfl,A⟩:=vals1 r;cases A;have x:X.A.in1.in1.in1.handled=none:=I.ok.hd y;have z:∀o:Obj,(s.heap.push o).objs.size=s.heap.objs.size+1:=λ o=>iM _ _
 rcases b with b|b
 .obtain⟨t,v,aO,_⟩:=I.list b
  have f:dE t ns:=intsAre_of v;have B:=aO.isList;obtain⟨a,l,c,n,d⟩:=aO.isList;have S:p<s.heap.objs.size:=bE l;refine PySem.mD (T:="list") (Φ:=λ h'=>h'.SetOf (ig X.prog X.w) s.heap.objs.size (λ g=>(nR (λ i=>ns.getD i 0) ns.length).any (·==g)) (nR (λ i=>ns.getD i 0) ns.length).length) ⟨a,l,c⟩ F.sub_list_set KX (by decide)
   (λ D C Y Q₁ k q=>Ax (s:={s with heap:=D}) (items:=t.toArray) ⟨a,k _ _ l,c,n,d⟩ q) (λ R j=>?_) λ h' E m w=>PL I q m w
  rw[z];refine PM S f hz ((EJ x _ p (cH (mJ S)) t.toArray).toS) ⟨?_,?_⟩ R j
  .have e:=dr (s.heap.push (bT #[] 0 (.fresh 0 0 (!X.w.params.followText "set-order")))) (o:={cls:=.type "list_iterator",data:=.fields #[.ref p,.int 0 0]}) rfl
   rw[z]at e;exact⟨_,e,rfl,rfl⟩
  .exact⟨a,bj _ (bj _ l),c,n,d⟩
 .obtain⟨t,v,aO,_⟩:=I.tuple b
  have f:dE t ns:=intsAre_of v;obtain⟨a,l,c,n,d⟩:=id aO;have S:p<s.heap.objs.size:=bE l;refine PySem.mD (T:="tuple") (Φ:=λ h'=>h'.SetOf (ig X.prog X.w) s.heap.objs.size (λ g=>(nR (λ i=>ns.getD i 0) ns.length).any (·==g)) (nR (λ i=>ns.getD i 0) ns.length).length) ⟨a,l,c⟩ K3 KU (by decide)
   (λ D C Y Q₁ k q=>u4 (s:={s with heap:=D}) (items:=t.toArray) ⟨a,k _ _ l,c,n,d⟩ q) (λ R j=>?_) λ h' E m w=>PL I q m w
  rw[z];refine PM S f hz ((EI x _ p (cH (mJ S)) t.toArray).toS) ⟨?_,?_⟩ R j
  .have e:=dr (s.heap.push (bT #[] 0 (.fresh 0 0 (!X.w.params.followText "set-order")))) (o:={cls:=.type "tuple_iterator",data:=.fields #[.ref p,.int 0 0]}) rfl
   rw[z]at e;exact⟨_,e,rfl,rfl⟩
  .exact⟨a,bj _ (bj _ l),c,n,d⟩
def YR:fC X (.builtin "len") (λ xs H Q=>∃p S n,xs=[.ref p]/\H p=some (.set S n)/\Q (.int n) H):=by
 intro k s σ H xs us Q I r h;obtain⟨p,S,n,rfl,a,q⟩:=h;obtain⟨u,rfl,b⟩:=vals1 r;cases b;obtain⟨o,es,ep,t,c,e,d,_,_,f,hf,g⟩:=I.hok p _ a
 have:(es.size:Int)<2^63:=by unfold xT at f;lia
 refine PySem.call_len_set c e d hf this ⟨_,H,(I.tok _).tok _,?_,q⟩;exact⟨_,by rw[g]⟩
end
def PN{K:av}(nd:l.Nodup)(h:H a=some (.set (λ k=>l.any (·==k)) l.length))(m:A a):aw K A H (.ref a) (.set l):=.set h m (λ i=>by
 rw[uP];simp) nd
noncomputable def t8:List D->ag D
 |[.lst l]=>match intsOf l with
  |some ns=>if ns.length<4000 then .ok (.set (df ns))else .st
  |none=>.st
 |[.tup l]=>match intsOf l with
  |some ns=>if ns.length<4000 then .ok (.set (df ns))else .st
  |none=>.st
 |_=>.st
def YS{K:av}:y2 K (PK K) t8:=by
 intro A xs ds H Q z r b q;unfold t8 at b;split at b
 .cases r with
  |cons h r=>
   cases r;obtain⟨_,_,c,h,m,r⟩:=h.lst_inv;cases c;split at b
   .rename_i ns e
    have d:=lx e;subst d;split at b
    .rename_i l
     cases b;have f:=r.ints_of;subst f;exact⟨_,ns,rfl,.inl (bN.of h),l,λ a H' s ha n=>q _ H' s (PN (t7 ns) ha n)⟩
    .cases b
   .cases b
 .cases r with
  |cons h r=>
   cases r;obtain⟨_,_,c,h,r⟩:=h.tup_inv;cases c;split at b
   .rename_i ns e
    have d:=lx e;subst d;split at b
    .rename_i l
     cases b;have f:=r.ints_of;subst f;exact⟨_,ns,rfl,.inr h,l,λ a H' s ha n=>q _ H' s (PN (t7 ns) ha n)⟩
    .cases b
   .cases b
 .cases b
noncomputable def t9:List D->ag D
 |[.set l]=>.ok (.int l.length)
 |ds=>cw ds
def YT{K:av}:om K (λ xs H Q=>(∃p y,xs=[.ref p]/\(bN K H p y\/bf K H p y)/\Q (.int y.length) H)\/∃p S n,xs=[.ref p]/\H p=some (.set S n)/\Q (.int n) H) t9:=by
 intro A xs ds H Q z r e q;unfold t9 at e;split at e
 .cases e
  cases r with
  |cons h r=>
   cases r;cases h with
   |set h m a nd=>exact .inr ⟨_,_,_,rfl,h,q _ H (aE.refl H) (.int _)⟩
 .exact .inl (NP A xs _ H Q z r e q)
def YU:∀x z,t9 x= .ok z->imm z=true:=by
 intro x z e;unfold t9 at e;split at e
 .cases e;rfl
 .exact NQ _ _ e
section
variable{C:bB}{o p:Pos}{m:Mode}{a:Expr}{g:af->ag (List D)}
def YV(e:C.mg "set"=none)(ha:fD C m [a] g)(h:∀i,aW [a] (C.X i).env=[(false,eval a (C.X i).env)]:=by z_go)(b:∀i,cN (C.X i) "set":=by z_go)(v:fu "set"=some (.type "set"):=by f_are):aA C (some []) (.Call (.Name "set" p) [a] [] o) (aN t8 g):=by
 obtain⟨t,c,d⟩:=ha;refine⟨_,λ i=>tK (by rw[<-C.hK i];exact YQ (C.calm i)) (b i) (by rw[(C.cx i).2.2.2.1];assumption) v (c i) (by decide) (by decide) (h i) rfl,Cx YS d⟩
def YW(b:C.mg "len"=none)(ha:fD C m [a] g)(e:∀i,aW [a] (C.X i).env=[(false,eval a (C.X i).env)]:=by z_go)(c:∀i,cN (C.X i) "len":=by z_go):aA C (some []) (.Call (.Name "len" p) [a] [] o) (aN t9 g):=
 mn (vQ (λ i=>by have h:=(M0 (X:=C.X i)).or YR;rw[C.hK i]at h;assumption) YT c b Kk ha (by decide) (by decide) e) λ _ _ h=>vP YU h
end
def Nb:∀{us:List α},us.length=6->∃a b c d e f,us=[a,b,c,d,e,f]
 |[a,b,c,d,e,f],_=>⟨a,b,c,d,e,f,rfl⟩
noncomputable def oD(j:Int):List Int:=(dP j.toNat).map λ(k:Nat)=>0+(k:Int)
def PO:List V->ah->br->Prop:=λ xs H Q=>∃j:Int,xs=[.int j]/\∀p,H p=none->Q (.ref p) (bq H p (.rng 0 j))
def YX:fC X (.type "range") PO:=by
 intro k s σ H v us Q I r h;obtain⟨j,rfl,q⟩:=h;obtain⟨u,rfl,a⟩:=r.one;obtain⟨t,rfl⟩:=a;exact call_range_1 ⟨.ref _,_,I.laid (o:=.rng 0 j) (λ _ _ q=>bj _ q) (bc _) ⟨_,_,_,dr _ rfl⟩,rfl,q _ (I.hok.fresh (bc _))⟩
def PP:List V->ah->br->Prop:=λ xs H Q=>∃(p:Addr) (j:Int),xs=[.ref p]/\H p=some (.rng 0 j)/\-(2^62)<=j/\j<=10000/\∀l H',aE H H'->H l=none->H' l=some (.lst ((oD j).map V.int))->Q (.ref l) H'
def YY:∀{ns:List Int} {us:List Value},ns.length=us.length->(∀(k:Nat) i,ns[k]? =some i->∃t,us[k]? =some (.int i t))->Vals (ns.map V.int) us:=by
 intro ns;induction ns with
 |nil=>intro us l _;rw[List.eq_nil_of_length_eq_zero l.symm];exact .nil
 |cons n ns a=>
  intro us l h;obtain⟨t,e⟩:=h 0 n rfl;cases us with
  |nil=>cases e
  |cons u us=>
   have b:=hX e;subst b;exact .cons ⟨t,rfl⟩ (a (DG l) λ k i c=>h (k+1) i c)
def YZ(g:X.calm=true):fC X (.type "list") PP:=by
 intro J s σ H K us Q I l h;obtain⟨p,j,rfl,m,L,o,q⟩:=h;obtain⟨u,rfl,w⟩:=l.one;cases w;obtain⟨t,u,v,y⟩:=I.hok p _ m;have z:Ed 0 j 1=(j.toNat:Int):=by
  unfold Ed;simp only[show(1:Int)>0 by decide,if_true];split<;>grind
 refine call_list_range (n:=j.toNat) (I.ok.hd g) y ?_ z (by lia) λ h' b acc A B S c=>?_
 .have f:∀x:Int,-(2^62)<=x->x<=2^62->Kx x=true:=λ x C D=>by
   unfold Kx;simp;lia
  unfold Sh;rw[z,f 0 (by lia) (by lia),f j (by lia) (by lia),f 1 (by lia) (by lia),f _ (by lia) (by lia),if_pos (by decide),f (j+(1-1)) (by lia) (by lia),Bool.or_true];rfl
 .have r:=I.hok.fresh (bc s.heap.objs.size)
  have E:Vals ((oD j).map V.int) acc.toList:=by
   have F:(oD j).length=acc.toList.length:=by rw[show acc.toList.length=acc.size from dY,c.1];simp[oD]
   refine YY F λ k i d=>?_
   have a:k<acc.size:=by rw[c.1];have:=(eW.mp d).1;simpa[oD]using this
   obtain⟨b,e⟩:=c.2 k acc[k] (gj a);refine⟨b,?_⟩;have G:i=0+(k:Int)*1:=by
    unfold oD at d
    grind
   rw[G,<-e];simp[a]
  refine⟨.ref s.heap.objs.size,bq H s.heap.objs.size (.lst ((oD j).map V.int)),I.laid (t':=b) B (bc _) ⟨?_,acc.toList,A,E,by simpa using S⟩,rfl,q _ _ (eG r _) r dM⟩;simp[oD]
  have:aI=16777216:=mM
  exact Tf o this
noncomputable def G1:D->ag D
 | .int j=>if -(2^62)<=j/\j<=10000 then .ok (.lst (eB 0 j))else .st
 |_=>.st
def wA(f:af->ag D):af->ag D:=λ ρ=>(f ρ).bd G1
def PQ(j:Int):eB 0 j=(oD j).map D.int:=by
 unfold eB oD;rw[fW,Int.sub_zero];rfl
section
variable{C:bB}{s o p b:Pos}{a:Expr}{f:af->ag D}{m:Mode}
def PR(L:C.mg "list"=none)(c:C.mg "range"=none)(ha:aA C m a f)(r:∀i,aW [a] (C.X i).env=[(false,eval a (C.X i).env)]:=by z_go)(h:∀i,aW [.Call (.Name "range" b) [a] [] o] (C.X i).env=[(false,eval (.Call (.Name "range" b) [a] [] o) (C.X i).env)]:=by z_go)(g:∀i,cN (C.X i) "list":=by z_go)(v:fu "list"=some (.type "list"):=by f_are)(e:∀i,cN (C.X i) "range":=by z_go):aA C (some []) (.Call (.Name "list" p) [.Call (.Name "range" b) [a] [] o] [] s) (wA f):=by
 obtain⟨t,z,A⟩:=ha;refine⟨md PP (i7 (md PO (i7 t j9)) j9),λ i=>tK (YZ (C.calm i)) (g i) (by rw[(C.cx i).2.2.2.1];exact L) v (dv (tK YX (e i) (by rw[(C.cx i).2.2.2.1];exact c) boot_range (dv (z i) hD (r i)) (by decide) (by decide) (r i) rfl) hD (h i)) (by decide) (by decide) (h i) rfl,λ τ σ H ρ lab Q R W=>?_⟩;refine A τ σ H ρ lab _ R (W.bd.imp λ d _ w y G u B=>?_);unfold G1 at w;split at w
 .rename_i j _
  by_cases hz: -(2^62)<=j/\j<=10000
  .rw[if_pos hz]at w
   have D:=B.int_inv;subst D;refine⟨j,rfl,λ q x=>⟨q,j,rfl,dM,hz.1,hz.2,λ l H' s' E k=>?_⟩⟩;have F:=(u.trans (eG x _)).trans s';have n:H l=none:=(u.trans (eG x _)).free E;refine w _ H' F (.lst k (.inl n) ?_);rw[PQ];exact az.ints
  .rw[if_neg hz]at w
   exact aX w
 .exact aX w
end
noncomputable def aPz(ρ:af)(i:Nat)(ds:List Int):D->ax
 | .int z=>if ds.length<4000 then .nx (ρ.set i (.ow (.set (jU ds z))))else .st
 |_=>.st
section
variable{prog:aR}{w:World}{A:aS}{E:Value->ao->Prop}{s:ao}{b t:Addr}{i:Nat}{items:Array Value}
def NoD.at{h:Heap}{a:Addr}{o:Obj}(e:h.get? a=some o)(d:o.dict=none:=by rfl):L2.NoD h a:=λ u q=>by simp_all
def G5(h:s.heap.IsTupleIter b t i)(e:s.heap.IsTuple t items)(f:items[i]? =some x)
  (g:∀h',h'.IsTupleIter b t (i+1)->vk b s.heap h'->Q x {s with heap:=h'}):wpAny (model prog w) A (qO (.ref b)) Q E s:=by
 obtain⟨o,a,j,d⟩:=id h;obtain⟨k,l,_,n,c⟩:=e;unfold qO;refine ak (mK (name:=mW "__next__") h.typeIs AQ (jX AQ h.typeIs KO ?_ (KN _)));show wpAny _ _ (field (.ref b) 0>>=_) _ _ s;refine ak (gR a d (x:=.ref t) rfl ?_);show wpAny _ _ (if (fO t==lV)=true then _ else _) _ _ s;rw[if_neg (show¬((fO t==lV)=true)from cL)];show wpAny _ _ (field (.ref b) 1>>=_) _ _ s;refine ak (gR a d (x:=.int i 0) rfl ?_);show wpAny _ _ (xU (.ref t)>>=_) _ _ s;refine ak (kS l c ?_);simp only[oR,f];refine ak (xN a d (by simp) (aB ⟨x,rfl,aB (g _ ⟨_,vj _ a (K8 (Ep d _)),(Obj.cls_mapFields ..).trans j,by rw[Ep d];simp[mS]⟩ (qZ ..))⟩))
def PS(g:A.handled=none)(h:s.heap.IsTupleIter b t i)(j:s.heap.IsTuple t items)(k:items[i]? =none)
  (n:∀h' e,AZ b s.heap h'->(∃o,h'.get? e=some o/\o.cls= .type "StopIteration")->E (.ref e) {s with heap:=h'}):wpAny (model prog w) A (qO (.ref b)) Q E s:=by
 obtain⟨o,c,p,d⟩:=id h;obtain⟨q,l,_,r,f⟩:=j;unfold qO;refine ak (mK (name:=mW "__next__") h.typeIs AQ (jX AQ h.typeIs KO ?_ (KN _)));show wpAny _ _ (field (.ref b) 0>>=_) _ _ s;refine ak (gR c d (x:=.ref t) rfl ?_);show wpAny _ _ (if (fO t==lV)=true then _ else _) _ _ s;rw[if_neg (show¬((fO t==lV)=true)from cL)];show wpAny _ _ (field (.ref b) 1>>=_) _ _ s;refine ak (gR c d (x:=.int i 0) rfl ?_);show wpAny _ _ (xU (.ref t)>>=_) _ _ s;refine ak (kS l f ?_);simp only[oR,k];refine ak (mQ (ak (xN c d (by simp) ?_)));show wpAny _ _ (newExc (.type "StopIteration") []>>=_) _ _ _;refine ak ?_;simp only[newExc,newTuple];refine ak (i3 ?_ (by size_fits));refine ak (m:=AC _ _) (AI (a:=lV) (by simp only[AC];rfl) ?_);refine i3 ?_ (by size_fits);simp only[raiseNew];refine ak (wpAny_handled ?_);first|rw[show A.in1.handled=none from g]|rw[g]
 refine ak (aB (wpAny_throw ?_));exact n _ _ (((qZ ..).extBut.push _).push _) ⟨_,dr _ rfl,rfl⟩
end
def PT{X:aC}{f:bF}{σ:List (Option V)}{H:ah}{s:ao}{h':Heap}{ch:List Addr}{p t':Nat}{o:HO}(I:Inv X f σ H s)(hf:∀b∈ch,lg X f H b)(k:∀b u,b∉ch->s.heap.get? b=some u->h'.get? b=some u)
  (i:s.heap.objs.size<=p)(w:fZ X.prog X.w (bq H p o) h' p o):Inv X f σ (bq H p o) {s with heap:=h',toks:=t'}:=by
 have h:=I.hok.fresh i;have a:∀b u,H b=some u->b∉ch:=λ b u e z=>by have:=(hf b z).1;lia
 refine I.call (ch:=ch) ⟨λ b u q _ _ x=>k b u x q,λ b u q _ _ x=>⟨u.slots,k b u x q⟩,λ b u q n _=>?_,λ b u q x=>⟨u,k b u x q⟩,λ b xs q=>?_,λ b u xs q=>?_,λ b ps q=>?_⟩ (λ b u e=>?_) I.bare
  λ b d=>let⟨_,f1,_,f3,f4,f5⟩:=hf b d;⟨f3,f1,f4,f5⟩
 .rw[bR (cH (eZ (bE q) i))];exact n
 .rw[bR (ir q h)];exact q
 .rw[bR (ir q h)];exact q
 .rw[bR (ir q h)];exact q
 .by_cases d:b=p
  .subst d;rw[dM]at e;simp_all
  .rw[bR d]at e
   refine(I.hok b u e).stay (λ c v g q=>k c v ?_ q) (λ c q=>by rw[bR (ir q h)];exact q) (λ c xs q=>by rw[bR (ir q h)];exact q) λ c o2 j q=>by rw[bR (ir q h)];exact q
   rcases g with rfl|g
   .exact a _ _ e
   .exact a _ _ g
noncomputable def ua(l:List D):List D:=l.zipIdx.map λ p=>.tup [.int (p.2:Int),p.1]
abbrev acF:=List Int×Addr×V
noncomputable def wB(p:Int×Tok):Int×Value:=(hashInt p.1,.int p.1 p.2)
def r0(h:Heap)(a:Addr)(l:Bool)(ks:List Int):Prop:=∃es ep t,h.get? a=some (bT es ep t)/\ff t es.size/\t.led=l/\∃k:List (Int×Tok),k.map (·.1)=ks/\es.toList.Perm (k.map wB)
section
variable{prog:aR}{w:World}{A:aS}{E:Value->ao->Prop}{s:ao}{a:Addr}{d:Bool}{ks:List Int}
def Y0{es:Array (Int×Value)}{t:List (Int×Tok)}(h:es.toList.Perm (t.map wB)):ElemsOf (ig prog w) es.toList:=λ e a=>by
 obtain⟨p,_,rfl⟩:=cX.mp (h.mem_iff.mp a);exact⟨⟨_,xS _ _ _ _,rfl⟩,rfl⟩
def Y1(T:ff t es.size)(a:es.size<63)(h:Int)(x:Value):∃j,layNew t es h x=(lU es (t.put j).2 (h,x),(t.put j).1,false,false)/\ny (t.put j).1 (es.size+1)/\(t.put j).1.led=t.led:=by
 obtain⟨j,b,c,d⟩:=XN (hashAt:=λ _=>h+1) T (h:=h) λ i f=>by lia
 obtain⟨P,g,k,l,p⟩:=XO T (by lia) b c;have e:(lU es (t.put j).2 (h,x)).size=es.size+1:=Cj _ _ _;refine⟨j,?_,P,p⟩;have hf:t.freeSlot h=some (j,false):=by unfold SetTable.freeSlot;simp_all
 unfold layNew SetTable.orStandIn;rw[hf];cb_eq;rw[e,P.fits];rfl
def Y2(P:ny t n)(h:es.size=n)(b:n=5\/n=19):∃e t',relayAll t es (Ex es.size)=(e,t',false)/\ff t' e.size/\t'.led=t.led/\e.toList.Perm es.toList:=by
 obtain⟨t',o,c,d,f,r⟩:=XU P.pla b (es.map _) (by simp_all);have a:(o.filterMap (es[·]?)).toList.Perm es.toList:=by
  rw[Array.toList_filterMap];refine(r.filterMap _).trans ?_;rw[<-h,filterMap_getElem?_range]
 have s:(o.filterMap (es[·]?)).size=n:=by rw[<-dY,a.length_eq,dY,h]
 refine⟨_,t',?_,by simp_all,f,a⟩;unfold relayAll;rw[h,c];have g:coversAll o n=true:=List.isPerm_iff.mpr r;cb_eq;rw[s,g,d.fits];rfl
def Y3(S:r0 s.heap a d ks)(M:ks.length<63)
  (q:∀h' b,vk a s.heap h'->r0 h' a d (jU ks k)->Q b {s with heap:=h',toks:=s.toks+1}):wpAny (model prog w) A (setAdd a (.int k tk)) Q E s:=by
 obtain⟨es,ep,t,v,T,x,c,l,g⟩:=S;have n:ElemsOf (ig prog w) es.toList:=Y0 g;have B:es.size=ks.length:=by rw[<-dY,g.length_eq,bb,<-l,bb]
 have N:es.size<xT:=by rw[B];unfold xT;lia
 have o:∀e∈es.toList,(ig prog w).is k e.2=true->k∈ks:=λ e C O=>by
  obtain⟨p,m,rfl⟩:=cX.mp (g.mem_iff.mp C)
  have:k=p.1:=(ig prog w).inj _ k p.1 O (xS _ _ _ _)
  rw[this,<-l];exact JE m
 unfold setAdd;refine iL (ak ((ig prog w).pyHash (k:=k) (xS _ _ _ _) ?_));unfold setAddHashed setAddHashedIn;refine iL (ak (u5 (s:={s with toks:=s.toks+1}) v rfl T.fits ?_));cb_eq;rw[byScan_of (knd:=ig prog w) rfl N n];simp only[↓reduceIte];unfold setAddByScan;refine ak (ak (mQ (ak (wpAny_setScan_of (knd:=ig prog w) (s:={s with toks:=s.toks+1}) (xS _ _ _ _) v rfl T.fits n ?_))));cases H:List.findIdx? (λ e=>(ig prog w).is k e.2) es.toList with
 |some j=>
  obtain⟨R,D,_⟩:=List.findIdx?_eq_some_iff_getElem.mp H;have i:=o _ (lO R) D;cb_eq;refine aB (aB (q s.heap _ (Heap.SameBut.refl a s.heap) ?_))
  have:jU ks k=ks:=by unfold jU;rw[if_pos (Dv.mpr ⟨k,i,by simp⟩)]
  rw[this];exact⟨es,ep,t,v,T,x,c,l,g⟩
 |none=>
  have F:k∉ks:=λ i=>by
   rw[<-l]at i;obtain⟨p,m,e⟩:=cX.mp i;have C:wB p∈es.toList:=g.mem_iff.mpr (JE m)
   have:=List.findIdx?_eq_none_iff.mp H _ C
   rw[<-e]at this;have z:(ig prog w).is p.1 (.int p.1 p.2)=false:=this;rw[xS]at z;cases z
  have U:jU ks k=ks++[k]:=by
   unfold jU;rw[if_neg];intro h;obtain⟨y,V,e⟩:=Dv.mp h;exact F (by rw[<-qt e];exact V)
  obtain⟨j,W,P,aO⟩:=Y1 T (by simp_all) ((ig prog w).hash k) (.int k tk);have f:(lU es (t.put j).2 ((ig prog w).hash k,jZ k tk)).size=es.size+1:=Cj _ _ _;have I:(lU es (t.put j).2 ((ig prog w).hash k,jZ k tk)).toList.Perm ((c++[(k,tk)]).map wB):=by
   have:=Li es (t.put j).2 ((ig prog w).hash k,jZ k tk)
   rw[su]at this;rw[hW];exact this.trans (g.append_right _)
  have r:(c++[(k,tk)]).map (·.1)=jU ks k:=by rw[U,hW,l];rfl
  cb_eq;rw[W];cb_eq;refine ak (aB ?_);rw[P.pla];simp only[↓reduceIte];refine ak (aB ?_);simp only[↓reduceIte];generalize lU es (t.put j).2 ((ig prog w).hash k,jZ k tk)=G at f I ⊢;generalize (t.put j).1=J at P aO ⊢;refine ak (OL (s:={s with toks:=s.toks+1}) v (by lia) λ K=>?_);simp only[Jm,Di];cases hf:J.tooFull with
  |true=>
   obtain⟨u,X,Y,Z,l2,L⟩:=Y2 P f (P.full (by lia) hf);simp only[↓reduceIte];rw[Y];cb_eq;refine ak (aB ?_);have hz2:u.size<=63:=by rw[<-dY,L.length_eq,dY];lia
   refine ak (OL K (by lia) λ e2=>aB (aB (q _ _ ((qZ s.heap a _).trans (qZ _ a _)) ⟨u,_,X,e2,Z,l2.trans (aO.trans x),_,r,L.trans I⟩)))
  |false=>
   simp only[jq,if_false];exact aB (aB (q _ _ (qZ ..) ⟨G,_,J,K,by rw[f];exact P.still hf,aO.trans x,_,r,I⟩))
def PU{St:Nat->ao->Prop}(W:WalksS prog w A.in1 I fp wr G n (λ i v=>vs.toArray[i]? =some v) St)(f:S∉fp)(K:dE vs ns)(V:n=vs.length)(N:n<64)(d:Bool):
  ∀(k i:Nat) (s:ao),n-i=k->i<=n->St i s->r0 s.heap S d (df (ns.take i))->(∀s',Moved (S::wr) G s s'->r0 s'.heap S d (df ns)->R (.ok (.ret .none)) s')->
   ie (model prog w) A (.builtin "set.update.loop" ⟨[.ref S,.ref I],[]⟩) R s:=by
 have g:S∉wr:=λ h=>f (W.sub _ h)
 have j:∀b∈wr,b∈S::wr:=λ b a=>cT _ a
 have X:vs.length=ns.length:=As K;have keep:∀{h h':Heap} {ks:List Int},r0 h S d ks->(∀o,h.get? S=some o->h'.get? S=some o)->r0 h' S d ks:=λ⟨es,ep,t,e,r⟩ k=>⟨es,ep,t,k _ e,r⟩
 intro k;induction k with
 |zero=>
  intro i s B l c C D;have m:i=n:=SG B l;subst m;refine nW Ke ?_;rw[qN DR _];show wpAny _ A.in1 (jY (.ref I)>>=_) _ _ s;refine ak (W.done s _ _ c λ s' p=>aB (D s' (p.mono j) ?_));rw[iI (by simp_all)]at C;exact keep C λ o e=>p.heap S _ g e
 |succ k O=>
  intro i s B l c C D;have q:i<n:=S6 B;refine nW Ke ?_;rw[qN DR _];show wpAny _ A.in1 (jY (.ref I)>>=_) _ _ s;refine ak (W.item i s _ _ q c λ v s' P u p=>?_);have Q:vs[i]? =some v:=by simpa using P
  obtain⟨t,rfl⟩:=Kf K i v Q;have E:r0 s'.heap S d (df (ns.take i)):=keep C λ o e=>p.heap S _ g e
  have F:(df (ns.take i)).length<63:=by
   have T:=G0 (ns.take i);rw[eY]at T;lia
  have H:jU (df (ns.take i)) (ns.getD i 0)=df (ns.take (i+1)):=by
   have U:ns[i]? =some (ns.getD i 0):=by
    rw[sv,en (by simp_all)];rfl
   rw[Du,U,<-YN];rfl
  show wpAny _ A.in1 (gB [jZ (ns.getD i 0) t] (setAdd S (.int (ns.getD i 0) t))>>=_) _ _ s';refine ak (iL (Y3 E F λ h' b c1 L=>?_));have M:∀b o,b≠S->s'.heap.get? b=some o->h'.get? b=some o:=λ b o a e=>by rw[c1.2 b a];exact e
  rw[H]at L;refine aB ⟨sV DR _,O (i+1) _ (Sv B) q (W.frame _ s' _ _ u (pe _) λ b a o e=>M b o (λ z=>f (z▸a)) e) L λ J x y=>?_⟩;exact D J (Moved.trans W.gtrans ((p.mono j).then_heap (pe _) λ b o a e=>M b o (λ z=>a (z▸bW)) e) x) y
def Y4{Q:Value->ao->Prop}(I:dE vs ns)(a:vs.length<64)
  (h:∀(u:List Value) h' e,Vals ((sortI ns).map V.int) u->(∀b o,s.heap.get? b=some o->h'.get? b=some o)->h'.get? s.heap.objs.size=some (e6 "list" u.toArray e)->Q (.ref s.heap.objs.size) {s with heap:=h'}):
  wpAny (model prog w) A (qL vs>>=λ l=>gB [l] (call (.builtin "list.sort") [l])>>=λ _=>ret l) (λ f s'=>∃r,f= .done (.ret r)/\Q r s') E s:=by
 refine ak (D4 ?_ (by rw[mM];exact LO a));have L:(s.heap.push (e6 "list" vs.toArray 0)).get? s.heap.objs.size=some (e6 "list" vs.toArray 0):=dr _ rfl;refine ak (iL (jX slot_list_sort ⟨_,L,rfl⟩ entry_list_sort (list_sort_tree (s:={s with heap:=s.heap.push (e6 "list" vs.toArray 0)}) L I a λ u c d g i=>⟨_,rfl,aB ⟨_,rfl,?_⟩⟩) (args_list_sort _)));have e:c=sortI ns:=A9 (g.trans (sortI_perm ns).symm) i (rX ns);subst e;have n:∀b o,s.heap.get? b=some o->b≠s.heap.objs.size:=λ b o e=>cH (bE e)
 have j:=xH L λ _=>(#[]:Array Value)
 have k:=bj (e6 "list" #[] 0) (bj (e6 "tuple" vs.toArray 0) j);have m:=xH k (λ _=>u);refine h u.toList _ _ (GX d) (λ b o e=>?_) (by rw[Je];exact m);unfold Ar;rw[tw _ _ _ _ (n b o e)];refine bj _ (bj _ ?_);rw[tw _ _ _ _ (n b o e)];exact bj _ e
end
section
variable{X:aC}
def aB5φ(w:World)(a:Addr)(ks:List Int):Heap->Prop:=λ h=>r0 h a (!w.params.followText "set-order") ks
def PV(K:av)(w:World):List V->ah->br->Prop:=λ xs H Q=>∃p ns,xs=[.ref p]/\bN K H p (ns.map V.int)/\ns.length<64/\∀a H',aE H H'->H' a=some (.ext (aB5φ w a (df ns)))->H a=none->Q (.ref a) H'
def Y5(E:X.calm=true):fC X (.type "set") (PV X.K X.w):=by
 intro kX s σ H xs us Q I r h;obtain⟨p,ns,rfl,G,hz,q⟩:=h;obtain⟨u,rfl,J⟩:=vals1 r;cases J;have K:X.A.in1.in1.in1.handled=none:=I.ok.hd E;obtain⟨i,L,aO,_⟩:=I.list G;have z:dE i ns:=intsAre_of L;have M:i.length=ns.length:=As z;obtain⟨j,a,c,A,d⟩:=aO.isList;have S:p<s.heap.objs.size:=bE a;refine PySem.mD (T:="list") (Φ:=aB5φ X.w s.heap.objs.size (df ns)) ⟨j,a,c⟩ F.sub_list_set KX (by decide)
  (λ N y4 yY Q₁ k q=>Ax (s:={s with heap:=N}) (items:=i.toArray) ⟨j,k _ _ a,c,A,d⟩ q) (λ R B=>?_) λ h' O C P=>?_
 .generalize f:(!X.w.params.followText "set-order")=l at B ⊢
  have U:(s.heap.push (bT #[] 0 (.fresh 0 0 l))).get? s.heap.objs.size=some (bT #[] 0 (.fresh 0 0 l)):=dr _ rfl;have n:(s.heap.push (bT #[] 0 (.fresh 0 0 l))).IsList p i.toArray:=⟨j,bj _ a,c,A,d⟩;have V:p≠(s.heap.push (bT #[] 0 (.fresh 0 0 l))).objs.size:=by rw[iM];exact cH (mJ S)
  have v:s.heap.objs.size∉[(s.heap.push (bT #[] 0 (.fresh 0 0 l))).objs.size,p]:=by
   rw[iM];simp only[bI,iK,or_false,not_or];exact⟨cH (il _),kR S⟩
  refine PU ((EJ K _ p V i.toArray).toS) v z (by simp) (by simpa[M]using hz) l (i.toArray.size-0) 0 _ (by simp) (dn _) ⟨⟨_,dr _ rfl,rfl,rfl⟩,(n.push _)⟩
   ⟨#[],0,_,bj _ U,ff.fresh l,rfl,[],rfl,g0 _⟩ λ s' m w=>?_
  obtain⟨h',g',d',x,y⟩:=s';have eg:g'=s.gens:=m.gens;have W:d'=s.drawn:=m.drawn;have Y:y=s.os:=m.os;subst eg;subst W;subst Y;refine B h' x (by unfold aB5φ;rw[f];exact w) λ b o e=>m.heap b o ?_ (bj _ (bj _ e))
  have D:=bE e;rw[iM];simp only[bI,iK,or_false,not_or];exact⟨cH D,cH (mJ D)⟩
 .have g:H s.heap.objs.size=none:=I.hok.fresh (bc _)
  obtain⟨es,ep,t,Z,r⟩:=id C;exact⟨.ref s.heap.objs.size,bq H s.heap.objs.size (.ext (aB5φ X.w s.heap.objs.size (df ns))),I.laid (t':=O) P (bc _) ⟨C,⟨_,Z⟩,λ h1 h2 ⟨es,ep,t,e1,e2⟩ k=>⟨es,ep,t,k _ e1,e2⟩⟩,rfl,q _ _ (eG g _) dM g⟩
def G7(w:World):List V->ah->br->Prop:=λ xs H Q=>∃a ks,xs=[.ref a]/\H a=some (.ext (aB5φ w a ks))/\ks.length<64/\nh H (.lst ((sortI ks).map V.int)) Q
theorem ints_of:∀(t:List (Int×Tok)),dE (t.map λ p=>jZ p.1 p.2) (t.map (·.1))
 |[]=>.nil
 |p::r=>.cons _ _ (ints_of r)
def PW(D:X.calm=true):fC X (.builtin "sorted") (G7 X.w):=by
 intro W s σ H xs us Q I r h;obtain⟨a,ks,rfl,ha,c,q⟩:=h;obtain⟨u,rfl,E⟩:=vals1 r;cases E;obtain⟨⟨es,ep,t,F,G,J,k,y,A⟩,_,_⟩:=I.hok a _ ha;have z:es.size=ks.length:=by rw[<-dY,A.length_eq,bb,<-y,bb]
 have K:X.A.in1.handled=none:=I.ok.hd D;refine Gy (X8 (X7 (ep:=ep) G J) K F (by rw[z,mM];exact LO c) λ d B v k0 k1 k2 k3=>?_);have L:(kg X.w a ep es).toList.Perm (k.map wB):=(Cm X.w a ep es).trans A;obtain⟨g,M,N⟩:=Gx (f:=wB) L rfl;have j:v=g.map λ p=>jZ p.1 p.2:=by
  have O:(kg X.w a ep es).toList.map (·.2)=g.map λ p=>jZ p.1 p.2:=by rw[N,fW];rfl
  have P:(kg X.w a ep es).toList.length=es.size:=by rw[(Cm X.w a ep es).length_eq,dY]
  rw[<-O];refine JL (by rw[k2,bb,P]) λ i R S=>?_
  have:=k3 i _ (en R)
  rw[<-hV,<-fM,en S]at this;exact(hX this).symm
 subst j;have m:(g.map (·.1)).Perm ks:=by rw[<-y];exact M.map _
 have n:sortI (g.map (·.1))=sortI ks:=A9 (((sortI_perm _).trans m).trans (sortI_perm ks).symm) (rX _) (rX _);refine Y4 (s:={s with heap:=d,toks:=B}) (ints_of g) (by rw[k2];exact SC c z) λ w h' e C T U=>?_
 rw[n]at C;have l:s.heap.objs.size<=d.objs.size:=lR k0;have x:H d.objs.size=none:=I.hok.fresh l;exact⟨.ref d.objs.size,bq H d.objs.size (.lst ((sortI ks).map V.int)),I.laid (t':=B) (λ b o e=>T b o (k1 b o e)) l ⟨by rw[bb,(sortI_perm ks).length_eq];exact eJ (lR c) (by decide),w,e,C,U⟩,rfl,q.at x⟩
end
noncomputable def y7:List D->ag D
 |[.lst l]=>match intsOf l with
  |some ns=>if ns.length<64 then .ok (.lst ((sortI (df ns)).map .int))else .st
  |none=>.st
 |_=>.st
section
variable{C:bB}{s o p d:Pos}{m:Mode}{a:Expr}{g:af->ag (List D)}
def Y6(B:C.mg "sorted"=none)(j:C.mg "set"=none)(ha:fD C m [a] g)(D:∀i,aW [a] (C.X i).env=[(false,eval a (C.X i).env)]:=by z_go)(h:∀i,aW [Expr.Call (.Name "set" d) [a] [] o] (C.X i).env=[(false,eval (.Call (.Name "set" d) [a] [] o) (C.X i).env)]:=by z_go)(E:∀i,cN (C.X i) "sorted":=by z_go)(F:fu "sorted"=some (.builtin "sorted"):=by f_are)(k:∀i,cN (C.X i) "set":=by z_go)(l:fu "set"=some (.type "set"):=by f_are):
  aA C (some []) (.Call (.Name "sorted" p) [.Call (.Name "set" d) [a] [] o] [] s) (aN y7 g):=by
 obtain⟨t,G,I⟩:=ha;have u:∀i,(C.X i).w=C.w:=λ i=>(C.cx i).2.1
 refine⟨md (G7 C.w) (i7 (md (PV C.K C.w) t) j9),λ i=>tJ (by rw[<-u i];exact PW (C.calm i)) (E i) (by rw[(C.cx i).2.2.2.1];exact B) F
  (dv (tK (by rw[<-C.hK i,<-u i];exact Y5 (C.calm i)) (k i) (by rw[(C.cx i).2.2.2.1];exact j) l (G i) (by decide) (by decide) (D i) rfl) hD (h i)) (by decide) (by decide) (h i) rfl,λ τ σ H ρ lab Q R W=>?_⟩
 refine I τ σ H ρ lab _ R (W.bd.imp λ ds _ w xs S x J=>?_);obtain⟨z,f,w⟩:=w.okD;unfold y7 at f;split at f
 .obtain⟨v,rfl,K⟩:=J.one_inv
  obtain⟨b,T,rfl,L,U,y⟩:=K.lst_inv;split at f
  .rename_i ns e
   split at f
   .rename_i A
    cases f;rw[lx e]at y;have M:=y.ints_of;subst M;refine⟨b,ns,rfl,bN.of L,A,λ c V s2 n N=>⟨c,df ns,rfl,n,xE (G0 ns) A,λ q O s3 P r=>w _ O ((x.trans s2).trans s3) (.lst P (.inl ((x.trans s2).free r)) az.ints)⟩⟩
   .cases f
  .cases f
 .cases f
end
abbrev Y7:=List (Str×(List D->ag D))
noncomputable def fnOf(t:Y7):ag D->Option (List D->ag D)
 | .ok (.fn x)=>t.lookup x
 |_=>none
def G8(K:av)(a:Addr):kY:=
 ⟨λ i H=>∃xs x,bN K H a xs/\xs[i]? =some x,λ i H x H'=>∃p y,x= .ref p/\H p=none/\H'=bq H p (.tup [.int i,y])/\∀xs,bN K H a xs->xs[i]? =some y,λ i H=>∃xs,bN K H a xs/\xs.length<=i⟩
def Y8{K:av}(a e t:Addr)(n:e≠t)(L:a≠e)(M:a≠t):
  Turn P w K (.Tuple elts x1 ps) (G8 K a) [e,t] e (λ i h=>(∃l,IsEnum h e t i l)/\h.IsListIter t a i) where
 mem:=by simp
 obj:=λ i h st b f=>by
  obtain⟨⟨l,g⟩,o,e2,c,d⟩:=st;rcases bI.mp f with rfl|f
  .exact⟨_,g,λ v z=>by cases z⟩
  .have q:b=t:=by simpa using f
   subst q;exact⟨o,e2,λ v z=>by rw[d]at z;cases z⟩
 keep:=λ i h h' st k=>⟨let⟨l,g⟩:=st.1;⟨l,k e (by simp) _ g⟩,st.2.at λ o q=>k t (by simp) o q⟩
 item:=by
  intro X N O hK C i kX s σ H E I hf st Q;subst N O hK;obtain⟨xs,x,G,R⟩:=Q;obtain⟨r,S,p,hz⟩:=I.list G;obtain⟨u,hu,ru⟩:=S.get R;obtain⟨⟨l,g⟩,j⟩:=st;refine wpAny_pyNext_enum_itemD (Draws.list (A:=X.A.in1) (show X.A.in1.handled=none from I.ok.hd C) t a M r.toArray) g ⟨j,p.isList⟩ (by have:=(eW.mp hu).1;simpa using this) n (by simp[n,jT L]) λ y h' tk J U V D hsz hk=>⟨_,rfl,?_⟩
  have ey:y=u:=by
   have:r.toArray[i]? =some u:=by simpa using hu
   rw[this]at J;exact(hX J).symm
  subst ey;have B:e<s.heap.objs.size:=bE g;refine wpAny_letOwnedTupleGo_enum U λ h2 W m=>⟨.ref s.heap.objs.size,bq H s.heap.objs.size (.tup [.int i,x]),?_,rfl,⟨_,x,rfl,I.hok.fresh (bc _),rfl,λ ys J=>by rw[I.list_inj J G];exact R⟩,⟨⟨_,by simpa using W⟩,V.1.at λ o q=>(m.2 t (jT n)).trans q⟩,λ b f=>?_⟩
  .exact PT (s:=s) (h':=h2) (t':=tk+1) I hf (λ b u f q=>(m.2 b λ z=>f (by simp[z])).trans (hk b u (λ z=>f (by simp[z])) (λ z=>f (by simp[z])) q)) (bc _) ⟨⟨by simp[mM],NoD.at ((m.2 _ (kR B)).trans D)⟩,[.int i tk,y],.cons ⟨_,rfl⟩ (.cons ru .nil),_,(m.2 _ (kR B)).trans D,rfl,_,rfl⟩
  .have:=(hf b f).1
   rw[bR]
   .exact this
   .rintro rfl
    rcases bI.mp f with q|q
    .exact absurd B (by rw[<-q];exact kQ _)
    .obtain⟨o,Y,_⟩:=j
     have q2:s.heap.objs.size=t:=by simpa using q
     exact absurd (bE Y) (by rw[<-q2];exact kQ _)
 done:=by
  intro X N O hK C i kX s σ H E I hf st Q;subst N O hK;obtain⟨xs,G,R⟩:=Q;obtain⟨r,S,p,hz⟩:=I.list G;obtain⟨⟨l,g⟩,j⟩:=st;obtain⟨f0,f1,f2,f3,f4,f5⟩:=hf t (by simp);have D:s.TypeIs (.ref e) "enumerate":=⟨_,g,rfl⟩;have hl:=S.length;unfold jY;refine ak (u6 (mK (name:=mW "__next__") D KR (jX KR D F.entry_enumerate_next ?_ (F.args_enumerate_next_1 _))));show wpAny _ _ (field (.ref e) 2>>=_) _ _ _;refine ak (gR g rfl (x:=.ref t) rfl ?_);refine ak (wpAny_nextOf_list_end (I.ok.hd C) j p.isList (by simp;simp_all) λ h' x Z hx'=>?_);obtain⟨o,U,C⟩:=hx';refine ak (AA (T:="StopIteration") (b:=true) ⟨o,U,C⟩ D0 ?_);exact aB ⟨rfl,I.turned (t':=s.toks) (λ b o f q=>Z b o f q) f0 f1 f3 f4 f5⟩
 self:=λ _ _ _ _ _ st h=>let⟨⟨_,g⟩,_⟩:=st;Kq g h
def PX(K:av)(t:fv):dZ:=λ σ H R=>t σ H λ xs b=>∃a,xs=[.ref a]/\(∃y,bN K b a y)/\R (G8 K a) b
def Y9{x:Nat}(m:eE X [l] tl)(n:cN X "enumerate")(r:X.mg "enumerate"=none)(v:fu "enumerate"=some (.type "enumerate"))
  (f:aW [l] X.env=[(false,eval l X.env)]:=by rfl):pB X (.Tuple elts x ps) (.Call (.Name "enumerate" p) [l] [] pos) (PX X.K tl):=by
 intro t s σ H R I h;refine qI (vv I n r v ?_ (by decide) (by decide));refine Ap (aZ (m pos t s σ H _ I h) λ us c ⟨E,w,g,y,a,e,⟨F,z⟩,q⟩=>?_) f rfl;subst e;obtain⟨u,rfl,A⟩:=y.one;cases A;obtain⟨B,G,k,hz⟩:=g.list z;have ha:a<c.heap.objs.size:=let⟨o,_,ho,_⟩:=k;bE ho
 refine call_enumerate_list k.isList λ h' f i _ C=>Kq f ?_
 have D:c.heap.objs.size+1≠c.heap.objs.size:=by simp
 refine⟨_,_,_,_,w,rfl,g.kept (t':=c.toks) C,Y8 a _ _ D (cH (mJ ha)) (cH ha),⟨⟨_,f⟩,i⟩,λ b j=>?_,q⟩;have d:c.heap.objs.size<=b:=by
  rcases bI.mp j with rfl|j
  .exact pe _
  .have:b=c.heap.objs.size:=by simpa using j
   exact Ak this.symm
 exact g.fpOk d (g.hok.fresh d)
def G9:List D->ag (List D)
 |[.lst l]=>.ok (ua l)
 |_=>.st
def Za{K:av}(h:bN K H a xs)(r:az K (λ p=>(lab p).1<=1) H xs ds):vS K lab (G8 K a) H (ua ds):=by
 have j:=r.length;have l:(ua ds).length=ds.length:=by simp[ua]
 refine λ i=>⟨λ c=>⟨xs,h,by simp_all⟩,λ c=>⟨⟨xs,xs[i]'(by simp_all),h,by simp_all⟩,λ x H' y=>?_⟩⟩
 obtain⟨p,y,rfl,b,rfl,e⟩:=y;obtain⟨d,f,g⟩:=r.get (e xs h);refine⟨eG b _,_,?_,.tup (.inl (.inl dM)) (.cons (.int _) (.cons (g.up (eG b _)) .nil))⟩;unfold ua;rw[fM,List.getElem?_zipIdx,f];simp
section
variable{C:bB}{m:Mode}{a:Expr}{g:af->ag (List D)}{c:List Expr}{x:Nat}{ps p f:Pos}
def Zb(ha:fD C m [a] g)(n:C.mg "enumerate"=none)(u:oq m=true:=by rfl)(y:∀i,aW [a] (C.X i).env=[(false,eval a (C.X i).env)]:=by z_go)(A:∀i,cN (C.X i) "enumerate":=by z_go)(B:fu "enumerate"=some (.type "enumerate"):=by f_are):
  rF C (.Tuple c x ps) (.Call (.Name "enumerate" p) [a] [] f) (gs G9 g):=by
 obtain⟨t,D,E⟩:=ha;refine⟨PX C.K t,λ i=>by rw[<-C.hK i];exact Y9 (D i) (A i) (by rw[(C.cx i).2.2.2.1];exact n) B (y i),λ τ σ H ρ lab N R W=>E τ σ H ρ lab _ R (W.bd.imp λ ds _ w O F s r=>?_)⟩;cases ds with
 |nil=>exact aX w
 |cons d ds=>
  cases ds with
  |cons _ _=>cases d<;>exact aX w
  |nil=>
   obtain⟨v,rfl,G⟩:=r.one_inv;cases d with
   |lst l=>
    obtain⟨j,I⟩:=R.shared u s G;obtain⟨b,xs,rfl,h,mm,q⟩:=I.lst_inv;refine⟨b,rfl,⟨xs,bN.of h⟩,w _ F _ [(.ref b,.lst l)] s (λ p o e=>iO e) ⟨j.len,j.sl,j.old,j.new,λ z hz=>?_⟩ λ k H' J=>?_⟩
    .rcases bI.mp hz with rfl|hz
     .exact .lst h mm q
     .exact j.tm z hz
    .have z:=J _ (bW ..)
     obtain⟨P,K,L,h',_,M⟩:=z.lst_inv;cases L;exact Za (bN.of h') (M.wk λ _ _ _ z=>z.1)
   |_=>exact aX w
end
end VL
namespace HT
open PySem PySem.Spec PyProof.Rows
end HT
namespace VL
open PySem PySem.Spec PyProof.Rows L2
end VL
namespace PySem.AutoSeq1
set_option maxRecDepth 8000 in
def aE7(l:Addr)(items:Array Value)(n:Nat)(b:Addr)(i:Array Value)(f:Nat)(dd:Option Addr)(sl:Array (Option Value))(j:¬(!items.isEmpty&&xY (items.size+i.size))=true)(a:items.size<=aI)(c:items.size+i.size<=aI+1):
  Meets (ia.«list.extend» ⟨[.ref l,.ref b],[]⟩) (λ _ R s=>s.heap.get? l=some {cls:=.type "list",dict:=none,data:=.seq items n,slots:=#[]}/\s.heap.get? b=some {cls:=.type "tuple",dict:=dd,data:=.seq i f,slots:=sl}/\
   R (.ok (.ret lV)) {s with heap:=s.heap.update l (kU λ x=>x++i),toks:=s.toks}):=
 .of_wp λ prog w A R s h=>by
  obtain⟨p,g,d,t,o⟩:=s;obtain⟨e,k,h⟩:=h;have m:=idx_int;have q:=sub_tuple_tuple;have r:=sub_list_list;have u:=sub_tuple_list;have v:=sub_list_tuple;have z:(items++i).size<=aI+1:=by rw[Dg];exact c
  wp_walk using(xM e rfl (hz:=a) (_hz':=z)),nX e,nX k;exact⟨_,rfl,h⟩
end PySem.AutoSeq1
namespace VL
open PySem PySem.Spec PyProof.Rows L2
def PY(K:av):V->List V->ah->br->Prop:=λ x v H Q=>∃l b xs z,x= .ref l/\v=[.ref b]/\H l=some (.lst xs)/\bf K H b z/\xs.length+z.length<=aI/\∀H',ij l H H'->H' l=some (.lst (xs++z))->Q .non H'
def Zc:vA X "list.extend" (PY X.K):=by
 intro C s σ H x D v us Q I j k h;obtain⟨l,b,xs,F,rfl,rfl,f,B,hz,q⟩:=h;cases j;obtain⟨u,rfl,m⟩:=k.one;cases m;obtain⟨z,t,n,r,G,e⟩:=I.lstM f;obtain⟨i,g,⟨⟨c2,dd,J,sl⟩,p,c,w,d⟩,K⟩:=I.tuple B;subst c d;have l1:=r.length;have l2:=g.length;have a:t.toArray.size+i.toArray.size<=aI:=by simp_all
 have E:¬(!t.toArray.isEmpty&&xY (t.toArray.size+i.toArray.size))=true:=by
  rw[BD a,xm];exact cL
 refine hY xZ ⟨_,e,rfl⟩ KY (KV _ _) (AutoSeq1.aE7 l t.toArray n b i.toArray w dd sl E (by simp_all) (L1 a)) ⟨e,p,?_⟩;refine⟨.non,_,I.lset f e (by simp) (r.append g) ?_,rfl,q _ (λ b o y A=>by rw[bR y];exact A) dM⟩;rw[cy];omega
section
variable{C:bB}{f a c p:Pos}{e:Expr}{fe:af->ag D}{i:Nat}{x:Str}{m:Mode}
noncomputable def Cy(ds:List D)(k:List D->ax):D->ax
 | .tup es=>if ds.length+es.length<=aI then k (ds++es)else .st
 |_=>.st
def Ha(i:Nat)(fe:af->ag D):af->ax:=λ ρ=>match ρ[i]? with
 |some (.ow (.lst ds))=>(fe ρ).bo (Cy ds λ l=>.nx (ρ.set i (.ow (.lst l))))
 |_=>.st
def Zd(i:Nat)(Q:aA C m e fe)(S:BV m=true:=by rfl)(T:∀j,(C.X j).N[i]? =some x:=by z_go)(U:∀j,j7 (C.X j).env.scope x:=by x_go)(V:Nd x:=by decide)
  (E:(x==("__classdict__":Str))=false:=by decide)(l:∀j,aW [e] (C.X j).env=[(false,eval e (C.X j).env)]:=by z_go)
  (g:∀j,sU (.Name x p) "extend" (C.X j).env (eval (.Name x p) (C.X j).env)=eval (.Name x p) (C.X j).env:=by z_go)
  (n:∀j,((gk c (aW [e] (C.X j).env)).all (λ x=>!x.1)&&(sY c (sX [] (C.X j).env)).all (λ x=>x.1.isSome)&&decide ([e].length+([]:List jt).length+(if ([]:List jt).isEmpty then 0 else 1)<30))=true:=by z_go)
  (hline:(a.endLine==c.line)=true:=by rfl)
  (F:∀j,nY (.Call (.Attribute (.Name x p) "extend" a) [e] [] c) none f.line (C.X j).env=pure false:=by z_go):
  hG C (.Expr (.Call (.Attribute (.Name x p) "extend" a) [e] [] c) f) (Ha i fe):=by
 obtain⟨t,X,Y⟩:=Q;refine⟨vw (yu C.K "list" (PY C.K) (iw i) (i7 t j9)),λ j=>ym (by rw[<-C.hK j];exact vz tp xZ Eh Zc (jz (T j) (U j) V E) (dv (X j) hD (l j)) (g j) (n j) hline (l j) rfl) (F j),λ τ σ H ρ lab De R W=>?_⟩;unfold Ha at W;cases es:ρ[i]? with
 |none=>rw[es]at W;exact aX W
 |some s=>
  rw[es]at W;split at W
  .rename_i ds Z
   cases Z;rcases R.sl i _ es with z|⟨v,M,G⟩
   .cases z
   .obtain⟨I,u⟩:=G
    obtain⟨A,J,K⟩:=u rfl;subst J;obtain⟨a1,xs,L,h,mm,r⟩:=I.lst_inv;cases L;refine⟨.ref A,M,.inl ⟨rfl,xs,bN.of h⟩,Y τ σ H ρ lab _ R (W.bo.imp λ d _ w y H2 s2 r2=>?_)⟩;cases d with
    |tup D=>
     dsimp only[Cy]at w;by_cases hz:ds.length+D.length<=aI
     .rw[if_pos hz]at w
      obtain⟨R',r'⟩:=R.fresh (P:=λ k=>k=1) rfl (λ k hk=>beq_iff_eq.mp (rE S k hk)) s2 r2;have la:(gD H 1 lab A).1=i+2:=by rw[iO h];exact K
      obtain⟨b,N,rfl,hb,O⟩:=r'.tup_inv;refine⟨A,b,xs,N,rfl,rfl,s2 _ _ h,hb,by rw[r.length,O.length];exact hz,λ H3 B h3=>?_⟩;refine w σ H3 _ (R'.mut M (s2 _ _ h) rfl la B ⟨.lst h3 (.inr la) ?_,λ _=>⟨A,rfl,la⟩⟩);have ra:az C.K (λ p=>((gD H 1 lab p).1=1\/(gD H 1 lab p).1=i+2)/\p≠A) H2 (xs++N) (ds++D):=by
       refine(r.mono s2 λ p o e z=>⟨by rw[iO e];exact z.1,z.2⟩).append (O.wk λ p o e z=>⟨.inl z,λ q=>?_⟩);subst q;have z1:(gD H 1 lab p).1=1:=z;simp_all
      exact ra.but B (s2 _ _ h) rfl λ z=>z.2 rfl
     .rw[if_neg hz]at w
      exact aX w
    |_=>exact aX w
  .exact aX W
end
def fj(K:av)(x:Str)(st:Stmt)(f:Addr)(d:cB):Prop:=L2.Fun K x x st f d/\dF K cz x=some (some (.ref f))
def enr{K:av}{st:Stmt}{o eo b p d t:Value}(a:dF K cz x=some (some (.ref f)))
  (l:K.lookup f=some ⟨o,od,.func (kV x x (tM st) (iz st) (bg st) .none eo b p an d t),sl⟩)(c:vp K d x=true)(k:mX K (.ref f)=true):∃f e,fj K x st f e:=⟨f,_,Vm (st:=st) l c k,a⟩
structure eF(K:av)(mg:Str->Option Value)(x:Str)(st:Stmt)(ps:List Str)(f:Addr)(d:cB):Prop where
 F:L2.Fun K x x st f d
 m:mg x=some (.ref f)
 b:L2.Binds K d ps []
section
variable{C:bB}
def dh{st:Stmt}(a:fS C.prog C.w C.K C.mg C.base (eh C.prog C.w) k fn fd ps (kd C.K C.G.cl n F))(D:eF C.K C.mg x st ps fn fd)(ha:fD C m (e::es) ga)(r:k<=C.k:=by exact xD rfl)(g:∀i,cN (C.X i) x:=by z_go)
  (b:∀ρ ds,ga ρ= .ok ds->ds.length=n:=by repeat (first|exact λ _ _ h=>WC h|apply WD))(d:Nd x:=by decide)(c:∀i,aW (e::es) (C.X i).env=(false,eval e (C.X i).env)::aW es (C.X i).env:=by z_go)
  (hpl:∀i,(gk pos (aW es (C.X i).env)).any (·.1)=false:=by z_go):aA C (some []) (.Call (.Name x p) (e::es) [] pos) (bt F ga):=WB a r D.m D.F.kp D.b ha b d c hpl g
end
def lF{P:aR}{w:World}{K:av}{st:Stmt}(D:eF K mg q st ps fn fd)(S:dk N ps (bg st))(h:N.Nodup->∀c A o s H E r,jd (vT P w K mg base N q (bg st) fn c A o s H E k r) (iz st) f)(a:ps.length=n:=by rfl)(F:dN N.length f=FF:=by rfl):
  fS P w K mg base (eh P w) (k+1) fn fd ps (kd K (bL mg) n FF):=WG D.F S (h S.nd) a F
section
variable{prog:aR}{w:World}{A:aS}{R:pj->ao->Prop}{I S:Addr}{f a:List Addr}{n:Nat}{P:Nat->Value->Prop}{St:Nat->Heap->Prop}{t:Nat->Nat->Bool}
def Cz(prog:aR)(w:World)(A:aS)(P:Nat->Value->Prop)(St:Nat->Heap->Prop)(t:Nat->Nat->Bool):Prop:=
 ∀i j k v a (s:ao) (Q E:Value->ao->Prop),St k s.heap->P i v->P j a->Q (.bool (t i j)) s->wpAny (model prog w) A (vb .Lt v a) Q E s
abbrev Ze(v:Value)(c:Nat):Obj:={cls:=.type "list",dict:=none,data:=.seq #[v,v] c,slots:=#[]}
abbrev PZ(prog:aR)(w:World)(A:aS)(I S:Addr)(R:pj->ao->Prop)(s:ao):Prop:=ie (model prog w) A (.builtin "min.loop" ⟨[.ref I,.none,.ref S],[]⟩) R s
abbrev P0(a:List Addr)(n:Nat)(P:Nat->Value->Prop)(t:Nat->Nat->Bool)(S:Addr)(R:pj->ao->Prop)(s:ao):Prop:=
 ∀v h' k,P (pk t (n-1)) v->(∀b o,b∉a->b≠S->s.heap.get? b=some o->h'.get? b=some o)->R (.ok (.ret v)) {s with heap:=h',toks:=k}
def Zf(W:Walks prog w A.in1 I f a n P St)(G:Cz prog w A.in1 P St t)(r:S∉f)(k:Nat):∀(j:Nat) (s:ao) (d:Value) (c:Nat),j+1+k=n->St (j+1) s.heap->P (pk t j) d->
  s.heap.get? S=some (Ze d c)->P0 a n P t S R s->PZ prog w A I S R s:=by
 have nw:S∉a:=λ h=>r (W.sub _ h)
 have nm:(vq "min"++vq ".loop":String)="min.loop":=by decide
 induction k with
 |zero=>
  intro j s d c C st pb u i;refine nW El ?_;rw[qN tu _];show wpAny _ A.in1 (xU (.ref S)>>=_) _ _ s;refine ak (kS u rfl ?_);show wpAny _ A.in1 (Ag (jY (.ref I)) _>>=_) _ _ s;refine ak (AE (W.done s _ _ (by rw[<-C];exact st) λ h' D p=>?_));show wpAny _ A.in1 (updateSeq S (λ _=>#[])>>=_) _ _ _;refine ak (xM (p S _ nw u) rfl (ak (qK (aB (i d _ D ?_ λ b o g q e=>?_)))))
  .have:n-1=j:=by lia
   rw[this];exact pb
  .exact(tv _ _ (jT q)).trans (p b o g e)
 |succ k E=>
  intro j s d c C st pb u i;refine nW El ?_;rw[qN tu _];show wpAny _ A.in1 (xU (.ref S)>>=_) _ _ s;refine ak (kS u rfl ?_);show wpAny _ A.in1 (Ag (jY (.ref I)) _>>=_) _ _ s;refine ak (AE (W.item (j+1) s _ _ (by lia) st λ v h' D lj l p=>?_));have m:=p S _ nw u;show wpAny _ A.in1 (Ag (gB [v,v] (vb .Lt v d>>=_)) _>>=_) _ _ _;refine ak (AE (iL (ak (G (j+1) (pk t j) _ v d _ _ _ l lj pb ?_))));refine ak (iL (pf (ak (qK (aB ?_)))));cases F:t (j+1) (pk t j)with
  |true=>
   simp only[if_true];refine ak (xM m rfl (ak (qK ?_)));rw[nm];refine aB ⟨sV tu _,E (j+1) _ v _ (by grind) (W.frame _ _ _ l λ b H o e=>?_) (by simp only[pk,F,if_true];exact lj) (vj _ m rfl) λ x y z B k2=>?_⟩
   .exact(tv _ _ (λ h:S=b=>r (h▸H))).trans e
   .exact i x y z B λ b o g q e=>k2 b o g q ((tv _ _ (jT q)).trans (p b o g e))
  |false=>
   simp only[jq,if_false];refine ak (qK ?_);rw[nm];refine aB ⟨sV tu _,E (j+1) _ d c (by grind) l (by simp only[pk,F,jq,if_false];exact pb) m λ x y z B k2=>?_⟩;exact i x y z B λ b o g q e=>k2 b o g q (p b o g e)
def Zg(W:Walks prog w A.in1 I f a n P St)(q:Cz prog w A.in1 P St t)(d:S∉f)(r:0<n){s:ao}{c:Nat}(st:St 0 s.heap)
  (k:s.heap.get? S=some {cls:=.type "list",dict:=none,data:=.seq #[] c,slots:=#[]})(i:P0 a n P t S R s):PZ prog w A I S R s:=by
 have nw:S∉a:=λ h=>d (W.sub _ h)
 have nm:(vq "min"++vq ".loop":String)="min.loop":=by decide
 refine nW El ?_;rw[qN tu _];show wpAny _ A.in1 (xU (.ref S)>>=_) _ _ s;refine ak (kS k rfl ?_);show wpAny _ A.in1 (Ag (jY (.ref I)) _>>=_) _ _ s;refine ak (AE (W.item 0 s _ _ r st λ v h' C lj j p=>?_));have g:=p S _ nw k;show wpAny _ A.in1 (updateSeq S (λ _=>#[v,v])>>=_) _ _ _;refine ak (xM g rfl ?_);rw[nm];refine aB ⟨sV tu _,Zf W q d (n-1) 0 _ v _ (by lia) (W.frame _ _ _ j λ b u o e=>?_) lj (vj _ g rfl) λ x y z B k2=>?_⟩
 .exact(tv _ _ (λ h:S=b=>d (h▸u))).trans e
 .exact i x y z B λ b o l m e=>k2 b o l m ((tv _ _ (jT m)).trans (p b o l e))
abbrev P1(prog:aR)(w:World)(A:aS)(Q:Value->ao->Prop):Value->ao->Prop:=λ i z=>∃I f a n P St t,i= .ref I/\Walks prog w A.in1 I f a n P St/\St 0 z.heap/\(∀b∈f,b<z.heap.objs.size)/\0<n/\Cz prog w A.in1 P St t/\
  ∀v h' k,P (pk t (n-1)) v->(∀b o,b∉a->z.heap.get? b=some o->h'.get? b=some o)->Q v {z with heap:=h',toks:=k}
def Zh{Q:Value->ao->Prop}{i:Value}{z:ao}(h:P1 prog w A Q i z):
  ie (model prog w) A (.builtin "min.loop" ⟨[i,.none,.ref z.heap.objs.size],[]⟩) (λ r s=>match r with| .ok (.ret v)=>Q v s|_=>False) {z with heap:=z.heap.push {cls:=.type "list",data:=.seq #[]}}:=by
 obtain⟨I,f,a,n,P,St,t,rfl,W,st,l,c,d,q⟩:=h;refine Zg W d (λ m=>kQ _ (l _ m)) c (W.frame _ _ _ st λ b _ o e=>bj _ e) (dr _ rfl) λ v h' g lj k=>?_
 exact q v h' g lj λ b o j e=>k b o j (cH (bE e)) (bj _ e)
end
section
variable{prog:aR}{w:World}{A:aS}{E:Value->ao->Prop}{s:ao}{Q:Value->ao->Prop}
def Zi{a b:Value}(h:wpAny (model prog w) A.in1 (tf (.ref s.heap.objs.size)) (P1 prog w A Q) E {s with heap:=s.heap.push {cls:=.type "tuple",data:=.seq #[a,b]}}):wpAny (model prog w) A (call (.builtin "min") [a,b]) Q E s:=by
 have nm:(vq "min"++vq ".loop":String)="min.loop":=by decide
 refine call_function_tree F.kind_min F.plain_min F.entry_min (F.args_min2 _ _) ?_;show wpAny _ A.in1 (newTuple [a,b]>>=_) _ _ s;refine ak (i3 (ak (iq h (λ i z y=>?_) λ _ _ e=>e)));refine ak (i3 ?_);rw[nm];refine aB ⟨sV tu _,qJ (Zh y) λ r s c=>?_⟩
 match r,c with
 | .ok (.ret v),c=>exact c
end
def y8(items:Array Value)(nss:Nat->List Int)(h:Heap):Prop:=∀i v,items[i]? =some v->∃x t,v= .ref x/\IsTup h x t/\dE t.toList (nss i)
def ub(items:Array Value):List Addr:=items.toList.filterMap λ v=>match v with| .ref x=>some x|_=>none
def Zj{items:Array Value}{i:Nat}(h:items[i]? =some (fO x)):x∈ub items:=by
 unfold ub;rw[sD];exact⟨_,by have:=nL (l:=items.toList) (by simpa using h);assumption,rfl⟩
def y8.keep(T:y8 items nss h)(k:∀b∈ub items,∀o,h.get? b=some o->h'.get? b=some o):y8 items nss h':=λ i v e=>by
 obtain⟨x,t,rfl,⟨o,a,c⟩,d⟩:=T i v e;exact⟨x,_,rfl,⟨o,k x (Zj e) o a,c⟩,d⟩
def Zk{items:Array Value}{nss:Nat->List Int}{St:Nat->Heap->Prop}(W:Walks prog w A I fp wr n (λ i v=>items[i]? =some v) St)(c:∀b∈ub items,b∉wr):Walks prog w A I (fp++ub items) wr n (λ i v=>items[i]? =some v) (λ i h=>St i h/\y8 items nss h) where
 sub:=λ b a=>fQ _ (W.sub b a)
 frame:=λ i h h' st k=>⟨W.frame i h h' st.1 λ b a=>k b (fQ _ a),st.2.keep λ b a=>k b (gz _ a)⟩
 item:=λ i s Q E d st q=>W.item i s Q E d st.1 λ v h' e lj t p=>q v h' e lj ⟨t,st.2.keep λ b a o=>p b o (c b a)⟩ p
 done:=λ s Q E st q=>W.done s Q E st.1 q
 self:=λ i s Q E st q=>W.self i s Q E st.1 q
def Zl{items:Array Value}{nss:Nat->List Int}{St:Nat->Heap->Prop}{A:aS}(u:A.units<cLine):Cz prog w A (λ i v=>items[i]? =some v) (λ i h=>St i h/\y8 items nss h) (λ i j=>HT.lexLt (nss i) (nss j)):=λ i j k a b s Q E st c d q=>by
 obtain⟨x,xs,rfl,e,f⟩:=st.2 i a c;obtain⟨y,m,rfl,g,l⟩:=st.2 j b d;exact HT.zN e g f l u q
def Zm(y:X.A.units+1<cLine)(B:X.calm=true):fC X (.builtin "min") (λ xs H Q=>∃a b ns m,xs=[.ref a,.ref b]/\bf X.K H a (ns.map V.int)/\bf X.K H b (m.map V.int)/\Q (.ref (if HT.lexLt m ns then b else a)) H):=by
 intro N s σ H xs us Q I r h;obtain⟨a,b,ns,m,rfl,ha,C,q⟩:=h;obtain⟨u,v,rfl,D,E⟩:=vals2 r;cases D;cases E;obtain⟨F,G,l,-⟩:=I.tuple ha;obtain⟨J,K,n,-⟩:=I.tuple C;have la:a<s.heap.objs.size:=by obtain⟨o,e,_⟩:=l;exact bE e
 have lb:b<s.heap.objs.size:=by obtain⟨o,e,_⟩:=n;exact bE e
 have T:(s.heap.push {cls:=.type "tuple",data:=.seq #[.ref a,.ref b]}).IsTuple s.heap.objs.size #[.ref a,.ref b]:=⟨_,dr _ rfl,rfl,0,rfl⟩;have d:(s.heap.push {cls:=.type "tuple",data:=.seq #[.ref a,.ref b]}).objs.size=s.heap.objs.size+1:=iM ..;have g:∀x∈ub #[fO a,.ref b],x=a\/x=b:=λ x f=>by simpa[ub]using f
 refine Zi (u4 T ⟨_,_,_,_,_,_,_,rfl,Zk (nss:=λ i=>if i=0 then ns else m) (EI (A:=X.A.in1) (I.ok.hd B) _ s.heap.objs.size (by rw[d];exact cH (il _)) #[.ref a,.ref b]) ?_,⟨⟨⟨_,dr _ rfl,rfl,rfl⟩,T.push _⟩,?_⟩,?_,by simp,Zl y,?_⟩)
 .intro x f w
  rw[kj,d]at w
  have:x<s.heap.objs.size:=by rcases g x f with rfl|rfl<;>assumption
  exact absurd (w▸this) (sJ.mpr (pe _))
 .intro i v e
  have up:∀{x t},IsTup s.heap x t->IsTup ((s.heap.push {cls:=.type "tuple",data:=.seq #[.ref a,.ref b]}).push {cls:=.type "tuple_iterator",data:=.fields #[.ref s.heap.objs.size,.int 0 0]}) x t:=λ⟨o,e,z⟩=>⟨o,bj _ (bj _ e),z⟩
  match i,e with
  |0,e=>cases e;exact⟨a,_,rfl,up l,intsAre_of G⟩
  |1,e=>cases e;exact⟨b,_,rfl,up n,intsAre_of K⟩
  |k+2,e=>simp at e
 .intro x f
  show x<((s.heap.push _).push _).objs.size;rw[iM,d];rcases cu.mp f with f|f
  .simp only[bI,iK,or_false,d]at f
   rcases f with rfl|rfl
   .exact il _
   .exact mJ (il _)
  .have:x<s.heap.objs.size:=by rcases g x f with rfl|rfl<;>assumption
   exact mJ (mJ this)
 .intro v h' O lj k
  refine⟨.ref (if HT.lexLt m ns then b else a),H,I.kept λ c o e=>k c o (λ p=>?_) (bj _ (bj _ e)),?_,q⟩
  .have:=bE e
   rw[kj,d]at p;exact absurd (p▸this) (sJ.mpr (pe _))
  .have L:pk (λ i j=>HT.lexLt (if i=0 then ns else m) (if j=0 then ns else m)) ((#[fO a,.ref b]).size-1)=if HT.lexLt m ns then 1 else 0:=by simp[pk]
   rw[L]at lj;cases M:HT.lexLt m ns<;>rw[M]at lj<;>cases lj<;>rfl
def r9:List D->ag D
 |[.tup l,.tup m]=>match intsOf l,intsOf m with
  |some ns,some s=>.ok (if HT.lexLt s ns=true then .tup m else .tup l)
  |_,_=>.st
 |_=>.st
def Zn{K:av}:om K (λ xs H Q=>∃a b ns s,xs=[.ref a,.ref b]/\bf K H a (ns.map V.int)/\bf K H b (s.map V.int)/\Q (.ref (if HT.lexLt s ns then b else a)) H) r9:=by
 intro A xs ds H Q z r e q;unfold r9 at e;split at e
 .split at e
  .rename_i l m _ _ ns s c d
   cases e;cases r with
   |cons h r=>
    cases r with
    |cons h' r=>
     cases r;have k1:=h;have k2:=h';obtain⟨a,y,rfl,f,g⟩:=h.tup_inv;obtain⟨b,k,rfl,i,j⟩:=h'.tup_inv
     have:=lx c
     subst this
     have:=lx d
     subst this
     have:=g.ints_of
     subst this
     have:=j.ints_of
     subst this;refine⟨a,b,ns,s,rfl,f,i,q _ H (aE.refl H) ?_⟩;cases HT.lexLt s ns
     .exact k1.wk λ _ _ _ z=>.inr z
     .exact k2.wk λ _ _ _ z=>.inr z
  .cases e
 .cases e
def Zo(ns:List Int):er (ns.map .int)=true:=by
 induction ns with
 |nil=>rfl
 |cons a l i=>assumption
def Zp:∀x z,r9 x= .ok z->imm z=true:=by
 intro x z e;unfold r9 at e;split at e
 .split at e
  .rename_i l m _ _ ns s a b
   cases e;rw[lx a,lx b];split<;>exact Zo _
  simp_all
 contradiction
section
variable{C:bB}{o p:Pos}{a b:Expr}{g:af->ag (List D)}{m:Mode}
def Zq(c:C.mg "min"=none)(ha:fD C m [a,b] g)(e:∀i,aW [a,b] (C.X i).env=(false,eval a (C.X i).env)::aW [b] (C.X i).env:=by z_go)
  (hpl:∀i,(gk o (aW [b] (C.X i).env)).any (·.1)=false:=by z_go)(d:∀i,cN (C.X i) "min":=by z_go)(v:fu "min"=some (.builtin "min"):=by f_are):aA C (some []) (.Call (.Name "min" p) [a,b] [] o) (aN r9 g):=
 mn (vQ (λ i=>by have h:=Zm (Vn (C.room i)) (C.calm i);rw[C.hK i]at h;assumption) Zn d c v ha (by decide) (by decide) e hpl) λ _ _ h=>vP Zp h
end
def TupIter.ext{p h':Heap}{it t i c}(h:Heap.IsTupleIter p it t i)(e:AZ c p h')(n:it≠c):h'.IsTupleIter it t i:=h.at λ o q=>e it o n q
def IsTup.ext{p h':Heap}{t c xs}(h:En p t xs)(e:AZ c p h')(n:t≠c):h'.IsTuple t xs:=let⟨o,q,r⟩:=h;⟨o,e t o n q,r⟩
section
variable{prog:aR}{w:World}{A:aS}{E:Value->ao->Prop}{s:ao}{z dZ dc i bw l1 l2:Addr}{k:Nat}{xs f:Array Value}{x y a b:Value}
def Zr{Q:Value->ao->Prop}(D:ZipApart z dZ dc i bw l1 l2)(hz:IsZip s.heap z dZ dc .none)(h:i4 s.heap dZ (.ref i) (.ref bw))(T:i4 s.heap dc a b)
  (G:s.heap.IsTupleIter i l1 k)(H:s.heap.IsTupleIter bw l2 k)(I:s.heap.IsTuple l1 xs)(J:s.heap.IsTuple l2 f)(K:xs[k]? =some x)(L:f[k]? =some y)
  (M:∀h',IsZip h' z dZ dc (mS s.heap.objs.size)->i4 h' dc x y->h'.IsTupleIter i l1 (k+1)->h'.IsTupleIter bw l2 (k+1)->i4 h' s.heap.objs.size x y->
   (∀c o,c∉[z,dc,i,bw]->s.heap.get? c=some o->h'.get? c=some o)->Q (.ref s.heap.objs.size) {s with heap:=h'}):
  wpAny (model prog w) A (ia.«zip.__next__» ⟨[.ref z],[]⟩) (λ l s'=>∃v,l= .done (.ret v)/\Q v s') E s:=by
 show wpAny _ _ (field (.ref z) 2>>=_) _ _ _;refine ak (gR hz rfl (x:=.bool false) rfl ?_);show wpAny _ _ (field (.ref z) 3>>=_) _ _ _;refine ak (gR hz rfl (x:=.ref dZ) rfl (ak (kS h rfl ?_)));show wpAny _ _ (AP (.ref z)>>=_) _ _ _;refine ak ?_;unfold AP;refine ak (gR hz rfl (x:=.none) rfl (aB ?_));simp only[if_true];refine ak (mQ (ak (gR hz rfl (x:=.ref dc) rfl (ak (xI hz (by simp) λ N (O:IsZip N z dZ dc .ellipsis) d=>ak ?_)))));simp only[Aa,Dz,Dx,JS];refine ak (ak (AG ?_));show wpAny _ _ (qO (.ref i)>>=_) _ _ _;refine ak (G5 (TupIter.ext G d.extBut D.i1z) (IsTup.ext I d.extBut D.l1z) K λ P R s2=>aB ?_);have o2:i4 P dc a b:=s2.extBut _ _ D.TOi1 (d.extBut _ _ D.TOz T);refine ak (kS o2 rfl (ak (DY o2 λ S (U:i4 S dc x b) s3=>ak (qK (aB (ak (ak (AG ?_))))))));show wpAny _ _ (qO (.ref bw)>>=_) _ _ _;refine ak (G5 (TupIter.ext (TupIter.ext (TupIter.ext H d.extBut D.i2z) s2.extBut D.i12.symm) s3.extBut D.TOi2.symm) (IsTup.ext (IsTup.ext (IsTup.ext J d.extBut D.l2z) s2.extBut D.l2i1) s3.extBut D.l2TO) L λ V W s4=>aB ?_);have r:i4 V dc x b:=s4.extBut _ _ D.TOi2 U;refine ak (kS r rfl (ak (DY r λ j (t:i4 j dc x y) s5=>ak (qK (aB (aB (ak (kS t rfl (ak (wpAny_newTuple ?_))))))))));have sz:j.objs.size=s.heap.objs.size:=by rw[s5.1,s4.1,s3.1,s2.1,d.1]
 have u:IsZip j z dZ dc .ellipsis:=s5.extBut _ _ D.TOz.symm (s4.extBut _ _ D.i2z.symm (s3.extBut _ _ D.TOz.symm (s2.extBut _ _ D.i1z.symm O)));have k5:∀c o,c∉[z,dc,i,bw]->s.heap.get? c=some o->j.get? c=some o:=λ c o n e=>by
  simp only[bI,iK,or_false,not_or]at n;exact s5.extBut _ _ n.2.1 (s4.extBut _ _ n.2.2.2 (s3.extBut _ _ n.2.1 (s2.extBut _ _ n.2.2.1 (d.extBut _ _ n.1 e))))
 have m:j.IsTupleIter i l1 (k+1):=TupIter.ext (TupIter.ext (TupIter.ext R s3.extBut D.TOi1.symm) s4.extBut D.i12) s5.extBut D.TOi1.symm;have p:j.IsTupleIter bw l2 (k+1):=TupIter.ext W s5.extBut D.TOi2.symm;have B:z<j.objs.size:=bE u;show wpAny _ _ (Ky (.ref z) (.ref j.objs.size)>>=_) _ _ _;refine ak ?_;unfold Ky;have X:IsZip (j.push {cls:=.type "tuple",data:=.seq #[x,y]}) z dZ dc .ellipsis:=bj _ u;refine ak (xI X (by simp) λ Y (Z:IsZip Y z dZ dc (mS j.objs.size)) s7=>xI Z (by simp) λ g (C:IsZip g z dZ dc (mS j.objs.size)) s8=>?_);have up:∀c o,c≠z->j.get? c=some o->g.get? c=some o:=λ c o n e=>s8.extBut _ _ n (s7.extBut _ _ n (bj _ e))
 have F:i4 g j.objs.size x y:=s8.extBut _ _ (kR B) (s7.extBut _ _ (kR B) (dr _ rfl));rw[sz]at C F;refine aB ⟨_,rfl,?_⟩;show Q (.ref j.objs.size) _;rw[sz];exact M g C (up _ _ D.TOz t) (m.at λ o e=>up _ o D.i1z e) (p.at λ o e=>up _ o D.i2z e) F λ c o n e=>up c o (λ q=>n (by simp[q])) (k5 c o n e)
def Zs{Q:Fin->ao->Prop}(r:A.handled=none)(D:ZipApart z dZ dc i bw l1 l2)(hz:IsZip s.heap z dZ dc .none)(T:i4 s.heap dZ (.ref i) (.ref bw))(O:i4 s.heap dc a b)
  (t:s.heap.IsTupleIter i l1 k)(G:s.heap.IsTupleIter bw l2 k)(u:s.heap.IsTuple l1 xs)(H:s.heap.IsTuple l2 f)(l:xs[k]? =none\/f[k]? =none)
  (I:∀h' e,(∀c o,c∉[z,dc,i,bw]->s.heap.get? c=some o->h'.get? c=some o)->(∃o,h'.get? e=some o/\o.cls= .type "StopIteration")->E (.ref e) {s with heap:=h'}):
  wpAny (model prog w) A (ia.«zip.__next__» ⟨[.ref z],[]⟩) Q E s:=by
 show wpAny _ _ (field (.ref z) 2>>=_) _ _ _;refine ak (gR hz rfl (x:=.bool false) rfl ?_);show wpAny _ _ (field (.ref z) 3>>=_) _ _ _;refine ak (gR hz rfl (x:=.ref dZ) rfl (ak (kS T rfl ?_)));show wpAny _ _ (AP (.ref z)>>=_) _ _ _;refine ak ?_;unfold AP;refine ak (gR hz rfl (x:=.none) rfl (aB ?_));simp only[if_true];refine ak (mQ (ak (gR hz rfl (x:=.ref dc) rfl (ak (xI hz (by simp) λ J (v:IsZip J z dZ dc .ellipsis) d=>ak ?_)))));simp only[Aa,Dz,Dx,JS];refine ak (ak (AG ?_));show wpAny _ _ (qO (.ref i)>>=_) _ _ _;have m:∀{j:Heap} {e:Addr},IsZip j z dZ dc .ellipsis->(∀c o,c∉[z,dc,i,bw]->s.heap.get? c=some o->j.get? c=some o)->(∃o,j.get? e=some o/\o.cls= .type "StopIteration")->wpAny (model prog w) A (setField (.ref z) 0 .none) (λ _ s'=>E (.ref e) s') E {s with heap:=j}:=λ{j e} y K ⟨L,g,B⟩=>by
  have M:e≠z:=λ q=>by subst q;rw[y]at g;cases g;simp at B
  exact xI y (by simp) λ N _ C=>I N e (λ c o n q=>C.extBut _ _ (λ q=>n (by simp[q])) (K c o n q)) ⟨L,C.extBut _ _ M g,B⟩
 cases p:xs[k]? with
 |none=>
  refine ak (PS r (TupIter.ext t d.extBut D.i1z) (IsTup.ext u d.extBut D.l1z) p λ F e s2 g=>?_);refine m (s2 _ _ D.i1z.symm v) (λ c o n q=>?_) g;simp only[bI,iK,or_false,not_or]at n;exact s2 _ _ n.2.2.1 (d.extBut _ _ n.1 q)
 |some x=>
  have P:f[k]? =none:=by rcases l with h|h;rw[p]at h;cases h;exact h
  refine ak (G5 (TupIter.ext t d.extBut D.i1z) (IsTup.ext u d.extBut D.l1z) p λ F S s2=>aB ?_);have o2:i4 F dc a b:=s2.extBut _ _ D.TOi1 (d.extBut _ _ D.TOz O);refine ak (kS o2 rfl (ak (DY o2 λ R (U:i4 R dc x b) s3=>ak (qK (aB (ak (ak (AG ?_))))))));show wpAny _ _ (qO (.ref bw)>>=_) _ _ _;refine ak (PS r (TupIter.ext (TupIter.ext (TupIter.ext G d.extBut D.i2z) s2.extBut D.i12.symm) s3.extBut D.TOi2.symm) (IsTup.ext (IsTup.ext (IsTup.ext H d.extBut D.l2z) s2.extBut D.l2i1) s3.extBut D.l2TO) P λ V e s4 g=>?_);refine m (s4 _ _ D.i2z.symm (s3.extBut _ _ D.TOz.symm (s2.extBut _ _ D.i1z.symm v))) (λ c o n q=>?_) g;simp only[bI,iK,or_false,not_or]at n;exact s4 _ _ n.2.2.2 (s3.extBut _ _ n.2.1 (s2.extBut _ _ n.2.2.1 (d.extBut _ _ n.1 q)))
def Zt(l1 l2:Addr)(xs f:Array Value):
  Meets (ia.«zip.__new__» ⟨[.type "zip",.ref l1,.ref l2],[]⟩) (λ _ R s=>s.heap.IsTuple l1 xs/\s.heap.IsTuple l2 f/\
   ∀a b c e,a=s.heap.push {cls:=.type "tuple_iterator",data:=.fields #[.ref l1,.int 0 0]}->b=a.push {cls:=.type "tuple_iterator",data:=.fields #[.ref l2,.int 0 0]}->c=b.push {cls:=.type "tuple",data:=.seq #[.ref s.heap.objs.size,.ref a.objs.size]}->e=c.push {cls:=.type "tuple",data:=.seq #[.none,.none]}->
   R (.ok (.ret (.ref e.objs.size))) {s with heap:=e.push {cls:=.type "zip",data:=.fields #[.none,.bool false,.bool false,.ref b.objs.size,.ref c.objs.size]}}):=
 .of_wp λ prog w A R s h=>by
  obtain⟨p,g,d,t,i⟩:=s;obtain⟨u,j,h⟩:=h;have l:=sub_zip;have v:En (Lq ⟨p,g,d,t,i⟩) l1 xs:=u;have k:En (Lq ⟨p.push {cls:=.type "tuple_iterator",data:=.fields #[.ref l1,.int 0 0]},g,d,t,i⟩) l2 f:=let⟨o,q,r⟩:=j;⟨o,bj _ q,r⟩
  wp_walk using u4 v,u4 k;exact⟨_,rfl,h _ _ _ _ rfl rfl rfl rfl⟩
def Zu{Q:Value->ao->Prop}(H:s.heap.IsTuple l1 xs)(I:s.heap.IsTuple l2 f)
  (h:∀h' n,n=s.heap.objs.size->IsZip h' (n+4) (n+2) (n+3) .none->i4 h' (n+2) (.ref n) (.ref (n+1))->i4 h' (n+3) .none .none->h'.IsTupleIter n l1 0->h'.IsTupleIter (n+1) l2 0->
   (∀c o,s.heap.get? c=some o->h'.get? c=some o)->Q (.ref (n+4)) {s with heap:=h'}):
  wpAny (model prog w) A (call (.type "zip") [.ref l1,.ref l2]) Q E s:=by
 refine callType_new F.called_zip (by decide) (F.typeCall_zip_2 _ _) (F.newCall_zip_2 _ _) (λ j=>F.args_object_init_3 j _ _) F.entry_zip_new (Zt l1 l2 xs f) ⟨H,I,λ a b d k l m r t=>?_⟩;have v:a.objs.size=s.heap.objs.size+1:=by rw[l,iM]
 have g:b.objs.size=s.heap.objs.size+2:=by rw[m,iM,v]
 have i:d.objs.size=s.heap.objs.size+3:=by rw[r,iM,g]
 have D:k.objs.size=s.heap.objs.size+4:=by rw[t,iM,i]
 have x:∀c o,s.heap.get? c=some o->a.get? c=some o:=λ c o q=>by rw[l];exact bj _ q
 have e:∀c o,a.get? c=some o->b.get? c=some o:=λ c o q=>by rw[m];exact bj _ q
 have p:∀c o,b.get? c=some o->d.get? c=some o:=λ c o q=>by rw[r];exact bj _ q
 have u:∀c o,d.get? c=some o->k.get? c=some o:=λ c o q=>by rw[t];exact bj _ q
 have G:=dr s.heap (o:={cls:=.type "tuple_iterator",data:=.fields #[.ref l1,.int 0 0]}) rfl;have y:=dr a (o:={cls:=.type "tuple_iterator",data:=.fields #[.ref l2,.int 0 0]}) rfl;have z:=dr b (o:={cls:=.type "tuple",data:=.seq #[.ref s.heap.objs.size,.ref a.objs.size]}) rfl;have B:=dr d (o:={cls:=.type "tuple",data:=.seq #[.none,.none]}) rfl;rw[<-l]at G;rw[<-m]at y;rw[<-r]at z;rw[<-t]at B;have C:=dr k (o:={cls:=.type "zip",data:=.fields #[.none,.bool false,.bool false,.ref b.objs.size,.ref d.objs.size]}) rfl;show _/\_;rw[g,i,D]at C;rw[i]at B;rw[v,g]at z;rw[v]at y;rw[D,g,i];exact⟨⟨_,C,rfl⟩,h _ _ rfl C (bj _ (u _ _ z)) (bj _ B) ⟨_,bj _ (u _ _ (p _ _ (e _ _ G))),rfl,rfl⟩ ⟨_,bj _ (u _ _ (p _ _ y)),rfl,rfl⟩
  λ c o q=>bj _ (u _ _ (p _ _ (e _ _ (x _ _ q))))⟩
end
def Zv{X:aC}{a:bF}{σ:List (Option V)}{H:ah}{s:ao}{h':Heap}{ch:List Addr}{t':Nat}(I:Inv X a σ H s)(hf:∀b∈ch,lg X a H b)(k:∀b u,b∉ch->s.heap.get? b=some u->h'.get? b=some u):
  Inv X a σ H {s with heap:=h',toks:=t'}:=by
 have h:∀b u,H b=some u->b∉ch:=λ b u e z=>by have:=(hf b z).1;simp_all
 refine I.call ⟨λ b u q _ _ x=>k b u x q,λ b u q _ _ x=>⟨_,k b u x q⟩,λ b u q n _=>n,λ b u q x=>⟨u,k b u x q⟩,λ b xs q=>q,λ b u xs q=>q,λ b ps q=>q⟩ (λ b u e=>?_) I.bare
  λ b f=>let⟨_,f1,_,f3,f4,f5⟩:=hf b f;⟨f3,f1,f4,f5⟩
 refine(I.hok b u e).stay (λ c v d q=>k c v ?_ q) (λ c q=>q) λ c xs q=>q
 rcases d with rfl|d
 .exact h _ _ e
 .exact h _ _ d
def Hb(K:av)(a b:Addr):kY:=
 ⟨λ i H=>∃xs s x y,bf K H a xs/\bf K H b s/\xs[i]? =some x/\s[i]? =some y,λ i H v H'=>∃p x y,v= .ref p/\H p=none/\H'=bq H p (.tup [x,y])/\(∀xs,bf K H a xs->xs[i]? =some x)/\∀s,bf K H b s->s[i]? =some y,λ i H=>∃xs s,bf K H a xs/\bf K H b s/\(xs.length<=i\/s.length<=i)⟩
def Zw{P:aR}{w:World}{K:av}{C:List Expr}{x1:Nat}{ps:Pos}(a b z dZ dc A bw:Addr)(D:ZipApart z dZ dc A bw a b):
  Turn P w K (.Tuple C x1 ps) (Hb K a b) [z,dZ,dc,A,bw] z (λ i h=>IsZip h z dZ dc .none/\i4 h dZ (.ref A) (.ref bw)/\(∃u v,i4 h dc u v)/\h.IsTupleIter A a i/\h.IsTupleIter bw b i) where
 mem:=by simp
 obj:=λ i h ⟨g,j,⟨u,v,n⟩,⟨o4,r,_,d4⟩,o5,t,_,d5⟩ c f=>by
  simp only[bI,iK,or_false]at f;rcases f with rfl|rfl|rfl|rfl|rfl
  .exact⟨_,g,λ v z=>by cases z⟩
  .exact⟨_,j,λ v z=>by cases z⟩
  .exact⟨_,n,λ v z=>by cases z⟩
  .exact⟨o4,r,λ v z=>by rw[d4]at z;cases z⟩
  .exact⟨o5,t,λ v z=>by rw[d5]at z;cases z⟩
 keep:=λ i h h' ⟨g,j,⟨u,v,n⟩,r,t⟩ k=>⟨k _ (by simp) _ g,k _ (by simp) _ j,⟨u,v,k _ (by simp) _ n⟩,r.at λ o q=>k _ (by simp) o q,t.at λ o q=>k _ (by simp) o q⟩
 item:=by
  intro X N O hK f i kX s σ H E I hf st Q;subst N O hK;obtain⟨xs,ys,x,y,J,L,R,hy⟩:=Q;obtain⟨S,U,p,hz⟩:=I.tuple J;obtain⟨F,B,V,W⟩:=I.tuple L;obtain⟨u,hu,ru⟩:=U.get R;obtain⟨u2,Y,Z⟩:=B.get hy;obtain⟨g,j,⟨c,d,n⟩,r,t⟩:=st;have G:s.TypeIs (.ref z) "zip":=⟨_,g,rfl⟩;unfold jY;refine ak (u6 (mK (name:=mW "__next__") G AY (jX AY G K0 (Zr D g j n r t p V (x:=u) (y:=u2) (by simpa using hu) (by simpa using Y) λ h' f1 f2 f3 f4 f5 k=>aB ⟨_,rfl,?_⟩) (KZ _))));have lt:∀{c o},s.heap.get? c=some o->c≠s.heap.objs.size:=λ e=>cH (bE e)
  have n1:A≠s.heap.objs.size:=by obtain⟨_,e,_⟩:=r;exact lt e
  have n2:bw≠s.heap.objs.size:=by obtain⟨_,e,_⟩:=t;exact lt e
  refine wpAny_letOwnedTupleGo_zip f1 λ h2 z2 s2=>⟨.ref s.heap.objs.size,bq H s.heap.objs.size (.tup [x,y]),?_,rfl,⟨_,x,y,rfl,I.hok.fresh (bc _),rfl,λ l M=>by rw[I.tuple_inj M J];exact R,λ l M=>by rw[I.tuple_inj M L];exact hy⟩,
   ⟨z2,s2.extBut _ _ D.TIz (k _ _ (by simp[D.TIz,D.TITO,D.TIi1,D.TIi2]) j),⟨_,_,s2.extBut _ _ D.TOz f2⟩,TupIter.ext f3 s2.extBut D.i1z,TupIter.ext f4 s2.extBut D.i2z⟩,λ c f=>?_⟩
  .refine PT (s:=s) (h':=h2) (t':=s.toks) (ch:=[z,dZ,dc,A,bw]) I hf (λ c v f q=>(s2.2 c λ e=>f (by simp[e])).trans (k c v (λ m=>f ?_) q)) (bc _) ⟨⟨by simp[mM],NoD.at ((s2.2 _ (lt g).symm).trans f5)⟩,[u,u2],.cons ru (.cons Z .nil),_,(s2.2 _ (lt g).symm).trans f5,rfl,_,rfl⟩
   simp only[bI,iK,or_false]at m ⊢;rcases m with m|m|m|m<;>simp[m]
  .have:=(hf c f).1
   rw[bR]
   .exact this
   .rintro rfl
    simp only[bI,iK,or_false]at f;rcases f with m|m|m|m|m
    .exact lt g m.symm
    .exact lt j m.symm
    .exact lt n m.symm
    .exact n1 m.symm
    .exact n2 m.symm
 done:=by
  intro X N O hK f i kX s σ H E I hf st Q;subst N O hK;obtain⟨xs,ys,J,L,R⟩:=Q;obtain⟨S,U,p,hz⟩:=I.tuple J;obtain⟨F,B,V,W⟩:=I.tuple L;obtain⟨g,j,⟨c,d,n⟩,r,t⟩:=st;have G:s.TypeIs (.ref z) "zip":=⟨_,g,rfl⟩;have M:=U.length;have hl2:=B.length;unfold jY;refine ak (u6 (mK (name:=mW "__next__") G AY (jX AY G K0 (Zs (I.ok.hd f) D g j n r t p V (by simp;simp_all) λ h' e k he=>?_) (KZ _))));obtain⟨o,ho,f⟩:=he;refine ak (AA (T:="StopIteration") (b:=true) ⟨o,ho,f⟩ D0 ?_);refine aB ⟨rfl,Zv (t':=s.toks) (ch:=[z,dZ,dc,A,bw]) I hf λ c v f q=>k c v (λ m=>f ?_) q⟩;simp only[bI,iK,or_false]at m ⊢;rcases m with m|m|m|m<;>simp[m]
 self:=λ _ _ _ _ _ st h=>wpAny_pyIter_zip st.1 h
def P3(K:av)(t:fv):dZ:=λ σ H R=>t σ H λ xs c=>∃a b,xs=[.ref a,.ref b]/\(∃y,bf K c a y)/\(∃y,bf K c b y)/\R (Hb K a b) c
def Zx{X:aC}{t:List Expr}{D:Nat}{ps p d:Pos}{l m:Expr}{z:fv}(E:eE X [l,m] z)(F:cN X "zip")(G:X.mg "zip"=none)(J:fu "zip"=some (.type "zip"))
  (K:aW [l,m] X.env=[(false,eval l X.env),(false,eval m X.env)]:=by rfl)(f:aW [m] X.env=[(false,eval m X.env)]:=by rfl):pB X (.Tuple t D ps) (.Call (.Name "zip" p) [l,m] [] d) (P3 X.K z):=by
 intro L s σ H R I h;refine qI (vv I F G J ?_ (by decide) (by decide));refine Ap (aZ (E d L s σ H _ I h) λ us k ⟨vs,M,g,N,a,b,e,⟨ys,O⟩,⟨P,y⟩,q⟩=>?_) (by rw[K,f]) (by rw[f];rfl);subst e;obtain⟨u,v,rfl,Q,w⟩:∃u v,us=[u,v]/\RelV (.ref a) u/\RelV (.ref b) v:=by
  cases N with
  |cons r x=>
   cases x with
   |cons S x=>cases x;exact⟨_,_,rfl,r,S⟩
 cases Q;cases w;obtain⟨T,rv,A,hz⟩:=g.tuple O;obtain⟨B,U,i,V⟩:=g.tuple y;have ha:a<k.heap.objs.size:=let⟨o,ho,_⟩:=A;bE ho
 have W:b<k.heap.objs.size:=let⟨o,ho,_⟩:=i;bE ho
 refine Zu A i λ h' n Y C Z e3 e4 e5 hk=>wpAny_pyIter_zip C ?_
 rw[<-Y]at ha W;refine⟨_,[n+4,n+2,n+3,n,n+1],_,_,M,rfl,g.kept (t':=k.toks) hk,Zw a b (n+4) (n+2) (n+3) n (n+1) ⟨by simp,by simp,by lia,by simp,by simp,by lia,by simp,by lia,by simp,by simp,by lia,by lia,by lia,by lia,by lia,by lia,by lia,by lia⟩,⟨C,Z,⟨_,_,e3⟩,e4,e5⟩,λ c hc=>?_,q⟩;have j:k.heap.objs.size<=c:=by
  simp only[bI,iK,or_false]at hc;lia
 exact g.fpOk j (g.hok.fresh j)
def uc(l m:List D):List D:=(l.zip m).map λ p=>.tup [p.1,p.2]
def CA:List D->ag (List D)
 |[.tup l,.tup m]=>.ok (uc l m)
 |_=>.st
def Zy{K:av}{lab:kz}{H:ah}{a b:Addr}{xs s:List V}{ds es:List D}(h:bf K H a xs)(r:az K (λ p=>(lab p).1<=1) H xs ds)(f:bf K H b s)(k:az K (λ p=>(lab p).1<=1) H s es):vS K lab (Hb K a b) H (uc ds es):=by
 have m:=r.length;have c:=k.length;have l:(uc ds es).length=min ds.length es.length:=by simp[uc]
 refine λ i=>⟨λ e=>⟨xs,s,h,f,SU m c l e⟩,λ e=>⟨⟨xs,s,xs[i]'(SL m l e),s[i]'(SN c l e),h,f,by simp,by simp⟩,λ x H' y=>?_⟩⟩
 obtain⟨p,y,w,rfl,g,rfl,o,j⟩:=y;obtain⟨d,q,t⟩:=r.get (o xs h);obtain⟨n,u,v⟩:=k.get (j s f);refine⟨eG g _,.tup [d,n],?_,.tup (.inl (.inl dM)) (.cons (t.up (eG g _)) (.cons (v.up (eG g _)) .nil))⟩;unfold uc;rw[fM,List.getElem?_zip_eq_some (z:=(d,n)) |>.mpr ⟨q,u⟩];rfl
section
variable{C:bB}{m:Mode}{a b:Expr}{g:af->ag (List D)}{c:List Expr}{x:Nat}{ps p d:Pos}
def Zz(ha:fD C m [a,b] g)(I:C.mg "zip"=none)(B:oq m=true:=by rfl)(J:∀i,aW [a,b] (C.X i).env=[(false,eval a (C.X i).env),(false,eval b (C.X i).env)]:=by z_go)(j:∀i,aW [b] (C.X i).env=[(false,eval b (C.X i).env)]:=by z_go)(K:∀i,cN (C.X i) "zip":=by z_go)(L:fu "zip"=some (.type "zip"):=by f_are):
  rF C (.Tuple c x ps) (.Call (.Name "zip" p) [a,b] [] d) (gs CA g):=by
 obtain⟨t,M,N⟩:=ha;refine⟨P3 C.K t,λ i=>by rw[<-C.hK i];exact Zx (M i) (K i) (by rw[(C.cx i).2.2.2.1];exact I) L (J i) (j i),λ τ σ H ρ lab Y R W=>N τ σ H ρ lab _ R (W.bd.imp λ ds _ w Z O s r=>?_)⟩;unfold CA at w;split at w
 .rename_i l k _
  cases r with
  |cons P Q=>
   obtain⟨v2,rfl,S⟩:=Q.one_inv;obtain⟨f,n⟩:=R.shared B s P;obtain⟨_,u⟩:=R.shared B s S;obtain⟨b,xs,rfl,h,q⟩:=n.tup_inv;obtain⟨D,v,rfl,E,T⟩:=u.tup_inv;refine⟨b,D,rfl,⟨xs,h⟩,⟨v,E⟩,w _ O _ [(.ref b,.tup l),(.ref D,.tup k)] s (λ p o e=>iO e) ⟨f.len,f.sl,f.old,f.new,λ z hz=>?_⟩ λ F H' G=>?_⟩
   .rcases bI.mp hz with rfl|hz
    .exact .tup h q
    .rcases bI.mp hz with rfl|hz
     .exact .tup E T
     .exact f.tm z hz
   .have z:=G _ (bW ..)
    have U:=G _ (cT _ (bW ..));obtain⟨_,_,V,h',X⟩:=z.tup_inv;cases V;cases U with
    |tup y A=>exact Zy h' X y A
 .exact aX w
end
def putN(ds:List D):D->Option Nat
 | .int n=>me ds.length n
 |_=>none
def y9(i:Nat)(fk fe:af->ag D):af->ax:=λ ρ=>match ρ[i]? with
 |some (.ow (.lst ds))=>(fe ρ).bo λ d=>(fk ρ).bo λ k=>match putN ds k with
  |some j=>.nx (ρ.set i (.ow (.lst (ds.set j d))))
  |none=>.st
 |_=>.st
def ZA(h:putN ds k=some j):∃n,k= .int n/\me ds.length n=some j:=by
 cases k with
 |int n=>exact⟨n,rfl,h⟩
 |_=>cases h
section
variable{C:bB}{b t p:Pos}{a e:Expr}{fk fe:af->ag D}{x:Str}{m c:Mode}
def P4(i:Nat)(A:aA C c a fk)(M:aA C m e fe)(N:BV m=true:=by rfl)(O:∀j,(C.X j).N[i]? =some x:=by z_go)(Q:∀j,j7 (C.X j).env.scope x:=by x_go)(S:Nd x:=by decide)
  (D:(x==("__classdict__":Str))=false:=by decide)(ha:∀j v,i5 (.Subscript (.Name x p) a t) (C.X j).env v=(do
   let ov <-gB [v] (eval (.Name x p) (C.X j).env);let iv <-gB [v,ov] (eval a (C.X j).env)
   qM t
   gB [v,ov,iv] (td ov iv v)
   release [v,ov,iv] []):=by intro _ _;rfl)(E:∀j,xP [.Subscript (.Name x p) a t] e b.line (C.X j).env=pure false:=by z_go)(T:∀j,xO [.Subscript (.Name x p) a t] e (C.X j).env=pure none:=by z_go)
  (U:∀j,(ko [.Subscript (.Name x p) a t] (C.X j).env).map (·.2)=[i5 (.Subscript (.Name x p) a t) (C.X j).env]:=by z_go):
  hG C (.Assign [.Subscript (.Name x p) a t] e b) (y9 i fk fe):=by
 obtain⟨V,k1,k2⟩:=A;obtain⟨X,Y,Z⟩:=M;refine⟨n9 X (Mr (iw i) V MY),λ j=>Bt (Y j) (TY (jz (O j) (Q j) S D) (k1 j) set_list (ha j)) (E j) (T j) (U j),λ τ σ H ρ lab De R W=>?_⟩;unfold y9 at W;cases es:ρ[i]? with
 |none=>rw[es]at W;exact aX W
 |some s=>
  rw[es]at W;split at W
  .rename_i ds E
   cases E;rcases R.sl i _ es with z|⟨v,L,F⟩
   .cases z
   .obtain⟨G,g⟩:=F
    obtain⟨f,I,J⟩:=g rfl;subst I;obtain⟨_,xs,e0,h,mm,r⟩:=G.lst_inv;cases e0;refine Z τ σ H ρ lab _ R (W.bo.imp λ d _ w y H2 s2 r2=>⟨.ref f,L,?_⟩);refine k2 τ σ H2 ρ lab _ (R.up s2) (w.bo.imp λ k _ w kv u s3 r3=>?_);cases l:putN ds k with
    |none=>rw[l]at w;exact aX w
    |some j=>
     rw[l]at w;dsimp only at w;obtain⟨n,rfl,l⟩:=ZA l;have ey:=r3.int_inv;subst ey;have K:u f=some (.lst xs):=(s2.trans s3) _ _ h;refine⟨f,xs,n,j,rfl,rfl,K,by rw[r.length];exact l,?_⟩;obtain⟨R',r'⟩:=R.fresh (P:=λ k=>k=1) rfl (λ k A=>beq_iff_eq.mp (rE N k A)) s2 r2;have la:(gD H 1 lab f).1=i+2:=by rw[iO h];exact J
     have B:ij f u (bq u f (.lst (xs.set j y))):=λ b' o ne hb=>by rw[bR ne];exact hb
     refine w σ _ _ ((R'.up s3).mut L K rfl la B ⟨.lst dM (.inr la) ?_,λ _=>⟨f,rfl,la⟩⟩);have ra:az C.K (λ p=>((gD H 1 lab p).1=1\/(gD H 1 lab p).1=i+2)/\p≠f) u (xs.set j y) (ds.set j d):=by
      refine az.set ((r'.up s3).wk λ p o e z=>⟨.inl z,λ q=>?_⟩) j (r.mono (s2.trans s3) λ p o e z=>⟨by rw[iO e];exact z.1,z.2⟩);subst q;rw[la]at z;simp_all
     exact ra.but B K rfl λ z=>z.2 rfl
  .exact aX W
end
def pZ(i:Int):List Int->Option Nat
 |[]=>none
 |a::l=>if a=i then some 0 else(pZ i l).map (·+1)
theorem P5:∀{l:List Int} {j:Nat},pZ i l=some j->(l.map λ a=>a==i)[j]? =some true/\∀m,m<j->(l.map λ a=>a==i)[m]? =some false
 |a::l,j,h=>by
  unfold pZ at h;split at h
  .rename_i e
   cases h;exact⟨by simp[e],λ m b=>absurd b (Aj _)⟩
  .obtain⟨k,c,rfl⟩:=DH.mp h
   obtain⟨d,f⟩:=P5 c;refine⟨d,λ m b=>?_⟩;cases m<;>simp_all
def nB(l:List D):D->ag D
 | .int i=>match intsOf l with
  |some s=>(match pZ i s with
   |some j=>.ok (.int (j:Nat))
   |none=>.st)
  |none=>.st
 |_=>.st
def ZC:D->Option (List D)
 | .lst l=>some l
 |_=>none
def za(f:List D->D->ag D)(o fe:af->ag D):af->ag D:=λ ρ=>(o ρ).bd λ d=>match ZC d with
 |some l=>(fe ρ).bd λ e=>okD (f l e)
 |none=>.st
def ZD{K:av}(r:aw K A H x (.lst l))(h:intsOf l=some is):∃a,x= .ref a/\H a=some (.lst (is.map V.int)):=by
 rw[lx h]at r;obtain⟨a,xs,rfl,c,_,b⟩:=r.lst_inv;have e:=b.ints_of;simp_all
def P6:V->List V->ah->br->Prop:=λ x xs H Q=>∃(a:Addr) (i:Int) (s:List Int) (j:Nat),x= .ref a/\xs=[.int i]/\H a=some (.lst (s.map V.int))/\(s.map λ e=>e==i)[j]? =some true/\(∀m,m<j->(s.map λ e=>e==i)[m]? =some false)/\Q (.int (j:Nat)) H
def Hc(i:Int):Value->Bool
 | .int n _=>n==i
 |_=>false
def ZE{X:aC}:yt X "list.index" P6:=by
 intro N s σ H x xs v us Q I C r h;obtain⟨a,i,O,j,rfl,rfl,ha,c,o,q⟩:=h;cases C;obtain⟨u,rfl,D⟩:=vals1 r;obtain⟨t,rfl⟩:=D;obtain⟨E,F,aO,hz⟩:=I.list (bN.of ha);obtain⟨b,rfl,f⟩:=Om F;subst f;obtain⟨⟨G,dd,p,sl⟩,y,z,n,d⟩:=id aO.isList;simp only at z d;subst z d;have J:(b.map DJ).map (λ e=>e==i)=b.map λ q=>q.1==i:=by rw[fW];rfl
 rw[J]at c o;have A:j<b.length:=by
  have:=(eW.mp c).1
  simpa using this
 have P:b.length<=aI:=by simpa using hz
 have K:aI<2^62:=by decide
 refine hY AR ⟨_,y,rfl⟩ KI (KH _ _) (Lb a _ n dd sl (.int i t) (Hc i) j (by simpa using A) (by lia) ?_ λ m L g=>?_)
  ⟨y,λ w M=>?_,⟨.int _,H,I.tok _,⟨_,rfl⟩,q⟩⟩
 .rw[fM,en A]at c
  simpa[Hc]using c
 .have B:=o m g
  have k:m<b.length:=by simpa using L
  rw[fM,en k]at B;simpa[Hc]using B
 .have l:w∈b.map λ q=>jZ q.1 q.2:=by simpa using M
  obtain⟨q,_,rfl⟩:=cX.mp l;exact Es q.1 q.2 i t
section
variable{C:bB}{m b:Mode}{o e:Expr}{f fe:af->ag D}{p c:Pos}
def P7(B:aA C m o f)(D:aA C b e fe)(s:∀j,aW [e] (C.X j).env=[(false,eval e (C.X j).env)]:=by z_go)(h:∀j,sU o "index" (C.X j).env (eval o (C.X j).env)=eval o (C.X j).env:=by z_go)
  (k:∀j,((gk c (aW [e] (C.X j).env)).all (λ x=>!x.1)&&(sY c (sX [] (C.X j).env)).all (λ x=>x.1.isSome)&&decide ([e].length+([]:List jt).length+(if ([]:List jt).isEmpty then 0 else 1)<30))=true:=by z_go)
  (hline:(p.endLine==c.line)=true:=by rfl):aA C (some []) (.Call (.Attribute o "index" p) [e] [] c) (za nB f fe):=by
 obtain⟨t,E,F⟩:=B;obtain⟨u,k1,k2⟩:=D;refine⟨yu C.K "list" P6 t (i7 u j9),λ j=>by rw[<-C.hK j];exact vz tp AR KM ZE (E j) (dv (k1 j) hD (s j)) (h j) (k j) hline (s j) rfl,λ τ σ H ρ lab Q R W=>?_⟩;refine F τ σ H ρ lab _ R (W.bd.imp λ d _ w x G r v=>?_);cases d with
 |lst l=>
  obtain⟨a,xs,rfl,ha,_⟩:=v.lst_inv;replace w:iA C.G ((fe ρ).bd λ e=>okD (nB l e)) (BN C.K (some []) lab H Q):=w;refine⟨.inl ⟨rfl,xs,bN.of ha⟩,k2 τ σ G ρ lab _ (R.up r) (w.bd.imp λ e _ w y I s2 J=>?_)⟩;obtain⟨z,g,K⟩:=w.okD;cases e with
  |int i=>
   unfold nB at g;dsimp only at g;cases n:intsOf l with
   |none=>rw[n]at g;cases g
   |some A=>
    rw[n]at g;dsimp only at g;have L:=J.int_inv;subst L;obtain⟨P,ea,M⟩:=ZD (v.up s2) n;cases ea;cases q:pZ i A with
    |none=>rw[q]at g;cases g
    |some j=>
     rw[q]at g;cases g;obtain⟨N,O⟩:=P5 q;exact⟨a,i,A,j,rfl,rfl,M,N,O,K _ I (r.trans s2) (.int _)⟩
  |_=>cases g
 |_=>exact aX w
end
end VL
namespace PySem
open Sem(wp)
section
variable{prog:aR}{w:World}
inductive Hd{K:Type}[DecidableEq K](knd:KeyKind prog w K)(h:Heap):List Value->List (K×Value)->Prop where
 |nil:Hd knd h [] []
 |cons {x:Addr} {o:Obj} {n:Nat} {kv v:Value} {k:K} {us:List Value} {ps:List (K×Value)} (ho:h.get? x=some o) (hc:o.cls= .type "tuple") (hd:o.data= .seq #[kv,v] n) (hk:knd.is k kv=true) (r:Hd knd h us ps):Hd knd h (.ref x::us) ((k,v)::ps)
end
end PySem
namespace VL
open PySem PySem.Spec PyProof.Rows L2
section
variable{K:Type}[DecidableEq K]
end
end VL
namespace L2
open PySem PySem.Spec PyProof.Rows
def wC:Value->Bool
 | .bool b=>b
 |_=>false
theorem He:∀{bs:List Bool} {us:List Value},Vals (bs.map V.bl) us->us=bs.map vm
 |[],_,.nil=>rfl
 |b::bs,_,.cons h t=>by rw[He t];cases h;rfl
def P8{A:aS}{s:ao}{bs:List Bool}:∀y∈bs.map vm,mT A s y (.bool true) (wC y):=λ y h=>by
 obtain⟨b,_,rfl⟩:=cX.mp h
 have:=Lc (A:=A) (s:=s) b true
 cases b<;>exact this
def ZF:V->List V->ah->br->Prop:=λ x xs H Q=>∃(a:Addr) (bs:List Bool),x= .ref a/\xs=[.bl true]/\H a=some (.lst (bs.map V.bl))/\Q (.int (bs.count true:Nat)) H
def ZG:V->List V->ah->br->Prop:=λ x xs H Q=>∃(a:Addr) (bs:List Bool) (j:Nat),x= .ref a/\xs=[.bl true]/\H a=some (.lst (bs.map V.bl))/\bs[j]? =some true/\(∀m,m<j->bs[m]? =some false)/\Q (.int (j:Nat)) H
section
variable{X:aC}
def ZH:yt X "list.count" ZF:=by
 intro k s σ H x xs v us Q I c r h;obtain⟨a,bs,rfl,rfl,ha,q⟩:=h;cases c;obtain⟨u,rfl,d⟩:=vals1 r;cases d;obtain⟨_,i,n,f,e⟩:=I.hok a _ ha;have g:=He f;subst g;refine hY KL ⟨_,e,rfl⟩ PySem.F.entry_list_count (PySem.F.args_list_count_2 _ _) (SeqAt.list_countAt a _ n none #[] (.bool true) wC) ⟨e,λ y j=>P8 y (by simpa using j),?_⟩
 have:(bs.map vm).countP wC=bs.count true:=by
  rw[List.countP_map];unfold List.count;congr 1;funext b;cases b<;>rfl
 rw[this];exact⟨.int _,H,I.tok _,⟨_,rfl⟩,q⟩
def ZI:yt X "list.index" ZG:=by
 intro A s σ H x xs v us Q I f r h;obtain⟨a,bs,j,rfl,rfl,ha,c,g,q⟩:=h;cases f;obtain⟨u,rfl,i⟩:=vals1 r;cases i;obtain⟨hz,t,n,k,e⟩:=I.hok a _ ha;have o:=He k;subst o;rw[bb]at hz;have l:=(eW.mp c).1;have p:aI<2^62:=by decide
 refine hY AR ⟨_,e,rfl⟩ KI (KH _ _) (Lb a _ n none #[] _ wC j (by simpa using l) (by lia) ?_ λ m w b=>?_) ⟨e,λ y z=>P8 y (by simpa using z),⟨.int _,H,I.tok _,⟨_,rfl⟩,q⟩⟩
 .rw[en l]at c
  simpa[wC]using c
 .have d:=g m b
  rw[en (L5 l b)]at d;simpa[wC]using d
end
section
variable{X:aC}{n0 n1 n2 F:Str}{c1 c2:V}{k1 k2 k3 k4:List V}{l1 l2:List Str}{a1 a2:Expr}{K J e1 e2 e3 e4 w1 L:List Expr}{I G:List jt}{Q:br}{H:ah}{M:List V}
 {p1 p2 p3 p4 p5 p6 Z Y W E D C B A z y x w v u t s r q o n m l k j i h g f e d c b a p:Pos}{U T S R P O N:Pos}{j1 j2 j3 j4 j5:Nat}{vB:dC}{wd:Addr->Option Str}
end
section
variable{P:aR}{w:World}{K:av}{mg:Str->Option Value}{base:Heap}{x q n0 n1 n2 L:Str}{st:Stmt}{f:Addr}{fd:cB}{k:Nat}{wd:Addr->Option Str}{c1 c2:V}{k1 k2 k3 k4:List V}{l1 l2:List Str}{a1 a2:Expr}{Q O e1 e2 e3 e4 w1 R:List Expr}{N M:List jt}
 {p1 p2 p3 p4 p5 p6 p7 p8 p9 J I H G F E D C B A z y v u t s r o n m l j i h g e d c b a p:Pos}{Z Y X W U T S:Pos}{j1 j2 j3 j4 j5:Nat}
end
section
variable{X:aC}{l a c k:Str}{c1 c2:V}{k1 k2 k3 k4:List V}{l1 l2:List Str}{v u:Expr}{r s e1 e2 e3 e4 w1 w2:List Expr}{q m:List jt}{Q:br}{H:ah}{vs:List V}
 {p1 p2 p3 p4 p5 p6 p7 p8 p9 p10 p11 p12 Z Y W U T S R i f P O N M L K J I d p G F E D B A z y x:Pos}{q1 q2 q3 q4 q5 q6 q7:Pos}{j1 j2 j3 j4 j5:Nat}{vB:dC}{wd:Addr->Option Str}
def ZJ(hN:X.N=[l,a,c])(nd:X.N.Nodup)(m0:X.env.scope.names.lookup l=some .local)(m1:X.env.scope.names.lookup a=some .local)(m2:X.env.scope.names.lookup c=some .local)
  (h1:aY X (.Call v r q p1) (tP X.K c1))(h2:aY X (.Call u s m p2) (tP X.K c2))(g1:eE X e1 (mh X.K k1))(g2:eE X e2 (mh X.K k2))(g3:eE X e3 (mh X.K k3))(g4:eE X e4 (mh X.K k4))(g5:eE X w1 (vL l1))(g6:eE X w2 (vL l2))
  (hl1:(i.endLine==f.line)=true)(hl2:(d.endLine==p.line)=true)(hz:(l1++l2).length<=100)(h:tO wd vs H Q vB)(hw:∀C w,wd C=some w->FH X.K c1 c2 [k1,k2,k3,k4] (l1++l2) C w)
  (d0:Nd l:=by decide)(d1:Nd a:=by decide)(d2:Nd c:=by decide)
  (f0:(l==("__classdict__":Str))=false:=by decide)(f1:(a==("__classdict__":Str))=false:=by decide)(f2:(c==("__classdict__":Str))=false:=by decide):
  ∃t,iu X [.If (.BoolOp .Or [.UnaryOp .Not (.Call v r q p1) p3,.UnaryOp .Not (.Call u s m p2) p4] p5) [.Return (some (.Constant (.str k) j1 p6)) p7] [] p8,
   .Assign [.Name a p9] (.List e1 p10) p11,.Assign [.Name a p12] (.BinOp (.Name a Z) .Add (.List e2 Y) W) U,.Assign [.Name a T] (.BinOp (.Name a S) .Add (.List e3 R) P) O,.Assign [.Name a N] (.BinOp (.Name a M) .Add (.List e4 L) K) J,
   .If (.Compare (.Call (.Attribute (.Name a I) "count" i) [.Constant (.bool true) j2 G] [] f) [.NotEq] [.Constant (.int 1) j3 F] E) [.Return (some (.Constant (.str k) j4 D)) B] [] A,
   .Assign [.Name c z] (.List w1 y) x,.Return (some (.Subscript (.BinOp (.Name c q1) .Add (.List w2 q2) q3) (.Call (.Attribute (.Name a q4) "index" d) [.Constant (.bool true) j5 q5] [] p) q6)) q7] t/\
   t {nx:=λ _ H'=>Q .non H',rt:=Q} (start X.N vs) H:=by
 obtain⟨ea,C,w,rfl,hH,hwd,hq⟩:=h;obtain⟨hk,hq1,hq2,b1,b2,b3,b4,j,k1',k2',k3',k4',ek,r1,r2,r3,r4,kK,hcnt,hj,hjm,hjw⟩:=hw C w hwd;cases ek;have i0:X.N[0]? =some l:=by rw[hN];rfl
 have i1:X.N[1]? =some a:=by rw[hN];rfl
 have bw:X.N[2]? =some c:=by rw[hN];rfl
 have v1:∀{pos:Pos},aY X (.Name a pos) (iw 1):=λ{pos}=>jz i1 (.inl m1) d1 f1
 have cat:∀{pp pq pr:Pos} {es:List Expr} {ks:List V},eE X es (mh X.K ks)->aY X (.BinOp (.Name a pp) .Add (.List es pq) pr) (tG Fv (iw 1) (M8 (mh X.K ks))):=λ g=>Bu Fw v1 (vD g)
 refine⟨_,n7 (E7 (Mo (E4 (Mm h1)) (Mn (E4 (Mm h2)))).pt (tF (yn jA)) E5)
  (n7 (pA nd i1 (.inl m1) (vD g1) (hf:=.inr m1)) (n7 (pA nd i1 (.inl m1) (cat g2) (hf:=.inr m1)) (n7 (pA nd i1 (.inl m1) (cat g3) (hf:=.inr m1)) (n7 (pA nd i1 (.inl m1) (cat g4) (hf:=.inr m1))
  (n7 (E7 (TH (TG (vz tp KL PySem.F.type_list_count ZH v1 (dv E1 hD) (hline:=hl1)) E0)) (tF (yn jA)) E5)
  (n7 (pA nd bw (.inl m2) (vD g5) (hf:=.inr m2)) (tF (yn (MT MX (Bu Fw (jz bw (.inl m2) d2 f2) (vD g6)) (vz tp AR KM ZI v1 (dv E1 hD) (hline:=hl2)) λ _ _=>rfl))))))))),?_⟩
 have hs:start X.N [.ref ea]=[some (.ref ea),none,none]:=by rw[hN];rfl
 rw[hs];have sz:∀{n:Nat},n<=100->n<=aI:=λ h=>eJ h (by decide)
 simp only[cy]at kK hz;refine FE (ea:=ea) rfl hH hk hq1 ⟨true,rfl,FE (ea:=ea) rfl hH hk hq2 ⟨true,rfl,?_⟩⟩;refine yB (ea:=ea) rfl hH hk r1 ⟨sz (by rw[bb];lia),λ v H1 s1 ha1 _=>?_⟩;refine⟨.ref v,rfl,yB (ea:=ea) rfl (s1 _ _ hH) hk r2 ⟨sz (by rw[bb];lia),λ x2 G2 t2 hx2 _=>⟨v,x2,_,_,rfl,rfl,t2 _ _ ha1,hx2,sz (by simp only[bb];lia),λ u H2 s2 ha2 _=>?_⟩⟩⟩;have hH2:=s2 _ _ (t2 _ _ (s1 _ _ hH));refine⟨.ref u,rfl,yB (ea:=ea) rfl hH2 hk r3 ⟨sz (by rw[bb];lia),λ x3 G3 t3 hx3 _=>⟨u,x3,_,_,rfl,rfl,t3 _ _ ha2,hx3,sz (by simp only[bb,cy];lia),λ a3 H3 s3 ha3 _=>?_⟩⟩⟩;have hH3:=s3 _ _ (t3 _ _ hH2);refine⟨.ref a3,rfl,yB (ea:=ea) rfl hH3 hk r4 ⟨sz (by rw[bb];lia),λ x4 G4 t4 hx4 _=>⟨a3,x4,_,_,rfl,rfl,t4 _ _ ha3,hx4,sz (by simp only[bb,cy];omega),λ a4 H4 s4 ha4 _=>?_⟩⟩⟩;rw[<-hW,<-hW,<-hW]at ha4;generalize hbs:b1++b2++b3++b4=bs at hcnt hj hjm ha4;refine⟨.ref a4,rfl,.inl ⟨rfl,_,.inl (.inl ha4)⟩,a4,bs,rfl,rfl,ha4,1,1,by rw[hcnt];rfl,rfl,false,rfl,?_⟩;refine FG ⟨sz (by rw[bb];lia),λ a5 H5 s5 ha5 _=>?_⟩;refine⟨.ref a5,rfl,FG ⟨sz (by rw[bb];lia),λ x6 G6 t6 hx6 _=>⟨a5,x6,_,_,rfl,rfl,t6 _ _ ha5,hx6,sz (by simp only[bb];omega),λ a7 H7 s7 ha7 _=>?_⟩⟩⟩;have ha4':=s7 _ _ (t6 _ _ (s5 _ _ ha4));refine⟨.ref a4,rfl,.inl ⟨rfl,_,.inl (.inl ha4')⟩,a4,bs,j,rfl,rfl,ha4',hj,hjm,a7,_,_,.str w,rfl,rfl,.inl (.inl ha7),?_,?_⟩
 .rw[<-hW]
  have hjl:j<(l1++l2).length:=(eW.mp hjw).1;unfold nf me;rw[if_pos (Int.natCast_nonneg j),bb,if_pos (by omega),oR]
  show((l1++l2).map V.str)[j]? =_
  rw[fM,hjw];rfl
 .exact hq _ λ b o e=>s7 _ _ (t6 _ _ (s5 _ _ (s4 _ _ (t4 _ _ (s3 _ _ (t3 _ _ (s2 _ _ (t2 _ _ (s1 _ _ e)))))))))
end
section
variable{P:aR}{w:World}{K:av}{mg:Str->Option Value}{base:Heap}{x q b n a o:Str}{st:Stmt}{f:Addr}{fd:cB}{k:Nat}{wd:Addr->Option Str}{c1 c2:V}{k1 k2 k3 k4:List V}{l1 l2:List Str}{a1 a2:Expr}{m l e1 e2 e3 e4 w1 w2:List Expr}{j i:List jt}
 {p1 p2 p3 p4 p5 p6 p7 p8 p9 p10 p11 p12 p13 p14 Z Y X W U g d T R O N M L J I c p G D B z y v u t r:Pos}{q1 q2 q3 q4 q5 q6 q7:Pos}{j1 j2 j3 j4 j5:Nat}
def ZK(F:Fun K x q st f fd)(S:dk [b,n,a] [b] (bg st))
  (hst:iz st=[.If (.BoolOp .Or [.UnaryOp .Not (.Call a1 m j p1) p3,.UnaryOp .Not (.Call a2 l i p2) p4] p5) [.Return (some (.Constant (.str o) j1 p6)) p7] [] p8,
   .Assign [.Name n p9] (.List e1 p10) p11,.Assign [.Name n p12] (.BinOp (.Name n p13) .Add (.List e2 p14) Z) Y,.Assign [.Name n X] (.BinOp (.Name n W) .Add (.List e3 U) T) R,.Assign [.Name n O] (.BinOp (.Name n N) .Add (.List e4 M) L) J,
   .If (.Compare (.Call (.Attribute (.Name n I) "count" g) [.Constant (.bool true) j2 G] [] d) [.NotEq] [.Constant (.int 1) j3 D] B) [.Return (some (.Constant (.str o) j4 z)) y] [] v,
   .Assign [.Name a u] (.List w1 t) r,.Return (some (.Subscript (.BinOp (.Name a q1) .Add (.List w2 q2) q3) (.Call (.Attribute (.Name n q4) "index" c) [.Constant (.bool true) j5 q5] [] p) q6)) q7])
  (m0:(bg st).names.lookup b=some .local)(m1:(bg st).names.lookup n=some .local)(m2:(bg st).names.lookup a=some .local)
  (h:∀(cdv:Value) (A:aS) (V:List Env) (s:ao) (H:ah),aY (oh P w K mg base [b,n,a] q (bg st) f cdv A V s H) (.Call a1 m j p1) (tP K c1)/\aY (oh P w K mg base [b,n,a] q (bg st) f cdv A V s H) (.Call a2 l i p2) (tP K c2)/\
   eE (oh P w K mg base [b,n,a] q (bg st) f cdv A V s H) e1 (mh K k1)/\eE (oh P w K mg base [b,n,a] q (bg st) f cdv A V s H) e2 (mh K k2)/\eE (oh P w K mg base [b,n,a] q (bg st) f cdv A V s H) e3 (mh K k3)/\
   eE (oh P w K mg base [b,n,a] q (bg st) f cdv A V s H) e4 (mh K k4)/\eE (oh P w K mg base [b,n,a] q (bg st) f cdv A V s H) w1 (vL l1)/\eE (oh P w K mg base [b,n,a] q (bg st) f cdv A V s H) w2 (vL l2))
  (hl1:(g.endLine==d.line)=true)(hl2:(c.endLine==p.line)=true)(hz:(l1++l2).length<=100)(hw:∀C w,wd C=some w->FH K c1 c2 [k1,k2,k3,k4] (l1++l2) C w)
  (d0:Nd b:=by decide)(d1:Nd n:=by decide)(d2:Nd a:=by decide)
  (f0:(b==("__classdict__":Str))=false:=by decide)(f1:(n==("__classdict__":Str))=false:=by decide)(f2:(a==("__classdict__":Str))=false:=by decide):
  vK P w K mg base 1 f fd [b] (tO wd):=by
 refine F.okH (k:=0) S (λ vs H Q E ⟨_,_,_,e,_⟩=>by rw[e];rfl) λ cdv A V s H vs Q E hr hsp=>?_
 obtain⟨g1,g2,g3,g4,g5,g6,g7,g8⟩:=h cdv A V s H;rw[hst];exact ZJ rfl S.nd m0 m1 m2 g1 g2 g3 g4 g5 g6 g7 g8 hl1 hl2 hz hsp hw d0 d1 d2 f0 f1 f2
end
end L2
namespace VL
open PySem PySem.Spec PyProof.Rows L2
def fK{K:av}{h:Heap}{mg:Str->Option Value}{x:Str}{st:Stmt}(X:K.In h)(G:h.Ns cz mg)(e:∃f d,fj K x st f d)(ps:List Str)
  (b:∀(eo o p:Value) (n:Option Addr) (c t:Value) (us:List Value),us.length=ps.length->AM (kV x x (tM st) (iz st) (bg st) .none eo o p n c t) ⟨us,[]⟩=pure (ps.zip us):=by
   intro _ _ _ _ _ _ us l;repeat' first|rfl|(simp at l;done)|rcases us with _|⟨_,us⟩):∃f d,eF K mg x st ps f d/\dF K cz x=some (some (.ref f)):=by
 obtain⟨f,d,F,a⟩:=e;exact⟨f,d,⟨F,eD X G a,F.binds b⟩,a⟩
def ZL(l b:Addr)(es:Array xQ)(ep:Nat)(sl:Array (Option Value))(i:Array Value)(n:Nat)(d:Option Addr)(a:Array (Option Value)):
  Meets (ia.«dict.__eq__» ⟨[.ref l,.ref b],[]⟩) (λ _ R s=>s.heap.get? l=some {cls:=.type "dict",data:=.dict es ep,slots:=sl}/\s.heap.get? b=some {cls:=.type "tuple",dict:=d,data:=.seq i n,slots:=a}/\R (.ok (.ret .notImplemented)) s):=
 .of_wp λ prog w A R s h=>by
  obtain⟨c,e,h⟩:=h;have f:=K1;wp_walk using nX c,nX e;exact⟨_,rfl,h⟩
def ZM(l b:Addr)(es:Array xQ)(ep:Nat)(sl:Array (Option Value))(i:Array Value)(n:Nat)(d:Option Addr)(a:Array (Option Value)):
  Meets (ia.«tuple.__eq__» ⟨[.ref b,.ref l],[]⟩) (λ _ R s=>s.heap.get? l=some {cls:=.type "dict",data:=.dict es ep,slots:=sl}/\s.heap.get? b=some {cls:=.type "tuple",dict:=d,data:=.seq i n,slots:=a}/\R (.ok (.ret .notImplemented)) s):=
 .of_wp λ prog w A R s h=>by
  obtain⟨c,e,h⟩:=h;have f:=F.sub_dict_tuple;wp_walk using nX c,nX e;exact⟨_,rfl,h⟩
def ZN{A:aS}{s:ao}{l b:Addr}{es:Array xQ}{ep:Nat}{sl:Array (Option Value)}{items:Array Value}(a:s.heap.get? l=some {cls:=.type "dict",data:=.dict es ep,slots:=sl})(j:IsTup s.heap b items)(u:A.units<cLine):SeqAt.RcAt A s (.ref l) (.ref b) false:=λ prog w E Q h=>by
 obtain⟨⟨g,k,d,m⟩,o,c,i,f⟩:=id j;subst c f;have n:l≠b:=λ e=>by
  lia
 exact(SeqAt.rc_eq_decline_or ⟨_,a,rfl⟩ ⟨_,o,rfl⟩ (by decide) K1 F.slot_dict_eq KW
  (λ _ q=>hY F.slot_dict_eq ⟨_,a,rfl⟩ F.entry_dict_eq (F.args_dict_eq_2 _ _) (ZL l b es ep sl _ i _ _) ⟨a,o,q⟩)
  (λ _ q=>hY KW ⟨_,o,rfl⟩ F.entry_tuple_eq (F.args_tuple_eq_2 _ _) (ZM l b es ep sl _ i _ _) ⟨a,o,q⟩)
  (λ _ q=>wpAny_isSame_ref_other n a o (by simp) q) (.inr u) h)
def P9(K:av):aG:=λ x y H Q=>vY K false x y H Q\/∃a k b s,x= .ref a/\y= .ref b/\H a=some (.dK k)/\bf K H b s/\Q (.bl false) H
def ZO{X:aC}(g:X.A.units+64<cLine):bU X (eK .Eq) (P9 X.K):=by
 intro w s σ H x y v u Q I r c h;rcases h with h|⟨a,k,b,z,rfl,rfl,ha,i,q⟩
 .exact N4 g _ s σ H x y v u Q I r c h
 .cases r
  cases c;obtain⟨_,_,A,_,o,es,ep,j,l,d,_⟩:=I.hok a _ ha;obtain⟨m,_,n,_⟩:=I.tuple i;obtain⟨p,dd,t,sl⟩:=o;obtain⟨e,f,B⟩:=l;simp only at e f d;subst e f d;exact ZN j n (by lia) _ X.w _ _ ⟨.bl _,H,I,rfl,q⟩
def wD:D->D->ag D:=λ d e=>match d,e with
 | .dct [] _,.tup _=>.ok (.bl false)
 |d,e=>cq false d e
def ZP{K:av}:fE K (P9 K) wD:=by
 intro A x y d e H Q z c f a q;unfold wD at a;split at a
 .cases a
  obtain⟨b,s,rfl,g,_⟩:=f.tup_inv;generalize k:D.dct [] _=dd at c;induction c using aw.cs with
  |dK h m r=>exact .inr ⟨_,_,b,s,rfl,rfl,h,g,q _ H (aE.refl H) (.bl _)⟩
  |dT h m r=>simp_all
  |_=>simp_all
 .exact .inl (os_eq A x y _ _ H Q z c f a q)
section
variable{C:bB}{p:Pos}{d m:Mode}{a b:Expr}{c f:af->ag D}
def ZQ(ha:aA C d a c)(h:aA C m b f):gS C (.Compare a [.Eq] [b] p) (bD (ai wD c f)):=rB (λ i=>by rw[<-C.hK i];exact ZO (C.u64 i)) ZP ha h
end
end VL
namespace L2
open PySem PySem.Spec PyProof.Rows
end L2
namespace VL
open PySem PySem.Spec PyProof.Rows L2
def ZR(A:aS)(s:ao)(v u:Value)(b:Bool):Prop:=∀(prog:aR) (w:World) (E:Value->ao->Prop) (Q:Value->ao->Prop),Q (.bool b) s->wpAny (model prog w) A (vb .Gt v u) Q E s
inductive wF(A:aS)(s:ao):List Value->List Value->Bool->Prop
 |nn:wF A s [] [] false
 |nc:wF A s [] (v::vs) false
 |cn:wF A s (v::vs) [] true
 |eq:mT A s v u true->wF A s vs us b->wF A s (v::vs) (u::us) b
 |un:mT A s v u false->ZR A s v u b->wF A s (v::vs) (u::us) b
section
open PySem.SeqAt
open PySem.AutoSeq1(wpAny_loadPart')
open PySem.MeetsSeq PySem.MeetsSeq2 PySem.MeetsSeq3
end
section
structure ZS(f:D->D->Option Bool)(l:List D):Prop where
 n0:0<l.length
 im:er l=true
 nd:cA l=true
 dp:cQ l<=40
 cm:∀x∈l,∀y∈l,(f x y).isSome=true
instance:Decidable (ZS f l):=if h:0<l.length/\er l=true/\cA l=true/\cQ l<=40/\∀x∈l,∀y∈l,(f x y).isSome=true then .isTrue ⟨h.1,h.2.1,h.2.2.1,h.2.2.2.1,h.2.2.2.2⟩else .isFalse λ z=>h ⟨z.n0,z.im,z.nd,z.dp,z.cm⟩
end
mutual
def Hf:D->D->Option Bool
 | .int a,.int b=>some (decide (a<b))
 | .tup l,.tup m=>Qa l m
 |_,_=>none
def Qa:List D->List D->Option Bool
 |[],[]=>some false
 |[],_::_=>some true
 |_::_,[]=>some false
 |x::xs,y::s=>if cD x y=true then Qa xs s else Hf x y
end
def ZT(A:aS)(s:ao)(v u:Value)(b:Bool):Prop:=∀(prog:aR) (w:World) (E:Value->ao->Prop) (Q:Value->ao->Prop),Q (.bool b) s->wpAny (model prog w) A (vb .Lt v u) Q E s
inductive wG(A:aS)(s:ao):List Value->List Value->Bool->Prop
 |nn:wG A s [] [] false
 |nc:wG A s [] (v::vs) true
 |cn:wG A s (v::vs) [] false
 |eq:mT A s v u true->wG A s vs us b->wG A s (v::vs) (u::us) b
 |un:mT A s v u false->ZT A s v u b->wG A s (v::vs) (u::us) b
section
open PySem.SeqAt
open PySem.AutoSeq1(wpAny_loadPart')
open PySem.MeetsSeq PySem.MeetsSeq2 PySem.MeetsSeq3
end
def ZU(t:Tok)(a:Addr)(l:List Value)(n:Nat)(dd:Option Addr)(sl:Array (Option Value))(e:l.isEmpty=false):
  Meets (ia.«tuple.__mul__» ⟨[.ref a,.int 0 t],[]⟩) (λ _ R s=>s.heap.get? a=some {cls:=.type "tuple",dict:=dd,data:=.seq l.toArray n,slots:=sl}/\
   R (.ok (.ret (fO s.heap.objs.size))) {s with heap:=s.heap.push {cls:=ma "tuple",data:=Eg #[]}}):=by
 refine .of_wp λ P w A R s h=>?_
 obtain⟨b,h⟩:=h;wp_walk;simp_all
def ZV(t:Tok)(a:Addr)(l:List Value)(n:Nat)(dd:Option Addr)(sl:Array (Option Value)):
  Meets (ia.«tuple.__mul__» ⟨[.ref a,.int 1 t],[]⟩) (λ _ R s=>s.heap.get? a=some {cls:=.type "tuple",dict:=dd,data:=.seq l.toArray n,slots:=sl}/\
   R (.ok (.ret (fO a))) s):=by
 refine .of_wp λ P w A R s h=>?_
 obtain⟨b,h⟩:=h;wp_walk;simp_all
def Qb(K:av):aG:=λ x y H Q=>Gp K x y H Q\/∃a xs,x= .ref a/\bf K H a xs/\xs≠[]/\((y= .int 0/\nh H (.tup []) Q)\/(y= .int 1/\Q (.ref a) H))
def ZW:bU X (hZ .Mult) (Qb X.K):=by
 intro l s σ H x y v u Q I f d h;rcases h with h|⟨a,xs,rfl,ha,e,h⟩
 .exact Xu l s σ H x y v u Q I f d h
 .cases f
  obtain⟨i,r,p,_⟩:=I.tuple ha;obtain⟨⟨m,dd,g,sl⟩,c,j,n,k⟩:=id p;simp only at j k;subst j k;have w:i.isEmpty=false:=by
   cases i with
   |nil=>exact absurd (r.nil_iff.mp rfl) e
   |cons _ _=>rfl
  rcases h with ⟨rfl,q⟩|⟨rfl,q⟩
  .obtain⟨t,rfl⟩:=d
   refine Au (T:="tuple") (U:="int") (by decide) ⟨_,c,rfl⟩ (λ s'=>ph s' 0 t) Gl AX qS Gm AV.lookup
    (hY qS (ph s 0 t) AU (AS _ _) (Gn 0 t a i.toArray n dd sl)
     ⟨c,rfl,⟨_,c,rfl⟩,hY AW ⟨_,c,rfl⟩ Ek (Ej _ _) (ZU t a i n dd sl w) ⟨c,?_⟩⟩)
   refine⟨.ref s.heap.objs.size,_,I.laid (t':=s.toks) (o:=.tup []) (λ b z q=>bj _ q) (bc _) ?_,rfl,q.at (I.hok.fresh (bc _))⟩;exact⟨⟨by simp,NoD.push _⟩,_,.nil,sQ _ _⟩
  .obtain⟨t,rfl⟩:=d
   refine Au (T:="tuple") (U:="int") (by decide) ⟨_,c,rfl⟩ (λ s'=>ph s' 1 t) Gl AX qS Gm AV.lookup
    (hY qS (ph s 1 t) AU (AS _ _) (Gn 1 t a i.toArray n dd sl)
     ⟨c,rfl,⟨_,c,rfl⟩,hY AW ⟨_,c,rfl⟩ Ek (Ej _ _) (ZV t a i n dd sl) ⟨c,?_⟩⟩)
   exact⟨.ref a,H,I,rfl,q⟩
def ud:D->D->ag D
 | .tup l,.int k=>if k=0/\l.isEmpty=false then .ok (.tup [])else if k=1/\l.isEmpty=false then .ok (.tup l)else Cd (.tup l) (.int k)
 |_,_=>.st
def ZX{K:av}:fE K (Qb K) ud:=by
 intro A x y d e H Q z b f a q;unfold ud at a;split at a
 .split at a
  .rename_i g
   obtain⟨rfl,c⟩:=g;cases a;cases f;obtain⟨_,_,i,h,r⟩:=b.tup_inv;cases i;refine .inr ⟨_,_,rfl,h,λ e=>?_,.inl ⟨rfl,λ p H' s k n=>q _ H' s (.tup (bf.of k) .nil)⟩⟩;subst e;cases r;cases c
  .split at a
   .rename_i g
    obtain⟨rfl,c⟩:=g;cases a;cases f;have j:=b;obtain⟨_,_,i,h,r⟩:=b.tup_inv;cases i;refine .inr ⟨_,_,rfl,h,λ e=>?_,.inr ⟨rfl,q _ H (aE.refl H) (j.wk λ _ _ _ z=>.inr z)⟩⟩;subst e;cases r;cases c
   .exact .inl (Xv _ _ _ _ _ _ _ _ b f a q)
 .cases a
section
variable{C:bB}{p:Pos}{a b:Expr}{d f:af->ag D}{c m:Mode}
def ZY(ha:aA C c a d)(h:aA C m b f):aA C (nj c m) (.BinOp a .Mult b p) (ai ud d f):=tS (λ i=>by rw[<-C.hK i];exact ZW) ZX ha h
end
section
variable{X:aC}
def Qc(K:av)(w:World):List V->ah->br->Prop:=λ xs H Q=>∃p ns,xs=[.ref p]/\bf K H p (ns.map V.int)/\ns.length<64/\∀a H',aE H H'->H' a=some (.ext (aB5φ w a (df ns)))->H a=none->Q (.ref a) H'
def ZZ(E:X.calm=true):fC X (.type "set") (Qc X.K X.w):=by
 intro kX s σ H xs us Q I r h;obtain⟨p,ns,rfl,F,hz,q⟩:=h;obtain⟨u,rfl,G⟩:=vals1 r;cases G;have J:X.A.in1.in1.in1.handled=none:=I.ok.hd E;obtain⟨i,K,aO,_⟩:=I.tuple F;have z:dE i ns:=intsAre_of K;have L:i.length=ns.length:=As z;obtain⟨j,a,c,A,d⟩:=aO;have S:p<s.heap.objs.size:=bE a;refine PySem.mD (T:="tuple") (Φ:=aB5φ X.w s.heap.objs.size (df ns)) ⟨j,a,c⟩ K3 KU (by decide)
  (λ M y4 yY Q₁ k q=>u4 (s:={s with heap:=M}) (items:=i.toArray) ⟨j,k _ _ a,c,A,d⟩ q) (λ R B=>?_) λ h' N C O=>?_
 .generalize f:(!X.w.params.followText "set-order")=l at B ⊢
  have P:(s.heap.push (bT #[] 0 (.fresh 0 0 l))).get? s.heap.objs.size=some (bT #[] 0 (.fresh 0 0 l)):=dr _ rfl;have n:(s.heap.push (bT #[] 0 (.fresh 0 0 l))).IsTuple p i.toArray:=⟨j,bj _ a,c,A,d⟩;have U:p≠(s.heap.push (bT #[] 0 (.fresh 0 0 l))).objs.size:=by rw[iM];exact cH (mJ S)
  have v:s.heap.objs.size∉[(s.heap.push (bT #[] 0 (.fresh 0 0 l))).objs.size,p]:=by
   rw[iM];simp only[bI,iK,or_false,not_or];exact⟨cH (il _),kR S⟩
  refine PU ((EI J _ p U i.toArray).toS) v z (by simp) (by simpa[L]using hz) l (i.toArray.size-0) 0 _ (by simp) (dn _) ⟨⟨_,dr _ rfl,rfl,rfl⟩,(n.push _)⟩
   ⟨#[],0,_,bj _ P,ff.fresh l,rfl,[],rfl,g0 _⟩ λ s' m w=>?_
  obtain⟨h',g',d',x,y⟩:=s';have eg:g'=s.gens:=m.gens;have V:d'=s.drawn:=m.drawn;have W:y=s.os:=m.os;subst eg;subst V;subst W;refine B h' x (by unfold aB5φ;rw[f];exact w) λ b o e=>m.heap b o ?_ (bj _ (bj _ e))
  have D:=bE e;rw[iM];simp only[bI,iK,or_false,not_or];exact⟨cH D,cH (mJ D)⟩
 .have g:H s.heap.objs.size=none:=I.hok.fresh (bc _)
  obtain⟨es,ep,t,Y,r⟩:=id C;exact⟨.ref s.heap.objs.size,bq H s.heap.objs.size (.ext (aB5φ X.w s.heap.objs.size (df ns))),I.laid (t':=N) O (bc _) ⟨C,⟨_,Y⟩,λ h1 h2 ⟨es,ep,t,Z,e2⟩ k=>⟨es,ep,t,k _ Z,e2⟩⟩,rfl,q _ _ (eG g _) dM g⟩
end
def zb:List D->ag D
 |[.tup l]=>match intsOf l with
  |some ns=>if ns.length<64 then .ok (.lst ((sortI (df ns)).map .int))else .st
  |none=>.st
 |_=>.st
section
variable{C:bB}{s o p d:Pos}{m:Mode}{a:Expr}{g:af->ag (List D)}
def Z0(B:C.mg "sorted"=none)(j:C.mg "set"=none)(ha:fD C m [a] g)(D:∀i,aW [a] (C.X i).env=[(false,eval a (C.X i).env)]:=by z_go)(h:∀i,aW [Expr.Call (.Name "set" d) [a] [] o] (C.X i).env=[(false,eval (.Call (.Name "set" d) [a] [] o) (C.X i).env)]:=by z_go)(E:∀i,cN (C.X i) "sorted":=by z_go)(F:fu "sorted"=some (.builtin "sorted"):=by f_are)(k:∀i,cN (C.X i) "set":=by z_go)(l:fu "set"=some (.type "set"):=by f_are):
  aA C (some []) (.Call (.Name "sorted" p) [.Call (.Name "set" d) [a] [] o] [] s) (aN zb g):=by
 obtain⟨t,G,I⟩:=ha;have u:∀i,(C.X i).w=C.w:=λ i=>(C.cx i).2.1
 refine⟨md (G7 C.w) (i7 (md (Qc C.K C.w) t) j9),λ i=>tJ (by rw[<-u i];exact PW (C.calm i)) (E i) (by rw[(C.cx i).2.2.2.1];exact B) F
  (dv (tK (by rw[<-C.hK i,<-u i];exact ZZ (C.calm i)) (k i) (by rw[(C.cx i).2.2.2.1];exact j) l (G i) (by decide) (by decide) (D i) rfl) hD (h i)) (by decide) (by decide) (h i) rfl,λ τ σ H ρ lab Q R W=>?_⟩
 refine I τ σ H ρ lab _ R (W.bd.imp λ ds _ w xs S x J=>?_);obtain⟨z,f,w⟩:=w.okD;unfold zb at f;split at f
 .obtain⟨v,rfl,K⟩:=J.one_inv
  obtain⟨b,T,rfl,L,y⟩:=K.tup_inv;split at f
  .rename_i ns e
   split at f
   .rename_i A
    cases f;rw[lx e]at y;have M:=y.ints_of;subst M;refine⟨b,ns,rfl,L,A,λ c U s2 n N=>⟨c,df ns,rfl,n,xE (G0 ns) A,λ q O s3 P r=>w _ O ((x.trans s2).trans s3) (.lst P (.inl ((x.trans s2).free r)) az.ints)⟩⟩
   .cases f
  .cases f
 .cases f
end
theorem intsAre_of:∀{s:List Value} {ns:List Int},s.length=ns.length->(∀(i:Nat) v,s[i]? =some v->∃t,v= .int (ns.getD i 0) t)->dE s ns
 |[],[],_,_=>.nil
 |[],_::_,h,_=>by cases h
 |_::_,[],h,_=>by cases h
 |v::s,n::ns,h,a=>by
  obtain⟨t,e⟩:=a 0 v rfl;have b:v= .int n t:=e;subst b;exact .cons _ _ (intsAre_of (by simpa using h) λ i v e=>by
   obtain⟨t,e⟩:=a (i+1) v (by assumption);exact⟨t,by assumption⟩)
end VL
namespace L2
open PySem PySem.Spec PyProof.Rows
end L2
namespace VL
open PySem PySem.Spec PyProof.Rows L2
structure Z1(ks:List D):Prop where
 nd:cA ks=true
 dp:cQ ks<=40
 cm:∀x∈ks,∀y∈ks,(Hf x y).isSome=true
instance:Decidable (Z1 ks):=if h:cA ks=true/\cQ ks<=40/\∀x∈ks,∀y∈ks,(Hf x y).isSome=true then .isTrue ⟨h.1,h.2.1,h.2.2⟩else .isFalse λ z=>h ⟨z.nd,z.dp,z.cm⟩
def CB(K:av)(x:Str)(P:Addr):Bool:=match dF K cz x with
 |some (some (.ref f))=>(match K.lookup f with
  |some ⟨_,_,.func d,_⟩=>(match d.code with| .ref c=>A8 K c P|_=>false)
  |_=>false)&&(K.lookup P).isNone
 |_=>false
def Z2{K:av}{h:Heap}{mg:Str->Option Value}{i P:Addr}{x:Str}(X:K.In h)(G:h.Ns cz mg)(m:mg x=some (.ref i))(e:CB K x P=true)
  {o:Obj}{d:cB}(bY:K.lookup i=some o)(j:o.data= .func d):K.lookup P=none/\∃c,d.code= .ref c/\A8 K c P=true:=by
 unfold CB at e;split at e
 .rename_i f hf
  have k:=(eD X G hf).symm.trans m;cases k;rw[cF]at e;refine⟨by simpa using e.2,?_⟩;have a:=e.1;rw[bY]at a;split at a
  .rename_i b _ q
   have l:=hX q;rw[l]at j;have g:Data.func b=Data.func d:=j;cases g;split at a<;>simp_all
  .cases a
 .cases e
def Z3{P:aR}{w:World}{K:av}{h:Heap}{mg:Str->Option Value}{g t:Addr}{q:cB}{k n:Nat}{x:Str}{N:List Str}{st:Stmt}{f:af->ax}{F:List D->ag D}(X:K.In h)(G:h.Ns cz mg)
  (B:CB K "law" t=true){ps:List Str}(e:eF K mg "law" st ps g q)(S:dk N [x] (bg st))
  (b:∀(eo d p:Value) (i:Option Addr) (v j:Value) (s:ao) (u:Value),vf s (kV "law" "law" (tM st) (iz st) (bg st) .none eo d p i v j) ⟨[u],[]⟩ [(x,u)])
  (o:∀(base:Heap) (c:Addr) (s:ao) (H:ah) (r:ee k (ib.deeper (gA "law" (bg st) s.heap.objs.size g (.ref c)))),ro (mx P w K mg base N "law" (bg st) g (.ref c) ib s H t) t->Ae N->
   jd (Gq P w K mg base N "law" (bg st) g (.ref c) ib s H t k r) (iz st) f)
  (y:F=dN N.length f)(l:∀ns:List Int,ns.length<=n->F [.scr ns]= .ok (.bl true)):aG4 P w K mg g t k n:=by
 obtain⟨z,A,eo,d,p,i,v,j,C,E,bY,m⟩:=e.F.ex;obtain⟨I,c,J,L⟩:=Z2 X G e.m B bY rfl;subst E;obtain rfl:v= .ref c:=J;exact⟨x,_,_,_,_,_,_,eo,d,p,j,z,i,A,c,_,N,I,L,bY,m,S,λ s u=>b eo d p i _ j s u,λ a ns M base s H r O Q R=>
  XB (o base c s H r O S.nd) (by rw[<-y];exact l ns M) (.cons (.scr (Xp Q R)) .nil)⟩
structure Z4(f:D->D->Option Bool)(l:List D):Prop where
 im:er l=true
 nd:cA l=true
 dp:cQ l<=40
 cm:∀x∈l,∀y∈l,(f x y).isSome=true
instance:Decidable (Z4 f l):=if h:er l=true/\cA l=true/\cQ l<=40/\∀x∈l,∀y∈l,(f x y).isSome=true then .isTrue ⟨h.1,h.2.1,h.2.2.1,h.2.2.2⟩else .isFalse λ z=>h ⟨z.im,z.nd,z.dp,z.cm⟩
def iH:D->D->ag D
 | .lst l,.lst k=>if l.length+k.length<=aI/\er l=true/\er k=true then .ok (.lst (l++k))else .st
 |_,_=>.st
section
variable{C:bB}{c m:Mode}{a b:Expr}{g f:af->ag D}{o:Pos}
def ue(ha:aA C c a g)(n:aA C m b f):aA C (some []) (.BinOp a .Add b o) (ai iH g f):=by
 obtain⟨t,r,v⟩:=ha;obtain⟨u,k1,k2⟩:=n;refine⟨_,λ i=>Bu (C.aPz i) (r i) (k1 i),?_⟩;intro τ σ H ρ lab Q R W;refine v τ σ H ρ lab _ R (W.bd.imp λ d _ w x A j B=>k2 τ σ A ρ lab _ (R.up j) (w.bd.imp λ e _ w y J s2 D=>?_));obtain⟨z,h,w⟩:=w.okD;unfold iH at h;split at h
 .split at h
  .rename_i l
   cases h;obtain⟨_,_,rfl,E,c,q⟩:=(B.up s2).lst_inv;obtain⟨_,_,rfl,F,m,k⟩:=D.lst_inv;refine .inr (.inl ⟨_,_,_,_,rfl,rfl,E,F,by rw[q.length,k.length];exact l.1,λ p H' s G I=>w _ H' ((j.trans s2).trans s) (.lst G (.inl ((j.trans s2).free I)) ?_)⟩);exact((q.imm l.2.1).append (k.imm l.2.2)).up s
  .cases h
 .cases h
end
def Z5:vc (.type "tuple") (dunderI "add")=pure none:=by rfl
def Z6{X:aC}:Br X .Add (yG X.K):=by
 intro T s σ H x y v u Q I G J h;obtain⟨a,b,xs,K,rfl,rfl,ha,L,hz,M,N,O⟩:=h;cases G;cases J;obtain⟨t,r,P,_⟩:=I.tuple ha;obtain⟨i,k,R,_⟩:=I.tuple L;obtain⟨⟨S,dd,A,sl⟩,d,B,n,C⟩:=id P;obtain⟨⟨D,f,m,l⟩,c,g,p,j⟩:=id R;simp only at B C g j;subst B C g j;refine wpAny_inplaceOp_concat ⟨_,d,rfl⟩ ⟨_,c,rfl⟩ Z5 Az AF ?_;by_cases E:xs=[]
 .subst E
  cases r;exact hY vi ⟨_,d,rfl⟩ vh (vg _ _) (tuple_addW0 a b #[] i.toArray n p dd f sl l (by simp)) ⟨d,c,⟨.ref b,H,I,rfl,M rfl⟩⟩
 .have F:t≠[]:=λ z=>E (r.nil_iff.mp z)
  by_cases w:i=[]
  .exact hY vi ⟨_,d,rfl⟩ vh (vg _ _) (tuple_addW1 a b t.toArray i.toArray n p dd f sl l (by simpa using F) (by simp[w])) ⟨d,c,⟨.ref a,H,I,rfl,N (k.nil_iff.mp w)⟩⟩
  .refine hY vi ⟨_,d,rfl⟩ vh (vg _ _) (tuple_addW2 a b t.toArray i.toArray n p dd f sl l (by simpa using F) (by simpa using w) (by rw[cW,cW,<-r.length,<-k.length];exact hz)) ⟨d,c,?_⟩
   have e:t.toArray++i.toArray=(t++i).toArray:=by simp
   rw[e];refine⟨.ref s.heap.objs.size,_,I.laid (t':=s.toks) (o:=.tup (xs++K)) (λ b U q=>bj _ q) (bc _) ?_,rfl,O.at (I.hok.fresh (bc _))⟩;exact⟨⟨by rw[cy];exact hz,NoD.push _⟩,_,r.append k,sQ _ _⟩
def p0:D->D->ag D
 | .tup a,.tup b=>if a.length+b.length<=aI/\er a=true/\er b=true then .ok (.tup (a++b))else .st
 |_,_=>.st
section
variable{C:bB}{i:Nat}{x:Str}{m:Mode}{e:Expr}{fe:af->ag D}{a o:Pos}
def Qd(u:aA C m e fe)(N:∀j,(C.X j).N[i]? =some x:=by z_go)(A:∀j,kW (C.X j).env.scope x:=by f_tup)(hf:∀j,(C.X j).fn x=true\/(C.X j).env.scope.names.lookup x=some .local:=by fin2)(nd:∀j,(C.X j).N.Nodup:=by intro _;assumption):hG C (.AugAssign (.Name x o) .Add e a) (oB p0 i fe):=by
 obtain⟨t,B,D⟩:=u;refine⟨_,λ j=>Ms (nd j) (N j) (A j) (B j) (ti:=yG C.K) (op:=.Add) (by rw[<-C.hK j];exact Z6) (hf j),λ τ σ H ρ lab E R W=>?_⟩;have F:=(nq.bo W).bd;refine FK C.K C.G i τ σ H ρ lab (λ v H'=>t σ H' λ y g=>yG C.K v y g λ z G=>E.nx (σ.set i (some z)) G) R (F.imp λ d _ w v H' s r=>D τ σ H' ρ lab _ (R.up s) (w.bd.imp λ e _ w y g k I=>?_));obtain⟨z,b,w⟩:=w.okD;unfold p0 at b;split at b
 .split at b
  .rename_i h
   cases b;obtain⟨J,xs,rfl,l,q⟩:=(r.up k).tup_inv;obtain⟨K,L,rfl,n,c⟩:=I.tup_inv;have f:=(R.up s).up k;refine⟨J,K,xs,L,rfl,rfl,l,n,by rw[q.length,c.length];exact h.1,λ M=>?_,λ O=>?_,λ p H' s3 P Q=>?_⟩
   .subst M
    cases q;exact w _ _ _ (f.put (s:=.sh _) (.tup n (c.imm h.2.2)))
   .subst O
    cases c;rw[fo]at w;exact w _ _ _ (f.put (s:=.sh _) (.tup l (q.imm h.2.1)))
   .exact w _ _ _ ((f.up s3).put (s:=.sh _) (.tup (.inl (.inl P)) (((q.imm h.2.1).append (c.imm h.2.2)).up s3)))
  .cases b
 .cases b
end
def Z7{prog:aR}{w:World}{A:aS}{E:Value->ao->Prop}{s:ao}{l b sl:Addr}{items e:Array Value}{n q:Nat}{v u:Value}{o i:Option Int}{Q:Unit->ao->Prop}
  (c:s.heap.get? l=some {cls:=.type "list",data:=.seq items n})(t:s.heap.get? b=some {cls:=.type "list",data:=.seq e q})(f:(l==b)=false)(y:s.heap.IsSliceOf sl v u .none)(aO:lT v o)(B:lT u i)(z:items.size+e.size<=aI)
  (h:Q () {s with heap:=s.heap.update l (kU λ xs=>xs.extract 0 (mO o i none items.size).1.toNat++e++xs.extract (max (mO o i none items.size).1 (mO o i none items.size).2.1).toNat xs.size)}):
  wpAny (model prog w) A (td (.ref l) (.ref sl) (.ref b)) Q E s:=by
 have g:s.heap.IsList l items:=K7 (n:=n) c;have j:s.heap.IsList b e:=K7 (n:=q) t;obtain⟨C,a,p,d⟩:=id y;have T:s.TypeIs (.ref sl) "slice":=⟨C,a,p⟩;unfold td
 try with_reducible refine iL ?_
 first|refine ak (aB ?_)|skip
 refine ak (Ay g.typeIs (by decide) ?_);refine ak (mK (name:=mW "__setitem__") g.typeIs Ko
  (jX Ko g.typeIs entry_list_setitem ?_ (args_list_setitem _ _ _)))
 show wpAny _ _ (Kv (.ref sl)>>=_) _ _ s;refine ak ?_;unfold Kv;refine ak (wpAny_specialOf T slice_no_index ?_);simp only[Option.isNone_none,if_true];refine aB ?_;show wpAny _ _ (typeOf (.ref sl)>>=_) _ _ s;refine ak (sW T ?_);rw[if_neg (by decide)];rw[listSliceParts_eq];have K:¬((rawPart none==mS 0)=true):=cL;refine ak (ak (gR a d (x:=lV) rfl (ak (D1 (k:=none) .none ?_))));rw[if_neg K];refine ak (gR a d (x:=v) rfl (ak (D1 aO ?_)));refine ak (gR a d (x:=u) rfl (ak (D1 B (aB ?_))));have r:Builtin.List.listSameRef (.ref l) (.ref b)=false:=f;rw[r,if_neg cL];refine ak (m:=Kw (.ref b) _) ?_;unfold Kw;refine ak (sW j.typeIs ?_);rw[if_pos (by decide)];unfold Builtin.List.listItems;refine ak (kS t rfl (aB ?_));refine ak (m:=Bind.bind _ _) (ak (kS c rfl (aB ?_)));refine ak (AI (sliceIndices_raw o i none items.size (by simp)) ?_);obtain⟨_,_,D⟩:=Fp o i items.size;have F:items.size-(max (mO o i none items.size).1 (mO o i none items.size).2.1).toNat+(min (mO o i none items.size).1.toNat items.size)<=items.size:=So;rw[if_pos (by rw[D];rfl)];refine ak (mQ ?_);rw[if_neg (by rw[BD z];exact cL)];refine ak (m:=AN (.ref l) _) ?_;unfold AN;refine xM c rfl (ak (qK ?_)) (by lia) ?_
 .first
  |exact ak (aB (aB ⟨.none,rfl,aB h⟩))
  |exact aB ⟨.none,rfl,aB h⟩
 .rw[Dg,Dg,Jf,Jf]
  lia
def Z8:V->V->Option Int->Option Int->ah->(ah->Prop)->Prop:=λ o v l h H Q=>∃p b xs y,o= .ref p/\v= .ref b/\H p=some (.lst xs)/\H b=some (.lst y)/\p≠b/\xs.length+y.length<=aI/\
 Q (bq H p (.lst (xs.take (HT.sIx xs.length 0 l)++y++xs.drop (max (HT.sIx xs.length 0 l) (HT.sIx xs.length xs.length h)))))
section
variable{X:aC}{o c i:Option Expr}{e:Expr}{d:bz}{f th:dc}{g t:Pos}
def Qe(d:bz)(f th:dc):j8:=λ v σ H Q=>d σ H λ x a=>f σ a λ l b=>th σ b λ u c=>Z8 x v l u c λ e=>Q σ e
def Z9{o:Expr}{c i:Option Expr}(K:aY X o d)(L:tL X c f)(M:tL X i th)
  (ha:∀v,i5 (.Subscript o (.Slice c i none g) t) X.env v=(do
   let y <-gB [v] (eval o X.env);let iv <-gB [v,y] (eval (.Slice c i none g) X.env)
   qM t
   gB [v,y,iv] (td y iv v)
   release [iv,v,y] []):=by z_go):m8 X (.Subscript o (.Slice c i none g) t) (Qe d f th):=by
 intro A s σ H v u Q I r h;rw[ha];refine ak (iL (aZ (K A s σ H _ I h) λ y N ⟨x,O,P,R,S⟩=>?_));refine ak (iL (D9 (aZ (L A N σ O _ P S) λ T s2 ⟨l,U,V,aO,W⟩=>aZ (M A s2 σ U _ V W) λ Y s3 ⟨w,Z,I3,pu,q3⟩=>?_)));rw[D3];refine aB ?_;have B:Inv X A σ Z {s3 with heap:=s3.heap.push {cls:=.type "slice",data:=.fields #[T,Y,.none]}}:=I3.kept (t':=s3.toks) λ b ob q=>bj _ q
 obtain⟨p,b,xs,ys,e1,e2,E,g2,C,hz,q⟩:=q3;subst e1 e2;cases R;cases r;obtain⟨j,n,D,F,_⟩:=B.lst E;obtain⟨k,n2,z,h2,_⟩:=B.lst g2;have l1:=D.length;have l2:=z.length;refine ak (AH (ak (iL (Z7 F h2 (by simpa using C) (Eo ..) aO pu (by rw[cW,cW];simp_all) ?_))));obtain⟨G,J,b3⟩:=Fp l w j.toArray.size;have e:∀a m:Nat,j.toArray.extract 0 a++k.toArray++j.toArray.extract m j.toArray.size=(j.take a++k++j.drop m).toArray:=λ a m=>by
  apply Dh;simp[kO,Array.toList_extract,List.extract_eq_take_drop,iI]
 rw[cW]at G J;refine wpAny_release ⟨σ,_,B.lstUpd (its':=j.take (HT.sIx j.length 0 l)++k++j.drop (max (HT.sIx j.length 0 l) (HT.sIx j.length j.length w))) (n':=if ((j.take (HT.sIx j.length 0 l)++k++j.drop (max (HT.sIx j.length 0 l) (HT.sIx j.length j.length w))).toArray.size==j.toArray.size)=true then n else n+1) E F ?_ ?_ ?_ s3.toks,q⟩
 rotate_left
 .rw[<-l1]
  exact((D.take _).append z).append (D.drop _)
 .rw[cy,cy,eY,iJ]
  exact Ss hz
 .rw[cW,G,J]
  have m1:((HT.sIx j.length 0 l:Nat):Int).toNat=HT.sIx j.length 0 l:=oR _;have m2:(max ((HT.sIx j.length 0 l:Nat):Int) ((HT.sIx j.length j.length w:Nat):Int)).toNat=max (HT.sIx j.length 0 l) (HT.sIx j.length j.length w):=by omega
  rw[m1,m2];simp only[kU,e];rfl
end
def CC(i:Nat)(fe:af->ag D)(f a:af->ag (Option Int)):af->ax:=λ ρ=>match ρ[i]? with
 |some (.ow (.lst ds))=>(fe ρ).bo λ d=>(f ρ).bo λ l=>(a ρ).bo λ h=>match d with
  | .lst es=>if ds.length+es.length<=aI/\er es=true then .nx (ρ.set i (.ow (.lst (ds.take (HT.sIx ds.length 0 l)++es++ds.drop (max (HT.sIx ds.length 0 l) (HT.sIx ds.length ds.length h))))))else .st
  |_=>.st
 |_=>.st
section
variable{C:bB}{f t p c:Pos}{e:Expr}{l a:Option Expr}{fe:af->ag D}{g k:af->ag (Option Int)}{x:Str}
def aaa(i:Nat)(T:aA C (some []) e fe)(U:vZ C l g)(V:vZ C a k)(X:∀j,(C.X j).N[i]? =some x:=by z_go)(Y:∀j,j7 (C.X j).env.scope x:=by x_go)(Z:Nd x:=by decide)
  (A:(x==("__classdict__":Str))=false:=by decide)(ha:∀j v,i5 (.Subscript (.Name x p) (.Slice l a none c) t) (C.X j).env v=(do
   let ov <-gB [v] (eval (.Name x p) (C.X j).env);let iv <-gB [v,ov] (eval (.Slice l a none c) (C.X j).env)
   qM t
   gB [v,ov,iv] (td ov iv v)
   release [iv,v,ov] []):=by intro _ _;rfl)(D:∀j,xP [.Subscript (.Name x p) (.Slice l a none c) t] e f.line (C.X j).env=pure false:=by z_go)(hw:∀j,xO [.Subscript (.Name x p) (.Slice l a none c) t] e (C.X j).env=pure none:=by z_go)
  (h1:∀j,(ko [.Subscript (.Name x p) (.Slice l a none c) t] (C.X j).env).map (·.2)=[i5 (.Subscript (.Name x p) (.Slice l a none c) t) (C.X j).env]:=by z_go):
  hG C (.Assign [.Subscript (.Name x p) (.Slice l a none c) t] e f) (CC i fe g k):=by
 obtain⟨te,e1,e2⟩:=T;obtain⟨tl,l1,l2⟩:=U;obtain⟨th,k1,k2⟩:=V;refine⟨n9 te (Qe (iw i) tl th),λ j=>Bt (e1 j) (Z9 (jz (X j) (Y j) Z A) (l1 j) (k1 j) (ha j)) (D j) (hw j) (h1 j),λ τ σ H ρ lab De R W=>?_⟩;unfold CC at W;cases es:ρ[i]? with
 |none=>rw[es]at W;exact aX W
 |some s=>
  rw[es]at W;split at W
  .rename_i ds D
   cases D;rcases R.sl i _ es with z|⟨v,N,E⟩
   .cases z
   .obtain⟨F,q⟩:=E
    obtain⟨m,G,n⟩:=q rfl;subst G;obtain⟨_,xs,e0,h,mm,r⟩:=F.lst_inv;cases e0;refine e2 τ σ H ρ lab _ R (W.bo.imp λ d _ w y H2 s2 r2=>⟨.ref m,N,?_⟩);refine l2 τ σ H2 ρ lab _ (R.up s2) (w.bo.imp λ u _ w H3 s3=>?_);refine k2 τ σ H3 ρ lab _ ((R.up s2).up s3) (w.bo.imp λ O _ w I s4=>?_);split at w
    .rename_i es
     split at w
     .rename_i hz
      have sA:=s2.trans (s3.trans s4);obtain⟨b,P,eb,J,mb,Q⟩:=(r2.up (s3.trans s4)).lst_inv;subst eb;have K:I m=some (.lst xs):=sA _ _ h;have L:H b=none:=by
       rcases mb with z|z
       .exact z
       .cases z
      have M:m≠b:=λ z=>by rw[z,L]at h;cases h
      refine⟨m,b,xs,P,rfl,rfl,K,J,M,by rw[r.length,Q.length];exact hz.1,?_⟩;rw[r.length];have B:ij m I (bq I m (.lst (xs.take (HT.sIx ds.length 0 u)++P++xs.drop (max (HT.sIx ds.length 0 u) (HT.sIx ds.length ds.length O))))):=λ b' o ne J=>by rw[bR ne];exact J
      have S:=r.up sA;have rN:=(((S.take (HT.sIx ds.length 0 u)).append (Q.imm hz.2)).append (S.drop (max (HT.sIx ds.length 0 u) (HT.sIx ds.length ds.length O))));exact w σ _ _ ((R.up sA).mut N K rfl n B ⟨.lst dM (.inr n) (rN.but B K rfl λ z=>z.2 rfl),λ _=>⟨m,rfl,n⟩⟩)
     .exact aX w
    .exact aX w
  .exact aX W
end
def sd:List D->ag D
 |[.lst l]=>if er l=true then .ok (.lst l)else .st
 |[.tup l]=>if er l=true then .ok (.lst l)else .st
 |_=>.st
def aab{K:av}:y2 K (λ xs H Q=>∃p y,xs=[.ref p]/\(bN K H p y\/bf K H p y)/\∀l,H l=none->Q (.ref l) (bq H l (.lst y))) sd:=by
 intro A xs ds H Q z r e q;unfold sd at e;split at e
 .split at e
  .rename_i i
   cases e;obtain⟨v,rfl,h⟩:=r.one_inv;obtain⟨p,y,rfl,g,_,b⟩:=h.lst_inv;exact⟨p,y,rfl,.inl (bN.of g),λ l a=>q _ _ (eG a _) (.lst dM a ((b.imm i).up (eG a _)))⟩
  .cases e
 .split at e
  .rename_i i
   cases e;obtain⟨v,rfl,h⟩:=r.one_inv;obtain⟨p,y,rfl,g,b⟩:=h.tup_inv;exact⟨p,y,rfl,.inr g,λ l a=>q _ _ (eG a _) (.lst dM a ((b.imm i).up (eG a _)))⟩
  .cases e
 .cases e
section
variable{C:bB}{m:Mode}{a:Expr}{g:af->ag (List D)}{p o:Pos}
def aac(f:C.mg "list"=none)(ha:fD C m [a] g)(e:∀i,aW [a] (C.X i).env=[(false,eval a (C.X i).env)]:=by z_go)(b:∀i,cN (C.X i) "list":=by z_go)(v:fu "list"=some (.type "list"):=by f_are):aA C (some []) (.Call (.Name "list" p) [a] [] o) (aN sd g):=by
 obtain⟨t,c,d⟩:=ha;exact⟨_,λ i=>tK (by have h:=M1 (X:=C.X i);rw[C.hK i]at h;exact h) (b i) (by rw[(C.cx i).2.2.2.1];assumption) v (c i) (by decide) (by decide) (e i) rfl,Cx aab d⟩
end
end VL
namespace L2
open PySem PySem.Spec PyProof.Rows
end L2
namespace VL
open PySem PySem.Spec PyProof.Rows L2
def flat:D->Bool
 | .non=>true
 | .bl _=>true
 | .int _=>true
 |_=>false
inductive acG where
 |nx (ρ:af)|rt (d:D) (ρ:af)|st
abbrev rl:=D->List (Int×D)->D->List (Int×D)->Option (Bool×List (Int×D)×List (Int×D))
section
variable{ρ:af}{i:Nat}{f g:af->ag D}{e j:af->ag Bool}{c:af->ag (List D)}{u v:af->ax}{d:D}
@[simp] def varD_ap:eL i ρ=match ρ[i]? with
 |some (.sh d)=>.ok d
 |some (.nw d)=>.ok d
 |some (.ow d)=>.ok d
 |some (.oz d)=>.ok d
 |some (.o2 l)=>.ok (.lst (l.map .lst))
 |_=>.st:=bp rfl
@[simp] def Qf:aa i ρ=match ρ[i]? with
 |some (.sh d)=>.ok d
 |some (.nw d)=>.ok d
 |_=>.st:=bp rfl
@[simp] def varN_ap:eu i ρ=match ρ[i]? with
 |some (.nw d)=>.ok d
 |_=>.st:=bp rfl
@[simp] def varO_ap:tQ i ρ=match ρ[i]? with
 |some (.ow d)=>.ok d
 |some (.o2 l)=>.ok (.lst (l.map .lst))
 |_=>.st:=bp rfl
@[simp] def Qg:aq d ρ= .ok d:=bp rfl
@[simp] def jg:aj ρ= .ok []:=bp rfl
@[simp] def eC:ae f c ρ=(f ρ).bd λ d=>(c ρ).bd λ ds=>.ok (d::ds):=bp rfl
@[simp] def wH:aI=16777216:=mM
@[simp] def Hg:bC c ρ=(c ρ).bd λ ds=>if ds.length<=16777216 then .ok (.tup ds)else .st:=by rfl
@[simp] def Qh:dm c ρ=(c ρ).bd λ ds=>if ds.length<=16777216 then .ok (.lst ds)else .st:=by rfl
@[simp] def se:okD (.ok d)= .ok d:=bp rfl
@[simp] def kJ:ai fd f g ρ=(f ρ).bd λ x=>(g ρ).bd λ y=>okD (fd x y):=bp rfl
@[simp] def op1_ap:ml fd f ρ=(f ρ).bd λ x=>okD (fd x):=bp rfl
@[simp] def jO:aN fd c ρ=(c ρ).bd λ x=>okD (fd x):=bp rfl
@[simp] def zd:bt F c ρ=(c ρ).bd F:=bp rfl
def Qi(d:D)(r:ag D):ag D:=match d with
 | .bl true=>r
 | .bl false=>.ok (.bl false)
 |_=>.st
@[simp] def andR_bl:Qi (.bl b) r=if b=true then r else .ok (.bl false):=by cases b<;>rfl
@[simp] def andD_ap:BQ f g ρ=(f ρ).bd λ d=>Qi d (g ρ):=bp rfl
def Qj(d:D)(r:ag D):ag D:=match d with
 | .bl true=>r
 | .bl false=>.ok (.bl false)
 |_=>.st
@[simp] def chR_bl:Qj (.bl b) r=if b=true then r else .ok (.bl false):=by cases b<;>rfl
@[simp] def chD_ap:yC fd fd' f g h ρ=(f ρ).bd λ x=>(g ρ).bd λ y=>(okD (fd x y)).bd λ z=>Qj z ((h ρ).bd λ w=>okD (fd' y w)):=bp rfl
@[simp] def truD_bl:BR (.bl b)= .ok b:=bp rfl
@[simp] def truD_lst:BR (.lst l)= .ok (!l.isEmpty):=bp rfl
@[simp] def aad:yD (.bl b)= .ok b:=bp rfl
@[simp] def Qk:jb f ρ=(f ρ).bd BR:=bp rfl
@[simp] def uf:bD f ρ=(f ρ).bd yD:=bp rfl
@[simp] def aae:FQ e j ρ=(e ρ).bd λ k=>if k=true then j ρ else .ok false:=bp rfl
@[simp] def aaf:mq e j ρ=(e ρ).bd λ k=>if k=true then .ok true else j ρ:=bp rfl
@[simp] def Ql:lp e ρ=(e ρ).bd λ k=>.ok (!k):=bp rfl
@[simp] def bQ:aM u v ρ=(u ρ).sq v:=bp rfl
@[simp] def qa:retS f ρ=(f ρ).bo .rt:=bp rfl
@[simp] def dropS_ap:FR f ρ=(f ρ).bo λ _=>.nx ρ:=bp rfl
@[simp] def lG:de e u v ρ=(e ρ).bo λ k=>if k=true then u ρ else v ρ:=bp rfl
@[simp] def CD:dD i f ρ=(f ρ).bo λ d=>.nx (ρ.set i (.sh d)):=bp rfl
@[simp] def CE:ik i f ρ=(f ρ).bo λ d=>.nx (ρ.set i (.nw d)):=bp rfl
@[simp] def Qm:ot i f ρ=(f ρ).bo λ d=>.nx (ρ.set i (.ow d)):=bp rfl
def Qn(ρ:af)(i:Nat):D->ax
 | .lst ds=>.nx (ρ.set i (.oz (.lst ds)))
 |_=>.st
@[simp] def zSet_l(ρ:af)(i:Nat)(ds:List D):Qn ρ i (.lst ds)= .nx (ρ.set i (.oz (.lst ds))):=bp rfl
@[simp] def setZ_ap:BX i f ρ=(f ρ).bo (Qn ρ i):=by rfl
@[simp] def oE:aD i d ρ= .ok (ρ.set i (.sh d)):=bp rfl
@[simp] def gnil_nil:e7 [] ρ= .ok ρ:=bp rfl
@[simp] def gcons_cons:bM a b (d::ds) ρ=(a d ρ).bd (b ds):=bp rfl
@[simp] def gtup_tup:eP n b (.tup ds) ρ=if ds.length=n then b ds ρ else .st:=bp rfl
def Qo(r:ag af):ax:=match r with
 | .ok ρ=>.nx ρ
 |_=>.st
@[simp] def nxO_ok:Qo (.ok ρ)= .nx ρ:=bp rfl
@[simp] def asgS_ap:kB f a ρ=(f ρ).bo λ d=>Qo (a d ρ):=bp rfl
@[simp] def itD_tup:BZ (.tup l)= .ok l:=bp rfl
@[simp] def itD_lst:BZ (.lst l)= .ok l:=bp rfl
@[simp] def itrD_ap:eA f ρ=(f ρ).bd BZ:=bp rfl
@[simp] def oF:gh c a u ρ=(c ρ).bo λ ds=>forL a u ds ρ:=bp rfl
@[simp] def forL_nil:forL a u [] ρ= .nx ρ:=bp rfl
noncomputable def ax.tn(o:ax)(k:af->ax):ax:=match o with
 | .nx a=>k a
 | .ct a=>k a
 | .bk a=>.nx a
 |o=>o
@[simp] def ug:(ax.nx ρ).tn k=k ρ:=bp rfl
@[simp] def aag:(ax.rt d).tn k= .rt d:=bp rfl
def mz(r:ag af)(k:af->ax):ax:=match r with
 | .ok ρ=>k ρ
 |_=>.st
@[simp] def mB:mz (.ok ρ) k=k ρ:=bp rfl
def qb:forL a u (d::ds) ρ=mz (a d ρ) λ b=>(u b).tn (forL a u ds):=by rfl
@[simp] def oNone_ap:hP ρ= .ok none:=bp rfl
@[simp] def oSome_ap:fx f ρ=(f ρ).bd λ d=>match d with
 | .int i=>.ok (some i)
 |_=>.st:=bp rfl
@[simp] def sliceD_ap:fP f a b ρ=(f ρ).bd λ d=>(a ρ).bd λ l=>(b ρ).bd λ h=>okD (B8 d l h):=bp rfl
@[simp] def slD_tup:B8 (.tup l) a b= .ok (.tup (cutD l a b)):=bp rfl
@[simp] def slD_lst:B8 (.lst l) a b= .ok (.lst (cutD l a b)):=bp rfl
@[simp] def revD_tup:Gf (.tup l)= .ok (.tup l.reverse):=bp rfl
@[simp] def immD_ap:bO f ρ=(f ρ).bd mj:=bp rfl
@[simp] def rngA_ap:gs r c ρ=(c ρ).bd r:=bp rfl
@[simp] def raiseS_ap:FV x c ρ=(c ρ).bo λ ds=>if ds.length<=16777216 then .ex x else .st:=by rfl
@[simp] def yesT_ap:gH ρ= .ok true:=bp rfl
end
section
variable{d e:D}{i j:Int}{l m:List D}
def CF(h:imm d=true):mj d= .ok d:=by unfold mj;rw[if_pos h]
@[simp] def gImm_int:mj (.int i)= .ok (.int i):=bp rfl
@[simp] def addD_int:bZ (.int i) (.int j)= .ok (.int (i+j)):=bp rfl
@[simp] def addD_lst:bZ (.lst l) (.lst m)=if l.length+m.length<=16777216 then .ok (.lst (l++m))else .st:=by rfl
@[simp] def subD_int:yM (.int i) (.int j)= .ok (.int (i-j)):=bp rfl
def Qp(h:0<j)(a:j<1073741824):rL (.int i) (.int j)= .ok (.int (i / j)):=by unfold rL bw;simp_all
def ze(h:0<j):lz (.int i) (.int j)= .ok (.int (i%j)):=by unfold lz bw;simp_all
def CG(h: -(2^64)<i)(a:i<2^64):fH (.int i) (.int j)= .ok (.int (i*j)):=by unfold fH;simp_all
def Qq(h: -(2^64)<j)(a:j<2^64):fH (.int i) (.int j)= .ok (.int (i*j)):=by unfold fH;simp_all
@[simp] def ltD_int:nr (.int i) (.int j)= .ok (.bl (decide (i<j))):=bp rfl
@[simp] def leD_int:B1 (.int i) (.int j)= .ok (.bl (decide (i<=j))):=bp rfl
@[simp] def gtD_int:kD (.int i) (.int j)= .ok (.bl (decide (j<i))):=bp rfl
@[simp] def geD_int:yH (.int i) (.int j)= .ok (.bl (decide (j<=i))):=bp rfl
@[simp] def lenD_tup:cw [.tup l]= .ok (.int l.length):=bp rfl
@[simp] def aah:cw [.lst l]= .ok (.int l.length):=bp rfl
@[simp] def lenD_scr:cw [.scr x]= .ok (.int x.length):=bp rfl
@[simp] def aai:nu [.lst l]= .ok (.tup l):=bp rfl
@[simp] def listD_tup:yL [.tup l]= .ok (.lst l):=bp rfl
@[simp] def mmD_int:jf f [.int i,.int j]= .ok (.int (f i j)):=bp rfl
@[simp] def aaj:aF (.tup l) (.int i)=iE l i:=bp rfl
@[simp] def ixD_lst:aF (.lst l) (.int i)=iE l i:=bp rfl
@[simp] def ixD_scr:aF (.scr x) (.int i)=iE (x.map .int) i:=bp rfl
def uh{k:Nat}(h:l[k]? =some d):iE l (k:Int)= .ok d:=by
 have a:=(eW.mp h).1;unfold iE nf me;simp_all
def Hh(a:0<=i)(b:i<l.length):∃d,iE l i= .ok d/\d∈l/\l[i.toNat]? =some d:=by
 have h:i.toNat<l.length:=by simp_all
 have e:=en h;refine⟨_,?_,lO h,e⟩
 have:=uh e
 rwa [zT a]at this
@[simp] def aak{r:List D}:iE (d::r) 0= .ok d:=uh rfl
@[simp] def aal{r:List D}:iE (d::e::r) 1= .ok e:=uh rfl
@[simp] def eqR_int:cq n (.int i) (.int j)= .ok (.bl (if n then !(i==j)else i==j)):=bp rfl
noncomputable def knd:D->Bool
 | .set _=>false
 | .scr _=>false
 | .fn _=>false
 | .itm _ _=>false
 | .itx _ _=>false
 |_=>true
def Hi:D->Bool
 | .int _=>true
 | .bl _=>true
 |_=>false
def aam:D->Bool
 | .bl _=>true
 |_=>false
def lH:D->Bool
 | .tup _=>true
 |_=>false
def Qr(h:knd d=true):jD "int" d= .ok (.bl (Hi d)):=by
 cases d<;>first|rfl|(simp[knd]at h)
def aan(h:knd d=true):jD "bool" d= .ok (.bl (aam d)):=by
 cases d<;>first|rfl|(simp[knd]at h)
def wI(h:knd d=true):jD "tuple" d= .ok (.bl (lH d)):=by
 cases d<;>first|rfl|(simp[knd]at h)
@[simp] def isi_tuple_tup:jD "tuple" (.tup l)= .ok (.bl true):=wI rfl
@[simp] def isi_int_int:jD "int" (.int i)= .ok (.bl true):=Qr rfl
@[simp] def isi_bool_int:jD "bool" (.int i)= .ok (.bl false):=aan rfl
end
@[simp] def fU:dN n u ds=match u (dw n ds)with
 | .nx _=>.ok .non
 | .rt d=>.ok d
 | .ex c=>.ex c
 |_=>.st:=bp rfl
def ui(h: -(2^62)<=j)(a:j<2^62):hI [.int j]= .ok (eB 0 j):=by unfold hI;simp_all
def aao{l h:Int}:d∈eB l h↔∃k:Int,d= .int k/\l<=k/\k<h:=by
 unfold eB;rw[cX];constructor
 .rintro⟨n,a,rfl⟩
  have:=kl.mp a
  exact⟨_,rfl,ET,by omega⟩
 .rintro⟨k,rfl,b,c⟩
  exact⟨(k-l).toNat,kl.mpr (SW b c),by congr 1;lia⟩
def CH(I:Nat->af->Prop)(s:∀(i:Nat) d ρ,ds[i]? =some d->I i ρ->∃f,mz (a d ρ) (λ g=>u g)= .nx f/\I (i+1) f)(k:I 0 ρ):∃b,forL a u ds ρ= .nx b/\I ds.length b:=by
 have o:∀(n:Nat) (ρ:af),n<=ds.length->I (ds.length-n) ρ->∃b,forL a u (ds.drop (ds.length-n)) ρ= .nx b/\I ds.length b:=by
  intro n;induction n with
  |zero=>simp_all
  |succ n m=>
   intro ρ p h;have l:ds.length-(n+1)<ds.length:=by omega
   rw[sx l,qb];obtain⟨f,e,j⟩:=s _ _ ρ (en l) h;rw[show ds.length-(n+1)+1=ds.length-n by grind]at j ⊢;cases ea:a _ ρ with
   |ok g=>
    rw[ea]at e;simp only[mB]at e ⊢;rw[e,ug];exact m f (EM p) j
   |ex c=>rw[ea]at e;cases e
   |st=>rw[ea]at e;cases e
 have:=o ds.length ρ (bc _) (by rw[An];exact k)
 simp_all
end VL
namespace VL.My
open PySem L2
def bV:D:=(.tup [(.str "one")])
def qc:Str->Option Str:=λ c=>((["NoWeb","NoPlace","NoWay","NoParting","TooMany","NoForest","NoPlan","NoOneWay","NoOrder","NoText","NoDeed","NoRow"]:List Str).zip (["web","place","way","parting","many","forest","plan","one way","order","text","deed","row"]:List Str)).lookup c
def bH:af->ax:=
  (aM (de (mq (lp (jb (ml (jD "tuple") (aa 0)))) (mq (bD (ai (cq true) (aN cw (ae (aa 0) aj)) (aq (.int 2)))) (bD (ai (gI true) (ai aF (aa 0) (aq (.int 0))) (bC (ae (aq (.str "beside")) (ae (aq (.str "across")) aj)))))))
   (retS (aq (.bl false)))
   ax.nx)
  (retS (BQ (ml (jD "tuple") (ai aF (aa 0) (aq (.int 1)))) (ai yH (aN cw (ae (ai aF (aa 0) (aq (.int 1))) aj)) (aq (.int 2))))))
def qf:List D->ag D:=dN 1 bH
def dU:af->ax:=
  (retS (aN r9 (ae (aa 0) (ae (ml Gf (aa 0)) aj))))
def zh:List D->ag D:=dN 1 dU
def du:af->ax:=
  (retS (bC (ae (ai iH (ai aF (aa 0) (aq (.int 0))) (ai aF (aa 1) (aq (.int 0)))) (ae (ai iH (ai aF (aa 0) (aq (.int 1))) (ai aF (aa 1) (aq (.int 1)))) (ae (ai iH (ai aF (aa 0) (aq (.int 2))) (ai aF (aa 1) (aq (.int 2)))) aj)))))
def uj:List D->ag D:=dN 2 du
def zi:af->ax:=aM (oB p0 2 (aa 4)) (de (bD (ai nr (aa 3) (aN cw (ae (aa 1) aj)))) (oB p0 2 (ai aF (aa 1) (aa 3))) ax.nx)
def rD:af->ax:=aM (dD 2 (bC aj)) (aM (gh (gs G9 (ae (aa 0) aj)) (eP 2 (bM (aD 3) (bM (aD 4) e7))) zi) (retS (bO (aa 2))))
def uk:List D->ag D:=dN 5 rD
def CI:af->ag Bool:=bD (ai nr (aN cw (ae (eL 2) aj)) (aa 1))
def Hj:af->ax:=CC 2 (dm (ae (bO (fP (ai aF (eL 2) (aa 3)) hP (fx (aq (.int 1))))) (ae (bO (fP (ai aF (eL 2) (aa 3)) (fx (aq (.int 1))) hP)) aj))) (fx (aa 3)) (fx (ai bZ (aa 3) (aq (.int 1))))
def CJ:af->ax:=aM (de (bD (ai kD (aN cw (ae (ai aF (eL 2) (aa 3)) aj)) (aq (.int 1)))) Hj ax.nx) (oB (bw (λ _ _=>true) λ a b=>.int (a+b)) 3 (aq (.int 1)))
def nM:af->ax:=aM (ot 2 (aN sd (ae (aa 0) aj))) (aM (dD 3 (aq (.int 0))) (aM (tT CI CJ) (retS (tQ 2))))
def qh:List D->ag D:=dN 4 nM
def dJ:af->ax:=
  (aM (de (bD (ai nr (aa 1) (aN cw (ae (aa 0) aj))))
   (retS (bO (ai aF (aa 0) (aa 1))))
   ax.nx)
  (retS (aq (.int 0))))
def zj:List D->ag D:=dN 2 dJ
def eQ:af->ax:=
  (aM (de (bD (ai yH (aa 0) (ai Gg (aq (.int 10)) (aq (.int 18)))))
   (aM (dD 3 (aa 0))
   (aM (gh (gs hI (ae (aa 1) aj)) (aD 4)
    (aM (de (bD (ai (cq false) (aa 3) (aq (.int 0))))
     (retS (aq (.int 0)))
     ax.nx)
    (dD 3 (ai rL (aa 3) (aa 2)))))
   (retS (ai lz (aa 3) (aa 2)))))
   ax.nx)
  (aM (dD 5 (ai lz (ai fH (ai bZ (ai bZ (ai lz (aa 0) (aq (.int 1000000007))) (ai fH (aq (.int 1009)) (aa 1))) (aq (.int 17))) (aq (.int 69621))) (aq (.int 2147483647))))
  (aM (dD 5 (ai lz (ai bZ (ai bZ (ai fH (aa 5) (aa 5)) (ai fH (aq (.int 40503)) (aa 1))) (aq (.int 5))) (aq (.int 2147483629))))
  (retS (ai lz (ai rL (ai lz (ai fH (aa 5) (aq (.int 48271))) (aq (.int 2147483647))) (aq (.int 32))) (aa 2))))))
def iT:List D->ag D:=dN 6 eQ
def sf:af->ax:=aM (y9 1 (aa 3) (aN (jf λ i j=>if j<i then j else i) (ae (ai aF (eL 1) (aa 3)) (ae (ai aF (eL 1) (aa 4)) aj)))) (y9 1 (aa 4) (bO (ai aF (eL 1) (aa 3))))
def wJ:af->ax:=gh (eA (ai aF (aa 0) (aq (.int 1)))) (eP 2 (bM (aD 3) (bM (aD 4) e7))) sf
def Qs:af->ag D:=aN nu (ae (e8 (gs hI (ae (ai aF (aa 1) (aq (.int 0))) aj)) [none,some 2,some 0] (aD 0) (bD (ai (cq false) (ai aF (aa 1) (aa 0)) (aa 2))) (bO (aa 0))) aj)
def Qt:af->ag D:=e8 (eA (aN y7 (ae (aa 1) aj))) [none,some 0,some 1] (aD 0) gH Qs
def iD:af->ax:=aM (ot 1 (wA (ai aF (aa 0) (aq (.int 0))))) (aM (gh (gs hI (ae (ai aF (aa 0) (aq (.int 0))) aj)) (aD 2) wJ) (retS Qt))
def zk:List D->ag D:=dN 5 iD
def Qu:af->ag D:=e8 (gs hI (ae (ai aF (aa 0) (aq (.int 0))) aj)) [none,some 1] (aD 0) (bD (ai (gI true) (aa 0) (aa 1))) (bO (aa 0))
def Hk:af->ag D:=e8 (eA (ai aF (aa 0) (aq (.int 1)))) [none,some 2] (aD 0) (FQ (bD (ai (gI false) (ai aF (aa 0) (aq (.int 0))) (aa 1))) (bD (ai (gI false) (ai aF (aa 0) (aq (.int 1))) (aa 1)))) (bO (aa 0))
def Qv:af->ag D:=e8 (eA (aa 3)) [none,none,some 2] (eP 2 (bM (aD 0) (bM (aD 1) e7))) gH (bC (ae (za nB (aa 2) (aa 0)) (ae (za nB (aa 2) (aa 1)) aj)))
def jF:af->ax:=aM (ik 2 Qu) (aM (ik 3 Hk) (retS (bC (ae (aN cw (ae (eu 2) aj)) (ae (aN nu (ae Qv aj)) aj)))))
def zl:List D->ag D:=dN 4 jF
def um:af->ax:=de (mq (lp (jb (ml (jD "tuple") (aa 1)))) (bD (ai (cq false) (aa 1) (bC aj)))) (retS (aq (.bl false))) ax.nx
def uo:af->ax:=de (mq (lp (jb (ml (jD "int") (aa 2)))) (mq (jb (ml (jD "bool") (aa 2))) (lp (bD (yC B1 nr (aq (.int 0)) (aa 2) (ai aF (aa 0) (aq (.int 0)))))))) (retS (aq (.bl false))) ax.nx
def zo:af->ax:=de (bD (ai (cq true) (aN t9 (ae (aN t8 (ae (aa 1) aj)) aj)) (aN cw (ae (aa 1) aj)))) (retS (aq (.bl false))) ax.nx
def wK:af->ax:=de (bD (ai (gI true) (bC (ae (aN (jf λ i j=>if j<i then j else i) (ae (aa 3) (ae (aa 4) aj))) (ae (aN (jf λ i j=>if j>i then j else i) (ae (aa 3) (ae (aa 4) aj))) aj))) (ai aF (aa 0) (aq (.int 1))))) (retS (aq (.bl false))) ax.nx
def Hl:af->ag (List D):=gs CA (ae (aa 1) (ae (fP (aa 1) (fx (aq (.int 1))) hP) aj))
def jG:af->ax:=aM um (aM (gh (eA (aa 1)) (aD 2) uo) (aM zo (aM (gh Hl (eP 2 (bM (aD 3) (bM (aD 4) e7))) wK) (retS (aq (.bl true))))))
def CK:List D->ag D:=dN 5 jG
def dB:af->ax:=aM (de (lp (jb (ml (jD "tuple") (aa 1)))) (retS (aq (.bl false))) ax.nx) (aM (gh (eA (aa 1)) (aD 2) uo) (retS (ai (cq false) (aN yL (ae (aa 1) aj)) (aN zb (ae (aa 1) aj)))))
def CL:List D->ag D:=dN 3 dB
def ju:af->ax:=
  (aM (BX 1 (dm (ae (bC (ae (aa 0) (ae (aq (.int 1)) aj))) aj)))
  (aM (dD 2 (aq (.int 0)))
  (aM (tT (jb (eL 1))
   (aM (yO 1 (eP 2 (bM (aD 3) (bM (aD 4) e7))))
   (aM (de (bD (ai wD (aa 3) (aq bV)))
    (oB (bw (λ _ _=>true) λ a b=>.int (a+b)) 2 (aq (.int 1)))
    (de (jb (bt qf (ae (aa 3) aj)))
     (yN 1 (vV (eA (ai aF (aa 3) (aq (.int 1)))) [none,some 4] (aD 0) gH (bC (ae (aa 0) (ae (ai bZ (aa 1) (aq (.int 1))) aj)))))
     (retS (aq (.bl false)))))
   (de (mq (bD (ai kD (aa 2) (aq (.int 40)))) (bD (ai kD (aa 4) (aq (.int 24)))))
    (retS (aq (.bl false)))
    ax.nx))))
  (retS (aq (.bl true))))))
def uu:List D->ag D:=dN 5 ju
def cC:af->ax:=
  (aM (kB (aa 0) (eP 3 (bM (aD 2) (bM (aD 3) (bM (aD 4) e7)))))
  (aM (dD 5 (ai aF (aa 1) (aq (.int 0))))
  (aM (dD 6 (ai bZ (aN cw (ae (aa 5) aj)) (aq (.int 1))))
  (aM (dD 7 (bt uk (ae (fP (aa 3) hP (fx (aa 6))) (ae (e8 (eA (aa 5)) [none] (aD 0) gH (bC (ae (bO (aa 0)) aj))) aj))))
  (retS (bC (ae (ai iH (aa 2) (aa 5)) (ae (ai iH (dm (ae (aa 7) aj)) (fP (aa 3) (fx (aa 6)) hP)) (ae (ai iH (aa 4) (aa 5)) aj)))))))))
def uw:List D->ag D:=dN 8 cC
def iC:af->ax:=
  (retS (ai yM (aN cw (ae (bt zk (ae (bt zl (ae (aa 0) (ae (aa 1) aj))) aj)) aj)) (aN cw (ae (e8 (eA (aa 1)) [none,some 2] (aD 0) (bD (ai (gI true) (aa 0) (aa 1))) (bO (aa 0))) aj))))
def zq:List D->ag D:=dN 3 iC
def Qw:af->ag D:=e8 (eA (aa 1)) [none,some 0] (aD 0) gH (bt CK (ae (aa 1) (ae (aa 0) aj)))
def zr:af->ax:=de (mq (lp (jb (ml (jD "tuple") (aa 1)))) (lp (jb (aN (pS λ bs=>bs.all id) (ae Qw aj))))) (retS (aq (.bl false))) ax.nx
def CM:af->ax:=Ha 2 (bO (aa 3))
def cV:af->ax:=aM zr (aM (ot 2 (dm aj)) (aM (gh (eA (aa 1)) (aD 3) CM) (retS (ai (cq false) (aN lB (ae (eL 2) aj)) (wA (ai aF (aa 0) (aq (.int 0))))))))
def CN:List D->ag D:=dN 4 cV
def jE:af->ax:=
  (aM (ik 3 (ai fH (dm (ae (bC (ae (aq (.str "one")) aj)) aj)) (bO (aa 2))))
  (aM (gh (gs hI (ae (aa 2) aj)) (aD 4)
   (de (bD (ai kD (aN cw (ae (eu 3) aj)) (aq (.int 1))))
    (aM (dD 5 (ai bZ (aq (.int 2)) (bt iT (ae (aa 0) (ae (ai bZ (aa 1) (ai fH (aq (.int 3)) (aa 4))) (ae (aq (.int 3)) aj))))))
    (aM (dD 6 (bt iT (ae (aa 0) (ae (ai bZ (ai bZ (aa 1) (ai fH (aq (.int 3)) (aa 4))) (aq (.int 1))) (ae (aN (jf λ i j=>if j>i then j else i) (ae (aq (.int 1)) (ae (ai bZ (ai yM (aN cw (ae (eu 3) aj)) (aa 5)) (aq (.int 1))) aj))) aj)))))
    (aM (ik 7 (ai aF (dm (ae (aq (.str "beside")) (ae (aq (.str "across")) aj))) (bt iT (ae (aa 0) (ae (ai bZ (ai bZ (aa 1) (ai fH (aq (.int 3)) (aa 4))) (aq (.int 2))) (ae (aq (.int 2)) aj))))))
    (ik 3 (ai bZ (ai bZ (fP (eu 3) hP (fx (aa 6))) (dm (ae (bC (ae (eu 7) (ae (aN nu (ae (fP (eu 3) (fx (aa 6)) (fx (ai bZ (aa 6) (aa 5)))) aj)) aj))) aj))) (fP (eu 3) (fx (ai bZ (aa 6) (aa 5))) hP))))))
    ax.nx))
  (retS (ai aF (eu 3) (aq (.int 0))))))
def zt:List D->ag D:=dN 8 jE
def dg:af->ax:=
  (de (lp (jb (bt uu (ae (aa 0) aj))))
   (FV "NoPlan" (ae (aq (.str "this is no plan")) aj))
   ax.nx)
def wL:List D->ag D:=dN 1 dg
def cU:af->ax:=
  (aM (de (bD (ai kD (aN cw (ae (ai aF (aa 0) (aq (.int 1))) aj)) (aN cw (ae (ai aF (aa 1) (aq (.int 0))) aj))))
   (retS (bt uw (ae (aa 0) (ae (aa 1) aj))))
   ax.nx)
  (aM (de (bD (ai kD (aN cw (ae (ai aF (aa 1) (aq (.int 1))) aj)) (aN cw (ae (ai aF (aa 0) (aq (.int 0))) aj))))
   (retS (bt uw (ae (aa 1) (ae (aa 0) aj))))
   ax.nx)
  (aM (dD 2 (aN (jf λ i j=>if j>i then j else i) (ae (aN cw (ae (ai aF (aa 0) (aq (.int 1))) aj)) (ae (aN cw (ae (ai aF (aa 1) (aq (.int 1))) aj)) aj))))
  (retS (bC (ae (ai iH (ai aF (aa 0) (aq (.int 0))) (ai aF (aa 1) (aq (.int 0)))) (ae (dm (ae (bt uk (ae (bt qh (ae (ai aF (aa 0) (aq (.int 1))) (ae (aa 2) aj))) (ae (bt qh (ae (ai aF (aa 1) (aq (.int 1))) (ae (aa 2) aj))) aj))) aj)) (ae (dm aj) aj))))))))
def qj:List D->ag D:=dN 3 cU
def cG(R:List D->ag D):af->ax:=
  (aM (de (bD (ai (cq false) (aa 0) (bC (ae (aq (.str "one")) aj))))
   (retS (bC (ae (aq (.int 1)) (ae (dm aj) aj))))
   ax.nx)
  (aM (dD 1 (aq (.int 0)))
  (aM (ot 2 (dm aj))
  (aM (gh (eA (ai aF (aa 0) (aq (.int 1)))) (aD 3)
   (aM (kB (bt R (ae (aa 3) aj)) (eP 2 (bM (aD 4) (bM (aD 5) e7))))
   (aM (tZ 2 (e8 (eA (aa 5)) [none,none,some 1] (eP 2 (bM (aD 0) (bM (aD 1) e7))) gH (bC (ae (ai bZ (bO (aa 2)) (bO (aa 0))) (ae (ai bZ (bO (aa 2)) (bO (aa 1))) aj)))))
   (aM (de (bD (ai (cq false) (ai aF (aa 0) (aq (.int 0))) (aq (.str "across"))))
    (gh (gs hI (ae (aa 1) aj)) (aD 6)
     (tZ 2 (e8 (gs hI (ae (aa 4) aj)) [none,some 6,some 1] (aD 0) gH (bC (ae (bO (aa 1)) (ae (ai bZ (bO (aa 2)) (bO (aa 0))) aj))))))
    ax.nx)
   (dD 1 (ai bZ (aa 1) (aa 4)))))))
  (retS (bC (ae (bO (aa 1)) (ae (tQ 2) aj))))))))
def uy:Nat->List D->ag D
 |0=>λ _=>.st
 |n+1=>dN 7 (cG (uy n))
def Hm:List D->ag D:=uy 64
def dW:af->ax:=
  (aM (kB (bt Hm (ae (aa 0) aj)) (eP 2 (bM (aD 1) (bM (aD 2) e7))))
  (retS (bC (ae (bO (aa 1)) (ae (aN nu (ae (aN wz (ae (aa 2) aj)) aj)) aj)))))
def CO:List D->ag D:=dN 3 dW
def cj(R:List D->ag D):af->ax:=
  (aM (de (bD (ai (cq false) (aa 0) (aq bV)))
   (retS (bC (ae (dm (ae (bO (aa 1)) aj)) (ae (dm (ae (bC (ae (bO (aa 1)) aj)) aj)) (ae (dm aj) aj)))))
   ax.nx)
  (aM (ik 2 (bC (ae (dm aj) (ae (dm aj) (ae (dm aj) aj)))))
  (aM (gh (eA (ai aF (aa 0) (aq (.int 1)))) (aD 3)
   (aM (dD 4 (bt R (ae (aa 3) (ae (ai bZ (aa 1) (aN cw (ae (ai aF (eu 2) (aq (.int 0))) aj))) aj))))
   (de (bD (ai (cq false) (ai aF (aa 0) (aq (.int 0))) (aq (.str "across"))))
    (ik 2 (bt qj (ae (eu 2) (ae (aa 4) aj))))
    (ik 2 (bt uj (ae (eu 2) (ae (aa 4) aj)))))))
  (retS (eu 2)))))
def mE:Nat->List D->ag D
 |0=>λ _=>.st
 |n+1=>dN 5 (cj (mE n))
def Hn:List D->ag D:=mE 64
def cO:af->ax:=
  (aM (FR (bt wL (ae (aa 0) aj)))
  (retS (bt Hn (ae (aa 0) (ae (aq (.int 0)) aj)))))
def oG:List D->ag D:=dN 1 cO
def dq:af->ax:=
  (aM (kB (bt oG (ae (aa 0) aj)) (eP 3 (bM (aD 1) (bM (aD 2) (bM (aD 3) e7)))))
  (retS (aN cw (ae (aa 2) aj))))
def CP:List D->ag D:=dN 4 dq
def cZ:af->ax:=
  (aM (kB (bt oG (ae (aa 0) aj)) (eP 3 (bM (aD 1) (bM (aD 2) (bM (aD 3) e7)))))
  (retS (aN nu (ae (aN lB (ae (e8 (eA (aa 2)) [none] (aD 0) gH (bt zh (ae (aa 0) aj))) aj)) aj))))
def nC:List D->ag D:=dN 4 cZ
def gq:af->ax:=
  (aM (kB (bt oG (ae (aa 0) aj)) (eP 3 (bM (aD 1) (bM (aD 2) (bM (aD 3) e7)))))
  (retS (aN nu (ae (aN lB (ae (aa 3) aj)) aj))))
def nD:List D->ag D:=dN 4 gq
def Ho:af->ag (List D):=(gs hI (ae (aN (jf λ i j=>if j>i then j else i) (ae (aq (.int 1)) (ae (aN (jf λ i j=>if j<i then j else i) (ae (aN cw (ae (aa 0) aj)) (ae (aq (.int 5)) aj))) aj))) aj))
def Hp:af->ag (List D):=(eA (dm (ae (aa 3) (ae (bC (ae (aq (.str "beside")) (ae (bC (ae (aa 3) (ae (aa 4) aj))) aj))) (ae (bC (ae (aq (.str "across")) (ae (bC (ae (aa 4) (ae (aa 3) aj))) aj))) (ae (bC (ae (aq (.str "across")) (ae (bC (ae (aa 5) (ae (aa 3) aj))) aj))) aj))))))
def Hq:af->ax:=(dD 7 (bt CO (ae (aa 6) aj)))
def Hr:af->ax:=(dD 8 (bt nC (ae (aa 6) aj)))
def Hs:af->ax:=(dD 9 (bt nD (ae (aa 6) aj)))
def Ht:af->ax:=(de (mq (lp (jb (bt CN (ae (aa 7) (ae (aa 8) aj))))) (lp (jb (bt CL (ae (aa 7) (ae (aa 9) aj)))))) (retS (aq (.bl false))) ax.nx)
def Hu:af->ax:=(de (mq (bD (ai (cq true) (bt zq (ae (aa 7) (ae (aa 9) (ae (bC aj) aj)))) (aN cw (ae (aa 8) aj)))) (bD (ai (cq true) (bt CP (ae (aa 6) aj)) (aN cw (ae (aa 8) aj))))) (retS (aq (.bl false))) ax.nx)
def zu:af->ax:=aM Hq (aM Hr (aM Hs (aM Ht Hu)))
def Hv:af->ax:=(dD 2 (bt zj (ae (aa 0) (ae (aa 1) aj))))
def Hw:af->ax:=(dD 3 (bt zt (ae (aa 2) (ae (aq (.int 5000)) (ae (ai bZ (aq (.int 1)) (bt iT (ae (aa 2) (ae (aq (.int 0)) (ae (aq (.int 20)) aj))))) aj)))))
def Hx:af->ax:=(dD 4 (bt zt (ae (aa 2) (ae (aq (.int 6000)) (ae (ai bZ (aq (.int 1)) (bt iT (ae (aa 2) (ae (aq (.int 1)) (ae (aq (.int 20)) aj))))) aj)))))
def Hy:af->ax:=(dD 5 (bC (ae (aq (.str "beside")) (ae (ai ud (bC (ae (bC (ae (aq (.str "one")) aj)) aj)) (ai bZ (aq (.int 2)) (bt iT (ae (aa 2) (ae (aq (.int 2)) (ae (aq (.int 12)) aj)))))) aj))))
def Hz:af->ax:=(ik 10 (ai aF (dm (ae (aq .non) (ae (bC (ae (aq (.str "two")) aj)) (ae (bC (ae (aq (.str "across")) (ae (bC (ae (bO (aa 3)) aj)) aj))) (ae (dm (ae (aq (.str "one")) aj)) (ae (bC (ae (aq (.str "beside")) (ae (bC (ae (bO (aa 3)) (ae (aq (.int 0)) aj))) aj))) (ae (bC aj) aj))))))) (bt iT (ae (aa 2) (ae (aq (.int 8000)) (ae (aq (.int 6)) aj))))))
def HA:af->ax:=(de (bD (ai (cq true) (rO qc "told" (bt nC (ae (aa 10) aj))) (aq (.str "plan")))) (retS (aq (.bl false))) ax.nx)
def HB:af->ax:=(de (bD (ai (cq true) (rO qc "told" (bt nD (ae (aa 10) aj))) (aq (.str "plan")))) (retS (aq (.bl false))) ax.nx)
def zv:af->ax:=aM Hv (aM Hw (aM Hx (aM Hy (aM (gh Hp (aD 6) zu) (aM Hz (aM HA HB))))))
def HC:af->ag D:=(BQ (ai (cq false) (bt nC (ae (bC (ae (aq (.str "one")) aj)) aj)) (bC (ae (bC (ae (aq (.int 0)) aj)) aj))) (ai (cq false) (bt nD (ae (bC (ae (aq (.str "one")) aj)) aj)) (bC aj)))
def aAC:af->ax:=aM (gh Ho (aD 1) zv) (retS HC)
def HD:List D->ag D:=dN 11 aAC
theorem Qx{b:Int}(f:0<b)(a:b<1073741824){c:Int}{k:Int}:∀(ds:List D) (x:Int) (s:Slot),(∀d∈ds,∃n:Int,d= .int n)->
  (∃y s',forL (aD 4) (aM (de (bD (ai (cq false) (aa 3) (aq (.int 0)))) (retS (aq (.int 0))) ax.nx) (dD 3 (ai rL (aa 3) (aa 2)))) ds [.sh (.int c),.sh (.int k),.sh (.int b),.sh (.int x),s,.no]= .nx [.sh (.int c),.sh (.int k),.sh (.int b),.sh (.int y),s',.no])\/
  forL (aD 4) (aM (de (bD (ai (cq false) (aa 3) (aq (.int 0)))) (retS (aq (.int 0))) ax.nx) (dD 3 (ai rL (aa 3) (aa 2)))) ds [.sh (.int c),.sh (.int k),.sh (.int b),.sh (.int x),s,.no]= .rt (.int 0)
 |[],x,s,_=>.inl ⟨x,s,rfl⟩
 |d::ds,x,s,h=>by
  have j:=Qx f a (c:=c) (k:=k) ds (x / b) (.sh d) λ e i=>h e (cT _ i)
  rw[qb];by_cases g:x=0
  .subst g
   right;simp
  .simp[g,Qp f a]
   simp_all
def aap{c k b:Int}(i:0<=k)(l:k<2^40)(h:0<b)(a:b<1073741824):∃r:Int,iT [.int c,.int k,.int b]= .ok (.int r)/\0<=r/\r<b:=by
 have p:Gg (.int 10) (.int 18)= .ok (.int 1000000000000000000):=rfl;by_cases f:(1000000000000000000:Int)<=c
 .have g:=ui (j:=k) (by lia) (by lia)
  have m:=Qx h a (c:=c) (k:=k) (eB 0 k) c .no λ d o=>let⟨n,e,_⟩:=aao.mp o;⟨n,e⟩
  rcases m with ⟨y,s',e⟩|e
  .refine⟨y%b,?_,zV _ (Bk h),zU _ h⟩
   simp[iT,eQ,dw,p,f,g,e,ze h]
  .refine⟨0,?_,by simp,h⟩
   simp[iT,eQ,dw,p,f,g,e]
 .have s:∀z:Int,0<=z%2147483647/\z%2147483647<2147483647:=λ z=>⟨zV _ (by decide),zU _ (by decide)⟩
  have s2:∀z:Int,0<=z%2147483629/\z%2147483629<2147483629:=λ z=>⟨zV _ (by decide),zU _ (by decide)⟩
  have q:∀z,fH (.int 1009) (.int z)= .ok (.int (1009*z)):=λ z=>CG (by decide) (by decide)
  have t:∀z,fH (.int z) (.int 69621)= .ok (.int (z*69621)):=λ z=>Qq (by decide) (by decide)
  have u:∀z,fH (.int 40503) (.int z)= .ok (.int (40503*z)):=λ z=>CG (by decide) (by decide)
  have v:∀z,fH (.int z) (.int 48271)= .ok (.int (z*48271)):=λ z=>Qq (by decide) (by decide)
  have w:∀z:Int,fH (.int (z%2147483647)) (.int (z%2147483647))= .ok (.int (z%2147483647*(z%2147483647))):=λ z=>CG (by have:=s z;lia) (by have:=s z;lia)
  have x:∀z,lz (.int z) (.int 1000000007)= .ok (.int (z%1000000007)):=λ z=>ze (by decide)
  have A:∀z,lz (.int z) (.int 2147483647)= .ok (.int (z%2147483647)):=λ z=>ze (by decide)
  have B:∀z,lz (.int z) (.int 2147483629)= .ok (.int (z%2147483629)):=λ z=>ze (by decide)
  have C:∀z,rL (.int z) (.int 32)= .ok (.int (z / 32)):=λ z=>Qp (by decide) (by decide)
  have D:∀z,lz (.int z) (.int b)= .ok (.int (z%b)):=λ z=>ze h
  simp[iT,eQ,dw,p,f,q,t,u,v,w,x,A,B,C,D,-Int.emod_emod_of_dvd];exact⟨zV _ (Bk h),zU _ h⟩
def uA{c k b:Int}(h:0<=k)(a:k<2^40)(f:0<b)(d:b<1073741824):∃r:Nat,iT [.int c,.int k,.int b]= .ok (.int r)/\(r:Int)<b:=by
 obtain⟨r,e,g,i⟩:=aap h a f d;exact⟨_,by rw[zT g];assumption,by lia⟩
def aaq{ns:List Int}{k:Int}(h:0<=k):∃c:Int,zj [.scr ns,.int k]= .ok (.int c):=by
 by_cases a:k<ns.length
 .obtain⟨d,e,m,_⟩:=Hh (l:=ns.map .int) h (by simp_all)
  obtain⟨c,_,rfl⟩:=cX.mp m;exact⟨c,by simp[zj,dJ,dw,a,e]⟩
 .exact⟨0,by simp[zj,dJ,dw,a]⟩
def Qy{n:Bool}{d e:D}(h:dR d<=60)(a:bu d=true)(b:bu e=true):cq n d e= .ok (.bl (if n then !cD d e else cD d e)):=by
 unfold cq;simp_all
def aar{d:D}(f:dR d<=60)(c:bu d=true):wD d bV= .ok (.bl (cD d bV)):=by
 have h:=Qy (n:=false) (e:=bV) f c rfl;cases d with
 |dct a b=>simp[bu]at c
 |_=>assumption
def aas{n:Bool}{d:D}{es:List D}(h:cQ es<=60)(a:bu d=true)(b:cA es=true):gI n d (.tup es)= .ok (.bl (if n then !ke d es else ke d es)):=by
 unfold gI;simp_all
def Qz{d:D}(h:bu d=true):knd d=true:=by cases d<;>simp_all [bu,knd]
def lI:D->Bool
 | .str s=>s=="beside"||s=="across"
 |_=>false
def aat(d:D):ke d [.str "beside",.str "across"]=lI d:=by
 unfold ke;cases d with
 |str s=>simp[cD,lI,BEq.comm]
 |_=>rfl
def kL:D->Bool
 | .tup l=>match l with
  |[w,y]=>match y with
   | .tup s=>lI w&&decide (2<=s.length)
   |_=>false
  |_=>false
 |_=>false
def HE{x:D}(h:lH x=true):∃l,x= .tup l:=by
 cases x with
 |tup l=>exact⟨l,rfl⟩
 |_=>exact absurd h cL
def QA{x:D}(h:lH x=false):kL x=false:=by
 cases x with
 |tup l=>exact absurd h.symm cL
 |_=>rfl
def QB{l:List D}(h:l.length≠2):kL (.tup l)=false:=by
 match l with
 |[]=>rfl
 |[_]=>rfl
 |[_,_]=>exact absurd rfl h
 |_::_::_::_=>rfl
def aau{x:D}(h:bu x=true):qf [x]= .ok (.bl (kL x)):=by
 have k:=wI (Qz h);cases a:lH x with
 |false=>
  rw[a]at k;simp[qf,bH,dw,k,QA a]
 |true=>
  obtain⟨l,rfl⟩:=HE a;by_cases c1:l.length=2
  .match l,c1,h with
   |[w,y],_,h=>
    simp only[bu,cA,cF]at h;have i:gI true w (.tup [.str "beside",.str "across"])= .ok (.bl (!lI w)):=by
     rw[aas (by decide) h.1 rfl,aat];rfl
    have p:kL (.tup [w,y])=(lI w&&(lH y&&kL (.tup [.str "beside",y]))):=by cases y<;>simp[kL,lH,lI]
    rw[p];cases c:lI w with
    |false=>
     rw[c]at i;simp[qf,bH,dw,i]
    |true=>
     rw[c]at i;cases c2:lH y with
     |false=>simp[qf,bH,dw,i,wI (Qz h.2.1),c2]
     |true=>
      obtain⟨s,rfl⟩:=HE c2;simp[qf,bH,dw,i,lH,kL,lI];omega
  .rw[QB c1]
   have c2:¬(l.length:Int)=2:=by omega
   simp[qf,bH,dw,c2]
def kM(x:D):Bool:=cD x bV
def wO{x:D}(h:kM x=true):x=bV:=by
 unfold kM bV at h;cases x with
 |tup l=>
  match l with
  |[]=>exact absurd h cL
  |[a]=>
   have c:=(Jj.mp (show(cD a (.str "one")&&true)=true from h)).1;cases a with
   |str s=>rw[cD,beq_iff_eq]at c;subst c;rfl
   |_=>exact absurd c cL
  |a::b::r=>
   have c:(cD a (.str "one")&&false)=true:=h;exact absurd ((xm _).symm.trans c) cL
 |_=>exact absurd h cL
mutual
def bY:D->Option (Nat×Nat)
 | .tup l=>match l with
  |[a]=>if cD a (.str "one")=true then some (1,1)else none
  |[w,y]=>match y with
   | .tup s=>if (lI w&&decide (2<=s.length))=true then(dj s).map λ q=>(q.1+1,q.2)else none
   |_=>none
  |_=>none
 |_=>none
def dj:List D->Option (Nat×Nat)
 |[]=>some (0,0)
 |y::s=>(bY y).bind λ p=>(dj s).map λ q=>(max p.1 q.1,p.2+q.2)
end
mutual
def nd:D->Nat
 | .tup l=>eS l+1
 | .lst l=>eS l+1
 |_=>1
def eS:List D->Nat
 |[]=>0
 |y::s=>nd y+eS s
end
def HF:∀x:D,1<=nd x:=by
 intro x;cases x<;>simp[nd]
def uB:bY bV=some (1,1):=by rfl
def zw{x:D}(h:kL x=true):∃w y,x= .tup [.str w,.tup y]/\2<=y.length/\bY x=(dj y).map λ q=>(q.1+1,q.2):=by
 cases c:lH x with
 |false=>exact absurd ((QA c).symm.trans h) cL
 |true=>
  obtain⟨l,rfl⟩:=HE c;by_cases c1:l.length=2
  .match l,c1 with
   |[a,b],_=>
    cases b with
    |tup y=>
     have d:(lI a&&decide (2<=y.length))=true:=h;cases a with
     |str w=>exact⟨w,y,rfl,of_decide_eq_true (Jj.mp d).2,if_pos d⟩
     |_=>exact absurd d cL
    |_=>exact absurd h cL
  .exact absurd ((QB c1).symm.trans h) cL
def zx{x:D}(h:kM x=false)(c:kL x=false):bY x=none:=by
 cases x with
 |tup l=>
  match l with
  |[]=>rfl
  |[a]=>
   refine if_neg λ z=>?_
   have:(cD a (.str "one")&&true)=false:=h
   rw[z]at this;cases this
  |[a,b]=>
   cases b with
   |tup y=>exact if_neg λ z=>cL (c.symm.trans z)
   |_=>rfl
  |_::_::_::_=>rfl
 |_=>rfl
def CQ{x:D}{a b:Nat}(h:bY x=some (a,b)):1<=a:=by
 cases c1:kM x with
 |true=>rw[wO c1,uB]at h;simp_all
 |false=>
  cases c2:kL x with
  |false=>rw[zx c1 c2]at h;contradiction
  |true=>
   obtain⟨w,y,_,_,e⟩:=zw c2;cases l:dj y<;>simp_all
def pr(p:D×Int):D:=.tup [p.1,.int p.2]
def gM:List (D×Int)->Option Nat
 |[]=>some 0
 |p::r=>(bY p.1).bind λ q=>if p.2+(q.1:Int)<=25 then(gM r).map (·+q.2)else none
theorem HG(s:List (D×Int)):∀qs,gM (qs++s)=(gM qs).bind λ a=>(gM s).map λ b=>a+b
 |[]=>by cases h:gM s<;>simp[gM,h]
 |p::r=>by
  have i:=HG s r;simp only[qA,gM];cases bY p.1 with
  |none=>rfl
  |some q=>
   simp only[qF];by_cases c:p.2+(q.1:Int)<=25
   .rw[if_pos c,if_pos c,i]
    cases gM r with
    |none=>rfl
    |some a=>
     cases gM s<;>grind
   .rw[if_neg c,if_neg c];rfl
theorem QC{e:Int}(h:e<=25):∀s:List D,gM (s.map λ y=>(y,e))=(dj s).bind λ q=>if e+(q.1:Int)<=25 then some q.2 else none
 |[]=>by simp[gM,dj,h]
 |y::s=>by
  have i:=QC h s;simp only[dH,gM,dj];cases a:bY y with
  |none=>rfl
  |some p=>
   simp only[qF];rw[i];cases l:dj s<;>grind
def QD{w:Str}{y:List D}:nd (.tup [.str w,.tup y])=eS y+3:=by simp[nd,eS];lia
def jh:List (D×Int)->Nat
 |[]=>0
 |p::r=>nd p.1+jh r
theorem HH(s:List (D×Int)):∀qs,jh (qs++s)=jh qs+jh s
 |[]=>by simp[jh]
 |p::r=>by simp[jh,HH s r];exact EN
theorem QE(e:Int):∀s:List D,jh (s.map λ y=>(y,e))=eS s
 |[]=>rfl
 |y::s=>by simp[jh,eS,QE e s]
theorem HI:∀s:List D,s.length<=eS s
 |[]=>by simp
 |y::s=>by have:=HI s;have:=HF y;simp[eS];omega
theorem QF:∀s:List (D×Int),s.length<=jh s
 |[]=>by simp
 |y::s=>by have:=QF s;have:=HF y.1;simp[jh];omega
def jP(x:D):Prop:=bu x=true/\dR x<=60
theorem QG:∀{s:List D} {y:D},y∈s->cA s=true->bu y=true/\dR y<=cQ s
 |z::s,y,h,n=>by
  simp only[cA,cF]at n;rcases bI.mp h with rfl|h
  .exact⟨n.1,DF _ _⟩
  .have:=QG h n.2
   exact⟨this.1,eJ this.2 (DC _ _)⟩
def CR{w:Str}{s:List D}(h:jP (.tup [.str w,.tup s])):∀y∈s,jP y:=by
 intro y b;obtain⟨a,c⟩:=h;simp only[bu,cA,cF,dR,cQ]at a c
 have:=QG b a.2.1
 exact⟨this.1,by lia⟩
def sg:af->ag Bool:=jb (eL 1)
def si:af->ax:=de (bD (ai wD (aa 3) (aq bV)))
    (oB (bw (λ _ _=>true) λ a b=>.int (a+b)) 2 (aq (.int 1)))
    (de (jb (bt qf (ae (aa 3) aj)))
     (yN 1 (vV (eA (ai aF (aa 3) (aq (.int 1)))) [none,some 4] (aD 0) gH (bC (ae (aa 0) (ae (ai bZ (aa 1) (aq (.int 1))) aj)))))
     (retS (aq (.bl false))))
def wQ:af->ax:=de (mq (bD (ai kD (aa 2) (aq (.int 40)))) (bD (ai kD (aa 4) (aq (.int 24)))))
    (retS (aq (.bl false)))
    ax.nx
def oH:af->ax:=aM (yO 1 (eP 2 (bM (aD 3) (bM (aD 4) e7)))) (aM si wQ)
def QH{s b s3:Slot}{ones e:Int}:wQ [s,b,.sh (.int ones),s3,.sh (.int e)]=if ones<=40/\e<=24 then .nx [s,b,.sh (.int ones),s3,.sh (.int e)]else .rt (.bl false):=by
 by_cases a:40<ones
 .rw[if_neg (by omega)];simp[wQ,a]
 .by_cases c:24<e
  .rw[if_neg (by simp_all)];simp[wQ,a,c]
  .rw[if_pos (by simp_all)];simp[wQ,a,c]
theorem QI(e:Int):∀s:List D,gT [.no,.sh (.int e)] (aD 0) gH (bC (ae (aa 0) (ae (ai bZ (aa 1) (aq (.int 1))) aj))) s= .ok (s.map λ y=>pr (y,e+1))
 |[]=>rfl
 |y::s=>by
  rw[gT];simp[QI e s,pr]
def turn{x0:D}{qs:List (D×Int)}{p:D×Int}{ones:Int}{s3 s4:Slot}(b:jP p.1)(n:jh qs+nd p.1<100000)(f:ones<=40):
  (kM p.1=true/\ones+1<=40/\p.2<=24/\oH [.sh x0,.oz (.lst ((qs++[p]).map pr)),.sh (.int ones),s3,s4]= .nx [.sh x0,.oz (.lst (qs.map pr)),.sh (.int (ones+1)),.sh p.1,.sh (.int p.2)])\/
  (∃w s,p.1= .tup [.str w,.tup s]/\bY p.1=((dj s).map λ q=>(q.1+1,q.2))/\p.2<=24/\oH [.sh x0,.oz (.lst ((qs++[p]).map pr)),.sh (.int ones),s3,s4]= .nx [.sh x0,.oz (.lst ((qs++s.map λ y=>(y,p.2+1)).map pr)),.sh (.int ones),.sh p.1,.sh (.int p.2)])\/
  (oH [.sh x0,.oz (.lst ((qs++[p]).map pr)),.sh (.int ones),s3,s4]= .rt (.bl false)/\(bY p.1=none\/24<p.2\/kM p.1=true/\40<ones+1)):=by
 obtain⟨x,e⟩:=p;have g:oH [.sh x0,.oz (.lst ((qs++[(x,e)]).map pr)),.sh (.int ones),s3,s4]=(si [.sh x0,.oz (.lst (qs.map pr)),.sh (.int ones),.sh x,.sh (.int e)]).sq wQ:=by
  simp[oH,yO,Gk,pr]
 have a:=aar b.2 b.1;have d:=aau b.1;dsimp only at b n a d ⊢;rw[g];cases c1:kM x with
 |true=>
  have c:cD x bV=true:=c1;have A:si [.sh x0,.oz (.lst (qs.map pr)),.sh (.int ones),.sh x,.sh (.int e)]= .nx [.sh x0,.oz (.lst (qs.map pr)),.sh (.int (ones+1)),.sh x,.sh (.int e)]:=by simp[si,a,c,oB,bw]
  rw[A,ck,QH];by_cases h:ones+1<=40/\e<=24
  .exact .inl ⟨rfl,h.1,h.2,if_pos h⟩
  .refine .inr (.inr ⟨if_neg h,?_⟩)
   by_cases i:40<ones+1
   .exact .inr (.inr ⟨rfl,i⟩)
   .exact .inr (.inl (by simp_all))
 |false=>
  have c:cD x bV=false:=c1;cases c2:kL x with
  |false=>
   refine .inr (.inr ⟨?_,.inl (zx c1 c2)⟩);simp[si,a,c,d,c2]
  |true=>
   obtain⟨w,s,rfl,k,j⟩:=zw c2;have m:=HI s;have o:nd (.tup [.str w,.tup s])=eS s+3:=QD;have hz:qs.length+s.length<=16777216:=by
    have r:=QF qs;lia
   have z:s.length<16777216:=by lia
   have l:vV (eA (ai aF (aa 3) (aq (.int 1)))) [none,some 4] (aD 0) gH (bC (ae (aa 0) (ae (ai bZ (aa 1) (aq (.int 1))) aj))) [.sh x0,.oz (.lst (qs.map pr)),.sh (.int ones),.sh (.tup [.str w,.tup s]),.sh (.int e)]= .ok (.lst (s.map λ y=>pr (y,e+1))):=by
    simp[vV,puE,NU,fJ,z,QI e s]
   have A:si [.sh x0,.oz (.lst (qs.map pr)),.sh (.int ones),.sh (.tup [.str w,.tup s]),.sh (.int e)]= .nx [.sh x0,.oz (.lst ((qs++s.map λ y=>(y,e+1)).map pr)),.sh (.int ones),.sh (.tup [.str w,.tup s]),.sh (.int e)]:=by
    simp[si,a,c,d,c2,yN,l,tY,hz]
   rw[A,ck,QH];by_cases h:ones<=40/\e<=24
   .exact .inr (.inl ⟨w,s,rfl,j,h.2,if_pos h⟩)
   .exact .inr (.inr ⟨if_neg h,.inr (.inl (by simp_all))⟩)
def wR(p:D×Int):gM [p]=(bY p.1).bind λ q=>if p.2+(q.1:Int)<=25 then some q.2 else none:=by
 simp only[gM];simp_all
def oJ(ps:List (D×Int))(ones:Int):Prop:=∃t:Nat,gM ps=some t/\ones+t<=40
theorem loop{x0:D}:∀(n:Nat) (ps:List (D×Int)) (ones:Int) (s3 s4:Slot),jh ps<n->jh ps<100000->(∀p∈ps,jP p.1)->ones<=40->
  (oJ ps ones/\∃i,mw sg oH n [.sh x0,.oz (.lst (ps.map pr)),.sh (.int ones),s3,s4]= .nx i)\/(¬oJ ps ones/\mw sg oH n [.sh x0,.oz (.lst (ps.map pr)),.sh (.int ones),s3,s4]= .rt (.bl false))
 |0,ps,ones,s3,s4,h,_,_,_=>absurd h (Aj _)
 |n+1,ps,ones,s3,s4,h,H,m,j=>by
  rcases List.eq_nil_or_concat ps with rfl|⟨qs,p,rfl⟩
  .refine .inl ⟨⟨0,rfl,by simpa using j⟩,[.sh x0,.oz (.lst []),.sh (.int ones),s3,s4],?_⟩
   rw[mw];simp[sg]
  .rw[List.concat_eq_append]at*
   have x:sg [.sh x0,.oz (.lst ((qs++[p]).map pr)),.sh (.int ones),s3,s4]= .ok true:=by simp[sg]
   have I:=HH [p] qs;have A:jh [p]=nd p.1:=by simp[jh]
   have J:=HF p.1;have o:=HG [p] qs;have l:∀q∈qs,jP q.1:=λ q l=>m q (fQ _ l)
   rw[mw,x];simp only[ez,if_true];rcases turn (x0:=x0) (qs:=qs) (s3:=s3) (s4:=s4) (m p (by simp)) (by simp_all) j with ⟨c1,B,C,e⟩|⟨w,s,ep,el,C,e⟩|⟨e,c⟩
   .rw[e]
    have r:=loop (x0:=x0) n qs (ones+1) (.sh p.1) (.sh (.int p.2)) (by lia) (by lia) l B;have f:gM [p]=some 1:=by
     rw[wR,wO c1,uB];simp only[qF];rw[if_pos (by lia)]
    have S:oJ (qs++[p]) ones↔oJ qs (ones+1):=by
     unfold oJ;rw[o,f];cases gM qs with
     |none=>simp
     |some a=>simp;lia
    rcases r with ⟨g,i,k⟩|⟨g,k⟩
    .exact .inl ⟨S.mpr g,i,k⟩
    .exact .inr ⟨λ z=>g (S.mp z),k⟩
   .rw[e]
    have E:nd p.1=eS s+3:=by rw[ep];exact QD
    have u:=HH (s.map λ y=>(y,p.2+1)) qs;rw[QE]at u;have v:∀q∈qs++s.map (λ y=>(y,p.2+1)),jP q.1:=by
     intro q d;rcases cu.mp d with z|z
     .exact l q z
     .obtain⟨y,F,rfl⟩:=cX.mp z
      have:=m p (by simp)
      rw[ep]at this;exact CR this y F
    have r:=loop (x0:=x0) n (qs++s.map λ y=>(y,p.2+1)) ones (.sh p.1) (.sh (.int p.2)) (by lia) (by lia) v j;have f:gM [p]=gM (s.map λ y=>(y,p.2+1)):=by
     rw[wR,QC (by lia),el];cases dj s with
     |none=>rfl
     |some q=>
      simp only[sL,qF];by_cases z:p.2+1+(q.1:Int)<=25
      .rw[if_pos z,if_pos (by simp;lia)]
      .rw[if_neg z,if_neg (by simp;lia)]
    have S:oJ (qs++[p]) ones↔oJ (qs++s.map λ y=>(y,p.2+1)) ones:=by
     unfold oJ;rw[o,f,<-HG]
    rcases r with ⟨g,i,k⟩|⟨g,k⟩
    .exact .inl ⟨S.mpr g,i,k⟩
    .exact .inr ⟨λ z=>g (S.mp z),k⟩
   .rw[e]
    refine .inr ⟨?_,rfl⟩;rintro⟨t,f,K⟩;rw[o]at f;rcases c with c|c|⟨c,L⟩
    .rw[wR,c]at f
     cases d:gM qs<;>simp[d]at f
    .have:gM [p]=none:=by
      rw[wR];cases G:bY p.1 with
      |none=>rfl
      |some q=>
       have:=CQ (a:=q.1) (b:=q.2) G
       simp only[qF];rw[if_neg (by lia)]
     rw[this]at f;cases d:gM qs<;>simp[d]at f
    .rw[wR,wO c,uB]at f
     cases d:gM qs with
     |none=>simp[d]at f
     |some a=>
      rw[d]at f;simp only[qF]at f;split at f
      .simp at f;lia
      .simp at f
def qk(x:D):Bool:=match bY x with
 |some q=>decide (q.1<=24)&&decide (q.2<=40)
 |none=>false
def QJ{x:D}(s:jP x)(n:nd x<90000):uu [x]= .ok (.bl (qk x)):=by
 have l:=loop (x0:=x) fuel [(x,1)] 0 .no .no (by simp[jh,fuel];lia) (by simp[jh];lia) (by simpa using s) (by simp);have h:oJ [(x,1)] 0↔qk x=true:=by
  unfold oJ qk;rw[wR];cases bY x with
  |none=>simp
  |some q=>
   simp only[qF];by_cases z:(1:Int)+(q.1:Int)<=25
   .rw[if_pos z];simp;lia
   .rw[if_neg z];simp;lia
 have d:ju=aM (BX 1 (dm (ae (bC (ae (aa 0) (ae (aq (.int 1)) aj))) aj))) (aM (dD 2 (aq (.int 0))) (aM (tT sg oH) (retS (aq (.bl true))))):=rfl;rcases l with ⟨g,a,e⟩|⟨g,e⟩
 .have b:tT sg oH [.sh x,.oz (.lst [.tup [x,.int 1]]),.sh (.int 0),.no,.no]= .nx a:=e
  simp[uu,d,dw,b,h.mp g]
 .have b:tT sg oH [.sh x,.oz (.lst [.tup [x,.int 1]]),.sh (.int 0),.no,.no]= .rt (.bl false):=e
  have:qk x=false:=by
   cases c:qk x with
   |false=>rfl
   |true=>exact absurd (h.mpr c) g
  simp[uu,d,dw,b,this]
def HJ(l:List D)(f:Nat):cutD l none (some (f:Int))=l.take f:=by
 unfold cutD;rw[HT.xn,HT.aCg];simp
def HK(l:List D)(f:Nat):cutD l (some (f:Int)) none=l.drop f:=by
 unfold cutD;rw[HT.xn,HT.aCg];by_cases h:f<=l.length
 .rw[qD h,iI (by simp)]
 .rw[J2 (Mc h),zZ (by exact Mc h:l.length<=f)]
  simp
def aav(l:List D)(f w:Nat)(h:f<=l.length):cutD l (some (f:Int)) (some ((f+w:Nat):Int))=(l.drop f).take w:=by
 unfold cutD;rw[HT.xn,HT.xn,qD h];by_cases a:f+w<=l.length
 .simp_all
 .rw[J2 (by lia),iI (by simp),iI (by simp;lia)]
mutual
def hR:D->Bool
 | .tup [.str _]=>true
 | .tup [.str _,.tup y]=>!y.isEmpty&&iU y
 |_=>false
def iU:List D->Bool
 |[]=>true
 |y::s=>hR y&&iU s
end
theorem zA:∀(l m:List D),iU (l++m)=(iU l&&iU m)
 |[],m=>by rfl
 |y::l,m=>by simp[iU,zA l m,Jk]
theorem zB:∀(l m:List D),eS (l++m)=eS l+eS m
 |[],m=>by simp[eS]
 |y::l,m=>by simp[eS,zB l m];exact EN
theorem zE:∀(l m:List D),cQ (l++m)=max (cQ l) (cQ m)
 |[],m=>by rfl
 |y::l,m=>by simp[cQ,zE l m]
def aaw{x:D}(h:hR x=true):(∃s,x= .tup [.str s])\/∃w y,x= .tup [.str w,.tup y]/\y≠[]/\iU y=true:=by
 cases x with
 |tup l=>
  match l with
  |[]=>simp[hR]at h
  |[a]=>
   cases a with
   |str s=>exact .inl ⟨s,rfl⟩
   |_=>simp[hR]at h
  |[a,b]=>
   cases a with
   |str w=>
    cases b with
    |tup y=>
     simp[hR]at h;exact .inr ⟨w,y,rfl,by simpa using h.1,h.2⟩
    |_=>simp[hR]at h
   |_=>simp[hR]at h
  |a::b::c::r=>exfalso;revert h;cases a<;>cases b<;>intro h<;>cases h
 |_=>simp[hR]at h
mutual
theorem HL:∀(x:D),hR x=true->imm x=true/\bu x=true
 | .tup [.str s],_=>⟨rfl,rfl⟩
 | .tup [.str w,.tup y],h=>by
  simp only[hR,cF]at h
  have:=CS y h.2
  exact⟨by simp[imm,er,this.1],by simp[bu,cA,this.2]⟩
 | .non,h=>by simp[hR]at h
 | .bl _,h=>by simp[hR]at h
 | .int _,h=>by simp[hR]at h
 | .str _,h=>by simp[hR]at h
 | .lst _,h=>by simp[hR]at h
 | .dct _ _,h=>by simp[hR]at h
 | .set _,h=>by simp[hR]at h
 | .scr _,h=>by simp[hR]at h
 | .tup [],h=>by simp[hR]at h
 | .tup [.non],h=>by cases h
 | .tup [.bl _],h=>by cases h
 | .tup [.int _],h=>by cases h
 | .tup [.tup _],h=>by cases h
 | .tup [.lst _],h=>by cases h
 | .tup [.dct _ _],h=>by cases h
 | .tup [.set _],h=>by cases h
 | .tup [.scr _],h=>by cases h
 | .tup (a::b::c::r),h=>by exfalso;revert h;cases a<;>cases b<;>intro h<;>cases h
 | .tup [a,b],h=>by
  rcases aaw h with ⟨s,e⟩|⟨w,y,e,f,d⟩
  .cases e
  .cases e
   have:=CS y d
   exact⟨by simp[imm,er,this.1],by simp[bu,cA,this.2]⟩
theorem CS:∀(l:List D),iU l=true->er l=true/\cA l=true
 |[],_=>⟨rfl,rfl⟩
 |y::s,h=>by
  simp only[iU,cF]at h;have a:=HL y h.1;have b:=CS s h.2;exact⟨by simp[er,a.1,b.1],by simp[cA,a.2,b.2]⟩
end
def HM(m:Nat):iU (dO m bV)=true/\eS (dO m bV)=2*m/\cQ (dO m bV)<=1:=by
 induction m with
 |zero=>exact⟨rfl,rfl,by simp[cQ]⟩
 |succ m i=>
  rw[xr];refine⟨by simp only[iU,i.1];rfl,?_,?_⟩
  .simp only[eS,i.2.1];simp[bV,nd,eS];lia
  .simp only[cQ];have:dR bV=1:=by rfl
   simp_all
def QK(m:Nat):(dO m [bV]).flatten=dO m bV:=by simp_all
def merge{L:List D}{f w:Nat}{s:Str}{i m:Nat}(hf:f<L.length)(d:1<=w)(h:iU L=true)(b:eS L<=2*m+3*i)(c:cQ L<=1+2*i):
  let a:=L.take f++[.tup [.str s,.tup ((L.drop f).take w)]]++L.drop (f+w)
  a≠[]/\iU a=true/\eS a<=2*m+3*(i+1)/\cQ a<=1+2*(i+1):=by
 have e:L=L.take f++((L.drop f).take w++L.drop (f+w)):=by
  rw[<-xw,gO,gO]
 have n:(L.drop f).take w≠[]:=by
  intro z
  have:=congrArg Ad z
  simp at this;omega
 rw[e,zA,zA]at h;rw[e,zB,zB]at b;rw[e,zE,zE]at c;simp only[cF]at h;refine⟨by simp,?_,?_,?_⟩
 .rw[zA,zA]
  simp[iU,hR,h,n]
 .rw[zB,zB]
  simp[eS,nd];omega
 .rw[zE,zE]
  simp[cQ,dR];omega
def HN{l a:Int}{i:Nat}{d:D}(h:(eB l a)[i]? =some d):d= .int (l+i)/\l+i<a:=by
 unfold eB at h;rw[fM]at h;by_cases b:i<(a-l).toNat
 .rw[Dq b]at h
  grind
 simp_all
def uE(L:List D)(m:Nat):Prop:=∃d,dj L=some (d,m)/\d+L.length<=m+1
theorem zF:∀(a b:List D),dj (a++b)=(dj a).bind λ p=>(dj b).map λ q=>(max p.1 q.1,p.2+q.2)
 |[],b=>by cases h:dj b<;>simp[dj,h]
 |x::a,b=>by
  rw[qA];simp only[dj,zF a b];cases bY x with
  |none=>rfl
  |some p=>
   cases dj a with
   |none=>rfl
   |some q=>
    cases dj b with
    |none=>rfl
    |some r=>simp[Nat.max_assoc,qE]
theorem QL:∀m:Nat,uE (dO m bV) m
 |0=>⟨0,rfl,by simp⟩
 |m+1=>by
  obtain⟨d,h,a⟩:=QL m;rw[Jy]at a;refine⟨max 1 d,?_,by grind⟩;rw[xr];simp[dj,uB,h,Nat.add_comm]
def pv_first{x:D}{r:List D}{m:Nat}(h:uE (x::r) m):∃d o,bY x=some (d,o)/\d<=m/\o<=m:=by
 obtain⟨d,a,b⟩:=h;simp only[dj]at a;cases c:bY x with
 |none=>simp_all
 |some p=>
  cases e:dj r<;>grind
def aax{L:List D}{f w m:Nat}{s:Str}(i:(s=="beside"||s=="across")=true)(j:2<=((L.drop f).take w).length)(h:uE L m):uE (L.take f++[.tup [.str s,.tup ((L.drop f).take w)]]++L.drop (f+w)) m:=by
 have e:L=L.take f++((L.drop f).take w++L.drop (f+w)):=by
  rw[<-xw,gO,gO]
 obtain⟨d,a,o⟩:=h;have l:=congrArg Ad e;rw[cy,cy]at l;rw[e,zF,zF]at a;generalize L.take f=P at*;generalize (L.drop f).take w=X at*;generalize L.drop (f+w)=Z at*;cases b:dj P with
 |none=>rw[b]at a;cases a
 |some p=>
  cases c:dj X with
  |none=>rw[b,c]at a;cases a
  |some x=>
   cases g:dj Z with
   |none=>rw[b,c,g]at a;cases a
   |some z=>
    rw[b,c,g]at a;simp at a;have n:bY (.tup [.str s,.tup X])=some (x.1+1,x.2):=by
     have k:lI (.str s)=true:=i;simp[bY,c,k,j]
    refine⟨max p.1 (max (x.1+1) z.1),?_,by rw[cy,cy,z7];omega⟩;rw[fL,zF,zF,b,g];simp only[dj,n];simp;omega
def zG:af->ax:=(de (bD (ai kD (aN cw (ae (eu 3) aj)) (aq (.int 1))))
    (aM (dD 5 (ai bZ (aq (.int 2)) (bt iT (ae (aa 0) (ae (ai bZ (aa 1) (ai fH (aq (.int 3)) (aa 4))) (ae (aq (.int 3)) aj))))))
    (aM (dD 6 (bt iT (ae (aa 0) (ae (ai bZ (ai bZ (aa 1) (ai fH (aq (.int 3)) (aa 4))) (aq (.int 1))) (ae (aN (jf λ i j=>if j>i then j else i) (ae (aq (.int 1)) (ae (ai bZ (ai yM (aN cw (ae (eu 3) aj)) (aa 5)) (aq (.int 1))) aj))) aj)))))
    (aM (ik 7 (ai aF (dm (ae (aq (.str "beside")) (ae (aq (.str "across")) aj))) (bt iT (ae (aa 0) (ae (ai bZ (ai bZ (aa 1) (ai fH (aq (.int 3)) (aa 4))) (aq (.int 2))) (ae (aq (.int 2)) aj))))))
    (ik 3 (ai bZ (ai bZ (fP (eu 3) hP (fx (aa 6))) (dm (ae (bC (ae (eu 7) (ae (aN nu (ae (fP (eu 3) (fx (aa 6)) (fx (ai bZ (aa 6) (aa 5)))) aj)) aj))) aj))) (fP (eu 3) (fx (ai bZ (aa 6) (aa 5))) hP))))))
    ax.nx)
def aay{c a:Int}{L:List D}{i m:Nat}{s5 s6 s7:Slot}{mm:D}(ha:0<=a)(E:a<100000)(o:i<24)(p:m<=24)(t:L≠[])(A:iU L=true)(j:eS L<=2*m+3*i)(F:cQ L<=1+2*i)(P:uE L m):
  ∃d t5 t6 G,zG [.sh (.int c),.sh (.int a),.sh mm,.nw (.lst L),.sh (.int i),s5,s6,s7]= .nx [.sh (.int c),.sh (.int a),.sh mm,.nw (.lst d),.sh (.int i),t5,t6,G]/\d≠[]/\iU d=true/\eS d<=2*m+3*(i+1)/\cQ d<=1+2*(i+1)/\uE d m:=by
 have K:=HI L;by_cases Q:1<L.length
 .have h:(1:Int)<L.length:=by lia
  have u:fH (.int 3) (.int (i:Int))= .ok (.int (3*(i:Int))):=CG (by decide) (by decide);obtain⟨r,H,R⟩:=uA (c:=c) (k:=a+3*(i:Int)) (b:=3) (by lia) (by lia) (by simp) (by simp);let B:Int:=if (L.length:Int)-(2+(r:Int))+1>1 then(L.length:Int)-(2+(r:Int))+1 else 1
  have n:0<B/\B<L.length:=by
   by_cases z:(L.length:Int)-(2+(r:Int))+1>1
   .have:B=(L.length:Int)-(2+(r:Int))+1:=if_pos z
    omega
   .have:B=1:=if_neg z
    simp_all
  obtain⟨f,I,hf⟩:=uA (c:=c) (k:=a+3*(i:Int)+1) (b:=B) (by lia) (by lia) n.1 (SQ o p j K n);obtain⟨q,J,M⟩:=uA (c:=c) (k:=a+3*(i:Int)+2) (b:=2) (by lia) (by lia) (by simp) (by simp);obtain⟨wd,N,C,_⟩:=Hh (l:=[D.str "beside",D.str "across"]) (i:=(q:Int)) (by omega) (by simpa using M);obtain⟨s,rfl,O⟩:∃s:Str,wd= .str s/\(s=="beside"||s=="across")=true:=by
   simp at C;rcases C with rfl|rfl
   .exact⟨_,rfl,rfl⟩
   .exact⟨_,rfl,rfl⟩
  have v:2<=L.length-f:=by
   by_cases z:(L.length:Int)-(2+(r:Int))+1>1
   .have:B=(L.length:Int)-(2+(r:Int))+1:=if_pos z
    exact LF n hf
   .have:B=1:=if_neg z
    exact LF n hf
  have e:f<L.length:=by omega
  have w:cutD L none (some (f:Int))=L.take f:=HJ L f;have x:cutD L (some (f:Int)) (some ((f:Int)+(2+(r:Int))))=(L.drop f).take (2+r):=by
   have:=aav L f (2+r) (EO e)
   rw[<-this];congr 2
  have y:cutD L (some ((f:Int)+(2+(r:Int)))) none=L.drop (f+(2+r)):=by
   have:=HK L (f+(2+r))
   rw[<-this];congr 2
  have mg:=merge (s:=s) e (by lia:1<=2+r) A j F;have S:min f L.length+1<=16777216:=SD o p j K;have T:min f L.length+(1+(L.length-(f+(2+r))))<=16777216:=Sz o p j K;refine⟨_,.sh (.int (2+(r:Int))),.sh (.int f),.nw (.str s),?_,mg.1,mg.2.1,mg.2.2.1,mg.2.2.2,aax O (by rw[eY,iJ];exact S2 v) P⟩;have g:iT [.int c,.int (a+3*(i:Int)+1),.int (if (L.length:Int)-(2+(r:Int))+1>1 then(L.length:Int)-(2+(r:Int))+1 else 1)]= .ok (.int f):=I;simp only[gt_iff_lt]at g;simp[zG,h,u,H,g,J,N,w,x,y];rw[if_pos (by simp_all)];simp;rw[if_pos (by lia)];simp
 .refine⟨L,s5,s6,s7,?_,t,A,by lia,by lia,P⟩
  have h:¬(1:Int)<L.length:=by lia
  simp[zG,h]
def aaz(m:Nat)(h:m<=24):fH (.lst [.tup [.str "one"]]) (.int (m:Int))= .ok (.lst (dO m bV)):=by
 unfold fH;cb_eq;rw[if_pos (by simp[er,imm];lia),oR]
 have:=QK m
 unfold bV at this ⊢;rw[this]
def QM{c a:Int}{m:Nat}(ha:0<=a)(k:a<100000)(s:1<=m)(n:m<=24):∃p,zt [.int c,.int a,.int m]= .ok p/\hR p=true/\nd p<=200/\dR p<=49/\∃d o,bY p=some (d,o)/\d<=m/\o<=m:=by
 have v:=ui (j:=(m:Int)) (by simp) (by omega);have q:=HM m;obtain⟨w,e,L,t4,t5,t6,t,rfl,h,g,b,f,P⟩:=CH (a:=aD 4) (u:=zG) (ds:=eB 0 (m:Int))
  (λ i ρ=>∃L t4 t5 t6 t,ρ=[.sh (.int c),.sh (.int a),.sh (.int m),.nw (.lst L),t4,t5,t6,t]/\L≠[]/\iU L=true/\eS L<=2*m+3*i/\cQ L<=1+2*i/\uE L m)
  (by
   rintro i d ρ l ⟨L,t4,t5,t6,t,rfl,h,g,b,f,P⟩;obtain⟨rfl,y⟩:=HN l;obtain⟨A,B,C,D,e,z⟩:=aay (c:=c) (i:=i) (s5:=t5) (s6:=t6) (s7:=t) (mm:=.int m) ha k (by omega) n h g b f P;refine⟨_,?_,A,.sh (.int i),B,C,D,rfl,z⟩;simp[e])
  (ρ:=[.sh (.int c),.sh (.int a),.sh (.int m),.nw (.lst (dO m bV)),.no,.no,.no,.no])
  ⟨_,_,_,_,_,rfl,by simp;omega,q.1,by omega,q.2.2,QL m⟩
 have K:(eB 0 (m:Int)).length=m:=by simp[eB]
 rw[K]at b f;have l:jE=aM (ik 3 (ai fH (dm (ae (bC (ae (aq (.str "one")) aj)) aj)) (bO (aa 2)))) (aM (gh (gs hI (ae (aa 2) aj)) (aD 4) zG) (retS (ai aF (eu 3) (aq (.int 0))))):=rfl;cases L with
 |nil=>exact absurd rfl h
 |cons x r=>
  simp only[iU,cF]at g;simp only[eS]at b;simp only[cQ]at f;refine⟨x,?_,g.1,by omega,by omega,pv_first P⟩;simp[zt,l,dw,aaz m n,v,e]
mutual
def mF:D->Bool
 | .tup l=>kN l
 | .lst l=>kN l
 | .set _=>false
 | .scr _=>false
 | .fn _=>false
 | .itm _ _=>false
 | .itx _ _=>false
 |_=>true
def kN:List D->Bool
 |[]=>true
 |d::r=>mF d&&kN r
end
def CT(h:mF d=true):knd d=true:=by cases d<;>first|rfl|assumption
theorem QN:∀{l:List D} {d:D},kN l=true->d∈l->mF d=true
 |x::r,d,h,m=>by
  simp only[kN,cF]at h;rcases bI.mp m with rfl|m
  .exact h.1
  .exact QN h.2 m
theorem HP:∀{l:List D},(∀d∈l,mF d=true)->kN l=true
 |[],_=>rfl
 |x::r,h=>by
  simp only[kN,cF];exact⟨h x (bW ..),HP λ d a=>h d (cT _ a)⟩
def wholeB:D->Bool
 | .int _=>true
 |_=>false
def jQ(m:Int):D->Bool
 | .int i=>decide (0<=i)&&decide (i<m)
 |_=>false
def aaA(m:Int):D->Bool
 | .tup [.int a,.int b]=>decide (0<=a)&&decide (a<m)&&decide (0<=b)&&decide (b<m)&& !(a==b)
 |_=>false
def QO(h:jQ m d=true):∃i:Int,d= .int i/\0<=i/\i<m:=by
 cases d with
 |int i=>simp[jQ]at h;exact⟨i,rfl,h.1,h.2⟩
 |_=>simp[jQ]at h
def HQ(h:lH d=true):∃l,d= .tup l:=by cases d<;>first|exact⟨_,rfl⟩|(cases h)
def bh(p:Int×Int):D:=.tup [.int p.1,.int p.2]
def CU(p q:Int×Int):Bool:=HT.lexLt [p.1,p.2] [q.1,q.2]
def sj:bK->Bool
 |[]=>true
 |[_]=>true
 |p::q::r=>CU p q&&sj (q::r)
def aaB:(eB lo hi).length=(hi-lo).toNat:=by unfold eB;simp
section
variable{α:Type}{lt:α->α->Bool}
def oK(lt:α->α->Bool):List α->Bool
 |[]=>true
 |[_]=>true
 |p::q::r=>lt p q&&oK lt (q::r)
theorem CV:∀{ps:List α},oK lt ps=true↔∀(i:Nat) (p q:α),ps[i]? =some p->ps[i+1]? =some q->lt p q=true
 |[]=>by simp[oK]
 |[x]=>by
  simp only[oK,true_iff];intro i p q _ b;simp at b
 |x::y::r=>by
  have c:=CV (ps:=y::r);unfold oK;rw[cF,c];constructor
  .rintro⟨d,b⟩ i p q e a
   cases i with
   |zero=>simp at e a;subst e a;exact d
   |succ i=>exact b i p q (by simpa using e) (by simpa using a)
  .intro h
   exact⟨h 0 x y rfl rfl,λ i p q e a=>h (i+1) p q (by simpa using e) (by simpa using a)⟩
end
theorem QP:∀ps:bK,sj ps=oK CU ps
 |[]=>rfl
 |[_]=>rfl
 |p::q::r=>by unfold sj oK;rw[QP _]
def HR(a b:Int):Bool:=decide (a<b)
def HS:sj ps=true↔∀(i:Nat) (p q:Int×Int),ps[i]? =some p->ps[i+1]? =some q->CU p q=true:=by rw[QP];exact CV
def aaC:D->Int×Int
 | .tup [.int a,.int b]=>(a,b)
 |_=>(0,0)
def acH(m:Int):D->Bool
 | .tup t=>t.all (aaA m)&&sj (t.map aaC)
 |_=>false
structure oM(n:Int)(ps:bK):Prop where
 n0:0<=n
 n1:n<=60
 len:ps.length<=3600
 pr:∀p∈ps,0<=p.1/\p.1<n/\0<=p.2/\p.2<n/\p.1≠p.2
 ris:sj ps=true
def aL(n:Int)(ps:bK):D:=.tup [.int n,.tup (ps.map bh)]
theorem aaD:∀ps:bK,kN (ps.map bh)=true
 |[]=>rfl
 |p::ps=>by simp only[dH,kN,aaD ps];rfl
theorem CW:∀ns:List Int,cQ (ns.map .int)=0/\cA (ns.map .int)=true
 |[]=>⟨rfl,rfl⟩
 |n::ns=>by
  obtain⟨h,a⟩:=CW ns;simp[cQ,dR,cA,bu,h,a]
theorem QQ:∀ps:bK,cQ (ps.map bh)<=1/\cA (ps.map bh)=true
 |[]=>⟨by simp[cQ],rfl⟩
 |p::ps=>by
  obtain⟨h,a⟩:=QQ ps;simp[cQ,dR,cA,bu,a,bh,h]
def CY(n:Bool)(y:Int)(ns:List Int):gI n (.int y) (.lst (ns.map .int))= .ok (.bl (if n then !decide (y∈ns)else decide (y∈ns))):=by
 obtain⟨h,a⟩:=CW ns;have e:ke (.int y) (ns.map .int)=decide (y∈ns):=by
  unfold ke;rw[uP];simp[cD]
 unfold gI;cb_eq;rw[h,a,e];rfl
def aaE(n:Bool)(q:Int×Int)(ps:bK):gI n (bh q) (.tup (ps.map bh))= .ok (.bl (if n then !decide (q∈ps)else decide (q∈ps))):=by
 obtain⟨a,b⟩:=QQ ps;have e:ke (bh q) (ps.map bh)=decide (q∈ps):=by
  unfold ke;rw[uP];simp only[List.any_map,Dv,Jq,decide_eq_true_eq];constructor
  .rintro⟨p,c,h⟩
   simp[bh,cD,iF]at h
   have:p=q:=sM h.1 h.2
   simp_all
  .intro h
   exact⟨q,h,by simp[bh,cD,iF]⟩
 unfold gI;cb_eq;have d:decide (cQ (ps.map bh)<=60)=true:=by simp;lia
 have f:bu (bh q)=true:=rfl;simp_all
theorem QR:∀(ds:List D),(∀d∈ds,∃a,fg d ρ= .ok a/\fe a= .ok (g d))->gT ρ fg gH fe ds= .ok (ds.map g)
 |[],_=>rfl
 |d::ds,h=>by
  obtain⟨a,c,f⟩:=h d bW;have i:=QR ds λ e b=>h e (cT _ b)
  unfold gT;simp_all
def aaF(f:α->Bool)(l:List α):boolsOf (l.map λ x=>D.bl (f x))=some (l.map f):=by
 have:=N7 (l.map f)
 rwa [fW]at this
def aaG(f:α->Bool)(l:List α):pS (λ bs=>bs.all id) [.lst (l.map λ x=>D.bl (f x))]= .ok (.bl (l.all f)):=by
 unfold pS;cb_eq;rw[aaF];simp_all
theorem wU:∀(l:List α),(∀x∈l,∃a,fg (f x) ρ= .ok a/\ft a= .ok (t x)/\fe a= .ok (g x))->gT ρ fg ft fe (l.map f)= .ok ((l.filter t).map g)
 |[],_=>rfl
 |x::l,h=>by
  obtain⟨a,e,b,c⟩:=h x bW;have i:=wU l λ y d=>h y (cT _ d)
  rw[dH];unfold gT;rw[e,aU,b,c,i,List.filter_cons];cases t x<;>rfl
def eH(a b:Int):Int:=if b<a then b else a
def jR(a b:Int):Int:=if b>a then b else a
def aaH(a b:Int):(eH a b=a/\jR a b=b)\/(eH a b=b/\jR a b=a):=by
 by_cases h:b<a
 .rw[eH,jR,if_pos h,if_neg (Bj h)]
  simp_all
 .rw[eH,jR,if_neg h]
  by_cases c:b>a
  .rw[if_pos c];simp_all
  .rw[if_neg c];exact .inl ⟨rfl,by lia⟩
def intOf:D->Int
 | .int i=>i
 |_=>0
def oN(h:fi (shE ρ)= .ok ds)(b:ds.length<16777216)(a:gT (fJ js (shE ρ)) fg ft fe ds= .ok out):e8 fi js fg ft fe ρ= .ok (.lst out):=by
 unfold e8;rw[h,aU,if_pos (by assumption),a]
def wV(l:List α)(h:∀x∈l,∃a,fg (f x) ρ= .ok a/\fe a= .ok (g x)):gT ρ fg gH fe (l.map f)= .ok (l.map g):=by
 have:=wU (ρ:=ρ) (fg:=fg) (ft:=gH) (fe:=fe) (f:=f) (g:=g) (t:=λ _=>true) l λ x b=>by simp_all
 rwa [JC.mpr λ _ _=>rfl]at this
def aaI{α:Type}{f:α->Bool}{l:List α}(h:fe ρ= .ok (.lst (l.map λ x=>.bl (f x)))):aN (pS λ bs=>bs.all id) (ae fe aj) ρ= .ok (.bl (l.all f)):=by
 rw[jO,eC,h,aU,jg,aU,aU,aaG,se]
def aaJ(n:Bool)(y:Int)(ns:List Int):gI n (.int y) (.tup (ns.map .int))= .ok (.bl (if n then !decide (y∈ns)else decide (y∈ns))):=CY _ y ns
def cR(ps:bK):bK:=ps.flatMap λ p=>[p,(p.2,p.1)]
def ql:(a,b)∈cR ps↔(a,b)∈ps\/(b,a)∈ps:=by
 unfold cR;constructor<;>grind
structure Near(n:Int)(es:bK)(ll:List (List D)):Prop where
 len:ll.length=n.toNat
 item:∀i:Int,0<=i->i<n->∃ws:List Int,iE (ll.map .lst) i= .ok (.lst (ws.map .int))/\∀b,b∈ws↔(i,b)∈es
def fy(ps:bK):List Int->Bool
 |a::b::r=>decide ((a,b)∈ps)&&fy ps (b::r)
 |_=>true
theorem QS:∀{ws:List Int},fy ps ws=true↔∀(i:Nat) (a b:Int),ws[i]? =some a->ws[i+1]? =some b->(a,b)∈ps
 |[]=>by simp[fy]
 |[x]=>by
  simp only[fy,true_iff];intro i p q _ c;simp at c
 |x::y::r=>by
  have f:=QS (ps:=ps) (ws:=y::r);unfold fy;rw[cF,f,decide_eq_true_eq];constructor
  .rintro⟨g,c⟩ i p q e d
   cases i with
   |zero=>simp_all
   |succ i=>exact c i p q (by simpa using e) (by simpa using d)
  .intro h
   exact⟨h 0 x y rfl rfl,λ i p q e d=>h (i+1) p q (by simpa using e) (by simpa using d)⟩
def ji(n:Int)(ps:bK):D->Bool
 | .tup t=>!t.isEmpty&&t.all (jQ n)&&decide ((df (t.map intOf)).length=t.length)&&fy ps (t.map intOf)
 |_=>false
theorem HU:∀{s:List D},s.all (jQ n)=true->(s.map intOf).map D.int=s/\∀x∈s.map intOf,0<=x/\x<n
 |[],_=>⟨rfl,λ x a=>by simp at a⟩
 |t::s,h=>by
  rw[Ac,cF]at h;obtain⟨i,rfl,b,c⟩:=QO h.1;obtain⟨e,q⟩:=HU h.2;refine⟨by simp only[dH];rw[e];rfl,λ x a=>?_⟩;rw[dH]at a;rcases bI.mp a with z|z
  .subst z;exact⟨b,c⟩
  .exact q x z
@[simp] def aaK(h:ns.length<4000):t8 [.tup (ns.map .int)]= .ok (.set (df ns)):=by
 unfold t8;cb_eq;rw[pL];simp_all
@[simp] def lenX_set:t9 [.set l]= .ok (.int l.length):=bp rfl
def CZ:D->Bool
 | .tup l=>decide (l.length<4000)
 |_=>true
theorem HV{α:Type}{f:α->D}{a:D->af->ag af}{u:af->ax}{r:D}{I:af->Prop}{P:α->Bool}:∀(xs:List α) (ρ:af),I ρ->
  (∀x∈xs,∀ρ,I ρ->(P x=true/\∃b,mz (a (f x) ρ) u= .nx b/\I b)\/(P x=false/\mz (a (f x) ρ) u= .rt r))->
  (xs.all P=true/\∃b,forL a u (xs.map f) ρ= .nx b/\I b)\/(xs.all P=false/\forL a u (xs.map f) ρ= .rt r)
 |[],ρ,h,_=>.inl ⟨rfl,ρ,rfl,h⟩
 |x::xs,ρ,h,H=>by
  rw[dH,qb,Ac];have t:∀(c:ag af) (k:af->ax),mz c (λ d=>(u d).tn k)=(mz c u).tn k:=λ c k=>by cases c<;>rfl
  rw[t];rcases H x bW ρ h with ⟨p,b,e,g⟩|⟨p,e⟩
  .rw[e,ug,p,Di]
   exact HV xs b g λ y i=>H y (cT _ i)
  .rw[e,aag,p]
   exact .inr ⟨rfl,rfl⟩
def aaL{a:D->af->ag af}{u:af->ax}{r:D}{I:af->Prop}{P:D->Bool}(xs:List D)(ρ:af)(h:I ρ)
  (H:∀x∈xs,∀ρ,I ρ->(P x=true/\∃b,mz (a x ρ) u= .nx b/\I b)\/(P x=false/\mz (a x ρ) u= .rt r)):
  (xs.all P=true/\∃b,forL a u xs ρ= .nx b/\I b)\/(xs.all P=false/\forL a u xs ρ= .rt r):=by
 have:=HV (f:=id) xs ρ h H
 rwa [xA]at this
def aaM{l:List D}{k:Nat}(h:k<=l.length):cutD l (some (k:Int)) none=l.drop k:=by
 have e:HT.sIx l.length 0 (some (k))=k:=by simp[HT.sIx];lia
 have a:HT.sIx l.length _ none=l.length:=rfl;unfold cutD;rw[e,iI (by simp_all)]
theorem HW:∀ws:List Int,kN (ws.map .int)=true
 |[]=>rfl
 |_::ws=>by simp only[dH,kN,HW ws];rfl
theorem sk:∀ws:List Int,er (ws.map .int)=true
 |[]=>rfl
 |_::ws=>by simp only[dH,er,sk ws];rfl
theorem HX:∀{l:List D},(∀d∈l,imm d=true)->er l=true
 |[],_=>rfl
 |x::r,h=>by
  simp only[er,cF];exact⟨h x (bW ..),HX λ d a=>h d (cT _ a)⟩
theorem QT:∀{l:List D},(∀d∈l,dR d<=k)->cQ l<=k
 |[],_=>dn _
 |x::r,h=>Nat.max_le.mpr ⟨h x bW,QT λ d a=>h d (cT _ a)⟩
theorem QU:∀{l:List D},(∀d∈l,bu d=true)->cA l=true
 |[],_=>rfl
 |x::r,h=>by
  unfold cA;rw[h x bW,QU λ d a=>h d (cT _ a)];rfl
structure jS(k:Nat)(d:D):Prop where
 p:mF d=true
 e:dR d<=k
 n:bu d=true
 i:imm d=true
theorem jS.tup(h:∀d∈l,jS k d):jS (k+1) (.tup l):=⟨HP λ d a=>(h d a).p,Nat.succ_le_succ (QT λ d a=>(h d a).e),QU λ d a=>(h d a).n,HX λ d a=>(h d a).i⟩
theorem jS.int{k:Nat}{i:Int}:jS k (.int i):=⟨rfl,dn _,rfl,rfl⟩
def jS.ints{k:Nat}{ws:List Int}:∀d∈ws.map D.int,jS k d:=λ d h=>by obtain⟨w,_,rfl⟩:=cX.mp h;exact .int
def jS.g(h:jS k d):mj d= .ok d:=CF h.i
structure QV(d:D):Prop where
 p:mF d=true
 s:CZ d=true
 e:dR d<=60
 n:bu d=true
def jS.fn(h:∀d∈l,jS k d)(a:k<60)(b:l.length<4000):QV (.tup l):=let q:=jS.tup h;⟨q.p,by simpa[CZ]using b,eJ q.e a,q.n⟩
def eI(n:Int):List Int:=(dP n.toNat).map λ(k:Nat)=>(k:Int)
def C0(n:Int):eB 0 n=(eI n).map .int:=by
 unfold eB eI;simp
def QW(n:Int):(eI n).Nodup:=by
 unfold eI;rw[List.nodup_iff_pairwise_ne,uX];exact z9.imp λ h e=>h (by lia)
def oO:x∈eI n↔0<=x/\x<n:=by
 unfold eI;rw[cX];constructor
 .rintro⟨k,a,rfl⟩
  simp_all
 .rintro⟨h,b⟩
  exact⟨x.toNat,kl.mpr (by lia),L0 h⟩
def uF(n:Int):(eI n).length=n.toNat:=by unfold eI;simp
theorem QX:∀{ws:List Int} (h:ws≠[]),fy es ws=true->(ws.getLast h,v)∈es->fy es (ws++[v])=true
 |[a],_,_,c=>by simpa[fy]using c
 |a::b::r,_,d,c=>by
  simp only[fy,cF,decide_eq_true_eq]at d
  have:=QX _ d.2 (by assumption)
  rw[qA,qA,fy,cF,decide_eq_true_eq];simp_all
def rowOf:D->List Int
 | .tup t=>t.map intOf
 |_=>[]
def C1(n:Int)(l:List Int):Bool:=cD (.lst ((sortI l).map .int)) (.lst (eB 0 n))
def QY(h:l.length<64):lB [.lst (l.map .int)]= .ok (.lst ((sortI l).map .int)):=by
 cases l with
 |nil=>rfl
 |cons i r=>
  have e:pY ((i::r).map D.int)=none:=rfl;unfold lB;cb_eq;rw[e];rw[pL];simp_all
def aaN:cq false (.lst ((sortI l).map .int)) (.lst (eB 0 n))= .ok (.bl (C1 n l)):=by
 obtain⟨h,a⟩:=CW (sortI l);have b:cA (eB 0 n)=true:=by rw[PQ];exact(CW _).2
 unfold cq C1;simp[bu,dR,h,a,b]
def QZ(hf:f ρ= .ok (.int n))(h:0<=n)(a:n<=60):wA f ρ= .ok (.lst (eB 0 n)):=by
 unfold wA;rw[hf,aU];unfold G1;simp;lia
theorem Q0:∀(a b:List Int),iF (a.map .int) (b.map .int)=decide (a=b)
 |[],[]=>rfl
 |[],y::b=>by rfl
 |x::a,[]=>by rfl
 |x::a,y::b=>by
  have:=Q0 a b
  simp only[dH,iF,cD,this,List.cons.injEq]
  grind
def aaO{B:D->Bool}(a:∀d,B d=true->tupI (rowOf d)=d){r:List D}(h:r.all B=true):(r.map rowOf).map tupI=r:=by
 rw[fW]
 conv=>rhs;rw[<-xA r]
 refine sC λ d b=>a d (kk.mp h d b)
def aaP(h:ji n es (.tup ts)=true):tupI (rowOf (.tup ts))= .tup ts:=by
 simp only[ji,cF]at h;show D.tup ((ts.map _).map _)=D.tup ts;rw[(HU h.1.1.2).1]
def aaQ(h:∀r∈f,r≠[])(l:f.length<64):lB [.lst (f.map tupI)]= .ok (.lst ((pX f).map tupI)):=by
 unfold lB;cb_eq;rw[GV h];simp_all
def Q1{i j:Nat}{l m:List Int}(hf:f (shE ρ)= .ok (l.map .int))(h:fJ js (shE ρ)=[.no,.sh (.tup (m.map .int))]\/fJ js (shE ρ)=[.no,.sh (.lst (m.map .int))])(c:l.length<=1000):
  e8 f js (aD 0) (bD (ai (gI true) (aa 0) (aa 1))) (bO (aa 0)) ρ= .ok (.lst ((l.filter λ x=>!decide (x∈m)).map .int)):=by
 refine oN hf (by rw[bb];lia) ?_;rcases h with h|h<;>rw[h]
 .refine wU (fg:=aD 0) (f:=D.int) (g:=D.int) l λ x _=>⟨[.sh (.int x),.sh (.tup (m.map .int))],rfl,?_,by simp⟩
  have a:aa 1 [.sh (.int x),.sh (.tup (m.map .int))]= .ok (.tup (m.map .int)):=rfl;have b:aa 0 [.sh (.int x),.sh (.tup (m.map .int))]= .ok (.int x):=rfl;rw[uf,kJ,b,aU,a,aU,aaJ,se,aU];rfl
 .refine wU (fg:=aD 0) (f:=D.int) (g:=D.int) l λ x _=>⟨[.sh (.int x),.sh _],rfl,?_,by simp⟩
  have a:aa 1 [.sh (.int x),.sh _]= .ok (.lst (m.map .int)):=rfl;have b:aa 0 [.sh (.int x),.sh (.lst (m.map .int))]= .ok (.int x):=rfl;rw[uf,kJ,b,aU,a,aU,CY,se,aU];rfl
def wW:D->Nat
 | .tup l=>l.length
 |_=>0
def aaR(d:D)(h:ji n es d=true):tupI (rowOf d)=d:=by
 cases d with
 |tup t=>exact aaP h
 |_=>cases h
theorem Q3:∀s:List D,((s.map rowOf).flatten).length<=(s.map wW).sum
 |[]=>bc _
 |r::s=>by
  have:=Q3 s
  have e:(rowOf r).length<=wW r:=by cases r<;>simp[rowOf,wW]
  simp only[dH,iV,cy,JV];lia
def wX(n:Int)(es:bK):D->Bool
 | .tup r=>r.all (ji n es)&&C1 n ((r.map rowOf).flatten)
 |_=>false
structure Q4(d:D):Prop where
 p:mF d=true
 r:∀l,d= .tup l->∀e∈l,QV e
 z:∀l,d= .tup l->(l.map wW).sum<64/\l.length<4000
inductive eT(es:bK)(a:Int):Int->Prop where
 |refl:eT es a a
 |step {b c:Int} (h:eT es a b) (e:(b,c)∈es):eT es a c
def eT.trans(h:eT es a b)(k:eT es b c):eT es a c:=by
 induction k with
 |refl=>simp_all
 |step _ e i=>exact i.step e
def Q5(es:bK):Prop:=∀a b,(a,b)∈es->(b,a)∈es
def HY(ps:bK):Q5 (cR ps):=λ a b h=>ql.mpr (ql.mp h).symm
def eT.symm(S:Q5 es)(h:eT es a b):eT es b a:=by
 induction h with
 |refl=>exact .refl
 |step _ e i=>exact eT.trans (.step .refl (S _ _ e)) i
def eT.inn(i:∀x y,(x,y)∈es->0<=y/\y<n)(h:eT es a b)(ha:0<=a/\a<n):0<=b/\b<n:=by
 induction h with
 |refl=>assumption
 |step _ e _=>exact i _ _ e
theorem Q6:∀{l m:List Int},fy es (l++m)=true->fy es l=true
 |[],_,_=>rfl
 |[a],_,_=>rfl
 |a::b::r,m,h=>by
  rw[qA,qA,fy,cF]at h;rw[fy,cF];exact⟨h.1,Q6 (by simpa using h.2)⟩
structure Q7(es:bK)(a b:Int)(l:List Int):Prop where
 hd:l.head?=some a
 lt:l.getLast?=some b
 al:fy es l=true
def eT.path(h:eT es a b):∃l,Q7 es a b l/\l.Nodup:=by
 induction h with
 |refl=>exact⟨[a],⟨rfl,rfl,rfl⟩,by simp⟩
 |step _ e i=>
  rename_i b c _;obtain⟨l,P,nd⟩:=i;have n:l≠[]:=by intro z;have:=P.hd;rw[z]at this;cases this
  by_cases d:c∈l
  .obtain⟨l1,l2,rfl⟩:=List.append_of_mem d
   refine⟨l1++[c],⟨?_,by simp,Q6 (m:=l2) (by rw[fL];exact P.al)⟩,?_⟩
   .have:=P.hd
    simp_all
   .have f:l1++c::l2=(l1++[c])++l2:=by simp
    rw[f]at nd;exact(mG.mp nd).1
  .refine⟨l++[c],⟨?_,by simp,?_⟩,?_⟩
   .have:=P.hd
    simp_all
   .refine QX n P.al ?_
    have:=P.lt
    rw[List.getLast?_eq_some_getLast n]at this;rw[hX this];exact e
   .rw[mG]
    exact⟨nd,by simp,λ x g y j z=>by rw[kj.mp j]at z;subst z;exact d g⟩
theorem Q8:∀{l:List Int},fy es (a::l)=true->∀x∈a::l,eT es a x
 |[],_,x,c=>by rw[kj.mp c];exact .refl
 |b::r,h,x,c=>by
  rw[fy,cF,decide_eq_true_eq]at h;rcases bI.mp c with rfl|c
  .exact .refl
  .exact eT.trans (.step .refl h.1) (Q8 h.2 x c)
def HZ(p:Prop):Bool:=@decide p (Jp p)
def Q9:HZ p=true↔p:=@decide_eq_true_iff p (Jp p)
def C2(n:Int)(es:bK)(a:Int):List Int:=(eI n).filter λ b=>HZ (eT es a b)
def qm(es:bK)(a:Int):Bool:=HZ (∀b,0<=b->eT es a b->a<=b)
def zH:qm es a=true↔∀b,0<=b->eT es a b->a<=b:=Q9
def w8(n:Int)(es:bK):cf:=((eI n).filter (qm es)).map (C2 n es)
def H9(n:Int):(eI n).Pairwise (·< ·):=by
 unfold eI;rw[uX];exact List.pairwise_lt_range.imp λ h=>by lia
theorem Ia:∀{l m:List Int},l.Pairwise (·< ·)->m.Pairwise (·< ·)->(∀x,x∈l↔x∈m)->l=m
 |[],[],_,_,_=>rfl
 |[],b::m,_,_,h=>by have:=(h b).mpr bW;cases this
 |a::l,[],_,_,h=>by have:=(h a).mp bW;cases this
 |a::l,b::m,c,d,h=>by
  obtain⟨p,f⟩:=gQ.mp c;obtain⟨q,g⟩:=gQ.mp d;have e:a=b:=by
   rcases bI.mp ((h a).mp bW)with z|z
   .exact z
   .rcases bI.mp ((h b).mpr bW)with y|y
    .exact y.symm
    .have:=q a z;have:=p b y;lia
  subst e;rw[Ia f g λ x=>?_];constructor<;>grind
def Ib(nd:l.Nodup):(sortI l).Pairwise (·< ·):=by
 have h:=rX l;have c:=(sortI_perm l).nodup_iff.mpr nd;exact(h.and c).imp λ⟨a,b⟩=>by lia
def bG(L:List Int)(i:Int):Int:=L.getD i.toNat 0
def oP(L:List Int)(p:Int×Int):List Int:=(L.set p.1.toNat (eH (bG L p.1) (bG L p.2))).set p.2.toNat (eH (bG L p.1) (bG L p.2))
def aaS(L:List Int)(p:Int×Int):(oP L p).length=L.length:=by unfold oP;simp_all
def aaT(a b:Int):eH a b<=a/\eH a b<=b/\(eH a b=a\/eH a b=b):=by
 unfold eH;split<;>lia
def Ic(h:i<L.length)(x:Int)(a:0<=x):bG (L.set i v) x=if x.toNat=i then v else bG L x:=by
 unfold bG;rw[sv,sv];split
 .rename_i e
  rw[e,uS h];rfl
 .rename_i e
  rw[qw (λ z=>e z.symm)]
def aaU(a:0<=p.1/\p.1.toNat<L.length)(b:0<=p.2/\p.2.toNat<L.length)(x:Int)(h:0<=x):bG (oP L p) x=if x=p.1\/x=p.2 then eH (bG L p.1) (bG L p.2)else bG L x:=by
 unfold oP;rw[Ic (by simp_all) x h,Ic a.2 x h]
 grind
structure uG(n:Int)(es:bK)(L:List Int):Prop where
 len:L.length=n.toNat
 cn:∀x,0<=x->x<n->eT es x (bG L x)/\bG L x<=x/\0<=bG L x
section
variable{n:Int}{ps:bK}{L:List Int}{s2 s3 s4:Slot}
def uG.join(B:uG n (cR ps) L)(d:p∈ps)(h:0<=p.1/\p.1<n/\0<=p.2/\p.2<n):uG n (cR ps) (oP L p)/\(∀x,0<=x->x<n->bG (oP L p) x<=bG L x)/\bG (oP L p) p.1<=bG L p.2/\bG (oP L p) p.2<=bG L p.1:=by
 have l:=B.len;have g:=λ x a=>aaU (L:=L) (p:=p) ⟨h.1,SS h l⟩ ⟨h.2.2.1,by lia⟩ x a
 obtain⟨m,f,j⟩:=aaT (bG L p.1) (bG L p.2);have c1:=B.cn p.1 h.1 h.2.1;have c2:=B.cn p.2 h.2.2.1 h.2.2.2;have b:(p.1,p.2)∈cR ps:=ql.mpr (.inl d);have c:(p.2,p.1)∈cR ps:=ql.mpr (.inr d);have k1:eT (cR ps) p.1 (eH (bG L p.1) (bG L p.2)):=by
  rcases j with z|z
  .rw[z];exact c1.1
  .rw[z];exact eT.trans (.step .refl b) c2.1
 have k2:eT (cR ps) p.2 (eH (bG L p.1) (bG L p.2)):=eT.trans (.step .refl c) k1;refine⟨⟨by rw[aaS];exact l,λ x a i=>?_⟩,λ x a i=>?_,?_,?_⟩
 .rw[g x a]
  split
  .rename_i e
   rcases e with rfl|rfl
   .exact⟨k1,by lia,by lia⟩
   .exact⟨k2,by lia,by lia⟩
  .exact B.cn x a i
 .rw[g x a]
  split
  .rename_i e
   rcases e with rfl|rfl
   .exact m
   .exact f
  .exact xp _
 .rw[g p.1 h.1,if_pos (.inl rfl)];exact f
 .rw[g p.2 h.2.2.1,if_pos (.inr rfl)];exact m
def C3(h:0<=x)(a:x.toNat<L.length):iE (L.map .int) x= .ok (.int (bG L x)):=by
 have:=uh (l:=L.map D.int) (k:=x.toNat) (d:=.int (bG L x)) (by rw[fM];unfold bG;simp_all)
 rwa [zT h]at this
def Ra(h:fk [w,.ow (.lst (L.map .int)),s2,s3,s4]= .ok (.int k))(a:fe [w,.ow (.lst (L.map .int)),s2,s3,s4]= .ok (.int v))(b:0<=k)(c:k.toNat<L.length):
  y9 1 fk fe [w,.ow (.lst (L.map .int)),s2,s3,s4]= .nx [w,.ow (.lst ((L.set k.toNat v).map .int)),s2,s3,s4]:=by
 have e:putN (L.map .int) (.int k)=some k.toNat:=by
  show me _ k=_;unfold me;simp_all
 show((fe _).bo _)=_
 simp_all
def aaV(a:L.length=n.toNat)(h:0<=p.1/\p.1<n/\0<=p.2/\p.2<n):
  sf [w,.ow (.lst (L.map .int)),s2,.sh (.int p.1),.sh (.int p.2)]= .nx [w,.ow (.lst ((oP L p).map .int)),s2,.sh (.int p.1),.sh (.int p.2)]:=by
 have b:=C3 (L:=L) h.1 (by lia);have c:=C3 (L:=L) h.2.2.1 (SX a h);have d:=Ra (L:=L) (w:=w) (s2:=s2) (s3:=.sh (.int p.1)) (s4:=.sh (.int p.2)) (fk:=aa 3) (fe:=aN (jf λ i j=>if j<i then j else i) (ae (ai aF (eL 1) (aa 3)) (ae (ai aF (eL 1) (aa 4)) aj))) (k:=p.1) (v:=eH (bG L p.1) (bG L p.2)) (by simp) (by simp[b,c,eH]) h.1 (by lia);have l:(L.set p.1.toNat (eH (bG L p.1) (bG L p.2))).length=L.length:=nN;have e:=C3 (L:=L.set p.1.toNat (eH (bG L p.1) (bG L p.2))) h.1 (by lia);rw[Ic (by lia) p.1 h.1,if_pos rfl]at e;have f:=Ra (L:=L.set p.1.toNat (eH (bG L p.1) (bG L p.2))) (w:=w) (s2:=s2) (s3:=.sh (.int p.1)) (s4:=.sh (.int p.2)) (fk:=aa 4) (fe:=bO (ai aF (eL 1) (aa 3))) (k:=p.2) (v:=eH (bG L p.1) (bG L p.2)) (by simp) (by simp_all) h.2.2.1 (SI a h l);rw[sf,bQ,d,ck,f];rfl
theorem Rb(r:∀p∈ps,0<=p.1/\p.1<n/\0<=p.2/\p.2<n):∀(qs:bK) (L:List Int) (s3 s4:Slot),(∀q∈qs,q∈ps)->uG n (cR ps) L->
  ∃b s c,forL (eP 2 (bM (aD 3) (bM (aD 4) e7))) sf (qs.map bh) [w,.ow (.lst (L.map .int)),s2,s3,s4]= .nx [w,.ow (.lst (b.map .int)),s2,s,c]/\uG n (cR ps) b/\(∀x,0<=x->x<n->bG b x<=bG L x)/\∀q∈qs,bG b q.1<=bG L q.2/\bG b q.2<=bG L q.1
 |[],L,s3,s4,_,B=>⟨L,s3,s4,rfl,B,λ _ _ _=>xp _,λ q i=>by cases i⟩
 |q::qs,L,s3,s4,h,B=>by
  have i:=h q bW;have f:=r q i;obtain⟨o,m,t,u⟩:=B.join i f;obtain⟨b,s,c,e,B',k1,k2⟩:=Rb (w:=w) r qs (oP L q) (.sh (.int q.1)) (.sh (.int q.2)) (λ x d=>h x (cT _ d)) o;refine⟨b,s,c,?_,B',λ x k l=>xo (k1 x k l) (m x k l),λ x d=>?_⟩
  .rw[dH,qb]
   have g:mz (eP 2 (bM (aD 3) (bM (aD 4) e7)) (bh q) [w,.ow (.lst (L.map .int)),s2,s3,s4]) (λ j=>(sf j).tn (forL (eP 2 (bM (aD 3) (bM (aD 4) e7))) sf (qs.map bh)))=(sf [w,.ow (.lst (L.map .int)),s2,.sh (.int q.1),.sh (.int q.2)]).tn (forL (eP 2 (bM (aD 3) (bM (aD 4) e7))) sf (qs.map bh)):=by simp[bh]
   rw[g,aaV B.len f,ug,e]
  .rcases bI.mp d with rfl|d
   .exact⟨xo (k1 _ f.1 f.2.1) t,xo (k1 _ f.2.2.1 f.2.2.2) u⟩
   .have a:=r x (h x (cT _ d))
    exact⟨xo (k2 x d).1 (m _ a.2.2.1 a.2.2.2),xo (k2 x d).2 (m _ a.1 a.2.1)⟩
def aaW(n:Int)(es:bK)(t:Nat)(L:List Int):Prop:=∀(l:List Int) (a b:Int),0<=a->a<n->Q7 es a b l->l.length<=t+1->bG L a<=b
def aaX(i:∀x y,(x,y)∈es->0<=y/\y<n)(h:fy es (a::b::r)=true):(a,b)∈es/\0<=b/\b<n:=by
 rw[fy,cF,decide_eq_true_eq]at h;exact⟨h.1,i _ _ h.1⟩
def aaY(h:oM n ps):∃L s2 s3 s4,forL (aD 2) wJ (eB 0 n) [.sh (aL n ps),.ow (.lst ((eI n).map .int)),.no,.no,.no]= .nx [.sh (aL n ps),.ow (.lst (L.map .int)),s2,s3,s4]/\uG n (cR ps) L/\∀a,0<=a->a<n->∀b,eT (cR ps) a b->bG L a<=b:=by
 have o:∀p∈ps,0<=p.1/\p.1<n/\0<=p.2/\p.2<n:=λ p F=>by have:=h.pr p F;exact⟨this.1,this.2.1,this.2.2.1,this.2.2.2.1⟩
 have k:∀x y,(x,y)∈cR ps->0<=y/\y<n:=λ x y m=>by
  rcases ql.mp m with z|z
  .have:=h.pr _ z;exact⟨this.2.2.1,this.2.2.2.1⟩
  .have:=h.pr _ z;exact⟨this.1,this.2.1⟩
 have C:∀x,0<=x->x<n->bG (eI n) x=x:=λ x c f=>by
  unfold bG eI;rw[sv,fM,Dq (by lia)]
  show(((x.toNat:Nat):Int))=x
  exact L0 c
 obtain⟨G,e,L,s2,s3,s4,rfl,B,R⟩:=CH (a:=aD 2) (u:=wJ) (ds:=eB 0 n)
  (λ t ρ=>∃(L:List Int) (s2 s3 s4:Slot),ρ=[.sh (aL n ps),.ow (.lst (L.map .int)),s2,s3,s4]/\uG n (cR ps) L/\aaW n (cR ps) t L)
  (by
   rintro i d ρ H ⟨L,s2,s3,s4,rfl,B,R⟩;obtain⟨rfl,I⟩:=HN H;obtain⟨q,s,v,e,B',k1,k2⟩:=Rb (w:=.sh (aL n ps)) (s2:=.sh (.int (0+(i:Int)))) o ps L s3 s4 (λ _ h=>h) B;refine⟨[.sh (aL n ps),.ow (.lst (q.map .int)),.sh (.int (0+(i:Int))),s,v],?_,q,_,_,_,rfl,B',λ l a b c f P g=>?_⟩
   .show wJ [.sh (aL n ps),.ow (.lst (L.map .int)),.sh (.int (0+(i:Int))),s3,s4]=_
    have J:eA (ai aF (aa 0) (aq (.int 1))) [.sh (aL n ps),.ow (.lst (L.map .int)),.sh (.int (0+(i:Int))),s3,s4]= .ok (ps.map bh):=by simp[aL]
    rw[wJ,oF,J,ez,e]
   .match l,P,g with
    |[],P,_=>cases P.hd
    |[x],P,_=>
     have j:=P.hd;have A:=P.lt;cases j;cases A;exact(B'.cn a c f).2.1
    |x::y::r,P,g=>
     have j:=P.hd;cases j;obtain⟨K,D⟩:=aaX k P.al;have O:=R (y::r) y b D.1 D.2 ⟨rfl,by have:=P.lt;simpa using this,by have:=P.al;rw[fy,cF]at this;exact this.2⟩ (by simp at g ⊢;omega)
     have:bG q a<=bG L y:=by
      rcases ql.mp K with z|z
      .exact(k2 _ z).1
      .exact(k2 _ z).2
     lia)
  (ρ:=[.sh (aL n ps),.ow (.lst ((eI n).map .int)),.no,.no,.no]) ⟨eI n,.no,.no,.no,rfl,⟨uF n,λ x c f=>by rw[C x c f];exact⟨.refl,xp _,c⟩⟩,λ l a b c f P g=>by
   rw[C a c f]
   match l,P,g with
   |[],P,_=>cases P.hd
   |[x],P,_=>
    have j:=P.hd;have A:=P.lt;cases j;cases A;exact xp _
   |x::y::r,P,g=>simp at g⟩
 refine⟨L,s2,s3,s4,e,B,λ a c f b M=>?_⟩;obtain⟨l,P,nd⟩:=M.path;refine R l a b c f P ?_;have N:∀x∈l,x∈eI n:=λ x E=>by
  cases l with
  |nil=>cases E
  |cons y r=>
   have j:=P.hd;cases j;exact oO.mpr ((Q8 P.al x E).inn k ⟨c,f⟩)
 have:=sub_len nd N
 rw[uF]at this;rw[aaB];lia
def aaZ(h:oM n ps):zk [aL n ps]= .ok (.lst ((w8 n (cR ps)).map tupI)):=by
 obtain⟨L,s2,s3,s4,e,B,m⟩:=aaY h;have w:=h.n0;have y:=h.n1;have p:=B.len;have st:dw 5 [aL n ps]=[.sh (aL n ps),.no,.no,.no,.no]:=rfl;have r:=QZ (f:=ai aF (aa 0) (aq (.int 0))) (ρ:=[.sh (aL n ps),.no,.no,.no,.no]) (n:=n) (by simp[aL]) h.n0 h.n1;have u:=ui (j:=n) (by lia) (by lia);have S:sortI (df L)=(eI n).filter (qm (cR ps)):=by
  refine Ia (Ib (t7 L)) ((H9 n).filter _) λ x=>?_
  rw[(sortI_perm _).mem_iff,y3,mI,oO,zH];constructor
  .intro z
   obtain⟨i,q,rfl⟩:=qx z;have l:bG L (i:Int)=L[i]:=by unfold bG;rw[oR,sv,en q];rfl
   have c:=B.cn (i:Int) (by lia) (by lia);rw[l]at c;refine⟨⟨c.2.2,by omega⟩,λ b o s=>?_⟩
   have:=m (i:Int) (by lia) (by lia) b (c.1.trans s)
   rwa [l]at this
  .rintro⟨⟨A,C⟩,D⟩
   have c:=B.cn x A C;have I:=D _ c.2.2 c.1;have E:bG L x=x:=by lia
   rw[<-E];unfold bG;rw[sv,en (show x.toNat<L.length by lia)];exact lO _
 have F:ot 1 (wA (ai aF (aa 0) (aq (.int 0)))) [.sh (aL n ps),.no,.no,.no,.no]= .nx [.sh (aL n ps),.ow (.lst ((eI n).map .int)),.no,.no,.no]:=by
  rw[Qm,r,ez,C0];rfl
 have c1:gh (gs hI (ae (ai aF (aa 0) (aq (.int 0))) aj)) (aD 2) wJ [.sh (aL n ps),.ow (.lst ((eI n).map .int)),.no,.no,.no]= .nx [.sh (aL n ps),.ow (.lst (L.map .int)),s2,s3,s4]:=by
  have q:gs hI (ae (ai aF (aa 0) (aq (.int 0))) aj) [.sh (aL n ps),.ow (.lst ((eI n).map .int)),.no,.no,.no]= .ok (eB 0 n):=by simp[aL,u]
  rw[oF,q,ez,e]
 have c2:Qt [.sh (aL n ps),.ow (.lst (L.map .int)),s2,s3,s4]= .ok (.lst ((w8 n (cR ps)).map tupI)):=by
  have v:y7 [.lst (L.map .int)]= .ok (.lst ((sortI (df L)).map .int)):=by
   unfold y7;cb_eq;rw[pL];cb_eq;rw[if_pos (by lia)]
  rw[S]at v;refine oN (ds:=((eI n).filter (qm (cR ps))).map .int) (by simp[shE,nt,v]) (by
   rw[bb]
   have:=z6 (qm (cR ps)) (eI n)
   rw[uF]at this;lia) ?_
  unfold w8;rw[fW];refine wV _ λ a ha=>⟨[.sh (.int a),.sh (aL n ps),.sh (.lst (L.map .int))],rfl,?_⟩
  obtain⟨t,g⟩:=mI.mp ha;have G:=oO.mp t;rw[zH]at g;have s:e8 (gs hI (ae (ai aF (aa 1) (aq (.int 0))) aj)) [none,some 2,some 0] (aD 0) (bD (ai (cq false) (ai aF (aa 1) (aa 0)) (aa 2))) (bO (aa 0)) [.sh (.int a),.sh (aL n ps),.sh (.lst (L.map .int))]= .ok (.lst ((C2 n (cR ps) a).map .int)):=by
   refine oN (ds:=(eI n).map .int) (by rw[<-C0];simp[shE,nt,aL,u]) (by rw[bb,uF];lia) ?_;have H:C2 n (cR ps) a=(eI n).filter λ b=>bG L b==a:=by
    unfold C2;refine List.filter_congr λ b o=>?_
    have d:=oO.mp o;have c:=B.cn b d.1 d.2;rw[uP,Q9,beq_iff_eq];constructor
    .intro k
     have J:=g _ c.2.2 (k.trans c.1);have K:=m b d.1 d.2 a (k.symm (HY ps));lia
    .intro l
     rw[l]at c;exact c.1.symm (HY ps)
   rw[H];refine wU (eI n) λ b o=>⟨[.sh (.int b),.sh (.lst (L.map .int)),.sh (.int a)],rfl,?_,?_⟩
   .have d:=oO.mp o
    have:=C3 (L:=L) d.1 (SZ p d)
    simp[this]
   .simp
  rw[Qs,jO,eC,s];simp[tupI]
 simp only[zk,iD,fU,st];rw[bQ,F,ck,bQ,c1,ck,qa,c2];rfl
end
def Rc:CU p q=true↔p.1<q.1\/p.1=q.1/\p.2<q.2:=by
 have e:HT.lexLt [p.1,p.2] [q.1,q.2]=true↔p.1<q.1\/p.1=q.1/\p.2<q.2:=by
  by_cases h:p.1=q.1
  .by_cases a:p.2=q.2
   .simp[HT.lexLt,h,a]
   .simp[HT.lexLt,h,a]
  .simp[HT.lexLt,h]
 assumption
def Rd{ps:bK}:sj ps=true↔ps.Pairwise λ p q=>p.1<q.1\/p.1=q.1/\p.2<q.2:=by
 constructor
 .intro h
  have h':=HS.mp h;clear h;induction ps with
  |nil=>exact .nil
  |cons p ps k=>
   have s:=λ i a b e d=>h' (i+1) a b e d
   have g:=k s;refine gQ.mpr ⟨λ q c=>?_,g⟩;cases ps with
   |nil=>cases c
   |cons r l=>
    have f:=Rc.mp (h' 0 p r rfl rfl);rcases bI.mp c with rfl|c
    .exact f
    .have j:=(gQ.mp g).1 q c
     lia
 .intro h
  rw[HS];intro i p q e d;rw[Rc];obtain⟨f,rfl⟩:=eW.mp e;obtain⟨j,rfl⟩:=eW.mp d;exact nK.mp h i (i+1) f j (il i)
def Re(h:fe (ρ.map rM)= .ex c)(a:qc c=some w):rO qc "told" fe ρ= .ok (.str w):=by
 unfold rO;simp_all
theorem Rf:∀{s:List D},s.all (jQ n)=true->(s.map intOf).map D.int=s
 |[],_=>rfl
 |t::s,h=>by
  rw[Ac,cF]at h;obtain⟨a,rfl,_⟩:=QO h.1;rw[dH,dH,Rf h.2];rfl
def uH(m:Int):D->Bool
 | .tup t=>t.all (jQ m)&&oK HR (t.map intOf)
 |_=>false
def Rg{ws:List Int}:oK HR ws=true↔ws.Pairwise (·< ·):=by
 constructor
 .intro h
  have h':=CV.mp h;clear h;induction ws with
  |nil=>exact .nil
  |cons x ws j=>
   have g:=j λ i a b e d=>h' _ a b e d
   refine gQ.mpr ⟨λ y c=>?_,g⟩;cases ws with
   |nil=>cases c
   |cons z s=>
    have f:=of_decide_eq_true (h' 0 x z rfl rfl);rcases bI.mp c with rfl|c
    .exact f
    .have:=(gQ.mp g).1 y c
     lia
 .intro h
  rw[CV];intro i p q e d;obtain⟨f,rfl⟩:=eW.mp e;obtain⟨k,rfl⟩:=eW.mp d;exact decide_eq_true (nK.mp h i (i+1) f k (il i))
theorem ints_of:∀ws:List Int,(ws.map D.int).map intOf=ws
 |[]=>rfl
 |w::ws=>by rw[dH,dH,ints_of ws];rfl
def aa0{n:Int}{ws:List Int}(r:ws.Pairwise (·< ·))(h:∀x∈ws,0<=x/\x<n):uH n (tupI ws)=true:=by
 unfold tupI uH;cb_eq;rw[ints_of,Rg.mpr r,uQ,kk];intro d a;obtain⟨x,b,rfl⟩:=cX.mp a
 have:=h x b
 simp[jQ,this]
theorem Rh{x:Int}:∀{l:List Int},x∈l->∃j,pZ x l=some j/\l[j]? =some x
 |a::l,h=>by
  unfold pZ;by_cases c:a=x
  .subst c
   exact⟨0,if_pos rfl,rfl⟩
  .obtain⟨j,d,b⟩:=Rh ((bI.mp h).resolve_left λ z=>c z.symm)
   exact⟨j+1,by simp_all,b⟩
def dy(n:Int)(ws:List Int):List Int:=(eI n).filter λ x=>!decide (x∈ws)
def gZ(ks:List Int)(x:Int):Int:=((pZ x ks).getD 0:Nat)
def nE(ks:List Int)(p:Int×Int):Bool:=decide (p.1∈ks)&&decide (p.2∈ks)
def nF(ks:List Int)(ps:bK):bK:=(ps.filter (nE ks)).map λ p=>(gZ ks p.1,gZ ks p.2)
section
variable{n:Int}{ps:bK}{ws ks:List Int}
def Ri:(dy n ws).Pairwise (·< ·):=(H9 n).filter _
def Rj(h:0<=n):((dy n ws).length:Int)<=n:=by
 have:=z6 (λ x=>!decide (x∈ws)) (eI n)
 rw[uF]at this;unfold dy;simp_all
def xa{x:Int}(h:x∈ks):∃j:Nat,pZ x ks=some j/\gZ ks x=(j:Int)/\ks[j]? =some x:=by
 obtain⟨j,a,b⟩:=Rh h;exact⟨j,a,by unfold gZ;rw[a];rfl,b⟩
def C4(r:ks.Pairwise (·< ·)){x y:Int}(b:x∈ks)(d:y∈ks)(h:x<y):gZ ks x<gZ ks y:=by
 obtain⟨i,_,e,f⟩:=xa b;obtain⟨j,_,g,a⟩:=xa d;rw[e,g];have k:=(eW.mp f).1;have l:=(eW.mp a).1;by_cases c:i<j
 .lia
 .exfalso
  have m:=(eW.mp f).2;have n:=(eW.mp a).2;by_cases c2:i=j
  .simp_all
  .have:=nK.mp r j i l k (by lia)
   lia
def Ie{x:Int}(h:x∈ks):0<=gZ ks x/\gZ ks x<(ks.length:Int):=by
 obtain⟨j,_,e,f⟩:=xa h
 have:=(eW.mp f).1
 simp_all
def uI{p:Int×Int}(h:p∈ps.filter (nE ks)):p∈ps/\p.1∈ks/\p.2∈ks:=by
 obtain⟨b,a⟩:=mI.mp h;unfold nE at a;simp_all
def Rk(h:oM n ps)(l:∀p∈ps,p.1<p.2):oM ((dy n ws).length:Int) (nF (dy n ws) ps)/\∀p∈nF (dy n ws) ps,p.1<p.2:=by
 have r:=Ri (n:=n) (ws:=ws);have x:=Rj (ws:=ws) h.n0;have j:=h.n1;refine⟨⟨by lia,by lia,?_,λ p a=>?_,?_⟩,λ p a=>?_⟩
 .unfold nF
  rw[bb];exact eJ (z6 _ _) h.len
 .obtain⟨q,b,rfl⟩:=cX.mp a
  obtain⟨e,c,d⟩:=uI b;have g:=Ie c;have i:=Ie d;have k:=C4 r c d (l q e);exact⟨g.1,g.2,i.1,i.2,by show gZ _ q.1≠gZ _ q.2;exact ER k⟩
 .rw[Rd]
  unfold nF;rw[uX];have s:=(Rd.mp h.ris).filter (nE (dy n ws));refine s.imp_of_mem λ{p q} a b f=>?_
  obtain⟨_,m,o⟩:=uI a;obtain⟨_,t,u⟩:=uI b;rcases f with z|⟨v,w⟩
  .exact .inl (C4 r m t z)
  .exact .inr ⟨by show gZ _ p.1=gZ _ q.1;rw[v],C4 r o u w⟩
 .obtain⟨q,b,rfl⟩:=cX.mp a
  obtain⟨e,c,d⟩:=uI b;exact C4 r c d (l q e)
def aa1{ρ:af}{f:af->ag (List D)}{js:ku}(a:0<=n)(b:n<=60)(hf:f (shE ρ)= .ok (eB 0 n))(h:fJ js (shE ρ)=[.no,.sh (tupI ws)]):
  e8 f js (aD 0) (bD (ai (gI true) (aa 0) (aa 1))) (bO (aa 0)) ρ= .ok (.lst ((dy n ws).map .int)):=by
 rw[C0]at hf;exact Q1 (i:=0) (j:=0) hf (.inl h) (by rw[uF];lia)
def aa2(h:oM n ps):zl [aL n ps,tupI ws]= .ok (aL ((dy n ws).length:Int) (nF (dy n ws) ps)):=by
 have a:=h.n0;have b:=h.n1;have k:=Rj (ws:=ws) a;have s:=h.len;have st:dw 4 [aL n ps,tupI ws]=[.sh (aL n ps),.sh (tupI ws),.no,.no]:=rfl;have r:=ui (j:=n) (by lia) (by lia);have f:Qu [.sh (aL n ps),.sh (tupI ws),.no,.no]= .ok (.lst ((dy n ws).map .int)):=aa1 a b (by simp[shE,nt,aL,r]) rfl;have c1:Hk [.sh (aL n ps),.sh (tupI ws),.nw (.lst ((dy n ws).map .int)),.no]= .ok (.lst ((ps.filter (nE (dy n ws))).map bh)):=by
  refine oN (ds:=ps.map bh) (by simp[shE,nt,aL]) (by rw[bb];lia) (wU ps λ p e=>⟨[.sh (bh p),.sh (.lst ((dy n ws).map .int))],rfl,?_,?_⟩)
  .have g:=CY false p.1 (dy n ws)
   have bw:=CY false p.2 (dy n ws);simp only[aae,uf,kJ,Qf,Qg,sy,qv,aU,bh,aaj,aak,aal,se,g,bw,aad];unfold nE;cases decide (p.1∈dy n ws)<;>rfl
  .have:mj (bh p)= .ok (bh p):=rfl
   simp[this]
 have c2:Qv [.sh (aL n ps),.sh (tupI ws),.nw (.lst ((dy n ws).map .int)),.nw (.lst ((ps.filter (nE (dy n ws))).map bh))]= .ok (.lst ((nF (dy n ws) ps).map bh)):=by
  refine oN (ds:=(ps.filter (nE (dy n ws))).map bh) (by simp[shE,nt]) (by rw[bb];have:=z6 (nE (dy n ws)) ps;lia) ?_;unfold nF;rw[fW];refine wV _ λ p e=>⟨[.sh (.int p.1),.sh (.int p.2),.sh (.lst ((dy n ws).map .int))],?_,?_⟩
  .show eP 2 (bM (aD 0) (bM (aD 1) e7)) (bh p) [.no,.no,.sh (.lst ((dy n ws).map .int))]=_
   simp[bh]
  .obtain⟨_,l,m⟩:=uI e
   have i:∀(x:Int),x∈dy n ws->nB ((dy n ws).map .int) (.int x)= .ok (.int (gZ (dy n ws) x)):=λ x o=>by
    obtain⟨j,q,t,_⟩:=xa o;unfold nB;cb_eq;rw[pL];cb_eq;rw[q,t]
   have u:za nB (aa 2) (aa 0) [.sh (.int p.1),.sh (.int p.2),.sh (.lst ((dy n ws).map .int))]= .ok (.int (gZ (dy n ws) p.1)):=by
    show okD (nB ((dy n ws).map .int) (.int p.1))=_;rw[i _ l];rfl
   have o2:za nB (aa 2) (aa 1) [.sh (.int p.1),.sh (.int p.2),.sh (.lst ((dy n ws).map .int))]= .ok (.int (gZ (dy n ws) p.2)):=by
    show okD (nB ((dy n ws).map .int) (.int p.2))=_;rw[i _ m];rfl
   rw[Hg,eC,u,eC,o2];rfl
 simp only[zl,jF,fU,st];rw[bQ,CE,f,ez,ck,bQ,CE]
 show(match ((Hk [.sh (aL n ps),.sh (tupI ws),.nw (.lst ((dy n ws).map .int)),.no]).bo λ d=>ax.nx [.sh (aL n ps),.sh (tupI ws),.nw (.lst ((dy n ws).map .int)),.nw d]).sq _ with| .nx _=>ag.ok D.non| .rt d=>.ok d| .ex c=>.ex c|_=>.st)=_
 rw[c1,ez,ck,qa,Hg,eC,eC,jO,jO,eC,eC,c2];simp[aL]
end
def zJ(es ws:List Int):List Int:=ws.filter λ x=>!decide (x∈es)
def C5(n:Int)(ps:bK)(es ws:List Int):Int:=((w8 ((dy n ws).length:Int) (cR (nF (dy n ws) ps))).length:Int)-((zJ es ws).length:Int)
section
variable{n:Int}{ps:bK}{ws es:List Int}
def aa3{ρ:af}{f:af->ag (List D)}{js:ku}(hf:f (shE ρ)= .ok (ws.map .int))(h:fJ js (shE ρ)=[.no,.sh (tupI es)])(l:ws.length<=1000):
  e8 f js (aD 0) (bD (ai (gI true) (aa 0) (aa 1))) (bO (aa 0)) ρ= .ok (.lst ((zJ es ws).map .int)):=
 Q1 (i:=0) (j:=0) hf (.inl h) (by omega)
def aa4(h:oM n ps)(l:∀p∈ps,p.1<p.2)(a:ws.length<=1000):zq [aL n ps,tupI ws,tupI es]= .ok (.int (C5 n ps es ws)):=by
 have st:dw 3 [aL n ps,tupI ws,tupI es]=[.sh (aL n ps),.sh (tupI ws),.sh (tupI es)]:=rfl;have w:=aa2 (ws:=ws) h;obtain⟨h',o⟩:=Rk (ws:=ws) h l;have b:=aaZ h';have d:e8 (eA (aa 1)) [none,some 2] (aD 0) _ (bO (aa 0)) [.sh (aL n ps),.sh (tupI ws),.sh (tupI es)]= .ok _:=aa3 (by rfl) rfl a;have r:aN cw (ae (bt zk (ae (bt zl (ae (aa 0) (ae (aa 1) aj))) aj)) aj) [.sh (aL n ps),.sh (tupI ws),.sh (tupI es)]= .ok (.int ((w8 ((dy n ws).length:Int) (cR (nF (dy n ws) ps))).length:Int)):=by simp[w,b]
 have c:aN cw (ae (e8 (eA (aa 1)) [none,some 2] (aD 0) (bD (ai (gI true) (aa 0) (aa 1))) (bO (aa 0))) aj) [.sh (aL n ps),.sh (tupI ws),.sh (tupI es)]= .ok (.int ((zJ es ws).length:Int)):=by simp_all
 simp only[zq,iC,fU,st];rw[qa,kJ,r,aU,c];simp[C5]
end
theorem Ig:∀ws:List Int,fy es ws=(ws.zip (ws.drop 1)).all λ p=>decide (p∈es)
 |[]=>rfl
 |[_]=>rfl
 |a::b::r=>by
  have i:=Ig (es:=es) (b::r);unfold fy;rw[i];rfl
def Rl(l:∀p∈ps,p.1<p.2):(a,b)∈cR ps↔(eH a b,jR a b)∈ps:=by
 rw[ql];constructor
 .rintro(h|h)
  .have:=l _ h
   have e:eH a b=a:=by unfold eH;rw[if_neg (by simp at this;exact Bj this)]
   have c:jR a b=b:=by unfold jR;simp_all
   rw[e,c];exact h
  .have:=l _ h
   have e:eH a b=b:=by unfold eH;simp_all
   have c:jR a b=a:=by unfold jR;rw[if_neg (by simp at this;exact Bj this)]
   rw[e,c];exact h
 .intro h
  rcases aaH a b with ⟨e,c⟩|⟨e,c⟩<;>simp_all
def aa5(h:Hi d=false):jQ n d=false:=by
 cases d with
 |int i=>exact absurd h.symm cL
 |_=>rfl
def aa6{s:Slot}{w:D}{r:af}(k:knd d=true):uo (.sh (.tup [.int n,w])::s:: .sh d::r)=if jQ n d=true then .nx (.sh (.tup [.int n,w])::s:: .sh d::r)else .rt (.bl false):=by
 unfold uo;cases h:Hi d with
 |false=>rw[aa5 h];simp[Qr k,h]
 |true=>
  cases d with
  |int i=>by_cases a:0<=i<;>by_cases c:i<n<;>simp[jQ,a,c]
  |bl b=>rfl
  |_=>exact absurd h cL
def Rm{t:List D}{r:af}(p:kN t=true):(t.all (jQ n)=true/\∃s,forL (aD 2) uo t (.sh (aL n ps):: .sh (.tup t):: .no::r)= .nx (.sh (aL n ps):: .sh (.tup t)::s::r))\/(t.all (jQ n)=false/\forL (aD 2) uo t (.sh (aL n ps):: .sh (.tup t):: .no::r)= .rt (.bl false)):=by
 rcases aaL (a:=aD 2) (u:=uo) (r:=.bl false) (P:=jQ n) (I:=λ ρ=>∃s,ρ= .sh (aL n ps):: .sh (.tup t)::s::r) t _ ⟨.no,rfl⟩ (by
   rintro x b ρ ⟨s,rfl⟩;have e:=aa6 (n:=n) (d:=x) (s:=.sh (.tup t)) (w:=.tup (ps.map bh)) (r:=r) (CT (QN p b));rw[oE,mB];cases c:jQ n x with
   |true=>rw[c,if_pos rfl]at e;exact .inl ⟨rfl,_,e,_,rfl⟩
   |false=>rw[c,if_neg (by simp)]at e;exact .inr ⟨rfl,e⟩)with ⟨h,_,e,s,rfl⟩|z
 .exact .inl ⟨h,s,e⟩
 .exact .inr z
def aa7(h:oM n ps)(w:∀p∈ps,p.1<p.2)(A:mF d=true)(E:CZ d=true)(F:dR d<=60)(G:bu d=true):CK [aL n ps,d]= .ok (.bl (ji n (cR ps) d)):=by
 have st:dw 5 [aL n ps,d]=[.sh (aL n ps),.sh d,.no,.no,.no]:=rfl;simp only[CK,jG,fU,st];cases v:lH d with
 |false=>
  have o:um [.sh (aL n ps),.sh d,.no,.no,.no]= .rt (.bl false):=by simp[um,wI (CT A),v]
  have e:ji n (cR ps) d=false:=by cases d<;>first|rfl|(cases v)
  rw[bQ,o,e];rfl
 |true=>
  obtain⟨t,rfl⟩:=HQ v;have x:kN t=true:=by simpa[mF]using A
  have N:t.length<4000:=by simpa[CZ]using E
  have B:cq false (.tup t) (.tup [])= .ok (.bl t.isEmpty):=by
   unfold cq;have H:bu (.tup [])=true:=rfl;rw[if_pos (by rw[G,H,decide_eq_true F];rfl)];cases t<;>rfl
  cases i:t.isEmpty with
  |true=>
   have o:um [.sh (aL n ps),.sh (.tup t),.no,.no,.no]= .rt (.bl false):=by simp[um,B,i]
   rw[bQ,o];simp[ji,i]
  |false=>
   have o:um [.sh (aL n ps),.sh (.tup t),.no,.no,.no]= .nx [.sh (aL n ps),.sh (.tup t),.no,.no,.no]:=by simp[um,B,i]
   rw[bQ,o,ck,bQ];have J:eA (aa 1) [.sh (aL n ps),.sh (.tup t),.no,.no,.no]= .ok t:=by simp
   rw[oF,J,ez];rcases Rm (n:=n) (ps:=ps) (r:=[.no,.no]) x with ⟨Q,s,e⟩|⟨Q,e⟩
   .rw[e,ck]
    obtain⟨C,K⟩:=HU Q;have L:(t.map intOf).length=t.length:=bb _;have j:t8 [.tup t]= .ok (.set (df (t.map intOf))):=by
     have:=aaK (ns:=t.map intOf) (by simp_all)
     rwa [C]at this
    by_cases m:(df (t.map intOf)).length=t.length
    .have y:zo [.sh (aL n ps),.sh (.tup t),s,.no,.no]= .nx [.sh (aL n ps),.sh (.tup t),s,.no,.no]:=by simp[zo,j,m]
     rw[bQ,y,ck,bQ];have hz:Hl [.sh (aL n ps),.sh (.tup t),s,.no,.no]= .ok (((t.map intOf).zip ((t.map intOf).drop 1)).map bh):=by
      have q:cutD t (some 1) none=t.drop 1:=aaM (k:=1) (by cases t with
       |nil=>cases i
       |cons _ _=>simp)
      have M:uc t (t.drop 1)=((t.map intOf).zip ((t.map intOf).drop 1)).map bh:=by
       have l:t=(t.map intOf).map D.int:=C.symm;generalize t.map intOf=ws at l;subst l;unfold uc;rw[<-JT,List.zip_map,fW];rfl
      simp[Hl,q,CA,M,-List.drop_one]
     rw[oF,hz,ez];rcases HV (f:=bh) (a:=eP 2 (bM (aD 3) (bM (aD 4) e7))) (u:=wK) (r:=.bl false) (P:=λ p=>decide (p∈cR ps)) (I:=λ ρ=>∃s3 s4,ρ=[.sh (aL n ps),.sh (.tup t),s,s3,s4]) ((t.map intOf).zip ((t.map intOf).drop 1)) [.sh (aL n ps),.sh (.tup t),s,.no,.no] ⟨_,_,rfl⟩ (by
       rintro⟨a,b⟩ O ρ ⟨s3,s4,rfl⟩;have g:mz (eP 2 (bM (aD 3) (bM (aD 4) e7)) (bh (a,b)) [.sh (aL n ps),.sh (.tup t),s,s3,s4]) wK=wK [.sh (aL n ps),.sh (.tup t),s,.sh (.int a),.sh (.int b)]:=by simp[bh]
       have q:gI true (.tup [.int (eH a b),.int (jR a b)]) (.tup (ps.map bh))= .ok (.bl (!decide ((eH a b,jR a b)∈ps))):=aaE true (eH a b,jR a b) ps;have e:wK [.sh (aL n ps),.sh (.tup t),s,.sh (.int a),.sh (.int b)]=if decide ((eH a b,jR a b)∈ps)=true then .nx [.sh (aL n ps),.sh (.tup t),s,.sh (.int a),.sh (.int b)]else .rt (.bl false):=by
        unfold wK;unfold eH jR at q ⊢;simp only[gt_iff_lt]at q ⊢;simp[aL,q]
       have l:decide ((a,b)∈cR ps)=decide ((eH a b,jR a b)∈ps):=by rw[uP,decide_eq_true_eq,decide_eq_true_eq];exact Rl w
       rw[g,e,l];cases c:decide ((eH a b,jR a b)∈ps)with
       |true=>exact .inl ⟨rfl,_,rfl,_,_,rfl⟩
       |false=>exact .inr ⟨rfl,rfl⟩)with ⟨hz2,ρ',l,s3,s4,rfl⟩|⟨hz2,l⟩
     .rw[l,ck]
      have:=Ig (es:=cR ps) (t.map intOf)
      rw[hz2]at this;simp[ji,i,Q,m,this]
     .rw[l]
      have:=Ig (es:=cR ps) (t.map intOf)
      rw[hz2]at this;simp[ji,this]
    .have y:zo [.sh (aL n ps),.sh (.tup t),s,.no,.no]= .rt (.bl false):=by
      have z:¬((df (t.map intOf)).length:Int)=(t.length:Int):=by lia
      simp[zo,j,z]
     rw[bQ,y];simp[ji,m]
   .rw[e]
    simp[ji,Q]
theorem Rn{w t:Slot}:∀(a:cf) (acc:List Int) (s:Slot),acc.length+a.flatten.length<10000->
  ∃s',forL (aD 3) CM (a.map tupI) [w,t,.ow (.lst (acc.map .int)),s]= .nx [w,t,.ow (.lst ((acc++a.flatten).map .int)),s']
 |[],acc,s,_=>⟨s,by simp⟩
 |r::a,acc,s,h=>by
  rw[iV,cy]at h;obtain⟨s',e⟩:=Rn (w:=w) (t:=t) a (acc++r) (.sh (tupI r)) (by rw[cy];lia);refine⟨s',?_⟩;have g:mj (tupI r)= .ok (tupI r):=(jS.tup (k:=0) jS.ints).g;have b:CM [w,t,.ow (.lst (acc.map .int)),.sh (tupI r)]= .nx [w,t,.ow (.lst ((acc++r).map .int)),.sh (tupI r)]:=by
   have v:bO (aa 3) [w,t,.ow (.lst (acc.map .int)),.sh (tupI r)]= .ok (tupI r):=by simp[g]
   show((bO (aa 3) [w,t,.ow (.lst (acc.map .int)),.sh (tupI r)]).bo (Cy (acc.map .int) λ l=>.nx [w,t,.ow (.lst l),.sh (tupI r)]))=_
   rw[v,ez];unfold Cy;cb_eq;rw[if_pos (by rw[wH,bb,bb];lia),hW]
  rw[dH,qb,oE,mB];simp_all
def aa8(h:oM n ps)(o:∀p∈ps,p.1<p.2)(F:Q4 d):CN [aL n ps,d]= .ok (.bl (wX n (cR ps) d)):=by
 have st:dw 4 [aL n ps,d]=[.sh (aL n ps),.sh d,.no,.no]:=rfl;simp only[CN,cV,fU,st];rw[bQ];cases a:lH d with
 |false=>
  have e:wX n (cR ps) d=false:=by cases d<;>first|rfl|(cases a)
  have c:zr [.sh (aL n ps),.sh d,.no,.no]= .rt (.bl false):=by simp[zr,wI (CT F.p),a]
  rw[c,e];rfl
 |true=>
  obtain⟨s,rfl⟩:=HQ a;have ea:Qw [.sh (aL n ps),.sh (.tup s),.no,.no]= .ok (.lst (s.map λ r=>.bl (ji n (cR ps) r))):=by
   refine oN (ds:=s) (by simp[shE,nt]) (by have:=(F.z s rfl).2;lia) (QR s λ r g=>⟨[.sh r,.sh (aL n ps)],rfl,?_⟩);have f:=F.r s rfl r g
   have:=aa7 h o f.p f.s f.e f.n
   simp[this]
  have eb:=aaI ea;have c:zr [.sh (aL n ps),.sh (.tup s),.no,.no]=if s.all (ji n (cR ps))=true then .nx [.sh (aL n ps),.sh (.tup s),.no,.no]else .rt (.bl false):=by
   unfold zr;rw[lG,aaf,Ql,Qk,Ql,Qk,eb];cases s.all (ji n (cR ps))<;>simp
  rw[c];cases Q:s.all (ji n (cR ps))with
  |false=>
   simp[wX,Q]
  |true=>
   rw[if_pos rfl,ck,bQ];have c1:ot 2 (dm aj) [.sh (aL n ps),.sh (.tup s),.no,.no]= .nx [.sh (aL n ps),.sh (.tup s),.ow (.lst []),.no]:=by simp
   have i:=aaO aaR Q;have hz:=xE (Q3 s) (F.z s rfl).1;obtain⟨s',e⟩:=Rn (w:=.sh (aL n ps)) (t:=.sh (.tup s)) (s.map rowOf) [] .no (by simp only[mH];lia);rw[i,oY]at e;have j:eA (aa 1) [.sh (aL n ps),.sh (.tup s),.ow (.lst []),.no]= .ok s:=by simp
   rw[c1,ck,bQ,oF,j,ez];have k:forL (aD 3) CM s [.sh (aL n ps),.sh (.tup s),.ow (.lst []),.no]= .nx [.sh (aL n ps),.sh (.tup s),.ow (.lst ((s.map rowOf).flatten.map .int)),s']:=e;rw[k,ck];have m:=QY (l:=(s.map rowOf).flatten) hz;have b:=QZ (f:=ai aF (aa 0) (aq (.int 0))) (ρ:=[.sh (aL n ps),.sh (.tup s),.ow (.lst ((s.map rowOf).flatten.map .int)),s']) (n:=n) (by simp[aL]) h.n0 h.n1;have v:aN lB (ae (eL 2) aj) [.sh (aL n ps),.sh (.tup s),.ow (.lst ((s.map rowOf).flatten.map .int)),s']= .ok (.lst ((sortI (s.map rowOf).flatten).map .int)):=by
    have q:eL 2 [.sh (aL n ps),.sh (.tup s),.ow (.lst ((s.map rowOf).flatten.map .int)),s']= .ok (.lst ((s.map rowOf).flatten.map .int)):=rfl;rw[jO,eC,q,aU,jg,aU,aU,m,se]
   rw[qa,kJ,v,aU,b,aU,aaN,se,ez];simp only[wX,Q,Di]
section
variable{n:Int}{ps:bK}{d:D}
theorem Ro:∀a b:List Int,iF (a.map .int) (b.map .int)=decide (a=b)
 |[],[]=>rfl
 |[],_::_=>rfl
 |_::_,[]=>rfl
 |x::a,y::b=>by
  rw[dH,dH,iF,Ro a b];by_cases h:x=y<;>by_cases c:a=b<;>simp[cD,h]
theorem Ih:∀l:List Int,cQ (l.map .int)=0/\cA (l.map .int)=true
 |[]=>⟨rfl,rfl⟩
 |x::l=>by
  obtain⟨h,a⟩:=Ih l;exact⟨by assumption,by assumption⟩
def aa9(a b:List Int):cq false (.lst (a.map .int)) (.lst (b.map .int))= .ok (.bl (decide (a=b))):=by
 unfold cq;obtain⟨h,c⟩:=Ih a;obtain⟨e,d⟩:=Ih b;rw[if_pos (by simp[dR,bu,h,c,d])];simp[cD,Ro]
def aba(l:List Int):decide (l=sortI (df l))=oK HR l:=by
 rw[uP,decide_eq_true_eq,Rg];constructor
 .intro h
  have nd:(sortI (df l)).Nodup:=(sortI_perm _).nodup_iff.mpr (t7 _);rw[h];exact((rX _).and nd).imp λ⟨a,b⟩=>by lia
 .intro h
  have nd:l.Nodup:=h.imp λ{a b} z=>ER z
  have p:=(Js (t7 l) nd).mpr λ x=>y3 l x
  exact A9 ((p.symm).trans (sortI_perm _).symm) (h.imp λ{a b} z=>Int.le_of_lt z) (rX _)
def Ii:D->Bool
 | .tup l=>decide (l.length<64)
 |_=>true
def abb(a:mF d=true)(c:Ii d=true):CL [aL n ps,d]= .ok (.bl (uH n d)):=by
 have st:dw 3 [aL n ps,d]=[.sh (aL n ps),.sh d,.no]:=rfl;simp only[CL,dB,fU,st];cases h:lH d with
 |false=>
  have e:uH n d=false:=by cases d<;>first|rfl|(cases h)
  simp[wI (CT a),h,e]
 |true=>
  obtain⟨t,rfl⟩:=HQ h;have p:kN t=true:=by simpa[mF]using a
  have l:t.length<64:=by simpa[Ii]using c
  have f:de (lp (jb (ml (jD "tuple") (aa 1)))) (retS (aq (.bl false))) ax.nx [.sh (aL n ps),.sh (.tup t),.no]= .nx [.sh (aL n ps),.sh (.tup t),.no]:=by simp
  have g:eA (aa 1) [.sh (aL n ps),.sh (.tup t),.no]= .ok t:=by simp
  rw[bQ,f,ck,bQ,oF,g,ez];rcases Rm (n:=n) (ps:=ps) (r:=[]) p with ⟨o,s,e⟩|⟨o,e⟩
  .rw[e,ck]
   have i:=Rf o;have j:zb [.tup t]= .ok (.lst ((sortI (df (t.map intOf))).map .int)):=by
    unfold zb;cb_eq;rw[<-i,pL];cb_eq;rw[if_pos (by simpa using l),i]
   have b:=aa9 (t.map intOf) (sortI (df (t.map intOf)));rw[i,aba]at b;simp[j,b,uH,o]
  .rw[e]
   simp[uH,o]
end
def abc(ws:List Int):zh [tupI ws]= .ok (tupI (if HT.lexLt ws.reverse ws=true then ws.reverse else ws)):=by
 have st:dw 1 [tupI ws]=[.sh _]:=rfl;have h:r9 [tupI ws,.tup (ws.map D.int).reverse]= .ok (tupI (if HT.lexLt ws.reverse ws=true then ws.reverse else ws)):=by
  rw[<-JO];unfold r9 tupI;cb_eq;rw[pL,pL];cb_eq;split<;>rfl
 simp only[zh,dU];simp_all
theorem xb{α:Type}[DecidableEq α]:∀{l m:List α},l.Nodup->(∀x∈l,x∈m)->l.length<=m.length
 |[],_,_,_=>dn _
 |x::l,m,h,s=>by
  obtain⟨c,d⟩:=o8.mp h;have a:=s x bW
  have:=xb d λ y b=>(JA (λ e:y=x=>c (e▸b))).mpr (s y (cT _ b))
  have p:=Do a;rw[Jt a]at this;rw[eX];exact LS this p
def dG(s:Int)(p:Int×Int):Int×Int:=(s+p.1,s+p.2)
def hT(m o:Nat):bK:=(dP m).flatMap λ(p:Nat)=>(dP o).map λ(q:Nat)=>((p:Int),(m:Int)+(q:Int))
def C6(x:D):Nat:=((bY x).getD (0,0)).2
mutual
def cK:D->List (Int×Int)
 | .tup [.str w,.tup y]=>jk y (w=="across") 0
 |_=>[]
def jk:List D->Bool->Nat->List (Int×Int)
 |[],_,_=>[]
 |y::s,b,m=>((cK y).map (dG m)++(if b then hT m (C6 y)else[]))++jk s b (m+C6 y)
end
def Rp(m o:Nat):(hT m o).length=m*o:=by
 unfold hT;rw[List.length_flatMap];simp only[bb,sF];rw[List.map_const',List.sum_replicate_nat,sF]
def abd(s:Int)(m:Nat):eB s (s+m)=(dP m).map λ(k:Nat)=>.int (s+(k:Int)):=by
 unfold eB
 grind
def Rq(m:Nat):eB 0 (m:Int)=(dP m).map λ(k:Nat)=>.int (k:Int):=by
 have:=abd 0 m
 simpa using this
def Ij(w:Str):cq false (.str w) (.str "across")= .ok (.bl (w=="across")):=by rfl
def C7{y:D}{s:List D}{d o:Nat}(h:dj (y::s)=some (d,o)):∃b a c o2,bY y=some (b,a)/\dj s=some (c,o2)/\b<=d/\c<=d/\o=a+o2/\C6 y=a:=by
 simp only[dj]at h;cases x:bY y with
 |none=>simp_all
 |some p=>
  rw[x]at h;cases r:dj s with
  |none=>simp_all
  |some q=>
   rw[r]at h;simp at h;exact⟨p.1,p.2,q.1,q.2,rfl,rfl,by lia,by lia,by simp_all,by simp[C6,x]⟩
def Rr(m o:Nat):(m+o)*(m+o)=m*m+m*o+(m*o+o*o):=by
 rw[Nat.add_mul,Nat.mul_add,Nat.mul_add,xG o m]
def Ik{a b:Nat}(h:a<=b):a*a<=b*b:=J7 h h
def Rt{x:D}(h:jP x):cq false x bV= .ok (.bl (kM x)):=by
 rw[Qy h.2 h.1 rfl];rfl
structure Il(m o:Nat)(T:bK):Prop where
 rg:∀p∈T,0<=p.1/\p.1<p.2/\(m:Int)<=p.2/\p.2<((m+o:Nat):Int)
 nd:T.Nodup
 len:T.length+m*m<=(m+o)*(m+o)
def C8{m o:Nat}{p:Int×Int}:p∈hT m o↔0<=p.1/\p.1<m/\(m:Int)<=p.2/\p.2<((m+o:Nat):Int):=by
 unfold hT;simp only[qB,cX,kl];constructor
 .rintro⟨a,ha,b,c,rfl⟩
  lia
 .intro h
  refine⟨p.1.toNat,by simp_all,(p.2-m).toNat,by omega,sM ?_ ?_⟩<;>dsimp only<;>omega
theorem Ru{α β:Type}{f:α->List β}:∀{l:List α},l.Nodup->(∀a∈l,(f a).Nodup)->(∀a∈l,∀b∈l,a≠b->∀x∈f a,x∉f b)->(l.flatMap f).Nodup
 |[],_,_,_=>nO
 |a::l,h,i,j=>by
  obtain⟨ha,k⟩:=o8.mp h;rw[uW,mG];refine⟨i a bW,Ru k (λ b d=>i b (cT _ d)) (λ b d c m=>j b (cT _ d) c (cT _ m)),λ x n y g e=>?_⟩;subst e;obtain⟨b,d,g⟩:=qB.mp g;exact j a bW b (cT _ d) (λ e=>ha (e▸d)) x n g
def xc{α β:Type}{f:α->β}{l:List α}(h:l.Nodup)(i:∀a∈l,∀b∈l,f a=f b->a=b):(l.map f).Nodup:=by
 induction l with
 |nil=>exact nO
 |cons a l g=>
  obtain⟨ha,j⟩:=o8.mp h;rw[dH,o8];refine⟨λ m=>?_,g j λ b d c k=>i b (cT _ d) c (cT _ k)⟩;obtain⟨b,d,e⟩:=cX.mp m
  have:=i b (cT _ d) a bW e
  simp_all
def abe(m o:Nat):(hT m o).Nodup:=by
 refine Ru z9 (λ a _=>xc z9 λ b _ c _ e=>?_) (λ a _ b _ n x h y=>?_)<;>grind
theorem Rv{n:Nat}(I:∀(x:D) (d o:Nat),bY x=some (d,o)->d<=n->Il 0 o (cK x)){b:Bool}:∀(s:List D) (m d o:Nat),dj s=some (d,o)->d<=n->Il m o (jk s b m)
 |[],m,d,o,h,_=>by
  simp only[dj,Ao,DK]at h;obtain⟨rfl,rfl⟩:=h;rw[jk];exact⟨λ p a=>(nomatch a),nO,by simp⟩
 |y::s,m,d,o,h,l=>by
  obtain⟨r,c,t,o2,u,v,l1,l2,rfl,w⟩:=C7 h;have A:=I y r c u (Bc l l1);have B:=Rv I (b:=b) s (m+c) t o2 v (Bc l l2);have i:∀p∈(cK y).map (dG m),(m:Int)<=p.1/\p.1<p.2/\p.2<((m+c:Nat):Int):=λ p a=>by
   obtain⟨q,f,rfl⟩:=cX.mp a
   have:=A.rg q f
   simp only[dG];exact SR this
  have j:∀p∈(if b=true then hT m c else[]),0<=p.1/\p.1<m/\(m:Int)<=p.2/\p.2<((m+c:Nat):Int):=λ p a=>by
   split at a
   .exact C8.mp a
   .cases a
  rw[jk,w];refine⟨λ p a=>?_,?_,?_⟩
  .rcases cu.mp a with a|a
   .rcases cu.mp a with a|a
    .have:=i p a
     grind
    .have:=j p a
     grind
   .have:=B.rg p a
    exact SM this
  .rw[mG,mG]
   refine⟨⟨xc A.nd λ p _ q _ e=>?_,?_,λ p a q f e=>?_⟩,B.nd,λ p a q f e=>?_⟩
   .have g:=congrArg DJ e
    have k:=congrArg Prod.snd e;simp only[dG]at g k;exact sM (by simp_all) (by simp_all)
   .split
    .exact abe m c
    .exact nO
   .subst e
    have g:=i p a;have k:=j p f;omega
   .subst e
    have z:=B.rg p f;rcases cu.mp a with a|a
    .have:=i p a
     omega
    .have:=j p a
     omega
  .rw[cy,cy,bb]
   have g:=A.len;have k:=B.len;have z:(if b=true then hT m c else[]).length<=m*c:=by
    split
    .rw[Rp];exact bc _
    .exact dn _
   have C:=Rr m c;rw[<-qE];simp only[uZ,Nat.mul_zero,xF]at g
   grind
theorem C9:∀(n:Nat) (x:D) (d o:Nat),bY x=some (d,o)->d<=n->Il 0 o (cK x)
 |0,x,d,o,h,b=>by have:=CQ h;simp_all
 |n+1,x,d,o,h,b=>by
  cases c1:kM x with
  |true=>
   have:=wO c1
   subst this;have e:cK bV=[]:=by rfl
   rw[e];exact⟨λ p c=>(nomatch c),nO,by simp⟩
  |false=>
   cases c2:kL x with
   |false=>rw[zx c1 c2]at h;cases h
   |true=>
    obtain⟨w,y,rfl,i,l⟩:=zw c2;rw[l]at h;cases a:dj y with
    |none=>simp_all
    |some q=>
     rw[a]at h;obtain⟨f,g⟩:=q;cases h;exact Rv (C9 n) y 0 f g a (by simp_all)
def Rw{x:D}{d o:Nat}(h:bY x=some (d,o)):(cK x).length<=o*o:=by
 have:=(C9 d x d o h (bc _)).len
 simp_all
def Im:af->ax:=tZ 2 (e8 (eA (aa 5)) [none,none,some 1] (eP 2 (bM (aD 0) (bM (aD 1) e7))) gH (bC (ae (ai bZ (bO (aa 2)) (bO (aa 0))) (ae (ai bZ (bO (aa 2)) (bO (aa 1))) aj))))
def uJ:af->ax:=(tZ 2 (e8 (gs hI (ae (aa 4) aj)) [none,some 6,some 1] (aD 0) gH (bC (ae (bO (aa 1)) (ae (ai bZ (bO (aa 2)) (bO (aa 0))) aj)))))
def uK(R:List D->ag D):af->ax:=
   (aM (kB (bt R (ae (aa 3) aj)) (eP 2 (bM (aD 4) (bM (aD 5) e7))))
   (aM Im
   (aM (de (bD (ai (cq false) (ai aF (aa 0) (aq (.int 0))) (aq (.str "across"))))
    (gh (gs hI (ae (aa 1) aj)) (aD 6) uJ)
    ax.nx)
   (dD 1 (ai bZ (aa 1) (aa 4))))))
def abf{x y a:D}{m:Nat}{L B:bK}{t6:Slot}(h:L.length+B.length<=16000000):
  Im [.sh x,.sh (.int m),.ow (.lst (L.map bh)),.sh y,.sh a,.sh (.lst (B.map bh)),t6]= .nx [.sh x,.sh (.int m),.ow (.lst ((L++B.map (dG m)).map bh)),.sh y,.sh a,.sh (.lst (B.map bh)),t6]:=by
 have e:e8 (eA (aa 5)) [none,none,some 1] (eP 2 (bM (aD 0) (bM (aD 1) e7))) gH (bC (ae (ai bZ (bO (aa 2)) (bO (aa 0))) (ae (ai bZ (bO (aa 2)) (bO (aa 1))) aj))) [.sh x,.sh (.int m),.ow (.lst (L.map bh)),.sh y,.sh a,.sh (.lst (B.map bh)),t6]= .ok (.lst (B.map λ p=>bh (dG m p))):=by
  refine oN (ds:=B.map bh) (by simp[shE,nt]) (by rw[bb];lia) ?_;have s:fJ [none,none,some 1] (shE [.sh x,.sh (.int m),.ow (.lst (L.map bh)),.sh y,.sh a,.sh (.lst (B.map bh)),t6])=[.no,.no,.sh (.int m)]:=by rfl
  rw[s];exact wV B λ p _=>⟨[.sh (.int p.1),.sh (.int p.2),.sh (.int m)],by simp[bh],by simp[bh,dG]⟩
 unfold Im
 show(e8 _ _ _ _ _ _).bo _=_
 rw[e,ez];unfold tY;cb_eq;have z:aI=16777216:=rfl;rw[if_pos (by simp only[bb];lia),hW,fW];rfl
def row(m o p:Nat):bK:=(dP o).map λ(q:Nat)=>((p:Int),(m:Int)+(q:Int))
def abg{x y a:D}{m o p:Nat}{L:bK}(h:L.length<=100000)(b:o<=100):
  uJ [.sh x,.sh (.int m),.ow (.lst (L.map bh)),.sh y,.sh (.int o),.sh a,.sh (.int p)]= .nx [.sh x,.sh (.int m),.ow (.lst ((L++row m o p).map bh)),.sh y,.sh (.int o),.sh a,.sh (.int p)]:=by
 have e:e8 (gs hI (ae (aa 4) aj)) [none,some 6,some 1] (aD 0) gH (bC (ae (bO (aa 1)) (ae (ai bZ (bO (aa 2)) (bO (aa 0))) aj))) [.sh x,.sh (.int m),.ow (.lst (L.map bh)),.sh y,.sh (.int o),.sh a,.sh (.int p)]= .ok (.lst ((dP o).map λ(q:Nat)=>bh ((p:Int),(m:Int)+(q:Int)))):=by
  have r:=ui (j:=(o:Int)) (by simp) (by lia);rw[Rq]at r;refine oN (ds:=(dP o).map λ(k:Nat)=>.int (k:Int)) (by simp[shE,nt,r]) (by simp;omega) ?_;have s:fJ [none,some 6,some 1] (shE [.sh x,.sh (.int m),.ow (.lst (L.map bh)),.sh y,.sh (.int o),.sh a,.sh (.int p)])=[.no,.sh (.int p),.sh (.int m)]:=by simp[fJ,shE,nt]
  rw[s];exact wV _ λ q _=>⟨[.sh (.int q),.sh (.int p),.sh (.int m)],by simp,by simp[bh]⟩
 unfold uJ tZ;simp only[qv,sy];rw[e,ez];unfold tY;cb_eq;have z:aI=16777216:=rfl;rw[if_pos (by simp only[bb,sF];omega),hW];unfold row;rw[fW];rfl
theorem Rx{x y a:D}{m o:Nat}(b:o<=100):∀(ps:List Nat) (L:bK) (t6:Slot),L.length+ps.length*o<=100000->
  ∃u,forL (aD 6) uJ (ps.map λ(k:Nat)=>.int (k:Int)) [.sh x,.sh (.int m),.ow (.lst (L.map bh)),.sh y,.sh (.int o),.sh a,t6]= .nx [.sh x,.sh (.int m),.ow (.lst ((L++ps.flatMap (row m o)).map bh)),.sh y,.sh (.int o),.sh a,u]
 |[],L,t6,_=>⟨t6,by simp[forL]⟩
 |p::ps,L,t6,h=>by
  rw[eX,Nat.add_mul]at h;have l:(row m o p).length=o:=by simp[row]
  obtain⟨u,e⟩:=Rx b ps (L++row m o p) (.sh (.int p)) (by rw[cy,l];grind);refine⟨u,?_⟩;rw[dH,qb,oE,mB]
  show(uJ [.sh x,.sh (.int m),.ow _,.sh y,.sh (.int o),.sh a,.sh (.int p)]).tn _=_
  rw[abg (by lia) b,ug,e,uW,fL]
def abh{R:List D->ag D}{w:Str}{z y:D}{m o:Nat}{A:bK}{t3 t4 t5 t6:Slot}(d:R [y]= .ok (.tup [.int o,.lst ((cK y).map bh)]))(f:m<=100)(b:o<=100)(p:A.length<=10000)(t:(cK y).length<=10000):
  ∃g i k u,mz (aD 3 y [.sh (.tup [.str w,z]),.sh (.int m),.ow (.lst (A.map bh)),t3,t4,t5,t6]) (uK R)= .nx [.sh (.tup [.str w,z]),.sh (.int (m+o:Nat)),.ow (.lst ((A++((cK y).map (dG m)++(if (w=="across")=true then hT m o else[]))).map bh)),g,i,k,u]:=by
 have c1:kB (bt R (ae (aa 3) aj)) (eP 2 (bM (aD 4) (bM (aD 5) e7))) [.sh (.tup [.str w,z]),.sh (.int m),.ow (.lst (A.map bh)),.sh y,t4,t5,t6]= .nx [.sh (.tup [.str w,z]),.sh (.int m),.ow (.lst (A.map bh)),.sh y,.sh (.int o),.sh (.lst ((cK y).map bh)),t6]:=by
  simp[kB,d]
 have c2:=abf (x:=.tup [.str w,z]) (y:=y) (a:=.int o) (m:=m) (L:=A) (B:=cK y) (t6:=t6) (by lia);have l:m*o<=100*100:=J7 f b;obtain⟨u,e⟩:=Rx (x:=.tup [.str w,z]) (y:=y) (a:=.lst ((cK y).map bh)) (m:=m) b (dP m) (A++(cK y).map (dG m)) t6 (by rw[cy,bb,sF];lia);have r:=ui (j:=(m:Int)) (by simp) (by lia);rw[Rq]at r;have n:hT m o=(dP m).flatMap (row m o):=rfl;by_cases h:(w=="across")=true
 .refine⟨.sh y,.sh (.int o),.sh (.lst ((cK y).map bh)),u,?_⟩
  have c:de (bD (ai (cq false) (ai aF (aa 0) (aq (.int 0))) (aq (.str "across"))))
    (gh (gs hI (ae (aa 1) aj)) (aD 6) uJ)
    ax.nx [.sh (.tup [.str w,z]),.sh (.int m),.ow (.lst ((A++(cK y).map (dG m)).map bh)),.sh y,.sh (.int o),.sh (.lst ((cK y).map bh)),t6]= .nx [.sh (.tup [.str w,z]),.sh (.int m),.ow (.lst ((A++((cK y).map (dG m)++hT m o)).map bh)),.sh y,.sh (.int o),.sh (.lst ((cK y).map bh)),u]:=by
   rw[<-fL,n,<-e];simp only[lG,uf,kJ,Qf];simp[Ij,h,r]
  rw[oE,mB];show uK R [.sh (.tup [.str w,z]),.sh (.int m),.ow (.lst (A.map bh)),.sh y,t4,t5,t6]=_;unfold uK;rw[bQ,c1,ck,bQ,c2,ck,bQ,c,ck,if_pos h];simp
 .refine⟨.sh y,.sh (.int o),.sh (.lst ((cK y).map bh)),t6,?_⟩
  have c:de (bD (ai (cq false) (ai aF (aa 0) (aq (.int 0))) (aq (.str "across"))))
    (gh (gs hI (ae (aa 1) aj)) (aD 6) uJ)
    ax.nx [.sh (.tup [.str w,z]),.sh (.int m),.ow (.lst ((A++(cK y).map (dG m)).map bh)),.sh y,.sh (.int o),.sh (.lst ((cK y).map bh)),t6]= .nx [.sh (.tup [.str w,z]),.sh (.int m),.ow (.lst ((A++(cK y).map (dG m)).map bh)),.sh y,.sh (.int o),.sh (.lst ((cK y).map bh)),t6]:=by
   simp[Ij,h]
  rw[oE,mB];show uK R [.sh (.tup [.str w,z]),.sh (.int m),.ow (.lst (A.map bh)),.sh y,t4,t5,t6]=_;unfold uK;rw[bQ,c1,ck,bQ,c2,ck,bQ,c,ck,if_neg h,fo];simp
def Ry(n:Nat):Prop:=∀(x:D) (d o:Nat),bY x=some (d,o)->d<=n->jP x->o<=40->uy n [x]= .ok (.tup [.int o,.lst ((cK x).map bh)])
theorem Rz{n:Nat}(I:Ry n){w:Str}{z:D}:∀(s:List D) (m d o:Nat) (A:bK) (t3 t4 t5 t6:Slot),dj s=some (d,o)->d<=n->m+o<=40->(∀y∈s,jP y)->A.length<=m*m->
  ∃u b c e,forL (aD 3) (uK (uy n)) s [.sh (.tup [.str w,z]),.sh (.int m),.ow (.lst (A.map bh)),t3,t4,t5,t6]= .nx [.sh (.tup [.str w,z]),.sh (.int (m+o:Nat)),.ow (.lst ((A++jk s (w=="across") m).map bh)),u,b,c,e]
 |[],m,d,o,A,t3,t4,t5,t6,h,_,_,_,j=>by
  simp only[dj,Ao,DK]at h;obtain⟨rfl,rfl⟩:=h;exact⟨t3,t4,t5,t6,by simp[jk,forL]⟩
 |y::s,m,d,o,A,t3,t4,t5,t6,h,f,H,S,j=>by
  obtain⟨k,a,l,o2,g,p,l1,l2,rfl,r⟩:=C7 h;have R:=I y k a g (Bc f l1) (S y bW) (by lia);have L:=Rw g;have J:=Ik (show a<=40 by lia);have K:=Ik (show m<=40 by lia);obtain⟨u,b,c,e,i⟩:=abh (w:=w) (z:=z) (m:=m) (A:=A) (t3:=t3) (t4:=t4) (t5:=t5) (t6:=t6) R (by lia) (by lia) (by lia) (by lia);have M:=Rr m a;have N:=Rp m a;have t:(A++((cK y).map (dG m)++(if (w=="across")=true then hT m a else[]))).length<=(m+a)*(m+a):=by
   rw[cy,cy,bb];split
   .lia
   .simp;lia
  obtain⟨v,x,B,C,E⟩:=Rz I (w:=w) (z:=z) s (m+a) l o2 (A++((cK y).map (dG m)++(if (w=="across")=true then hT m a else[]))) u b c e p (Bc f l2) (by lia) (λ q F=>S q (cT _ F)) t;have G:jk (y::s) (w=="across") m=((cK y).map (dG m)++(if (w=="across")=true then hT m a else[]))++jk s (w=="across") (m+a):=by
   rw[jk,r]
  refine⟨v,x,B,C,?_⟩;rw[oE,mB]at i;rw[qb,oE,mB,i,ug,E,G,fL A,qE]
def abi(R:List D->ag D):cG R=aM (de (bD (ai (cq false) (aa 0) (bC (ae (aq (.str "one")) aj))))
   (retS (bC (ae (aq (.int 1)) (ae (dm aj) aj))))
   ax.nx)
  (aM (dD 1 (aq (.int 0)))
  (aM (ot 2 (dm aj))
  (aM (gh (eA (ai aF (aa 0) (aq (.int 1)))) (aD 3) (uK R))
  (retS (bC (ae (bO (aa 1)) (ae (tQ 2) aj))))))):=rfl
theorem RA:∀n,Ry n
 |0,x,d,o,h,c,_,_=>by have:=CQ h;simp_all
 |n+1,x,d,o,h,c,S,g=>by
  have a:cq false x (.tup [.str "one"])= .ok (.bl (kM x)):=Rt S;show dN 7 (cG (uy n)) [x]=_;have st:dw 7 [x]=[.sh x,.no,.no,.no,.no,.no,.no]:=rfl;rw[abi,fU,st];cases c1:kM x with
  |true=>
   have:=wO c1
   subst this;rw[uB]at h;cases h;rw[c1]at a
   have:cK bV=[]:=by simp[bV,cK]
   rw[this];simp[a]
  |false=>
   rw[c1]at a;cases c2:kL x with
   |false=>rw[zx c1 c2]at h;cases h
   |true=>
    obtain⟨w,y,rfl,i,l⟩:=zw c2;rw[l]at h;cases b:dj y with
    |none=>rw[b]at h;cases h
    |some q=>
     rw[b]at h;obtain⟨e,f⟩:=q;cases h;obtain⟨u,j,k,m,p⟩:=Rz (RA n) (w:=w) (z:=.tup y) y 0 e f [] .no .no .no .no b (by omega) (by simp_all) (CR S) (by simp);have t:cK (.tup [.str w,.tup y])=jk y (w=="across") 0:=by rw[cK]
     simp_all
def xf(a b:Int):Int:=if b<a then b else a
def xg(a b:Int):Int:=if b>a then b else a
def abj(a b:Int):(xf a b=a/\xg a b=b)\/(xf a b=b/\xg a b=a):=by
 unfold xf xg;lia
def jm(a b:Int):Int×Int:=(xf a b,xg a b)
def jn:List Int->List (Int×Int)
 |a::b::r=>jm a b::jn (b::r)
 |_=>[]
def RC(a b:Int):((jm a b).1=a/\(jm a b).2=b)\/((jm a b).1=b/\(jm a b).2=a):=abj a b
def Io(a b:Int):jm a b=jm b a:=by
 unfold jm xf xg
 grind
theorem Ip:∀{u v:List Int} {p:Int×Int},p∈jn (u++v)->p∈jn u\/p∈jn v\/∃a∈u,∃b,v.head?=some b/\p=jm a b
 |[],v,p,h=>.inr (.inl h)
 |[a],[],p,h=>.inl h
 |[a],b::v,p,h=>by
  rcases bI.mp h with rfl|h
  .exact .inr (.inr ⟨a,bW,b,rfl,rfl⟩)
  .exact .inr (.inl h)
 |a::c::u,v,p,h=>by
  rcases bI.mp h with rfl|h
  .exact .inl (bW)
  .rcases Ip (u:=c::u) h with h|h|⟨x,d,b,f,e⟩
   .exact .inl (cT _ h)
   .exact .inr (.inl h)
   .exact .inr (.inr ⟨x,cT _ d,b,f,e⟩)
def fV:cf->List (List Int)->List Int
 |[],_=>[]
 |w::ws,[]=>w++fV ws []
 |w::ws,b::bs=>w++(b++fV ws bs)
theorem zK:∀{ws bs:cf},bs.length<=ws.length->(fV ws bs).Perm (ws.flatten++bs.flatten)
 |[],[],_=>.refl _
 |[],b::bs,h=>by simp_all
 |w::ws,[],h=>by
  have:=zK (ws:=ws) (bs:=[]) (dn _)
  rw[iV,fL];exact this.append_left w
 |w::ws,b::bs,h=>by
  have:=zK (by simpa using h)
  rw[iV,iV,fL];refine Af w ?_;refine(this.append_left b).trans ?_;rw[<-fL,<-fL];exact List.Perm.append_right _ xq
def abk{w:List Int}{ws bs:cf}{x:Int}(b:w≠[])(h:(fV (w::ws) bs).head?=some x):x∈w:=by
 cases w with
 |nil=>contradiction
 |cons a w=>
  cases bs<;>simp[fV]at h<;>simp[h]
theorem Iq:∀{ws bs:cf} {p:Int×Int},ws.length<=bs.length+1->(∀w∈ws,w≠[])->(∀w∈bs,w≠[])->p∈jn (fV ws bs)->p∈ws.flatMap jn\/p∈bs.flatMap jn\/∃a∈ws.flatten,∃b∈bs.flatten,p=jm a b
 |[],bs,p,_,_,_,h=>(nomatch h)
 |w::ws,[],p,l,_,_,h=>by
  have:ws=[]:=uR.mp (by simpa using l)
  subst this;rw[fV,fV,fo]at h;exact .inl (by simpa using h)
 |w::ws,b::bs,p,l,i,j,h=>by
  have k:=@Iq ws bs p (by simpa using l) (λ v g=>i v (cT _ g)) (λ v g=>j v (cT _ g));have m:=j b bW;rw[fV]at h;simp only[uW,iV,cu];rcases Ip h with h|h|⟨x,f,y,d,e⟩
  .exact .inl (.inl h)
  .rcases Ip h with h|h|⟨x,f,y,d,e⟩
   .exact .inr (.inl (.inl h))
   .rcases k h with h|h|⟨x,f,y,d,e⟩
    .exact .inl (.inr h)
    .exact .inr (.inl (.inr h))
    .exact .inr (.inr ⟨x,.inr f,y,.inr d,e⟩)
   .cases ws with
    |nil=>simp[fV]at d
    |cons v ws=>
     have:=abk (i v (cT _ bW)) d
     exact .inr (.inr ⟨y,.inr (sG.mpr ⟨v,bW,this⟩),x,.inl f,by rw[e,Io]⟩)
  .cases b with
   |nil=>exact absurd rfl m
   |cons c b=>
    simp at d;subst d;exact .inr (.inr ⟨x,.inl f,c,.inl bW,e⟩)
inductive lJ(T:bK)(B:List Int)(x:Int):Int->Prop where
 |refl:lJ T B x x
 |step {y z:Int} (h:lJ T B x y) (e:(y,z)∈T\/(z,y)∈T) (b:z∉B):lJ T B x z
def lJ.mono{T a:bK}{B B':List Int}{x y:Int}(h:lJ T B x y)(c:∀p∈T,p∈a)(d:∀u v,((u,v)∈T\/(v,u)∈T)->v∉B->v∉B'):lJ a B' x y:=by
 induction h with
 |refl=>exact .refl
 |step _ e b i=>exact .step i (e.imp (c _) (c _)) (d _ _ e b)
structure fm(T:bK)(lo hi:Int)(P:List Int)(W:cf)(B:List Int):Prop where
 pn:P.Nodup
 pm:∀x,x∈P↔lo<=x/\x<hi
 fl:W.flatten.Perm P
 ne:∀w∈W,w≠[]
 ad:∀p∈W.flatMap jn,p∈T
 bn:B.Nodup
 bs:∀x∈B,x∈P
 lb:∃(reps:List Int) (f:Int->Nat),(∀p∈T,p.1∉B->p.2∉B->f p.1=f p.2)/\(∀r∈reps,r∈P/\r∉B)/\(reps.map f).Nodup/\(∀x∈P,x∉B->f x∈reps.map f)/\reps.length=W.length+B.length/\∀x∈P,x∉B->∀y∈P,y∉B->f x=f y->lJ T B x y
def xh(l h:Int)(T:bK):Prop:=∀p∈T,(l<=p.1/\p.1<h)/\(l<=p.2/\p.2<h)
def abl(s:Int):fm [] s s [] [] []:=⟨nO,λ x=>by simp,.refl _,λ w h=>(nomatch h),λ p h=>(nomatch h),nO,λ x h=>(nomatch h),[],λ _=>0,λ p h=>(nomatch h),λ r h=>(nomatch h),nO,λ x h=>(nomatch h),rfl,λ x h=>(nomatch h)⟩
def abm(s:Int):fm [] s (s+1) [s] [[s]] []:=⟨by simp,λ x=>by simp;omega,.refl _,by simp,λ p h=>(nomatch h),nO,λ x h=>(nomatch h),[s],λ _=>0,λ p h=>(nomatch h),by simp,by simp,by simp,rfl,λ x a _ y b _ _=>by
  rw[kj.mp a,kj.mp b];exact .refl⟩
section
variable{T c:bK}{l mid i:Int}{P P' B B':List Int}{W W':cf}
def fm.len(K:fm T l i P W B):P.length=(i-l).toNat:=by
 have h:P.Perm ((eI (i-l)).map λ x=>l+x):=(Js K.pn (xc (QW _) λ a _ b _ e=>by simp_all)).mpr λ x=>by
  rw[K.pm,cX];constructor
  .intro h
   exact⟨x-l,oO.mpr (by simp_all),by lia⟩
  .rintro⟨y,c,rfl⟩
   have:=oO.mp c
   lia
 rw[h.length_eq,bb,uF]
def fm.app(K:fm T l mid P W B)(a:fm c mid i P' W' B')(d:l<=mid)(f:mid<=i):(P++P').Nodup/\(∀x,x∈P++P'↔l<=x/\x<i)/\(P'++P).Nodup/\∀x,x∈P'++P↔l<=x/\x<i:=by
 have nd:=mG.mpr ⟨K.pn,a.pn,λ x h y b e=>by
  subst e
  have:=(K.pm x).mp h
  have:=(a.pm x).mp b
  lia⟩
 have mm:∀x,x∈P++P'↔l<=x/\x<i:=λ x=>by
  rw[cu,K.pm,a.pm];omega
 exact⟨nd,mm,xq.nodup_iff.mp nd,λ x=>by rw[xq.mem_iff];exact mm x⟩
def abn(K:fm T l mid P W B)(d:fm c mid i P' W' B')(S:l<=mid)(U:mid<=i)(G:xh l mid T)(H:xh mid i c):fm (T++c) l i (P++P') (W++W') (B++B'):=by
 obtain⟨nd,mm,_,_⟩:=K.app d S U;obtain⟨I,f,l1,l2,V,X,Y,Z⟩:=K.lb;obtain⟨n,D,m1,J,m3,m4,m5,m6⟩:=d.lb;have o:∀x,x<mid->(x∉B++B'↔x∉B):=λ x m=>by
  rw[cu,not_or];exact⟨λ z=>z.1,λ z=>⟨z,λ q=>by have:=(d.pm x).mp (d.bs x q);lia⟩⟩
 have g:∀x,mid<=x->(x∉B++B'↔x∉B'):=λ x m=>by
  rw[cu,not_or];exact⟨λ z=>z.2,λ z=>⟨λ q=>by have:=(K.pm x).mp (K.bs x q);lia,z⟩⟩
 refine⟨nd,mm,by rw[uU];exact K.fl.append d.fl,λ w h=>?_,λ p h=>?_,mG.mpr ⟨K.bn,d.bn,λ x m y C e=>?_⟩,λ x h=>?_,I++n,λ x=>if x<mid then 2*f x else 2*D x+1,λ p h E F=>?_,λ r h=>?_,?_,λ x h q=>?_,?_,λ x m N y C O e=>?_⟩
 .rcases cu.mp h with h|h
  .exact K.ne w h
  .exact d.ne w h
 .rw[Dp]at h
  rcases cu.mp h with h|h
  .exact fQ _ (K.ad p h)
  .exact gz _ (d.ad p h)
 .subst e
  have:=(K.pm x).mp (K.bs x m)
  have:=(d.pm x).mp (d.bs x C)
  lia
 .rcases cu.mp h with h|h
  .exact fQ _ (K.bs x h)
  .exact gz _ (d.bs x h)
 .rcases cu.mp h with h|h
  .have:=G p h
   rw[o p.1 this.1.2]at E;rw[o p.2 this.2.2]at F;cb_eq;rw[if_pos this.1.2,if_pos this.2.2,l1 p h E F]
  .have:=H p h
   rw[g p.1 this.1.1]at E;rw[g p.2 this.2.1]at F;cb_eq;rw[if_neg (by simp_all),if_neg (by simp_all),m1 p h E F]
 .rcases cu.mp h with h|h
  .have:=l2 r h
   have j:=(K.pm r).mp this.1;exact⟨fQ _ this.1,(o r j.2).mpr this.2⟩
  .have:=J r h
   have j:=(d.pm r).mp this.1;exact⟨gz _ this.1,(g r j.1).mpr this.2⟩
 .have e1:I.map (λ x=>if x<mid then 2*f x else 2*D x+1)=(I.map f).map λ k=>2*k:=by
   rw[fW];exact sC λ r j=>if_pos ((K.pm r).mp (l2 r j).1).2
  have e2:n.map (λ x=>if x<mid then 2*f x else 2*D x+1)=(n.map D).map λ k=>2*k+1:=by
   rw[fW];exact sC λ r j=>if_neg (by have:=(d.pm r).mp (J r j).1;simp_all)
  rw[hW,e1,e2];refine mG.mpr ⟨xc V λ a _ b _ e=>Mb e,xc m3 λ a _ b _ e=>L9 e,λ x m y C e=>?_⟩;obtain⟨a,_,rfl⟩:=cX.mp m;obtain⟨b,_,rfl⟩:=cX.mp C;lia
 .rw[hW,cu]
  rcases cu.mp h with h|h
  .have m:=(K.pm x).mp h
   rw[o x m.2]at q;obtain⟨r,j,e⟩:=cX.mp (X x h q);refine .inl (cX.mpr ⟨r,j,?_⟩);cb_eq;rw[if_pos ((K.pm r).mp (l2 r j).1).2,if_pos m.2,e]
  .have m:=(d.pm x).mp h
   rw[g x m.1]at q;obtain⟨r,j,e⟩:=cX.mp (m4 x h q);refine .inr (cX.mpr ⟨r,j,?_⟩);have hr2:=(d.pm r).mp (J r j).1;cb_eq;rw[if_neg (by simp_all),if_neg (by simp_all),e]
 .rw[cy,cy,cy,Y,m5]
  lia
 .dsimp only at e
  have Q:=(mm x).mp m;have R:=(mm y).mp C;by_cases A:x<mid
  .by_cases s:y<mid
   .rw[if_pos A,if_pos s]at e
    refine(Z x ((K.pm x).mpr ⟨Q.1,A⟩) ((o x A).mp N) y ((K.pm y).mpr ⟨R.1,s⟩) ((o y s).mp O) (Mb e)).mono (λ p L=>fQ _ L) λ u v t M=>(o v ?_).mpr M
    rcases t with h|h
    .exact(G _ h).2.2
    .exact(G _ h).1.2
   .rw[if_pos A,if_neg s]at e
    lia
  .by_cases s:y<mid
   .rw[if_neg A,if_pos s]at e
    lia
   .rw[if_neg A,if_neg s]at e
    refine(m6 x ((d.pm x).mpr ⟨by simp_all,Q.2⟩) ((g x (by simp_all)).mp N) y ((d.pm y).mpr ⟨by simp_all,R.2⟩) ((g y (by simp_all)).mp O) (L9 e)).mono (λ p L=>gz _ L) λ u v t M=>(g v ?_).mpr M
    rcases t with h|h
    .exact(H _ h).2.1
    .exact(H _ h).1.1
def uL(P P':List Int)(C:bK):Prop:=∀p,p∈C↔∃a∈P,∃b∈P',p=jm a b
def uL.symm{C:bK}(h:uL P P' C):uL P' P C:=λ p=>by
 rw[h p];constructor
 .rintro⟨a,ha,b,c,e⟩;exact⟨b,c,a,ha,by rw[e,Io]⟩
 .rintro⟨a,ha,b,c,e⟩;exact⟨b,c,a,ha,by rw[e,Io]⟩
def RD{l i:Int}{C Q:bK}(m:(P++P').Nodup)(M:∀x,x∈P++P'↔l<=x/\x<i)(N:W.flatten.Perm P)(o:∀w∈W,w≠[])(O:∀p∈W.flatMap jn,p∈Q)(X:B.Nodup)(bs:∀x∈B,x∈P)
  (lb:∃(s:List Int) (f:Int->Nat),(∀p∈T,p.1∉B->p.2∉B->f p.1=f p.2)/\(∀r∈s,r∈P/\r∉B)/\(s.map f).Nodup/\(∀x∈P,x∉B->f x∈s.map f)/\s.length=W.length+B.length/\∀x∈P,x∉B->∀y∈P,y∉B->f x=f y->lJ T B x y)
  (A:∀p∈T,p∈Q/\p.1∈P/\p.2∈P)(R:uL P P' C)(S:∀p∈Q,p∈T\/p.1∈P'\/p.2∈P')(Y:∀p∈C,p∈Q)(U:P'.length<W.length):
  fm Q l i (P++P') ([fV (W.take (P'.length+1)) (P'.map λ j=>[j])]++W.drop (P'.length+1)) (B++P'):=by
 have d:(P'.map λ j=>[j]).length=P'.length:=bb _;have t:(W.take (P'.length+1)).length=P'.length+1:=by rw[eY];exact Tj U
 have g:(P'.map λ j=>[j]).flatten=P':=by
  clear m M R S U d t;induction P' with
  |nil=>rfl
  |cons a P' Z=>rw[dH,iV,Z];rfl
 have n:=mG.mp m;obtain⟨rp,f,l1,l2,l3,l4,l5,l6⟩:=lb;have split:W=W.take (P'.length+1)++W.drop (P'.length+1):=(gO _ _).symm;refine⟨m,M,?_,λ w h=>?_,λ p h=>?_,mG.mpr ⟨X,n.2.1,λ x D y E e=>n.2.2 x (bs x D) y E e⟩,λ x h=>?_,rp,f,λ p h F G=>?_,λ r h=>?_,l3,λ x h q=>?_,?_,λ x D H y E I e=>?_⟩
 .rw[uU,iV,xu,fo]
  have k:=zK (ws:=W.take (P'.length+1)) (bs:=P'.map λ j=>[j]) (by rw[d,t];lia);rw[g]at k;refine(k.append_right _).trans ?_;rw[fL];refine(Af _ xq).trans ?_;rw[<-fL,<-uU,gO];exact N.append_right _
 .rcases cu.mp h with h|h
  .rw[kj.mp h]
   intro e;have k:=zK (ws:=W.take (P'.length+1)) (bs:=P'.map λ j=>[j]) (by rw[d,t];lia);rw[e]at k;have J:=k.symm.eq_nil;rw[zY]at J;obtain⟨w,ws,V⟩:=List.exists_cons_of_length_pos (show 0<(W.take (P'.length+1)).length by lia);have c:=o w (kP (by rw[V];exact bW));rw[V,iV,zY]at J;exact c J.1.1
  .exact o w (oU h)
 .rw[Dp]at h
  rcases cu.mp h with h|h
  .rw[uW,JM,fo]at h
   rcases Iq (by rw[d,t];lia) (λ w c=>o w (kP c)) (λ w c=>by obtain⟨j,_,rfl⟩:=cX.mp c;simp) h with h|h|⟨a,ha,b,hb,e⟩
   .obtain⟨w,c,h⟩:=qB.mp h
    exact O p (qB.mpr ⟨w,kP c,h⟩)
   .obtain⟨w,c,h⟩:=qB.mp h
    obtain⟨j,_,rfl⟩:=cX.mp c;cases h
   .rw[g]at hb
    obtain⟨w,c,ha⟩:=sG.mp ha;exact Y p ((R p).mpr ⟨a,N.mem_iff.mp (sG.mpr ⟨w,kP c,ha⟩),b,hb,e⟩)
  .obtain⟨w,c,h⟩:=qB.mp h
   exact O p (qB.mpr ⟨w,oU c,h⟩)
 .rcases cu.mp h with h|h
  .exact fQ _ (bs x h)
  .exact gz _ h
 .rw[cu,not_or]at F G
  rcases S p h with h|h|h
  .exact l1 p h F.1 G.1
  .exact absurd h F.2
  .exact absurd h G.2
 .have:=l2 r h
  exact⟨fQ _ this.1,by rw[cu,not_or];exact⟨this.2,λ z=>n.2.2 r this.1 r z rfl⟩⟩
 .rw[cu,not_or]at q
  rcases cu.mp h with h|h
  .exact l4 x h q.1
  .exact absurd h q.2
 .rw[l5,cy,cy,z7,iJ]
  lia
 .rw[cu,not_or]at H I
  refine(l6 x ((cu.mp D).resolve_right H.2) H.1 y ((cu.mp E).resolve_right I.2) I.1 e).mono (λ p hp=>(A p hp).1) λ u v K hv=>?_
  have L:v∈P:=by
   rcases K with h|h
   .exact(A _ h).2.2
   .exact(A _ h).2.1
  rw[cu,not_or];exact⟨hv,λ z=>n.2.2 v L v z rfl⟩
def abo{C Q:bK}{U d:cf}(N:(P++P').Nodup)(O:∀x,x∈P++P'↔l<=x/\x<i)(m:U.flatten.Perm P)(f:d.flatten.Perm P')(G:∀w∈U,w≠[])(n:∀w∈d,w≠[])(R:∀p∈U.flatMap jn,p∈Q)(o:∀p∈d.flatMap jn,p∈Q)
  (H:uL P P' C)(I:∀p∈C,p∈Q)(S:U.length=d.length)(J:U≠[]):fm Q l i (P++P') [fV U d] []:=by
 have q:=zK (ws:=U) (bs:=d) (by simp_all);obtain⟨w,ws,s⟩:=zW J;have K:=G w (by rw[s];exact bW);obtain⟨x,xs,T⟩:=zW K;have t:x∈P:=m.mem_iff.mp (sG.mpr ⟨w,by rw[s];exact bW,by rw[T];exact bW⟩);refine⟨N,O,?_,λ v h=>?_,λ p h=>?_,nO,λ x h=>(nomatch h),[x],λ _=>0,λ p _ _ _=>rfl,λ r h=>⟨by rw[kj.mp h];exact fQ _ t,λ z=>(nomatch z)⟩,by simp,λ y _ _=>by simp,rfl,λ a ha _ b c _ _=>?_⟩
 rotate_left 3
 .have A:d≠[]:=λ z=>J (uR.mp (by rw[S,z];rfl))
  obtain⟨L,V,j⟩:=zW A;obtain⟨B,W,D⟩:=zW (n L (by rw[j];exact bW));have k:B∈P':=f.mem_iff.mp (sG.mpr ⟨L,by rw[j];exact bW,by rw[D];exact bW⟩);have g:∀u∈P,∀v∈P',((u,v)∈Q\/(v,u)∈Q):=λ u X v Y=>by
   have h:=I _ ((H (jm u v)).mpr ⟨u,X,v,Y,rfl⟩);rcases RC u v with ⟨E,F⟩|⟨E,F⟩
   .exact .inl (by rw[show((u,v):Int×Int)=jm u v from sM E.symm F.symm];exact h)
   .exact .inr (by rw[show((v,u):Int×Int)=jm u v from sM E.symm F.symm];exact h)
  have no:∀z:Int,z∉([]:List Int):=λ z h=>(nomatch h)
  rcases cu.mp ha with ha|ha<;>rcases cu.mp c with c|c
  .exact(lJ.refl.step (g a ha B k) (no _)).step (g b c B k).symm (no _)
  .exact lJ.refl.step (g a ha b c) (no _)
  .exact lJ.refl.step (g b c a ha).symm (no _)
  .exact(lJ.refl.step (g x t a ha).symm (no _)).step (g x t b c) (no _)
 .rw[iV,xu,fo]
  exact q.trans (m.append f)
 .rw[kj.mp h]
  intro e;rw[e]at q;have M:=q.symm.eq_nil;rw[zY,s,iV,zY]at M;exact K M.1.1
 .rw[uW,JM,fo]at h
  rcases Iq (by simp_all) G n h with h|h|⟨a,ha,b,c,e⟩
  .exact R p h
  .exact o p h
  .exact I p ((H p).mpr ⟨a,m.mem_iff.mp ha,b,f.mem_iff.mp c,e⟩)
structure oQ(W U:cf):Prop where
 fl:U.flatten=W.flatten
 ne:∀w∈U,w≠[]
 ad:∀p∈U.flatMap jn,p∈W.flatMap jn
def oQ.refl(h:∀w∈W,w≠[]):oQ W W:=⟨rfl,h,λ _ h=>h⟩
def oQ.cut{A Z:cf}{a b:Int}{r:List Int}(h:oQ W (A++(a::b::r)::Z)):oQ W (A++([a]::(b::r)::Z)):=by
 refine⟨?_,λ w d=>?_,λ p c=>h.ad p ?_⟩
 .rw[<-h.fl]
  simp
 .rcases cu.mp d with d|d
  .exact h.ne w (fQ _ d)
  .rcases bI.mp d with rfl|d
   .simp
   .rcases bI.mp d with rfl|d
    .simp
    .exact h.ne w (gz _ (cT _ d))
 .rw[Dp,cu]at c ⊢
  rcases c with c|c
  .exact .inl c
  .right
   rw[uW];rcases cu.mp c with c|c
   .cases c
   .rcases cu.mp c with c|c
    .exact fQ _ (by rw[jn];exact cT _ c)
    .exact gz _ c
end
theorem RE{c:af->ag Bool}{b:af->ax}{I:Nat->af->Prop}(st:∀m ρ,I m ρ->c ρ= .ok false\/(c ρ= .ok true/\∃a m',b ρ= .nx a/\m'<m/\I m' a)):
  ∀(n m:Nat) (ρ:af),m<n->I m ρ->∃a m',mw c b n ρ= .nx a/\I m' a/\c a= .ok false
 |0,_,_,h,_=>absurd h (Aj _)
 |n+1,m,ρ,h,g=>by
  rcases st m ρ g with e|⟨e,a,m',i,l,d⟩
  .exact⟨ρ,m,by unfold mw;rw[e];rfl,g,e⟩
  .obtain⟨f,j,k,r⟩:=RE st n m' a (by lia) d
   refine⟨f,j,?_,r⟩;unfold mw;rw[e,ez,if_pos rfl,i];exact k
def abp{c:af->ag Bool}{b:af->ax}(I:Nat->af->Prop)(st:∀m ρ,I m ρ->c ρ= .ok false\/(c ρ= .ok true/\∃a m',b ρ= .nx a/\m'<m/\I m' a)){m:Nat}{ρ:af}(d:m<1000000)(h:I m ρ):
  ∃a m',tT c b ρ= .nx a/\I m' a/\c a= .ok false:=RE st fuel m ρ d h
def aH(P:List Int)(W:cf)(B:List Int):D:=.tup [.lst (P.map .int),.lst (W.map tupI),.lst (B.map .int)]
def Da(ws:cf):er (ws.map tupI)=true:=HX λ d h=>by
 obtain⟨w,_,rfl⟩:=cX.mp h;exact sk w
def RF{u v:List Int}(h:u.length+v.length<=100000):p0 (tupI u) (tupI v)= .ok (tupI (u++v)):=by
 unfold p0 tupI;cb_eq;rw[if_pos ⟨by rw[bb,bb,wH];exact EV h,sk u,sk v⟩,hW]
def zM{u v:List Int}(h:u.length+v.length<=100000):iH (.lst (u.map .int)) (.lst (v.map .int))= .ok (.lst ((u++v).map .int)):=by
 unfold iH;cb_eq;rw[if_pos ⟨by rw[bb,bb,wH];exact EV h,sk u,sk v⟩,hW]
def RG{u v:cf}(h:u.length+v.length<=100000):iH (.lst (u.map tupI)) (.lst (v.map tupI))= .ok (.lst ((u++v).map tupI)):=by
 unfold iH;cb_eq;rw[if_pos ⟨by rw[bb,bb,wH];exact EV h,Da u,Da v⟩,hW]
abbrev jo(l:D)(bs:cf)(acc:List Int)(s3 s4:Slot):af:=[.sh l,.sh (.lst (bs.map tupI)),.sh (tupI acc),s3,s4]
def abq{l:D}{bs:cf}{acc w:List Int}{k:Nat}(g:acc.length+w.length<=10000)(h:∀b∈bs,b.length<=10000)(i:bs.length<=10000):zi (jo l bs acc (.sh (.int k)) (.sh (tupI w)))= .nx (jo l bs (acc++(w++(bs[k]?).getD [])) (.sh (.int k)) (.sh (tupI w))):=by
 have a:oB p0 2 (aa 4) (jo l bs acc (.sh (.int k)) (.sh (tupI w)))= .nx (jo l bs (acc++w) (.sh (.int k)) (.sh (tupI w))):=by
  show(okD (p0 (tupI acc) (tupI w))).bo _=_
  rw[RF (by lia)];rfl
 have e:bD (ai nr (aa 3) (aN cw (ae (aa 1) aj))) (jo l bs (acc++w) (.sh (.int k)) (.sh (tupI w)))= .ok (decide (k<bs.length)):=by
  simp[wH]
 rw[zi,bQ,a,ck,lG,e,ez];by_cases c:k<bs.length
 .rw[decide_eq_true c,if_pos rfl,en c]
  have f:ai aF (aa 1) (aa 3) (jo l bs (acc++w) (.sh (.int k)) (.sh (tupI w)))= .ok (tupI bs[k]):=by
   show okD (iE (bs.map tupI) (k:Int))=_;rw[uh (d:=tupI bs[k]) (by rw[fM,en c];rfl)];rfl
  have j:=h bs[k] (lO c)
  show(ai p0 (eL 2) (ai aF (aa 1) (aa 3)) (jo l bs (acc++w) (.sh (.int k)) (.sh (tupI w)))).bo _=_
  rw[kJ,show eL 2 (jo l bs (acc++w) (.sh (.int k)) (.sh (tupI w)))= .ok (tupI (acc++w))from rfl,aU,f,aU,RF (by rw[cy];lia)];rw[fL];rfl
 .rw[decide_eq_false c,if_neg cL,Jx (yg c)]
  show ax.nx _=ax.nx (jo l bs (acc++(w++[])) _ _);rw[fo]
theorem RH{l:D}{bs:cf}(d:∀b∈bs,b.length<=1000)(a:bs.length<=1000):∀(ws:cf) (k:Nat) (acc:List Int) (s3 s4:Slot),acc.length+ws.flatten.length+(bs.drop k).flatten.length<=10000->
  ∃t3 t4,forL (eP 2 (bM (aD 3) (bM (aD 4) e7))) zi (((ws.map tupI).zipIdx k).map λ p=>.tup [.int (p.2:Int),p.1]) (jo l bs acc s3 s4)= .nx (jo l bs (acc++fV ws (bs.drop k)) t3 t4)
 |[],k,acc,s3,s4,_=>⟨s3,s4,by rw[JW,Dz,JW,fV,fo];rfl⟩
 |w::ws,k,acc,s3,s4,h=>by
  rw[iV,cy]at h;have step:=abq (l:=l) (bs:=bs) (acc:=acc) (w:=w) (k:=k) (by lia) (λ b a=>by have:=d b a;lia) (by lia);have f:(acc++(w++(bs[k]?).getD [])).length+ws.flatten.length+(bs.drop (k+1)).flatten.length<=10000/\acc++fV (w::ws) (bs.drop k)=(acc++(w++(bs[k]?).getD []))++fV ws (bs.drop (k+1)):=by
   by_cases c:k<bs.length
   .rw[sx c]at h ⊢
    rw[iV,cy]at h;rw[en c,fV];refine⟨by simp only[J9,cy];lia,by simp⟩
   .rw[Jv (by lia),Jv (yg c),Jx (yg c),fV]
    refine⟨by simp only[DI,cy,fo,xu,mH];lia,by simp⟩
  obtain⟨t3,t4,e⟩:=RH d a ws (k+1) (acc++(w++(bs[k]?).getD [])) (.sh (.int k)) (.sh (tupI w)) f.1;refine⟨t3,t4,?_⟩;rw[dH,Aa,dH,qb];have g:eP 2 (bM (aD 3) (bM (aD 4) e7)) (.tup [.int (k:Int),tupI w]) (jo l bs acc s3 s4)= .ok (jo l bs acc (.sh (.int k)) (.sh (tupI w))):=rfl;rw[g,mB,step,ug,e,f.2]
def RI{ws bs:cf}(a:∀b∈bs,b.length<=1000)(c:bs.length<=1000)(h:ws.flatten.length+bs.flatten.length<=10000):uk [.lst (ws.map tupI),.lst (bs.map tupI)]= .ok (tupI (fV ws bs)):=by
 obtain⟨t3,t4,e⟩:=RH a c ws 0 [] .no .no (by simp_all);rw[qC,oY]at e;have st:dw 5 [.lst (ws.map tupI),.lst (bs.map tupI)]=[.sh (.lst (ws.map tupI)),.sh (.lst (bs.map tupI)),.no,.no,.no]:=rfl;have c1:dD 2 (bC aj) [.sh _,.sh (.lst (bs.map tupI)),.no,.no,.no]= .nx (jo (.lst (ws.map tupI)) bs [] .no .no):=rfl;have i:gs G9 (ae (aa 0) aj) (jo (.lst (ws.map tupI)) bs [] .no .no)= .ok (ua (ws.map tupI)):=rfl;have d:forL _ zi (ua (ws.map tupI)) (jo _ bs [] .no .no)= .nx _:=e;have r:bO (aa 2) (jo (.lst (ws.map tupI)) bs (fV ws bs) t3 t4)= .ok (tupI (fV ws bs)):=CF (by unfold tupI;simp only[imm];exact sk _);simp only[uk,rD,fU,st];rw[bQ,c1,ck,bQ,oF,i,ez,d,ck,qa,r];rfl
abbrev hU(l:D)(k:Nat)(U:cf)(i:Nat):af:=[.sh l,.sh (.int k),.ow (.lst (U.map tupI)),.sh (.int i)]
def abr{l:D}{k:Nat}{A Z:cf}{a b:Int}{r:List Int}(h:A.length+Z.length<=1000)(n:r.length<=1000):Hj (hU l k (A++(a::b::r)::Z) A.length)= .nx (hU l k (A++([a]::(b::r)::Z)) A.length):=by
 have i:ai aF (eL 2) (aa 3) (hU l k (A++(a::b::r)::Z) A.length)= .ok (tupI (a::b::r)):=by
  show okD (iE ((A++(a::b::r)::Z).map tupI) (A.length:Int))=_;rw[uh (d:=tupI (a::b::r)) (by rw[fM,oS (bc _),An];rfl)];rfl
 have e:bO (fP (ai aF (eL 2) (aa 3)) hP (fx (aq (.int 1)))) (hU l k (A++(a::b::r)::Z) A.length)= .ok (tupI [a]):=by
  have:fP (ai aF (eL 2) (aa 3)) hP (fx (aq (.int 1))) (hU l k (A++(a::b::r)::Z) A.length)= .ok (tupI [a]):=by
   unfold fP;rw[i,aU];show okD (.ok (.tup (cutD ((a::b::r).map D.int) none (some ((1:Nat):Int)))))=_;rw[HJ];rfl
  show(fP _ _ _ _).bd mj=_
  rw[this,aU];rfl
 have bw:bO (fP (ai aF (eL 2) (aa 3)) (fx (aq (.int 1))) hP) (hU l k (A++(a::b::r)::Z) A.length)= .ok (tupI (b::r)):=by
  have:fP (ai aF (eL 2) (aa 3)) (fx (aq (.int 1))) hP (hU l k (A++(a::b::r)::Z) A.length)= .ok (tupI (b::r)):=by
   unfold fP;rw[i,aU];show okD (.ok (.tup (cutD ((a::b::r).map D.int) (some ((1:Nat):Int)) none)))=_;rw[HK];rfl
  show(fP _ _ _ _).bd mj=_
  rw[this,aU];exact CF (by unfold tupI;simp only[imm];exact sk _)
 have f:dm (ae (bO (fP (ai aF (eL 2) (aa 3)) hP (fx (aq (.int 1))))) (ae (bO (fP (ai aF (eL 2) (aa 3)) (fx (aq (.int 1))) hP)) aj)) (hU l k (A++(a::b::r)::Z) A.length)= .ok (.lst [tupI [a],tupI (b::r)]):=by
  rw[Qh,eC,e,aU,eC,bw,aU,jg,aU,aU,aU];rfl
 have g:fx (aa 3) (hU l k (A++(a::b::r)::Z) A.length)= .ok (some (A.length:Int)):=rfl;have j:fx (ai bZ (aa 3) (aq (.int 1))) (hU l k (A++(a::b::r)::Z) A.length)= .ok (some ((A.length:Int)+1)):=rfl;have c:((A++(a::b::r)::Z).map tupI).length=A.length+Z.length+1:=by rw[bb,cy,eX];rfl
 unfold Hj CC;simp only[qv,sy];rw[f,ez,g,ez,j,ez];cb_eq;have s:HT.sIx ((A++(a::b::r)::Z).map tupI).length 0 (some (A.length:Int))=A.length:=by
  simp only[HT.sIx,c];rw[if_neg (by simp)];lia
 have s2:HT.sIx ((A++(a::b::r)::Z).map tupI).length ((A++(a::b::r)::Z).map tupI).length (some ((A.length:Int)+1))=A.length+1:=by
  simp only[HT.sIx,c];rw[if_neg (by lia)];simp
 rw[s,s2,if_pos ⟨by rw[c,wH,eX,eX,mH];lia,Da [[a],b::r]⟩,show max A.length (A.length+1)=A.length+1 by simp];have t:((A++(a::b::r)::Z).map tupI).take A.length=A.map tupI:=by
  rw[hW,Dy (bb _)]
 have m:((A++(a::b::r)::Z).map tupI).drop (A.length+1)=Z.map tupI:=by
  rw[hW,dH,show A.map tupI++tupI (a::b::r)::Z.map tupI=(A.map tupI++[tupI (a::b::r)])++Z.map tupI by simp,List.drop_left' (by simp)]
 rw[t,m];simp[hU]
theorem Dc:∀{U:cf},(∀w∈U,w≠[])->U.length<=U.flatten.length
 |[],_=>bc _
 |w::U,h=>by
  have:=Dc λ v a=>h v (cT _ a)
  have:=JD.mpr (h w bW)
  grind
theorem RJ:∀{U:cf},(∀w∈U,w.length=1)->U.flatten.length=U.length
 |[],_=>rfl
 |w::U,h=>by
  have:=RJ λ v a=>h v (cT _ a)
  grind
def RK{W:cf}{k:Nat}(D:∀w∈W,w≠[])(E:W.length<=k)(M:k<=W.flatten.length)(N:W.flatten.length<=500):∃U,qh [.lst (W.map tupI),.int k]= .ok (.lst (U.map tupI))/\oQ W U/\U.length=k:=by
 have x:∀(U:cf) (i:Nat),CI (hU (.lst (W.map tupI)) k U i)= .ok (decide (U.length<k)):=λ U i=>by
  unfold CI;simp
 obtain⟨F,m',e,⟨U,i,rfl,C,_,_,o,_⟩,j⟩:=abp (c:=CI) (b:=CJ) (λ m ρ=>∃U i,ρ=hU (.lst (W.map tupI)) k U i/\oQ W U/\(∀w∈U.take i,w.length=1)/\i<=U.length/\U.length<=k/\m=W.flatten.length+1-i) (by
  rintro m ρ ⟨U,i,rfl,C,n,O,o,rfl⟩;rw[x];by_cases c:U.length<k
  .have G:=Dc C.ne
   rw[C.fl]at G;have p:i<U.length:=by
    rcases Nat.lt_or_ge i U.length with q|q
    .exact q
    .rw[iI q]at n
     have:=RJ n
     rw[C.fl]at this;lia
   obtain⟨w,g⟩:∃w,U[i]? =some w:=⟨U[i],en p⟩
   have y:U=U.take i++w::U.drop (i+1):=by
    have:=sx p
    rw[en p]at g;cases g;rw[<-this,gO]
   have z:(U.take i).length=i:=by rw[eY];lia
   have H:(U.drop (i+1)).length=U.length-(i+1):=iJ;have I:w≠[]:=C.ne w (nL g);have s:w.length<=500:=by
    have:w.length<=U.flatten.length:=(Dm (nL g)).length_le
    rw[C.fl]at this;lia
   have u:∀V:cf,oB (bw (λ _ _=>true) λ a b=>.int (a+b)) 3 (aq (.int 1)) (hU (.lst (W.map tupI)) k V i)= .nx (hU (.lst (W.map tupI)) k V (i+1)):=λ V=>rfl
   have J:ai aF (eL 2) (aa 3) (hU (.lst (W.map tupI)) k U i)= .ok (tupI w):=by
    show okD (iE (U.map tupI) (i:Int))=_;rw[uh (d:=tupI w) (by rw[fM,g];rfl)];rfl
   have B:bD (ai kD (aN cw (ae (ai aF (eL 2) (aa 3)) aj)) (aq (.int 1))) (hU (.lst (W.map tupI)) k U i)= .ok (decide (1<w.length)):=by
    rw[uf,kJ,jO,eC,J,aU,jg,aU,aU]
    show((okD (cw [tupI w])).bd _).bd _=_
    simp[tupI];lia
   by_cases t:1<w.length
   .obtain⟨a,b,r,rfl⟩:∃a b r,w=a::b::r:=by
     match w,t with
     |a::b::r,_=>exact⟨a,b,r,rfl⟩
    have es:=abr (l:=.lst (W.map tupI)) (k:=k) (A:=U.take i) (Z:=U.drop (i+1)) (a:=a) (b:=b) (r:=r) (by lia) (by simp only[eX]at s;lia);rw[<-y,z]at es;have K:oQ W (U.take i++([a]::(b::r)::U.drop (i+1))):=oQ.cut (by rw[<-y];exact C);have l2:(U.take i++([a]::(b::r)::U.drop (i+1))).length=U.length+1:=by
     rw[cy,eX,eX,z,H];lia
    refine .inr ⟨by rw[decide_eq_true c],hU (.lst (W.map tupI)) k (U.take i++([a]::(b::r)::U.drop (i+1))) (i+1),W.flatten.length+1-(i+1),?_,by lia,_,_,rfl,K,λ v f=>?_,by lia,by lia,rfl⟩
    .rw[CJ,bQ,lG,B,decide_eq_true t,ez,if_pos rfl,es,ck,u]
    .rw[show i+1=(U.take i).length+1 by lia,List.take_length_add_append]at f
     rcases cu.mp f with f|f
     .exact n v f
     .simp at f
      rw[f];rfl
   .have w1:w.length=1:=by
     have:=JD.mpr I
     lia
    refine .inr ⟨by rw[decide_eq_true c],hU (.lst (W.map tupI)) k U (i+1),W.flatten.length+1-(i+1),?_,by lia,U,i+1,rfl,C,λ v f=>?_,by lia,o,rfl⟩
    .rw[CJ,bQ,lG,B,decide_eq_false t,ez,if_neg cL]
     exact u U
    .rw[Du,g]at f
     rcases cu.mp f with f|f
     .exact n v f
     .simp at f
      rw[f];exact w1
  .exact .inl (by rw[decide_eq_false c])) (m:=W.flatten.length+1-0) (ρ:=hU (.lst (W.map tupI)) k W 0) (by lia) ⟨W,0,rfl,oQ.refl D,λ w h=>by simp at h,dn _,E,rfl⟩
 rw[x]at j;have L:U.length=k:=by
  injection j with j
  rw[decide_eq_false_iff_not]at j;exact ye o j
 refine⟨U,?_,C,L⟩;have st:dw 4 [.lst (W.map tupI),.int k]=[.sh (.lst (W.map tupI)),.sh (.int k),.no,.no]:=rfl;have c1:ot 2 (aN sd (ae (aa 0) aj)) [.sh (.lst (W.map tupI)),.sh (.int k),.no,.no]= .nx [.sh (.lst (W.map tupI)),.sh (.int k),.ow (.lst (W.map tupI)),.no]:=by
  have:aN sd (ae (aa 0) aj) [.sh (.lst (W.map tupI)),.sh (.int k),.no,.no]= .ok (.lst (W.map tupI)):=by
   show okD (sd [.lst (W.map tupI)])=_;unfold sd;cb_eq;rw[if_pos (Da W)];rfl
  rw[Qm,this];rfl
 have c2:dD 3 (aq (.int 0)) [.sh (.lst (W.map tupI)),.sh (.int k),.ow (.lst (W.map tupI)),.no]= .nx (hU (.lst (W.map tupI)) k W 0):=rfl;simp only[qh,nM,fU,st];rw[bQ,c1,ck,bQ,c2,ck,bQ,e,ck];rfl
section
variable{P P' B B':List Int}{W W':cf}
def uM{ρ:af}{i:Nat}{f:af->ag D}(h:f ρ= .ok (aH P W B)):ai aF f (aq (.int 0)) ρ= .ok (.lst (P.map .int)):=by
 rw[kJ,h];rfl
def sr{ρ:af}{f:af->ag D}(h:f ρ= .ok (aH P W B)):ai aF f (aq (.int 1)) ρ= .ok (.lst (W.map tupI)):=by
 rw[kJ,h];rfl
def RL{ρ:af}{f:af->ag D}(h:f ρ= .ok (aH P W B)):ai aF f (aq (.int 2)) ρ= .ok (.lst (B.map .int)):=by
 rw[kJ,h];rfl
def uN{f g:af->ag D}{ρ:af}{x y z:D}(a:f ρ= .ok x)(b:g ρ= .ok y)(h:iH x y= .ok z):ai iH f g ρ= .ok z:=by simp_all
def Ir{f g h:af->ag D}{ρ:af}{x y z:D}(a:f ρ= .ok x)(b:g ρ= .ok y)(c:h ρ= .ok z):retS (bC (ae f (ae g (ae h aj)))) ρ= .rt (.tup [x,y,z]):=by simp_all
def abt(h:P.length+P'.length<=500)(a:W.length+W'.length<=500)(b:B.length+B'.length<=500):uj [aH P W B,aH P' W' B']= .ok (aH (P++P') (W++W') (B++B')):=by
 have st:dw 2 [aH P W B,aH P' W' B']=[.sh _,.sh _]:=rfl;simp only[uj,du,fU];rw[Ir (uN (uM (i:=0) rfl) (uM (i:=0) rfl) (zM (yi h))) (uN (sr rfl) (sr rfl) (RG (yi a))) (uN (RL rfl) (RL rfl) (zM (yi b)))];rfl
def RM(h:P.length+P'.length<=500)(i:W.flatten.length<=500)(c:W.length<=500)(d:B.length+P'.length<=500):uw [aH P W B,aH P' W' B']= .ok (aH (P++P') ([fV (W.take (P'.length+1)) (P'.map λ j=>[j])]++W.drop (P'.length+1)) (B++P')):=by
 have st:dw 8 [aH P W B,aH P' W' B']=[.sh (aH P W B),.sh (aH P' W' B'),.no,.no,.no,.no,.no,.no]:=rfl;have f:(P'.map λ j=>[j]).flatten=P':=by
  clear h i c d st;induction P' with
  |nil=>rfl
  |cons a P' k=>rw[dH,iV,k];rfl
 have c1:kB (aa 0) (eP 3 (bM (aD 2) (bM (aD 3) (bM (aD 4) e7)))) [.sh (aH P W B),.sh (aH P' W' B'),.no,.no,.no,.no,.no,.no]= .nx [.sh (aH P W B),.sh (aH P' W' B'),.sh (.lst (P.map .int)),.sh (.lst (W.map tupI)),.sh (.lst (B.map .int)),.no,.no,.no]:=rfl;have c2:dD 5 (ai aF (aa 1) (aq (.int 0))) [.sh (aH P W B),.sh (aH P' W' B'),.sh (.lst (P.map .int)),.sh (.lst (W.map tupI)),.sh (.lst (B.map .int)),.no,.no,.no]= .nx [.sh (aH P W B),.sh (aH P' W' B'),.sh (.lst (P.map .int)),.sh (.lst (W.map tupI)),.sh (.lst (B.map .int)),.sh (.lst (P'.map .int)),.no,.no]:=rfl;have m:dD 6 (ai bZ (aN cw (ae (aa 5) aj)) (aq (.int 1))) [.sh (aH P W B),.sh (aH P' W' B'),.sh (.lst (P.map .int)),.sh (.lst (W.map tupI)),.sh (.lst (B.map .int)),.sh (.lst (P'.map .int)),.no,.no]= .nx [.sh (aH P W B),.sh (aH P' W' B'),.sh (.lst (P.map .int)),.sh (.lst (W.map tupI)),.sh (.lst (B.map .int)),.sh (.lst (P'.map .int)),.sh (.int ((P'.length+1:Nat):Int)),.no]:=by simp
 have s:fP (aa 3) hP (fx (aa 6)) [.sh (aH P W B),.sh (aH P' W' B'),.sh (.lst (P.map .int)),.sh (.lst (W.map tupI)),.sh (.lst (B.map .int)),.sh (.lst (P'.map .int)),.sh (.int ((P'.length+1:Nat):Int)),.no]= .ok (.lst ((W.take (P'.length+1)).map tupI)):=by
  show okD (.ok (.lst (cutD (W.map tupI) none (some ((P'.length+1:Nat):Int)))))=_;rw[HJ,List.map_take];rfl
 have s2:∀s7,fP (aa 3) (fx (aa 6)) hP [.sh (aH P W B),.sh (aH P' W' B'),.sh (.lst (P.map .int)),.sh (.lst (W.map tupI)),.sh (.lst (B.map .int)),.sh (.lst (P'.map .int)),.sh (.int ((P'.length+1:Nat):Int)),s7]= .ok (.lst ((W.drop (P'.length+1)).map tupI)):=λ s7=>by
  show okD (.ok (.lst (cutD (W.map tupI) (some ((P'.length+1:Nat):Int)) none)))=_;rw[HK,JT];rfl
 have s3:e8 (eA (aa 5)) [none] (aD 0) gH (bC (ae (bO (aa 0)) aj)) [.sh (aH P W B),.sh (aH P' W' B'),.sh (.lst (P.map .int)),.sh (.lst (W.map tupI)),.sh (.lst (B.map .int)),.sh (.lst (P'.map .int)),.sh (.int ((P'.length+1:Nat):Int)),.no]= .ok (.lst ((P'.map λ j=>[j]).map tupI)):=by
  rw[fW];exact oN (ds:=P'.map .int) rfl (by rw[bb];lia) (wV P' λ x _=>⟨[.sh (.int x)],rfl,rfl⟩)
 have t:(W.take (P'.length+1)).flatten.length<=W.flatten.length:=by
  have h:=congrArg (λ l=>l.flatten.length) (gO (P'.length+1) W);simp only[uU,cy]at h;lia
 have e:=RI (ws:=W.take (P'.length+1)) (bs:=P'.map λ j=>[j]) (λ b n=>by obtain⟨j,_,rfl⟩:=cX.mp n;simp) (by rw[bb];lia) (by rw[f];lia);have g:dD 7 (bt uk (ae (fP (aa 3) hP (fx (aa 6))) (ae (e8 (eA (aa 5)) [none] (aD 0) gH (bC (ae (bO (aa 0)) aj))) aj))) [.sh (aH P W B),.sh (aH P' W' B'),.sh (.lst (P.map .int)),.sh (.lst (W.map tupI)),.sh (.lst (B.map .int)),.sh (.lst (P'.map .int)),.sh (.int ((P'.length+1:Nat):Int)),.no]= .nx [.sh (aH P W B),.sh (aH P' W' B'),.sh (.lst (P.map .int)),.sh (.lst (W.map tupI)),.sh (.lst (B.map .int)),.sh (.lst (P'.map .int)),.sh (.int ((P'.length+1:Nat):Int)),.sh (tupI (fV (W.take (P'.length+1)) (P'.map λ j=>[j])))]:=by
  rw[CD,zd,eC,s,aU,eC,s3,aU,jg,aU,aU,aU,e];rfl
 generalize fV (W.take (P'.length+1)) (P'.map λ j=>[j])=X at g ⊢;have o:ai iH (aa 2) (aa 5) [.sh (aH P W B),.sh (aH P' W' B'),.sh (.lst (P.map .int)),.sh (.lst (W.map tupI)),.sh (.lst (B.map .int)),.sh (.lst (P'.map .int)),.sh (.int ((P'.length+1:Nat):Int)),.sh (tupI X)]= .ok (.lst ((P++P').map .int)):=uN rfl rfl (zM (yi h));have p:ai iH (dm (ae (aa 7) aj)) (fP (aa 3) (fx (aa 6)) hP) [.sh (aH P W B),.sh (aH P' W' B'),.sh (.lst (P.map .int)),.sh (.lst (W.map tupI)),.sh (.lst (B.map .int)),.sh (.lst (P'.map .int)),.sh (.int ((P'.length+1:Nat):Int)),.sh (tupI X)]= .ok (.lst (([X]++W.drop (P'.length+1)).map tupI)):=uN (x:=.lst ([X].map tupI)) rfl (s2 _) (RG (by rw[z7,iJ];exact S1 c));have q:ai iH (aa 4) (aa 5) [.sh (aH P W B),.sh (aH P' W' B'),.sh (.lst (P.map .int)),.sh (.lst (W.map tupI)),.sh (.lst (B.map .int)),.sh (.lst (P'.map .int)),.sh (.int ((P'.length+1:Nat):Int)),.sh (tupI X)]= .ok (.lst ((B++P').map .int)):=uN rfl rfl (zM (yi d));simp only[uw,cC,fU,st];rw[bQ,c1,ck,bQ,c2,ck,bQ,m,ck,bQ,g,ck,Ir o p q];rfl
end
section
variable{T d C Q:bK}{l mid c:Int}{P P' B B':List Int}{W W':cf}
def fm.wl(K:fm T l c P W B):W.length<=P.length/\B.length<=P.length/\W.flatten.length=P.length:=by
 have h:=Dc K.ne;rw[K.fl.length_eq]at h;exact⟨h,xb K.bn K.bs,K.fl.length_eq⟩
def abu(K:fm T l mid P W B)(g:fm d mid c P' W' B')(Z:l<=mid)(t:mid<=c)(G:c-l<=100)(u:xh l mid T)(v:xh mid c d)(r:uL P P' C)(m:∀p,p∈Q↔p∈T\/p∈d\/p∈C)(hW':1<=W'.length):
  ∃H I J,qj [aH P W B,aH P' W' B']= .ok (aH H I J)/\fm Q l c H I J:=by
 obtain⟨L,M,w,x⟩:=K.app g Z t;have l1:=K.len;have l2:=g.len;obtain⟨w1,w2,N⟩:=K.wl;obtain⟨w4,w5,w6⟩:=g.wl;have st:dw 3 [aH P W B,aH P' W' B']=[.sh (aH P W B),.sh (aH P' W' B'),.no]:=rfl;have O:∀p∈C,(p.1∈P'\/p.2∈P')/\(p.1∈P\/p.2∈P):=λ p f=>by
  obtain⟨a,ha,b,s,rfl⟩:=(r p).mp f;rcases RC a b with ⟨R,S⟩|⟨R,S⟩<;>rw[R,S]
  .exact⟨.inr s,.inl ha⟩
  .exact⟨.inl s,.inr ha⟩
 have y:bD (ai kD (aN cw (ae (ai aF (aa 0) (aq (.int 1))) aj)) (aN cw (ae (ai aF (aa 1) (aq (.int 0))) aj))) [.sh (aH P W B),.sh (aH P' W' B'),.no]= .ok (decide (P'.length<W.length)):=by
  rw[uf,kJ,jO,eC,sr (P:=P) (W:=W) (B:=B) rfl,aU,jg,aU,aU,jO,eC,uM (i:=0) (P:=P') (W:=W') (B:=B') rfl,aU,jg,aU,aU];simp
 have V:bD (ai kD (aN cw (ae (ai aF (aa 1) (aq (.int 1))) aj)) (aN cw (ae (ai aF (aa 0) (aq (.int 0))) aj))) [.sh (aH P W B),.sh (aH P' W' B'),.no]= .ok (decide (P.length<W'.length)):=by
  rw[uf,kJ,jO,eC,sr (P:=P') (W:=W') (B:=B') rfl,aU,jg,aU,aU,jO,eC,uM (i:=0) (P:=P) (W:=W) (B:=B) rfl,aU,jg,aU,aU];simp
 by_cases c1:P'.length<W.length
 .refine⟨_,_,_,?_,RD (T:=T) L M K.fl K.ne (λ p f=>(m p).mpr (.inl (K.ad p f))) K.bn K.bs K.lb (λ p f=>⟨(m p).mpr (.inl f),(K.pm _).mpr (u p f).1,(K.pm _).mpr (u p f).2⟩) r (λ p f=>?_) (λ p f=>(m p).mpr (.inr (.inr f))) c1⟩
  .have e:=RM (P:=P) (P':=P') (W:=W) (W':=W') (B:=B) (B':=B') (by lia) (LK t G l1 N) (by lia) (by lia)
   have a:bt uw (ae (aa 0) (ae (aa 1) aj)) [.sh (aH P W B),.sh (aH P' W' B'),.no]= .ok _:=e;simp only[qj,cU,fU,st];rw[bQ,lG,y,decide_eq_true c1,ez,if_pos rfl,qa,a];rfl
  .rcases(m p).mp f with h|h|h
   .exact .inl h
   .exact .inr (.inl ((g.pm p.1).mpr (v p h).1))
   .exact .inr (O p h).1
 .by_cases c2:P.length<W'.length
  .refine⟨_,_,_,?_,RD (T:=d) w x g.fl g.ne (λ p f=>(m p).mpr (.inr (.inl (g.ad p f)))) g.bn g.bs g.lb (λ p f=>⟨(m p).mpr (.inr (.inl f)),(g.pm _).mpr (v p f).1,(g.pm _).mpr (v p f).2⟩) r.symm (λ p f=>?_) (λ p f=>(m p).mpr (.inr (.inr f))) c2⟩
   .have e:=RM (P:=P') (P':=P) (W:=W') (W':=W) (B:=B') (B':=B) (by lia) (by lia) (by lia) (by lia)
    have a:bt uw (ae (aa 1) (ae (aa 0) aj)) [.sh (aH P W B),.sh (aH P' W' B'),.no]= .ok _:=e;simp only[qj,cU,fU,st];rw[bQ,lG,y,decide_eq_false c1,ez,if_neg cL,ck,bQ,lG,V,decide_eq_true c2,ez,if_pos rfl,qa,a];rfl
   .rcases(m p).mp f with h|h|h
    .exact .inr (.inl ((K.pm p.1).mpr (u p h).1))
    .exact .inl h
    .exact .inr (O p h).2
  .have A:∃k:Nat,k=max W.length W'.length:=⟨_,rfl⟩
   obtain⟨k,hk⟩:=A;obtain⟨U,eU,D,X⟩:=RK (k:=k) K.ne (by lia) (by grind) (LK t G l1 N);obtain⟨q,E,n,lU'⟩:=RK (k:=k) g.ne (by lia) (by grind) (by lia);have Y:U.flatten.Perm P:=by rw[D.fl];exact K.fl
   have o:q.flatten.Perm P':=by rw[n.fl];exact g.fl
   have F:=Dc n.ne;rw[o.length_eq]at F;have e:=RI (ws:=U) (bs:=q) (λ b s=>by
    have:b.length<=q.flatten.length:=(Dm s).length_le
    rw[o.length_eq]at this;lia) (by lia) (by rw[Y.length_eq,o.length_eq];lia)
   refine⟨P++P',[fV U q],[],?_,abo L M Y o D.ne n.ne (λ p f=>(m p).mpr (.inl (K.ad p (D.ad p f)))) (λ p f=>(m p).mpr (.inr (.inl (g.ad p (n.ad p f))))) r (λ p f=>(m p).mpr (.inr (.inr f))) (by simp_all) (λ z=>by rw[z]at X;simp at X;grind)⟩;have c3:dD 2 (aN (jf λ i j=>if j>i then j else i) (ae (aN cw (ae (ai aF (aa 0) (aq (.int 1))) aj)) (ae (aN cw (ae (ai aF (aa 1) (aq (.int 1))) aj)) aj))) [.sh (aH P W B),.sh (aH P' W' B'),.no]= .nx [.sh (aH P W B),.sh (aH P' W' B'),.sh (.int k)]:=by
    have a1:aN cw (ae (ai aF (aa 0) (aq (.int 1))) aj) [.sh (aH P W B),.sh (aH P' W' B'),.no]= .ok (.int W.length):=by
     rw[jO,eC,sr (P:=P) (W:=W) (B:=B) rfl,aU,jg,aU,aU];simp
    have a2:aN cw (ae (ai aF (aa 1) (aq (.int 1))) aj) [.sh (aH P W B),.sh (aH P' W' B'),.no]= .ok (.int W'.length):=by
     rw[jO,eC,sr (P:=P') (W:=W') (B:=B') rfl,aU,jg,aU,aU];simp
    rw[CD,jO,eC,a1,aU,eC,a2,aU,jg,aU,aU,aU]
    have:(if (W'.length:Int)>W.length then(W'.length:Int)else W.length)=(k:Int):=by split<;>lia
    show(okD (.ok (.int (if (W'.length:Int)>W.length then(W'.length:Int)else W.length)))).bo _=_
    rw[this];rfl
   have v1:bt qh (ae (ai aF (aa 0) (aq (.int 1))) (ae (aa 2) aj)) [.sh (aH P W B),.sh (aH P' W' B'),.sh (.int k)]= .ok (.lst (U.map tupI)):=by
    rw[zd,eC,sr (P:=P) (W:=W) (B:=B) rfl,aU];exact eU
   have v2:bt qh (ae (ai aF (aa 1) (aq (.int 1))) (ae (aa 2) aj)) [.sh (aH P W B),.sh (aH P' W' B'),.sh (.int k)]= .ok (.lst (q.map tupI)):=by
    rw[zd,eC,sr (P:=P') (W:=W') (B:=B') rfl,aU];exact E
   have v3:dm (ae (bt uk (ae (bt qh (ae (ai aF (aa 0) (aq (.int 1))) (ae (aa 2) aj))) (ae (bt qh (ae (ai aF (aa 1) (aq (.int 1))) (ae (aa 2) aj))) aj))) aj) [.sh (aH P W B),.sh (aH P' W' B'),.sh (.int k)]= .ok (.lst ([fV U q].map tupI)):=by
    rw[Qh,eC,zd,eC,v1,aU,eC,v2,aU,jg,aU,aU,aU,e,aU,aU,aU];rfl
   have v4:ai iH (ai aF (aa 0) (aq (.int 0))) (ai aF (aa 1) (aq (.int 0))) [.sh (aH P W B),.sh (aH P' W' B'),.sh (.int k)]= .ok (.lst ((P++P').map .int)):=uN (uM (i:=0) (P:=P) (W:=W) (B:=B) rfl) (uM (i:=0) (P:=P') (W:=W') (B:=B') rfl) (zM (by lia));simp only[qj,cU,fU,st];rw[bQ,lG,y,decide_eq_false c1,ez,if_neg cL,ck,bQ,lG,V,decide_eq_false c2,ez,if_neg cL,ck,bQ,c3,ck,Ir v4 v3 (z:=.lst []) rfl];rfl
end
def zO(R:List D->ag D):af->ax:=
   (aM (dD 4 (bt R (ae (aa 3) (ae (ai bZ (aa 1) (aN cw (ae (ai aF (eu 2) (aq (.int 0))) aj))) aj))))
   (de (bD (ai (cq false) (ai aF (aa 0) (aq (.int 0))) (aq (.str "across"))))
    (ik 2 (bt qj (ae (eu 2) (ae (aa 4) aj))))
    (ik 2 (bt uj (ae (eu 2) (ae (aa 4) aj))))))
def RN(R:List D->ag D):cj R=aM (de (bD (ai (cq false) (aa 0) (aq bV)))
   (retS (bC (ae (dm (ae (bO (aa 1)) aj)) (ae (dm (ae (bC (ae (bO (aa 1)) aj)) aj)) (ae (dm aj) aj)))))
   ax.nx)
  (aM (ik 2 (bC (ae (dm aj) (ae (dm aj) (ae (dm aj) aj)))))
  (aM (gh (eA (ai aF (aa 0) (aq (.int 1)))) (aD 3) (zO R))
  (retS (eu 2)))):=rfl
def RO(n:Nat):Prop:=∀(x:D) (d o:Nat) (s:Int),bY x=some (d,o)->d<=n->jP x->0<=s->s+o<=100->1<=o/\∃P W B,mE n [x,.int s]= .ok (aH P W B)/\fm ((cK x).map (dG s)) s (s+o) P W B
def fm.w1{T:bK}{l i:Int}{P B:List Int}{W:cf}(K:fm T l i P W B)(h:l<i):1<=W.length:=by
 have m:=(K.pm l).mpr ⟨xp _,h⟩
 have:=K.fl.mem_iff.mpr m
 obtain⟨w,a,_⟩:=sG.mp this;exact Do a
def RP{m o:Nat}{s:Int}{T:bK}(h:∀p∈T,0<=p.1/\p.1<p.2/\p.2<((m:Nat):Int)):xh s (s+m) (T.map (dG s)):=λ p a=>by
 obtain⟨q,b,rfl⟩:=cX.mp a
 have:=h q b
 simp only[dG]
 grind
def RQ(s:Int)(m:Nat)(T:bK):(T.map (dG m)).map (dG s)=T.map (dG (s+m)):=by
 rw[fW];refine sC λ p _=>?_
 simp only[Jq,dG]
 grind
def abv{m o:Nat}{s:Int}{P P':List Int}(d:∀x,x∈P↔s<=x/\x<s+m)(c:∀x,x∈P'↔s+m<=x/\x<s+m+o):uL P P' ((hT m o).map (dG s)):=λ p=>by
 have t:∀a b:Int,a<b->jm a b=(a,b):=λ a b h=>by
  unfold jm xf xg;rw[if_neg (Bj h),if_pos h]
 rw[cX];constructor
 .rintro⟨q,e,rfl⟩
  have:=C8.mp e
  refine⟨s+q.1,(d _).mpr (by omega),s+q.2,(c _).mpr (by lia),?_⟩;rw[t _ _ (by lia)];rfl
 .rintro⟨a,ha,b,f,rfl⟩
  have g:=(d a).mp ha;have i:=(c b).mp f;refine⟨(a-s,b-s),C8.mpr (by cb_eq;grind),?_⟩;rw[t _ _ (by lia)];simp only[dG];exact sM (by cb_eq;lia) (by cb_eq;lia)
theorem RS{n:Nat}(O:RO n){w:Str}{z:D}{s:Int}(X:0<=s):∀(j:List D) (m d o:Nat) (T:bK) (P B:List Int) (W:cf) (t3 t4:Slot),dj j=some (d,o)->d<=n->s+m+o<=100->(∀y∈j,jP y)->(∀p∈T,0<=p.1/\p.1<p.2/\p.2<((m:Nat):Int))->fm (T.map (dG s)) s (s+m) P W B->
  ∃F G H I J,forL (aD 3) (zO (mE n)) j [.sh (.tup [.str w,z]),.sh (.int s),.nw (aH P W B),t3,t4]= .nx [.sh (.tup [.str w,z]),.sh (.int s),.nw (aH F G H),I,J]/\fm ((T++jk j (w=="across") m).map (dG s)) s (s+m+o) F G H
 |[],m,d,o,T,P,B,W,t3,t4,h,_,_,_,_,K=>by
  simp only[dj,Ao,DK]at h;obtain⟨rfl,rfl⟩:=h;exact⟨P,W,B,t3,t4,by simp[forL],by rw[jk,fo];simpa using K⟩
 |y::j,m,d,o,T,P,B,W,t3,t4,h,R,hm,S,U,K=>by
  obtain⟨L,f,Y,o2,V,Z,l1,l2,rfl,ew⟩:=C7 h;obtain⟨ho1,P',W',B',eR,v⟩:=O y L f (s+m) V (LY R l1) (S y bW) (by lia) (by lia);have ty:=C9 L y L f V (bc _);have A:∀p∈cK y,0<=p.1/\p.1<p.2/\p.2<((f:Nat):Int):=λ p g=>by
   have:=ty.rg p g
   simp_all
  have t:=RP (o:=0) (s:=s) U;have k:xh (s+m) (s+m+f) ((cK y).map (dG (s+m))):=RP (o:=0) (s:=s+m) A;have lP:=K.len;have lP':=v.len;have w1:=K.wl;have w2:=v.wl;have c1:dD 4 (bt (mE n) (ae (aa 3) (ae (ai bZ (aa 1) (aN cw (ae (ai aF (eu 2) (aq (.int 0))) aj))) aj))) [.sh (.tup [.str w,z]),.sh (.int s),.nw (aH P W B),.sh y,t4]= .nx [.sh (.tup [.str w,z]),.sh (.int s),.nw (aH P W B),.sh y,.sh (aH P' W' B')]:=by
   have a:ai bZ (aa 1) (aN cw (ae (ai aF (eu 2) (aq (.int 0))) aj)) [.sh (.tup [.str w,z]),.sh (.int s),.nw (aH P W B),.sh y,t4]= .ok (.int (s+m)):=by
    have b:aN cw (ae (ai aF (eu 2) (aq (.int 0))) aj) [.sh (.tup [.str w,z]),.sh (.int s),.nw (aH P W B),.sh y,t4]= .ok (.int m):=by
     rw[jO,eC,uM (i:=0) (P:=P) (W:=W) (B:=B) rfl,aU,jg,aU,aU,aah,bb,lP,show(s+(m:Int)-s).toNat=m by lia];rfl
    rw[kJ,b];rfl
   rw[CD,zd,eC,show aa 3 [.sh (.tup [.str w,z]),.sh (.int s),.nw (aH P W B),.sh y,t4]= .ok y from rfl,aU,eC,a,aU,jg,aU,aU,aU,eR];rfl
  have tq:bD (ai (cq false) (ai aF (aa 0) (aq (.int 0))) (aq (.str "across"))) [.sh (.tup [.str w,z]),.sh (.int s),.nw (aH P W B),.sh y,.sh (aH P' W' B')]= .ok (w=="across"):=by
   show(okD (cq false (.str w) (.str "across"))).bd yD=_
   rw[Ij];rfl
  have et:jk (y::j) (w=="across") m=((cK y).map (dG m)++(if (w=="across")=true then hT m f else[]))++jk j (w=="across") (m+f):=by
   rw[jk,ew]
  have M:∀p∈T++((cK y).map (dG m)++(if (w=="across")=true then hT m f else[])),0<=p.1/\p.1<p.2/\p.2<((m+f:Nat):Int):=λ p g=>by
   rcases cu.mp g with g|g
   .have:=U p g
    exact S0 this
   .rcases cu.mp g with g|g
    .obtain⟨q,N,rfl⟩:=cX.mp g
     have:=A q N
     simp only[dG];exact S7 this
    .split at g
     .have:=C8.mp g
      exact SP this
     .cases g
  obtain⟨l,r,u,c2,E⟩:∃l r u,de (bD (ai (cq false) (ai aF (aa 0) (aq (.int 0))) (aq (.str "across"))))
    (ik 2 (bt qj (ae (eu 2) (ae (aa 4) aj))))
    (ik 2 (bt uj (ae (eu 2) (ae (aa 4) aj)))) [.sh (.tup [.str w,z]),.sh (.int s),.nw (aH P W B),.sh y,.sh (aH P' W' B')]= .nx [.sh (.tup [.str w,z]),.sh (.int s),.nw (aH l r u),.sh y,.sh (aH P' W' B')]/\fm ((T++((cK y).map (dG m)++(if (w=="across")=true then hT m f else[]))).map (dG s)) s (s+((m+f:Nat):Int)) l r u:=by
   rw[lG,tq,ez];by_cases c:(w=="across")=true
   .obtain⟨l,r,u,e,E⟩:=abu (C:=(hT m f).map (dG s)) (Q:=(T++((cK y).map (dG m)++hT m f)).map (dG s)) K v (ET) (by lia) (by lia) t k (abv (by intro x;rw[K.pm]) (by intro x;rw[v.pm])) (λ p=>by
     rw[hW,hW,RQ,cu,cu]) (v.w1 (by lia))
    refine⟨l,r,u,?_,?_⟩
    .have a:bt qj (ae (eu 2) (ae (aa 4) aj)) [.sh (.tup [.str w,z]),.sh (.int s),.nw (aH P W B),.sh y,.sh (aH P' W' B')]= .ok (aH l r u):=e
     rw[if_pos c,CE,a];rfl
    .rw[if_pos c,show s+((m+f:Nat):Int)=s+m+f by lia]
     exact E
   .have E:=abn K v (ET) (by lia) t k
    refine⟨P++P',W++W',B++B',?_,?_⟩
    rotate_left
    .rw[if_neg c,fo,hW,RQ,show s+((m+f:Nat):Int)=s+m+f by lia]
     exact E
    .have e:=abt (P:=P) (P':=P') (W:=W) (W':=W') (B:=B) (B':=B') (by lia) (by lia) (by lia)
     have a:bt uj (ae (eu 2) (ae (aa 4) aj)) [.sh (.tup [.str w,z]),.sh (.int s),.nw (aH P W B),.sh y,.sh (aH P' W' B')]= .ok _:=e;rw[if_neg c,CE,a];rfl
  obtain⟨F,G,H,I,J,e,K2⟩:=RS O (w:=w) (z:=z) X j (m+f) Y o2 (T++((cK y).map (dG m)++(if (w=="across")=true then hT m f else[]))) l u r (.sh y) (.sh (aH P' W' B')) Z (LY R l2) (by lia) (λ q N=>S q (cT _ N)) M E;refine⟨F,G,H,I,J,?_,?_⟩
  .rw[qb,oE,mB]
   have hu:zO (mE n) [.sh (.tup [.str w,z]),.sh (.int s),.nw (aH P W B),.sh y,t4]= .nx [.sh (.tup [.str w,z]),.sh (.int s),.nw (aH l r u),.sh y,.sh (aH P' W' B')]:=by
    rw[zO,bQ,c1,ck,c2]
   show(zO (mE n) [.sh (.tup [.str w,z]),.sh (.int s),.nw (aH P W B),.sh y,t4]).tn _=_
   rw[hu,ug,e]
  .rw[et,<-fL,show s+(m:Int)+((f+o2:Nat):Int)=s+((m+f:Nat):Int)+o2 by lia]
   exact K2
theorem It:∀n,RO n
 |0,x,d,o,s,h,g,_,_,_=>by have:=CQ h;simp_all
 |n+1,x,d,o,s,h,g,S,c,I=>by
  have i:cq false x bV= .ok (.bl (kM x)):=Rt S;have t:bD (ai (cq false) (aa 0) (aq bV)) [.sh x,.sh (.int s),.no,.no,.no]= .ok (kM x):=by
   show(okD (cq false x bV)).bd yD=_
   rw[i];rfl
  have st:dw 5 [x,.int s]=[.sh x,.sh (.int s),.no,.no,.no]:=rfl;have k:∀r,cj (mE n) [.sh x,.sh (.int s),.no,.no,.no]= .rt r->mE (n+1) [x,.int s]= .ok r:=λ r j=>by
   show dN 5 (cj (mE n)) [x,.int s]=_;rw[fU,st,j]
  cases c1:kM x with
  |true=>
   have:=wO c1
   subst this;rw[uB]at h;cases h;have e:cK bV=[]:=by simp[bV,cK]
   rw[e];refine⟨bc _,[s],[[s]],[],k _ ?_,abm s⟩;rw[RN,bQ,lG,t,c1,ez,if_pos rfl];rfl
  |false=>
   cases c2:kL x with
   |false=>rw[zx c1 c2]at h;cases h
   |true=>
    obtain⟨w,a,rfl,l,m⟩:=zw c2;rw[m]at h;cases b:dj a with
    |none=>rw[b]at h;cases h
    |some q=>
     rw[b]at h;obtain⟨u,f⟩:=q;cases h;have v:1<=f:=by
      match a,l,b with
      |y::a,_,b=>
       obtain⟨A,B,J,o2,C,L,l1,l2,rfl,M⟩:=C7 b
       have:=(It n y A B s C (by lia) (CR S y bW) c (by lia)).1
       lia
     obtain⟨P,W,D,N,O,e,K⟩:=RS (It n) (w:=w) (z:=.tup a) c a 0 u f [] [] [] [] .no .no b (by simp_all) (by simp_all) (CR S) (λ p E=>(nomatch E)) (by simpa using abl s);have F:cK (.tup [.str w,.tup a])=jk a (w=="across") 0:=by rw[cK]
     refine⟨v,P,W,D,k _ ?_,?_⟩
     .have G:ik 2 (bC (ae (dm aj) (ae (dm aj) (ae (dm aj) aj)))) [.sh (.tup [.str w,.tup a]),.sh (.int s),.no,.no,.no]= .nx [.sh (.tup [.str w,.tup a]),.sh (.int s),.nw (aH [] [] []),.no,.no]:=rfl
      have H:eA (ai aF (aa 0) (aq (.int 1))) [.sh (.tup [.str w,.tup a]),.sh (.int s),.nw (aH [] [] []),.no,.no]= .ok a:=rfl;rw[RN,bQ,lG,t,c1,ez,if_neg cL,ck,bQ,G,ck,bQ,oF,H,ez,e,ck];rfl
     .rw[F]
      simpa using K
def abw(T:bK):T.map (dG 0)=T:=by
 conv=>rhs;rw[<-xA T]
 exact sC λ p _=>by simp[dG]
def aO(p:Int×Int):List Int:=[p.1,p.2]
def abx{p q:Int×Int}(h:aO p=aO q):p=q:=by
 unfold aO at h
 grind
def aby{ps:bK}(nd:ps.Nodup):∃qs:bK,pX (ps.map aO)=qs.map aO/\qs.Perm ps/\sj qs=true:=by
 obtain⟨qs,a,b⟩:=Gx (Cw (ps.map aO)) rfl;refine⟨qs,b,a,HS.mpr λ i p q d f=>?_⟩;have r:=GT (ps.map aO);rw[b]at r;have h:=a.nodup_iff.mpr nd;have j:=(eW.mp d).1;have g:=(eW.mp f).1;have k:(qs.map aO)[i]'(by simp_all)=aO p:=by simp_all
 have l:(qs.map aO)[i+1]'(by simpa using g)=aO q:=by
  simp_all
 have z:=nK.mp r i (i+1) (by simp_all) (by simpa using g) (il _);rw[k,l]at z;have n:p≠q:=λ e=>by
  subst e
  have:=(JI j h).mp (d.trans f.symm)
  omega
 show HT.lexLt (aO p) (aO q)=true;cases c:HT.lexLt (aO p) (aO q)with
 |true=>rfl
 |false=>exact absurd (abx (yP _ _ c z)) n
def abz(ps:bK):pY (ps.map bh)=some (ps.map aO):=by
 have:=GV (nss:=ps.map aO) λ ns h=>by
  obtain⟨p,_,rfl⟩:=cX.mp h;simp[aO]
 rw[fW]at this;assumption
def abA{x:D}{d o:Nat}(h:bY x=some (d,o))(S:jP x)(g:d<=60)(b:o<=40):∃ps:bK,CO [x]= .ok (aL o ps)/\oM o ps/\ps.Perm (cK x)/\∀p∈ps,p.1<p.2:=by
 have e:Hm [x]= .ok (.tup [.int o,.lst ((cK x).map bh)]):=RA 64 x d o h (by lia) S b;have T:=C9 d x d o h (bc _);have l:=Rw h;have i:=Ik b;obtain⟨qs,c,q,f⟩:=aby T.nd;have s:wz [.lst ((cK x).map bh)]= .ok (.lst (qs.map bh)):=by
  unfold wz;cb_eq;rw[abz];cb_eq;rw[if_pos (by rw[bb];lia),c,fW];rfl
 have r:∀p∈qs,0<=p.1/\p.1<p.2/\p.2<((o:Nat):Int):=λ p a=>by
  have:=T.rg p (q.mem_iff.mp a)
  simp_all
 refine⟨qs,?_,⟨by lia,by lia,by rw[q.length_eq];omega,λ p a=>?_,f⟩,q,λ p a=>(r p a).2.1⟩
 .have st:dw 3 [x]=[.sh x,.no,.no]:=rfl
  simp only[CO,dW,fU,st];simp[kB,e,s,aL]
 .have:=r p a
  grind
def qp(w:List Int):List Int:=if HT.lexLt w.reverse w=true then w.reverse else w
def RT(w:List Int):qp w=w\/qp w=w.reverse:=by
 unfold qp;split<;>simp_all
def Iu(w:List Int):(qp w).Perm w:=by
 rcases RT w with e|e<;>simp_all
theorem RU:∀W:cf,(W.map qp).flatten.Perm W.flatten
 |[]=>.refl _
 |w::W=>(Iu w).append (RU W)
section
variable{o:Int}{ps T:bK}{P B w:List Int}{W:cf}
theorem RV(l:∀p∈ps,p.1<p.2):∀{w:List Int},(∀p∈jn w,p∈ps)->fy (cR ps) w=true
 |[],_=>rfl
 |[_],_=>rfl
 |a::b::r,h=>by
  have d:jm a b∈ps:=h _ (by simp[jn]);have c:=RV l (w:=b::r) λ p e=>h p (by rw[jn];simp_all)
  rw[fy,c,uQ,decide_eq_true_eq,Rl l];assumption
def abB(h:fy (cR ps) w=true):fy (cR ps) w.reverse=true:=by
 rw[QS]at h ⊢;intro i a b ea eb;have la:=(eW.mp ea).1;have lb:=(eW.mp eb).1;rw[qy]at la lb;rw[z5 la]at ea;rw[z5 lb]at eb
 have:=h (w.length-1-(i+1)) b a eb (by rw[<-ea];congr 1;grind)
 exact HY ps _ _ this
def abC{l:List Int}(h:l.Nodup):(df l).length=l.length:=DE (xb (t7 l) λ x a=>(y3 l x).mp a) (xb h λ x a=>(y3 l x).mpr a)
def abD(n:w≠[])(r:∀x∈w,0<=x/\x<o)(nd:w.Nodup)(a:fy (cR ps) w=true):ji o (cR ps) (tupI w)=true:=by
 have e:(w.map D.int).map intOf=w:=ints_of w;unfold ji tupI;cb_eq;rw[e,abC nd,a,bb,decide_eq_true rfl,uQ,uQ,cF];refine⟨by simp_all,?_⟩;rw[kk];intro d h;obtain⟨x,b,rfl⟩:=cX.mp h;obtain⟨c,f⟩:=r x b;simp[jQ,c,f]
def lL(W:cf):cf:=pX (W.map qp)
def Iv:(lL W).Perm (W.map qp):=Cw _
def RW(K:fm T 0 o P W B):(lL W).flatten.Perm P:=(Iv.flatten.trans (RU W)).trans K.fl
def abE(K:fm T 0 o P W B){r:List Int}(h:r∈lL W):∃w∈W,(r=w\/r=w.reverse)/\r≠[]/\r.Nodup/\∀x∈r,0<=x/\x<o:=by
 obtain⟨w,a,rfl⟩:=cX.mp (Iv.mem_iff.mp h);have p:=Iu w;have nd:=K.fl.nodup_iff.mpr K.pn;refine⟨w,a,RT w,λ e=>K.ne w a (JU.mp (by simp_all)),p.nodup_iff.mpr ((List.pairwise_flatten.mp nd).1 w a),λ x b=>?_⟩;exact(K.pm x).mp (K.fl.mem_iff.mp (sG.mpr ⟨w,a,p.mem_iff.mp b⟩))
def abF(K:fm T 0 o P W B)(h:∀p∈T,p∈ps)(l:∀p∈ps,p.1<p.2):wX o (cR ps) (.tup ((lL W).map tupI))=true:=by
 have e:((lL W).map tupI).map rowOf=lL W:=by
  rw[fW]
  conv=>rhs;rw[<-xA (lL W)]
  exact sC λ r _=>ints_of r
 unfold wX;cb_eq;rw[e,cF,kk];refine⟨λ d b=>?_,?_⟩
 .obtain⟨r,c,rfl⟩:=cX.mp b
  obtain⟨w,g,e,n,nd,i⟩:=abE K c;have a:fy (cR ps) w=true:=RV l λ p j=>h p (K.ad p (qB.mpr ⟨w,g,j⟩))
  refine abD n i nd ?_;rcases e with e|e
  .rw[e];exact a
  .rw[e];exact abB a
 .have f:=RW K
  have s:sortI (lL W).flatten=eI o:=Ia (Ib (f.nodup_iff.mpr K.pn)) (H9 o) λ x=>by
   rw[(sortI_perm _).mem_iff,f.mem_iff,K.pm,oO]
  unfold C1;rw[s,C0];show iF _ _=true;rw[Q0,decide_eq_true rfl]
def abG(K:fm T 0 o P W B):uH o (tupI (sortI B))=true:=aa0 (Ib K.bn) λ x h=>(K.pm x).mp (K.bs x ((sortI_perm B).mem_iff.mp h))
theorem RX{n:Int}{es:bK}(a:∀x y,(x,y)∈es->0<=y/\y<n):∀(k:Nat) (i:Int),0<=i/\i<n->i.toNat<=k->∃b,(0<=b/\b<n)/\eT es i b/\qm es b=true
 |k,i,h,e=>by
  by_cases c:qm es i=true
  .exact⟨i,h,.refl,c⟩
  .rw[zH]at c
   have:∃b,0<=b/\eT es i b/\b<i:=Jo λ z=>c λ b g f=>Jo λ y=>z ⟨b,g,f,by simp_all⟩
   obtain⟨b,g,f,lt⟩:=this
   match k,e with
   |0,e=>grind
   |k+1,e=>
    obtain⟨d,j,m,l⟩:=RX a k b ⟨g,(f.inn a h).2⟩ (S5 lt e);exact⟨d,j,f.trans m,l⟩
def abH{o:Int}(K:fm T 0 o P W B)(O:oM o ps)(A:ps.Perm T)(I:∀p∈ps,p.1<p.2):C5 o ps [] (sortI B)=W.length:=by
 obtain⟨t,f,l1,l2,l3,l4,l5,l6⟩:=K.lb;obtain⟨ks,s⟩:∃ks,ks=dy o (sortI B):=⟨_,rfl⟩
 have mk:∀x,x∈ks↔x∈P/\x∉B:=λ x=>by
  rw[s,dy,mI,oO,K.pm]
  have:=(sortI_perm B).mem_iff (a:=x)
  simp[this]
 have kr:ks.Pairwise (·< ·):=s▸Ri;have kn:ks.Nodup:=kr.imp λ h=>ER h
 obtain⟨J,C⟩:=Rk (ws:=sortI B) O I;rw[<-s]at J C;obtain⟨es,v⟩:∃es,es=cR (nF ks ps):=⟨_,rfl⟩
 have M:∀x y,(x,y)∈es->0<=y/\y<(ks.length:Int):=λ x y h=>by
  rw[v]at h;rcases ql.mp h with z|z
  .have:=J.pr _ z;exact⟨this.2.2.1,this.2.2.2.1⟩
  .have:=J.pr _ z;exact⟨this.1,this.2.1⟩
 have w:∀i:Int,0<=i/\i<(ks.length:Int)->∃x,x∈ks/\ks.getD i.toNat 0=x/\gZ ks x=i:=λ i E=>by
  have D:i.toNat<ks.length:=by simp_all
  refine⟨ks[i.toNat],lO D,by simp[D],?_⟩;obtain⟨j,_,e,g⟩:=xa (lO D)
  have:=(JI D kn).mp ((en D).trans g.symm)
  lia
 have k:∀x∈ks,ks.getD (gZ ks x).toNat 0=x:=λ x d=>by
  obtain⟨j,_,e,g⟩:=xa d;rw[e,show((j:Nat):Int).toNat=j by rfl,sv,g];rfl
 have u:∀a b,(a,b)∈es↔∃x y,x∈ks/\y∈ks/\gZ ks x=a/\gZ ks y=b/\((x,y)∈T\/(y,x)∈T):=λ a b=>by
  rw[v,ql];unfold nF;simp only[cX];constructor
  .rintro(⟨q,N,e⟩|⟨q,N,e⟩)
   .obtain⟨m,n,Q⟩:=uI N
    injection e with e1 e2
    exact⟨q.1,q.2,n,Q,e1,e2,.inl (A.mem_iff.mp m)⟩
   .obtain⟨m,n,Q⟩:=uI N
    injection e with e1 e2
    exact⟨q.2,q.1,Q,n,e2,e1,.inr (A.mem_iff.mp m)⟩
  .rintro⟨x,y,d,l,rfl,rfl,h|h⟩
   .exact .inl ⟨(x,y),mI.mpr ⟨A.mem_iff.mpr h,by simp[nE,d,l]⟩,rfl⟩
   .exact .inr ⟨(y,x),mI.mpr ⟨A.mem_iff.mpr h,by simp[nE,d,l]⟩,rfl⟩
 obtain⟨g,F⟩:∃g:Int->Nat,g=λ i=>f (ks.getD i.toNat 0):=⟨_,rfl⟩
 have cg:∀i j,eT es i j->g i=g j:=λ i j h=>by
  induction h with
  |refl=>rfl
  |step h e G=>
   obtain⟨x,y,d,l,rfl,rfl,h⟩:=(u _ _).mp e;rw[G,F];cb_eq;rw[k x d,k y l];have m:=(mk x).mp d;have n:=(mk y).mp l;rcases h with h|h
   .exact l1 _ h m.2 n.2
   .exact(l1 _ h n.2 m.2).symm
 have jc:∀x y,x∈ks->lJ T B x y->y∈ks/\eT es (gZ ks x) (gZ ks y):=λ x y d h=>by
  induction h with
  |refl=>exact⟨d,.refl⟩
  |@step y z h e b G=>
   have hz:z∈ks:=by
    refine(mk z).mpr ⟨(K.pm z).mpr ?_,b⟩;rcases e with e|e
    .have:=O.pr _ (A.mem_iff.mpr e);exact⟨this.2.2.1,this.2.2.2.1⟩
    .have:=O.pr _ (A.mem_iff.mpr e);exact⟨this.1,this.2.1⟩
   exact⟨hz,G.2.step ((u _ _).mpr ⟨y,z,G.1,hz,rfl,rfl,e⟩)⟩
 have Y:∀i j,0<=i/\i<(ks.length:Int)->0<=j/\j<(ks.length:Int)->g i=g j->eT es i j:=λ i j E hj h=>by
  obtain⟨x,d,R,ix⟩:=w i E;obtain⟨y,l,ey,iy⟩:=w j hj;rw[F]at h;dsimp only at h;rw[R,ey]at h;have m:=(mk x).mp d;have n:=(mk y).mp l
  have:=(jc x y d (l6 x m.1 m.2 y n.1 n.2 h)).2
  rwa [ix,iy]at this
 obtain⟨L,S⟩:∃L,L=(eI (ks.length:Int)).filter (qm es):=⟨_,rfl⟩
 have H:∀i,i∈L↔(0<=i/\i<(ks.length:Int))/\qm es i=true:=λ i=>by rw[S,mI,oO]
 have Ln:L.Nodup:=S▸(QW _).filter _;have gn:(L.map g).Nodup:=xc Ln λ a ha b U h=>by
  obtain⟨V,a2⟩:=(H a).mp ha;obtain⟨X,b2⟩:=(H b).mp U;have c:=Y a b V X h;have c':=Y b a X V h.symm
  have:=zH.mp a2 b X.1 c
  have:=zH.mp b2 a V.1 c'
  lia
 have len:L.length=t.length:=by
  rw[<-bb (f:=g) (as:=L),<-bb (f:=f) (as:=t)];refine DE (xb gn λ y l=>?_) (xb l3 λ y l=>?_)
  .obtain⟨i,E,rfl⟩:=cX.mp l
   obtain⟨x,d,R,_⟩:=w i ((H i).mp E).1;rw[F];cb_eq;rw[R]
   have:=(mk x).mp d
   exact l4 x this.1 this.2
  .obtain⟨r,hr,rfl⟩:=cX.mp l
   have Z:=(mk r).mpr (l2 r hr);obtain⟨b,b0,U,lb⟩:=RX M _ (gZ ks r) (Ie Z) (bc _);refine cX.mpr ⟨b,(H b).mpr ⟨b0,lb⟩,?_⟩;rw[<-cg _ _ U,F];cb_eq;rw[k r Z]
 unfold C5;rw[<-s,<-v];unfold w8;rw[bb,<-S,len,l5]
 have:(zJ [] (sortI B)).length=B.length:=by
  have:zJ [] (sortI B)=sortI B:=JC.mpr λ x _=>by simp
  rw[this,(sortI_perm B).length_eq]
 rw[this];simp
end
def abI{x:D}{d o:Nat}(h:bY x=some (d,o))(S:jP x)(n:nd x<90000)(a:d<=24)(b:o<=40):∃P W B,oG [x]= .ok (aH P W B)/\fm (cK x) 0 o P W B:=by
 obtain⟨g,P,W,B,e,K⟩:=It 64 x d o 0 h (Tb a) S (by decide) (by lia);rw[abw,Int.zero_add]at K;have c:Hn [x,.int 0]= .ok _:=e;have p:uu [x]= .ok (.bl true):=by
  rw[QJ S n];simp[qk,h,a,b]
 have f:wL [x]= .ok .non:=by
  have st:dw 1 [x]=[.sh x]:=rfl;simp only[wL,dg,fU,st];simp[p]
 have st:dw 1 [x]=[.sh x]:=rfl;refine⟨P,W,B,?_,K⟩;simp only[oG,cO,fU,st];simp[f,c]
def xi{x:D}(S:jP x)(n:nd x<90000)(h:qk x=false):nC [x]= .ex "NoPlan"/\nD [x]= .ex "NoPlan":=by
 have p:uu [x]= .ok (.bl false):=by rw[QJ S n,h]
 have c:wL [x]= .ex "NoPlan":=by
  have st:dw 1 [x]=[.sh x]:=rfl;simp only[wL,dg,fU,st];simp[p]
 have k:oG [x]= .ex "NoPlan":=by
  have st:dw 1 [x]=[.sh x]:=rfl;simp only[oG,cO,fU,st];simp[c]
 have st:dw 4 [x]=[.sh x,.no,.no,.no]:=rfl;constructor
 .simp only[nC,cZ,fU,st]
  simp[k]
 .simp only[nD,gq,fU,st]
  simp[k]
def abJ{x:D}{o:Int}{P B:List Int}{W:cf}{T:bK}(h:oG [x]= .ok (aH P W B))(K:fm T 0 o P W B)(d:P.length<=60):CP [x]= .ok (.int W.length)/\nC [x]= .ok (.tup ((lL W).map tupI))/\nD [x]= .ok (tupI (sortI B)):=by
 have wl:=K.wl;have st:dw 4 [x]=[.sh x,.no,.no,.no]:=rfl;have a:kB (bt oG (ae (aa 0) aj)) (eP 3 (bM (aD 1) (bM (aD 2) (bM (aD 3) e7)))) [.sh x,.no,.no,.no]= .nx [.sh x,.sh (.lst (P.map .int)),.sh (.lst (W.map tupI)),.sh (.lst (B.map .int))]:=by simp[h,aH]
 refine⟨?_,?_,?_⟩
 .simp only[CP,dq,fU,st]
  rw[bQ,a,ck];simp
 .have e:e8 (eA (aa 2)) [none] (aD 0) gH (bt zh (ae (aa 0) aj)) [.sh x,.sh (.lst (P.map .int)),.sh (.lst (W.map tupI)),.sh (.lst (B.map .int))]= .ok (.lst ((W.map qp).map tupI)):=by
   refine oN (ds:=W.map tupI) rfl (by rw[bb];lia) ?_;rw[fW];exact wV W λ w _=>⟨[.sh (tupI w)],rfl,abc w⟩
  have s:lB [.lst ((W.map qp).map tupI)]= .ok (.lst ((lL W).map tupI)):=aaQ (λ r b=>by
   obtain⟨w,c,rfl⟩:=cX.mp b;exact λ e=>K.ne w c (JU.mp (by rw[<-e];exact(Iu w).symm))) (by rw[bb];lia)
  simp only[nC,cZ,fU,st];rw[bQ,a,ck,qa,jO,eC,jO,eC,e,aU,jg,aU,aU,s,se,aU,aU,aU,aai,se];rfl
 .have s:lB [.lst (B.map .int)]= .ok (.lst ((sortI B).map .int)):=QY (by lia)
  simp only[nD,gq,fU,st];rw[bQ,a,ck];simp[s,tupI]
theorem RY:∀f:cf,((f.map tupI).map wW).sum=f.flatten.length
 |[]=>rfl
 |r::f=>by
  rw[dH,dH,JV,iV,RY f];simp[wW]
def abK{f:cf}(h:f.flatten.length<64)(b:f.length<64):Q4 (.tup (f.map tupI)) where
 p:=HP λ d a=>by
   obtain⟨r,_,rfl⟩:=cX.mp a;exact HW r
 r:=λ l e d a=>by
  injection e with e
  subst e;obtain⟨r,c,rfl⟩:=cX.mp a;exact jS.fn (k:=0) jS.ints (by decide) (by
   have:=(Dm c).length_le
   rw[bb];lia)
 z:=λ l e=>by
  injection e with e
  subst e;rw[RY,bb];exact⟨h,Te b⟩
structure nG(x:D)(d o:Nat):Prop where
 im:imm x=true
 no:bu x=true
 nn:nd x<=1000
 dp:dR x<=55
 l:bY x=some (d,o)
 d24:d<=24
 o40:o<=40
def nG.sm{x:D}{d o:Nat}(P:nG x d o):jP x:=⟨P.no,by have:=P.dp;lia⟩
def Iw{x y:D}{d o a o2:Nat}(w:Str)(h:(w=="beside"||w=="across")=true)(P:nG x d o)(Q:nG y a o2)(b:d<=20)(c:a<=20)(e:o+o2<=40)(n:nd x<=200)(f:nd y<=200)(p:dR x<=49)(g:dR y<=49):nG (.tup [.str w,.tup [x,y]]) (max d a+1) (o+o2) where
 im:=by simp[imm,er,P.im,Q.im]
 no:=by simp[bu,cA,P.no,Q.no]
 nn:=by simp[nd,eS];omega
 dp:=by simp[dR,cQ];omega
 l:=by
  have h:lI (.str w)=true:=h;simp[bY,h,dj,P.l,Q.l]
 d24:=by omega
 o40:=by omega
theorem ones:∀m:Nat,1<=m->dj (dO m bV)=some (1,m)
 |0,h=>by simp_all
 |1,_=>by rfl
 |m+2,_=>by
  rw[xr]
  have:=ones (m+1) (nP _)
  simp only[dj,uB,this]
  grind
def abL{m:Nat}(h:2<=m)(a:m<=40):ud (.tup [.tup [.str "one"]]) (.int m)= .ok (.tup (dO m bV)):=by
 unfold ud;cb_eq;rw[if_neg (by lia),if_neg (by lia)];unfold Cd;cb_eq;rw[if_pos (by simp[];lia)];exact congrArg (λ l=>ag.ok _) (QK m)
def abM{m:Nat}(h:2<=m)(b:m<=13):nG (.tup [.str "beside",.tup (dO m bV)]) 2 m:=by
 obtain⟨r,a,c⟩:=HM m;obtain⟨i,bw⟩:=CS _ r;refine⟨by simp[imm,er,i],by simp[bu,cA,bw],by simp[nd,eS,a];omega,by simp[dR,cQ];omega,?_,by decide,by omega⟩
 have:=ones m (by omega)
 have w:lI (.str "beside")=true:=rfl;simp only[bY];simp_all
section
variable{a b c e f l g:Slot}
def abN{x:D}{d o:Nat}(P:nG x d o)(s7 s8 s9:Slot):∃u v y,zu [a,b,c,e,f,l,.sh x,s7,s8,s9,g]= .nx [a,b,c,e,f,l,.sh x,u,v,y,g]:=by
 obtain⟨ps,z,O,q,w⟩:=abA P.l P.sm (by have:=P.d24;lia) P.o40;obtain⟨Q,W,B,A,K⟩:=abI P.l P.sm (by have:=P.nn;lia) P.d24 P.o40;have C:=P.o40;have S:=K.len;have wl:=K.wl;obtain⟨E,r,s⟩:=abJ A K (by lia);have G:=RW K;have H:(lL W).length=W.length:=by rw[Iv.length_eq,bb]
 have F:=abK (f:=lL W) (by rw[G.length_eq];lia) (by lia);have h:=aa8 O w F;rw[abF K (λ p i=>q.mem_iff.mpr i) w]at h;have bl:(sortI B).length=B.length:=(sortI_perm B).length_eq;have j:=abb (n:=o) (ps:=ps) (d:=tupI (sortI B)) (by unfold tupI mF;exact HW _) (by simp[Ii,tupI];lia);rw[abG K]at j;have k:=aa4 (ws:=sortI B) (es:=[]) O w (by lia);rw[abH K O q w]at k;obtain⟨R,t⟩:∃R,R=D.tup ((lL W).map tupI):=⟨_,rfl⟩
 obtain⟨Y,I⟩:∃Y,Y=tupI (sortI B):=⟨_,rfl⟩
 have J:cw [R]= .ok (.int W.length):=by rw[t,<-H,<-bb (f:=tupI)];rfl
 rw[<-t]at r h;rw[<-I]at s j k;have L:Hq [a,b,c,e,f,l,.sh x,s7,s8,s9,g]= .nx [a,b,c,e,f,l,.sh x,.sh (aL o ps),s8,s9,g]:=by simp[Hq,z]
 have c1:Hr [a,b,c,e,f,l,.sh x,.sh (aL o ps),s8,s9,g]= .nx [a,b,c,e,f,l,.sh x,.sh (aL o ps),.sh R,s9,g]:=by simp[Hr,r]
 have c2:Hs [a,b,c,e,f,l,.sh x,.sh (aL o ps),.sh R,s9,g]= .nx [a,b,c,e,f,l,.sh x,.sh (aL o ps),.sh R,.sh Y,g]:=by simp[Hs,s]
 have M:Ht [a,b,c,e,f,l,.sh x,.sh (aL o ps),.sh R,.sh Y,g]= .nx [a,b,c,e,f,l,.sh x,.sh (aL o ps),.sh R,.sh Y,g]:=by simp[Ht,h,j]
 have N:Hu [a,b,c,e,f,l,.sh x,.sh (aL o ps),.sh R,.sh Y,g]= .nx [a,b,c,e,f,l,.sh x,.sh (aL o ps),.sh R,.sh Y,g]:=by
  have m:zq [aL o ps,Y,.tup []]= .ok (.int W.length):=k;simp[Hu,m,J,E]
 exact⟨_,_,_,by rw[zu,bQ,L,ck,bQ,c1,ck,bQ,c2,ck,bQ,M,ck,N]⟩
def zP(p:D):List D:=[.non,.tup [.str "two"],.tup [.str "across",.tup [p]],.lst [.str "one"],.tup [.str "beside",.tup [p,.int 0]],.tup []]
def abO{x p:D}{d o:Nat}(P:nG p d o)(h:x∈zP p):nC [x]= .ex "NoPlan"/\nD [x]= .ex "NoPlan":=by
 have a:=P.nn;have b:=P.dp;have n:∀{x:D},bY x=none->qk x=false:=λ h=>by simp[qk,h]
 unfold zP at h;simp only[bI,iK,or_false]at h;rcases h with rfl|rfl|rfl|rfl|rfl|rfl
 .exact xi ⟨rfl,by decide⟩ (by decide) (n (by simp[bY]))
 .exact xi ⟨rfl,by decide⟩ (by decide) (n (by simp[bY];decide))
 .exact xi ⟨by simp[bu,cA,P.no],by simp[dR,cQ];lia⟩ (by simp[nd,eS];lia) (n (by simp[bY]))
 .exact xi ⟨rfl,by decide⟩ (by decide) (n (by simp[bY]))
 .exact xi ⟨by simp[bu,cA,P.no],by simp[dR,cQ];lia⟩ (by simp[nd,eS];lia) (n (by simp[bY,dj,P.l]))
 .exact xi ⟨rfl,by decide⟩ (by decide) (n (by simp[bY]))
def abP{ns:List Int}{k:Int}(k0:0<=k){s2 s3 s4 s5 s6 s7 s8 s9 sA:Slot}:∃W t3 t4 t5 t6 t h j X,zv [.sh (.scr ns),.sh (.int k),s2,s3,s4,s5,s6,s7,s8,s9,sA]= .nx [.sh (.scr ns),.sh (.int k),W,t3,t4,t5,t6,t,h,j,X]:=by
 obtain⟨c,Y⟩:=aaq (ns:=ns) (k:=k) k0;obtain⟨v,w,Z⟩:=uA (c:=c) (k:=0) (b:=20) (by decide) (by decide) (by decide) (by decide);obtain⟨x,y,hr2⟩:=uA (c:=c) (k:=1) (b:=20) (by decide) (by decide) (by decide) (by decide);obtain⟨r,z,hr4⟩:=uA (c:=c) (k:=2) (b:=12) (by decide) (by decide) (by decide) (by decide);obtain⟨r3,A,B⟩:=uA (c:=c) (k:=8000) (b:=6) (by decide) (by decide) (by decide) (by decide);obtain⟨p,ep,p1,C,E,pd,po,p4,p5,p6⟩:=QM (c:=c) (a:=5000) (m:=1+v) (by decide) (by decide) (by simp) (by lia);rw[show((1+v:Nat):Int)=1+(v:Int)by omega]at ep;obtain⟨q,K,q1,M,N,qd,qo,q4,q5,q6⟩:=QM (c:=c) (a:=6000) (m:=1+x) (by decide) (by decide) (by omega) (by omega);rw[show((1+x:Nat):Int)=1+(x:Int)by omega]at K;have F:=HL p p1;have O:=HL q q1;have P:nG p pd po:=⟨F.1,F.2,by omega,by omega,p4,by omega,by omega⟩;have Q:nG q qd qo:=⟨O.1,O.2,by omega,by omega,q4,by omega,by omega⟩;have L:=abM (m:=2+r) (by omega) (by omega);obtain⟨rn1,G,rn3⟩:=HM (2+r);have n:nd (.tup [.str "beside",.tup (dO (2+r) bV)])<=200:=by simp[nd,eS,G];omega
 have o:dR (.tup [.str "beside",.tup (dO (2+r) bV)])<=49:=by simp[dR,cQ];omega
 have R:=abL (m:=2+r) (by omega) (by omega);rw[show((2+r:Nat):Int)=2+(r:Int)by omega]at R;obtain⟨l,S⟩:∃l,l=D.tup [.str "beside",.tup (dO (2+r) bV)]:=⟨_,rfl⟩
 have gp:mj p= .ok p:=CF F.1;have c2:Hv [.sh (.scr ns),.sh (.int k),s2,s3,s4,s5,s6,s7,s8,s9,sA]= .nx [.sh (.scr ns),.sh (.int k),.sh (.int c),s3,s4,s5,s6,s7,s8,s9,sA]:=by simp[Hv,Y]
 have c3:Hw [.sh (.scr ns),.sh (.int k),.sh (.int c),s3,s4,s5,s6,s7,s8,s9,sA]= .nx [.sh (.scr ns),.sh (.int k),.sh (.int c),.sh p,s4,s5,s6,s7,s8,s9,sA]:=by simp[Hw,w,ep]
 have c4:Hx [.sh (.scr ns),.sh (.int k),.sh (.int c),.sh p,s4,s5,s6,s7,s8,s9,sA]= .nx [.sh (.scr ns),.sh (.int k),.sh (.int c),.sh p,.sh q,s5,s6,s7,s8,s9,sA]:=by simp[Hx,y,K]
 have c5:Hy [.sh (.scr ns),.sh (.int k),.sh (.int c),.sh p,.sh q,s5,s6,s7,s8,s9,sA]= .nx [.sh (.scr ns),.sh (.int k),.sh (.int c),.sh p,.sh q,.sh l,s6,s7,s8,s9,sA]:=by
  rw[S]
  have:ai ud (bC (ae (bC (ae (aq (.str "one")) aj)) aj)) (ai bZ (aq (.int 2)) (bt iT (ae (aa 2) (ae (aq (.int 2)) (ae (aq (.int 12)) aj))))) [.sh (.scr ns),.sh (.int k),.sh (.int c),.sh p,.sh q,s5,s6,s7,s8,s9,sA]= .ok (.tup (dO (2+r) bV)):=by
   simp[z,R]
  rw[Hy,CD,Hg,eC,Qg,aU,eC,this,aU,jg,aU,aU,aU];rfl
 rw[<-S]at L n o;obtain⟨ρ',ef,t6,t,h,j,rfl⟩:=CH (a:=aD 6) (u:=zu) (ds:=[p,.tup [.str "beside",.tup [p,q]],.tup [.str "across",.tup [q,p]],.tup [.str "across",.tup [l,p]]]) (λ _ ρ=>∃t6 t h j,ρ=[.sh (.scr ns),.sh (.int k),.sh (.int c),.sh p,.sh q,.sh l,t6,t,h,j,sA]) (by
   rintro i d ρ hd ⟨t6,t,h,j,rfl⟩;have T:=nL hd;have H:∃d' U,nG d d' U:=by
    simp only[bI,iK,or_false]at T;rcases T with rfl|rfl|rfl|rfl
    .exact⟨_,_,P⟩
    .exact⟨_,_,Iw "beside" rfl P Q (by omega) (by omega) (by omega) C M E N⟩
    .exact⟨_,_,Iw "across" rfl Q P (by omega) (by omega) (by omega) M C N E⟩
    .exact⟨_,_,Iw "across" rfl L P (by omega) (by omega) (by omega) n C o E⟩
   obtain⟨d',U,H⟩:=H;obtain⟨u7,u8,u9,e⟩:=abN (a:=.sh (.scr ns)) (b:=.sh (.int k)) (c:=.sh (.int c)) (e:=.sh p) (f:=.sh q) (l:=.sh l) (g:=sA) H t h j;exact⟨_,by rw[oE,mB];exact e,.sh d,u7,u8,u9,rfl⟩) (ρ:=[.sh (.scr ns),.sh (.int k),.sh (.int c),.sh p,.sh q,.sh l,s6,s7,s8,s9,sA]) ⟨_,_,_,_,rfl⟩
 have c6:gh Hp (aD 6) zu [.sh (.scr ns),.sh (.int k),.sh (.int c),.sh p,.sh q,.sh l,s6,s7,s8,s9,sA]= .nx [.sh (.scr ns),.sh (.int k),.sh (.int c),.sh p,.sh q,.sh l,t6,t,h,j,sA]:=by
  have hi:Hp [.sh (.scr ns),.sh (.int k),.sh (.int c),.sh p,.sh q,.sh l,s6,s7,s8,s9,sA]= .ok [p,.tup [.str "beside",.tup [p,q]],.tup [.str "across",.tup [q,p]],.tup [.str "across",.tup [l,p]]]:=rfl;rw[oF,hi,ez,ef]
 obtain⟨b,eb,mb,_⟩:=Hh (l:=zP p) (i:=(r3:Int)) (by omega) (by simpa[zP]using B);have c7:Hz [.sh (.scr ns),.sh (.int k),.sh (.int c),.sh p,.sh q,.sh l,t6,t,h,j,sA]= .nx [.sh (.scr ns),.sh (.int k),.sh (.int c),.sh p,.sh q,.sh l,t6,t,h,j,.nw b]:=by
  have s:=eb;unfold zP at s;unfold Hz;simp[gp,A,s]
 obtain⟨hb,I⟩:=abO P mb;have V:cq true (.str "plan") (.str "plan")= .ok (.bl false):=rfl;have c8:HA [.sh (.scr ns),.sh (.int k),.sh (.int c),.sh p,.sh q,.sh l,t6,t,h,j,.nw b]= .nx [.sh (.scr ns),.sh (.int k),.sh (.int c),.sh p,.sh q,.sh l,t6,t,h,j,.nw b]:=by
  have J:rO qc "told" (bt nC (ae (aa 10) aj)) [.sh (.scr ns),.sh (.int k),.sh (.int c),.sh p,.sh q,.sh l,t6,t,h,j,.nw b]= .ok (.str "plan"):=Re (c:="NoPlan") (by simp[rM,hb]) (by kernel_rfl);unfold HA;simp[J,V]
 have c9:HB [.sh (.scr ns),.sh (.int k),.sh (.int c),.sh p,.sh q,.sh l,t6,t,h,j,.nw b]= .nx [.sh (.scr ns),.sh (.int k),.sh (.int c),.sh p,.sh q,.sh l,t6,t,h,j,.nw b]:=by
  have J:rO qc "told" (bt nD (ae (aa 10) aj)) [.sh (.scr ns),.sh (.int k),.sh (.int c),.sh p,.sh q,.sh l,t6,t,h,j,.nw b]= .ok (.str "plan"):=Re (c:="NoPlan") (by simp[rM,I]) (by kernel_rfl);unfold HB;simp[J,V]
 refine⟨.sh (.int c),.sh p,.sh q,.sh l,t6,t,h,j,.nw b,?_⟩;unfold zv;rw[bQ,c2,ck,bQ,c3,ck,bQ,c4,ck,bQ,c5,ck,bQ,c6,ck,bQ,c7,ck,bQ,c8,ck,c9]
end
def abQ(ns:List Int)(x:ns.length<=63):HD [.scr ns]= .ok (.bl true):=by
 have st:dw 11 [.scr ns]=[.sh (.scr ns),.no,.no,.no,.no,.no,.no,.no,.no,.no,.no]:=rfl;have h:∃m:Int,(if (if (5:Int)<(ns.length:Int)then(5:Int)else(ns.length:Int))>1 then(if (5:Int)<(ns.length:Int)then(5:Int)else(ns.length:Int))else 1)=m/\0<=m/\m<=5:=⟨_,rfl,by split<;>split<;>simp,by split<;>split<;>simp_all⟩
 obtain⟨m,l,B,C⟩:=h;have r:=ui (j:=m) (by lia) (by lia);obtain⟨n,e,g,t,t3,t4,t5,t6,b,c,f,A,rfl⟩:=CH (a:=aD 1) (u:=zv) (ds:=eB 0 m) (λ _ ρ=>∃g t t3 t4 t5 t6 b c f A,ρ=[.sh (.scr ns),g,t,t3,t4,t5,t6,b,c,f,A]) (by
  rintro i d ρ o ⟨g,t,t3,t4,t5,t6,b,c,f,A,rfl⟩;obtain⟨rfl,_⟩:=HN o;obtain⟨D,E,F,G,H,I,J,K,si,e⟩:=abP (ns:=ns) (k:=0+(i:Int)) (by simp) (s2:=t) (s3:=t3) (s4:=t4) (s5:=t5) (s6:=t6) (s7:=b) (s8:=c) (s9:=f) (sA:=A);exact⟨_,by rw[oE,mB];exact e,_,_,_,_,_,_,_,_,_,_,rfl⟩) (ρ:=[.sh (.scr ns),.no,.no,.no,.no,.no,.no,.no,.no,.no,.no]) ⟨_,_,_,_,_,_,_,_,_,_,rfl⟩
 have c1:gh Ho (aD 1) zv [.sh (.scr ns),.no,.no,.no,.no,.no,.no,.no,.no,.no,.no]= .nx [.sh (.scr ns),g,t,t3,t4,t5,t6,b,c,f,A]:=by
  have p:Ho [.sh (.scr ns),.no,.no,.no,.no,.no,.no,.no,.no,.no,.no]= .ok (eB 0 m):=by
   rw[<-r,<-l];rfl
  rw[oF,p,ez,e]
 have z:nC [.tup [.str "one"]]= .ok (.tup [.tup [.int 0]]):=by kernel_rfl
 have q:nD [.tup [.str "one"]]= .ok (.tup []):=by kernel_rfl
 have s:cq false (.tup [.tup [.int 0]]) (.tup [.tup [.int 0]])= .ok (.bl true):=rfl;have v:cq false (.tup []) (.tup [])= .ok (.bl true):=rfl;have w:HC [.sh (.scr ns),g,t,t3,t4,t5,t6,b,c,f,A]= .ok (.bl true):=by
  simp[HC,z,q,s,v]
 have y:aAC [.sh (.scr ns),.no,.no,.no,.no,.no,.no,.no,.no,.no,.no]= .rt (.bl true):=by
  rw[aAC,bQ,c1,ck,qa,w,ez]
 unfold HD;rw[fU,st,y]
local macro_rules|`(tactic|walk_at "sc")=>`(tactic|exact⟨rfl,rfl,rfl,by f_are,rfl,by f_are,by decide+kernel⟩)
abbrev ac:PySem.Str:="_law_web"
abbrev am:PySem.Str:="_law_plan_here"
abbrev ap:PySem.Str:="plan"
abbrev a_:PySem.Str:="_law_thing"
abbrev a':PySem.Str:="_law_script"
abbrev be:PySem.Str:="_law_cell"
abbrev bi:PySem.Str:="other"
abbrev bv:PySem.Str:="_law_many"
abbrev b_:PySem.Str:="_law_k"
abbrev ce:PySem.Str:="_law_place"
abbrev cr:PySem.Str:="thing"
abbrev c_:PySem.Str:="_law_other"
abbrev db:PySem.Str:="_law_places"
abbrev dl:PySem.Str:="_law_bar"
abbrev d_:PySem.Str:="one"
abbrev em:PySem.Str:="ways"
abbrev e_:PySem.Str:="_law_error"
abbrev f_:PySem.Str:="_law_ends"
abbrev f':PySem.Str:="start"
abbrev ge:PySem.Str:="_law_bound"
abbrev gl:PySem.Str:="_law_one"
abbrev g_:PySem.Str:="ValueError"
abbrev h_:PySem.Str:="_law_parting"
abbrev ii:PySem.Str:="_law_ties"
abbrev io:PySem.Str:="_law_some"
abbrev i_:PySem.Str:="_law_call"
abbrev i':PySem.Str:="way"
abbrev jp:PySem.Str:="many"
abbrev j_:PySem.Str:="between"
abbrev j':PySem.Str:="_law_at"
abbrev kt:PySem.Str:="_law_wide"
abbrev k_:PySem.Str:="_law_lone"
abbrev lc:PySem.Str:="NoParting"
noncomputable def top(i:Nat):Stmt:=PySem.Challenge.pw_fewways_k46_partings_and_bars_of_plans.main.body.getD i (.Pass ⟨0,0,0,0⟩)
abbrev Iy:Stmt:=top 20
abbrev Iz:Stmt:=top 21
abbrev IA:Stmt:=top 22
abbrev IB:Stmt:=top 24
abbrev IC:Stmt:=top 26
abbrev ID:Stmt:=top 27
abbrev IE:Stmt:=top 28
abbrev IF:Stmt:=top 29
abbrev IG:Stmt:=top 30
abbrev zQ:Stmt:=top 31
abbrev IH:Stmt:=top 32
abbrev II:Stmt:=top 33
abbrev IJ:Stmt:=top 34
abbrev IK:Stmt:=top 35
abbrev IL:Stmt:=top 37
abbrev IM:Stmt:=top 38
abbrev IP:Stmt:=top 39
abbrev IQ:Stmt:=top 40
abbrev IR:Stmt:=top 41
abbrev IS:Stmt:=top 42
abbrev IT:Stmt:=top 43
abbrev IU:Stmt:=top 44
abbrev IV:Stmt:=top 45
abbrev zR:Stmt:=top 46
abbrev IW:Stmt:=top 47
abbrev IX:Stmt:=top 48
abbrev IY:Stmt:=top 49
abbrev qq:Stmt:=top 50
def abR:dk [cr] [cr] (bg Iy):=by walk_at "sc"
def abS:dk [cr,"left","ones","here","deep"] [cr] (bg Iz):=by walk_at "sc"
def abT:dk [cr] [cr] (bg IA):=by walk_at "sc"
def abU:dk [i'] [i'] (bg IB):=by walk_at "sc"
def abV:dk [d_,bi] [d_,bi] (bg IC):=by walk_at "sc"
def abW:dk [em,j_,"found","at",i'] [em,j_] (bg ID):=by walk_at "sc"
def abX:dk [em,jp,"found","at"] [em,jp] (bg IE):=by walk_at "sc"
def abY:dk [d_,bi,"places",em,"bar","joints","behind",i'] [d_,bi] (bg IF):=by walk_at "sc"
def abZ:dk [d_,bi,jp] [d_,bi] (bg IG):=by walk_at "sc"
def ab0:dk [ap,f',"known","inner",bi] [ap,f'] (bg zQ):=by walk_at "sc"
def ab1:dk [ap] [ap] (bg IH):=by walk_at "sc"
def ab2:dk [ap,"places",em,"bar"] [ap] (bg II):=by walk_at "sc"
def ab3:dk [ap,"places",em,"bar"] [ap] (bg IJ):=by walk_at "sc"
def ab4:dk [ap,"places",em,"bar"] [ap] (bg IK):=by walk_at "sc"
def ab5:dk [a',b_] [a',b_] (bg IL):=by walk_at "sc"
def ab6:dk [be,b_,ge,"_law_left_here","_law_j","_law_stir"] [be,b_,ge] (bg IM):=by walk_at "sc"
def ab7:dk [ac,"_law_least","_law_turn",gl,c_] [ac] (bg IP):=by walk_at "sc"
def ab8:dk [ac,db,"_law_stays",ii] [ac,db] (bg IQ):=by walk_at "sc"
def ab9:dk [ac,dl,f_] [ac,dl,f_] (bg IR):=by walk_at "sc"
def aca:dk [ac,a_,ce,gl,c_] [ac,a_] (bg IS):=by walk_at "sc"
def acb:dk [ac,a_,db,"_law_way"] [ac,a_] (bg IT):=by walk_at "sc"
def acd:dk [ac,a_,ce] [ac,a_] (bg IU):=by walk_at "sc"
def ace:dk [be,j',bv,io,"_law_turn",kt,"_law_first","_law_word"] [be,j',bv] (bg IV):=by walk_at "sc"
def acf:dk [am,bv,ii,gl,kt,"_law_more",ce] [am] (bg zR):=by walk_at "sc"
def acg:dk [am,bv,ii] [am] (bg IW):=by walk_at "sc"
def ach:dk [e_,"_law_kinds","_law_words"] [e_] (bg IX):=by walk_at "sc"
def aci:dk [i_,"_law_word",e_] [i_] (bg IY):=by walk_at "sc"
def acj:dk [a',b_,be,am,c_,k_,io,ac,h_,dl,"_law_bad"] [a'] (bg qq):=by walk_at "sc"
set_option genInjectivity false in
set_option genSizeOf false in
structure IZ where
 lq:Addr
 bH:cB
 aBA:Addr
 ju:cB
 ux:Addr
 dg:cB
 qT:Addr
 dU:cB
 rW:Addr
 du:cB
 aGU:Addr
 rD:cB
 aDb:Addr
 nM:cB
 km:Addr
 cC:cB
 rP:Addr
 cU:cB
 kh:Addr
 cj:cB
 pF:Addr
 cO:cB
 rQ:Addr
 dq:cB
 qR:Addr
 cZ:cB
 zc:Addr
 gq:cB
 rT:Addr
 dJ:cB
 zp:Addr
 eQ:cB
 wZ:Addr
 iD:cB
 zg:Addr
 jF:cB
 wY:Addr
 iC:cB
 zm:Addr
 jG:cB
 nH:Addr
 cV:cB
 pC:Addr
 dB:cB
 zf:Addr
 jE:cB
 iY:Addr
 cG:cB
 qU:Addr
 dW:cB
 wg:Addr
 ww:cB
 rR:Addr
 rz:cB
 aGT:Addr
 aAC:cB
 aMz:Value
 aMy:V
 aCY:Value
 aCZ:Value
 wM:Value
 wN:Value
 jL:Addr
 oZ:Addr
 jJ:Addr
 o6:Addr
 eV:Addr
 jH:Addr
 gw:Addr
 lD:Addr
 gr:Addr
 jK:Addr
 lC:Addr
 lE:Addr
 o7:Addr
def zS(t:IZ):Addr->Option Str:=λ C=>(([t.oZ,t.jJ,t.o6,t.eV,t.jH,t.gw,t.lD,t.gr,t.jK,t.lC,t.lE,t.o7]:List Addr).zip (["web","place",i',"parting",jp,"forest",ap,"one way","order","text","deed","row"]:List Str)).lookup C
structure ej(K:av)(mg:Str->Option Value)(t:IZ):Prop where
 mC:eF K mg "is_put_together" Iy [cr] t.lq t.bH
 aBD:eF K mg "is_plan" Iz [cr] t.aBA t.ju
 uz:eF K mg "check_plan" IA [cr] t.ux t.dg
 qW:eF K mg "lesser_about" IB [i'] t.qT t.dU
 rn:eF K mg "laid_beside" IC [d_,bi] t.rW t.du
 aCG:eF K mg "laced" ID [em,j_] t.aGU t.rD
 aAA:eF K mg "cut_up" IE [em,jp] t.aDb t.nM
 gm:eF K mg "joined_by_places" IF [d_,bi] t.km t.cC
 rY:eF K mg "tied_across" IG [d_,bi] t.rP t.cU
 tV:eF K mg "known_of" zQ [ap,f'] t.kh t.cj
 gU:eF K mg "checked_known" IH [ap] t.pF t.cO
 rZ:eF K mg "plan_fewest" II [ap] t.rQ t.dq
 iZ:eF K mg "plan_parting" IJ [ap] t.qR t.cZ
 oV:eF K mg "plan_bar" IK [ap] t.zc t.gq
 rm:eF K mg "_law_cell_at" IL [a',b_] t.rT t.dJ
 eO:eF K mg "_law_draw" IM [be,b_,ge] t.zp t.eQ
 wu:eF K mg "_law_parts" IP [ac] t.wZ t.iD
 zy:eF K mg "_law_left" IQ [ac,db] t.zg t.jF
 wj:eF K mg "_law_shown" IR [ac,dl,f_] t.wY t.iC
 zz:eF K mg "_law_goes" IS [ac,a_] t.zm t.jG
 nJ:eF K mg "_law_is_parting" IT [ac,a_] t.nH t.cV
 pG:eF K mg "_law_is_places" IU [ac,a_] t.pC t.dB
 tU:eF K mg "_law_plan" IV [be,j',bv] t.zf t.jE
 oW:eF K mg "_law_web_of" zR [am] t.iY t.cG
 qX:eF K mg "_law_plan_web" IW [am] t.qU t.dW
 lr:eF K mg "_law_class" IX [e_] t.wg t.ww
 dI:eF K mg "_law_refused" IY [i_] t.rR t.rz
 aNm:eF K mg "law" qq [a'] t.aGT t.aAC
 aD7:mg "ONE"=some t.aMz
 aNH:RelV t.aMy t.aMz
 bV:∀A H,aw K A H t.aMy bV
 uv:mg "BESIDE"=some t.aCY
 aIg:RelV (.str "beside") t.aCY
 qQ:mg "ACROSS"=some t.aCZ
 aCn:RelV (.str "across") t.aCZ
 lW:mg "MOST_ONES"=some t.wM
 aCl:RelV (.int 40) t.wM
 lZ:mg "MOST_DEEP"=some t.wN
 aCm:RelV (.int 24) t.wN
 zL:mg "FewError"=some (.ref t.jL)
 l_FewError:bL mg "FewError"=t.jL
 jy:cJ K t.jL
 aMG:mg "NoWeb"=some (.ref t.oZ)
 aMP:bL mg "NoWeb"=t.oZ
 xV:cJ K t.oZ
 aHB:mg "NoPlace"=some (.ref t.jJ)
 aHL:bL mg "NoPlace"=t.jJ
 qg:cJ K t.jJ
 aMH:mg "NoWay"=some (.ref t.o6)
 aMQ:bL mg "NoWay"=t.o6
 xW:cJ K t.o6
 aDC:mg lc=some (.ref t.eV)
 aDZ:bL mg lc=t.eV
 lK:cJ K t.eV
 aHA:mg "TooMany"=some (.ref t.jH)
 aHK:bL mg "TooMany"=t.jH
 qe:cJ K t.jH
 aEa:mg "NoForest"=some (.ref t.gw)
 aEk:bL mg "NoForest"=t.gw
 nU:cJ K t.gw
 aDB:mg "NoPlan"=some (.ref t.lD)
 aDY:bL mg "NoPlan"=t.lD
 pK:cJ K t.lD
 aE9:mg "NoOneWay"=some (.ref t.gr)
 aEj:bL mg "NoOneWay"=t.gr
 nT:cJ K t.gr
 aHC:mg "NoOrder"=some (.ref t.jK)
 aHM:bL mg "NoOrder"=t.jK
 qi:cJ K t.jK
 aJ7:mg "NoText"=some (.ref t.lC)
 aJj:bL mg "NoText"=t.lC
 uC:cJ K t.lC
 aJ8:mg "NoDeed"=some (.ref t.lE)
 aJk:bL mg "NoDeed"=t.lE
 uD:cJ K t.lE
 aMI:mg "NoRow"=some (.ref t.o7)
 aMR:bL mg "NoRow"=t.o7
 xX:cJ K t.o7
 aBr:mg g_=none
 aRZ:mg "all"=none
 aJ1:mg "bool"=none
 aDA:mg "enumerate"=none
 aNe:mg "int"=none
 aV:mg "isinstance"=none
 di:mg "len"=none
 aBq:mg "list"=none
 aFw:mg "max"=none
 aFv:mg "min"=none
 jN:mg "range"=none
 aJ0:mg "set"=none
 nA:mg "sorted"=none
 iW:mg "tuple"=none
 aRY:mg "zip"=none
 cb:aFF K t.jL [t.oZ,t.jJ,t.o6,t.eV,t.jH,t.gw,t.lD,t.gr,t.jK,t.lC,t.lE,t.o7]=true
open PySem.Spec PyProof.Rows
section
variable{P:aR}{w:World}{K:av}{mg:Str->Option Value}{base:Heap}{t:IZ}
abbrev gN(P:aR)(w:World)(K:av)(mg:Str->Option Value)(base:Heap)(k:Nat)(fn:Addr)(f:cB)(ps:List Str)(n:Nat)(F:List D->ag D):Prop:=fS P w K mg base (eh P w) k fn f ps (kd K (bL mg) n F)
def lM{q:Str}{st:Stmt}{fn:Addr}{d:cB}{ps N:List Str}{f:af->ax}{F:List D->ag D}{k n:Nat}(D:eF K mg q st ps fn d)(S:dk N ps (bg st))(h:∀{_:N.Nodup} {cdv A outer s H E hr},jd (vT P w K mg base N q (bg st) fn cdv A outer s H E k hr) (iz st) f)(a:ps.length=n:=by rfl)(b:dN N.length f=F:=by rfl):
  fS P w K mg base (eh P w) (k+1) fn d ps (kd K (bL mg) n F):=lF D S (λ n _ _ _ _ _ _ _=>@h n _ _ _ _ _ _ _) a b
def ack(T:ej K mg t):gN P w K mg base 1 t.lq t.bH [cr] 1 qf:=
 lM (f:=bH) T.mC abR
  (bx (fF (i9.st (nk (mr (kA (pM (au 0) T.aV T.iW))) (nk (v8 (gx T.di (ar (au 0) ay)) aJ) (rC (Cb (cE (au 0) aJ) (da (ar (tR T.uv T.aIg (λ _ _=>.str _)) (ar (tR T.qQ T.aCn (λ _ _=>.str _)) ay))))))))
   (bA (cP jB))
   gf)
  (bA (cP (NB (pM (cE (au 0) aJ) T.aV T.iW) (NA (Xl (gx T.di (ar (cE (au 0) aJ) ay)) aJ))))))
def acl(T:ej K mg t):gN P w K mg base 1 t.qT t.dU [i'] 1 zh:=
 lM (f:=dU) T.qW abU
  (bA (cP (Zq T.aFv (ar (au 0) (ar (Xj (au 0)) ay)))))
def acm(T:ej K mg t):gN P w K mg base 1 t.rW t.du [d_,bi] 2 uj:=
 lM (f:=du) T.rn abV
  (bA (cP (da (ar (ue (cE (au 0) aJ) (cE (au 1) aJ)) (ar (ue (cE (au 0) aJ) (cE (au 1) aJ)) (ar (ue (cE (au 0) aJ) (cE (au 1) aJ)) ay))))))
def RZ(T:ej K mg t):gN P w K mg base 1 t.aGU t.rD [em,j_] 2 uk:=
 lF (k:=0) (f:=rD) T.aCG abW λ n _ _ _ _ _ _ _=>
  (bx (gF (i:=2) (eM (da ay)))
  (bx (kC (Zb (ar (au 0) ay) T.aDA) (mv (n:=2) (fG (dQ (ks:=[3,4])) (fG (dQ (ks:=[3,4])) mu)))
   (bx (Qd (i:=2) (au 4))
   (bA (fF (Gh (au 3) (gx T.di (ar (au 1) ay)))
    (bA (Qd (i:=2) (cE (au 1) (au 3))))
    gf))))
  (bA (cP (gd (au 2))))))
def R2(T:ej K mg t):gN P w K mg base 1 t.aDb t.nM [em,jp] 2 qh:=
 lM (f:=nM) T.aAA abX
  (bx (BW (i:=2) (yE (Nw (aac T.aBq (ar (au 0) ay)))))
  (bx (gF (i:=3) (eM aJ))
  (bx (NI (Gh (gx T.di (ar (pI 2) ay)) (au 1))
   (bx (fF (v7 (gx T.di (ar (cE (pI 2) (au 3)) ay)) aJ)
    (bA (aaa 2 (ja (ar (gd (rK (cE (pI 2) (au 3)) tW (nv aJ))) (ar (gd (rK (cE (pI 2) (au 3)) (nv aJ) tW)) ay))) (nv (au 3)) (nv (fT (au 3) aJ))))
    gf)
   (bA (Od (i:=3) aJ (λ _=>Mu)))))
  (bA (cP (Nv 2))))))
def acn(T:ej K mg t):gN P w K mg base 1 t.rT t.dJ [a',b_] 2 zj:=
 lM (f:=dJ) T.rm ab5
  (bx (fF (Gh (au 1) (gx T.di (ar (au 0) ay)))
   (bA (cP (gd (cE (au 0) (au 1)))))
   gf)
  (bA (cP aJ)))
def uO(T:ej K mg t):gN P w K mg base 1 t.zp t.eQ [be,b_,ge] 3 iT:=
 lM (f:=eQ) T.eO ab6
  (bx (fF (Xm (au 0) (Xk aJ aJ))
   (bx (gF (i:=3) (eM (au 0)))
   (bx (kC (rG (ar (au 1) ay) T.jN) (dQ (ks:=[4]))
    (bx (fF (tX (au 3) aJ)
     (bA (cP aJ))
     gf)
    (bA (gF (i:=3) (eM (Of (au 3) (au 2)))))))
   (bA (cP (v5 (au 3) (au 2))))))
   gf)
  (bx (gF (i:=5) (eM (v5 (pT (fT (fT (v5 (au 0) aJ) (pT aJ (au 1))) aJ) aJ) aJ)))
  (bx (gF (i:=5) (eM (v5 (fT (fT (pT (au 5) (au 5)) (pT aJ (au 1))) aJ) aJ)))
  (bA (cP (v5 (Of (v5 (pT (au 5) aJ) aJ) aJ) (au 2)))))))
def aco(T:ej K mg t):gN P w K mg base 1 t.wZ t.iD [ac] 1 zk:=
 lF (k:=0) (f:=iD) T.wu ab7 λ n _ _ _ _ _ _ _=>
  (bx (BW (i:=1) (yE (Nw (PR T.aBq T.jN (cE (au 0) aJ)))))
  (bx (kC (rG (ar (cE (au 0) aJ) ay) T.jN) (dQ (ks:=[2]))
   (bA (kC (jC (cE (au 0) aJ)) (mv (n:=2) (fG (dQ (ks:=[3,4])) (fG (dQ (ks:=[3,4])) mu)))
    (bx (P4 1 (au 3) (Gi T.aFv (ar (cE (pI 1) (au 3)) (ar (cE (pI 1) (au 4)) ay))))
    (bA (P4 1 (au 4) (gd (cE (pI 1) (au 3)))))))))
  (bA (cP (oA (N:=["_law_low",ac,"_law_least"]) (js:=[none,some 0,some 1]) (ks:=[0]) (jC (Y6 T.nA T.aJ0 (ar (au 1) ay))) kE rI (v9 T.iW (ar (oA (N:=[ce,"_law_least","_law_low"]) (js:=[none,some 2,some 0]) (ks:=[0]) (rG (ar (cE (au 1) aJ) ay) T.jN) kE (B3 (tX (cE (au 1) (au 0)) (au 2))) (gd (au 0))) ay)))))))
def acp(T:ej K mg t):gN P w K mg base 1 t.zg t.jF [ac,db] 2 zl:=
 lF (k:=0) (f:=jF) T.zy ab8 λ n _ _ _ _ _ _ _=>
  (bx (pJ (i:=2) (eM (oA (N:=[ce,db]) (js:=[none,some 1]) (ks:=[0]) (rG (ar (cE (au 0) aJ) ay) T.jN) kE (B3 (Cb (au 0) (au 1))) (gd (au 0)))))
  (bx (pJ (i:=3) (WX (N:=["_law_tie","_law_stays"]) (js:=[none,some 2]) (ks:=[0]) (jC (cE (au 0) aJ)) kE (B3 (i9.st (Wq (Og (cE (au 0) aJ) (au 1)) (Wp (Og (cE (au 0) aJ) (au 1)))))) (gd (au 0))))
  (bA (cP (da (ar (gx T.di (ar (mi 2) ay)) (ar (v9 T.iW (ar (oA (N:=[gl,c_,"_law_stays"]) (js:=[none,none,some 2]) (ks:=[0,1]) (jC (au 3)) (mv (n:=2) (fG kE (fG kE mu))) rI (da (ar (P7 (au 2) (au 0)) (ar (P7 (au 2) (au 1)) ay)))) ay)) ay)))))))
def acq(T:ej K mg t):gN P w K mg base 1 t.zm t.jG [ac,a_] 2 CK:=
 lF (k:=0) (f:=jG) T.zz aca λ n _ _ _ _ _ _ _=>
  (bx (fF (i9.st (nk (mr (kA (pM (au 1) T.aV T.iW))) (rC (tX (au 1) (da ay)))))
   (bA (cP jB))
   gf)
  (bx (kC (jC (au 1)) (dQ (ks:=[2]))
   (bA (fF (i9.st (nk (mr (kA (pM (au 2) T.aV T.aNe))) (nk (kA (pM (au 2) T.aV T.aJ1)) (rC (mr (Oh aJ (au 2) (cE (au 0) aJ)))))))
    (bA (cP jB))
    gf)))
  (bx (fF (v8 (YW T.di (ar (YV T.aJ0 (ar (au 1) ay)) ay)) (gx T.di (ar (au 1) ay)))
   (bA (cP jB))
   gf)
  (bx (kC (Zz (ar (au 1) (ar (rK (au 1) (nv aJ) tW) ay)) T.aRY) (mv (n:=2) (fG (dQ (ks:=[3,4])) (fG (dQ (ks:=[3,4])) mu)))
   (bA (fF (Cb (da (ar (Gi T.aFv (ar (au 3) (ar (au 4) ay))) (ar (Cc T.aFw (ar (au 3) (ar (au 4) ay))) ay))) (cE (au 0) aJ))
    (bA (cP jB))
    gf)))
  (bA (cP jB))))))
def acr(T:ej K mg t):gN P w K mg base 1 t.pC t.dB [ac,a_] 2 CL:=
 lM (f:=dB) T.pG acd
  (bx (fF (mr (kA (pM (au 1) T.aV T.iW)))
   (bA (cP jB))
   gf)
  (bx (kC (jC (au 1)) (dQ (ks:=[2]))
   (bA (fF (i9.st (nk (mr (kA (pM (au 2) T.aV T.aNe))) (nk (kA (pM (au 2) T.aV T.aJ1)) (rC (mr (Oh aJ (au 2) (cE (au 0) aJ)))))))
    (bA (cP jB))
    gf)))
  (bA (cP (B9 (Xo T.aBq (ar (au 1) ay)) (Z0 T.nA T.aJ0 (ar (au 1) ay)))))))
def acs(T:ej K mg t):vK P w K mg base 1 t.wg t.ww [e_] (tO (zS t)):=
 ZK (c1:=.ref t.jL) (c2:=.ty "ValueError") (k1:=[.ref t.oZ,.ref t.jJ,.ref t.o6]) (k2:=[.ref t.eV,.ref t.jH,.ref t.gw]) (k3:=[.ref t.lD,.ref t.gr,.ref t.jK]) (k4:=[.ref t.lC,.ref t.lE,.ref t.o7]) (l1:=["web","place",i',"parting",jp,"forest",ap,"one way"]) (l2:=["order","text","deed","row"]) T.lr.F ach rfl rfl rfl rfl (λ c A o s H=>⟨(kG rfl rfl rfl T.aV (kx (v:=.ref t.jL) rfl T.zL rfl)),(kG rfl rfl rfl T.aV (Mj (v:=.ty "ValueError") (u:=.type "ValueError") rfl T.aBr rfl rfl)),(dv (kG rfl rfl rfl T.aV (kx (v:=.ref t.oZ) rfl T.aMG rfl)) (dv (kG rfl rfl rfl T.aV (kx (v:=.ref t.jJ) rfl T.aHB rfl)) (dv (kG rfl rfl rfl T.aV (kx (v:=.ref t.o6) rfl T.aMH rfl)) hD))),(dv (kG rfl rfl rfl T.aV (kx (v:=.ref t.eV) rfl T.aDC rfl)) (dv (kG rfl rfl rfl T.aV (kx (v:=.ref t.jH) rfl T.aHA rfl)) (dv (kG rfl rfl rfl T.aV (kx (v:=.ref t.gw) rfl T.aEa rfl)) hD))),(dv (kG rfl rfl rfl T.aV (kx (v:=.ref t.lD) rfl T.aDB rfl)) (dv (kG rfl rfl rfl T.aV (kx (v:=.ref t.gr) rfl T.aE9 rfl)) (dv (kG rfl rfl rfl T.aV (kx (v:=.ref t.jK) rfl T.aHC rfl)) hD))),(dv (kG rfl rfl rfl T.aV (kx (v:=.ref t.lC) rfl T.aJ7 rfl)) (dv (kG rfl rfl rfl T.aV (kx (v:=.ref t.lE) rfl T.aJ8 rfl)) (dv (kG rfl rfl rfl T.aV (kx (v:=.ref t.o7) rfl T.aMI rfl)) hD))),(dv jA (dv jA (dv jA (dv jA (dv jA (dv jA (dv jA (dv jA hD)))))))),(dv jA (dv jA (dv jA (dv jA hD))))⟩) rfl rfl (by decide) λ C w h=>(Os T.cb h).1
def act(T:ej K mg t):gN P w K mg base 2 t.aBA t.ju [cr] 1 uu:=
 lF (k:=1) (f:=ju) T.aBD abS λ n _ _ _ _ _ _ _=>
  (bx (Wu (i:=1) (yE (FO (ar (da (ar (au 0) (ar aJ ay))) ay))))
  (bx (gF (i:=2) (eM aJ))
  (bx (NI (kA (pI 1))
   (bx (Xs 1 (mv (n:=2) (fG (dQ (ks:=[3,4])) (fG (dQ (ks:=[3,4])) mu))))
   (bx (fF (ZQ (au 3) (tR T.aD7 T.aNH T.bV))
    (bA (Od (i:=2) aJ (λ _=>Mu)))
    (bA (fF (kA (dh (ack T) T.mC (ar (au 3) ay)))
     (bA (Xr 1 (W1 (N:=["inner","deep"]) (js:=[none,some 4]) (ks:=[0]) (jC (cE (au 3) aJ)) kE rI (da (ar (au 0) (ar (fT (au 1) aJ) ay))))))
     (bA (cP jB)))))
   (bA (fF (i9.st (nk (v7 (au 2) (tR T.lW T.aCl (λ _ _=>.int _))) (rC (v7 (au 4) (tR T.lZ T.aCm (λ _ _=>.int _))))))
    (bA (cP jB))
    gf)))))
  (bA (cP jB)))))
def R3(T:ej K mg t):gN P w K mg base 2 t.km t.cC [d_,bi] 2 uw:=
 lF (k:=1) (f:=cC) T.gm abY λ n _ _ _ _ _ _ _=>
  (bx (vR (au 0) (mv (n:=3) (fG (dQ (ks:=[2,3,4])) (fG (dQ (ks:=[2,3,4])) (fG (dQ (ks:=[2,3,4])) mu)))))
  (bx (gF (i:=5) (eM (cE (au 1) aJ)))
  (bx (gF (i:=6) (eM (fT (gx T.di (ar (au 5) ay)) aJ)))
  (bx (gF (i:=7) (eM (dh (RZ T) T.aCG (ar (rK (au 3) tW (nv (au 6))) (ar (oA (N:=["joint"]) (js:=[none]) (ks:=[0]) (jC (au 5)) kE rI (da (ar (gd (au 0)) ay))) ay)))))
  (bA (cP (da (ar (ue (au 2) (au 5)) (ar (ue (ja (ar (au 7) ay)) (rK (au 3) (nv (au 6)) tW)) (ar (ue (au 4) (au 5)) ay))))))))))
def acu(T:ej K mg t):gN P w K mg base 2 t.wY t.iC [ac,dl,f_] 3 zq:=
 lM (f:=iC) T.wj ab9
  (bA (cP (Oe (gx T.di (ar (dh (aco T) T.wu (ar (dh (acp T) T.zy (ar (au 0) (ar (au 1) ay))) ay)) ay)) (gx T.di (ar (oA (N:=[ce,f_]) (js:=[none,some 2]) (ks:=[0]) (jC (au 1)) kE (B3 (Cb (au 0) (au 1))) (gd (au 0))) ay)))))
def acv(T:ej K mg t):gN P w K mg base 2 t.nH t.cV [ac,a_] 2 CN:=
 lM (f:=cV) T.nJ acb
  (bx (fF (i9.st (nk (mr (kA (pM (au 1) T.aV T.iW))) (rC (mr (kA (Xn T.aRZ (ar (oA (N:=["_law_way",ac]) (js:=[none,some 0]) (ks:=[0]) (jC (au 1)) kE rI (dh (acq T) T.zz (ar (au 1) (ar (au 0) ay)))) ay)))))))
   (bA (cP jB))
   gf)
  (bx (BW (i:=2) (yE (FO ay)))
  (bx (kC (jC (au 1)) (dQ (ks:=[3]))
   (bA (Zd 2 (gd (au 3)))))
  (bA (cP (B9 (GY T.nA (ar (pI 2) ay)) (PR T.aBq T.jN (cE (au 0) aJ))))))))
def R5(T:ej K mg t):gN P w K mg base 2 t.zf t.jE [be,j',bv] 3 zt:=
 lM (f:=jE) T.tU ace
  (bx (pJ (i:=3) (eM (pT (ja (ar (da (ar iB ay)) ay)) (gd (au 2)))))
  (bx (kC (rG (ar (au 2) ay) T.jN) (dQ (ks:=[4]))
   (bA (fF (v7 (gx T.di (ar (mi 3) ay)) aJ)
    (bx (gF (i:=5) (eM (fT aJ (dh (uO T) T.eO (ar (au 0) (ar (fT (au 1) (pT aJ (au 4))) (ar aJ ay)))))))
    (bx (gF (i:=6) (eM (dh (uO T) T.eO (ar (au 0) (ar (fT (fT (au 1) (pT aJ (au 4))) aJ) (ar (Cc T.aFw (ar aJ (ar (fT (Oe (gx T.di (ar (mi 3) ay)) (au 5)) aJ) ay))) ay))))))
    (bx (pJ (i:=7) (eM (cE (ja (ar iB (ar iB ay))) (dh (uO T) T.eO (ar (au 0) (ar (fT (fT (au 1) (pT aJ (au 4))) aJ) (ar aJ ay)))))))
    (bA (pJ (i:=3) (eM (fT (fT (rK (mi 3) tW (nv (au 6))) (ja (ar (da (ar (mi 7) (ar (v9 T.iW (ar (rK (mi 3) (nv (au 6)) (nv (fT (au 6) (au 5)))) ay)) ay))) ay))) (rK (mi 3) (nv (fT (au 6) (au 5))) tW))))))))
    gf)))
  (bA (cP (cE (mi 3) aJ)))))
def acw(T:ej K mg t):gN P w K mg base 3 t.ux t.dg [cr] 1 wL:=
 lM (f:=dg) T.uz abT
  (bA (fF (mr (kA (dh (act T) T.aBD (ar (au 0) ay))))
   (bA (Wz rfl T.aDB T.aDY T.pK (ar iB ay)))
   gf))
def acx(T:ej K mg t):gN P w K mg base 3 t.rP t.cU [d_,bi] 2 qj:=
 lM (f:=cU) T.rY abZ
  (bx (fF (v7 (gx T.di (ar (cE (au 0) aJ) ay)) (gx T.di (ar (cE (au 1) aJ) ay)))
   (bA (cP (dh (R3 T) T.gm (ar (au 0) (ar (au 1) ay)))))
   gf)
  (bx (fF (v7 (gx T.di (ar (cE (au 1) aJ) ay)) (gx T.di (ar (cE (au 0) aJ) ay)))
   (bA (cP (dh (R3 T) T.gm (ar (au 1) (ar (au 0) ay)))))
   gf)
  (bx (gF (i:=2) (eM (Cc T.aFw (ar (gx T.di (ar (cE (au 0) aJ) ay)) (ar (gx T.di (ar (cE (au 1) aJ) ay)) ay)))))
  (bA (cP (da (ar (ue (cE (au 0) aJ) (cE (au 1) aJ)) (ar (ja (ar (dh (RZ T) T.aCG (ar (dh (R2 T) T.aAA (ar (cE (au 0) aJ) (ar (au 2) ay))) (ar (dh (R2 T) T.aAA (ar (cE (au 1) aJ) (ar (au 2) ay))) ay))) ay)) (ar (ja ay) ay)))))))))
def acy(T:ej K mg t){R:List D->ag D}{k:Nat}(a:1<=k)(h:fS P w K mg base (eh P w) k t.iY t.cG [am] (kd K (bL mg) 1 R))(nd:Ae ([am,bv,ii,gl,kt,"_law_more",ce]:List Str))(cdv A outer s H E hr):jd (vT P w K mg base [am,bv,ii,gl,kt,"_law_more",ce] "_law_web_of" (bg zR) t.iY cdv A outer s H E k hr) (iz zR) (cG R):=
  (bx (fF (tX (au 0) (da (ar iB ay)))
   (bA (cP (da (ar aJ (ar (ja ay) ay)))))
   gf)
  (bx (gF (i:=1) (eM aJ))
  (bx (BW (i:=2) (yE (FO ay)))
  (bx (kC (jC (cE (au 0) aJ)) (dQ (ks:=[3]))
   (bx (vR (dh h T.oW (ar (au 3) ay) (bc _)) (mv (n:=2) (fG (dQ (ks:=[4,5])) (fG (dQ (ks:=[4,5])) mu))))
   (bx (Ol 2 (oA (N:=["_law_first","_law_second",bv]) (js:=[none,none,some 1]) (ks:=[0,1]) (jC (au 5)) (mv (n:=2) (fG kE (fG kE mu))) rI (da (ar (fT (gd (au 2)) (gd (au 0))) (ar (fT (gd (au 2)) (gd (au 1))) ay)))))
   (bx (fF (tX (cE (au 0) aJ) iB)
    (bA (kC (rG (ar (au 1) ay) T.jN) (dQ (ks:=[6]))
     (bA (Ol 2 (oA (N:=[c_,ce,bv]) (js:=[none,some 6,some 1]) (ks:=[0]) (rG (ar (au 4) ay) T.jN) kE rI (da (ar (gd (au 1)) (ar (fT (gd (au 2)) (gd (au 0))) ay))))))))
    gf)
   (bA (gF (i:=1) (eM (fT (au 1) (au 4)))))))))
  (bA (cP (da (ar (gd (au 1)) (ar (Nv 2) ay)))))))))
theorem R7(T:ej K mg t):∀n,fS P w K mg base (eh P w) (1+n) t.iY t.cG [am] (kd K (bL mg) 1 (uy n))
 |0=>On
 |n+1=>lF (k:=1+n) (f:=cG (uy n)) T.oW acf λ nd c A o s H E h=>acy T (Ai _ _) (R7 T n) nd c A o s H E h
def acz(T:ej K mg t):fS P w K mg base (eh P w) 65 t.iY t.cG [am] (kd K (bL mg) 1 Hm):=R7 T 64
def acA(T:ej K mg t):gN P w K mg base 66 t.qU t.dW [am] 1 CO:=
 lF (k:=65) (f:=dW) T.qX acg λ n _ _ _ _ _ _ _=>
  (bx (vR (dh (acz T) T.oW (ar (au 0) ay)) (mv (n:=2) (fG (dQ (ks:=[1,2])) (fG (dQ (ks:=[1,2])) mu))))
  (bA (cP (da (ar (gd (au 1)) (ar (v9 T.iW (ar (YM T.nA (ar (au 2) ay)) ay)) ay))))))
def acB(T:ej K mg t){R:List D->ag D}{k:Nat}(h:4<=k)(a:fS P w K mg base (eh P w) k t.kh t.cj [ap,f'] (kd K (bL mg) 2 R))(nd:Ae ([ap,f',"known","inner",bi]:List Str))(cdv A outer s H E hr):jd (vT P w K mg base [ap,f',"known","inner",bi] "known_of" (bg zQ) t.kh cdv A outer s H E k hr) (iz zQ) (cj R):=
  (bx (fF (tX (au 0) (tR T.aD7 T.aNH T.bV))
   (bA (cP (da (ar (ja (ar (gd (au 1)) ay)) (ar (ja (ar (da (ar (gd (au 1)) ay)) ay)) (ar (ja ay) ay))))))
   gf)
  (bx (pJ (i:=2) (eM (da (ar (ja ay) (ar (ja ay) (ar (ja ay) ay))))))
  (bx (kC (jC (cE (au 0) aJ)) (dQ (ks:=[3]))
   (bx (gF (i:=4) (eM (dh a T.tV (ar (au 3) (ar (fT (au 1) (gx T.di (ar (cE (mi 2) aJ) ay))) ay)) (bc _))))
   (bA (fF (tX (cE (au 0) aJ) (tR T.qQ T.aCn (λ _ _=>.str _)))
    (bA (pJ (i:=2) (eM (dh (acx T) T.rY (ar (mi 2) (ar (au 4) ay)) (eJ (xD rfl) h)))))
    (bA (pJ (i:=2) (eM (dh (acm T) T.rn (ar (mi 2) (ar (au 4) ay)) (eJ (xD rfl) h)))))))))
  (bA (cP (mi 2))))))
theorem R8(T:ej K mg t):∀n,fS P w K mg base (eh P w) (4+n) t.kh t.cj [ap,f'] (kd K (bL mg) 2 (mE n))
 |0=>On
 |n+1=>lF (k:=4+n) (f:=cj (mE n)) T.tV ab0 λ nd c A o s H E h=>acB T (Ai _ _) (R8 T n) nd c A o s H E h
def acC(T:ej K mg t):fS P w K mg base (eh P w) 68 t.kh t.cj [ap,f'] (kd K (bL mg) 2 Hn):=R8 T 64
def Ja(T:ej K mg t):gN P w K mg base 69 t.pF t.cO [ap] 1 oG:=
 lM (f:=cO) T.gU ab1
  (bx (Ws (dh (acw T) T.uz (ar (au 0) ay)))
  (bA (cP (dh (acC T) T.tV (ar (au 0) (ar aJ ay))))))
def acD(T:ej K mg t):gN P w K mg base 70 t.rQ t.dq [ap] 1 CP:=
 lF (k:=69) (f:=dq) T.rZ ab2 λ n _ _ _ _ _ _ _=>
  (bx (vR (dh (Ja T) T.gU (ar (au 0) ay)) (mv (n:=3) (fG (dQ (ks:=[1,2,3])) (fG (dQ (ks:=[1,2,3])) (fG (dQ (ks:=[1,2,3])) mu)))))
  (bA (cP (gx T.di (ar (au 2) ay)))))
def Jb(T:ej K mg t):gN P w K mg base 70 t.qR t.cZ [ap] 1 nC:=
 lF (k:=69) (f:=cZ) T.iZ ab3 λ n _ _ _ _ _ _ _=>
  (bx (vR (dh (Ja T) T.gU (ar (au 0) ay)) (mv (n:=3) (fG (dQ (ks:=[1,2,3])) (fG (dQ (ks:=[1,2,3])) (fG (dQ (ks:=[1,2,3])) mu)))))
  (bA (cP (v9 T.iW (ar (GY T.nA (ar (oA (N:=[i']) (js:=[none]) (ks:=[0]) (jC (au 2)) kE rI (dh (acl T) T.qW (ar (au 0) ay))) ay)) ay)))))
def Jc(T:ej K mg t):gN P w K mg base 70 t.zc t.gq [ap] 1 nD:=
 lF (k:=69) (f:=gq) T.oV ab4 λ n _ _ _ _ _ _ _=>
  (bx (vR (dh (Ja T) T.gU (ar (au 0) ay)) (mv (n:=3) (fG (dQ (ks:=[1,2,3])) (fG (dQ (ks:=[1,2,3])) (fG (dQ (ks:=[1,2,3])) mu)))))
  (bA (cP (v9 T.iW (ar (GY T.nA (ar (au 3) ay)) ay)))))
def R9(T:ej K mg t):fS P w K mg base (eh P w) 72 t.rR t.rz [i_] (yA P w K mg base 71 "told" (zS t)):=
 XC T.dI.F aci rfl rfl rfl rfl rfl rfl T.zL T.jy (acs T) T.lr.m T.lr.F.kp T.lr.b (by decide) λ C w h=>(Os T.cb h).2
def Sa(T:ej K mg t):∀c w,qc c=some w->zS t (bL mg c)=some w:=XF (ns:=["NoWeb","NoPlace","NoWay",lc,"TooMany","NoForest","NoPlan","NoOneWay","NoOrder","NoText","NoDeed","NoRow"]) T.cb (by simp only[List.map,T.aMP,T.aHL,T.aMQ,T.aDZ,T.aHK,T.aEk,T.aDY,T.aEj,T.aHM,T.aJj,T.aJk,T.aMR])
def acE(T:ej K mg t){c a:Addr}{s:ao}{H:ah}(h:ee 72 (ib.deeper (gA "law" (bg qq) s.heap.objs.size t.aGT (.ref c))))(L:ro (mx P w K mg base [a',b_,be,am,c_,k_,io,ac,h_,dl,"_law_bad"] "law" (bg qq) t.aGT (.ref c) ib s H a) a)(n:Ae ([a',b_,be,am,c_,k_,io,ac,h_,dl,"_law_bad"]:List Str)):
  jd (Gq P w K mg base [a',b_,be,am,c_,k_,io,ac,h_,dl,"_law_bad"] "law" (bg qq) t.aGT (.ref c) ib s H a 72 h) (iz qq) aAC:=
  (bx (kC (rG (ar (Cc T.aFw (ar aJ (ar (Gi T.aFv (ar (gx T.di (ar (au 0) ay)) (ar aJ ay))) ay))) ay) T.jN) (dQ (ks:=[1]))
   (bx (gF (i:=2) (eM (dh (acn T) T.rm (ar (au 0) (ar (au 1) ay)))))
   (bx (gF (i:=3) (eM (dh (R5 T) T.tU (ar (au 2) (ar aJ (ar (fT aJ (dh (uO T) T.eO (ar (au 2) (ar aJ (ar aJ ay))))) ay))))))
   (bx (gF (i:=4) (eM (dh (R5 T) T.tU (ar (au 2) (ar aJ (ar (fT aJ (dh (uO T) T.eO (ar (au 2) (ar aJ (ar aJ ay))))) ay))))))
   (bx (gF (i:=5) (eM (da (ar iB (ar (ZY (da (ar (da (ar iB ay)) ay)) (fT aJ (dh (uO T) T.eO (ar (au 2) (ar aJ (ar aJ ay)))))) ay)))))
   (bx (kC (jC (ja (ar (au 3) (ar (da (ar iB (ar (da (ar (au 3) (ar (au 4) ay))) ay))) (ar (da (ar iB (ar (da (ar (au 4) (ar (au 3) ay))) ay))) (ar (da (ar iB (ar (da (ar (au 5) (ar (au 3) ay))) ay))) ay)))))) (dQ (ks:=[6]))
    (bx (gF (i:=7) (eM (dh (acA T) T.qX (ar (au 6) ay))))
    (bx (gF (i:=8) (eM (dh (Jb T) T.iZ (ar (au 6) ay))))
    (bx (gF (i:=9) (eM (dh (Jc T) T.oV (ar (au 6) ay))))
    (bx (fF (i9.st (nk (mr (kA (dh (acv T) T.nJ (ar (au 7) (ar (au 8) ay))))) (rC (mr (kA (dh (acr T) T.pG (ar (au 7) (ar (au 9) ay))))))))
     (bA (cP jB))
     gf)
    (bA (fF (i9.st (nk (v8 (dh (acu T) T.wj (ar (au 7) (ar (au 9) (ar (da ay) ay)))) (gx T.di (ar (au 8) ay))) (rC (v8 (dh (acD T) T.rZ (ar (au 6) ay)) (gx T.di (ar (au 8) ay))))))
     (bA (cP jB))
     gf)))))))
   (bx (pJ (i:=10) (eM (cE (ja (ar Wl (ar (da (ar iB ay)) (ar (da (ar iB (ar (da (ar (gd (au 3)) ay)) ay))) (ar (ja (ar iB ay)) (ar (da (ar iB (ar (da (ar (gd (au 3)) (ar aJ ay))) ay))) (ar (da ay) ay))))))) (dh (uO T) T.eO (ar (au 2) (ar aJ (ar aJ ay)))))))
   (bx (fF (v8 (Oo (k:=72) (k0:=71) (kb:=70) (wn:=qc) (wd:=zS t) (λ _=>R9 T) (xD rfl) T.dI.m T.dI.F.kp T.dI.b (λ _=>⟨⟨_,L⟩,rfl,rfl,rfl⟩) ⟨rfl,rfl,rfl,by f_are,by decide+kernel⟩ rfl (Sa T) (by decide) (λ _ _ _ _ _ _ _ _ _ _=>(dh (Jb T) T.iZ (ar (au 10) ay))) (hfree:=λ _=>Ot (sc:=bg qq) (by f_are))) iB)
    (bA (cP jB))
    gf)
   (bA (fF (v8 (Oo (k:=72) (k0:=71) (kb:=70) (wn:=qc) (wd:=zS t) (λ _=>R9 T) (xD rfl) T.dI.m T.dI.F.kp T.dI.b (λ _=>⟨⟨_,L⟩,rfl,rfl,rfl⟩) ⟨rfl,rfl,rfl,by f_are,by decide+kernel⟩ rfl (Sa T) (by decide) (λ _ _ _ _ _ _ _ _ _ _=>(dh (Jc T) T.oV (ar (au 10) ay))) (hfree:=λ _=>Ot (sc:=bg qq) (by f_are))) iB)
    (bA (cP jB))
    gf))))))))))
  (bA (cP (NB (B9 (dh (Jb T) T.iZ (ar (da (ar iB ay)) ay)) (da (ar (da (ar aJ ay)) ay))) (NA (B9 (dh (Jc T) T.oV (ar (da (ar iB ay)) ay)) (da ay)))))))
end
def aNu{K:av}{h:Heap}{mg:Str->Option Value}{c:Addr}{Q:Array (Option Value)}{U:Nat}{E:Tok}{B:Tok}{C:Tok}{k:Tok}{S:Tok}{F:Addr}{W:Addr}{P:Addr}{a:Addr}{q:Addr}{T:Addr}{N:Addr}{l:Addr}{o:Addr}{O:Addr}{e:Addr}{D:Addr}{R:Addr}(X:K.In h)(G:h.Ns cz mg)
  (h0:∃f d,fj K "is_put_together" Iy f d)
  (h1:∃f d,fj K "is_plan" Iz f d)
  (h2:∃f d,fj K "check_plan" IA f d)
  (h3:∃f d,fj K "lesser_about" IB f d)
  (h4:∃f d,fj K "laid_beside" IC f d)
  (h5:∃f d,fj K "laced" ID f d)
  (h6:∃f d,fj K "cut_up" IE f d)
  (h7:∃f d,fj K "joined_by_places" IF f d)
  (h8:∃f d,fj K "tied_across" IG f d)
  (h9:∃f d,fj K "known_of" zQ f d)
  (h10:∃f d,fj K "checked_known" IH f d)
  (h11:∃f d,fj K "plan_fewest" II f d)
  (h12:∃f d,fj K "plan_parting" IJ f d)
  (h13:∃f d,fj K "plan_bar" IK f d)
  (h14:∃f d,fj K "_law_cell_at" IL f d)
  (h15:∃f d,fj K "_law_draw" IM f d)
  (h16:∃f d,fj K "_law_parts" IP f d)
  (h17:∃f d,fj K "_law_left" IQ f d)
  (h18:∃f d,fj K "_law_shown" IR f d)
  (h19:∃f d,fj K "_law_goes" IS f d)
  (h20:∃f d,fj K "_law_is_parting" IT f d)
  (h21:∃f d,fj K "_law_is_places" IU f d)
  (h22:∃f d,fj K "_law_plan" IV f d)
  (h23:∃f d,fj K "_law_web_of" zR f d)
  (h24:∃f d,fj K "_law_plan_web" IW f d)
  (h25:∃f d,fj K "_law_class" IX f d)
  (h26:∃f d,fj K "_law_refused" IY f d)
  (h27:∃f d,fj K "law" qq f d)
  (aD7:dF K cz "ONE"=some (some (.ref c)))
  (h_ONE:K.lookup c=some ⟨.type "tuple",none,.seq #[.str d_ E] U,Q⟩)
  (uv:dF K cz "BESIDE"=some (some (.str "beside" B)))
  (qQ:dF K cz "ACROSS"=some (some (.str "across" C)))
  (lW:dF K cz "MOST_ONES"=some (some (.int 40 k)))
  (lZ:dF K cz "MOST_DEEP"=some (some (.int 24 S)))
  (w:dF K cz "FewError"=some (some (.ref F)))
  (jy:cJ K F)
  (p:dF K cz "NoWeb"=some (some (.ref W)))
  (xV:cJ K W)
  (b:dF K cz "NoPlace"=some (some (.ref P)))
  (qg:cJ K P)
  (s:dF K cz "NoWay"=some (some (.ref a)))
  (xW:cJ K a)
  (y:dF K cz lc=some (some (.ref q)))
  (lK:cJ K q)
  (M:dF K cz "TooMany"=some (some (.ref T)))
  (qe:cJ K T)
  (r:dF K cz "NoForest"=some (some (.ref N)))
  (nU:cJ K N)
  (j:dF K cz "NoPlan"=some (some (.ref l)))
  (pK:cJ K l)
  (n:dF K cz "NoOneWay"=some (some (.ref o)))
  (nT:cJ K o)
  (g:dF K cz "NoOrder"=some (some (.ref O)))
  (qi:cJ K O)
  (x:dF K cz "NoText"=some (some (.ref e)))
  (uC:cJ K e)
  (m:dF K cz "NoDeed"=some (some (.ref D)))
  (uD:cJ K D)
  (v:dF K cz "NoRow"=some (some (.ref R)))
  (xX:cJ K R)
  (cb:L2.aFF K F [W,P,a,q,T,N,l,o,O,e,D,R]=true)
  (z:dF K cz g_=some none)
  (z_all:dF K cz "all"=some none)
  (Y:dF K cz "bool"=some none)
  (u:dF K cz "enumerate"=some none)
  (z_int:dF K cz "int"=some none)
  (i:dF K cz "isinstance"=some none)
  (z_len:dF K cz "len"=some none)
  (Z:dF K cz "list"=some none)
  (z_max:dF K cz "max"=some none)
  (z_min:dF K cz "min"=some none)
  (J:dF K cz "range"=some none)
  (z_set:dF K cz "set"=some none)
  (I:dF K cz "sorted"=some none)
  (L:dF K cz "tuple"=some none)
  (z_zip:dF K cz "zip"=some none):
  ∃t,ej K mg t:=by
 obtain⟨f0,d0,F0,a0⟩:=fK X G h0 [cr];obtain⟨f1,d1,F1,a1⟩:=fK X G h1 [cr];obtain⟨f2,d2,F2,a2⟩:=fK X G h2 [cr];obtain⟨f3,d3,F3,a3⟩:=fK X G h3 [i'];obtain⟨f4,d4,F4,a4⟩:=fK X G h4 [d_,bi];obtain⟨f5,d5,F5,a5⟩:=fK X G h5 [em,j_];obtain⟨f6,d6,F6,a6⟩:=fK X G h6 [em,jp];obtain⟨f7,d7,F7,a7⟩:=fK X G h7 [d_,bi];obtain⟨f8,d8,F8,a8⟩:=fK X G h8 [d_,bi];obtain⟨f9,d9,F9,a9⟩:=fK X G h9 [ap,f'];obtain⟨f10,d10,F10,a10⟩:=fK X G h10 [ap];obtain⟨f11,d11,F11,a11⟩:=fK X G h11 [ap];obtain⟨f12,d12,F12,a12⟩:=fK X G h12 [ap];obtain⟨f13,d13,F13,a13⟩:=fK X G h13 [ap];obtain⟨f14,d14,F14,a14⟩:=fK X G h14 [a',b_];obtain⟨f15,d15,F15,a15⟩:=fK X G h15 [be,b_,ge];obtain⟨f16,d16,F16,a16⟩:=fK X G h16 [ac];obtain⟨f17,d17,F17,a17⟩:=fK X G h17 [ac,db];obtain⟨f18,d18,F18,a18⟩:=fK X G h18 [ac,dl,f_];obtain⟨f19,d19,F19,a19⟩:=fK X G h19 [ac,a_];obtain⟨f20,d20,F20,a20⟩:=fK X G h20 [ac,a_];obtain⟨f21,d21,F21,a21⟩:=fK X G h21 [ac,a_];obtain⟨f22,d22,F22,a22⟩:=fK X G h22 [be,j',bv];obtain⟨f23,d23,F23,a23⟩:=fK X G h23 [am];obtain⟨f24,d24,F24,a24⟩:=fK X G h24 [am];obtain⟨f25,d25,F25,a25⟩:=fK X G h25 [e_];obtain⟨f26,d26,F26,a26⟩:=fK X G h26 [i_];obtain⟨f27,d27,F27,a27⟩:=fK X G h27 [a']
 exact⟨⟨f0,_,f1,_,f2,_,f3,_,f4,_,f5,_,f6,_,f7,_,f8,_,f9,_,f10,_,f11,_,f12,_,f13,_,f14,_,f15,_,f16,_,f17,_,f18,_,f19,_,f20,_,f21,_,f22,_,f23,_,f24,_,f25,_,f26,_,f27,_,_,.ref c,_,_,_,_,F,W,P,a,q,T,N,l,o,O,e,D,R⟩,⟨F0,F1,F2,F3,F4,F5,F6,F7,F8,F9,F10,F11,F12,F13,F14,F15,F16,F17,F18,F19,F20,F21,F22,F23,F24,F25,F26,F27,eD X G aD7,rfl,λ A H=>.tup (show bf K H c [V.str d_]from .inr ⟨_,_,_,h_ONE,rfl,rfl,rfl,(by show 1<=aI;decide),(.cons ⟨_,rfl⟩ .nil)⟩) (.cons (.str _) .nil),eD X G uv,⟨_,rfl⟩,eD X G qQ,⟨_,rfl⟩,eD X G lW,⟨_,rfl⟩,eD X G lZ,⟨_,rfl⟩,eD X G w,(by unfold bL;rw[eD X G w]),jy,eD X G p,(by unfold bL;rw[eD X G p]),xV,eD X G b,(by unfold bL;rw[eD X G b]),qg,eD X G s,(by unfold bL;rw[eD X G s]),xW,eD X G y,(by unfold bL;rw[eD X G y]),lK,eD X G M,(by unfold bL;rw[eD X G M]),qe,eD X G r,(by unfold bL;rw[eD X G r]),nU,eD X G j,(by unfold bL;rw[eD X G j]),pK,eD X G n,(by unfold bL;rw[eD X G n]),nT,eD X G g,(by unfold bL;rw[eD X G g]),qi,eD X G x,(by unfold bL;rw[eD X G x]),uC,eD X G m,(by unfold bL;rw[eD X G m]),uD,eD X G v,(by unfold bL;rw[eD X G v]),xX,j0 X G z,j0 X G z_all,j0 X G Y,j0 X G u,j0 X G z_int,j0 X G i,j0 X G z_len,j0 X G Z,j0 X G z_max,j0 X G z_min,j0 X G J,j0 X G z_set,j0 X G I,j0 X G L,j0 X G z_zip,cb⟩⟩
def aPx{l:EF}{w:World}{K:av}{h:Heap}{mg:Str->Option Value}{b P:Addr}(X:K.In h)(G:h.Ns cz mg)(a:mg "law"=some (.ref b))(B:CB K "law" P=true)(d:∃t,ej K mg t):L2.aG4 l.prog w K mg b P 72 63:=by
 obtain⟨t,T⟩:=d;have e:=a.symm.trans T.aNm.m;cases e;exact Z3 (f:=aAC) (F:=HD) X G B T.aNm acj (λ _ _ _ _ _ _ _ _=>.of_eq rfl) (λ base c s H r L nd=>acE T r L nd) rfl abQ
def walk{l:EF}{q:aR}{o:List Str}{X:(Str->Option Value)->Heap->Prop}{Y:World->Heap->Prop}{d:DefRec}{K:Params->av}{P:Addr}(n:l.most=some 63)(a:d.params.defaults=[])
  (c:∀(w:World) (h:Heap),Y w h->(K w.params).In h/\h.get? P=some (q0 #[]))
  (F:∀(w:World) (mg:Str->Option Value) (b:Addr) (h:Heap),(K w.params).In h->h.Ns cz mg->mg d.name=some (.ref b)->L2.aG4 l.prog w (K w.params) mg b P 72 63):
  LC q o X Y l.row.toRowW d [] (λ f v=>D2 f v):=
 L2.aHn n (by decide) a ⟨rfl,by decide,by decide⟩ c F
end VL.My
open PySem PySem.W PyProof.Rows
set_option maxRecDepth 100000 in
set_option maxHeartbeats 0 in
theorem PySem.Challenge.cw_fewways_k46_partings_and_bars_of_plans_holds : PySem.Challenge.rw_fewways_k46_partings_and_bars_of_plans.Holds := by
 w_on; o_law; k_head; (case hw=>w_witness2)
 k_fill
 refine VL.My.walk (l:=PySem.Challenge.rw_fewways_k46_partings_and_bars_of_plans) rfl rfl (fun w h Y=>⟨PySem.W.km_in_of Y,PySem.W.km_tabs_of Y _ bW⟩) ?F
 case F =>
  intro w mg f h K G m
  refine VL.My.aPx K G m ?B ?T
  (case B=>kernel_rfl)
  case T =>
   refine' VL.My.aNu K G (VL.enr ?a0 ?l0 ?c0 ?k0) (VL.enr ?a1 ?l1 ?c1 ?k1) (VL.enr ?a2 ?l2 ?c2 ?k2) (VL.enr ?a3 ?l3 ?c3 ?k3) (VL.enr ?a4 ?l4 ?c4 ?k4) (VL.enr ?a5 ?l5 ?c5 ?k5) (VL.enr ?a6 ?l6 ?c6 ?k6) (VL.enr ?a7 ?l7 ?c7 ?k7) (VL.enr ?a8 ?l8 ?c8 ?k8) (VL.enr ?a9 ?l9 ?c9 ?k9) (VL.enr ?a10 ?l10 ?c10 ?k10) (VL.enr ?a11 ?l11 ?c11 ?k11) (VL.enr ?a12 ?l12 ?c12 ?k12) (VL.enr ?a13 ?l13 ?c13 ?k13) (VL.enr ?a14 ?l14 ?c14 ?k14) (VL.enr ?a15 ?l15 ?c15 ?k15) (VL.enr ?a16 ?l16 ?c16 ?k16) (VL.enr ?a17 ?l17 ?c17 ?k17) (VL.enr ?a18 ?l18 ?c18 ?k18) (VL.enr ?a19 ?l19 ?c19 ?k19) (VL.enr ?a20 ?l20 ?c20 ?k20) (VL.enr ?a21 ?l21 ?c21 ?k21) (VL.enr ?a22 ?l22 ?c22 ?k22) (VL.enr ?a23 ?l23 ?c23 ?k23) (VL.enr ?a24 ?l24 ?c24 ?k24) (VL.enr ?a25 ?l25 ?c25 ?k25) (VL.enr ?a26 ?l26 ?c26 ?k26) (VL.enr ?a27 ?l27 ?c27 ?k27) ?aD7 ?h_ONE ?uv ?qQ ?lW ?lZ ?y_FewError ?jy ?y_NoWeb ?xV ?y_NoPlace ?qg ?y_NoWay ?xW ?y_NoParting ?lK ?y_TooMany ?qe ?y_NoForest ?nU ?y_NoPlan ?pK ?y_NoOneWay ?nT ?y_NoOrder ?qi ?y_NoText ?uC ?y_NoDeed ?uD ?y_NoRow ?xX ?cb ?z_ValueError ?z_all ?z_bool ?z_enumerate ?z_int ?z_isinstance ?z_len ?z_list ?z_max ?z_min ?z_range ?z_set ?z_sorted ?z_tuple ?z_zip
   (case y_FewError=>k_is); (case jy=>unfold L2.cJ; k_exc)
   (case y_NoWeb=>k_is); (case xV=>unfold L2.cJ; k_exc)
   (case y_NoPlace=>k_is); (case qg=>unfold L2.cJ; k_exc)
   (case y_NoWay=>k_is); (case xW=>unfold L2.cJ; k_exc)
   (case y_NoParting=>k_is); (case lK=>unfold L2.cJ; k_exc)
   (case y_TooMany=>k_is); (case qe=>unfold L2.cJ; k_exc)
   (case y_NoForest=>k_is); (case nU=>unfold L2.cJ; k_exc)
   (case y_NoPlan=>k_is); (case pK=>unfold L2.cJ; k_exc)
   (case y_NoOneWay=>k_is); (case nT=>unfold L2.cJ; k_exc)
   (case y_NoOrder=>k_is); (case qi=>unfold L2.cJ; k_exc)
   (case y_NoText=>k_is); (case uC=>unfold L2.cJ; k_exc)
   (case y_NoDeed=>k_is); (case uD=>unfold L2.cJ; k_exc)
   (case y_NoRow=>k_is); (case xX=>unfold L2.cJ; k_exc)
   (case cb=>kernel_rfl)
   any_goals k_is
