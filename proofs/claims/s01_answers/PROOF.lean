import PyProof.Rows.All
import Wide.All
import OpenK.AllK
import Wide.FinOn
import Open.SpecLaws
import KE.OsHead
import KE.OsGo
import KE.SpHead
import KE.OsShapes
import PySem.Challenge.RW_leastflows_s01_answers
set_option Elab.async false
set_option linter.all false
set_option maxRecDepth 100000
set_option maxHeartbeats 2000000
set_option genSizeOf false
set_option bootstrap.genMatcherCode false
set_option backward.eqns.nonrecursive false
noncomputable section
local macro_rules|`(∅)=>`(by decide +kernel)
local macro_rules|`(⋯)=>`(λz=>by cases z)
local macro_rules|`(nofun)=>`(by decide)
local macro_rules|`(tactic|cases $h:ident)=>`(tactic|first|subst $h:ident|(injection $h:ident;done)|(injection $h:ident with e;clear $h;cases e)|(injection $h:ident with e f;clear $h;cases e;cases f)|cases ($h))
local macro_rules|`(tactic|omega)=>`(tactic|first|exact Nat.le_trans (by assumption) (by decide)|exact Nat.lt_of_le_of_lt (by assumption) (by decide)|exact Nat.lt_of_le_of_lt (Nat.add_le_add_left (by decide) _) (by assumption)|exact Nat.le_trans (Nat.add_le_add (by assumption) (by assumption)) (by decide)|exact Nat.le_antisymm (by assumption) (Nat.not_lt.mp (by assumption))|exact Nat.succ_le_succ (by assumption)|exact Nat.le_of_lt (by assumption)|exact Nat.lt_succ_self _|omega +splitDisjunctions)
open Array renaming append_assoc->Do,forIn_toList->HS,getElem?_eq_getElem->yV,getElem?_eq_none->yN,getElem?_eq_some_iff->yU,length_toList->LM,mem_toList_iff->Mg,toList->LN
open Bool renaming and_eq_true->dQ,and_eq_true_iff->Pz,and_false->uO,decide_or->zo,eq_iff_iff->m8,false->am,false_and->LW,false_eq_true->kK,false_ne_true->dA,noConfusion->j9,not_false->HU,not_true->pY,or_eq_true->xx,or_false->PX,true->H
open Eq renaming trans->IJ
open False renaming elim->hu
open ForInStep renaming yield->yF
open Function renaming comp->U2
open Int renaming toNat_natCast->Er
open Int.ofNat renaming inj->vC
open List renaming Nodup->I9,all_cons->tY,all_eq_true->l4,all_map->Q_,any_cons->mh,any_eq_false->Mf,any_eq_true->C4,any_nil->PW,append_assoc->eW,append_nil->fT,cons_append->hJ,cons_ne_nil->Jo,contains_cons->Pn,contains_iff_mem->d1,countP_eq_length_filter->Vm,drop_append->Ti,drop_drop->sK,drop_eq_getElem_cons->u1,drop_eq_nil_of_le->RB,drop_left->FC,drop_length->FA,drop_zero->qZ,eq_nil_of_length_eq_zero->VO,eraseDups_cons->ty,filterMap_cons->hn,filterMap_eq_map'->vO,filterMap_map->P1,filter_append->tU,filter_congr->KX,filter_cons->lc,filter_eq_nil_iff->T6,filter_sublist->r6,find?_append->mN,find?_cons->ez,find?_eq_none->n6,find?_some->CM,flatMap_append->lG,flatMap_cons->ds,flatMap_def->Uc,flatMap_map->TF,flatten_append->v3,flatten_cons->pQ,foldl_append->z8,foldl_cons->gk,foldl_nil->TU,forIn_cons->EW,forIn_nil->Nk,getD_eq_getElem?_getD->zP,getElem?_append_left->uz,getElem?_append_right->pr,getElem?_cons_succ->N5,getElem?_cons_zero->Fl,getElem?_drop->Th,getElem?_eq_getElem->gE,getElem?_eq_none->yE,getElem?_eq_some_iff->es,getElem?_map->d2,getElem?_replicate->ML,getElem?_set_ne->ue,getElem?_set_self->ud,getElem?_take_of_lt->MM,getElem_inj->Lv,getElem_mem->Op,isEmpty_iff->xs,length->nv,length_append->b4,length_cons->cy,length_drop->uD,length_eq_zero_iff->BD,length_filterMap_le->hW,length_filter_le->tz,length_map->aV,length_nil->t0,length_pos_iff->xA,length_range->zj,length_replicate->uA,length_reverse->JB,length_set->EF,length_singleton->fS,length_take->ic,lookup->on,lookup_cons->ny,map_append->cS,map_congr_left->nc,map_cons->bz,map_drop->Tl,map_filterMap->A6,map_inj_right->QI,map_map->fU,map_nil->xt,map_take->IE,mem_append->bE,mem_append_left->g5,mem_append_right->gH,mem_cons->bm,mem_cons_of_mem->cv,mem_cons_self->b8,mem_eraseDups->w7,mem_filter->eI,mem_filterMap->eV,mem_flatMap->cR,mem_flatten->RE,mem_iff_getElem->Kw,mem_map->cx,mem_map_of_mem->i8,mem_of_find?_eq_some->n7,mem_of_getElem?->ev,mem_of_mem_take->H8,mem_range->jH,mem_singleton->y2,nil_append->g2,nodup_append->w9,nodup_cons->e9,nodup_nil->rV,nodup_range->CL,not_mem_nil->Qz,of_mem_zip->Em,range->er,range'->h8,range'_append->RH,range'_succ->r2,range_eq_range'->KV,range_succ->F9,range_succ_eq_map->P0,removeAll->UP,replicate->MI,reverse_cons->B',singleton_append->t1,size_toArray->eO,sum_cons->l1,take_append_drop->ID,take_left->Ft,take_length->f8,take_of_length_le->EQ,take_sublist->MN,take_succ_cons->Fs,take_zero->Oh,toList_toArray->Oz
open List.Nodup renaming sublist->t8
open List.Sublist renaming map->TW
open List.cons renaming inj->m_,injEq->HT
open Nat renaming add_assoc->v2,add_sub_cancel_left->Tn,add_zero->y1,le_add_right->Kl,le_of_eq->yb,le_of_lt->fX,le_of_succ_le->yx,le_refl->bC,le_succ->Df,le_trans->b5,lt_irrefl->nh,lt_of_le_of_lt->jo,lt_of_lt_of_le->gK,lt_succ_of_lt->EX,lt_succ_self->uu,min_eq_left->VU,mul_le_mul_left->S_,ne_of_gt->DK,ne_of_lt->gL,not_lt_zero->s4,succ_pos->Hy,zero_add->Dd,zero_le->dC
open Ne renaming symm->cU
open NeutralIO renaming bytes->Vy
open Option renaming bind_eq_some_iff->CT,bind_some->d3,getD_none->M5,isSome_iff_exists->yj,isSome_map->uS,isSome_some->Nn,map_eq_some_iff->E4,map_some->r3,none->E,some->j
open Option.some renaming inj->dP,injEq->Kx
open Or renaming inl->aU,inr->lA
open Prod renaming snd->B0
open Prod.mk renaming inj->Au,injEq->QE
open PyFlat renaming call->qg,calls->qj,played->Ct,row->VJ,rows->VL,told->w3
open PyProof.Rows renaming AllBare->nk,Subscript_->Ew,callWith_type1->DN,envOfC->f3,subscriptTail->Ex,subscriptTail_builtinR->MZ
open PySem renaming Addr->t,Around->g8,BindsTo->yf,DictEntry->iL,ExceptHandler->pG,Expr->ce,FuncData->hQ,Heap->bM,Keyword->ys,Model->qA,NameKind->kD,Operator->ul,Params->oD,PassesOwn->sf,Program->cN,PyData->ow,Scope->hN,Shared->aJ,Stmt->be,Value->ab,Within->Dj,World->cr,assignEach->sd,atKey->mj,attributeBase->oo,backTo->gq,backToKw->pl,behindInMarks->r',binaryOp->pi,bindArgs->yi,bindC->pq,bootBuiltins->uc,boot_len->e3,builtinsNs->xI,cLine->e0,callWith->sq,call_meets->qR,call_meetsIn->E',callerA->vj,cellsFrom->hb,codeAny->qL,codeAny_mono->ux,compEnvC->hc,compPost->sR,compareOp->h',eval->cb,evalArgs_none->M',excClassObj->zc,exec_Assign_Name_used->Pr,foldedSetIterable->sj,getItem->sw,getMethod->qJ,inplaceOp->xV,intText?->y9,isTrue->uf,keywordEach->pm,length_partsBetween->Ox,letOwnedTupleGo->xZ,lineCuts->tr,linesOf->mL,mainGlobals->oe,mem_of_lookup->jO,model->a',newList->zg,noteFrame->pA,notedBy->pz,pushCells->pw,pushCells_keeps->yw,pyNext->qG,rawInt->nl,seqIndex_neg->EB,seqIndex_of->EA,setFlight->u9,sizeLine->aD,sizeLine_eq->ut,size_of_entries->uX,sliceBounds->qP,slot_list_getitem->M0,standAt->qC,starEach->da,storedH->yH,swapsWith->pe,sysModules->g7,tupleKind->r9,tupleKind_room_in1->uT,typeIs_str->qQ,valueAt->qV,wpAny->a5,wpAny_Assign_Subscript->NH,wpAny_Call_Name_kw->qM,wpAny_Dict_empty->E9,wpAny_Name->Ds,wpAny_assign_Name->DH,wpAny_bind->bv,wpAny_call->Eh,wpAny_callSpecial?_slot->Fk,wpAny_call_entry->sI,wpAny_dictEntries->yP,wpAny_dictEpoch->Fj,wpAny_execs_nil->sc,wpAny_field->BU,wpAny_holding->um,wpAny_isOneOf_keyiter->N1,wpAny_isSubtype_exc->Pm,wpAny_isTrue_Compare1->LB,wpAny_landsW->FU,wpAny_loadName_cell->Lz,wpAny_loadName_local->Ly,wpAny_loadPart_at->Pl,wpAny_looks_onW->FT,wpAny_mono->h_,wpAny_newObj_type->yQ,wpAny_passesOwn->qE,wpAny_pure->c2,wpAny_pyIter_enum->N',wpAny_pyIter_slot->Fi,wpAny_setField->yW,wpAny_setItem_heap->NC,wpAny_standAt->xW,wpAny_truthy_bool->sa,wpAny_typeNameOfWhole_keyiter->yS,wpAny_typeNameOf_keyiter->yT
open PySem.Around renaming under->Ec
open PySem.Builtin.Dict renaming showsAll->NX
open PySem.Builtin.Dict_items renaming ownsTuple->N0
open PySem.Builtin.List renaming listExtendWith->Sl,listTooLong->uM
open PySem.Builtin.Str renaming occurrences->sm,partsBetween->Ow,strKind->mn,strSub->oB
open PySem.Calls renaming Name_function_global->LA,callWith_builtin->uJ,evalArgs_plain->EL,spliced_cons->yd,spliced_nil->Ee
open PySem.Challenge renaming pw_leastflows_s01_answers->YF,rw_leastflows_s01_answers->Cx
open PySem.Code renaming isFrame->Ed
open PySem.Data renaming seq->zi
open PySem.F renaming args_dict_get_3->NQ,args_dict_keyiterator_iter_1->N9,args_dict_keyiterator_next_1->NZ,args_list_extend_2->Nd,args_str_split_2->FI,args_tuple_add_2->MR,entry_dict_get->NP,entry_dict_keyiterator_iter->N8,entry_dict_keyiterator_next->NY,entry_list_extend->Nc,entry_str_split->FH,entry_tuple_add->MQ,plainAttrs_list->fK,plainAttrs_str->OG,slot_dict_get->Fa,slot_dict_iter->NW,slot_dict_keyiterator_iter->y0,slot_dict_keyiterator_next->qX,slot_dict_len->PR,slot_list_append->hT,slot_list_extend->ov,slot_list_pop->Ng,slot_str_split->y5,slot_str_splitlines->So,slot_tuple_add->MP,type_list_append->iq,type_list_extend->ra
open PySem.Heap renaming FlyingW->u6,MadeExcOf->OS,SameBut->qB,get?_push_of_some->gs,get?_push_size->hv,get?_update_other->yo,get?_update_self->ED,hide_ne->Jr,lt_size->d_,of_hide->Jq,size_push->lx
open PySem.Heap.IsSliceOf renaming new->YD
open PySem.Heap.SameBut renaming update->N3
open PySem.Heap.UpToSlots renaming of_keeps->YE
open PySem.NameKind renaming cell->EY,free->sB
open PySem.Obj renaming data_mapFields->yY,isFreed_of_fields->N2,mapFields->yX,mapSeq->uG
open PySem.PassesOwn renaming leaving->rg,looking->Pq,never->gx
open PySem.PyData renaming canLay0->Gk,canLayAll0->Gm,depth->Gl,depthAll->Gn,eqv->pv,eqvAll->sW
open PySem.SeqAt renaming shaped->pu
open PySem.SeqAt.EqAt renaming int_str->Lf,str_int->Lg
open PySem.Str renaming join->FE,ofString->eD
open PySem.StrLaws renaming LsSt->IH,lsBody->wn,lsNext->Tj,lsum->Tq
open PySem.Txt renaming isalpha->y7,isdigit->y6,join->pF,split->j8,startswith->y8
open PySem.Unicode renaming isLineBreak->Bv
open PySem.Value renaming bool->r8,bytes->Lj,float->Lk,int->r7,isInt->K9,isStrOf->K_,none->ng,ref->dt,str->xC,type->jb
open PySem.Value.type renaming inj->PE
open PySem.W renaming Frag->bG,WRecords->Ps,WalkOS->PM,callWith_K->uy,callWith_K0->ME,cellsFrom_some->MJ,codeIn->su,emptyDict->om,findIn->ia,fnOf->qN,handedIn->Mi,hasDictIn->DY,hideAll->o',hideAll_get->xH,instObj->o_,isFn->lw,keepIn->md,length_le_weightAllW->Py,lookIn->x6,makesIn->Mn,methodCall_KW->Eb,methodObj->Dk,nsIn->OQ,nsOkIn->OP,of_hideAll->Lq,plainGet->x8,plainGet_of->DZ,plainOver->Ml,takerIn->D0
open PyVacfab renaming answers->tL,answers_asked->J_,shape->i4,whole->k9
open Sum renaming inl->gm,inr->dJ
open Sum.inl renaming inj->Dg
open Sum.inr renaming inj->t'
open True renaming intro->d5
open UInt8 renaming ofNat->mK,ofNat_toNat->HI,toNat->fP,toNat_inj->z2
open Vacfaa renaming Arrow->i2,Bind->Jv,Call->BZ,Ctx->B9,Env->wu,Expr->dT,Flow->tE,INPUT->d9,INPUTS->Vs,LONG->CP,Made->em,Name->kr,Out->Cj,RESERVED->n_,STEPS->qz,STRING->Db,Text->el,Value->qy,absOf->fV,addTo->h9,arrowsOf->oY,ascii->dI,binderOf->dH,bindersIn->c8,bindersOf->rn,closing->gF,decimal->gG,deepOf->fe,gluedBy->jZ,inBrackets->rZ,isClosed->et,isDigit->g3,isFun->Ib,isName->rY,isSmall->li,labelIn->mS,labelOf->aS,labelsOf->dO,lookup->UB,madeOf->ja,nodeAt->xh,nodesOf->aO,nothing->JV,numberOf->i_,objLabel->tD,programOf->m',runOf->hL,spaced->fA,textOf->jG,tokensOf->fk,toldNats->Ic,toldText->Td
open Vacfaa.Abs renaming fn->zI
open Vacfab renaming Fact->dr,Out_->wa,Place->d7,Step->eg,Table->d6,Way->TC,absOf->p8,absText->eK,arrowsIn->lR,bodyOf->vP,broughtBy->qm,chainsFrom->hK,cutAt->l7,doWhy->Jn,does->wb,factsOf->k8,given->nS,has->QH,inOrder->c6,isSeed->qx,labelled->e5,leastOf->cz,missingIn->p5,mostFacts->xb,neededBy->o4,onInput->wV,onNode->nR,onPlace->oS,placeData->Ub,placeText->eC,placesOf->ch,roundOf->w_,roundsFrom->qo,rowOf->qv,seedsIn->fy,seedsOf->l0,setAt->ee,sortsOf->d8,step->n3,stepsOn->g4,tableOf->o7,tableText->nb,tell->iY,toldFact->tA,toldSet->iX,waysIn->c5,waysOf->i6,whyOf->oa
open Vacfab.Place renaming first->k',inside->la,name->h7,node->ef,second->tO
open Vacfab.Place.node renaming inj->YI
open VacfabNeutral renaming asked1->J8,callOf->qe,natural->Cr,step->qh,text?->m2
theorem a{_α:Sort _}{_a:_α}:_a=_a:=rfl
abbrev aq:=@absurd
abbrev fl:=@beq_eq_false_iff_ne
abbrev fz:=@beq_iff_eq
abbrev le:=@beq_self_eq_true
abbrev dZ:=@congrArg
abbrev bq:=@decide_eq_false
abbrev bw:=@decide_eq_true
abbrev l2:=@decide_eq_true_eq
abbrev z1:=@decide_eq_true_iff
abbrev q1:=@eq_comm
abbrev ig:=@if_false
abbrev ag:=@if_neg
abbrev as:=@if_pos
abbrev kH:=@if_true
abbrev FJ:=@ne_true_of_eq_false
abbrev iF:=@of_decide_eq_true
theorem YR:0<=aD:=by decide
theorem YS:1<=aD:=by decide
theorem YT:2<=aD:=by decide
theorem YU:3<=aD:=by decide
noncomputable abbrev YV:List String:=["enumerate","zip","dict_itemiterator","dict_reverseitemiterator","odict_iterator","itertools.zip_longest","itertools.pairwise"]
noncomputable abbrev YW:List PySem.Str:=["reader","scope","around","label","kind","node","last_scope","last","k"]
noncomputable abbrev YX:List PySem.Str:=["calls","flows","told","at","call","start","end","answer"]
noncomputable abbrev YY:List PySem.Str:=["self","kind","binder","number"]
noncomputable abbrev YZ:List PySem.Str:=["flows","label","made","maker"]
noncomputable abbrev Y0:List PySem.Str:=["reader","scope","around"]
noncomputable abbrev Y1:List PySem.Str:=["reader","scope","label"]
noncomputable abbrev Y2:List PySem.Str:=["scope","binder","value"]
noncomputable abbrev Y3:List PySem.Str:=["flows","label","kinds"]
noncomputable abbrev Y4:List PySem.Str:=["self","nodes","number"]
noncomputable abbrev Y5:List PySem.Str:=["flows","call","handed"]
noncomputable abbrev Y6:List PySem.Str:=["table","here","parts"]
noncomputable abbrev Y7:List PySem.Str:=["table","place","sort"]
noncomputable abbrev Y8:List PySem.Str:=["self","label","scope"]
noncomputable abbrev Y9:List PySem.Str:=["self","place","sort"]
noncomputable abbrev Y_:List PySem.Str:=["self","place","made"]
noncomputable abbrev Y':List PySem.Str:=["run","label","scope"]
noncomputable abbrev Za:List PySem.Str:=["ways","rows","last"]
noncomputable abbrev Zb:List PySem.Str:=["self","what","held"]
abbrev Zc:List PySem.Str:=["text","allowed"]
abbrev Zd:List PySem.Str:=["flows","handed"]
abbrev Ze:List PySem.Str:=["value","needed"]
abbrev Zf:List PySem.Str:=["nodes","number"]
abbrev Zg:List PySem.Str:=["flows","number"]
abbrev Zh:List PySem.Str:=["nodes","label"]
abbrev Zi:List PySem.Str:=["table","label"]
abbrev Zj:List PySem.Str:=["self","tokens"]
abbrev Zk:List PySem.Str:=["token","scope"]
abbrev Zl:List PySem.Str:=["flows","label"]
abbrev Zm:List PySem.Str:=["flows","place"]
abbrev Zn:List PySem.Str:=["run","started"]
abbrev Zo:List PySem.Str:=["nodes","kind"]
abbrev Zp:List PySem.Str:=["self","place"]
abbrev Zq:List PySem.Str:=["self","nodes"]
abbrev Zr:List PySem.Str:=["self","token"]
abbrev Zs:List PySem.Str:=["flows","text"]
abbrev Zt:List PySem.Str:=["table","text"]
abbrev Zu:List PySem.Str:=["nodes","text"]
abbrev Zv:List PySem.Str:=["things"]
abbrev Zw:List PySem.Str:=["nodes"]
abbrev Zx:List PySem.Str:=["table"]
abbrev Zy:List PySem.Str:=["token"]
abbrev Zz:List PySem.Str:=["place"]
abbrev ZA:List PySem.Str:=["calls"]
abbrev ZB:List PySem.Str:=["self"]
abbrev ZC:List PySem.Str:=["text"]
namespace Y
open Vacfaa (Expr Abs Arrow)
open Vacfab
variable{p:d6}
def o3{m:d7}{e:Abs}:e∈ee p m↔(⟨m,e⟩:dr)∈p:=by
 unfold ee;rw[cx];constructor;rintro⟨c,b,rfl⟩;rw[eI]at b;obtain⟨d,f⟩:=b;have g:c.place=m:=by simpa using f
 subst g;exact d;intro h;exact⟨⟨m,e⟩,by rw[eI];exact⟨h,by simp⟩,a⟩
def Sub(p C:d6):Prop:=∀b,b∈p->b∈C
variable{C:d6}
def rT(d:Sub p C){m:d7}{e:Abs}(v:e∈ee p m):e∈ee C m:=o3.mpr (d _ (o3.mp v))
variable{h:Expr}
def Kg(d:Sub p C)(i:Expr){w:Way}(v:w∈c5 h p i):w∈c5 h C i:=by
 cases i with
 |app e g k=>simp only[c5,cR]at v|-;obtain⟨b,c,hw⟩:=v;exact⟨b,rT d c,hw⟩
 |fst e f=>simp only[c5,cR]at v|-;obtain⟨b,c,hw⟩:=v;exact⟨b,rT d c,hw⟩
 |snd e f=>simp only[c5,cR]at v|-;obtain⟨b,c,hw⟩:=v;exact⟨b,rT d c,hw⟩
 |get e f=>simp only[c5,cR]at v|-;obtain⟨b,c,hw⟩:=v;exact⟨b,rT d c,hw⟩
 |set e l f=>simp only[c5,bm,cR]at v|-;obtain v|⟨b,c,hw⟩:=v;exact .inl v;exact .inr ⟨b,rT d c,hw⟩
 |_=>exact v
variable{a3:Type}
theorem Kh[BEq a3][LawfulBEq a3]{e:a3}{n:List a3}:e∈n.eraseDups↔e∈n:=w7
def n5{w:Way}:w∈i6 h p↔∃i∈aO h,w∈c5 h p i:=by unfold i6;rw[Kh,cR]
def w8(d:Sub p C){w:Way}(v:w∈i6 h p):w∈i6 h C:=by rw[n5]at v|-;obtain⟨b,c,hw⟩:=v;exact⟨b,c,Kg d b hw⟩
variable{f:dr}
def m4:f∈o4 h p↔f∈l0 h\/∃w∈i6 h p,(⟨w.src,f.abs⟩:dr)∈p/\f.place=w.dst:=by unfold o4;rw[bE,cR];constructor;rintro(c|⟨w,hw,b⟩);exact .inl c;unfold qm at b;rw[cx]at b;obtain⟨g,d,rfl⟩:=b;exact .inr ⟨w,hw,o3.mp d,a⟩;rintro(c|⟨w,hw,b,e⟩);exact .inl c;refine .inr ⟨w,hw,?_⟩;unfold qm;rw[cx];exact⟨f.abs,o3.mpr b,by cases f;cases e;rfl⟩
def tM(d:Sub p C)(v:f∈o4 h p):f∈o4 h C:=by rw[m4]at v|-;obtain v|⟨b,hw,c,e⟩:=v;exact .inl v;exact .inr ⟨b,w8 d hw,d _ c,e⟩
def m5(h:Expr)(p:d6):Prop:=∀f,f∈o4 h p->f∈p
def hm(C:d6)(f:dr):d6:=if C.contains f=H then C else C++[f]
def Ki{g:dr}:g∈hm C f↔g∈C\/g=f:=by delta hm;split;rename_i b;have:=d1.mp b;constructor;exact .inl;rintro(b|rfl);exact b;exact this;simp
def Kj(d:C.Nodup):(hm C f).Nodup:=by
 delta hm;split;exact d;rename_i b;rw[w9];refine⟨d,by simp,?_⟩;intro i c e g;have:e=f:=by simpa using g
 subst this;intro h;subst h;exact b (d1.mpr c)
def Cy{n:List dr}:∀{C:d6} {g:dr},g∈n.foldl hm C↔g∈C\/g∈n:=by
 induction n with
 |nil=>intro C g;simp
 |cons d e c=>intro C g;rw[gk,c,Ki,bm];constructor;rintro((b|b)|b);exact .inl b;exact .inr (.inl b);exact .inr (.inr b);rintro(b|b|b);exact .inl (.inl b);exact .inl (.inr b);exact .inr b
def Kk{n:List dr}:∀{C:d6},C.Nodup->(n.foldl hm C).Nodup:=by
 induction n with
 |nil=>intro C b;exact b
 |cons d e c=>intro C b;exact c (Kj b)
def Cz:C.length<=(hm C f).length:=by delta hm;split;exact bC _;rw[b4];exact Kl _ _
def CA{n:List dr}:∀{C:d6},C.length<=(n.foldl hm C).length:=by
 induction n with
 |nil=>intro C;exact bC _
 |cons c d b=>intro C;exact b5 Cz b
def Km{n:List dr}:∀{C:d6},(n.foldl hm C).length=C.length->∀f∈n,f∈C:=by
 induction n with
 |nil=>intro C _ f c;cases c
 |cons b k l=>
  intro C c f d;rw[gk]at c;have g:(hm C b).length<=(k.foldl hm (hm C b)).length:=CA;have m:C.length<=(hm C b).length:=Cz;have h:b∈C:=by
   by_cases i:C.contains b=H;exact d1.mp i;have e:hm C b=C++[b]:=by delta hm;rw[ag i]
   rw[e]at c g;rw[b4,fS]at g;omega
  have e:hm C b=C:=by delta hm;rw[as (d1.mpr h)]
  obtain rfl|d:=bm.mp d;exact h;rw[e]at c;exact l c f d
def tN(h:Expr)(p:d6):w_ h p=(o4 h p).foldl hm p:=rfl
def jF(h:Expr)(p:d6):Prop:=∀f∈p,f.place∈ch h/\f.abs∈d8 h
def qn{i:Expr}(d:i∈aO h):labelled i∈ch h:=by unfold ch;simp only[bE,cR];exact .inl ⟨i,d,by simp⟩
variable{n:Nat}
def i7{i:Expr}(d:i∈aO h)(b:aS i=n):ef n∈ch h:=by subst b;exact qn d
def CB{b:Expr}{i:kr}(d:Expr.fn n i b∈aO h):h7 n∈ch h:=by unfold ch;simp only[bE,cR];exact .inr (.inl ⟨_,d,by simp⟩)
def CC{b aa:Expr}{i:kr}(d:Expr.letE n i aa b∈aO h):h7 n∈ch h:=by unfold ch;simp only[bE,cR];exact .inr (.inl ⟨_,d,by simp⟩)
def CD{e b:Expr}(d:Expr.pair n e b∈aO h):k' n∈ch h:=by unfold ch;simp only[bE,cR];exact .inr (.inr (.inl ⟨_,d,by simp⟩))
def CE{e b:Expr}(d:Expr.pair n e b∈aO h):tO n∈ch h:=by unfold ch;simp only[bE,cR];exact .inr (.inr (.inl ⟨_,d,by simp⟩))
def w'{e:Expr}(d:Expr.new n e∈aO h):la n∈ch h:=by unfold ch;simp only[bE,cR];exact .inr (.inr (.inr ⟨_,d,by simp⟩))
def xa:Abs.num∈d8 h:=by unfold d8;exact b8
def rU:Abs.fn n∈d8 h↔∃i b,Expr.fn n i b∈aO h:=by unfold d8;simp only[bm,eV];constructor;rintro(c|⟨d,e,c⟩);cases c;cases d<;>simp at c;subst c;exact⟨_,_,e⟩;rintro⟨i,b,c⟩;exact .inr ⟨_,c,a⟩
def tP:Abs.pair n∈d8 h↔∃e b,Expr.pair n e b∈aO h:=by unfold d8;simp only[bm,eV];constructor;rintro(c|⟨d,f,c⟩);cases c;cases d<;>simp at c;subst c;exact⟨_,_,f⟩;rintro⟨g,b,c⟩;exact .inr ⟨_,c,a⟩
def tQ:Abs.ref n∈d8 h↔∃e,Expr.new n e∈aO h:=by unfold d8;simp only[bm,eV];constructor;rintro(b|⟨c,d,b⟩);cases b;cases c<;>simp at b;subst b;exact⟨_,d⟩;rintro⟨f,b⟩;exact .inr ⟨_,b,a⟩
def tR:jF h (l0 h):=by
 intro k b;unfold l0 at b;rw[cR]at b;obtain⟨g,c,b⟩:=b;cases g with
 |num d i=>simp[fy]at b;subst b;exact⟨i7 c a,xa⟩
 |var d i=>simp only[fy]at b;split at b;simp at b;subst b;exact⟨i7 c a,xa⟩;cases b
 |fn d l e=>simp[fy]at b;subst b;exact⟨i7 c a,rU.mpr ⟨_,_,c⟩⟩
 |pair d f e=>simp[fy]at b;subst b;exact⟨i7 c a,tP.mpr ⟨_,_,c⟩⟩
 |new d f=>simp[fy]at b;subst b;exact⟨i7 c a,tQ.mpr ⟨_,c⟩⟩
 |add d f e=>simp[fy]at b;subst b;exact⟨i7 c a,xa⟩
 |_=>simp[fy]at b
def tS(d:jF h p){w:Way}(hw:w∈i6 h p):w.dst∈ch h:=by
 rw[n5]at hw;obtain⟨q,b,hw⟩:=hw;cases q with
 |num c r=>cases hw
 |fn c l f=>cases hw
 |add c m f=>cases hw
 |var c r=>simp only[c5]at hw;split at hw;cases hw;simp at hw;subst hw;exact i7 b a
 |app c s m=>
  simp only[c5,cR]at hw;obtain⟨e,g,hw⟩:=hw;have n:=(d _ (o3.mp g)).2;cases e with
  |fn k=>simp only[bm,cx]at hw;obtain rfl|⟨f,u,rfl⟩:=hw;obtain⟨l,f,o⟩:=rU.mp n;exact CB o;exact i7 b a
  |_=>cases hw
 |letE c l i f=>simp[c5]at hw;obtain rfl|rfl:=hw;exact CC b;exact i7 b a
 |ifz c v m f=>simp[c5]at hw;obtain rfl|rfl:=hw;exact i7 b a;exact i7 b a
 |pair c m f=>simp[c5]at hw;obtain rfl|rfl:=hw;exact CD b;exact CE b
 |fst c i=>
  simp only[c5,cR]at hw;obtain⟨e,g,hw⟩:=hw;cases e with
  |pair k=>simp at hw;subst hw;exact i7 b a
  |_=>cases hw
 |snd c i=>
  simp only[c5,cR]at hw;obtain⟨e,g,hw⟩:=hw;cases e with
  |pair k=>simp at hw;subst hw;exact i7 b a
  |_=>cases hw
 |new c i=>simp[c5]at hw;subst hw;exact w' b
 |get c i=>
  simp only[c5,cR]at hw;obtain⟨e,g,hw⟩:=hw;cases e with
  |ref k=>simp at hw;subst hw;exact i7 b a
  |_=>cases hw
 |set c x i=>
  simp only[c5,bm,cR]at hw;obtain rfl|⟨e,g,hw⟩:=hw;exact i7 b a;have n:=(d _ (o3.mp g)).2;cases e with
  |ref k=>simp at hw;subst hw;obtain⟨l,o⟩:=tQ.mp n;exact w' o
  |_=>cases hw
def Kn(d:jF h p):jF h (o4 h p):=by intro c b;obtain b|⟨g,hw,e,f⟩:=m4.mp b;exact tR c b;rw[f];exact⟨tS d hw,(d _ e).2⟩
def CF(d:jF h p):jF h (w_ h p):=by intro c b;rw[tN,Cy]at b;obtain b|b:=b;exact d c b;exact Kn d c b
def Ko(d:p.Nodup):(w_ h p).Nodup:=Kk d
theorem m6[DecidableEq a3]:∀{n v:List a3},n.Nodup->(∀e∈n,e∈v)->n.length<=v.length
 |[],v,_,_=>dC _
 |e::h,v,i,b=>by
  have c:=e9.mp i;have d:e∈v:=b e b8;have k:=m6 (n:=h) (v:=v.erase e) c.2 (λf g=>by exact(List.mem_erase_of_ne (λl=>c.1 (l▸g):f≠e)).mpr (b f (cv _ g)))
  rw[List.length_erase_of_mem d]at k;have m:0<v.length:=List.length_pos_of_mem d;rw[cy];omega
def Kp(f:p.Nodup)(c:jF h p):p.length<=xb h:=by
 have g:p.length<=((ch h).flatMap λd=>(d8 h).map λi=>(⟨d,i⟩:dr)).length:=by refine m6 f λb e=>?_;rw[cR];exact⟨b.place,(c b e).1,cx.mpr ⟨b.abs,(c b e).2,a⟩⟩
 refine b5 g ?_;unfold xb;generalize ch h=k;induction k with
 |nil=>simp
 |cons d l m=>rw[ds,b4,aV,cy,Nat.succ_mul];omega
theorem CG:∀(f:Nat) (p:d6),p.Nodup->jF h p->xb h<f+p.length->m5 h (qo h f p)
 |0,p,b,c,e=>by have:=Kp b c;omega
 |f+1,p,b,c,e=>by
  unfold qo;simp only;split;rename_i d;rw[tN]at d;exact Km d;rename_i d;have g:p.length<=(w_ h p).length:=by rw[tN];exact CA
  exact CG f _ (Ko b) (CF c) (by omega)
theorem CH{T:d6}(d:m5 h T):∀(f:Nat) (p:d6),Sub p T->Sub (qo h f p) T
 |0,p,c=>c
 |f+1,p,c=>by unfold qo;simp only;split;exact c;refine CH d f _ λe b=>?_;rw[tN,Cy]at b;obtain b|b:=b;exact c e b;exact d e (tM c b)
theorem CI:∀(f:Nat) (p:d6),jF h p->jF h (qo h f p)
 |0,p,b=>b
 |f+1,p,b=>by unfold qo;simp only;split;exact b;exact CI f _ (CF b)
def m7(h:Expr):d6:=qo h (xb h+1) []
def xc(h:Expr):m5 h (m7 h):=CG _ _ rV (λc=>⋯) (by simp)
def xd{T:d6}(d:m5 h T):Sub (m7 h) T:=CH d _ _ λb=>⋯
def xf(h:Expr):jF h (m7 h):=CI _ _ λc=>⋯
def lb:f∈c6 h p↔f.place∈ch h/\f.abs∈d8 h/\f∈p:=by unfold c6;simp only[cR,eV];constructor;rintro⟨l,c,m,d,b⟩;split at b;rename_i e;simp at b;subst b;exact⟨c,d,d1.mp e⟩;cases b;rintro⟨g,i,k⟩;exact⟨f.place,g,f.abs,i,by rw[as (show has p f.place f.abs=H from d1.mpr k)]⟩
def rW:f∈cz h↔f∈m7 h:=by show f∈c6 h (m7 h)↔_;rw[lb];exact⟨λb=>b.2.2,λb=>⟨(xf h f b).1,(xf h f b).2,b⟩⟩
def Kq(d:∀f,f∈p↔f∈C):c6 h p=c6 h C:=by
 unfold c6;have e:∀b c,has p b c=has C b c:=λb c=>by unfold has;rw[m8,d1,d1];exact d _
 simp only[e]
def Kr{T:d6}(c:m5 h T)(d:Sub T (m7 h)):cz h=c6 h T:=
 Kq λb=>⟨xd c b,d b⟩
def tT(h:Expr):m5 h (cz h):=λb c=>by rw[rW];exact xc h b (tM (λe d=>rW.mp d) c)
def gb(h:Expr)(p:d6)(m:d7):List Abs:=(d8 h).filter (has p m)
def qp(h:Expr)(p:d6):c6 h p=(ch h).flatMap λm=>(gb h p m).map λe=>(⟨m,e⟩:dr):=by
 unfold c6 gb;congr 1;funext m;generalize d8 h=d;induction d with
 |nil=>rfl
 |cons e f c=>rw[hn,lc];by_cases b:has p m e=H;rw[as b,as b,bz,c];rw[ag b,ag b,c]
def Ks(p C:d6)(m:d7):ee (p++C) m=ee p m++ee C m:=by unfold ee;rw[tU,cS]
def Kt(n:List Abs)(m:d7):ee (n.map λe=>(⟨m,e⟩:dr)) m=n:=by
 unfold ee;induction n with
 |nil=>rfl
 |cons e c b=>rw[bz,lc,as (by simp),bz,b]
def Ku(n:List Abs){m ao:d7}(d:ao≠m):ee (n.map λe=>(⟨ao,e⟩:dr)) m=[]:=by
 unfold ee;induction n with
 |nil=>rfl
 |cons e c b=>rw[bz,lc,ag (by simpa using d),b]
theorem CJ(f:d7->List Abs)(m:d7):∀(aZ:List d7),aZ.Nodup->ee (aZ.flatMap λao=>(f ao).map λe=>(⟨ao,e⟩:dr)) m=if m∈aZ then f m else[]
 |[],_=>rfl
 |ao::g,i=>by have h:=e9.mp i;rw[ds,Ks,CJ f m g h.2];by_cases d:ao=m;subst d;rw[Kt,ag h.1,as b8,fT];rw[Ku _ d,g2];by_cases c:m∈g;rw[as c,as (cv _ c)];rw[ag c,ag (λb=>by obtain b|b:=bm.mp b;exact d b.symm;exact c b)]
def Kv(b:(ch h).Nodup)(p:d6)(m:d7):ee (c6 h p) m=if m∈ch h then gb h p m else[]:=by rw[qp,CJ _ _ _ b]
def CK(h:Expr)(p:d6):(c6 h p).length=((ch h).map λm=>(gb h p m).length).sum:=by
 rw[qp];generalize ch h=b;induction b with
 |nil=>rfl
 |cons m d c=>rw[ds,b4,aV,c,bz,l1]
theorem xg{q:Type}{f:a3->q}:∀{n:List a3},(n.map f).Nodup->∀{e b:a3},e∈n->b∈n->f e=f b->e=b
 |[],_,e,_,c,_,_=>nomatch c
 |i::r,l,e,b,c,m,d=>by rw[bz]at l;have g:=e9.mp l;obtain o|p:=bm.mp c;obtain h|k:=bm.mp m;exact o.trans h.symm;exact aq (by rw[<-o,d];exact i8 k) g.1;obtain h|k:=bm.mp m;exact aq (by rw[<-h,<-d];exact i8 p) g.1;exact xg g.2 p k d
def cY(h:Expr):Prop:=dO h=er (dO h).length
def cY.qq(d:cY h):(dO h).Nodup:=by rw[d];exact CL
def cY.inj{i D:Expr}(d:cY h)(b:i∈aO h)(c:D∈aO h)(e:aS i=aS D):i=D:=xg d.qq b c e
def cY.get(d:cY h){k:Nat}{i:Expr}(c:(aO h)[k]?=j i):aS i=k:=by
 have b:(dO h)[k]?=j (aS i):=by show((aO h).map aS)[k]?=_;rw[d2,c];rfl
 have e:k<(dO h).length:=(es.mp b).1;rw[d,List.getElem?_range e]at b;exact(dP b).symm
def cY.at_(d:cY h){i:Expr}(c:i∈aO h):(aO h)[aS i]?=j i:=by
 obtain⟨e,f,g⟩:=Kw.mp c;have b:(aO h)[e]?=j i:=by rw[gE f,g]
 rw[d.get b];exact b
theorem cY.nodeAt(d:cY h)(n:Nat):xh h n=(aO h)[n]?:=by
 unfold xh;cases f:(aO h)[n]? with
 |some b=>
  have c:b∈aO h:=ev f;have e:=d.get f;cases g:(aO h).find? λb=>aS b==n with
  |none=>have:=n6.mp g b c;exact aq (show(aS b==n)=H by rw[e];exact le n) this
  |some i=>have k:i∈aO h:=n7 g;have l:(aS i==n)=H:=CM (p:=λb=>aS b==n) g;rw[d.inj k c (by rw[e];exact eq_of_beq l)]
 |none=>apply n6.mpr;intro b c e;have:=d.at_ c;rw[(eq_of_beq e:aS b=n),f]at this;cases this
theorem rX{f:Type}(g:a3->List f)(r:f->Option Nat)(ck:a3->Nat)(c:∀i b,b∈g i->r b=j (ck i))(h:∀i,(g i).Nodup):∀{n:List a3},(n.map ck).Nodup->(n.flatMap g).Nodup
 |[],_=>rV
 |d::s,k=>by rw[bz]at k;have l:=e9.mp k;rw[ds,w9];refine⟨h d,rX g r ck c h l.2,λb o u e=>?_⟩;intro p;subst p;obtain⟨i,q,e⟩:=cR.mp e;have m:=c d b o;rw[c i b e]at m;exact l.1 ((dP m:ck i=ck d)▸i8 q)
def ek:d7->Nat
 | .node n=>n
 | .name n=>n
 | .first n=>n
 | .second n=>n
 | .inside n=>n
def n8{n v:List a3}(b:n.Nodup)(c:v.Nodup)(d:∀e,e∈n->e∉v):(n++v).Nodup:=by rw[w9];exact⟨b,c,λe f i g h=>d e f (h▸g)⟩
def cY.dg(d:cY h):(ch h).Nodup:=by
 have m:((aO h).map aS).Nodup:=d.qq;unfold ch;simp only;refine n8 ?_ (n8 ?_ (n8 ?_ ?_ ?_) ?_) ?_;refine rX _ (λg=>j (ek g)) _ (λb n k=>?_) (λb=>by simp) m;have:n=labelled b:=by simpa using k
 subst this;rfl;refine rX _ (λg=>j (ek g)) _ (λb n k=>?_) (λb=>by cases b<;>simp) m;cases b<;>simp at k<;>(subst k;rfl);refine rX _ (λg=>j (ek g)) _ (λb n k=>?_) (λb=>by cases b<;>simp) m;cases b<;>simp at k<;>(obtain rfl|rfl:=k<;>rfl);refine rX _ (λg=>j (ek g)) _ (λb n k=>?_) (λb=>by cases b<;>simp) m;cases b<;>simp at k<;>(subst k;rfl);intro g l c;obtain⟨b,_,f⟩:=cR.mp l;obtain⟨i,_,e⟩:=cR.mp c;cases b<;>simp at f;cases i<;>simp at e;subst e;obtain f|f:=f<;>cases f;intro g l c;obtain⟨b,_,f⟩:=cR.mp l;obtain c|c:=bE.mp c;obtain⟨i,_,e⟩:=cR.mp c;cases i<;>simp at e;cases b<;>simp at f<;>subst f<;>obtain e|e:=e<;>cases e;obtain⟨i,_,e⟩:=cR.mp c;cases i<;>simp at e;cases b<;>simp at f<;>subst f<;>cases e;intro g l c;obtain⟨b,_,f⟩:=cR.mp l;have f:g=labelled b:=by simpa using f
 subst f;obtain c|c:=bE.mp c;obtain⟨i,_,e⟩:=cR.mp c;cases i<;>simp[labelled]at e;obtain c|c:=bE.mp c;obtain⟨i,_,e⟩:=cR.mp c;cases i<;>simp[labelled]at e;obtain⟨i,_,e⟩:=cR.mp c;cases i<;>simp[labelled]at e
def CN:Abs->Option Nat
 | .num=>E
 | .fn n=>j n
 | .pair n=>j n
 | .ref n=>j n
def cY.i9(d:cY h):(d8 h).Nodup:=by
 have g:((aO h).map aS).Nodup:=d.qq;unfold d8;rw[e9];constructor;intro i;obtain⟨c,_,p⟩:=eV.mp i;cases c<;>simp at p;generalize aO h=b at g;induction b with
 |nil=>exact rV
 |cons c q r=>
  rw[bz]at g;have m:=e9.mp g;have ax:=r m.2;have k:∀(e:Abs) (f:Nat),CN e=j f->f=aS c->e∉q.filterMap λc=>match c with
    | .fn b _ _=>j (Abs.fn b)
    | .pair b _ _=>j (Abs.pair b)
    | .new b _=>j (Abs.ref b)
    |_=>E:=by
   intro e f n s i;obtain⟨l,u,o⟩:=eV.mp i;have v:aS l=f:=by cases l<;>simp at o<;>(subst o;simp only[CN,Kx]at n;exact n)
   exact m.1 (by rw[<-s,<-v];exact i8 u)
  rw[hn];cases c with
  |fn b l w=>exact e9.mpr ⟨k (.fn b) b a a,ax⟩
  |pair b e w=>exact e9.mpr ⟨k (.pair b) b a a,ax⟩
  |new b e=>exact e9.mpr ⟨k (.ref b) b a a,ax⟩
  |_=>exact ax
end Y
namespace Y
open Vacfaa
def tV(b:UInt8):Prop:=¬(b=40\/b=41)/\b≠32
def n9(s:el):Prop:=s=[]\/∃b c,s=b::c/\(b=40\/b=41\/b=32)
def Ky{w s:el}(hw:w≠[])(d:n9 s):fk w s=w::fk [] s:=by
 have b:w.isEmpty=am:=by cases w with
  |nil=>exact aq a hw
  |cons e f=>rfl
 obtain rfl|⟨g,h,rfl,c⟩:=d;rw[fk,ag (by rw[b];decide)];rfl;rw[fk,fk];obtain rfl|rfl|rfl:=c<;>simp[b]
theorem tW:∀{i w s:el},(∀b∈i,tV b)->w++i≠[]->n9 s->fk w (i++s)=(w++i)::fk [] s
 |[],w,s,_,d,c=>by rw[fT]at d|-;exact Ky d c
 |b::i,w,s,e,_,c=>by have f:=e b b8;rw[hJ,fk,ag f.1,ag f.2,tW (λg h=>e g (cv _ h)) (by simp) c];simp
def lf(s:el):fk [] (40::s)=[40]::fk [] s:=by rw[fk];simp
def lg(s:el):fk [] (41::s)=[41]::fk [] s:=by rw[fk];simp
def ho(s:el):fk [] (32::s)=fk [] s:=by rw[fk];simp
def lh(s:el):n9 (41::s):=.inr ⟨41,s,a,.inr (.inl a)⟩
def hp(s:el):n9 (32::s):=.inr ⟨32,s,a,.inr (.inr a)⟩
def tX{b:UInt8}(d:li b=H):tV b:=by unfold li at d;simp only[dQ,l2]at d;have c:=d.1;refine⟨?_,?_⟩;rintro(rfl|rfl)<;>exact aq c nofun;rintro rfl;exact aq c nofun
def CO{b:UInt8}(d:g3 b=H):tV b:=by unfold g3 at d;simp only[dQ,l2]at d;have c:=d.1;refine⟨?_,?_⟩;rintro(rfl|rfl)<;>exact aq c nofun;rintro rfl;exact aq c nofun
def xi{b:UInt8}(d:li b=H):g3 b=am:=by unfold li at d;unfold g3;simp only[dQ,l2]at d;simp only[Bool.and_eq_false_iff,decide_eq_false_iff_not];right;intro c;exact aq (UInt8.le_trans d.1 c) nofun
structure m9 (i:el):Prop where
 eJ:i≠[]
 len:i.length<=CP
 o5:∀b∈i,li b=H
 free:i∉n_
variable{i:el}
def l3:rY i=H↔m9 i:=by
 unfold rY;simp only[dQ,Bool.not_eq_true',l2,l4];constructor;rintro⟨c,d,e,b⟩;refine⟨λf=>by subst f;simp at c,d,e,λg=>?_⟩;rw[d1.mpr g]at b;cases b;rintro⟨c,d,e,b⟩;refine⟨by cases i with|nil=>exact aq a c|cons h k=>rfl,d,e,?_⟩;cases f:n_.contains i with
 |false=>rfl
 |true=>exact aq (d1.mp f) b
def CQ(d:m9 i):i_ i=E:=by
 unfold i_;rw[ag];rintro⟨_,b,_⟩;cases i with
 |nil=>exact d.eJ a
 |cons c e=>rw[tY,(xi (d.o5 c b8))]at b;cases b
def xj:∀o:Fin 100,i_ (decimal o.val)=j o.val/\(decimal o.val).all g3=H/\decimal o.val≠[]:=∅
variable{o:Nat}
def tZ(d:o<=99):i_ (decimal o)=j o:=(xj ⟨o,by omega⟩).1
def lj(d:o<=99):∀b∈decimal o,g3 b=H:=l4.mp (xj ⟨o,by omega⟩).2.1
def qr(d:o<=99):decimal o≠[]:=(xj ⟨o,by omega⟩).2.2
def wf:dT->Prop
 | .num _ o=>o<=99
 | .var _ i=>m9 i
 | .fn _ i c=>m9 i/\wf c
 | .app _ e d=>wf e/\wf d
 | .letE _ i b c=>m9 i/\wf b/\wf c
 | .ifz _ f g b=>wf f/\wf g/\wf b
 | .pair _ d c=>wf d/\wf c
 | .fst _ b=>wf b
 | .snd _ b=>wf b
 | .new _ b=>wf b
 | .get _ b=>wf b
 | .set _ h b=>wf h/\wf b
 | .add _ d c=>wf d/\wf c
def xk:∀{h:dT} {l:List kr},et l h=H->wf h:=by
 intro h;induction h with
 |num c m=>intro l b;exact(iF (p:=m<=99) b:m<=99)
 |var c n=>intro l b;simp only[et,dQ]at b;exact l3.mp b.1
 |fn c n g f=>intro l b;simp only[et,dQ]at b;exact⟨l3.mp b.1,f b.2.2⟩
 |letE c n i g d e=>intro l b;simp only[et,dQ]at b;exact⟨l3.mp b.1,d b.2.2.1,e b.2.2.2⟩
 |app c k g d e=>intro l b;simp only[et,dQ]at b;exact⟨d b.1,e b.2⟩
 |pair c k g d e=>intro l b;simp only[et,dQ]at b;exact⟨d b.1,e b.2⟩
 |set c k g d e=>intro l b;simp only[et,dQ]at b;exact⟨d b.1,e b.2⟩
 |add c k g d e=>intro l b;simp only[et,dQ]at b;exact⟨d b.1,e b.2⟩
 |ifz c k g q d e o=>intro l b;simp only[et,dQ]at b;exact⟨d b.1,e b.2.1,o b.2.2⟩
 |fst c i f=>intro l b;exact f (l:=l) b
 |snd c i f=>intro l b;exact f (l:=l) b
 |new c i f=>intro l b;exact f (l:=l) b
 |get c i f=>intro l b;exact f (l:=l) b
noncomputable def toks:dT->List el
 | .num _ o=>[decimal o]
 | .var _ i=>[i]
 | .fn _ i c=>[40]::ascii "fun"::i::(toks c++[[41]])
 | .app _ e d=>[40]::(toks e++(toks d++[[41]]))
 | .letE _ i b c=>[40]::ascii "let"::i::(toks b++(toks c++[[41]]))
 | .ifz _ f g b=>[40]::ascii "if"::(toks f++(toks g++(toks b++[[41]])))
 | .pair _ d c=>[40]::ascii "pair"::(toks d++(toks c++[[41]]))
 | .fst _ b=>[40]::ascii "fst"::(toks b++[[41]])
 | .snd _ b=>[40]::ascii "snd"::(toks b++[[41]])
 | .new _ b=>[40]::ascii "new"::(toks b++[[41]])
 | .get _ b=>[40]::ascii "get"::(toks b++[[41]])
 | .set _ d c=>[40]::ascii "set"::(toks d++(toks c++[[41]]))
 | .add _ d c=>[40]::ascii "add"::(toks d++(toks c++[[41]]))
def xl{s:el}(d:m9 i)(b:n9 s):fk [] (i++s)=i::fk [] s:=by have:=tW (i:=i) (w:=[]) (s:=s) (λc e=>tX (d.o5 c e)) (by simpa using d.eJ) b;simpa using this
def Kz{s:el}(d:∀b∈i,li b=H)(c:i≠[])(e:n9 s):fk [] (i++s)=i::fk [] s:=by have:=tW (i:=i) (w:=[]) (s:=s) (λb f=>tX (d b f)) (by simpa using c) e;simpa using this
def o6:∀i∈n_,(∀b∈i,li b=H)/\i≠[]:=∅
def l5{s:el}(d:i∈n_)(b:n9 s):fk [] (i++s)=i::fk [] s:=Kz (o6 i d).1 (o6 i d).2 b
def qs(e b:el)(s:el):rZ [e,b]++s=40::(e++32::(b++41::s)):=by simp[rZ,spaced,jZ]
def r0(e b y:el)(s:el):rZ [e,b,y]++s=40::(e++32::(b++32::(y++41::s))):=by simp[rZ,spaced,jZ]
def xm(e b y aa:el)(s:el):rZ [e,b,y,aa]++s=40::(e++32::(b++32::(y++32::(aa++41::s)))):=by simp[rZ,spaced,jZ]
def KA:∀{h:dT} {s:el},wf h->n9 s->fk [] (jG h++s)=toks h++fk [] s:=by
 intro h;induction h with
 |num d n=>intro s b c;have:=tW (i:=decimal n) (w:=[]) (s:=s) (λk o=>CO (lj b k o)) (by simpa using qr b) c;simpa[jG,toks]using this
 |var d i=>intro s b c;exact xl b c
 |fn d i k g=>intro s b c;rw[jG,r0,lf,l5 nofun (hp _),ho,xl b.1 (hp _),ho,g b.2 (lh _),lg,toks];simp
 |app d l k e f=>intro s b c;rw[jG,qs,lf,e b.1 (hp _),ho,f b.2 (lh _),lg,toks];simp
 |letE d i m k e f=>intro s b c;rw[jG,xm,lf,l5 nofun (hp _),ho,xl b.1 (hp _),ho,e b.2.1 (hp _),ho,f b.2.2 (lh _),lg,toks];simp
 |ifz d l k q e f p=>intro s b c;rw[jG,xm,lf,l5 nofun (hp _),ho,e b.1 (hp _),ho,f b.2.1 (hp _),ho,p b.2.2 (lh _),lg,toks];simp
 |pair d l k e f=>intro s b c;rw[jG,r0,lf,l5 nofun (hp _),ho,e b.1 (hp _),ho,f b.2 (lh _),lg,toks];simp
 |set d l k e f=>intro s b c;rw[jG,r0,lf,l5 nofun (hp _),ho,e b.1 (hp _),ho,f b.2 (lh _),lg,toks];simp
 |add d l k e f=>intro s b c;rw[jG,r0,lf,l5 nofun (hp _),ho,e b.1 (hp _),ho,f b.2 (lh _),lg,toks];simp
 |fst d m g=>intro s b c;rw[jG,qs,lf,l5 nofun (hp _),ho,g b (lh _),lg,toks];simp
 |snd d m g=>intro s b c;rw[jG,qs,lf,l5 nofun (hp _),ho,g b (lh _),lg,toks];simp
 |new d m g=>intro s b c;rw[jG,qs,lf,l5 nofun (hp _),ho,g b (lh _),lg,toks];simp
 |get d m g=>intro s b c;rw[jG,qs,lf,l5 nofun (hp _),ho,g b (lh _),lg,toks];simp
def cZ(o:Nat)(h:dT):Prop:=dO h=h8 o (dO h).length
def size(h:dT):Nat:=(dO h).length
def xn{n v:List Nat}(d:n++v=h8 o (n++v).length):n=h8 o n.length/\v=h8 (o+n.length) v.length:=by rw[b4,<-List.range'_append_1]at d;exact List.append_inj d (by simp)
def r1{n:Nat}{v:List Nat}(d:n::v=h8 o (n::v).length):n=o/\v=h8 (o+1) v.length:=by rw[cy,r2]at d;exact⟨(m_ d).1,(m_ d).2⟩
def cZ.i'{n:Nat}{h aa:dT}(c:aO h=h::aO aa)(e:aS h=n)(d:cZ o h):n=o/\cZ (o+1) aa/\size h=size aa+1:=by
 have b:dO h=n::dO aa:=by unfold dO;rw[c,bz,e]
 have f:n::dO aa=h8 o (n::dO aa).length:=by rw[<-b];exact d
 obtain⟨g,i⟩:=r1 f;exact⟨g,i,by delta size;rw[b];rfl⟩
def cZ.ll{n:Nat}{h e b:dT}(f:aO h=h::(aO e++aO b))(g:aS h=n)(d:cZ o h):n=o/\cZ (o+1) e/\cZ (o+1+size e) b/\size h=size e+size b+1:=by
 have c:dO h=n::(dO e++dO b):=by unfold dO;rw[f,bz,g,cS]
 have i:n::(dO e++dO b)=h8 o (n::(dO e++dO b)).length:=by rw[<-c];exact d
 obtain⟨k,l⟩:=r1 i;obtain⟨m,p⟩:=xn l;exact⟨k,m,p,by delta size;rw[c,cy,b4]⟩
def cZ.CR{n:Nat}{h e b y:dT}(f:aO h=h::(aO e++(aO b++aO y)))(g:aS h=n)(d:cZ o h):
  n=o/\cZ (o+1) e/\cZ (o+1+size e) b/\cZ (o+1+size e+size b) y/\size h=size e+size b+size y+1:=by
 have c:dO h=n::(dO e++(dO b++dO y)):=by unfold dO;rw[f,bz,g,cS,cS]
 have i:n::(dO e++(dO b++dO y))=h8 o (n::(dO e++(dO b++dO y))).length:=by rw[<-c];exact d
 obtain⟨k,l⟩:=r1 i;obtain⟨m,p⟩:=xn l;obtain⟨q,r⟩:=xn p;exact⟨k,m,q,r,by delta size;rw[c,cy,b4,b4];omega⟩
def KC:∀h:dT,fe h+1<=(toks h).length:=by intro h;induction h<;>simp only[fe,toks,cy,b4,t0]<;>omega
def KD:∀{h:dT},wf h->∃w ao,toks h=w::ao/\w∉n_/\w≠[41]:=by
 intro h c;have e:([40]:el)∉n_/\([40]:el)≠[41]:=∅;cases h with
 |num i f=>
  refine⟨_,_,a,λb=>?_,λb=>?_⟩;obtain⟨k,l⟩:=o6 _ b;cases ao:decimal f with
  |nil=>exact l ao
  |cons d m=>
   have g:d∈decimal f:=by rw[ao];exact b8
   have:=xi (k d g);rw[lj c d g]at this;cases this
  have:=lj c 41 (by rw[b];exact b8);exact aq this nofun
 |var i n=>exact⟨_,_,a,c.free,λb=>aq (c.o5 41 (by rw[b];exact b8)) nofun⟩
 |_=>exact⟨_,_,a,e.1,e.2⟩
section
variable(f o:Nat)(m:List el)
def KE(i:el):read (f+1) o ([40]::ascii "fun"::i::m)=(read f (o+1) m).bind λe=>gF e (.fn o i e.expr):=by rw[Vacfaa.read.eq_def];rfl
def KG(i:el):read (f+1) o ([40]::ascii "let"::i::m)=(read f (o+1) m).bind λe=>(read f e.next e.rest).bind λb=>gF b (.letE o i e.expr b.expr):=by rw[Vacfaa.read.eq_def];rfl
def KH:read (f+1) o ([40]::ascii "if"::m)=(read f (o+1) m).bind λe=>(read f e.next e.rest).bind λb=>(read f b.next b.rest).bind λy=>gF y (.ifz o e.expr b.expr y.expr):=by rw[Vacfaa.read.eq_def];rfl
def KI:read (f+1) o ([40]::ascii "pair"::m)=(read f (o+1) m).bind λe=>(read f e.next e.rest).bind λb=>gF b (.pair o e.expr b.expr):=by rw[Vacfaa.read.eq_def];rfl
def KJ:read (f+1) o ([40]::ascii "set"::m)=(read f (o+1) m).bind λe=>(read f e.next e.rest).bind λb=>gF b (.set o e.expr b.expr):=by rw[Vacfaa.read.eq_def];rfl
def KL:read (f+1) o ([40]::ascii "add"::m)=(read f (o+1) m).bind λe=>(read f e.next e.rest).bind λb=>gF b (.add o e.expr b.expr):=by rw[Vacfaa.read.eq_def];rfl
def KN:read (f+1) o ([40]::ascii "fst"::m)=(read f (o+1) m).bind λe=>gF e (.fst o e.expr):=by rw[Vacfaa.read.eq_def];rfl
def KO:read (f+1) o ([40]::ascii "snd"::m)=(read f (o+1) m).bind λe=>gF e (.snd o e.expr):=by rw[Vacfaa.read.eq_def];rfl
def KP:read (f+1) o ([40]::ascii "new"::m)=(read f (o+1) m).bind λe=>gF e (.new o e.expr):=by rw[Vacfaa.read.eq_def];rfl
def KQ:read (f+1) o ([40]::ascii "get"::m)=(read f (o+1) m).bind λe=>gF e (.get o e.expr):=by rw[Vacfaa.read.eq_def];rfl
end
def KR(f o:Nat)(w:el)(ao:List el)(d:w∉n_):read (f+1) o ([40]::w::ao)=(read f (o+1) (w::ao)).bind λe=>(read f e.next e.rest).bind λb=>gF b (.app o e.expr b.expr):=by have c:∀g∈n_,w≠g:=λg h i=>d (i▸h);rw[Vacfaa.read.eq_def];simp only[ag (show¬(([40]:el)=[41])by decide),ag (show¬(([40]:el)≠[40])by simp)];rw[ag (c _ nofun),ag (c _ nofun),ag (c _ nofun),ag (c _ nofun),ag (c _ nofun),ag (c _ nofun),ag (c _ nofun),ag (c _ nofun),ag (c _ nofun),ag (c _ nofun)]
theorem CS(f o:Nat)(p:el)(s:List el)(b:p≠[41])(c:p≠[40]):read (f+1) o (p::s)=match i_ p with
  |some d=>j ⟨.num o d,o+1,s⟩
  |none=>j ⟨.var o p,o+1,s⟩:=by
 rw[Vacfaa.read.eq_def];simp only[ag b,as c];rfl
def KS:∀{h:dT} {f o:Nat} {s:List el},wf h->cZ o h->fe h<f->read f o (toks h++s)=j ⟨h,o+size h,s⟩:=by
 intro h;induction h with
 |num n F=>
  intro f o s g i d;obtain⟨c,rfl⟩:∃c,f=c+1:=⟨f-1,by simp only[fe]at d;omega⟩;have w:n=o:=(r1 (v:=[]) i).1;subst w;have u:∀y,g3 y=am->decimal F≠[y]:=λy x z=>by have:=lj g y (by rw[z];exact b8);rw[x]at this;cases this
  rw[toks,t1,CS _ _ _ _ (u _ nofun) (u _ nofun),tZ g];rfl
 |var n A=>
  intro f o s g i d;obtain⟨c,rfl⟩:∃c,f=c+1:=⟨f-1,by simp only[fe]at d;omega⟩;have w:n=o:=(r1 (v:=[]) i).1;subst w;have u:∀y,li y=am->A≠[y]:=λy x z=>by have:=g.o5 y (by rw[z];exact b8);rw[x]at this;cases this
  rw[toks,t1,CS _ _ _ _ (u _ nofun) (u _ nofun),CQ g];rfl
 |fn n A b r=>intro f o s g i d;obtain⟨c,rfl⟩:∃c,f=c+1:=⟨f-1,by simp only[fe]at d;omega⟩;simp only[fe]at d;obtain⟨rfl,k,l⟩:=cZ.i' (n:=n) (aa:=b) a a i;simp only[toks,hJ,eW,g2];rw[KE,r g.2 k (by omega)];simp[gF,l];omega
 |letE n A aa b m p=>intro f o s g i d;obtain⟨c,rfl⟩:∃c,f=c+1:=⟨f-1,by simp only[fe]at d;omega⟩;simp only[fe]at d;obtain⟨rfl,k,q,l⟩:=cZ.ll (n:=n) (e:=aa) (b:=b) a a i;simp only[toks,hJ,eW,g2];rw[KG,m g.2.1 k (by omega),d3];simp only;rw[p g.2.2 q (by omega)];simp[gF,l];omega
 |app n e b m p=>
  intro f o s g i d;obtain⟨c,rfl⟩:∃c,f=c+1:=⟨f-1,by simp only[fe]at d;omega⟩;simp only[fe]at d;obtain⟨rfl,k,q,l⟩:=cZ.ll (n:=n) (e:=e) (b:=b) a a i;obtain⟨B,C,D,hw,_⟩:=KD g.1;have G:toks (.app n e b)++s=[40]::B::(C++(toks b++([41]::s))):=by simp only[toks,D,hJ,eW,g2]
  have I:B::(C++(toks b++([41]::s)))=toks e++(toks b++([41]::s)):=by rw[D];rfl
  rw[G,KR _ _ _ _ hw,I,m g.1 k (by omega),d3];simp only;rw[p g.2 q (by omega)];simp[gF,l];omega
 |pair n e b m p=>intro f o s g i d;obtain⟨c,rfl⟩:∃c,f=c+1:=⟨f-1,by simp only[fe]at d;omega⟩;simp only[fe]at d;obtain⟨rfl,k,q,l⟩:=cZ.ll (n:=n) (e:=e) (b:=b) a a i;simp only[toks,hJ,eW,g2];rw[KI,m g.1 k (by omega),d3];simp only;rw[p g.2 q (by omega)];simp[gF,l];omega
 |set n e b m p=>intro f o s g i d;obtain⟨c,rfl⟩:∃c,f=c+1:=⟨f-1,by simp only[fe]at d;omega⟩;simp only[fe]at d;obtain⟨rfl,k,q,l⟩:=cZ.ll (n:=n) (e:=e) (b:=b) a a i;simp only[toks,hJ,eW,g2];rw[KJ,m g.1 k (by omega),d3];simp only;rw[p g.2 q (by omega)];simp[gF,l];omega
 |add n e b m p=>intro f o s g i d;obtain⟨c,rfl⟩:∃c,f=c+1:=⟨f-1,by simp only[fe]at d;omega⟩;simp only[fe]at d;obtain⟨rfl,k,q,l⟩:=cZ.ll (n:=n) (e:=e) (b:=b) a a i;simp only[toks,hJ,eW,g2];rw[KL,m g.1 k (by omega),d3];simp only;rw[p g.2 q (by omega)];simp[gF,l];omega
 |ifz n e b y m p J=>intro f o s g i d;obtain⟨c,rfl⟩:∃c,f=c+1:=⟨f-1,by simp only[fe]at d;omega⟩;simp only[fe]at d;obtain⟨rfl,k,q,K,l⟩:=cZ.CR (n:=n) (e:=e) (b:=b) (y:=y) a a i;simp only[toks,hJ,eW,g2];rw[KH,m g.1 k (by omega),d3];simp only;rw[p g.2.1 q (by omega),d3];simp only;rw[J g.2.2 K (by omega)];simp[gF,l];omega
 |fst n aa r=>intro f o s g i d;obtain⟨c,rfl⟩:∃c,f=c+1:=⟨f-1,by simp only[fe]at d;omega⟩;simp only[fe]at d;obtain⟨rfl,k,l⟩:=cZ.i' (n:=n) (aa:=aa) a a i;simp only[toks,hJ,eW,g2];rw[KN,r g k (by omega)];simp[gF,l];omega
 |snd n aa r=>intro f o s g i d;obtain⟨c,rfl⟩:∃c,f=c+1:=⟨f-1,by simp only[fe]at d;omega⟩;simp only[fe]at d;obtain⟨rfl,k,l⟩:=cZ.i' (n:=n) (aa:=aa) a a i;simp only[toks,hJ,eW,g2];rw[KO,r g k (by omega)];simp[gF,l];omega
 |new n aa r=>intro f o s g i d;obtain⟨c,rfl⟩:∃c,f=c+1:=⟨f-1,by simp only[fe]at d;omega⟩;simp only[fe]at d;obtain⟨rfl,k,l⟩:=cZ.i' (n:=n) (aa:=aa) a a i;simp only[toks,hJ,eW,g2];rw[KP,r g k (by omega)];simp[gF,l];omega
 |get n aa r=>intro f o s g i d;obtain⟨c,rfl⟩:∃c,f=c+1:=⟨f-1,by simp only[fe]at d;omega⟩;simp only[fe]at d;obtain⟨rfl,k,l⟩:=cZ.i' (n:=n) (aa:=aa) a a i;simp only[toks,hJ,eW,g2];rw[KQ,r g k (by omega)];simp[gF,l];omega
structure iG (h:dT):Prop where
 qt:et [d9] h=H
 ck:cY h
 eX:(dO h).length<=NODES
 KU:fe h<=DEEP
def xo{h:dT}:isProgram h=H↔iG h:=by unfold isProgram;simp only[dQ,fz,l2];exact⟨λ⟨b,c,d,e⟩=>⟨b,c,d,e⟩,λ⟨b,c,d,e⟩=>⟨b,c,d,e⟩⟩
def t2{p:el}{h:dT}:m' p=j h↔iG h/\jG h=p:=by
 constructor;intro b;unfold m' at b;simp only[CT]at b;obtain⟨k,l,b⟩:=b;split at b;rename_i c;simp only[dQ,fz]at c;cases b;exact⟨xo.mp c.2.1,c.2.2⟩;cases b;rintro⟨d,rfl⟩;have hw:=xk d.qt;have g:fk [] (jG h)=toks h:=by have:=KA (h:=h) (s:=[]) hw (.inl a);rw[fT]at this;rw[this];simp[fk]
 unfold m';simp only[g];have i:cZ 0 h:=by delta cZ;rw[<-KV];exact d.ck
 have e:=KS (f:=(toks h).length+1) (s:=[]) hw i (by have:=KC h;omega);rw[fT]at e;rw[e,d3,as];simp only[dQ,fz];simp[xo.mpr d]
end Y
namespace Y
open Vacfaa (Expr Abs Arrow Text)
open Vacfab
def CU{v o:Nat}(c:v<=99)(e:o<=99)(d:gG v=gG o):v=o:=by have b:=tZ c;rw[d,tZ e]at b;exact(dP b).symm
def n'(p:Text):Prop:=∀b∈p,b≠32/\b≠10
def KW{b:UInt8}(d:g3 b=H):b≠32/\b≠10:=by unfold g3 at d;simp only[dQ,l2]at d;refine⟨?_,?_⟩<;>rintro rfl<;>exact aq d.1 nofun
variable{y:UInt8}
def n'.j0{o:Nat}(d:o<=99)(c:y≠32/\y≠10):n' (y::gG o):=by intro e b;obtain rfl|b:=bm.mp b;exact c;exact KW (lj d e b)
def CV(m:d7):∃y:UInt8,eC m=y::gG (ek m)/\y≠32/\y≠10:=by
 cases m with
 |node b=>exact⟨110,a,nofun,nofun⟩
 |name b=>exact⟨120,a,nofun,nofun⟩
 |first b=>exact⟨97,a,nofun,nofun⟩
 |second b=>exact⟨98,a,nofun,nofun⟩
 |inside b=>exact⟨99,a,nofun,nofun⟩
variable{m:d7}
def xp(d:ek m<=99):n' (eC m):=by obtain⟨f,b,c,e⟩:=CV m;rw[b];exact n'.j0 d ⟨c,e⟩
def t3{ao:d7}(b:ek m<=99)(c:ek ao<=99)(d:eC m=eC ao):m=ao:=by
 have e:∀(h i:UInt8) (f g:Nat),f<=99->g<=99->h::gG f=i::gG g->h=i/\f=g:=λh i f g k l d=>⟨(m_ d).1,CU k l (m_ d).2⟩
 cases m<;>cases ao<;>first
  |exact dZ ef (e _ _ _ _ b c d).2
  |exact dZ h7 (e _ _ _ _ b c d).2
  |exact dZ k' (e _ _ _ _ b c d).2
  |exact dZ tO (e _ _ _ _ b c d).2
  |exact dZ la (e _ _ _ _ b c d).2
  |(have:=(e _ _ _ _ b c d).1;exact aq this nofun)
def l6:Abs->Nat
 | .num=>0
 | .fn b=>b
 | .pair b=>b
 | .ref b=>b
variable{e:Abs}
def xq(d:l6 e<=99):n' (eK e):=by
 cases e with
 |num=>intro c f;revert c f;decide
 |fn b=>exact n'.j0 d (y:=102) nofun
 |pair b=>exact n'.j0 d (y:=112) nofun
 |ref b=>exact n'.j0 d (y:=114) nofun
def qu{n:Nat}(d:n<=99):([110,117,109]:Text)≠y::gG n:=by intro b;have:=lj d 117 (by rw[<-((m_ b).2)];simp);exact aq this nofun
def t4{b:Abs}(c:l6 e<=99)(f:l6 b<=99)(d:eK e=eK b):e=b:=by
 have h:∀(y m:UInt8) (k l:Nat),k<=99->l<=99->y::gG k=m::gG l->y=m/\k=l:=λy m k l o p d=>⟨(m_ d).1,CU o p (m_ d).2⟩
 have i:eK .num=[110,117,109]:=nofun;cases e with
 |num=>cases b with
  |num=>rfl
  |fn g=>rw[i]at d;exact aq d (qu (y:=102) f)
  |pair g=>rw[i]at d;exact aq d (qu (y:=112) f)
  |ref g=>rw[i]at d;exact aq d (qu (y:=114) f)
 |fn n=>cases b with
  |num=>rw[i]at d;exact aq d.symm (qu (y:=102) c)
  |fn g=>have:=h 102 102 _ _ c f d;exact dZ Abs.fn this.2
  |pair g=>have:=(h 102 112 _ _ c f d).1;exact aq this nofun
  |ref g=>have:=(h 102 114 _ _ c f d).1;exact aq this nofun
 |pair n=>cases b with
  |num=>rw[i]at d;exact aq d.symm (qu (y:=112) c)
  |fn g=>have:=(h 112 102 _ _ c f d).1;exact aq this nofun
  |pair g=>have:=h 112 112 _ _ c f d;exact dZ Abs.pair this.2
  |ref g=>have:=(h 112 114 _ _ c f d).1;exact aq this nofun
 |ref n=>cases b with
  |num=>rw[i]at d;exact aq d.symm (qu (y:=114) c)
  |fn g=>have:=(h 114 102 _ _ c f d).1;exact aq this nofun
  |pair g=>have:=(h 114 112 _ _ c f d).1;exact aq this nofun
  |ref g=>have:=h 114 114 _ _ c f d;exact dZ Abs.ref this.2
theorem CW:∀{p:Text},(∀b∈p,b≠y)->l7 y p=[p]
 |[],_=>rfl
 |b::f,c=>by rw[l7,ag (c b b8),CW λd e=>c d (cv _ e)]
theorem xr:∀{p s:Text},(∀b∈p,b≠y)->l7 y (p++y::s)=p::l7 y s
 |[],s,_=>by rw[g2,l7,as a]
 |b::p,s,c=>by rw[hJ,l7,ag (c b b8),xr λd e=>c d (cv _ e)]
theorem CX:∀{n:List Text},n≠[]->(∀p∈n,∀b∈p,b≠32)->l7 32 (fA n)=n
 |[],c,_=>aq a c
 |[p],_,c=>CW (c p b8)
 |p::d::e,_,c=>by show l7 32 (p++([32]++fA (d::e)))=_;rw[t1,xr (c p b8),CX (by simp) λf g=>c f (cv _ g)]
theorem CY:∀{n:List Text},(∀p∈n,∀b∈p,b≠10)->∀b∈fA n,b≠10
 |[],_,b,c=>nomatch c
 |[p],d,b,c=>d p b8 b c
 |p::e::f,d,b,c=>by have c:b∈p++([32]++fA (e::f)):=c;rw[t1]at c;obtain c|c:=bE.mp c;exact d p b8 b c;obtain rfl|c:=bm.mp c;decide;exact CY (λg h=>d g (cv _ h)) b c
def ks(h:Expr):Prop:=∀b∈aO h,aS b<=99
variable{h:Expr}
def iG.low(d:iG h):ks h:=by
 intro b c;have e:aS b<(aO h).length:=(es.mp (d.ck.at_ c)).1;have f:(aO h).length<=30:=by have:=d.eX;unfold dO at this;rw[aV]at this;exact this
 omega
def ks.place(d:ks h)(b:m∈ch h):ek m<=99:=by
 unfold ch at b;simp only[bE,cR]at b;obtain⟨c,e,b⟩|⟨c,e,b⟩|⟨c,e,b⟩|⟨c,e,b⟩:=b;have:m=labelled c:=by simpa using b
 subst this;exact d c e;have:=d c e;cases c<;>simp at b<;>(subst b;exact this);have:=d c e;cases c<;>simp at b;obtain rfl|rfl:=b<;>exact this;have:=d c e;cases c<;>simp at b;subst b;exact this
def ks.t5(d:ks h)(c:e∈d8 h):l6 e<=99:=by
 cases e with
 |num=>exact dC _
 |fn f=>obtain⟨g,i,b⟩:=rU.mp c;exact d _ b
 |pair f=>obtain⟨g,i,b⟩:=tP.mp c;exact d _ b
 |ref f=>obtain⟨g,b⟩:=tQ.mp c;exact d _ b
def iH(m:d7)(n:List Abs):Text:=fA (eC m::n.map eK)
def na(h:Expr)(p:d6)(m:d7):Text:=if(gb h p m).isEmpty=H then[]else iH m (gb h p m)++[10]
def t6(h:Expr)(p:d6):nb h p=(ch h).flatMap (na h p):=rfl
def CZ{p C:d6}(d:∀e∈d8 h,(⟨m,e⟩:dr)∈p↔(⟨m,e⟩:dr)∈C):gb h p m=gb h C m:=by delta gb;apply KX;intro e b;unfold has;rw[m8,d1,d1];exact d e b
def C0{p C:d6}(d:∀f:dr,f.place∈ch h->f.abs∈d8 h->(f∈p↔f∈C)):nb h p=nb h C:=by
 rw[t6,t6];have:∀(c:List d7),(∀b∈c,b∈ch h)->c.flatMap (na h p)=c.flatMap (na h C):=by
  intro c;induction c with
  |nil=>intro _;rfl
  |cons b n g=>intro e;rw[ds,ds,g λi k=>e i (cv _ k)];delta na;rw[(CZ λl m=>d ⟨b,l⟩ (e b b8) m:gb h p b=gb h C b)]
 exact this _ λ_ d=>d
def KY(c:ks h)(d:m∈ch h):(ch h).find? (λao=>eC ao==eC m)=j m:=by
 cases b:(ch h).find? (λao=>eC ao==eC m)with
 |none=>have:=n6.mp b m d;exact aq (le _) this
 |some ao=>have e:=n7 b;have f:(eC ao==eC m)=H:=CM (p:=λao=>eC ao==eC m) b;rw[t3 (c.place e) (c.place d) (eq_of_beq f)]
def KZ(d:ks h)(f:e∈d8 h):(d8 h).find? (λb=>eK b==eK e)=j e:=by
 cases c:(d8 h).find? (λb=>eK b==eK e)with
 |none=>have:=n6.mp c e f;exact aq (le _) this
 |some b=>have g:=n7 c;have i:(eK b==eK e)=H:=CM (p:=λb=>eK b==eK e) c;rw[t4 (d.t5 g) (d.t5 f) (eq_of_beq i)]
def K0(b:ks h)(i:m∈ch h){n:List Abs}(d:∀e∈n,e∈d8 h):qv h (iH m n)=n.map λe=>(⟨m,e⟩:dr):=by
 unfold qv iH;rw[CX (by simp) (λo g c f=>?_)];simp only[KY b i];induction n with
 |nil=>rfl
 |cons e p k=>rw[bz,hn,KZ b (d e b8),bz];simp only[r3];rw[k λc f=>d c (cv _ f)]
 obtain rfl|g:=bm.mp g;exact(xp (b.place i) c f).1;obtain⟨e,l,rfl⟩:=cx.mp g;exact(xq (b.t5 (d e l)) c f).1
def K1(f:ks h)(i:m∈ch h){n:List Abs}(d:∀e∈n,e∈d8 h):∀b∈iH m n,b≠10:=by refine CY λl c b g=>?_;obtain rfl|c:=bm.mp c;exact(xp (f.place i) b g).2;obtain⟨e,k,rfl⟩:=cx.mp c;exact(xq (f.t5 (d e k)) b g).2
def K2:qv h []=[]:=by
 unfold qv;simp only[l7];cases c:(ch h).find? (λb=>eC b==([]:Text))with
 |none=>rfl
 |some b=>simp
theorem C1(c:ks h)(p:d6):∀(aZ:List d7),(∀m∈aZ,m∈ch h)->(l7 10 (aZ.flatMap (na h p))).flatMap (qv h)=aZ.flatMap λm=>(gb h p m).map λe=>(⟨m,e⟩:dr)
 |[],_=>by show[[]].flatMap (qv h)=[];rw[ds,K2];rfl
 |m::i,d=>by
  have f:=C1 c p i λb k=>d b (cv _ k);rw[ds,ds];by_cases b:(gb h p m).isEmpty=H;have l:gb h p m=[]:=xs.mp b;delta na;rw[as b,l,xt,g2,g2];exact f;have g:∀e∈gb h p m,e∈d8 h:=λe n=>(eI.mp n).1;have o:na h p m=iH m (gb h p m)++[10]:=by delta na;rw[ag b]
  rw[o,eW,t1,xr (K1 c (d m b8) g),ds,f,K0 c (d m b8) g]
def xu(h:Expr)(p:d6):c6 h (c6 h p)=c6 h p:=by
 have:∀c:dr,c.place∈ch h->c.abs∈d8 h->(c∈c6 h p↔c∈p):=λc i k=>⟨λd=>(lb.mp d).2.2,λd=>lb.mpr ⟨i,k,d⟩⟩;have l:∀(e:List d7),(∀b∈e,b∈ch h)->(e.flatMap λb=>(gb h (c6 h p) b).map λf=>(⟨b,f⟩:dr))=e.flatMap λb=>(gb h p b).map λf=>(⟨b,f⟩:dr):=by
  intro e;induction e with
  |nil=>intro _;rfl
  |cons b r m=>intro g;rw[ds,ds,m λn o=>g n (cv _ o),CZ (C:=p) λf q=>this ⟨b,f⟩ (g b b8) q]
 exact(qp h (c6 h p)).trans ((l _ λ_ d=>d).trans (qp h p).symm)
def K3(b:ks h)(p:d6):(l7 10 (nb h p)).flatMap (qv h)=c6 h p:=by rw[t6,C1 b p _ λ_ c=>c,qp]
def xv(h:Expr)(p:d6):nb h (c6 h p)=nb h p:=
 C0 λe c d=>⟨λb=>(lb.mp b).2.2,λb=>lb.mpr ⟨c,d,b⟩⟩
def C2(d:ks h){p:Text}{C:d6}:o7 h p=j C↔c6 h C=C/\nb h C=p:=by unfold o7;simp only;constructor;intro b;split at b;rename_i e;cases b;exact⟨xu _ _,by rw[xv];exact e⟩;cases b;rintro⟨c,rfl⟩;rw[K3 d,c,as a,c]
noncomputable def j1(seen:List d7)(l:eg)(q:List eg)(w:Way):List eg:=if seen.contains w.dst||q.any (λb=>b.place==w.dst)then q else q++[⟨w.dst,l.chain++[w]⟩]
def kt(cG:List Way)(seen:List d7)(b:List eg)(l:eg):List eg:=(cG.filter λc=>c.src==l.place).foldl (j1 seen l) b
def xw(cG:List Way)(seen:List d7)(n:List eg):g4 cG seen n=n.foldl (kt cG seen) []:=rfl
def bi(n:List eg):List d7:=n.map λb=>b.place
variable{q:List eg}
def C3:q.any (λao=>ao.place==m)=H↔m∈bi q:=by delta bi;rw[C4,cx];constructor;rintro⟨ao,b,c⟩;exact⟨ao,b,eq_of_beq c⟩;rintro⟨ao,b,rfl⟩;exact⟨ao,b,le _⟩
def qw(seen:List d7)(l:eg)(q:List eg)(w:Way):(j1 seen l q w=q/\(w.dst∈seen\/w.dst∈bi q))\/(j1 seen l q w=q++[⟨w.dst,l.chain++[w]⟩]/\w.dst∉seen/\w.dst∉bi q):=by delta j1;by_cases b:(seen.contains w.dst||q.any (λd=>d.place==w.dst))=H;rw[as b];rw[xx,d1,C3]at b;exact .inl ⟨a,b⟩;rw[ag b];rw[xx,d1,C3]at b;exact .inr ⟨a,λc=>b (.inl c),λc=>b (.inr c)⟩
def j2(n v:List eg):bi (n++v)=bi n++bi v:=cS
structure cd (seen:List d7) (q:List eg):Prop where
 nd:(bi q).Nodup
 new:∀m∈bi q,m∉seen
variable{seen:List d7}
theorem cd.j1(d:cd seen q)(l:eg)(w:Way):cd seen (j1 seen l q w):=by
 obtain⟨b,_⟩|⟨b,e,f⟩:=qw seen l q w;rw[b];exact d;rw[b];refine⟨?_,?_⟩;rw[j2];exact n8 d.nd (by simp[bi]) λg h i=>by
  have:g=w.dst:=by simpa[bi]using i
  subst this;exact f h
 intro c bg;rw[j2]at bg;obtain bg|bg:=bE.mp bg;exact d.new c bg;have:c=w.dst:=by simpa[bi]using bg
 subst this;exact e
def t7{l:eg}{w:Way}:m∈bi (j1 seen l q w)↔m∈bi q\/(m∉seen/\w.dst=m):=by
 obtain⟨d,c⟩|⟨d,f,g⟩:=qw seen l q w;rw[d];constructor;exact .inl;rintro(b|⟨e,rfl⟩);exact b;obtain c|c:=c;exact aq c e;exact c;rw[d,j2,bE];constructor;rintro(b|b);exact .inl b;have:m=w.dst:=by simpa[bi]using b
 subst this;exact .inr ⟨f,a⟩;rintro(b|⟨e,rfl⟩);exact .inl b;exact .inr (by simp[bi])
theorem cd.C5(l:eg):∀(W:List Way) {q:List eg},cd seen q->cd seen (W.foldl (Y.j1 seen l) q)
 |[],_,b=>b
 |w::W,_,b=>cd.C5 l W (b.j1 l w)
theorem C6{l:eg}:∀(W:List Way) {q:List eg},m∈bi (W.foldl (j1 seen l) q)↔m∈bi q\/(m∉seen/\∃w∈W,w.dst=m)
 |[],q=>by simp
 |w::W,q=>by rw[gk,C6 W,t7];simp only[bm,exists_eq_or_imp];constructor;rintro((b|b)|b);exact .inl b;exact .inr ⟨b.1,.inl b.2⟩;exact .inr ⟨b.1,.inr b.2⟩;rintro(b|⟨d,c|c⟩);exact .inl (.inl b);exact .inl (.inr ⟨d,c⟩);exact .inr ⟨d,c⟩
variable{cG:List Way}
def K4{l:eg}:m∈bi (kt cG seen q l)↔m∈bi q\/(m∉seen/\∃w∈cG,w.src=l.place/\w.dst=m):=by delta kt;rw[C6];simp only[eI,fz,and_assoc]
theorem cd.steps:∀(n:List eg) {q:List eg},cd seen q->cd seen (n.foldl (kt cG seen) q)
 |[],_,b=>b
 |c::n,_,b=>cd.steps n (cd.C5 c _ b)
theorem C7:∀(n:List eg) {q:List eg},m∈bi (n.foldl (kt cG seen) q)↔m∈bi q\/(m∉seen/\∃l∈n,∃w∈cG,w.src=l.place/\w.dst=m)
 |[],q=>by simp
 |l::n,q=>by rw[gk,C7 n,K4];simp only[bm,exists_eq_or_imp];constructor;rintro((b|b)|b);exact .inl b;exact .inr ⟨b.1,.inl b.2⟩;exact .inr ⟨b.1,.inr b.2⟩;rintro(b|⟨d,c|c⟩);exact .inl (.inl b);exact .inl (.inr ⟨d,c⟩);exact .inr ⟨d,c⟩
def r4{n:List eg}:m∈bi (g4 cG seen n)↔m∉seen/\∃l∈n,∃w∈cG,w.src=l.place/\w.dst=m:=by rw[xw,C7];simp[bi]
def C8(cG:List Way)(seen:List d7)(n:List eg):cd seen (g4 cG seen n):=cd.steps n ⟨by simp[bi],λc b=>by simp[bi]at b⟩
theorem C9{gc:List d7}(hw:∀w∈cG,w.dst∈gc):∀(f:Nat) (seen:List d7) (n:List eg),seen.Nodup->(∀m∈seen,m∈gc)->(∀l∈n,l.place∈seen)->(∀m∈seen,m∉bi n->∀w∈cG,w.src=m->w.dst∈seen)->gc.length<f+seen.length->∀w∈cG,w.src∈seen++bi (hK cG f seen n)->w.dst∈seen++bi (hK cG f seen n)
 |0,seen,n,h,i,_,_,r=>by have:=m6 h i;omega
 |f+1,seen,n,h,i,A,p,r=>by
  unfold hK;simp only;by_cases d:(g4 cG seen n).isEmpty=H;rw[as d];intro w b c;have c:w.src∈seen:=by simpa[bi]using c
  have:w.dst∈seen:=by by_cases e:w.src∈bi n;by_cases g:w.dst∈seen;exact g;obtain⟨l,k,o⟩:=cx.mp e;have:w.dst∈bi (g4 cG seen n):=r4.mpr ⟨g,l,k,w,b,o.symm,a⟩;rw[(xs.mp d:g4 cG seen n=[])]at this;simp[bi]at this;exact p _ c e w b a
  simpa[bi]using this;rw[ag d];have lk:=C8 cG seen n;have B:0<(bi (g4 cG seen n)).length:=by
   delta bi;rw[aV];cases s:g4 cG seen n with
   |nil=>rw[s]at d;exact aq a d
   |cons q C=>simp
  have u:=C9 hw f (seen++bi (g4 cG seen n)) (g4 cG seen n) (n8 h lk.nd λq v x=>lk.new q x v)
   (λm bg=>by obtain bg|bg:=bE.mp bg;exact i m bg;obtain⟨_,l,_,w,b,_,rfl⟩:=r4.mp bg;exact hw w b)
   (λl y=>gH _ (i8 y))
   (λm bg z w b c=>by obtain bg|bg:=bE.mp bg;by_cases e:m∈bi n;by_cases g:w.dst∈seen;exact g5 _ g;obtain⟨l,k,o⟩:=cx.mp e;exact gH _ (r4.mpr ⟨g,l,k,w,b,by rw[c];exact o.symm,a⟩);exact g5 _ (p m bg e w b c);exact aq bg z)
   (by rw[b4];omega)
  rw[j2,<-eW];exact u
theorem C_{e_:d7->Prop}(hw:∀w∈cG,e_ w.src->e_ w.dst):∀(f:Nat) (seen:List d7) (n:List eg),(∀m∈bi n,e_ m)->∀m∈bi (hK cG f seen n),e_ m
 |0,_,_,_,m,bg=>by simp[hK,bi]at bg
 |f+1,seen,n,c,m,bg=>by
  unfold hK at bg;simp only at bg;split at bg;simp[bi]at bg;have b:∀m∈bi (g4 cG seen n),e_ m:=λm bg=>by obtain⟨_,h,d,w,e,g,rfl⟩:=r4.mp bg;exact hw w e (by rw[g];exact c _ (i8 d))
  rw[j2]at bg;obtain bg|bg:=bE.mp bg;exact b m bg;exact C_ hw f _ _ b m bg
def hq(h:Expr)(e:Abs):List d7:=(ch h).filter λb=>qx h b e
def xy{ao:d7}:ao∈hq h e↔(⟨ao,e⟩:dr)∈l0 h:=by unfold hq qx;rw[eI,d1];exact⟨λb=>b.2,λb=>⟨(tR _ b).1,b⟩⟩
def r5(h:Expr)(p:d6)(e:Abs):List eg:=(hq h e).map (λb=>(⟨b,[]⟩:eg))++hK (i6 h p) (ch h).length (hq h e) ((hq h e).map λb=>(⟨b,[]⟩:eg))
def C'(h:Expr)(p:d6)(m:d7)(e:Abs):oa h p m e=(r5 h p e).find? λl=>l.place==m:=rfl
def xz(n:List d7):bi (n.map λao=>(⟨ao,[]⟩:eg))=n:=by delta bi;rw[fU];exact(nc λb _=>rfl).trans (List.map_id _)
def K5{p:d6}:(oa h p m e).isSome=H↔m∈bi (r5 h p e):=by rw[C',List.find?_isSome];delta bi;rw[cx];constructor;rintro⟨b,c,d⟩;exact⟨b,c,eq_of_beq d⟩;rintro⟨b,c,rfl⟩;exact⟨b,c,le _⟩
def K6(s:cY h):(oa h (cz h) m e).isSome=H↔(⟨m,e⟩:dr)∈cz h:=by
 have u:bi (r5 h (cz h) e)=hq h e++bi (hK (i6 h (cz h)) (ch h).length (hq h e) ((hq h e).map λb=>(⟨b,[]⟩:eg))):=by delta r5;rw[j2,xz]
 rw[K5,u];constructor;intro f;have hw:∀g∈i6 h (cz h),(⟨g.src,e⟩:dr)∈cz h->(⟨g.dst,e⟩:dr)∈cz h:=λg hw i=>tT h _ (m4.mpr (.inr ⟨g,hw,i,a⟩));have p:∀b∈hq h e,(⟨b,e⟩:dr)∈cz h:=λb k=>tT h _ (m4.mpr (.inl (xy.mp k)));obtain f|f:=bE.mp f;exact p m f;exact C_ (e_:=λb=>(⟨b,e⟩:dr)∈cz h) hw _ _ _ (by rw[xz];exact p) m f;intro f;by_cases q:hq h e=[];exfalso;have o:m5 h ((cz h).filter λc=>decide (c.abs≠e)):=by intro c d;have v:c∈cz h:=tT h c (tM (λr l=>(eI.mp l).1) d);refine eI.mpr ⟨v,bw λn=>?_⟩;obtain d|⟨g,_,i,_⟩:=m4.mp d;have:c.place∈hq h e:=xy.mpr (by rw[<-n];exact d);rw[q]at this;cases this;have:=iF (eI.mp i).2;exact this n
 have:=xd o _ (rW.mp f);exact iF (eI.mp this).2 a;have y:0<(hq h e).length:=xA.mpr q;have all:=C9 (cG:=i6 h (cz h)) (gc:=ch h) (λg hw=>tS (λc d=>xf h c (rW.mp d):jF h (cz h)) hw) (ch h).length (hq h e) ((hq h e).map λb=>(⟨b,[]⟩:eg)) (t8 r6 s.dg) (λb k=>(eI.mp k).1)
  (λz i=>by obtain⟨b,k,rfl⟩:=cx.mp i;exact k) (λb k w=>aq (by rw[xz];exact k) w) (by omega)
 have o:m5 h ((cz h).filter λc=>decide (c.abs=e->c.place∈hq h e++bi (hK (i6 h (cz h)) (ch h).length (hq h e) ((hq h e).map λb=>(⟨b,[]⟩:eg))))):=by intro c d;refine eI.mpr ⟨(tT h c (tM (λr l=>(eI.mp l).1) d):c∈cz h),bw λn=>?_⟩;obtain d|⟨g,hw,i,x⟩:=m4.mp d;exact g5 _ (xy.mpr (by rw[<-n];exact d));rw[x];refine all g (w8 (λr l=>(eI.mp l).1) hw) ?_;exact iF (eI.mp i).2 n
 have:=xd o _ (rW.mp f);exact iF (eI.mp this).2 a
end Y
namespace Y
open Vacfaa
structure dp where
 i:dT
 ctx:Ctx
 env:Env
 ca:List qy
inductive gI where
 |run (v:em) (st:List dp)
 |cM (v:em)
noncomputable def push(u:qy):List dp->List dp
 |[]=>[]
 |f::b=>{f with ca:=f.ca++[u]}::b
noncomputable def eL(v:em)(st:List dp)(i:dT)(eh:Ctx)(env:Env):gI:=if qz<=v.steps then .cM v else .run {v with steps:=v.steps+1} (⟨i,eh,env,[]⟩::st)
noncomputable def bL(b:dp)(u:qy)(v:em)(st:List dp):gI:=.run {v with flows:=h9 v.flows ⟨aS b.i,b.ctx,fV v.heap u⟩} (push u st)
noncomputable def gl(m:dT)(v:em)(b:dp)(st:List dp):gI:=match b.i with
 | .num _ p=>bL b (.num p) v st
 | .var _ l=>bL b (lookup b.env l) v st
 | .fn h _ _=>bL b (.clo v.heap.length) {v with heap:=v.heap++[.clo h b.env]} st
 | .app h q k=>(match b.ca with
  |[]=>eL v (b::st) q b.ctx b.env
  |[_]=>eL v (b::st) k b.ctx b.env
  |[c,g]=>(match c with
   | .clo e=>(match v.heap[e]? with
    |some (.clo o r)=>(match nodeAt m o with
     |some (.fn _ l f)=>eL {v with calls:=h9 v.calls ⟨h,o,b.ctx⟩} (b::st) f ((h::b.ctx).take Db) (⟨l,g⟩::r)
     |_=>.cM v)
    |_=>.cM v)
   |_=>.cM v)
  |[_,_,n]=>bL b n v st
  |_=>.cM v)
 | .letE _ l d f=>(match b.ca with
  |[]=>eL v (b::st) d b.ctx b.env
  |[c]=>eL v (b::st) f b.ctx (⟨l,c⟩::b.env)
  |[_,n]=>bL b n v st
  |_=>.cM v)
 | .ifz _ s u d=>(match b.ca with
  |[]=>eL v (b::st) s b.ctx b.env
  |[c]=>(match c with
   | .num p=>eL v (b::st) (if p=0 then u else d) b.ctx b.env
   |_=>.cM v)
  |[_,n]=>bL b n v st
  |_=>.cM v)
 | .pair h k f=>(match b.ca with
  |[]=>eL v (b::st) k b.ctx b.env
  |[_]=>eL v (b::st) f b.ctx b.env
  |[c,g]=>bL b (.pair v.heap.length) {v with heap:=v.heap++[.pair h c g]} st
  |_=>.cM v)
 | .fst _ d=>(match b.ca with
  |[]=>eL v (b::st) d b.ctx b.env
  |[c]=>(match c with
   | .pair e=>(match v.heap[e]? with
    |some (.pair _ k _)=>bL b k v st
    |_=>.cM v)
   |_=>.cM v)
  |_=>.cM v)
 | .snd _ d=>(match b.ca with
  |[]=>eL v (b::st) d b.ctx b.env
  |[c]=>(match c with
   | .pair e=>(match v.heap[e]? with
    |some (.pair _ _ f)=>bL b f v st
    |_=>.cM v)
   |_=>.cM v)
  |_=>.cM v)
 | .new h d=>(match b.ca with
  |[]=>eL v (b::st) d b.ctx b.env
  |[c]=>bL b (.ref v.heap.length) {v with heap:=v.heap++[.ref h c]} st
  |_=>.cM v)
 | .get _ d=>(match b.ca with
  |[]=>eL v (b::st) d b.ctx b.env
  |[c]=>(match c with
   | .ref e=>(match v.heap[e]? with
    |some (.ref _ g)=>bL b g v st
    |_=>.cM v)
   |_=>.cM v)
  |_=>.cM v)
 | .set _ d f=>(match b.ca with
  |[]=>eL v (b::st) d b.ctx b.env
  |[_]=>eL v (b::st) f b.ctx b.env
  |[c,g]=>(match c with
   | .ref e=>(match v.heap[e]? with
    |some (.ref o _)=>bL b g {v with heap:=v.heap.set e (.ref o g)} st
    |_=>.cM v)
   |_=>.cM v)
  |_=>.cM v)
 | .add _ k f=>(match b.ca with
  |[]=>eL v (b::st) k b.ctx b.env
  |[_]=>eL v (b::st) f b.ctx b.env
  |[c,g]=>(match c,g with
   | .num e,.num w=>bL b (.num ((e+w)%MOD)) v st
   |_,_=>.cM v)
  |_=>.cM v)
def j3(m:dT):Nat->gI->gI
 |0,c=>c
 |o+1,.run b (d::st)=>j3 m o (gl m b d st)
 |_+1,.run b []=>.run b []
 |_+1,.cM b=>.cM b
def lm(m:dT)(l aM:gI):Prop:=∃b,j3 m b l=aM
def t9(m:dT)(o:Nat)(v:em):j3 m o (.run v [])= .run v []:=by cases o<;>rfl
def t_(m:dT)(o:Nat)(v:em):j3 m o (.cM v)= .cM v:=by cases o<;>rfl
theorem Dc(m:dT):∀(o r:Nat) (l:gI),j3 m (o+r) l=j3 m r (j3 m o l)
 |0,r,l=>by rw[Dd];rfl
 |o+1,r,.run b (c::st)=>by rw[show o+1+r=(o+r)+1 by omega];exact Dc m o r _
 |o+1,r,.run b []=>by rw[t9,t9,t9]
 |o+1,r,.cM b=>by rw[t_,t_,t_]
variable{m:dT}
def lm.trans{l aM b:gI}(d:lm m l aM)(aY:lm m aM b):lm m l b:=by obtain⟨c,rfl⟩:=d;obtain⟨e,rfl⟩:=aY;exact⟨c+e,Dc m c e l⟩
variable{v:em}{st:List dp}
def lm.step{f:dp}{aM:gI}(d:lm m (gl m v f st) aM):lm m (.run v (f::st)) aM:=let⟨b,c⟩:=d;⟨b+1,c⟩
def lm.refl{l:gI}:lm m l l:=⟨0,a⟩
def K7(st:List dp):Out->gI
 | .ok b v=>.run v (push b st)
 | .wrong _ v=>.cM v
 | .long v=>.cM v
structure gd (m:dT) (v:em) (l:gI) (st:List dp) (q:Out):Prop where
 go:lm m l (K7 st q)
 lo:v.steps<=(ja q).steps
 d4:(ja q).steps<=300
theorem gd.step{bH:em}{f:dp}{b:List dp}{q:Out}(d:gd m v (gl m bH f st) b q):gd m v (.run bH (f::st)) b q:=⟨d.go.step,d.lo,d.d4⟩
def gd.sub{l:gI}{b:dp}{q:Out}{r:qy->em->Out}(d:gd m v l (b::st) q)(e:∀u bH,v.steps<=bH.steps->bH.steps<=300->gd m bH (gl m bH {b with ca:=b.ca++[u]} st) st (r u bH)):gd m v l st (andThen q r):=by
 cases q with
 |ok u bH=>have c:=e u bH d.lo d.d4;exact⟨d.go.trans c.go.step,b5 d.lo c.lo,c.d4⟩
 |wrong f bH=>exact⟨d.go,d.lo,d.d4⟩
 |long bH=>exact⟨d.go,d.lo,d.d4⟩
theorem gd.bL{bH:em}{b:dp}{u:qy}{n:Nat}(c:aS b.i=n)(d:v.steps<=bH.steps)(e:bH.steps<=300):gd m v (Y.bL b u bH st) st (gives n b.ctx u bH):=by subst c;exact⟨.refl,d,e⟩
theorem gd.cM{n:Nat}(d:v.steps<=300):gd m v (.cM v) st (.wrong n v):=⟨.refl,bC _,d⟩
def gd.De{bH:em}{l:gI}{q:Out}(d:gd m bH l st q)(b:v.steps<=bH.steps):gd m v l st q:=⟨d.go,b5 b d.lo,d.d4⟩
theorem o8(m:dT):∀(f:Nat) (eh:Ctx) (env:Env) (h:dT) (v:em) (st:List dp),301<=f+v.steps->v.steps<=300->gd m v (eL v st h eh env) st (eval m f eh env h v)
 |0,eh,env,h,v,st,F,C=>by omega
 |f+1,eh,env,h,w,st,F,C=>by
  unfold eval eL;by_cases z:qz<=w.steps;rw[as z,as z];exact⟨.refl,bC _,C⟩;rw[ag z,ag z];have l:w.steps+1<=300:=by unfold qz at z;omega
  refine gd.De (bH:={w with steps:=w.steps+1}) ?_ (Df _);have s:301<=f+(w.steps+1):=by omega
  generalize G:({w with steps:=w.steps+1}:em)=v;have I:v.steps=w.steps+1:=by rw[<-G]
  rw[<-I]at s l;clear I G z F C;have e:=o8 m f;refine gd.step ?_;have x:∀{bH:em},v.steps<=bH.steps->301<=f+bH.steps:=λQ=>by omega
  cases h with
  |num o J=>exact .bL a (bC _) l
  |var o D=>exact .bL a (bC _) l
  |fn o D r=>exact .bL a (bC _) l
  |app o K p=>
   refine(e eh env K v _ s l).sub λg c i b=>(e eh env p c _ (x i) b).sub λA n B d=>?_;show gd m n (match g with| .clo k=>_|_=>_) st _;cases g with
   |clo k=>
    show gd m n (match n.heap[k]? with|some (.clo y L)=>_|_=>_) st _;dsimp only;cases n.heap[k]? with
    |none=>exact .cM d
    |some u=>
     cases u with
     |clo y L=>
      dsimp only;cases nodeAt m y with
      |none=>exact .cM d
      |some M=>
       cases M with
       |fn R D r=>dsimp only;exact((e _ _ r {n with calls:=h9 n.calls ⟨o,y,eh⟩} _ (x (b5 i B)) d).sub λS T U N=>.bL a (bC _) N).De (bC _)
       |_=>exact .cM d
     |_=>exact .cM d
   |_=>exact .cM d
  |letE o D q r=>exact(e eh env q v _ s l).sub λg c i b=>(e eh _ r c _ (x i) b).sub λA n B d=>.bL a (bC _) d
  |ifz o O P q=>
   refine(e eh env O v _ s l).sub λg c i b=>?_;cases g with
   |num J=>exact(e eh env (if J=0 then P else q) c _ (x i) b).sub λA n B d=>.bL a (bC _) d
   |_=>exact .cM b
  |pair o p r=>exact(e eh env p v _ s l).sub λg c i b=>(e eh env r c _ (x i) b).sub λA n B d=>.bL a (bC _) d
  |fst o q=>
   refine(e eh env q v _ s l).sub λg c i b=>?_;cases g with
   |pair k=>
    show gd m c (match c.heap[k]? with|some (.pair _ p _)=>_|_=>_) st _;dsimp only;cases c.heap[k]? with
    |none=>exact .cM b
    |some u=>cases u with
     |pair y p r=>exact .bL a (bC _) b
     |_=>exact .cM b
   |_=>exact .cM b
  |snd o q=>
   refine(e eh env q v _ s l).sub λg c i b=>?_;cases g with
   |pair k=>
    show gd m c (match c.heap[k]? with|some (.pair _ _ p)=>_|_=>_) st _;dsimp only;cases c.heap[k]? with
    |none=>exact .cM b
    |some u=>cases u with
     |pair y p r=>exact .bL a (bC _) b
     |_=>exact .cM b
   |_=>exact .cM b
  |new o q=>exact(e eh env q v _ s l).sub λg c i b=>.bL a (bC _) b
  |get o q=>
   refine(e eh env q v _ s l).sub λg c i b=>?_;cases g with
   |ref k=>
    show gd m c (match c.heap[k]? with|some (.ref _ p)=>_|_=>_) st _;dsimp only;cases c.heap[k]? with
    |none=>exact .cM b
    |some u=>cases u with
     |ref y p=>exact .bL a (bC _) b
     |_=>exact .cM b
   |_=>exact .cM b
  |set o q r=>
   refine(e eh env q v _ s l).sub λg c i b=>(e eh env r c _ (x i) b).sub λA n B d=>?_;cases g with
   |ref k=>
    show gd m n (match n.heap[k]? with|some (.ref _ p)=>_|_=>_) st _;dsimp only;cases n.heap[k]? with
    |none=>exact .cM d
    |some u=>cases u with
     |ref y p=>exact .bL a (bC _) d
     |_=>exact .cM d
   |_=>exact .cM d
  |add o p r=>
   refine(e eh env p v _ s l).sub λg c i b=>(e eh env r c _ (x i) b).sub λA n B d=>?_;cases g with
   |num k=>cases A with
    |num V=>exact .bL a (bC _) d
    |_=>exact .cM d
   |_=>exact .cM d
noncomputable def ne:Out->gI
 | .ok _ v=>.run v []
 | .wrong _ v=>.cM v
 | .long v=>.cM v
def K8(h:dT)(k:Nat):∃o,j3 h o (eL nothing [] h [] [⟨d9,.num k⟩])=ne (hL h k):=by have b:=(o8 h (qz+1) [] [⟨d9,.num k⟩] h nothing [] nofun nofun).go;unfold lm at b;obtain⟨o,b⟩:=b;refine⟨o,b.trans ?_⟩;unfold hL;cases eval h (qz+1) [] [⟨d9,.num k⟩] h nothing<;>rfl
end Y
namespace bT
open PySem PySem.Spec PyProof.Rows
abbrev bY:=Sum Int Str
def ob:bY->ab->Bool
 | .inl c,b=>K9 c b
 | .inr d,b=>K_ d b
def xB(w:cr):bY->Int
 | .inl b=>hashInt b
 | .inr c=>hashStr w c
theorem nf:∀{r:bY} {u:ab},ob r u=H->(∃k p,r=gm k/\u=r7 k p)\/(∃i p,r=dJ i/\u=xC i p)
 | .inl k,u,b=>by obtain⟨p,c⟩:=Value.isInt_shape (k:=k) (v:=u) b;exact .inl ⟨k,p,a,c⟩
 | .inr i,u,b=>by obtain⟨p,c⟩:=Value.isStrOf_shape (x:=i) (v:=u) b;exact .inr ⟨i,p,a,c⟩
def K'(k:Int)(p:Tok):ob (.inl k) (.int k p)=H:=by simp[ob,K9]
def La(i:Str)(p:Tok):ob (.inr i) (.str i p)=H:=by simp[ob,K_]
def Lb(e b:Int):decide ((gm e:bY)=gm b)=(e==b):=by by_cases c:e=b;subst c;simp;have d:¬(gm e:bY)=gm b:=λf=>c (Dg f);rw[bq d];exact(fl.mpr c).symm
def Lc(e b:Str):decide ((dJ e:bY)=dJ b)=decide (e=b):=by by_cases c:e=b;subst c;simp;have d:¬(dJ e:bY)=dJ b:=λf=>c (t' f);rw[bq d,bq c]
def Ld(e:Int)(b:Str):decide ((gm e:bY)=dJ b)=am:=bq ⋯
def Le(e:Str)(b:Int):decide ((dJ e:bY)=gm b)=am:=bq ⋯
def ge(o:cN)(w:cr):PySem.KeyKind o w bY where
 is:=ob
 hash:=xB w
 inj:=λm s u p n=>by obtain⟨f,e,rfl,rfl⟩|⟨g,e,rfl,rfl⟩:=nf p;obtain⟨k,c,rfl,d⟩|⟨h,c,rfl,d⟩:=nf n;injection d with i _;rw[i];exact nomatch d;obtain⟨k,c,rfl,d⟩|⟨h,c,rfl,d⟩:=nf n;exact nomatch d;injection d with i _;rw[i]
 byValue:=λq m b=>by obtain⟨f,e,rfl,rfl⟩|⟨g,e,rfl,rfl⟩:=nf b<;>rfl
 pyHash:=λl b=>by obtain⟨f,e,rfl,rfl⟩|⟨g,e,rfl,rfl⟩:=nf l;exact wpAny_pyHash_int b;exact wpAny_pyHash_str b
 eqBool:=λr l b=>by obtain⟨f,e,rfl,rfl⟩|⟨g,e,rfl,rfl⟩:=nf r;obtain⟨k,c,rfl,rfl⟩|⟨h,c,rfl,rfl⟩:=nf l;rw[Lb]at b;exact wpAny_eqBool_int b;rw[Ld]at b;exact Lf f e h c _ _ _ _ b;obtain⟨k,c,rfl,rfl⟩|⟨h,c,rfl,rfl⟩:=nf l;rw[Le]at b;exact Lg g e k c _ _ _ _ b;rw[Lc]at b;exact wpAny_eqBool_str b
 «strs»:=λq g e m b=>by obtain⟨f,c,rfl,d⟩|⟨h,c,rfl,d⟩:=nf b;exact nomatch d;injection d with i _;subst i;cases m<;>rfl
def Lh(b:cN)(w:cr)(k:Int)(p:Tok):(ge b w).is (.inl k) (.int k p)=H:=K' k p
def Li(b:cN)(w:cr)(i:Str)(p:Tok):(ge b w).is (.inr i) (.str i p)=H:=La i p
inductive V where
 |aL|bl (b:Bool)|int (k:Int)|str (i:Str)|iI (b:Array UInt8)|ua (b:UInt64)|ref (e:t)|gJ (o:String)
 deriving DecidableEq
def RelV:V->ab->Prop
 | .aL,b=>b=ng
 | .bl d,b=>b=r8 d
 | .int e,b=>∃c,b=r7 e c
 | .str f,b=>∃c,b=xC f c
 | .iI d,b=>∃c,b=Lj d c
 | .ua d,b=>∃c,b=Lk d c
 | .ref g,b=>b=dt g
 | .gJ h,b=>b=jb h
abbrev bW:List V->List ab->Prop:=Paired RelV
variable{aP:List ab}
theorem bW.length{M:List V}(s:bW M aP):M.length=aP.length:=Paired.length s
theorem bW.get:∀{M:List V} {aP:List ab} {k:Nat} {i:V},bW M aP->M[k]?=j i->∃C,aP[k]?=j C/\RelV i C
 |_,_,_,_,.nil,b=>by simp at b
 |_,_,0,_,.cons c _,b=>by simp at b;subst b;exact⟨_,a,c⟩
 |_,_,k+1,i,.cons _ d,b=>by obtain⟨C,e,f⟩:=bW.get (k:=k) (i:=i) d (by simpa using b);exact⟨C,by simpa using e,f⟩
variable{C:ab}
theorem bW.set{i:V}(s:RelV i C):∀{M:List V} {aP:List ab} (k:Nat),bW M aP->bW (M.set k i) (aP.set k C)
 |_,_,_,.nil=>.nil
 |_,_,0,.cons _ b=>.cons s b
 |_,_,k+1,.cons c b=>.cons c (bW.set s k b)
theorem bW.append:∀{M aN:List V} {aP cG:List ab},bW M aP->bW aN cG->bW (M++aN) (aP++cG)
 |_,_,_,_,.nil,b=>b
 |_,_,_,_,.cons c d,b=>.cons c (bW.append d b)
theorem bW.take:∀{M:List V} {aP:List ab} (o:Nat),bW M aP->bW (M.take o) (aP.take o)
 |_,_,0,_=>.nil
 |_,_,_+1,.nil=>.nil
 |_,_,o+1,.cons b c=>.cons b (bW.take o c)
theorem bW.drop:∀{M:List V} {aP:List ab} (o:Nat),bW M aP->bW (M.drop o) (aP.drop o)
 |_,_,0,b=>b
 |_,_,_+1,.nil=>.nil
 |_,_,o+1,.cons _ c=>bW.drop o c
def hM:Option V->Option ab->Prop
 |some b,j C=>RelV b C
 |none,E=>True
 |_,_=>False
def g6{b:Type}:List (b×V)->List (b×ab)->Prop:=Paired λ(c:b×V) (d:b×ab)=>c.1=d.1/\RelV c.2 d.2
def c9:bY->V
 | .inl b=>.int b
 | .inr c=>.str c
inductive aC where
 |L (M:List V)
 |aF (M:List V)
 |cH (aB:List (bY×V))|cI (aB:List (List bY×V))
 |set (S:Int->Bool) (o:Nat)
 |az (ah a4:t) (fs:List (Str×V))
 |own (i:t)
 |xD (fs:List (Str×V))
 |xE (f i:t)
 |xF (lo d4:Int)
 |ci (q:Obj) (C:aC)
 |o9 (aZ:Array ab)
 |ext (Yz:bM->Prop)
abbrev z:=t->Option aC
def U(c:z)(e:t)(q:aC):z:=λb=>if b=e then j q else c b
variable{c:z}{e:t}{q:aC}
def aw:U c e q e=j q:=by delta U;rw[as a]
variable{b:t}
def aH(d:b≠e):U c e q b=c b:=by delta U;rw[ag d]
def Ll{C:aC}:U (U c e q) e C=U c e C:=by funext b;delta U;split<;>rfl
def ct{C:aC}(d:c e=j q)(aY:c b=j C)(aa:q≠C):e≠b:=by intro f;subst f;rw[d]at aY;exact aa (dP aY)
def ew(d:c e=j q)(aY:c b=E):e≠b:=by intro f;subst f;rw[d]at aY;cases aY
def bA(c:z)(e:t)(C:aC):Prop:=c e=j C\/∃q,c e=j (.ci q C)
def Dh{y:t}(d:y≠e):U c e q y=c y:=by delta U;rw[ag d]
def bA.fresh{y:t}{C:aC}(b:c e=E)(s:bA c y C):bA (U c e q) y C:=by
 have d:y≠e:=by rintro rfl;obtain s|⟨_,s⟩:=s<;>(rw[b]at s;cases s)
 delta bA;rw[Dh d];exact s
def bA.other{y:t}{C:aC}(b:y≠e)(s:bA c y C):bA (U c e q) y C:=by delta bA;rw[Dh b];exact s
def bA.Di{aa y:t}{e:Obj}{C u:aC}(d:c aa=j (.ci e C))(f:∀g h,u≠.ci g h)(s:bA c y u):bA (U c aa C) y u:=by by_cases b:y=aa;subst b;obtain s|⟨_,s⟩:=s;rw[d]at s;cases s;exact aq a (f _ _);rw[d]at s;cases s;left;delta U;rw[as a];exact s.other b
section
variable(P:cN)(w:cr)
def ei(c:z)(d:bM)(e:t):aC->Prop
 | .L b=>b.length<=aD/\∃(h:List ab) (m:Nat),bW b h/\d.get? e=j {cls:=.type "list",data:=.seq h.toArray m}
 | .aF b=>b.length<=aD/\∃h:List ab,bW b h/\IsTup d e h.toArray
 | .cH i=>i.length<=aD/\(e==g7)=am/\∃r,g6 i r/\d.DictOf (ge P w) e r
 | .cI i=>i.length<=aD/\(e==g7)=am/\∃b:List (List bY×t×ab),
   Paired (λ(n:List bY×V) (o:List bY×t×ab)=>n.1=o.1/\bA c o.2.1 (.aF (n.1.map c9))/\RelV n.2 o.2.2) i b/\∃q s x,d.get? e=j q/\q.ExactDict/\q.data= .dict s x/\s.toList=b.map (entryOfKey (r9 (ge P w)))/\(b.map (·.1)).Nodup
 | .set S m=>d.SetOf (intKind P w) e S m
 | .az y l k=>c l=j (.own e)/\k.length<=1000/\l≠e/\d.get? e=j (o_ y l)/\∃g,d.Ns1 l g/\(∀f,hM (k.lookup f) (g f))/\Dj g (k.map (·.1))
 | .own _=>∃q,d.get? e=j q
 | .xD k=>∃g,d.Ns1 e g/\∀f,hM (k.lookup f) (g f)
 | .xF lo A=>∃B C D,d.get? e=j {cls:=.type "range",data:=.fields #[.int lo B,.int A C,.int 1 D]}
 | .ci q C=>d.get? e=j q/\ei c d e C
 | .o9 F=>d.get? e=j {cls:=.none,data:=.fields F}
 | .xE f G=>d.get? e=j (Dk (.ref f) (.ref G))
 | .ext p=>p d/\(∃q,d.get? e=j q)/\∀u v:bM,p u->(∀q,u.get? e=j q->v.get? e=j q)->p v
def dK(c:z)(d:bM):Prop:=∀e q,c e=j q->ei P w c d e q
end
variable{P:cN}{w:cr}{d:bM}
section
variable{O:z}{aY:bM}
theorem ei.lt(i:ei P w c d e q):e<d.objs.size:=by
 cases q with
 |L f=>obtain⟨_,_,_,_,b⟩:=i;exact d_ b
 |aF f=>obtain⟨_,_,_,g⟩:=i;exact g.lt
 |cH h=>obtain⟨_,_,_,_,q,_,_,b,_⟩:=i;exact d_ b
 |cI h=>obtain⟨_,_,_,_,q,_,_,b,_⟩:=i;exact d_ b
 |set S m=>obtain⟨q,_,_,_,b,_⟩:=i;exact d_ b
 |az n o k=>obtain⟨_,_,_,b,_⟩:=i;exact d_ b
 |own l=>obtain⟨_,b⟩:=i;exact d_ b
 |xD k=>obtain⟨_,⟨_,_,_,b,_⟩,_⟩:=i;exact d_ b
 |xF lo p=>obtain⟨_,_,_,b⟩:=i;exact d_ b
 |ci r s=>obtain⟨b,_⟩:=i;exact d_ b
 |o9 u=>exact d_ (show d.get? e=j _ from i)
 |xE v l=>exact d_ (show d.get? e=j _ from i)
 |ext x=>obtain⟨_,⟨_,b⟩,_⟩:=i;exact d_ b
theorem Paired.xG{c d:Type}{F e_:c->d->Prop}:∀{f:List c} {g:List d},Paired F f g->(∀e b,F e b->e_ e b)->Paired e_ f g
 |_,_,.nil,_=>.nil
 |_,_,.cons i k,h=>.cons (h _ _ i) (Paired.xG k h)
def ei.ku(i:ei P w c d e q)(r:∀b C,(b=e\/c b=j (.own e))->d.get? b=j C->aY.get? b=j C)(F:∀b,c b=j (.own e)->O b=j (.own e))(G:∀b M,bA c b (.aF M)->bA O b (.aF M)):ei P w O aY e q:=by
 induction q with
 |L M=>obtain⟨g,s,y,h,f⟩:=i;exact⟨g,s,y,h,r _ _ (.inl a) f⟩
 |aF M=>obtain⟨g,s,h,l,f,k⟩:=i;exact⟨g,s,h,l,r _ _ (.inl a) f,k⟩
 |cH I=>obtain⟨g,o,J,h,l,m,n,f,k⟩:=i;exact⟨g,o,J,h,l,m,n,r _ _ (.inl a) f,k⟩
 |cI I=>obtain⟨g,o,M,h,l,m,n,f,k⟩:=i;exact⟨g,o,M,Paired.xG h λz p g=>⟨g.1,G _ _ g.2.1,g.2.2⟩,l,m,n,r _ _ (.inl a) f,k⟩
 |set S y=>obtain⟨l,m,n,u,f,k⟩:=i;exact⟨l,m,n,u,r _ _ (.inl a) f,k⟩
 |az U V K=>obtain⟨A,g,N,f,v,⟨x,m,n,Q,k⟩,h⟩:=i;exact⟨F _ A,g,N,r _ _ (.inl a) f,v,⟨x,m,n,r _ _ (.inr A) Q,k⟩,h⟩
 |own o=>obtain⟨l,f⟩:=i;exact⟨l,r _ _ (.inl a) f⟩
 |xD K=>obtain⟨v,⟨x,m,n,f,k⟩,h⟩:=i;exact⟨v,⟨x,m,n,r _ _ (.inl a) f,k⟩,h⟩
 |xF lo W=>obtain⟨u,C,R,f⟩:=i;exact⟨u,C,R,r _ _ (.inl a) f⟩
 |ci l C T=>obtain⟨f,p⟩:=i;exact⟨r _ _ (.inl a) f,T p⟩
 |o9 B=>have f:d.get? e=j {cls:=.none,data:=.fields B}:=i;show aY.get? e=j {cls:=.none,data:=.fields B};exact r e _ (.inl a) f
 |xE D o=>have f:d.get? e=j (Dk (.ref D) (.ref o)):=i;show aY.get? e=j (Dk (.ref D) (.ref o));exact r e _ (.inl a) f
 |ext X=>obtain⟨z,⟨q,f⟩,st⟩:=i;exact⟨st _ _ z λq p=>r _ _ (.inl a) p,⟨q,r _ _ (.inl a) f⟩,st⟩
theorem dK.lt(i:dK P w c d)(h:c e=j q):e<d.objs.size:=(i e q h).lt
def dK.fresh(i:dK P w c d)(h:d.objs.size<=e):c e=E:=by
 cases b:c e with
 |none=>rfl
 |some f=>exact aq (gK (i.lt b) h) (nh _)
def dK.kept(i:dK P w c d)(r:∀b C,d.get? b=j C->aY.get? b=j C):dK P w c aY:=λf g h=>(i f g h).ku (λb C _ e=>r b C e) (λ_ e=>e) λ_ _ e=>e
def dK.hr(i:dK P w c d)(r:∀b C,d.get? b=j C->aY.get? b=j C)(m:d.objs.size<=e)(n:ei P w (U c e q) aY e q):dK P w (U c e q) aY:=λb C g=>by have k:=i.fresh m;by_cases l:b=e;subst l;rw[aw]at g;cases g;exact n;rw[aH l]at g;exact(i b C g).ku (λh o _ f=>r h o f) (λh f=>by rw[aH (ew f k)];exact f) λh p f=>f.fresh k
end
def bA.ok{C:aC}(s:bA c e C)(i:dK P w c d):ei P w c d e C:=by obtain s|⟨f,s⟩:=s;exact i e C s;obtain⟨_,b⟩:=i e _ s;exact b
def oc:Option aC->Prop
 |some (.L _)=>True
 |some (.cH _)=>True
 |some (.cI _)=>True
 |some (.set _ _)=>True
 |some (.az _ _ _)=>True
 |some (.ext _)=>True
 |_=>False
section
variable{aY:bM}{i h:t}{j4:aC}
def dK.l8(x:dK P w c d)(k:oc (c i))(q:h=i\/c h=j (.own i))(r:∀b C,b≠h->d.get? b=j C->aY.get? b=j C)(y:∃C,aY.get? h=j C)(z:ei P w (U c i j4) aY i j4):dK P w (U c i j4) aY:=λb C l=>by
 have s:∀g u,c g=j (.own u)->g≠i:=λg u e f=>by subst f;rw[e]at k;exact k
 have B:∀g o,c g=j (.aF o)->g≠i:=λg o e f=>by subst f;rw[e]at k;exact k
 by_cases m:b=i;subst m;rw[aw]at l;cases l;exact z;rw[aH m]at l;by_cases n:b=h;have v:c b=j (.own i):=by obtain f|f:=q;exact aq (n.trans f) m;rw[n];exact f
 rw[l]at v;cases v;obtain⟨p,A⟩:=y;exact⟨p,by rw[n];exact A⟩;refine(x b C l).ku (λg p c7 e=>r g p ?_ e) (λg e=>by rw[aH (s g b e)];exact e) λg o e=>e.other λf=>(by subst f;obtain e|⟨_,e⟩:=e<;>(rw[e]at k;exact k));obtain rfl|c7:=c7;exact n;rintro rfl;obtain f|f:=q;exact s g b c7 f;rw[c7]at f;cases f;exact m a
end
structure fW (fs ex:List t) (c O:z) (d aY:bM):Prop where
 keep:∀b q,d.get? b=j q->c b=E->b∉fs->b∉ex->aY.get? b=j q
 slot:∀b q,d.get? b=j q->c b=E->b∈fs->b∉ex->∃iJ,aY.get? b=j {q with slots:=iJ}
 free:∀b q,d.get? b=j q->c b=E->b∉ex->O b=E
 there:∀b q,d.get? b=j q->b∉ex->∃j4,aY.get? b=j j4
 tups:∀b M,c b=j (.aF M)->O b=j (.aF M)
 frzs:∀b q C,c b=j (.ci q C)->O b=j (.ci q C)
 tbls:∀b aZ,c b=j (.o9 aZ)->∃Lm,O b=j (.o9 (aZ++Lm))
section
variable{fs Ln ex YA:List t}{eY YB:z}{Dl gn aY:bM}{i h:t}
def fW.any(C:fW fs ex c eY d Dl){e:Obj}(ao:d.get? b=j e)(o:c b=E)(f:b∉ex):∃h,Dl.get? b=j {e with slots:=h}:=by by_cases g:b∈fs;exact C.slot b e ao o g f;exact⟨e.slots,C.keep b e ao o g f⟩
def fW.kept(r:∀b C,d.get? b=j C->aY.get? b=j C):fW fs ex c c d aY:=
 ⟨λb f e _ _ _=>r b f e,λb f e _ _ _=>⟨f.slots,r b f e⟩,λ_ _ _ g _=>g,λb f e _=>⟨f,r b f e⟩,λ_ _ e=>e,λ_ _ _ e=>e,λ_ h e=>⟨#[],by rw[e];simp⟩⟩
def fW.refl:fW fs ex c c d d:=fW.kept λ_ _ b=>b
def fW.hr(r:∀b C,d.get? b=j C->aY.get? b=j C)(h:d.objs.size<=e)(g:c e=E):fW fs ex c (U c e q) d aY where
 keep:=λb C f _ _ _=>r b C f
 slot:=λb C f _ _ _=>⟨C.slots,r b C f⟩
 free:=λb C f i _=>by rw[aH (gL (gK (d_ f) h))];exact i
 there:=λb C f _=>⟨C,r b C f⟩
 tups:=λb k f=>by rw[aH (ew f g)];exact f
 frzs:=λb C k f=>by rw[aH (ew f g)];exact f
 tbls:=λb l f=>⟨#[],by rw[aH (ew f g),f];simp⟩
def fW.l8(k:oc (c i))(p:h=i\/c h=j (.own i))(r:∀b C,b≠h->d.get? b=j C->aY.get? b=j C)(u:∃C,aY.get? h=j C):fW fs ex c (U c i q) d aY:=by
 have m:∀b,c b=E->b≠i:=λb f g=>by subst g;rw[f]at k;exact k
 have n:∀b,c b=E->b≠h:=λb f g=>by subst g;obtain s|s:=p;exact m b f s;rw[f]at s;cases s
 have l:∀b C,c b=j C->¬oc (j C)->b≠i:=λb C e v g=>by subst g;rw[e]at k;exact v k
 refine⟨λb C e f _ _=>r b C (n b f) e,λb C e f _ _=>⟨C.slots,r b C (n b f) e⟩,λb C e f _=>by rw[aH (m b f)];exact f,λb C e _=>?_,λb w e=>by rw[aH (l b _ e λg=>g)];exact e,λb C w e=>by rw[aH (l b _ e λg=>g)];exact e,λb x e=>⟨#[],by rw[aH (l b _ e λg=>g),e];simp⟩⟩;by_cases o:b=h;subst o;exact u;exact⟨C,r b C o e⟩
end
noncomputable def ub(d:bM)(c:z):List t:=(er d.objs.size).filter λe=>(c e).isSome
def od(d:bM)(c:z):bM:=o' d (ub d c)
def Lo(d:bM)(c:z):(od d c).objs.size=d.objs.size:=PySem.W.hideAll_size _ _
def Dm{q:Obj}(h:d.get? b=j q)(o:c b=E):(od d c).get? b=j q:=
 xH _ h λf=>by have e:(c b).isSome=H:=(eI.mp f).2;rw[o]at e;simp at e
def Lp{q:Obj}(h:(od d c).get? b=j q):d.get? b=j q/\c b=E:=by
 have e:d.get? b=j q:=Lq (ub d c) h;refine⟨e,?_⟩;cases f:c b with
 |none=>rfl
 |some i=>have g:(od d c).get? b=E:=PySem.W.hideAll_none (ub d c) (eI.mpr ⟨jH.mpr (d_ e),by simp[f]⟩:b∈ub d c);rw[g]at h;cases h
structure Mod (K:bG) (mg:Str->Option ab) (base:bM):Prop where
 pa:K.In base
 jI:base.Ns oe mg
 ln:∃Dn,base.Ns xI Dn/\∀i:Str,i≠"__name__"->Dn i=uc i
 nolimit:base.NoLimit
structure bJ where
 prog:cN
 w:cr
 K:bG
 mg:Str->Option ab
 base:bM
 A:g8
 N:List Str
 s_0:aJ
 H_0:z
 env:Env
 outer:List Env
 stack:List Env
 ex:List t
 fn:Str->Bool
 calm:Bool
 pn:List (t×Obj)
 xe:ab->aJ->Prop
noncomputable def dh(n:List Env):List t:=n.filterMap (·.frame)
abbrev bJ.fs(X:bJ):List t:=dh X.outer
def pb(b:hN)(i:Str):Prop:=b.names.lookup i=j .local\/b.names.lookup i=j .cell\/b.names.lookup i=j .free
def Loc(b:hN)(i:Str):Prop:=b.names.lookup i=j .local\/b.names.lookup i=j .cell
def Look(env:Env)(d:bM)(v:Str->Option ab)(i:Str)(C:ab):Prop:=
 (env.kindOf i=j .local/\v i=j C)\/((env.kindOf i=j .cell\/env.kindOf i=j .free)/\∃b,env.cells.lookup i=j b/\d.IsCell b (j C))
structure bJ.Ok (X:bJ):Prop where
 fm:Mod X.K X.mg X.base
 kind:X.env.scope.kind= .function
 jI:X.env.globals=oe
 ln:X.env.builtins=xI
 above:X.s_0.heap.objs.size<=X.env.locals
 inj:∀i D y,X.env.cells.lookup i=j y->X.env.cells.lookup D=j y->i=D
 has:∀i,(X.env.kindOf i=j .cell\/X.env.kindOf i=j .free)->∃y,X.env.cells.lookup i=j y
 l9:∀i y,X.fn i=H->X.env.cells.lookup i=j y->X.s_0.heap.objs.size<=y
 du:X.calm=H->X.A.handled=E
 frames:X.A.frames=j X.stack
 ni:X.stack=X.outer\/(X.stack=X.env::X.outer/\X.env.frame=j X.env.locals)
 nj:∀b∈X.ex,b≠X.env.locals/\∀i y,X.env.cells.lookup i=j y->y≠b
 gp:∀b q,X.base.get? b=j q->X.s_0.heap.get? b=j q/\X.H_0 b=E
 jc:X.base.objs.size<=X.s_0.heap.objs.size
 l_:∀b q,X.base.get? b=j q->b∉X.ex
 l':∀b∈X.ex,b∉X.fs
 g9:X.s_0.heap.FunFrames X.base X.outer
 frf:∀b∈X.fs,X.H_0 b=E
structure Inv (X:bJ) (al:List (t×Obj)) (J:List (Option V)) (c:z) (l:aJ):Prop where
 ok:X.Ok
 os:l.os=X.s_0.os
 fB:nk l.gens
 base:fW X.fs X.ex X.H_0 c X.s_0.heap l.heap
 a6:∃v,l.heap.Ns X.env.locals v/\∀(k:Nat) (i:Str) (u:V),X.N[k]?=j i->J[k]?=j (j u)->pb X.env.scope i->∃C,RelV u C/\Look X.env l.heap v i C
 cell:∀i y,X.env.cells.lookup i=j y->∃u,l.heap.IsCell y u
 free:c X.env.locals=E
 hs:∀i y,X.env.cells.lookup i=j y->c y=E
 g_:∀m∈X.pn++al,l.heap.get? m.1=j m.2/\c m.1=E/\m.1≠X.env.locals/\m.1∉X.fs/\∀u,m.2.data≠.cell u
 hok:dK X.prog X.w c l.heap
 len:J.length=X.N.length
section
variable{X:bJ}{al:List (t×Obj)}{l:aJ}{J:List (Option V)}{O:z}{aY:bM}
def bJ.Ok.Lr(c:X.Ok){q:Obj}(h:X.base.get? b=j q):b∉X.fs:=λd=>by have:=(c.g9.mem d).1;rw[h]at this;cases this
theorem Inv.gp(d:Inv X al J c l):∀b q,X.base.get? b=j q->l.heap.get? b=j q/\c b=E:=λb q e=>⟨d.base.keep b q (d.ok.gp b q e).1 (d.ok.gp b q e).2 (d.ok.Lr e) (d.ok.l_ b q e),d.base.free b q (d.ok.gp b q e).1 (d.ok.gp b q e).2 (d.ok.l_ b q e)⟩
def Inv.jd(d:Inv X al J c l):∀b q,X.base.get? b=j q->l.heap.get? b=j q:=λb q e=>(d.gp b q e).1
theorem Inv.fm(b:Inv X al J c l):Mod X.K X.mg X.base:=b.ok.fm
def Inv.gM(b:Inv X al J c l):X.K.In l.heap:=b.ok.fm.pa.keeps b.jd
def Inv.ar(b:Inv X al J c l):∃v,Fr X.base X.env.locals l.heap v:=
 let⟨v,d,_⟩:=b.a6
 ⟨v,d,b.jd,b5 b.ok.jc b.ok.above⟩
theorem Inv.lt(b:Inv X al J c l):X.env.locals<l.heap.objs.size:=let⟨_,d,_⟩:=b.a6;d.lt
def Inv.de(b:Inv X al J c l):X.s_0.heap.objs.size<=l.heap.objs.size:=b5 b.ok.above (fX b.lt)
def Inv.Ls(b:Inv X al J c l)(d:l.heap.objs.size<=e):e∉X.fs:=λf=>by obtain⟨_,h,g,_⟩:=b.ok.g9.mem f;exact aq (gK (d_ g) (b5 b.de d)) (nh _)
def Inv.xJ(b:Inv X al J c l):∀i y,X.env.cells.lookup i=j y->y≠X.env.locals:=λi y f g=>by obtain⟨m,n,d,e⟩:=b.cell i y f;obtain⟨o,⟨p,q,r,h,k,_⟩,_⟩:=b.a6;rw[g,h]at d;cases d;rw[k]at e;cases e
theorem Inv.g9(e:Inv X al J c l):l.heap.FunFrames X.base X.outer:=by
 have all:∀(d:List Env),(∀f∈dh d,f∈X.fs)->X.s_0.heap.FunFrames X.base d->l.heap.FunFrames X.base d:=by
  intro d;induction d with
  |nil=>intro _ _;trivial
  |cons x y m=>intro k n;obtain⟨o,⟨b,p,g,q,r,s⟩,u⟩:=n;have h:b∈X.fs:=k b (by delta dh;rw[hn,g];exact b8);obtain⟨z,v⟩:=e.base.slot b p r (e.ok.frf b h) h λw=>e.ok.l' b w h;exact⟨o,⟨b,_,g,q,v,s⟩,m (λf i=>k f (by delta dh;rw[hn,g];exact cv _ i)) u⟩
 exact all X.outer (λ_ i=>i) e.ok.g9
theorem Inv.stack(b:Inv X al J c l):l.heap.FunFrames X.base X.stack:=by obtain d|⟨d,e⟩:=b.ok.ni;rw[d];exact b.g9;rw[d];obtain⟨g,f,_⟩:=b.a6;refine .cons (by rw[b.ok.kind];decide) e f ?_ b.g9;exact Heap.get?_none_of_le (b5 b.ok.jc b.ok.above)
def Inv.xK(f:Inv X al J c l):∀b∈dh X.stack,b∈X.env.locals::X.fs:=λb d=>by obtain e|⟨e,g⟩:=f.ok.ni;rw[e]at d;exact cv _ d;rw[e]at d;unfold dh at d;rw[hn,g]at d;exact d
def Inv.xL(d:Inv X al J c l):∀b∈dh X.stack,c b=E:=λb e=>by obtain f|e:=bm.mp (d.xK b e);rw[f];exact d.free;obtain⟨_,g,h,_⟩:=d.ok.g9.mem e;exact d.base.free b g h (d.ok.frf b e) λi=>d.ok.l' b i e
variable{cX:Nat}
def Inv.step{kv:Array GenState}{j5:Drawn}{eZ:List t}(e:Inv X al J c l)(r:∀b∈eZ,(b∈X.ex\/X.s_0.heap.objs.size<=b)/\b≠X.env.locals/\(∀i y,X.env.cells.lookup i=j y->y≠b)/\∀m∈X.pn++al,m.1≠b)(keep:∀b q,b≠X.env.locals->b∉X.fs->b∉eZ->l.heap.get? b=j q->c b=E->aY.get? b=j q)(G:∀b q,b≠X.env.locals->b∈X.fs->b∉eZ->l.heap.get? b=j q->c b=E->∃B,aY.get? b=j {q with slots:=B})(z:∀b q,b∉eZ->l.heap.get? b=j q->c b=E->O b=E)(Q:∀b q,b∉eZ->l.heap.get? b=j q->∃s,aY.get? b=j s)(R:∀b M,c b=j (.aF M)->O b=j (.aF M))(S:∀b q C,c b=j (.ci q C)->O b=j (.ci q C))(T:∀b aZ,c b=j (.o9 aZ)->∃U,O b=j (.o9 (aZ++U)))(V:∀v,l.heap.Ns X.env.locals v->aY.Ns X.env.locals v)(W:dK X.prog X.w O aY)(Y:nk kv):
  Inv X al J O {l with heap:=aY,gens:=kv,drawn:=j5,toks:=cX}:=by
 have I:∀b q,X.s_0.heap.get? b=j q->b≠X.env.locals:=λb q d=>gL (gK (d_ d) e.ok.above);have A:∀b q,X.s_0.heap.get? b=j q->b∉X.ex->b∉eZ:=λb q d f o=>by obtain g|g:=(r b o).1;exact f g;exact aq (gK (d_ d) g) (nh _)
 have K:∀i y,X.env.cells.lookup i=j y->∀k,l.heap.IsCell y k->aY.IsCell y k:=λi y d k ⟨q,p,D⟩=>by have u:y∉eZ:=λg=>(r y g).2.2.1 i y d a;by_cases L:y∈X.fs;obtain⟨B,Z⟩:=G y q (e.xJ i y d) L u p (e.hs i y d);exact⟨_,Z,D⟩;exact⟨q,keep y q (e.xJ i y d) L u p (e.hs i y d),D⟩
 refine⟨e.ok,e.os,Y,⟨λb q d h o f=>?_,λb q d h o f=>?_,λb q d h f=>?_,λb q d f=>?_,λb M d=>R b M (e.base.tups b M d),λb q M d=>S b q M (e.base.frzs b q M d),λb aZ d=>?_⟩,?_,λi y d=>?_,?_,λi y d=>?_,λm N=>?_,W,e.len⟩;exact keep b q (I b q d) o (A b q d f) (e.base.keep b q d h o f) (e.base.free b q d h f);obtain⟨B,n⟩:=e.base.slot b q d h o f;obtain⟨aa,x⟩:=G b _ (I b q d) o (A b q d f) n (e.base.free b q d h f);exact⟨aa,x⟩;obtain⟨s,n⟩:=e.base.there b q d f;exact z b s (A b q d f) n (e.base.free b q d h f);obtain⟨s,n⟩:=e.base.there b q d f;exact Q b s (A b q d f) n;obtain⟨ad,n⟩:=e.base.tbls b aZ d;obtain⟨ae,x⟩:=T b _ n;exact⟨ad++ae,by rw[x,Do]⟩;obtain⟨v,af,ah⟩:=e.a6;refine⟨v,V v af,λai i k n x aj=>?_⟩;obtain⟨C,ak,F⟩:=ah ai i k n x aj;refine⟨C,ak,?_⟩;obtain F|⟨an,y,d,g⟩:=F;exact .inl F;exact .inr ⟨an,y,d,K i y d _ g⟩;obtain⟨k,g⟩:=e.cell i y d;exact⟨k,K i y d k g⟩;obtain⟨v,⟨q,_,_,p,_⟩,_⟩:=e.a6;exact z _ q (λg=>(r _ g).2.1 a) p e.free;obtain⟨k,q,p,D⟩:=e.cell i y d;exact z y q (λg=>(r y g).2.2.1 i y d a) p (e.hs i y d);obtain⟨d,h,P,cJ,ao⟩:=e.g_ m N;have u:m.1∉eZ:=λg=>(r m.1 g).2.2.2 m N a;exact⟨keep m.1 m.2 P cJ u d h,z m.1 m.2 u d h,P,cJ,ao⟩
def Inv.un(g:Inv X al J c l)(C:fW X.fs [] c O l.heap aY)(m:dK X.prog X.w O aY):Inv X al J O {l with heap:=aY,toks:=cX}:=by
 obtain⟨u,⟨b,v,x,i,y⟩,_⟩:=id g.a6;obtain⟨z,n⟩:=C.any i g.free (by simp);exact g.step (kv:=l.gens) (j5:=l.drawn) (eZ:=[]) (λ_=>⋯) (λd b _ h _ e f=>C.keep d b e f h (by simp)) (λd b _ h _ e f=>C.slot d b e f h (by simp)) (λd b _ e f=>C.free d b e f (by simp)) (λd b _ e=>C.there d b e (by simp)) C.tups C.frzs C.tbls (λA p=>by obtain⟨B,q,r,k,s⟩:=p;rw[i]at k;cases k;exact⟨_,q,r,n,s⟩) m g.fB
def Inv.call{kv:Array GenState}{j5:Drawn}{eZ:List t}(h:Inv X al J c l)(C:fW (dh X.stack) eZ c O l.heap aY)(r:dK X.prog X.w O aY)(s:nk kv)(o:∀b∈eZ,(b∈X.ex\/X.s_0.heap.objs.size<=b)/\b≠X.env.locals/\(∀i y,X.env.cells.lookup i=j y->y≠b)/\∀m∈X.pn++al,m.1≠b):
  Inv X al J O {l with heap:=aY,gens:=kv,drawn:=j5,toks:=cX}:=by
 obtain⟨B,⟨d,D,F,p,G⟩,_⟩:=id h.a6;obtain⟨I,k⟩:=C.any p h.free λn=>(o _ n).2.1 a;exact h.step (eZ:=eZ) o (λb d k u e f g=>C.keep b d f g (λn=>(bm.mp (h.xK b n)).elim k u) e) (λb d _ _ e f g=>C.any f g e) (λb d e f g=>C.free b d f g e) (λb d e f=>C.there b d f e) C.tups C.frzs C.tbls (λK v=>by obtain⟨L,x,z,q,A⟩:=v;rw[p]at q;cases q;exact⟨_,x,z,k,A⟩) r s
def Inv.je{aQ:t}(k:Inv X al J c l)(r:∀b q,b≠aQ->l.heap.get? b=j q->aY.get? b=j q)(p:c aQ=E)(n:aQ≠X.env.locals)(s:aQ∈X.ex\/X.s_0.heap.objs.size<=aQ)(u:∀i y,X.env.cells.lookup i=j y->y≠aQ)(v:∀m∈X.pn++al,m.1≠aQ):Inv X al J c {l with heap:=aY,toks:=cX}:=by
 have o:∀b g,c b=j g->b≠aQ:=λb g d e=>by rw[e,p]at d;cases d
 refine k.step (kv:=l.gens) (j5:=l.drawn) (eZ:=[aQ]) (λb w=>?_) (λb q _ _ f d _=>r b q (λe=>f (by simp[e])) d) (λb q _ _ f d _=>⟨q.slots,r b q (λe=>f (by simp[e])) d⟩) (λ_ _ _ _ x=>x)
  (λb q f d=>⟨q,r b q (λe=>f (by simp[e])) d⟩) (λ_ _ d=>d) (λ_ _ _ d=>d) (λb G d=>⟨#[],by rw[d];simp⟩) (λI z=>?_) (λb g d=>?_) k.fB
 have d:b=aQ:=by simpa using w
 subst d;exact⟨s,n,u,v⟩;obtain⟨q,A,B,C,D⟩:=z;exact⟨q,A,B,r _ q (cU n) C,D⟩;refine(k.hok b g d).ku (λy F f h=>r y F ?_ h) (λ_ h=>h) λ_ _ h=>h;obtain e|e:=f;rw[e];exact o b g d;exact o y _ e
def Inv.eM(b:Inv X al J c l)(p:Nat):Inv X al J c {l with toks:=p}:=b.un (aY:=l.heap) (cX:=p) fW.refl b.hok
theorem Inv.kept(d:Inv X al J c l)(r:∀b C,l.heap.get? b=j C->aY.get? b=j C):Inv X al J c {l with heap:=aY,toks:=cX}:=d.un (fW.kept r) (d.hok.kept r)
theorem Inv.hr(d:Inv X al J c l)(r:∀b C,l.heap.get? b=j C->aY.get? b=j C)(f:l.heap.objs.size<=e)(g:ei X.prog X.w (U c e q) aY e q):
  Inv X al J (U c e q) {l with heap:=aY,toks:=cX}:=d.un (fW.hr r f (d.hok.fresh f)) (d.hok.hr r f g)
theorem Inv.l8{i h:t}(d:Inv X al J c l)(e:oc (c i))(f:h=i\/c h=j (.own i))(r:∀b C,b≠h->l.heap.get? b=j C->aY.get? b=j C)(g:∃C,aY.get? h=j C)(k:ei X.prog X.w (U c i q) aY i q):Inv X al J (U c i q) {l with heap:=aY,toks:=cX}:=d.un (fW.l8 e f r g) (d.hok.l8 e f r g k)
def Inv.Lu{d:List (Option V)}(b:Inv X al J c l)(e:d.length=J.length)(w:∀(k:Nat) u,d[k]?=j (j u)->J[k]?=j (j u)):Inv X al d c l:=
 ⟨b.ok,b.os,b.fB,b.base,let⟨f,g,h⟩:=b.a6;⟨f,g,λk i u m n o=>h k i u m (w k u n) o⟩,b.cell,b.free,b.hs,b.g_,b.hok,e.trans b.len⟩
def Inv.Dp{e:List (t×Obj)}(b:Inv X al J c l)(d:∀m∈e,l.heap.get? m.1=j m.2/\c m.1=E/\m.1≠X.env.locals/\m.1∉X.fs/\∀u,m.2.data≠.cell u):Inv X e J c l:=
 ⟨b.ok,b.os,b.fB,b.base,b.a6,b.cell,b.free,b.hs,λm f=>(bE.mp f).elim (λg=>b.g_ m (g5 _ g)) (d m),b.hok,b.len⟩
variable{k:Nat}{i:Str}
def xM{c:List Str}(d:c.Nodup){af:Nat}(e:c[k]?=j i)(b:c[af]?=j i):k=af:=by obtain⟨h,f⟩:=es.mp e;obtain⟨l,g⟩:=es.mp b;exact(Lv d).mp (f.trans g.symm)
variable{kw:qA}{A:g8}{B:ab->aJ->Prop}{u:V}
def xN{af:Unit->aJ->Prop}(b:Inv X al J c l)(ah:X.N.Nodup)(K:X.N[k]?=j i)(o:Loc X.env.scope i)(s:RelV u C)(d:∀aM,Inv X al (J.set k (j u)) c aM->(∃e,qB e l.heap aM.heap/\(e=X.env.locals\/X.env.cells.lookup i=j e))->af () aM)(cA:X.fn i=H\/X.env.scope.names.lookup i=j .local:=by first|exact .inl rfl|exact .inr rfl|assumption):a5 kw A (storeName X.env i C) af B l:=by
 obtain⟨av,S,ai⟩:=id b.a6;have aw:(X.env.scope.kind== .class||(X.env.scope.kind== .module&&X.env.locals !=X.env.globals))=am:=by rw[b.ok.kind];rfl
 have aj:k<J.length:=by rw[b.len];exact(es.mp K).1
 have T:=b.xJ;have ak:∀{e:t} {G:bM},(∃p,l.heap.get? e=j p/\c e=E)->qB e l.heap G->dK X.prog X.w c G:=λ{e G} ax g h ay f=>by obtain⟨_,_,an⟩:=ax;refine(b.hok h ay f).ku (λm O c7 q=>(g.2 m ?_).trans q) (λ_ q=>q) λ_ _ q=>q;rintro rfl;obtain rfl|c7:=c7;rw[an]at f;cases f;rw[an]at c7;cases c7
 obtain z|z:=o;refine wpAny_storeName_local z S (λG az g=>?_) aw;obtain⟨aA,_,_,aB,_⟩:=id S;refine d _ ⟨b.ok,b.os,b.fB,⟨λh p f r D o=>?_,λh p f r D o=>?_,b.base.free,λh p f o=>?_,b.base.tups,b.base.frzs,b.base.tbls⟩,⟨_,az,λL v U n y V=>?_⟩,λv m f=>?_,b.free,b.hs,λI W=>?_,ak ⟨aA,aB,b.free⟩ g,by simpa using b.len⟩ ⟨_,g,.inl a⟩;exact(g.2 h (gL (gK (d_ f) b.ok.above))).trans (b.base.keep h p f r D o);obtain⟨Y,n⟩:=b.base.slot h p f r D o;exact⟨Y,(g.2 h (gL (gK (d_ f) b.ok.above))).trans n⟩;obtain⟨Z,n⟩:=b.base.there h p f o;exact⟨Z,(g.2 h (gL (gK (d_ f) b.ok.above))).trans n⟩;by_cases F:L=k;subst F;rw[K]at n;cases n;rw[ud aj]at y;cases y;exact⟨C,s,.inl ⟨z,by simp⟩⟩;rw[ue (cU F)]at y;obtain⟨aa,ad,q⟩:=ai L v U n y V;refine⟨aa,ad,?_⟩;obtain⟨M,f⟩|⟨M,m,f,x⟩:=q;refine .inl ⟨M,?_⟩;have:v≠i:=λf=>F (xM ah n (f▸K));simp[this,f];exact .inr ⟨M,m,f,x.sameBut g (T v m f)⟩;obtain⟨O,x⟩:=b.cell v m f;exact⟨O,x.sameBut g (T v m f)⟩;obtain⟨f,r,P,cJ,Q⟩:=b.g_ I W;exact⟨(g.2 I.1 P).trans f,r,P,cJ,Q⟩;have ae:X.fn i=H:=by obtain x|x:=cA;exact x;rw[x]at z;cases z
 obtain⟨m,c7⟩:=b.ok.has i (.inl z);obtain⟨O,x⟩:=b.cell i m c7;refine wpAny_storeName_cell b.ok.kind z c7 x (λG ao g=>?_);obtain⟨ap,ar,aC⟩:=id x;refine d {l with heap:=G} ⟨b.ok,b.os,b.fB,⟨λh p f r D o=>?_,λh p f r D o=>?_,b.base.free,λh p f o=>?_,b.base.tups,b.base.frzs,b.base.tbls⟩,⟨av,S.sameBut g (cU (T i m c7)),λL v U n y V=>?_⟩,λv R f=>?_,b.free,b.hs,λI W=>?_,ak ⟨ap,ar,b.hs i m c7⟩ g,by simpa using b.len⟩ ⟨m,g,.inr c7⟩;exact(g.2 h (gL (gK (d_ f) (b.ok.l9 i m ae c7)))).trans (b.base.keep h p f r D o);obtain⟨Y,n⟩:=b.base.slot h p f r D o;exact⟨Y,(g.2 h (gL (gK (d_ f) (b.ok.l9 i m ae c7)))).trans n⟩;obtain⟨Z,n⟩:=b.base.there h p f o;exact⟨Z,(g.2 h (gL (gK (d_ f) (b.ok.l9 i m ae c7)))).trans n⟩;by_cases F:L=k;subst F;rw[K]at n;cases n;rw[ud aj]at y;cases y;exact⟨C,s,.inr ⟨.inl z,m,c7,ao⟩⟩;rw[ue (cU F)]at y;obtain⟨aa,ad,q⟩:=ai L v U n y V;refine⟨aa,ad,?_⟩;obtain q|⟨M,R,f,aE⟩:=q;exact .inl q;refine .inr ⟨M,R,f,aE.sameBut g ?_⟩;rintro rfl;exact F (xM ah n (b.ok.inj _ _ _ f c7▸K));by_cases au:R=m;subst au;exact⟨_,ao⟩;obtain⟨aF,aG⟩:=b.cell v R f;exact⟨aF,aG.sameBut g au⟩;obtain⟨f,r,P,cJ,Q⟩:=b.g_ I W;refine⟨(g.2 I.1 ?_).trans f,r,P,cJ,Q⟩;intro q;rw[q,ar]at f;exact Q O (by rw[<-(dP f:ap=I.2)];exact aC)
def xO{b:Unit->aJ->Prop}(e:Inv X al J c l)(f:X.N.Nodup)(g:X.N[k]?=j i)(h:Loc X.env.scope i)(s:RelV u C)(d:∀aM,Inv X al (J.set k (j u)) c aM->b () aM)(cA:X.fn i=H\/X.env.scope.names.lookup i=j .local:=by first|exact .inl rfl|exact .inr rfl|assumption):a5 kw A (storeName X.env i C) b B l:=
 xN e f g h s (λaM m _=>d aM m) cA
def Inv.xP{aM:aJ}{eZ:List t}(d:Inv X al J c l)(e:aM.os=l.os)(C:fW (dh X.stack) eZ c O l.heap aM.heap)(f:dK X.prog X.w O aM.heap)(g:nk aM.gens)(h:∀b∈eZ,(b∈X.ex\/X.s_0.heap.objs.size<=b)/\b≠X.env.locals/\(∀i y,X.env.cells.lookup i=j y->y≠b)/\∀m∈X.pn++al,m.1≠b):Inv X al J O aM:=by obtain⟨o,kv,j5,cX,k⟩:=aM;have n:k=l.os:=e;subst n;exact d.call (kv:=kv) (cX:=cX) (j5:=j5) C f g h
end
abbrev bn:=ab->Option t->z->Prop
abbrev St:=List (Option V)
abbrev aW:=V->z->Prop
abbrev bu:=St->z->aW->Prop
abbrev TT:=St->z->(Bool->z->Prop)->Prop
abbrev ba:=St->z->(List V->z->Prop)->Prop
structure Ends where
 bb:St->z->Prop
 lp:aW
 jd:St->z->Prop:=λ_ _=>False
 ma:St->z->Prop:=λ_ _=>False
abbrev dz:=Ends->St->z->Prop
inductive Dq(X:bJ)(al:List (t×Obj))(b:St)(c:aW)(C:ab)(aM:aJ):Prop|mk:∀d e,Inv X al b e aM->RelV d C->c d e->Dq X al b c C aM
def fC(X:bJ)(al:List (t×Obj))(b:St)(c:aW)(C:ab)(aM:aJ):Prop:=Dq X al b c C aM
def bF(X:bJ)(al:List (t×Obj))(d:St)(e:Bool->z->Prop)(b:Bool)(aM:aJ):Prop:=∃c,Inv X al d c aM/\e b c
inductive Dr(X:bJ)(al:List (t×Obj))(b:St)(c:List V->z->Prop)(aP:List ab)(aM:aJ):Prop|mk:∀d e,Inv X al b e aM->bW d aP->c d e->Dr X al b c aP aM
def Lw(X:bJ)(al:List (t×Obj))(b:St)(c:List V->z->Prop)(aP:List ab)(aM:aJ):Prop:=Dr X al b c aP aM
def jJ(X:bJ)(al:List (t×Obj))(d:Ends)(f:Flow)(aM:aJ):Prop:=
 match f with
 | .next=>∃c b,Inv X al c b aM/\d.bb c b
 | .brk=>∃c b,Inv X al c b aM/\d.jd c b
 | .cont=>∃c b,Inv X al c b aM/\d.ma c b
 | .ret C=>∃e c b,Inv X al c b aM/\RelV e C/\d.lp e b
def a8(X:bJ)(h:ce)(p:bu):Prop:=
 ∀(d:List (t×Obj)) (e:aJ) (b:St) (c:z) (f:aW),Inv X d b c e->p b c f->a5 (a' X.prog X.w) X.A (cb h X.env) (fC X d b f) X.xe e
def jf(X:bJ)(h:ce)(p:TT):Prop:=
 ∀(d:List (t×Obj)) (e:aJ) (b:St) (c:z) (f:Bool->z->Prop),Inv X d b c e->p b c f->a5 (a' X.prog X.w) X.A (uf h X.env (cb h X.env)) (bF X d b f) X.xe e
def ht(X:bJ)(h:ce)(p:TT):Prop:=
 ∀(g:Sem ab) (d:List (t×Obj)) (e:aJ) (b:St) (c:z) (f:Bool->z->Prop),Inv X d b c e->p b c f->a5 (a' X.prog X.w) X.A (uf h X.env g) (bF X d b f) X.xe e
variable{X:bJ}{h:ce}
def ht.lq{p:TT}(d:ht X h p):jf X h p:=d _
def hO(X:bJ)(ap:List ce)(p:ba):Prop:=
 ∀(g:Pos) (d:List (t×Obj)) (e:aJ) (b:St) (c:z) (f:List V->z->Prop),Inv X d b c e->p b c f->a5 (a' X.prog X.w) X.A (spliced (gq g (da ap X.env))) (Lw X d b f) X.xe e
def fY(X:bJ)(st:be)(p:dz):Prop:=
 ∀(b:List (t×Obj)) (d:aJ) (e:St) (c:z) (f:Ends),Inv X b e c d->p f e c->a5 (a' X.prog X.w) X.A (exec st X.env) (jJ X b f) X.xe d
def fZ(X:bJ)(st:List be)(p:dz):Prop:=
 ∀(b:List (t×Obj)) (d:aJ) (e:St) (c:z) (f:Ends),Inv X b e c d->p f e c->a5 (a' X.prog X.w) X.A (execs st X.env) (jJ X b f) X.xe d
variable{kw:qA}{A:g8}{B:ab->aJ->Prop}{l:aJ}
def bB{b:Type}{p:Sem b}{c f:b->aJ->Prop}(d:a5 kw A p c B l)(g:∀e l,c e l->f e l):a5 kw A p f B l:=h_ d g λ_ _ h=>h
section
variable{dD:bu}{al:List (t×Obj)}{J:St}
def bin{e b:ce}{cl:bu}(o:a8 X e dD)(p:a8 X b cl){R:V->V->z->Prop}(q:Inv X al J c l)(d:dD J c λi k=>cl J k λD g=>R i D g){m:Type}{n:m->aJ->Prop}{f:ab->ab->Sem m}(cA:∀u C h i D g,Inv X al J g h->RelV i u->RelV D C->R i D g->a5 (a' X.prog X.w) X.A (f u C) n X.xe h):
  a5 (a' X.prog X.w) X.A (cb e X.env) (λu r=>a5 (a' X.prog X.w) X.A (cb b X.env) (λC s=>a5 (a' X.prog X.w) X.A (f u C) n X.xe s) X.xe r) X.xe l:=by
 refine bB (o al l J c _ q d) λu v ⟨i,k,x,y,B⟩=>?_;refine bB (p al v J k _ x B) λC h ⟨D,g,F,G,I⟩=>?_;exact cA u C h i D g F y G I
inductive cD(k:Nat)(b:bT.St)(c:z)(d:aW):Prop|mk:∀e,b[k]?=j (j e)->d e c->cD k b c d
def ff(u:V):bu:=λ_ c b=>b u c
variable{k:Nat}{i:Str}{aT:Pos}
def Lx(l:X.N[k]?=j i)(m:pb X.env.scope i)(e:(i==("__debug__":Str))=am:=by decide)(n:(i==("__classdict__":Str))=am:=by decide):a8 X (.Name i aT) (cD k):=by intro o p q r s c d;obtain⟨f,u,d⟩:=d;obtain⟨B,v,w⟩:=c.a6;obtain⟨x,y,z⟩:=w k i f l u m;have bL:fC X o q s x p:=⟨f,r,c,y,d⟩;obtain⟨b,A⟩|⟨b,C,g,h⟩:=z;exact Ds (Ly c.ok.kind b v A bL) e;obtain b|b:=b;exact Ds (Lz c.ok.kind b g h bL) e;exact Ds (wpAny_loadName_free c.ok.kind b g h bL n) e
def bt{k af aT}:a8 X (.Constant (.int k) af aT) (ff (.int k)):=λ_ _ _ b _ c d=>wpAny_Constant_int ⟨.int k,b,c.eM _,⟨_,a⟩,d⟩
def of{b af aT}:a8 X (.Constant (.bool b) af aT) (ff (.bl b)):=λ_ _ _ c _ e d=>Constant_bool ⟨.bl b,c,e,a,d⟩
def jK{af aT}:a8 X (.Constant .none af aT) (ff .aL):=λ_ _ _ b _ c d=>Constant_none ⟨.aL,b,c,a,d⟩
def c_{i af aT}:a8 X (.Constant (.str i) af aT) (ff (.str i)):=λ_ _ _ b _ c d=>Calls.Constant_str ⟨.str i,b,c.eM _,⟨_,a⟩,d⟩
def gN(X:bJ)(i:Str):Prop:=X.env.kindOf i=j .globalImplicit
variable{bc:ab->aJ->Prop}
def pc(b:Inv X al J c l)(e:gN X i)(f:X.mg i=j C)(d:bc C l)(g:(i==("__debug__":Str))=am:=by decide):a5 (a' X.prog X.w) X.A (cb (.Name i aT) X.env) bc B l:=
 LA b.ok.kind e (Calls.loadGlobal_global (by rw[b.ok.jI];exact b.fm.jI.keeps b.jd) f d) g
def ug(b:Inv X al J c l)(e:gN X i)(f:X.mg i=E)(g:uc i=j C)(d:bc C l)(h:i≠"__name__":=by decide)(k:(i==("__debug__":Str))=am:=by decide):a5 (a' X.prog X.w) X.A (cb (.Name i aT) X.env) bc B l:=by obtain⟨o,m,n⟩:=b.fm.ln;exact LA b.ok.kind e (Calls.loadGlobal_builtin (by rw[b.ok.jI];exact b.fm.jI.keeps b.jd) f (by rw[b.ok.ln];exact m.keeps b.jd) ((n i h).trans g) d) k
variable{u:V}
def bQ(c:gN X i)(e:X.mg i=j C)(s:RelV u C)(f:(i==("__debug__":Str))=am:=by decide):a8 X (.Name i aT) (ff u):=
 λ_ _ _ g _ b d=>pc b c e ⟨u,g,b,s,d⟩ f
variable{e b:ce}{cl:bu}
def r_(X:bJ)(d:CmpOp)(e b:ce)(p:bu):Prop:=
 ∀(al:List (t×Obj)) (l:aJ) (J:St) (c:z) (bc:aW),Inv X al J c l->p J c bc->a5 (a' X.prog X.w) X.A (cb e X.env) (λu f=>a5 (a' X.prog X.w) X.A (cb b X.env) (λC g=>a5 (a' X.prog X.w) X.A (h' d u C) (fC X al J bc) X.xe g) X.xe f) X.xe l
inductive Dt(b:Bool->z->Prop)(i:V)(c:z):Prop|mk:∀d,i= .bl d->b d c->Dt b i c
def lr(p:bu):TT:=λJ c bc=>p J c λi b=>Dt bc i b
variable{gr:CmpOp}
def Du{p:bu}(d:r_ X gr e b p)(c:r' gr b=am:=by first|exact m _ nofun nofun|rfl):a8 X (.Compare e [gr] [b] aT) p:=λf g h i k l hw=>wpAny_Compare1 (d f g h i k l hw) c
def mb{p:bu}(d:r_ X gr e b p)(c:r' gr b=am:=by first|exact s _ nofun nofun|rfl):jf X (.Compare e [gr] [b] aT) (lr p):=by intro f g h i u k hw;refine LB (bB (d f g h i _ k hw) λv w c=>bB c λx y l=>bB l λz A ⟨B,m,n,o,q⟩=>?_) c;obtain⟨C,rfl,r⟩:=q;cases o;exact sa ⟨m,n,r⟩
def mc{p:bu}(d:a8 X h p)(c:∀b,uf h X.env b=(do let u<-b;qC h.pos;holding [u] (truthy u)):=by intro _;rfl):jf X h (lr p):=by intro e f g i r k hw;refine isTrue_plain (bB (d e f g i _ k hw) λu s ⟨v,l,m,n,o⟩=>?_) (c _);obtain⟨w,rfl,q⟩:=o;cases n;exact sa ⟨l,m,q⟩
variable{kx uh:TT}{ls:List ce}
def Dv(p C:TT):TT:=λJ c bc=>p J c λd b=>if d=H then C J b bc else bc am b
def LC(p C:TT):TT:=λJ c bc=>p J c λd b=>if d=H then bc H b else C J b bc
def LD(p:TT):TT:=λJ c bc=>p J c λb d=>bc (!b) d
def ui(c:jf X e kx):ht X (.BoolOp .And [e] aT) kx:=by
 intro n f g h i k l d;refine isTrue_and (bB (c f g h i k l d) λm o b=>?_);cases m with
 |true=>exact isTrue_and_nil b
 |false=>exact b
def pd(c:jf X e kx):ht X (.BoolOp .Or [e] aT) kx:=by
 intro n f g h i k l d;refine isTrue_or (bB (c f g h i k l d) λm o b=>?_);cases m with
 |false=>exact isTrue_or_nil b
 |true=>exact b
def uj(k:jf X e kx)(l:ht X (.BoolOp .And (b::ls) aT) uh):ht X (.BoolOp .And (e::b::ls) aT) (Dv kx uh):=by
 intro m c n f o p q d;refine isTrue_and (bB (k c n f o _ q d) λr s ⟨g,h,i⟩=>?_);cases r with
 |true=>exact l m c s f g p h i
 |false=>exact⟨g,h,i⟩
def og(k:jf X e kx)(l:ht X (.BoolOp .Or (b::ls) aT) uh):ht X (.BoolOp .Or (e::b::ls) aT) (LC kx uh):=by
 intro m c n f o p q d;refine isTrue_or (bB (k c n f o _ q d) λr s ⟨g,h,i⟩=>?_);cases r with
 |true=>exact⟨g,h,i⟩
 |false=>exact l m c s f g p h i
def sb(b:jf X e kx):jf X (.UnaryOp .Not e aT) (LD kx):=by intro c f g h i k d;exact isTrue_not (b c f g h (λl m=>i (!l) m) k d)
inductive Dw(cl:bu)(d:bT.St)(b:aW)(i:V)(c:z):Prop|mk:∀e,i= .bl e->(if e=H then cl d c b else b (.bl am) c)->Dw cl d b i c
def LF(b cl:bu):bu:=λJ c bc=>b J c λi d=>Dw cl J bc i d
inductive Dx(cl:bu)(d:bT.St)(b:aW)(i:V)(c:z):Prop|mk:∀e,i= .bl e->(if e=H then b (.bl H) c else cl d c b)->Dx cl d b i c
def LG(b cl:bu):bu:=λJ c bc=>b J c λi d=>Dx cl J bc i d
inductive Dy(b:aW)(i:V)(c:z):Prop|mk:∀d,i= .bl d->b (.bl (!d)) c->Dy b i c
def LH(b:bu):bu:=λJ c bc=>b J c λi d=>Dy bc i d
def Dz{gr}{p:bu}(d:a8 X e p):a8 X (.BoolOp gr [e] aT) p:=λb c f g h i hw=>BoolOp_one (d b c f g h i hw)
def DA(k:a8 X e dD)(l:a8 X (.BoolOp .And (b::ls) aT) cl):a8 X (.BoolOp .And (e::b::ls) aT) (LF dD cl):=by
 intro f m g n o p d;refine BoolOp_and (bB (k f m g n _ p d) λu q ⟨v,h,i,r,c⟩=>?_);obtain⟨s,rfl,c⟩:=c;cases r;refine sa ?_;cases s with
 |true=>exact l f q g h o i c
 |false=>exact⟨.bl am,h,i,a,c⟩
def LI(k:a8 X e dD)(l:a8 X (.BoolOp .Or (b::ls) aT) cl):a8 X (.BoolOp .Or (e::b::ls) aT) (LG dD cl):=by
 intro f m g n o p d;refine BoolOp_or (bB (k f m g n _ p d) λu q ⟨v,h,i,r,c⟩=>?_);obtain⟨s,rfl,c⟩:=c;cases r;refine sa ?_;cases s with
 |false=>exact l f q g h o i c
 |true=>exact⟨.bl H,h,i,a,c⟩
def LJ(c:a8 X e dD):a8 X (.UnaryOp .Not e aT) (LH dD):=by intro f g h i p k d;refine UnaryOp_ (bB (c f g h i _ k d) λq r ⟨s,l,m,n,b⟩=>?_);obtain⟨o,rfl,b⟩:=b;cases n;exact not_of (sa ⟨.bl (!o),l,m,a,b⟩)
def LK(p:TT)(d cl:bu):bu:=λJ c bc=>p J c λe b=>if e=H then d J b bc else cl J b bc
variable{y:ce}
def xQ(m:jf X y kx)(n:a8 X e dD)(o:a8 X b cl):a8 X (.IfExp y e b aT) (LK kx dD cl):=by
 intro c p f q g r d;refine wpAny_IfExp (bB (m c p f q _ r d) λs h ⟨i,k,l⟩=>?_);cases s with
 |true=>exact n c h f i g k l
 |false=>exact o c h f i g k l
end
def an(K:bG)(c:z)(e:t)(M:List V):Prop:=
 bA c e (.L M)\/∃(q:Obj) (b:Array ab) (d:Nat),K.lookup e=j q/\q.cls= .type "list"/\q.dict=E/\q.data= .seq b d/\b.size<=aD/\bW M b.toList
def ej(K:bG)(c:z)(e:t)(M:List V):Prop:=
 bA c e (.aF M)\/∃(q:Obj) (b:Array ab) (d:Nat),K.lookup e=j q/\q.cls= .type "tuple"/\q.data= .seq b d/\b.size<=aD/\bW M b.toList
noncomputable def LL:ab->Option V
 | .none=>j .aL
 | .bool b=>j (.bl b)
 | .int c _=>j (.int c)
 | .str d _=>j (.str d)
 | .bytes b _=>j (.iI b)
 | .float b _=>j (.ua b)
 | .ref e=>j (.ref e)
 | .type f=>j (.gJ f)
 |_=>E
def RelV.abs{i:V}(s:RelV i C):LL C=j i:=by
 cases i with
 |aL=>cases s;rfl
 |bl _=>cases s;rfl
 |int _=>obtain⟨b,rfl⟩:=s;rfl
 |str _=>obtain⟨b,rfl⟩:=s;rfl
 |iI _=>obtain⟨b,rfl⟩:=s;rfl
 |ua _=>obtain⟨b,rfl⟩:=s;rfl
 |ref _=>cases s;rfl
 |gJ _=>cases s;rfl
theorem RelV.inj{i D:V}(s:RelV i C)(ao:RelV D C):i=D:=dP (s.abs.symm.trans ao.abs)
theorem bW.inj:∀{M aN:List V} {aP:List ab},bW M aP->bW aN aP->M=aN
 |_,_,_,.nil,.nil=>rfl
 |_,_,_,.cons b c,.cons d e=>by rw[b.inj d,bW.inj c e]
variable{al:List (t×Obj)}{J:St}{K:bG}
section
variable{M aN:List V}
def an.au(d:c e=j (.L M)):an K c e M:=.inl (.inl d)
def ej.au(d:c e=j (.aF M)):ej K c e M:=.inl (.inl d)
def Inv.list(i:Inv X al J c l)(d:an X.K c e M):∃b:List ab,bW M b/\PlainL l.heap e b.toArray/\M.length<=aD:=by obtain d|⟨k,b,g,m,n,o,p,r,f⟩:=d;obtain⟨q,b,g,f,h⟩:=d.ok i.hok;exact⟨b,f,⟨_,g,h,a,a,a⟩,q⟩;refine⟨b.toList,f,⟨k,g,i.gM e k m,n,o,by simpa using p⟩,?_⟩;have h:=f.length;simp only[LM]at h;omega
def Inv.tuple(g:Inv X al J c l)(d:ej X.K c e M):∃b:List ab,bW M b/\IsTup l.heap e b.toArray/\M.length<=aD:=by obtain d|⟨h,b,i,k,m,n,r,f⟩:=d;obtain⟨o,b,f,p⟩:=d.ok g.hok;exact⟨b,f,p,o⟩;refine⟨b.toList,f,⟨h,g.gM e h k,m,i,by simpa using n⟩,?_⟩;have q:=f.length;simp only[LM]at q;omega
def Inv.DB(b:Inv X al J c l)(d:an X.K c e M)(aY:an X.K c e aN):M=aN:=by
 obtain⟨h,i,⟨q,r,k,_,_,m⟩,_⟩:=b.list d;obtain⟨n,o,⟨s,u,f,_,_,g⟩,_⟩:=b.list aY;rw[k]at f;cases f;rw[m]at g;injection g with p _;have:h=n:=by simpa using dZ LN p
 subst this;exact i.inj o
end
abbrev bJ.wish(X:bJ)(B:ab->aJ->Prop):bJ:={X with xe:=B}
abbrev bJ.nox(X:bJ):bJ:=X.wish λ_ _=>False
theorem bJ.Ok.wish(b:X.Ok)(B:ab->aJ->Prop):(X.wish B).Ok:=
 ⟨b.fm,b.kind,b.jI,b.ln,b.above,b.inj,b.has,b.l9,b.du,b.frames,b.ni,b.nj,b.gp,b.jc,b.l_,b.l',b.g9,b.frf⟩
def bJ.Ok.oh(b:(X.wish B).Ok):X.Ok:=
 ⟨b.fm,b.kind,b.jI,b.ln,b.above,b.inj,b.has,b.l9,b.du,b.frames,b.ni,b.nj,b.gp,b.jc,b.l_,b.l',b.g9,b.frf⟩
theorem Inv.wish(b:Inv X al J c l)(B:ab->aJ->Prop):Inv (X.wish B) al J c l:=⟨b.ok.wish B,b.os,b.fB,b.base,b.a6,b.cell,b.free,b.hs,b.g_,b.hok,b.len⟩
theorem Inv.oh(b:Inv (X.wish B) al J c l):Inv X al J c l:=⟨b.ok.oh,b.os,b.fB,b.base,b.a6,b.cell,b.free,b.hs,b.g_,b.hok,b.len⟩
theorem jJ.oh{h:Ends}{f:Flow}{aM:aJ}(d:jJ (X.wish B) al h f aM):jJ X al h f aM:=by
 cases f with
 |next=>obtain⟨b,c,e,g⟩:=d;exact⟨b,c,e.oh,g⟩
 |brk=>obtain⟨b,c,e,g⟩:=d;exact⟨b,c,e.oh,g⟩
 |cont=>obtain⟨b,c,e,g⟩:=d;exact⟨b,c,e.oh,g⟩
 |ret l=>obtain⟨i,b,c,e,k,g⟩:=d;exact⟨i,b,c,e.oh,k,g⟩
theorem fZ.nox{st:List be}{p:dz}(d:fZ X.nox st p):fZ X st p:=λb c e f g h hw=>h_ (d b c e f g (h.wish _) hw) (λ_ _ i=>i.oh) λ_ _ k=>hu k
section
variable{bj:bu}{aT:Pos}{st:be}{ls:List be}{p C:dz}
def DC:dz:=λb J c=>b.bb J c
def xR(p C:dz):dz:=λb J c=>p {b with bb:=C b} J c
def cO:fZ X [] DC:=λ_ _ b c _ e d=>sc ⟨b,c,e,d⟩
def ay(f:fY X st p)(g:fZ X ls C):fZ X (st::ls) (xR p C):=by
 intro e h i k c l d;refine wpAny_execs_cons (bB (f e h i k {c with bb:=C c} l d) λm n b=>?_);cases m with
 |next=>obtain⟨o,q,r,b⟩:=b;exact g e n o q c r b
 |ret s=>exact b
 |brk=>exact b
 |cont=>exact b
def aA(c:fY X st p):fZ X [st] p:=by
 intro e f g h i k d;refine wpAny_execs_cons (bB (c e f g h i k d) λl m b=>?_);cases l with
 |next=>exact sc b
 |ret n=>exact b
 |brk=>exact b
 |cont=>exact b
def DD:fY X (.Pass aT) DC:=λ_ _ b c _ e d=>wpAny_Pass ⟨b,c,e,d⟩
def Inv.quiet(b:Inv X al J c l):interactive X.env=am:=by simp[interactive,b.ok.kind]
def xS(bj:bu):dz:=λb J c=>bj J c λ_ d=>b.bb J d
def c'(e:a8 X h bj)(f:pe h E aT.line X.env=pure am:=by rfl):fY X (.Expr h aT) (xS bj):=by intro g i b k o c d;exact wpAny_Expr_any (bB (e g i b k _ c d) λp q ⟨r,l,m,s,n⟩=>⟨b,l,m,n⟩) c.quiet f
def DE(bj:bu):dz:=λb J c=>bj J c b.lp
def bx(c:a8 X h bj):fY X (.Return (j h) aT) (DE bj):=by intro e f b g p i d;exact wpAny_Return_some (bB (c e f b g _ i d) λq r ⟨k,l,m,n,o⟩=>⟨k,b,l,m,n,o⟩)
def LO(y:TT)(p C:dz):dz:=λd J c=>y J c λb e=>if b=H then p d J e else C d J e
variable{y:ce}
def cp{e b:List be}{g:TT}(n:jf X y g)(o:fZ X e p)(q:fZ X b C):fY X (.If y e b aT) (LO g p C):=by
 intro c r f s h u d;refine wpAny_If (bB (n c r f s _ u d) λv i ⟨k,l,m⟩=>?_);cases v with
 |true=>exact o c i f k h l m
 |false=>exact q c i f k h l m
def LP:dz:=λ_ _ _=>False
def DF:fY X st LP:=λ_ _ _ _ _ _ d=>d.elim
end
abbrev f0:=V->St->z->(St->z->Prop)->Prop
abbrev qD:=List V->St->z->(St->z->Prop)->Prop
def lu(X:bJ)(g:ce)(p:f0):Prop:=
 ∀(al:List (t×Obj)) (l:aJ) (J:St) (c:z) (b:V) (C:ab) (d:St->z->Prop),Inv X al J c l->RelV b C->p b J c d->a5 (a' X.prog X.w) X.A (assign g X.env C) (λ_ h=>∃e f,Inv X al e f h/\d e f) X.xe l
def uk(X:bJ)(g:List ce)(p:qD):Prop:=
 ∀(al:List (t×Obj)) (l:aJ) (J:St) (c:z) (b:List V) (aP:List ab) (d:St->z->Prop),Inv X al J c l->bW b aP->p b J c d->a5 (a' X.prog X.w) X.A (assignInOrder ((sd g X.env).map (·.2)) aP) (λ_ h=>∃e f,Inv X al e f h/\d e f) X.xe l
abbrev xT:=V->V->V->z->(z->Prop)->Prop
def DG(X:bJ)(p:xT):Prop:=
 ∀(al:List (t×Obj)) (l:aJ) (J:St) (c:z) (q b d:V) (e f C:ab) (g:z->Prop),Inv X al J c l->RelV q e->RelV b f->RelV d C->p q b d c g->a5 (a' X.prog X.w) X.A (setItem e f C) (λ_ i=>∃h,Inv X al J h i/\g h) X.xe l
abbrev xU:=V->V->z->aW->Prop
def LQ(X:bJ)(g:ul)(p:xU):Prop:=
 ∀(al:List (t×Obj)) (l:aJ) (J:St) (c:z) (b d:V) (e C:ab) (f:aW),Inv X al J c l->RelV b e->RelV d C->p b d c f->a5 (a' X.prog X.w) X.A (xV g e C) (fC X al J f) X.xe l
variable{aT:Pos}{k r:Nat}{i:Str}{ap:List ce}{cE:ce}{bj:bu}
def d0(k:Nat):f0:=λb J c d=>d (J.set k (j b)) c
def cF(b:X.N.Nodup)(c:X.N[k]?=j i)(e:Loc X.env.scope i)(cA:X.fn i=H\/X.env.scope.names.lookup i=j .local:=by first|exact .inl rfl|exact .inr rfl|assumption):lu X (.Name i aT) (d0 k):=by intro m n o f p q r g h d;exact DH (xO g b c e h (λs l=>⟨_,f,l,d⟩) cA)
def pf:qD:=λb J c d=>b=[]/\d J c
inductive jL(p:f0)(C:qD)(G:List V)(b:bT.St)(c:z)(d:bT.St->z->Prop):Prop|mk:∀e f,G=e::f->(p e b c λg h=>C f g h d)->jL p C G b c d
def ky:uk X [] pf:=by intro h i b c k l m e f d;obtain⟨g,d⟩:=d;subst g;cases f;exact assignInOrder_nil ⟨b,c,e,d⟩
def fo{p:f0}{C:qD}(e:lu X h p)(f:uk X ap C)(g:(sd (h::ap) X.env).map (·.2)=assign h X.env::(sd ap X.env).map (·.2):=by rfl):uk X (h::ap) (jL p C):=by
 intro c i k l x y m n b d;obtain⟨z,A,o,d⟩:=d;subst o;cases b with
 |cons b q=>rw[g];refine assignInOrder_cons (bB (e c i k l _ _ _ n b d) λ_ r ⟨s,u,v,w⟩=>?_);exact f c r s u _ _ m v q w
inductive oi(K:bG)(o:Nat)(p:qD)(u:V)(d:bT.St)(c:z)(f:bT.St->z->Prop):Prop|mk:∀e b,u= .ref e->ej K c e b->b.length=o->p b d c f->oi K o p u d c f
def kz{p:qD}{o:Nat}(k:X.calm=H)(d:uk X ap p)(l:(sd ap X.env).length=o:=by rfl)(m:(sd ap X.env).findIdx? (·.1)=E:=by rfl):lu X (.Tuple ap r aT) (oi X.K o p):=by intro c e f g D F n b q hw;obtain⟨G,s,u,v,w,hw⟩:=hw;subst u;cases q;obtain⟨I,h,x,J⟩:=b.tuple v;refine assign_Tuple_tuple (b.ok.du k) x (by simp[l,<-w,h.length]) m λy z=>?_;have A:Inv X c f g {e with heap:=y}:=b.kept (cX:=e.toks) λB C i=>z B C (gL (d_ i)) i;exact d c _ f g s _ n A (by simpa using h) hw
def LR(b d:bu)(p:xT):f0:=λe J c f=>b J c λq g=>d J g λk h=>p q k e h λi=>f J i
def LS{q k:ce}{g h:bu}{p:xT}(i:a8 X q g)(l:a8 X k h)(m:DG X p)(n:∀u,assign (.Subscript q k aT) X.env u=(do
   let b<-holding [u] (cb q X.env)
   let c<-holding [u,b] (cb k X.env)
   qC aT
   holding [u,b,c] (setItem b c u)
   release [u,b,c] []):=by intro _;rfl):lu X (.Subscript q k aT) (LR g h p):=by
 intro f o e r u s O v w d;rw[n];refine bv (um (bB (i f o e r _ v d) λb x ⟨y,z,A,B,C⟩=>?_));refine bv (um (bB (l f x e z _ A C) λc D ⟨F,G,I,J,K⟩=>?_));refine bv (xW (bv (um (bB (m f D e G y F u b c s _ I B J w K) λ_ P ⟨L,M,N⟩=>?_))));exact wpAny_release ⟨e,L,M,N⟩
def se(bj:bu)(g:f0):dz:=λb J c=>bj J c λi d=>g i J d b.bb
def LU{g:f0}(e:a8 X h bj)(f:lu X cE g)(i:swapsWithSole [cE] h aT.line X.env=pure am:=by rfl)(hw:swappedStores [cE] h X.env=pure E:=by rfl)(k:(sd [cE] X.env).map (·.2)=[assign cE X.env]:=by rfl):fY X (.Assign [cE] h aT) (se bj g):=by intro b l c m x n d;refine wpAny_Assign_stores (bB (e b l c m _ n d) λo p ⟨q,r,s,u,v⟩=>?_) i hw;rw[k];exact bB (f b p c r q o _ s u v) λ_ y w=>w
def bZ{b:Pos}(c:X.N.Nodup)(e:X.N[k]?=j i)(f:Loc X.env.scope i)(g:a8 X h bj)(l:pe h (j (.Name i b)) aT.line X.env=pure am:=by rfl)(cA:X.fn i=H\/X.env.scope.names.lookup i=j .local:=by first|exact .inl rfl|exact .inr rfl|assumption):
  fY X (.Assign [.Name i b] h aT) (se bj (d0 k)):=by
 intro m n o p x q d;refine wpAny_Assign_Name (bB (g m n o p _ q d) λy z ⟨A,r,s,u,v⟩=>?_) l;exact xO s c e f u (λB w=>⟨_,r,w,v⟩) cA
inductive DI(k:Nat)(bj:bu)(d:xU)(e:Ends)(b:bT.St)(c:z):Prop|mk:∀i,b[k]?=j (j i)->(bj b c λf g=>d i f g λh l=>e.bb (b.set k (j h)) l)->DI k bj d e b c
def LV{e:ul}{n:xU}{x:Pos}(y:X.N.Nodup)(o:X.N[k]?=j i)(f:Loc X.env.scope i)(z:a8 X h bj)(B:LQ X e n)(cA:X.fn i=H\/X.env.scope.names.lookup i=j .local:=by first|exact .inl rfl|exact .inr rfl|assumption):
  fY X (.AugAssign (.Name i x) e h aT) (DI k bj n):=by
 intro g p q C D c d;obtain⟨s,F,d⟩:=d;obtain⟨af,G,I⟩:=c.a6;have J:pb X.env.scope i:=by obtain r|r:=f;exact .inl r;exact .inr (.inl r)
 obtain⟨u,l,K⟩:=I k i s o F J;refine wpAny_AugAssign_Name ?_;have v:a5 (a' X.prog X.w) X.A (cb h X.env) (λm L=>a5 (a' X.prog X.w) X.A (xV e u m) (λl M=>a5 (a' X.prog X.w) X.A (storeName X.env i l) (λ_=>jJ X g D .next) X.xe M) X.xe L) X.xe p:=by refine bB (z g p q C _ c d) λm O ⟨P,Q,R,S,T⟩=>?_;refine bB (B g O q Q s P u m _ R l S T) λah ai ⟨aj,U,V,W,Y⟩=>?_;exact xO V y o f W (λak Z=>⟨_,U,Z,Y⟩) cA
 obtain⟨b,aa⟩|⟨b,al,ad,ae⟩:=K;exact Ly c.ok.kind b G aa v;obtain b|b:=b;exact Lz c.ok.kind b ad ae v;obtain r|r:=f;have:X.env.scope.names.lookup i=j .free:=b;rw[r]at this;cases this;have:X.env.scope.names.lookup i=j .free:=b;rw[r]at this;cases this
variable{y:ce}{pg:List be}
inductive DJ(y:TT)(cl:dz)(e:Ends)(d:bT.St)(c:z):Prop|mk:∀(W:Nat->St->z->Prop),(∃f,W f d c)->(∀f d c,W f d c->y d c λb h=>if b=H then∃g:St->z->Prop,(∀i k,g i k->∃l,l<f/\W l i k)/\cl {e with bb:=g,ma:=g,jd:=e.bb} d h else e.bb d h)->DJ y cl e d c
def uo{p:TT}{cl:dz}(q:sf (a' X.prog X.w) X.A X.env X.xe)(B:jf X y p)(C:fZ X pg cl):fY X (.While y pg [] aT) (DJ p cl):=by
 intro h S D F T G d;obtain⟨W,⟨I,J⟩,K⟩:=d;refine wpAny_While (codeAny_whileLoop (λi L=>∃r s,Inv X h r s L/\W i r s) ?_ I ⟨D,F,G,J⟩);rintro i M ⟨e,u,N,O⟩;refine qE q (bB (B h M e u _ N (K i e u O)) λP Q ⟨v,x,f⟩=>?_);cases P with
 |true=>
  obtain⟨U,z,f⟩:=f;rw[as a];refine qE q (bB (C h Q e v _ x f) λR V g=>?_);cases R with
  |next=>obtain⟨b,c,k,l⟩:=g;obtain⟨m,n,o⟩:=z b c l;exact⟨m,n,b,c,k,o⟩
  |cont=>obtain⟨b,c,k,l⟩:=g;obtain⟨m,n,o⟩:=z b c l;exact⟨m,n,b,c,k,o⟩
  |brk=>exact g
  |ret Y=>exact g
 |false=>rw[ag dA];exact sc ⟨e,v,x,f⟩
structure jg where
 go:Nat->z->Prop
 jh:Nat->z->V->z->Prop
 stop:Nat->z->Prop
def kA(X:bJ)(al:List (t×Obj))(c:z)(b:t):Prop:=
 c b=E/\b≠X.env.locals/\b∉X.fs/\(b∈X.ex\/X.s_0.heap.objs.size<=b)/\(∀i y,X.env.cells.lookup i=j y->y≠b)/\∀d∈X.pn++al,d.1≠b
def Inv.sg{g:z}(d:Inv X al J c l)(e:l.heap.objs.size<=b)(h:g b=E):kA X al g b:=by refine⟨h,DK (gK d.lt e),d.Ls e,.inr (b5 d.de e),λi k m f=>?_,λn o f=>?_⟩;obtain⟨q,p⟩:=d.cell i k m;exact aq (gK p.lt (by rw[f];exact e)) (nh _);exact aq (gK (d_ (d.g_ n o).1) (by rw[f];exact e)) (nh _)
structure oj (P:cN) (w:cr) (K:bG) (cE:ce) (xX:jg) (qF:List t) (aQ:t) (ph:Nat->bM->Prop):Prop where
 mem:aQ∈qF
 obj:∀k d,ph k d->∀b∈qF,∃q,d.get? b=j q/\∀u,q.data≠.cell u
 keep:∀k d aY,ph k d->(∀b∈qF,∀q,d.get? b=j q->aY.get? b=j q)->ph k aY
 item:∀(X:bJ),X.prog=P->X.w=w->X.K=K->X.calm=H->∀(k:Nat) (al:List (t×Obj)) (l:aJ) (J:St) (c:z) (B:ab->aJ->Prop),Inv X al J c l->(∀b∈qF,kA X al c b)->ph k l.heap->xX.go k c->a5 (a' P w) X.A (qG (.ref aQ)) (λs xY=>∃C,s=j C/\a5 (a' P w) X.A (xZ cE (.ref aQ) C) (λ_ DL=>∃i O,Inv X al J O DL/\RelV i C/\xX.jh k c i O/\ph (k+1) DL.heap/\∀b∈qF,O b=E) B xY) B l
 done:∀(X:bJ),X.prog=P->X.w=w->X.K=K->X.calm=H->∀(k:Nat) (al:List (t×Obj)) (l:aJ) (J:St) (c:z) (B:ab->aJ->Prop),Inv X al J c l->(∀b∈qF,kA X al c b)->ph k l.heap->xX.stop k c->a5 (a' P w) X.A (qG (.ref aQ)) (λs xY=>s=E/\Inv X al J c xY) B l
 self:∀(A:g8) (k:Nat) (l:aJ) (bc:ab->aJ->Prop) (B:ab->aJ->Prop),ph k l.heap->bc (.ref aQ) l->a5 (a' P w) A (pyIter (.ref aQ)) bc B l
abbrev TI:=St->z->(jg->z->Prop)->Prop
inductive DM(X:bJ)(al:List (t×Obj))(e:St)(cE:ce)(R:jg->z->Prop)(f:ab)(c:aJ):Prop|mk:∀(g:t) (h:List t) (i:Nat->bM->Prop) (k:jg) (d:z),f= .ref g->Inv X al e d c->oj X.prog X.w X.K cE k h g i->i 0 c.heap->(∀b∈h,kA X al d b)->R k d->DM X al e cE R f c
def x0(X:bJ)(al:List (t×Obj))(b:St)(cE:ce)(R:jg->z->Prop)(c:ab)(d:aJ):Prop:=
 DM X al b cE R c d
def lv(X:bJ)(cE iter:ce)(b:TI):Prop:=
 ∀(al:List (t×Obj)) (l:aJ) (J:St) (c:z) (R:jg->z->Prop),Inv X al J c l->b J c R->a5 (a' X.prog X.w) X.A (cb iter X.env) (λd e=>a5 (a' X.prog X.w) X.A (pyIter d) (x0 X al J cE R) X.xe e) X.xe l
def sh{aQ:t}{q:Obj}{o:String}{G:Array ab}{b:Unit->aJ->Prop}(e:l.heap.get? aQ=j q)(f:q.cls= .type o)(g:q.data= .fields G)(h:YV.contains o=am)(c:b () l):a5 kw A (xZ cE (.ref aQ) C) b B l:=by
 unfold xZ;cases cE<;>first
  |exact c2 c
  |(cases C<;>first
    |exact c2 c
    |(refine bv (wpAny_load e ?_)
      rw[f,g];show a5 kw A (if(YV.contains o&&G[0]?==j (nl _))=H then _ else _) b B l;rw[ag (by intro d;rw[h,LW]at d;cases d)];exact c2 c))
def jM(K:bG)(e:t):jg:=
 ⟨λk c=>∃b i,an K c e b/\b[k]?=j i,λk c i d=>d=c/\∀b,an K c e b->b[k]?=j i,λk c=>∃b,an K c e b/\b.length<=k⟩
def kB(lo:Int)(o:Nat):jg:=⟨λk _=>k<o,λk c i b=>b=c/\i= .int (lo+k),λk _=>o<=k⟩
def LX(e aQ:t):oj P w K cE (jM K e) [aQ] aQ (λk d=>d.IsListIter aQ e k)where
 mem:=by simp
 obj:=λk d st c f=>by
  have b:c=aQ:=by simpa using f
  subst b;obtain⟨g,b,G,p⟩:=st;exact⟨g,b,λaf I=>by rw[p]at I;cases I⟩
 keep:=λk d m st Q=>st.at λg b=>Q aQ (by simp) g b
 item:=by intro X q hw r J k L l M s R h n st u;subst q hw r;obtain⟨S,i,o,v⟩:=u;obtain⟨T,y,z,U⟩:=h.list o;obtain⟨N,V,W⟩:=y.get v;obtain⟨A,B,Y,C,D,F⟩:=n aQ (by simp);refine wpAny_pyNext_list_item st z.isList (x:=N) (by simpa using V) λm O Z=>?_;have aa:Inv X L M s {l with heap:=m}:=h.je (cX:=l.toks) (λc g f b=>(Z.2 c f).trans b) A B C D F;obtain⟨g,b,G,p⟩:=id O;exact⟨N,a,sh (l:={l with heap:=m}) b G p nofun ⟨i,s,aa,W,⟨a,λah ad=>by rw[h.DB ad o];exact v⟩,O,λc f=>(n c f).1⟩⟩
 done:=by intro X q hw r J k L l M s R h n st u;subst q hw r;obtain⟨S,o,v⟩:=u;obtain⟨T,y,z,U⟩:=h.list o;obtain⟨A,B,Y,C,D,F⟩:=n aQ (by simp);have ai:=y.length;exact wpAny_pyNext_list_end (h.ok.du J) st z.isList (by simp;omega) λm ae=>⟨a,h.je (cX:=l.toks) (λc g f b=>ae c g f b) A B C D F⟩
 self:=λ_ _ _ _ _ st d=>wpAny_pyIter_listiter st d
def LY(aQ:t)(lo:Int)(o:Nat):oj P w K cE (kB lo o) [aQ] aQ (λk d=>IsRangeIter d aQ (lo+(k:Nat)*1) ((o:Int)-(k:Nat)) 1)where
 mem:=by simp
 obj:=λk d st b c=>by
  have e:b=aQ:=by simpa using c
  subst e;exact⟨_,st,λz D=>by have F:Data.fields _=Data.cell z:=D;cases F⟩
 keep:=λk d g st G=>G aQ (by simp) _ st
 item:=by intro X i hw m n k A l B p I f h st q;subst i hw m;obtain⟨r,s,J,u,v,x⟩:=h aQ (by simp);refine(Walks.range (prog:=X.prog) (w:=X.w) (f.ok.du n) aQ lo 1 o).item k l _ _ q st λz g bR L C M=>?_;obtain⟨N,rfl⟩:=L;have O:Inv X A B p {l with heap:=g,toks:=bR}:=f.je (λb y c e=>M b y (by simpa using c) e) r s u v x;refine⟨_,a,sh (l:={l with heap:=g,toks:=bR}) (o:="range_iterator") C a a nofun ⟨.int (lo+k),p,O,⟨N,?_⟩,⟨a,a⟩,C,λb c=>(h b c).1⟩⟩;rw[Int.mul_one]
 done:=by intro X i hw m n k A l B p I f h st q;subst i hw m;obtain⟨r,s,J,u,v,x⟩:=h aQ (by simp);exact wpAny_pyNext_range_end (f.ok.du n) st (by have:o<=k:=q;omega) λg Q=>⟨a,f.je (cX:=l.toks) (λb y c e=>Q b y c e) r s u v x⟩
 self:=λ_ _ _ _ _ st d=>wpAny_pyIter_rangeiter st d
def LZ(K:bG)(ax:bu):TI:=λJ c R=>ax J c λi b=>∃e,i= .ref e/\(∃d,an K b e d)/\R (jM K e) b
def dU{n:ce}{ax:bu}(g:a8 X n ax):lv X cE n (LZ X.K ax):=by
 intro h i k l R m d;refine bB (g h i k l _ m d) λx c ⟨y,o,e,p,q⟩=>?_;obtain⟨r,b,⟨z,s⟩,u⟩:=q;subst b;cases p;obtain⟨A,B,v,C⟩:=e.list s;refine wpAny_pyIter_list v.isList ?_;refine⟨c.heap.objs.size,[c.heap.objs.size],_,_,o,a,e.kept (cX:=c.toks) λf D b=>gs _ b,LX r _,⟨_,hv _ a,a,a⟩,λf w=>?_,u⟩;have b:f=c.heap.objs.size:=by simpa using w
 subst b;exact e.sg (bC _) (e.hok.fresh (bC _))
def L0{R:jg->z->Prop}{lo b:Int}{p C u:Tok}{bR:Nat}(g:Inv X al J c l)(h: -(2^62)<=lo)(i:lo<2^62)(k: -(2^62)<=b)(m:b<2^62)(ao:R (kB lo (b-lo).toNat) c):a5 (a' X.prog X.w) X.A (pyIter (.ref l.heap.objs.size)) (x0 X al J cE R) B {l with heap:=l.heap.push {cls:=.type "range",data:=.fields #[.int lo p,.int b C,.int 1 u]},toks:=bR}:=by
 refine wpAny_pyIter_range (IsRange.new ..) (small_one h i k m) ?_;have e:Inv X al J c {l with heap:=l.heap.push {cls:=.type "range",data:=.fields #[.int lo p,.int b C,.int 1 u]},toks:=bR}:=g.kept λf n d=>gs _ d;refine⟨(l.heap.push {cls:=.type "range",data:=.fields #[.int lo p,.int b C,.int 1 u]}).objs.size,[(l.heap.push {cls:=.type "range",data:=.fields #[.int lo p,.int b C,.int 1 u]}).objs.size],_,_,c,a,e.kept (cX:=bR) λf n d=>gs _ d,LY _ lo (b-lo).toNat,?_,λf o=>?_,ao⟩;have q:lo+((0:Nat):Int)*1=lo:=by simp
 have r:(((b-lo).toNat:Nat):Int)-((0:Nat):Int)=Builtin.Range.rangeSize lo b 1:=by rw[rangeSize_one];split<;>omega
 show IsRangeIter _ _ (lo+((0:Nat):Int)*1) ((((b-lo).toNat:Nat):Int)-((0:Nat):Int)) 1;rw[q,r];exact hv _ a;have d:f=(l.heap.push {cls:=.type "range",data:=.fields #[.int lo p,.int b C,.int 1 u]}).objs.size:=by simpa using o
 subst d;exact e.sg (bC _) (e.hok.fresh (bC _))
def L1(d:ba):TI:=λJ c R=>d J c λe f=>∃b:Int,e=[.int b]/\ -(2^62)<=b/\b<2^62/\R (kB 0 b.toNat) f
def qH{e:ce}{c:ba}{m:Pos}(g:gN X "range")(h:X.mg "range"=E)(i:hO X [e] c)(k:da [e] X.env=[(am,cb e X.env)]:=by rfl):lv X cE (.Call (.Name "range" m) [e] [] aT) (L1 c):=by
 intro l n o p R f d;refine Call_ (ug f g h boot_range (DN (bB (i aT l n o p _ f d) λy z ⟨A,B,q,r,b⟩=>?_) k a));obtain⟨C,s,b,u,v⟩:=b;subst s;cases r with
 |cons w x=>cases x;obtain⟨D,rfl⟩:=w;exact call_range_1 (L0 q (by omega) (by omega) b u (by simpa using v))
def L2(n:TI)(g:f0)(cl:dz):dz:=λe J c=>n J c λf o=>∃W:Nat->Nat->St->z->Prop,(∃d,W 0 d J o)/\∀k d J c,W k d J c->(f.stop k c/\e.bb J c)\/(f.go k c/\∃h:St->z->Prop,(∀l b,h l b->∃m,m<d/\W (k+1) m l b)/\∀i b,f.jh k c i b->g i J b λp q=>cl {e with bb:=h,ma:=h,jd:=e.bb} p q)
def si(c:List t)(d:bM):List (t×Obj):=c.filterMap λb=>(d.get? b).map λq=>(b,q)
def x1{c:List t}{q:Obj}(e:b∈c)(h:d.get? b=j q):(b,q)∈si c d:=eV.mpr ⟨b,e,by rw[h];rfl⟩
def L3{e:List t}{m:t×Obj}(g:m∈si e d):m.1∈e/\d.get? m.1=j m.2:=by
 obtain⟨f,h,b⟩:=eV.mp g;cases c:d.get? f with
 |none=>rw[c]at b;cases b
 |some i=>rw[c]at b;have k:(f,i)=m:=dP b;subst k;exact⟨h,c⟩
def Inv.DO{d:List t}(g:Inv X al J c l)(cA:∀b∈d,kA X al c b)(m:∀b∈d,∃q,l.heap.get? b=j q/\∀u,q.data≠.cell u):Inv X (al++si d l.heap) J c l:=
 g.Dp λe n=>(bE.mp n).elim (λf=>g.g_ e (gH _ f)) λf=>by obtain⟨h,i⟩:=L3 f;obtain⟨o,p,r,_⟩:=cA e.1 h;obtain⟨q,k,s⟩:=m e.1 h;rw[i]at k;cases k;exact⟨i,o,p,r,s⟩
def Inv.up{d:List (t×Obj)}(b:Inv X (al++d) J c l):Inv X al J c l:=b.Dp λe f=>b.g_ e (gH _ (g5 _ f))
def fg{iter:ce}{I:TI}{g:f0}{cl:dz}(o:sf (a' X.prog X.w) X.A X.env X.xe)(J:X.calm=H)(V:lv X cE iter I)(Y:lu X cE g)(c:fZ X pg cl)(Z:∀i,sj iter X.env i=pure i:=by intro _;rfl):fY X (.For cE iter pg [] aT) (L2 I g cl):=by
 intro n aa K ad a0 ae d;refine wpAny_For (bB (V n aa K ad _ ae d) λaf a1 ah=>bB ah λa2 a3 ai=>?_) Z;obtain⟨a4,p,L,a6,aj,q,ak,r,al,M,W,⟨an,ao⟩,ap⟩:=ai;subst q;have B:∀{k:z},(∀b∈p,k b=E)->∀b∈p,kA X n k b:=λar b c=>⟨ar b c,(M b c).2⟩;refine codeAny_forLoop_any (λx N=>∃l s k,Inv X n s k N/\L l N.heap/\(∀b∈p,k b=E)/\W l x s k) ?_ an ⟨0,K,aj,ak,al,λb c=>(M b c).1,ao⟩;rintro x O ⟨l,u,y,P,Q,R,au⟩;obtain⟨stop,av⟩|⟨aw,ax,ay,step⟩:=ap l x u y au;refine qE o (bB (r.done X a a a J l n O u y X.xe P (B R) Q stop) λaz aA ⟨C,aB⟩=>?_);subst C;exact sc ⟨u,y,aB,av⟩
 ·refine qE o (bB (r.item X a a a J l n O u y X.xe P (B R) Q aw) λaz aA ⟨aC,C,aE⟩=>?_);subst C;refine qE o (bB aE λ_ S ⟨i,T,aF,aG,aH,D,aI⟩=>?_);refine qE o (bB (Y _ S u T i aC _ (aF.DO (B aI) (r.obj _ _ D)) aG (step i T aH)) λ_ aK ⟨aL,aM,aN,aP⟩=>?_);refine qE o (bB (c _ aK aL aM _ aN aP) λaQ F m=>?_);have again:∀{e:St} {f:z},Inv X (n++si p S.heap) e f F->ax e f->∃U,U<x/\∃l s k,Inv X n s k F/\L l F.heap/\(∀b∈p,k b=E)/\W l U s k:=λ{e f} h v=>by obtain⟨aR,aW,aX⟩:=ay e f v;refine⟨aR,aW,l+1,e,f,h.up,r.keep _ _ _ D λb c G q=>(h.g_ (b,G) (gH _ (gH _ (x1 c q)))).1,λb c=>?_,aX⟩;obtain⟨G,q,a7⟩:=r.obj _ _ D b c;exact(h.g_ (b,G) (gH _ (gH _ (x1 c q)))).2.1
  cases aQ with
  |next=>obtain⟨e,f,h,v⟩:=m;exact again h v
  |cont=>obtain⟨e,f,h,v⟩:=m;exact again h v
  |brk=>obtain⟨e,f,h,m⟩:=m;exact⟨e,f,h.up,m⟩
  |ret af=>obtain⟨aY,e,f,h,aZ,m⟩:=m;exact⟨aY,e,f,h.up,aZ,m⟩
def g'{M:List V}{g:f0}{cl:dz}{d:Ends}(Pv:Nat->St->z->Prop)(s:Pv 0 J c)(u:∀k J c,k<=M.length->Pv k J c->an K c e M)(w:∀k i J c,M[k]?=j i->Pv k J c->g i J c λf h=>cl {d with bb:=Pv (k+1),ma:=Pv (k+1),jd:=d.bb} f h)(x:∀J c,Pv M.length J c->d.bb J c):
  ∃W:Nat->Nat->St->z->Prop,(∃v,W 0 v J c)/\∀k v J c,W k v J c->((jM K e).stop k c/\d.bb J c)\/((jM K e).go k c/\∃l:St->z->Prop,(∀m b,l m b->∃bH,bH<v/\W (k+1) bH m b)/\∀i b,(jM K e).jh k c i b->g i J b λf h=>cl {d with bb:=l,ma:=l,jd:=d.bb} f h):=by
 refine⟨λk v J c=>v=M.length-k/\k<=M.length/\Pv k J c,⟨M.length,by simp,dC _,s⟩,?_⟩;rintro k v J c ⟨rfl,y,n⟩;have o:=u k J c y n;by_cases r:k<M.length;refine .inr ⟨⟨M,M[k],o,by simp[r]⟩,Pv (k+1),λm b A=>⟨M.length-(k+1),by omega,a,r,A⟩,λi b p=>?_⟩;obtain⟨q,p⟩:=p;subst q;exact w k i J _ (p M o) n;have q:k=M.length:=by omega
 subst q;exact .inl ⟨⟨M,o,bC _⟩,x J c n⟩
def sk{lo:Int}{o:Nat}{g:f0}{cl:dz}{d:Ends}(Pv:Nat->St->z->Prop)(r:Pv 0 J c)(s:∀k J c,k<o->Pv k J c->g (.int (lo+k)) J c λe f=>cl {d with bb:=Pv (k+1),ma:=Pv (k+1),jd:=d.bb} e f)(u:∀J c,Pv o J c->d.bb J c):
  ∃W:Nat->Nat->St->z->Prop,(∃v,W 0 v J c)/\∀k v J c,W k v J c->((kB lo o).stop k c/\d.bb J c)\/((kB lo o).go k c/\∃h:St->z->Prop,(∀l b,h l b->∃bH,bH<v/\W (k+1) bH l b)/\∀i b,(kB lo o).jh k c i b->g i J b λe f=>cl {d with bb:=h,ma:=h,jd:=d.bb} e f):=by
 refine⟨λk v J c=>v=o-k/\k<=o/\Pv k J c,⟨o,by simp,dC _,r⟩,?_⟩;rintro k v J c ⟨rfl,x,q⟩;by_cases m:k<o;refine .inr ⟨m,Pv (k+1),λl b w=>⟨o-(k+1),by omega,a,m,w⟩,λi b n=>?_⟩;obtain⟨p,n⟩:=n;subst p n;exact s k J _ m q;have p:k=o:=by omega
 subst p;exact .inl ⟨bC _,u J c q⟩
abbrev nm:=V->V->z->aW->Prop
def fp(X:bJ)(f:ab->ab->Sem ab)(s:nm):Prop:=
 ∀(al:List (t×Obj)) (l:aJ) (J:St) (c:z) (i b:V) (d C:ab) (e:aW),Inv X al J c l->RelV i d->RelV b C->s i b c e->a5 (a' X.prog X.w) X.A (f d C) (fC X al J e) X.xe l
def x2(X:bJ)(f:ab->Sem ab)(s:V->z->aW->Prop):Prop:=
 ∀(al:List (t×Obj)) (l:aJ) (J:St) (c:z) (i:V) (b:ab) (d:aW),Inv X al J c l->RelV i b->s i c d->a5 (a' X.prog X.w) X.A (f b) (fC X al J d) X.xe l
def j6(X:bJ)(f:ab)(s:List V->z->aW->Prop):Prop:=
 ∀(al:List (t×Obj)) (l:aJ) (J:St) (c:z) (b:List V) (aP:List ab) (d:aW),Inv X al J c l->bW b aP->s b c d->a5 (a' X.prog X.w) X.A (call f aP) (fC X al J d) X.xe l
def hx(s:nm)(b cl:bu):bu:=λJ c d=>b J c λi e=>cl J e λf g=>s i f g d
def L4(s:V->z->aW->Prop)(b:bu):bu:=λJ c d=>b J c λi e=>s i e d
inductive x3(ah:Int->Int->Prop)(g:Int->Int->V)(i D:V)(c:z)(d:aW):Prop|mk:∀k b,i= .int k->D= .int b->ah k b->d (g k b) c->x3 ah g i D c d
inductive nn(g:Int->Int->V)(i D:V)(c:z)(b:aW):Prop|mk:∀k d,i= .int k->D= .int d->b (g k d) c->nn g i D c b
inductive x4(g:Int->V)(i:V)(c:z)(b:aW):Prop|mk:∀k,i= .int k->b (g k) c->x4 g i c b
section
variable{dD:bu}{e b:ce}{cl L5:bu}{bc:ab->aJ->Prop}{f:ab->ab->Sem ab}
def x5(m:a8 X e dD)(n:a8 X b cl){R:V->V->z->Prop}(o:Inv X al J c l)(d:dD J c λi k=>cl J k λD g=>R i D g)(cA:∀u C h i D g,Inv X al J g h->RelV i u->RelV D C->R i D g->a5 (a' X.prog X.w) X.A (f u C) bc X.xe h):
  a5 (a' X.prog X.w) X.A (cb e X.env) (λu p=>a5 (a' X.prog X.w) X.A (cb b X.env) (λC q=>a5 (a' X.prog X.w) X.A (f u C) bc X.xe q) X.xe p) X.xe l:=by
 refine bB (m al l J c _ o d) λu r ⟨i,k,s,v,x⟩=>?_;refine bB (n al r J k _ s x) λC h ⟨D,g,y,B,F⟩=>?_;exact cA u C h i D g y v B F
def fD{c:ul}{s:nm}(f:fp X (pi c) s)(g:a8 X e dD)(h:a8 X b cl):a8 X (.BinOp e c b aT) (hx s dD cl):=by intro i z k A l m d;exact wpAny_BinOp (x5 g h m d λn o p q r u v w x y=>f i p k u q r n o l v w x y)
def np{b:UnaryOp}{s:V->z->aW->Prop}(g:x2 X (unaryOp b) s)(h:a8 X e dD):a8 X (.UnaryOp b e aT) (L4 s dD):=by intro c i f k l m d;exact UnaryOp_ (bB (h c i f k _ m d) λn o ⟨p,q,r,u,v⟩=>g c o f q p n l r u v)
def L6{ah:Int->Int->Prop}{g:Int->Int->Int}(rule:∀(k af:Int) (p C:Tok) (l:aJ) (bc:ab->aJ->Prop) (B:ab->aJ->Prop),ah k af->bc (.int (g k af) l.toks) {l with toks:=l.toks+1}->a5 (a' X.prog X.w) X.A (f (.int k p) (.int af C)) bc B l):
  fp X f (x3 ah λk af=>.int (g k af)):=by
 intro o l q b r s u C bc c e h d;obtain⟨k,af,rfl,rfl,i,m⟩:=d;obtain⟨p,rfl⟩:=e;obtain⟨n,rfl⟩:=h;exact rule k af p n l _ _ i ⟨.int (g k af),b,c.eM _,⟨_,a⟩,m⟩
def DP{g:Int->Int->Int}(rule:∀(k af:Int) (p C:Tok) (l:aJ) (bc:ab->aJ->Prop) (B:ab->aJ->Prop),bc (.int (g k af) l.toks) {l with toks:=l.toks+1}->a5 (a' X.prog X.w) X.A (f (.int k p) (.int af C)) bc B l):
  fp X f (nn λk af=>.int (g k af)):=by
 intro n l o b q r s C bc c e h d;obtain⟨k,af,rfl,rfl,i⟩:=d;obtain⟨p,rfl⟩:=e;obtain⟨m,rfl⟩:=h;exact rule k af p m l _ _ ⟨.int (g k af),b,c.eM _,⟨_,a⟩,i⟩
def uq{g:Int->Int->Bool}(rule:∀(k af:Int) (p C:Tok) (l:aJ) (bc:ab->aJ->Prop) (B:ab->aJ->Prop),bc (.bool (g k af)) l->a5 (a' X.prog X.w) X.A (f (.int k p) (.int af C)) bc B l):
  fp X f (nn λk af=>.bl (g k af)):=by
 intro n l o b q r s C bc c e h d;obtain⟨k,af,rfl,rfl,i⟩:=d;obtain⟨p,rfl⟩:=e;obtain⟨m,rfl⟩:=h;exact rule k af p m l _ _ ⟨.bl (g k af),b,c,a,i⟩
def pj:fp X (pi .Add) (nn λk af=>.int (k+af)):=DP λ_ _ _ _ _ _ _ b=>add_int b
def L7:fp X (pi .Sub) (nn λk af=>.int (k-af)):=DP λ_ _ _ _ _ _ _ b=>sub_int b
def L8:fp X (pi .Mod) (x3 (λ_ af=>0<af) λk af=>.int (k%af)):=L6 λk af _ _ _ _ _ b c=>by have d:(0:Int)<af:=b;exact mod_int' (by omega) (by rw[Int.fmod_eq_emod_of_nonneg k (by omega)];exact c)
def L9{f:ab->Sem ab}{g:Int->Int}(rule:∀(k:Int) (p:Tok) (l:aJ) (bc:ab->aJ->Prop) (B:ab->aJ->Prop),bc (.int (g k) l.toks) {l with toks:=l.toks+1}->a5 (a' X.prog X.w) X.A (f (.int k p)) bc B l):
  x2 X f (x4 λk=>.int (g k)):=by
 intro i l m b n o bc c e d;obtain⟨k,rfl,h⟩:=d;obtain⟨p,rfl⟩:=e;exact rule k p l _ _ ⟨.int (g k),b,c.eM _,⟨_,a⟩,h⟩
def nq:x2 X (unaryOp .USub) (x4 λk=>.int (-k)):=L9 λ_ _ _ _ _ b=>neg_int b
end
noncomputable def DQ:V->V->Bool
 | .aL,.aL=>H| .aL,.int _=>H| .int _,.aL=>H| .aL,.bl _=>H| .bl _,.aL=>H| .aL,.str _=>H| .str _,.aL=>H
 | .int _,.int _=>H| .bl _,.bl _=>H| .str _,.str _=>H| .iI _,.iI _=>H
 | .int _,.str _=>H| .str _,.int _=>H| .bl _,.str _=>H| .str _,.bl _=>H
 |_,_=>am
def gf:nm:=λi b c d=>DQ i b=H/\d (.bl (decide (i=b))) c
def L_:nm:=λi b c d=>DQ i b=H/\d (.bl (!decide (i=b))) c
def DR{k af:Int}:decide (V.int k=V.int af)=(k==af):=by rw[m8];simp
def DS{k af:Bool}:decide (V.bl k=V.bl af)=(k==af):=by rw[m8];simp
def ur{k af:Str}:decide (V.str k=V.str af)=(k==af):=by rw[m8];simp
def DT{k af:Array UInt8}:decide (V.iI k=V.iI af)=(k.toList==af.toList):=by rw[m8];cases k;cases af;simp
section
variable{dD:bu}{e b:ce}{cl L5:bu}
def eu{b:aW}{r d:Bool}(e:Inv X al J c l)(ao:b (.bl r) c)(h:r=d):fC X al J b (.bool d) l:=by subst h;exact⟨.bl r,c,e,a,ao⟩
def dL:fp X (h' .Eq) gf:=by
 intro o p q r n h s u v b k c d;obtain⟨i,e⟩:=d;cases n with
 |aL=>
  cases k;cases h with
  |aL=>cases c;exact PySem.EqNone.eq_none_none (eu b e (by simp))
  |bl f=>cases c;exact PySem.EqNone.eq_none_bool (eu b e (by simp))
  |int f=>obtain⟨g,rfl⟩:=c;exact PySem.EqNone.eq_none_int (eu b e (by simp))
  |str f=>obtain⟨g,rfl⟩:=c;exact PySem.EqNone.eq_none_str (eu b e (by simp))
  |_=>exact aq (show am=H from i) dA
 |bl l=>
  cases k;cases h with
  |aL=>cases c;exact PySem.EqNone.eq_bool_none (eu b e (by simp))
  |bl f=>cases c;exact eq_bool (eu b e DS)
  |str f=>obtain⟨g,rfl⟩:=c;exact PySem.EqMixed.eq_bool_str (eu b e (by simp))
  |_=>exact aq (show am=H from i) dA
 |int l=>
  obtain⟨m,rfl⟩:=k;cases h with
  |aL=>cases c;exact PySem.EqNone.eq_int_none (eu b e (by simp))
  |int f=>obtain⟨g,rfl⟩:=c;exact eq_int (eu b e DR)
  |str f=>obtain⟨g,rfl⟩:=c;exact PySem.EqMixed.eq_int_str (eu b e (by simp))
  |_=>exact aq (show am=H from i) dA
 |str l=>
  obtain⟨m,rfl⟩:=k;cases h with
  |aL=>cases c;exact PySem.EqNone.eq_str_none (eu b e (by simp))
  |bl f=>cases c;exact PySem.EqMixed.eq_str_bool (eu b e (by simp))
  |int f=>obtain⟨g,rfl⟩:=c;exact PySem.EqMixed.eq_str_int (eu b e (by simp))
  |str f=>obtain⟨g,rfl⟩:=c;exact eq_str (eu b e ur)
  |_=>exact aq (show am=H from i) dA
 |iI l=>
  obtain⟨m,rfl⟩:=k;cases h with
  |iI f=>obtain⟨g,rfl⟩:=c;exact PySem.W.eq_bytes (eu b e DT)
  |_=>exact aq (show am=H from i) dA
 |_=>cases h<;>exact aq (show am=H from i) dA
def sl:fp X (h' .NotEq) L_:=by
 intro o p q r n h s u v b k c d;obtain⟨i,e⟩:=d;cases n with
 |aL=>
  cases k;cases h with
  |aL=>cases c;exact PySem.EqNone.ne_none_none (eu b e (by simp))
  |bl f=>cases c;exact PySem.EqNone.ne_none_bool (eu b e (by simp))
  |int f=>obtain⟨g,rfl⟩:=c;exact PySem.EqNone.ne_none_int (eu b e (by simp))
  |str f=>obtain⟨g,rfl⟩:=c;exact PySem.EqNone.ne_none_str (eu b e (by simp))
  |_=>exact aq (show am=H from i) dA
 |bl l=>
  cases k;cases h with
  |aL=>cases c;exact PySem.EqNone.ne_bool_none (eu b e (by simp))
  |bl f=>cases c;exact ne_bool (eu b e (dZ not DS))
  |str f=>obtain⟨g,rfl⟩:=c;exact PySem.EqMixed.ne_bool_str (eu b e (by simp))
  |_=>exact aq (show am=H from i) dA
 |int l=>
  obtain⟨m,rfl⟩:=k;cases h with
  |aL=>cases c;exact PySem.EqNone.ne_int_none (eu b e (by simp))
  |int f=>obtain⟨g,rfl⟩:=c;exact ne_int (eu b e (dZ not DR))
  |str f=>obtain⟨g,rfl⟩:=c;exact PySem.EqMixed.ne_int_str (eu b e (by simp))
  |_=>exact aq (show am=H from i) dA
 |str l=>
  obtain⟨m,rfl⟩:=k;cases h with
  |aL=>cases c;exact PySem.EqNone.ne_str_none (eu b e (by simp))
  |bl f=>cases c;exact PySem.EqMixed.ne_str_bool (eu b e (by simp))
  |int f=>obtain⟨g,rfl⟩:=c;exact PySem.EqMixed.ne_str_int (eu b e (by simp))
  |str f=>obtain⟨g,rfl⟩:=c;exact ne_str (eu b e (dZ not ur))
  |_=>exact aq (show am=H from i) dA
 |iI l=>
  obtain⟨m,rfl⟩:=k;cases h with
  |iI f=>obtain⟨g,rfl⟩:=c;exact PySem.W.ne_bytes (eu b e (dZ not DT))
  |_=>exact aq (show am=H from i) dA
 |_=>cases h<;>exact aq (show am=H from i) dA
def qI:fp X (h' .Lt) (nn λk af=>.bl (decide (k<af))):=uq λ_ _ _ _ _ _ _ b=>lt_int b
def L':fp X (h' .LtE) (nn λk af=>.bl (decide (k<=af))):=uq λ_ _ _ _ _ _ _ b=>le_int b
def nr:fp X (h' .Gt) (nn λk af=>.bl (decide (af<k))):=uq λ_ _ _ _ _ _ _ b=>gt_int b
def Ma:fp X (h' .GtE) (nn λk af=>.bl (decide (af<=k))):=uq λ_ _ _ _ _ _ _ b=>ge_int b
def Mb:fp X (h' .In) (λi D c b=>∃k af,i= .str k/\D= .str af/\b (.bl (!(sm af k 0 af.length 1).isEmpty)) c):=by intro l m n c i D o p b e f g d;obtain⟨k,af,rfl,rfl,h⟩:=d;obtain⟨q,rfl⟩:=f;obtain⟨r,rfl⟩:=g;exact in_str (eu e h a)
def us:fp X (h' .Is) (λi D c b=>D= .aL/\b (.bl (decide (i= .aL))) c):=by
 intro k l m c i D n o b f e g d;obtain⟨rfl,h⟩:=d;cases g;refine is_none_gen (eu f h ?_);cases i<;>first
  |(cases e;rfl)
  |(obtain⟨p,rfl⟩:=e;rfl)
def Mc:fp X (h' .IsNot) (λi D c b=>D= .aL/\b (.bl (!decide (i= .aL))) c):=by
 intro k l m c i D n o b f e g d;obtain⟨rfl,h⟩:=d;cases g;refine isnot_none_gen (eu f h ?_);cases i<;>first
  |(cases e;rfl)
  |(obtain⟨p,rfl⟩:=e;rfl)
variable{gr:CmpOp}
def cf(b:ce)(d:gr≠.In:=by decide)(c:gr≠.NotIn:=by decide):r' gr b=am:=by cases b<;>simp[r',(by cases gr<;>first|rfl|exact aq rfl d:(gr==CmpOp.In)=am),(by cases gr<;>first|rfl|exact aq rfl c:(gr==CmpOp.NotIn)=am)]
def DU{s:nm}(c:fp X (h' gr) s)(f:a8 X e dD)(g:a8 X b cl)(h:r' gr b=am):a8 X (.Compare e [gr] [b] aT) (hx s dD cl):=by intro i z k A l m d;exact wpAny_Compare1 (x5 f g m d λn o p q r u v w x y=>c i p k u q r n o l v w x y) h
inductive DV(b:Bool->z->Prop)(i:V)(c:z):Prop|mk:∀r,i= .bl r->b r c->DV b i c
def ol(p:bu):TT:=λJ c b=>p J c λi d=>DV b i d
def b7{s:nm}(g:fp X (h' gr) s)(h:a8 X e dD)(i:a8 X b cl)(k:r' gr b=am):jf X (.Compare e [gr] [b] aT) (ol (hx s dD cl)):=by intro c l f m L n d;refine LB (bB (h c l f m _ n d) λo p ⟨q,r,u,v,w⟩=>bB (i c p f r _ u w) λx y ⟨z,A,B,C,D⟩=>bB (g c y f A q z o x _ B v C D) λM N ⟨O,F,G,I,P,J,K⟩=>?_) k;subst J;cases I;exact sa ⟨F,G,K⟩
def sn:(aD:Nat)<2^63:=by rw[ut];decide
def so:fp X (pi .Add) (λi D c b=>∃k af,i= .str k/\D= .str af/\k.length+af.length<=aD/\b (.str (k++af)) c):=by intro n o p c i D q r b e f g d;obtain⟨k,af,rfl,rfl,h,l⟩:=d;obtain⟨s,rfl⟩:=f;obtain⟨m,rfl⟩:=g;exact add_str (λm bR=>⟨.str (k++af),c,e.eM _,⟨_,a⟩,l⟩) h
def Md:fp X (xV .Add) (λi D c b=>∃k af,i= .str k/\D= .str af/\k.length+af.length<=aD/\b (.str (k++af)) c):=by intro n o p c i D q r b e f g d;obtain⟨k,af,rfl,rfl,h,l⟩:=d;obtain⟨s,rfl⟩:=f;obtain⟨m,rfl⟩:=g;exact iadd_str (λm bR=>⟨.str (k++af),c,e.eM _,⟨_,a⟩,l⟩) h
def vals1{i:V}(s:bW [i] aP):∃C,aP=[C]/\RelV i C:=by
 cases s with
 |cons b c=>cases c;exact⟨_,a,b⟩
def DW:j6 X (.type "str") (λM c b=>∃k,M=[.int k]/\k.natAbs.log2<1920/\b (.str (toString k)) c):=by intro i l m c M n b e f d;obtain⟨k,rfl,g,h⟩:=d;obtain⟨o,rfl,p,rfl⟩:=vals1 f;exact PySem.P.str_of_int g ⟨.str _,c,e.eM _,⟨_,a⟩,h⟩
def DX:j6 X (.builtin "ord") (λM c b=>∃i,M=[.str i]/\i.length=1/\b (.int (i.cps.getD 0 0:Nat)) c):=by intro k l m c M n b e f d;obtain⟨i,rfl,g,h⟩:=d;obtain⟨o,rfl,p,rfl⟩:=vals1 f;exact ord_of_one g ⟨.int _,c,e.eM _,⟨_,a⟩,h⟩
end
structure pk (d:bM) (i a4 ah:t) (gO:Str->Option ab):Prop where
 obj:d.get? i=j (o_ ah a4)
 ns:d.Ns1 a4 gO
 eJ:a4≠i
variable{gO:Str->Option ab}
def Me{e:t}(o:d.Ns1 e gO):∃f,d.get? e=j f/\∀name,x6 name f=j (gO name):=by
 obtain⟨i,g,u,k,l,m,_,n⟩:=o;refine⟨i,k,λname=>?_⟩;have b:=n name;unfold nsFind findBy at b;rw[<-Array.find?_toList]at b;unfold x6;rw[l];dsimp only;split;rename_i h c;rw[c]at b;exact dZ j b;rename_i c;rw[c]at b;have p:g.toList.any (·.refKey)=am:=by rw[Mf];intro h q;obtain⟨v,w,r⟩:=m h (Mg.mp q);simp[DictEntry.refKey,r]
 have s:¬g.toList.any (·.refKey)=H:=by rw[p];exact dA
 rw[ag s];exact dZ j b
variable{ah:t}
def pk.x7{i c:t}(e:pk d i c ah gO):∃b,PySem.W.InstAt d i (o_ ah c) ah (j b)/\∀name,x6 name b=j (gO name):=
 let⟨b,f,g⟩:=Me e.ns
 ⟨b,⟨e.obj,a,a,f⟩,g⟩
section
variable{prog:cN}{i a4 f:t}{name:Str}{u:ab}{bc:ab->aJ->Prop}
def Mh{b:Bool}(X:K.In l.heap)(c:pk l.heap i a4 ah gO)(e:x8 K ah name=H)(f:DY K ah=H)(g:ia K (.ref ah) name=j E)(h:gO name=j u)(k:Mi u=H)(d:bc u {l with toks:=l.toks+1}):
  a5 (a' prog w) A (getAttr (.ref i) name b) bc B l:=by
 obtain⟨o,m,n⟩:=c.x7;exact PySem.W.get_value X m (DZ e).1 (PySem.W.findObj_own f g a (by rw[n,h])) k d
variable{gP:Sem Bool}
def Mj{b:ab×List ab->aJ->Prop}(X:K.In l.heap)(e:pk l.heap i a4 ah gO)(c:x8 K ah name=H)(cA:ia K (.ref ah) name=j (j (.ref f)))(g:lw K (.ref f)=H)(h:gO name=E)(d:b (.ref f,[.ref i]) l):
  a5 (a' prog w) A (qJ (.ref i) name gP) b B l:=by
 obtain⟨k,m,n⟩:=e.x7;exact PySem.W.method_fn X m (DZ c).1 (DZ c).2 cA (fz.mp g) (by show(x6 name k).map (·.isSome)=j am;rw[n,h];rfl) d
def Mk{c:List Str}{e:Unit->aJ->Prop}(X:K.In l.heap)(b:pk l.heap i a4 ah gO)(k:ia K (.ref ah) "__setattr__"=j (j (.builtin "object.__setattr__")))(m:Ml K ah=H)(n:D0 K ah name=j E)(o:DY K ah=H)(hw:Dj gO c)(z:c.length<=aD)(d:∀aY,pk aY i a4 ah (λD=>if D=name then j u else gO D)->qB a4 l.heap aY->e () {l with heap:=aY,toks:=l.toks+2}):
  a5 (a' prog w) A (setAttr (.ref i) name u) e B l:=by
 obtain⟨C,f,F⟩:=b.x7;refine PySem.W.set_plain X f k (PySem.W.osa_open (s:={l with toks:=l.toks+1}) (r:=E) X f m n λG=>?_);obtain⟨I,p,q⟩:=PySem.W.any_some o;refine bv (c2 (bv (bv (wpAny_loadPart (b.obj:l.heap.get? i=j ⟨.ref ah,j a4,.plain,#[]⟩) (bv (PySem.W.Looks.here (s:={l with toks:=l.toks+1}) (PySem.W.looks_clsIn X p) ?_))))));rw[q];refine c2 (a:=j a4) (bv (c2 (bv ?_)));refine wpAny_nsSet1 (s:={l with toks:=l.toks+1}) b.ns λaY g h=>?_;obtain⟨J,L,M,v,x,y⟩:=g.count (PySem.Within.cons name u hw);refine bv (wpAny_lookBehind v (by rw[x];exact pastItsLine_dict (b5 y (by rw[cy];omega))) ?_);exact c2 (d _ ⟨(h.2 _ (cU b.eJ)).trans b.obj,g,b.eJ⟩ h)
variable{qK:List (Str×ab)}
def Mm{R:Result->aJ->Prop}{G:List ab}(X:K.In l.heap)(b:Mn K ah=H)(c:ia K (.ref ah) "__init__"=j (j (.ref f)))(cA:PySem.W.typeIn K (.ref f)=j (.type "function"))(d:qL (a' prog w) (A.under (.builtin "type.__call__" ⟨.ref ah::G,qK⟩)) (.call (.ref f) ⟨.ref (l.heap.objs.size+1)::G,qK⟩) (PySem.W.InitBack (l.heap.objs.size+1) R) {l with heap:=(l.heap.push om).push (o_ ah l.heap.objs.size)}):
  qL (a' prog w) A (.call (.ref ah) ⟨G,qK⟩) R l:=by
 obtain⟨e,g,h,i,os⟩:=l;exact PySem.W.make_core (PySem.W.makes_of X b) (PySem.W.looks_findIn X c) (λself=>PySem.W.bind_fn X self cA) (.inl a) d
end
noncomputable def c0(f:Str)(u:V):List (Str×V)->List (Str×V)
 |[]=>[(f,u)]
 |(b,i)::c=>if b=f then(b,u)::c else(b,i)::c0 f u c
theorem D1(f g:Str)(u:V):∀k:List (Str×V),(c0 f u k).lookup g=if g=f then j u else k.lookup g
 |[]=>by show on g [(f,u)]=_;by_cases d:g=f;have b:(g==f)=H:=fz.mpr d;simp only[on,b,as d];have b:(g==f)=am:=fl.mpr d;simp only[on,b,ag d]
 |(c,l)::h=>by rw[show c0 f u ((c,l)::h)=(if c=f then(c,u)::h else(c,l)::c0 f u h)from rfl];by_cases e:c=f;rw[as e];by_cases d:g=c;have b:(g==c)=H:=fz.mpr d;simp only[on,b,as (d.trans e)];have b:(g==c)=am:=fl.mpr d;simp only[on,b,ag (λi:g=f=>d (i.trans e.symm))];rw[ag e];by_cases d:g=c;have b:(g==c)=H:=fz.mpr d;simp only[on,b,ag (λi:g=f=>e (d.symm.trans i))];have b:(g==c)=am:=fl.mpr d;simp only[on,b];exact D1 f g u h
theorem x9(f:Str)(u:V):∀e:List (Str×V),f∈(c0 f u e).map (·.1)/\∀g,g∈e.map (·.1)->g∈(c0 f u e).map (·.1)
 |[]=>⟨by simp[c0],λg d=>by simp at d⟩
 |(b,k)::c=>by obtain⟨l,m⟩:=x9 f u c;rw[show c0 f u ((b,k)::c)=(if b=f then(b,u)::c else(b,k)::c0 f u c)from rfl];by_cases h:b=f;rw[as h];subst h;exact⟨by simp,λg d=>by simpa using d⟩;rw[ag h];refine⟨?_,λg d=>?_⟩;rw[bz];exact cv _ l;rw[bz]at d|-;obtain i|i:=bm.mp d;exact bm.mpr (.inl i);exact cv _ (m g i)
theorem D2(f:Str)(u:V):∀d:List (Str×V),(c0 f u d).length<=d.length+1
 |[]=>by simp[c0]
 |(b,e)::c=>by have h:=D2 f u c;rw[show c0 f u ((b,e)::c)=(if b=f then(b,u)::c else(b,e)::c0 f u c)from rfl];by_cases g:b=f;rw[as g,cy,cy];omega;rw[ag g,cy,cy];omega
variable{u:V}
def hM.x_{q:Option ab}(s:hM (j u) q):∃C,q=j C/\RelV u C:=by
 cases q with
 |none=>exact(show False from s).elim
 |some C=>exact⟨C,a,s⟩
def hM.Mo{q:Option ab}(s:hM E q):q=E:=by
 cases q with
 |none=>rfl
 |some b=>exact(show False from s).elim
def Mp(s:RelV u C):Mi C=H:=by
 cases u with
 |aL=>cases(show C=ng from s);rfl
 |bl d=>cases(show C=r8 d from s);rfl
 |int e=>obtain⟨b,c⟩:=(show∃b,C=r7 e b from s);cases c;rfl
 |str f=>obtain⟨b,c⟩:=(show∃b,C=xC f b from s);cases c;rfl
 |iI d=>obtain⟨b,c⟩:=(show∃b,C=Lj d b from s);cases c;rfl
 |ua d=>obtain⟨b,c⟩:=(show∃b,C=Lk d b from s);cases c;rfl
 |ref g=>cases(show C=dt g from s);rfl
 |gJ h=>cases(show C=jb h from s);rfl
section
variable{O:z}{aY:bM}{a4:t}{fs Ln:List (Str×V)}
def x'(b:dK P w c d)(h:c e=j (.az ah a4 fs)):∃gO,pk d e a4 ah gO/\(∀f,hM (fs.lookup f) (gO f))/\Dj gO (fs.map (·.1))/\fs.length<=1000/\c a4=j (.own e):=by obtain⟨g,i,k,l,gO,m,n,o⟩:=(show ei P w c d e (.az ah a4 fs)from b e _ h);exact⟨gO,⟨l,m,k⟩,n,o,i,g⟩
end
structure ha (K:bG) (ah:t):Prop where
 Mq:x8 K ah Str.empty=H
 du:DY K ah=H
 Mr:Ml K ah=H
 Ms:ia K (.ref ah) "__setattr__"=j (j (.builtin "object.__setattr__"))
def ha.get(y:ha K ah)(f:Str):x8 K ah f=H:=y.Mq
def eN(K:bG)(ah:t)(f:Str):Prop:=ia K (.ref ah) f=j E
def eN.Mt{f:Str}(o:eN K ah f):D0 K ah f=j E:=by unfold D0;rw[show ia K (.ref ah) f=j E from o];rfl
structure sp (K:bG) (ah:t) (v:Str) (f:t):Prop where
 at_:ia K (.ref ah) v=j (j (.ref f))
 fn:lw K (.ref f)=H
 kp:md K (.ref f)=H
section
variable{a4:t}{fs:List (Str×V)}{f:Str}{bc:ab->aJ->Prop}
def D3{b:Bool}(g:Inv X al J c l)(h:c e=j (.az ah a4 fs))(y:ha X.K ah)(o:eN X.K ah f)(n:fs.lookup f=j u)(d:∀C aM,Inv X al J c aM->RelV u C->bc C aM):a5 (a' X.prog X.w) A (getAttr (.ref e) f b) bc B l:=by obtain⟨k,m,p,_,_,_⟩:=x' g.hok h;obtain⟨C,r,i⟩:=hM.x_ (u:=u) (q:=k f) (by rw[<-n];exact p f);exact Mh g.gM m (y.get f) y.du o r (Mp i) (d C _ (g.eM _) i)
variable{gP:Sem Bool}
def ya{v:Str}{g:t}{b:ab×List ab->aJ->Prop}(f:Inv X al J c l)(h:c e=j (.az ah a4 fs))(y:ha X.K ah)(r:sp X.K ah v g)(n:fs.lookup v=E)(d:b (.ref g,[.ref e]) l):a5 (a' X.prog X.w) A (qJ (.ref e) v gP) b B l:=by obtain⟨i,k,m,_,_,_⟩:=x' f.hok h;have o:i v=E:=hM.Mo (by rw[<-n];exact m v);exact Mj f.gM k (y.get v) r.at_ r.fn o d
def D4{D:V}{r:Unit->aJ->Prop}(k:Inv X al J c l)(h:c e=j (.az ah a4 fs))(y:ha X.K ah)(o:eN X.K ah f)(Q:fs.length<1000)(x:RelV D C)(d:∀aM,Inv X al J (U c e (.az ah a4 (c0 f D fs))) aM->r () aM):a5 (a' X.prog X.w) A (setAttr (.ref e) f C) r B l:=by
 obtain⟨s,m,z,u,_,v⟩:=x' k.hok h;have F:(fs.map (·.1)).length<=aD:=by rw[aV,ut];omega
 refine Mk k.gM m y.Ms y.Mr o.Mt y.du u F λG n I=>d _ ?_;have L:∃p,G.get? a4=j p:=let⟨p,_,_,M,_⟩:=n.ns;⟨p,M⟩
 refine k.l8 (i:=e) (h:=a4) (by rw[h];exact d5) (.inr v) (λN g O q=>(I.2 N O).trans q) L ?_;refine⟨by rw[aH m.eJ];exact v,?_,m.eJ,n.obj,_,n.ns,λb=>?_,λb P=>?_⟩;have:=D2 f D fs;omega;show hM ((c0 f D fs).lookup b) (if b=f then j C else s b);rw[D1];by_cases g:b=f;rw[as g,as g];exact x;rw[ag g,ag g];exact z b;by_cases g:b=f;rw[g];exact(x9 f D fs).1;refine(x9 f D fs).2 b (u b λq=>P ?_);show(if b=f then j C else s b)=E;rw[ag g];exact q
def Inv.made(g:Inv X al J c l):Inv X al J (U (U c l.heap.objs.size (.own (l.heap.objs.size+1))) (l.heap.objs.size+1) (.az ah l.heap.objs.size []))
  {l with heap:=(l.heap.push om).push (o_ ah l.heap.objs.size)}:=by
 have d:(l.heap.push om).get? l.heap.objs.size=j om:=hv l.heap a;have h:((l.heap.push om).push (o_ ah l.heap.objs.size)).get? (l.heap.objs.size+1)=j (o_ ah l.heap.objs.size):=by
  have:=hv (l.heap.push om) (o:=o_ ah l.heap.objs.size) a
  rwa [lx]at this
 have i:=g.hr (e:=l.heap.objs.size) (q:=.own (l.heap.objs.size+1)) (aY:=l.heap.push om) (cX:=l.toks) (λk m b=>gs _ b) (bC _) ⟨_,d⟩;refine i.hr (e:=l.heap.objs.size+1) (q:=.az ah l.heap.objs.size []) (cX:=l.toks) (λk m b=>gs _ b) (yb (lx _ _)) ?_;have f:l.heap.objs.size≠l.heap.objs.size+1:=gL (uu _);refine⟨by rw[aH f,aw],dC _,f,h,λ_=>E,(Heap.Ns1.of_empty (⟨om,#[],_,d,a,(λr n=>aq n (by simp)),λ_=>rfl⟩:(l.heap.push om).Ns l.heap.objs.size (λ_=>E))).at λq b=>gs _ b,λ_=>d5,λs p=>aq a p⟩
def Mu{b:cN}{env:Env}{f:Str}(c:oo h f env (cb h env)=cb h env)(d:a5 (a' b w) A (cb h env) (λq e=>a5 (a' b w) A (getAttr q f H) bc B e) B l):a5 (a' b w) A (cb (.Attribute h f aT) env) bc B l:=
 Attribute_any_ d (by rw[arm_eval_Attribute,c])
end
inductive D5(K:bG)(f:Str)(c:aW)(i:V)(b:z):Prop|mk:∀e ah g d u,i= .ref e->b e=j (.az ah g d)->ha K ah->eN K ah f->d.lookup f=j u->c u b->D5 K f c i b
def nt(K:bG)(b:bu)(f:Str):bu:=λJ c d=>b J c λi e=>D5 K f d i e
inductive D6(K:bG)(f:Str)(d:Ends)(g:bT.St)(D i:V)(b:z):Prop|mk:∀e ah h c,i= .ref e->b e=j (.az ah h c)->ha K ah->eN K ah f->c.length<1000->d.bb g (U b e (.az ah h (c0 f D c)))->D6 K f d g D i b
def Mv(K:bG)(b d:bu)(f:Str):dz:=λe J c=>d J c λg h=>b J h λi k=>D6 K f e J g i k
def D7(X:bJ)(e:ul)(f:V->V->z->aW->Prop):Prop:=
 ∀(al:List (t×Obj)) (l:aJ) (J:St) (c:z) (i b:V) (C u:ab) (d:aW),Inv X al J c l->RelV i C->RelV b u->f i b c d->a5 (a' X.prog X.w) X.A (xV e C u) (fC X al J d) X.xe l
inductive D8(K:bG)(g:bu)(h:V->V->z->aW->Prop)(f:Str)(k:Ends)(b:bT.St)(i:V)(c:z):Prop|mk:∀e ah o l u,i= .ref e->c e=j (.az ah o l)->ha K ah->eN K ah f->l.lookup f=j u->(g b c λp q=>h u p q λr m=>∃n d,m e=j (.az ah n d)/\d.length<1000/\k.bb b (U m e (.az ah n (c0 f r d))))->D8 K g h f k b i c
def Mw(K:bG)(b d:bu)(e:V->V->z->aW->Prop)(f:Str):dz:=λg J c=>b J c λi h=>D8 K d e f g J i h
section
variable{dD:bu}{q j7:ce}{f:Str}{op D9:Pos}{me:bu}
def a1(b:a8 X h dD)(c:oo h f X.env (cb h X.env)=cb h X.env):a8 X (.Attribute h f aT) (nt X.K dD f):=by intro e g i k B l d;refine Mu c (bB (b e g i k _ l d) λm C ⟨D,n,o,p,q,F,G,I,r,s,u,v,w,x,y⟩=>?_);subst s;obtain rfl:m=dt q:=p;exact D3 o u v w x λJ L z A=>⟨r,n,z,A,y⟩
def f1(e:a8 X q dD)(g:a8 X j7 me)(h:pe j7 (j (.Attribute q f op)) aT.line X.env=pure am):fY X (.Assign [.Attribute q f op] j7 aT) (Mv X.K dD me f):=by intro c i b k F l d;refine plainObj_wpAny_Assign_Attribute (bB (g c i b k _ l d) λG m ⟨I,n,o,p,r⟩=>bB (e c m b n _ o r) λs J ⟨L,M,u,v,w,N,O,P,x,y,z,A,B,C⟩=>?_) h;subst x;obtain rfl:s=dt w:=v;exact D4 u y z A B p λQ D=>⟨b,_,D,C⟩
def D_{e:ul}{g:V->V->z->aW->Prop}(k:a8 X q dD)(l:a8 X j7 me)(m:D7 X e g):fY X (.AugAssign (.Attribute q f D9) e j7 aT) (Mw X.K dD me g f):=by intro c n b o Z p d;refine wpAny_AugAssign_AttributeAny (bB (k c n b o _ p d) λr aa ⟨ad,s,u,v,w,ae,af,ah,x,y,A,h,i,B,C⟩=>?_);subst y;obtain rfl:r=dt w:=v;refine D3 u A h i B λD F G I=>bB (l c F b s _ G C) λJ L ⟨M,N,O,P,Q⟩=>bB (m c L b N x M D J _ O I P Q) λai aj ⟨ak,al,R,S,an,ao,T,U,W⟩=>?_;exact D4 R T h i U S λap Y=>⟨b,_,Y,W⟩
inductive D'(i D:V)(c:z)(b:aW):Prop|mk:∀k d,i= .int k->D= .int d->b (.int (k+d)) c->D' i D c b
def Ea:D7 X .Add D':=by rintro n o p f q r g h s i k l ⟨b,c,rfl,rfl,m⟩;obtain⟨d,rfl⟩:=(show∃d,g=r7 b d from k);obtain⟨e,rfl⟩:=(show∃e,h=r7 c e from l);exact PyProof.Rows.iadd_int ⟨.int (b+c),f,i.eM _,⟨_,a⟩,m⟩
variable{gP:Sem Bool}{bc:ab->aJ->Prop}
def YC{v:Str}{k:Pos}{args:List ce}(r:a8 X h bj)(s:Inv X al J c l)(d:bj J c λi m=>∃e ah o n g,i= .ref e/\m e=j (.az ah o n)/\ha X.K ah/\sp X.K ah v g/\n.lookup v=E/\∀b,Inv X al J m b->a5 (a' X.prog X.w) X.A (sq aT (.ref g) [.ref e] (gq aT (da args X.env)) (pl aT (pm [] X.env))) bc X.xe b)(u:cb (.Call (.Attribute h v k) args [] aT) X.env=(do
   let p<-cb h X.env
   qC k.atName
   let(f,first)<-holding [p] (qJ p v gP)
   sq aT f first (gq aT (da args X.env)) (pl aT (pm [] X.env)))):
  a5 (a' X.prog X.w) X.A (cb (.Call (.Attribute h v k) args [] aT) X.env) bc X.xe l:=by
 refine Eb (pl:=gP) (bB (r al l J c _ s d) λx b ⟨i,m,q,y,e,ah,o,n,g,z,B,C,D,F,G⟩=>?_) u;subst z;obtain rfl:x=dt e:=y;exact ya q B C D F (G b q)
end
structure cV (r:Nat) (A:g8):Prop where
 du:A.handled=E
 hy:A.depth+3*r+5<recursionLimit
 un:A.units+16*r+200<e0
def cV.aG{af:Nat}(s:cV r A)(d:af<=r):cV af A:=⟨s.du,by have:=s.hy;omega,by have:=s.un;omega⟩
theorem cV.deeper(s:cV (r+1) A)(env:Env):cV r (A.deeper env):=
 ⟨s.du,by have:=s.hy;show A.depth+1+3*r+5<_;omega,by have:=s.un;show A.units+3+16*r+200<_;omega⟩
variable{qK:List (Str×ab)}
def Mx:(A.under (.builtin "type.__call__" ⟨.ref ah::aP,qK⟩)).depth=A.depth+1:=by first|rfl|simp[Ec,Code.weight,Code.isCreation,Code.isGuard,Code.isCaller,Code.frames,Ed,guardIds]
def My:(A.under (.builtin "type.__call__" ⟨.ref ah::aP,qK⟩)).units=A.units+1:=by first|rfl|simp[Ec,Code.cUnits,Code.frames,Ed]
def cV.yc(s:cV (r+1) A)(ah:t)(aP:List ab)(b:List (Str×ab)):cV r (A.under (.builtin "type.__call__" ⟨.ref ah::aP,b⟩)):=
 ⟨s.du,by have:=s.hy;rw[Mx];omega,by have:=s.un;rw[My];omega⟩
theorem cV.depth(s:cV r A):A.depth<recursionLimit:=by have:=s.hy;omega
theorem cV.units(s:cV r A):A.units+64<e0:=by have:=s.un;omega
def e1:ba:=λ_ c b=>b [] c
def dx(b:bu)(d:ba):ba:=λJ c e=>b J c λi f=>d J f λg h=>e (i::g) h
section
variable{p:ba}
def ae:hO X [] e1:=λ_ _ _ _ b e c d=>Ee ⟨[],b,c,.nil,d⟩
def I(g:a8 X h bj)(i:hO X ap p)(k:da (h::ap) X.env=(am,cb h X.env)::da ap X.env:=by rfl):hO X (h::ap) (dx bj p):=by intro b c e f l A m d;rw[k];show a5 _ _ (spliced ((am,cb h X.env)::gq b (da ap X.env))) _ _ e;refine yd (bB (g c e f l _ m d) λB n ⟨o,q,r,s,u⟩=>?_);exact bB (i b c n f q _ r u) λC D ⟨v,w,x,y,z⟩=>⟨o::v,w,x,.cons s y,z⟩
def hP(p:ba):bu:=λJ c f=>p J c λd e=>d.length<=aD/\∀b,e b=E->f (.ref b) (U e b (.aF d))
def Mz(p:ba):bu:=λJ c f=>p J c λd e=>d.length<=aD/\∀b,e b=E->f (.ref b) (U e b (.L d))
def cP{h}(d:hO X ap p):a8 X (.Tuple ap h aT) (hP p):=by intro i k l m v n o;refine wpAny_Tuple_spliced (bB (d aT i k l m _ n o) λq b ⟨r,c,e,f,g,s⟩=>⟨by rw[<-f.length];exact g,?_⟩);refine⟨.ref b.heap.objs.size,U c b.heap.objs.size (.aF r),e.hr (cX:=b.toks) (λw x u=>gs _ u) (bC _) ?_,a,s _ (e.hok.fresh (bC _):c b.heap.objs.size=E)⟩;exact⟨g,q,f,⟨_,hv _ a,a,_,a⟩⟩
def dR(d:hO X ap p):a8 X (.List ap aT) (Mz p):=by intro h i k l u m n;refine wpAny_List_spliced (bB (d aT h i k l _ m n) λo b ⟨q,c,e,f,g,r⟩=>⟨by rw[<-f.length];exact g,?_⟩);refine⟨.ref b.heap.objs.size,U c b.heap.objs.size (.L q),e.hr (cX:=b.toks) (λv w s=>gs _ s) (bC _) ?_,a,r _ (e.hok.fresh (bC _):c b.heap.objs.size=E)⟩;exact⟨g,o,0,f,hv _ a⟩
end
abbrev f2:=List V->z->aW->bn->Prop
abbrev hz:=List Env->z->aJ->bn->ab->aJ->Prop
structure po (P:cN) (w:cr) (K:bG) (mg:Str->Option ab) (base:bM) (A:g8) (outer:List Env) (l:aJ) (c:z):Prop where
 frames:A.frames=j outer
 fm:Mod K mg base
 gp:∀b q,base.get? b=j q->l.heap.get? b=j q/\c b=E
 jc:base.objs.size<=l.heap.objs.size
 g9:l.heap.FunFrames base outer
 frf:∀b∈dh outer,c b=E
 hok:dK P w c l.heap
 fB:nk l.gens
inductive Ef(outer:List Env)(P:cN)(w:cr)(c:z)(l:aJ)(d:aW)(C:ab)(aM:aJ):Prop|mk:∀u b,aM.os=l.os->nk aM.gens->fW (dh outer) [] c b l.heap aM.heap->dK P w b aM.heap->RelV u C->d u b->Ef outer P w c l d C aM
def ye(outer:List Env)(P:cN)(w:cr)(c:z)(l:aJ)(b:aW)(C:ab)(aM:aJ):Prop:=
 Ef outer P w c l b C aM
def MA(cc:hz)(outer:List Env)(P:cN)(w:cr)(c:z)(l:aJ)(b:aW)(B:bn)(s:Result)(aM:aJ):Prop:=
 match s with
 | .ok (.ret C)=>ye outer P w c l b C aM
 | .ok _=>False
 | .error h=>cc outer c l B h aM
structure bd (P:cN) (w:cr) (K:bG) (mg:Str->Option ab) (base:bM) (cc:hz) (r:Nat) (f:t) (ai:hQ) (aZ:List Str) (b0:f2):Prop where
 len:∀G c bc B,b0 G c bc B->G.length=aZ.length
 run:∀(A:g8) (outer:List Env) (l:aJ) (c:z) (args:Args) (aP:List ab) (G:List V) (bc:aW) (B:bn),cV r A->po P w K mg base A outer l c->yf l ai args (aZ.zip aP)->bW G aP->b0 G c bc B->qL (a' P w) A (.call (.ref f) args) (MA cc outer P w c l bc B) l
variable{mg:Str->Option ab}{base:bM}{cc:hz}{ai:hQ}{aZ:List Str}
theorem bd.aG{af:Nat}{f:t}{b0:f2}(F:bd P w K mg base cc af f ai aZ b0)(d:af<=r):
  bd P w K mg base cc r f ai aZ b0:=⟨F.len,λb c e g args h i k l m=>F.run b c e g args h i k l (m.aG d)⟩
def bd.imp{f:t}{b0 e:f2}(F:bd P w K mg base cc r f ai aZ b0)(d:∀G c b B,e G c b B->b0 G c b B):bd P w K mg base cc r f ai aZ e:=
 ⟨λG c b B g=>F.len G c b B (d _ _ _ _ g),λh i k c args l G b B m n o p q=>F.run h i k c args l G b B m n o p (d _ _ _ _ q)⟩
def po.yc{outer:List Env}(h:po P w K mg base A outer l c)(ah:t)(aP:List ab)(b:List (Str×ab)):
  po P w K mg base (A.under (.builtin "type.__call__" ⟨.ref ah::aP,b⟩)) outer l c:=⟨by first|exact h.frames|(simpa[Ec,Code.envs,Ed,pushEnvs]using h.frames),h.fm,h.gp,h.jc,h.g9,h.frf,h.hok,h.fB⟩
section
variable{aM:aJ}
def Inv.yg(b:Inv X al J c l):po X.prog X.w X.K X.mg X.base X.A X.stack l c:=
 ⟨b.ok.frames,b.ok.fm,b.gp,b5 b.ok.jc b.de,b.stack,b.xL,b.hok,b.fB⟩
def Inv.yh{b:aW}(e:Inv X al J c l)(d:ye X.stack X.prog X.w c l b C aM):fC X al J b C aM:=by obtain⟨f,g,os,h,i,k,m,n⟩:=d;obtain⟨o,p,q,r,s⟩:=aM;obtain rfl:s=l.os:=os;exact⟨f,g,e.call (aY:=o) (kv:=p) (j5:=q) (cX:=r) (eZ:=[]) i k h (λv u=>aq u (by simp)),m,n⟩
end
def sr(b0:f2)(b:List V)(B:bn)(p:ba):bu:=λJ c d=>p J c λe f=>b0 (e++b) f d B
inductive Eg(ah:t)(v:Str)(b0:f2)(c:List V)(B:bn)(p:ba)(d:bT.St)(f:aW)(i:V)(b:z):Prop|mk:∀e h g,i= .ref e->b e=j (.az ah h g)->g.lookup v=E->(p d b λk l=>b0 (i::(k++c)) l f B)->Eg ah v b0 c B p d f i b
def ss(ah:t)(v:Str)(b0:f2)(b:List V)(B:bn)(d:bu)(p:ba):bu:=λJ c e=>d J c λi f=>Eg ah v b0 b B p J e i f
def uv(ah:t)(b0:f2)(e:List V)(B:bn)(p:ba):bu:=λJ c f=>p J c λg d=>∀i b,d i=E->d b=E->b≠i->b0 (.ref i::(g++e)) (U (U d b (.own i)) i (.az ah b [])) (λu h=>u= .aL/\f (.ref i) h) B
def Binds(K:bG)(c:hQ)(aZ:List Str)(b:List ab):Prop:=
 ∀(l:aJ) (aP:List ab),K.In l.heap->(aP++b).length=aZ.length->yf l c ⟨aP,[]⟩ (aZ.zip (aP++b))
def Binds.all(d:∀aP:List ab,aP.length=aZ.length->yi ai ⟨aP,[]⟩=pure (aZ.zip aP)):Binds K ai aZ []:=λc aP _ b=>by rw[fT]at b|-;exact .of_eq (d aP b)
def gt(cc:hz)(X:bJ)(B:bn):Prop:=∀(al:List (t×Obj)) (J:St) (c:z) (l:aJ) (h:ab) (b:aJ),Inv X al J c l->cc X.stack c l B h b->X.xe h b
section
variable{dD:bu}{f:t}{b0:f2}{ib:List V}{cu:List ab}{B:bn}{v:Str}{m gg:Pos}{q:ce}{p:ba}
def uw{g:aW}{G:List V}(F:bd X.prog X.w X.K X.mg X.base cc r f ai aZ b0)(i:cV r X.A)(k:Binds X.K ai aZ cu)(m:bW ib cu)(n:gt cc X B)(e:Inv X al J c l)(s:bW G aP)(d:b0 (G++ib) c g B):a5 (a' X.prog X.w) X.A (call (.ref f) aP) (fC X al J g) X.xe l:=by
 have h:bW (G++ib) (aP++cu):=s.append m;have o:(aP++cu).length=aZ.length:=by rw[<-h.length];exact F.len _ _ _ _ d
 refine Eh (ux (F.run X.A X.stack l c ⟨aP,[]⟩ (aP++cu) (G++ib) g B i e.yg (k l aP e.gM o) h d) λs p b=>?_);cases s with
 |error q=>exact n al J c l q p e b
 |ok u=>
  cases u with
  |ret v=>exact e.yh b
  |next=>exact hu b
  |brk=>exact hu b
  |cont=>exact hu b
def MB(F:bd X.prog X.w X.K X.mg X.base cc r f ai aZ b0)(e:cV r X.A)(g:gN X i)(k:X.mg i=j (.ref f))(l:md X.K (.ref f)=H)(n:Binds X.K ai aZ cu)(o:bW ib cu)(q:gt cc X B)(s:hO X (h::ap) p)(u:(i==("__debug__":Str))=am:=by decide)(v:da (h::ap) X.env=(am,cb h X.env)::da ap X.env:=by rfl)(x:(gq aT (da ap X.env)).any (·.1)=am:=by rfl):
  a8 X (.Call (.Name i m) (h::ap) [] aT) (sr b0 ib B p):=by
 intro y z C D J b d;refine qM (pc b g k ?_ u);refine uy (h₀:=X.base) b.ok.fm.pa l (bB (s aT y z C D _ b d) λL M ⟨N,O,c,G,I⟩=>⟨c.gM,?_⟩) v x;exact uw F e n o q c G I
variable{gP:Sem Bool}
def MC(n:a8 X q dD)(y:ha X.K ah)(c:sp X.K ah v f)(F:bd X.prog X.w X.K X.mg X.base cc r f ai aZ b0)(o:cV r X.A)(s:Binds X.K ai aZ cu)(u:bW ib cu)(x:gt cc X B)(z:hO X (h::ap) p)(C:da (h::ap) X.env=(am,cb h X.env)::da ap X.env:=by rfl)(D:(gq aT (da ap X.env)).any (·.1)=am:=by rfl)(I:cb (.Call (.Attribute q v gg) (h::ap) [] aT) X.env=(do
   let e<-cb q X.env
   qC gg.atName
   let(f,first)<-holding [e] (qJ e v gP)
   sq aT f first (gq aT (da (h::ap) X.env)) (pl aT (pm [] X.env))):=by rfl):
  a8 X (.Call (.Attribute q v gg) (h::ap) [] aT) (ss ah v b0 ib B dD p):=by
 intro g J i L W k d;refine Eb (pl:=gP) (bB (n g J i L _ k d) λM N ⟨Y,O,l,P,b,Z,aa,Q,R,S,T⟩=>?_) I;subst Q;obtain rfl:M=dt b:=P;refine ya l R y c S ?_;refine uy (first:=[.ref b]) (h₀:=X.base) k.ok.fm.pa c.kp (bB (z aT g N i O _ l T) λaP ad ⟨G,ae,m,U,V⟩=>⟨m.gM,?_⟩) C D;exact uw (aP:=.ref b::aP) (G:=.ref b::G) F o s u x m (.cons a U) V
def MD(h:a8 X q dD)(y:ha X.K ah)(e:sp X.K ah v f)(F:bd X.prog X.w X.K X.mg X.base cc r f ai aZ b0)(i:cV r X.A)(k:Binds X.K ai aZ cu)(l:bW ib cu)(m:gt cc X B)(n:cb (.Call (.Attribute q v gg) [] [] aT) X.env=(do
   let g<-cb q X.env
   qC gg.atName
   let(f,first)<-holding [g] (qJ g v gP)
   sq aT f first (gq aT (da [] X.env)) (pl aT (pm [] X.env))):=by rfl):
  a8 X (.Call (.Attribute q v gg) [] [] aT) (ss ah v b0 ib B dD e1):=by
 intro o p s u M x d;refine Eb (pl:=gP) (bB (h o p s u _ x d) λz N ⟨O,P,c,C,b,Q,R,D,I,J,L⟩=>?_) n;subst D;obtain rfl:z=dt b:=C;refine ya c I y e J ?_;exact ME (first:=[.ref b]) c.gM e.kp (uw (aP:=[.ref b]) (G:=[.ref b]) F i k l m c (.cons a .nil) L)
structure kC (K:bG) (ah f:t):Prop where
 makes:Mn K ah=H
 MF:ia K (.ref ah) "__init__"=j (j (.ref f))
 fn:lw K (.ref f)=H
 kp:md K (.ref ah)=H
def Ei{n:aW}{G:List V}(m:kC X.K ah f)(F:bd X.prog X.w X.K X.mg X.base cc r f ai aZ b0)(q:cV (r+1) X.A)(v:Binds X.K ai aZ cu)(x:bW ib cu)(y:gt cc X B)(e:Inv X al J c l)(s:bW G aP)(d:∀i g,c i=E->c g=E->g≠i->b0 (.ref i::(G++ib)) (U (U c g (.own i)) i (.az ah g [])) (λu z=>u= .aL/\n (.ref i) z) B):
  a5 (a' X.prog X.w) X.A (call (.ref ah) aP) (fC X al J n) X.xe l:=by
 have o:=d (l.heap.objs.size+1) l.heap.objs.size (e.hok.fresh (Df _)) (e.hok.fresh (bC _)) (gL (uu _));have h:=Inv.made (ah:=ah) e;have p:bW (V.ref (l.heap.objs.size+1)::(G++ib)) (dt (l.heap.objs.size+1)::(aP++cu)):=.cons a (s.append x);have C:(dt (l.heap.objs.size+1)::aP++cu).length=aZ.length:=by have k:=p.length;rw[F.len _ _ _ _ o]at k;exact k.symm
 refine Eh (Mm (f:=f) e.gM m.makes m.MF (fz.mp m.fn) (ux (F.run _ X.stack _ _ ⟨dt (l.heap.objs.size+1)::aP,[]⟩ (dt (l.heap.objs.size+1)::(aP++cu)) _ _ B (q.yc ah aP []) (h.yg.yc ah aP []) (v _ (dt (l.heap.objs.size+1)::aP) h.gM C) p o) λs D b=>?_));cases s with
 |error k=>exact y al J _ _ k D h b
 |ok I=>
  cases I with
  |ret Q=>obtain⟨u,L,M,N,O,P⟩:=h.yh b;subst O;exact⟨N,⟨V.ref (l.heap.objs.size+1),L,M,a,P⟩⟩
  |next=>exact hu b
  |brk=>exact hu b
  |cont=>exact hu b
def MG(c:kC X.K ah f)(F:bd X.prog X.w X.K X.mg X.base cc r f ai aZ b0)(g:cV (r+1) X.A)(k:gN X i)(l:X.mg i=j (.ref ah))(n:Binds X.K ai aZ cu)(o:bW ib cu)(q:gt cc X B)(s:hO X (h::ap) p)(u:(i==("__debug__":Str))=am:=by decide)(v:da (h::ap) X.env=(am,cb h X.env)::da ap X.env:=by rfl)(x:(gq aT (da ap X.env)).any (·.1)=am:=by rfl):
  a8 X (.Call (.Name i m) (h::ap) [] aT) (uv ah b0 ib B p):=by
 intro y z C D J b d;refine qM (pc b k l ?_ u);refine uy (h₀:=X.base) b.ok.fm.pa c.kp (bB (s aT y z C D _ b d) λL M ⟨N,O,e,G,I⟩=>⟨e.gM,?_⟩) v x;exact Ei c F g n o q e G I
def MH(c:kC X.K ah f)(F:bd X.prog X.w X.K X.mg X.base cc r f ai aZ b0)(e:cV (r+1) X.A)(g:gN X i)(h:X.mg i=j (.ref ah))(k:Binds X.K ai aZ cu)(l:bW ib cu)(n:gt cc X B)(o:(i==("__debug__":Str))=am:=by decide):a8 X (.Call (.Name i m) [] [] aT) (uv ah b0 ib B e1):=by intro p q s u v b d;refine qM (pc b g h ?_ o);exact ME b.gM c.kp (Ei (aP:=[]) c F e k l n b .nil d)
end
structure b2 (N P:List Str) (nu:hN):Prop where
 kind:nu.kind= .function
 co:nu.isCoroutine=am
 gen:nu.isGenerator=am
 nd:N.Nodup
 pre:N.take P.length=P
 par:∀i∈P,nu.names.lookup i=j .local\/nu.names.lookup i=j .cell
 nofree:∀D∈nu.names,D.2≠.free
variable{kindOf:Str->Option kD}
theorem Ej:∀{b:List (Str×ab)} {v:Str->Option ab},(∀u,(i,u)∉b)->bindL kindOf b v i=v i
 |[],_,_=>rfl
 |(c,u)::f,v,d=>by
  unfold bindL;rw[Ej λe hw=>d e (cv _ hw)];split;have:i≠c:=by rintro rfl;exact d u b8
  simp[this];rfl
theorem Ek:∀{b:List (Str×ab)} {v:Str->Option ab},(∀u,(i,u)∉b)->pq kindOf b v i=v i
 |[],_,_=>rfl
 |(c,u)::f,v,d=>by
  unfold pq;rw[Ek λe hw=>d e (cv _ hw)];split;rfl;have:i≠c:=by rintro rfl;exact d u b8
  simp[this]
theorem El{u:ab}:∀{P:List Str} {G:List ab} {k:Nat} {v:Str->Option ab},P.Nodup->P[k]?=j i->G[k]?=j u->kindOf i=j .local->bindL kindOf (P.zip G) v i=j u
 |[],_,_,_,_,d,_,_=>by simp at d
 |_::_,[],_,_,_,_,d,_=>by simp at d
 |b::P,f::G,0,v,g,c,e,h=>by simp at c e;subst c;subst e;show bindL kindOf ((b,f)::P.zip G) v b=_;unfold bindL;rw[Ej λu l=>(e9.mp g).1 (Em l).1,as h];simp
 |b::P,f::G,k+1,v,g,c,e,h=>by show bindL kindOf ((b,f)::P.zip G) v i=_;unfold bindL;exact El (k:=k) (e9.mp g).2 (by simpa using c) (by simpa using e) h
theorem En{u:ab}:∀{P:List Str} {G:List ab} {k:Nat} {v:Str->Option ab},P.Nodup->P[k]?=j i->G[k]?=j u->kindOf i≠j .local->pq kindOf (P.zip G) v i=j u
 |[],_,_,_,_,d,_,_=>by simp at d
 |_::_,[],_,_,_,_,d,_=>by simp at d
 |b::P,f::G,0,v,g,c,e,h=>by simp at c e;subst c;subst e;show pq kindOf ((b,f)::P.zip G) v b=_;unfold pq;rw[Ek λu l=>(e9.mp g).1 (Em l).1,ag h];simp
 |b::P,f::G,k+1,v,g,c,e,h=>by show pq kindOf ((b,f)::P.zip G) v i=_;unfold pq;exact En (k:=k) (e9.mp g).2 (by simpa using c) (by simpa using e) h
noncomputable def start(b:List Str)(G:List V):St:=G.map j++MI (b.length-G.length) E
noncomputable def jN(cc:hz)(P:cN)(w:cr)(K:bG)(mg:Str->Option ab)(base:bM)(N:List Str)(b:Str)(d:hN)(f:t)(e:ab)(A:g8)(outer:List Env)(l:aJ)(c:z)(B:bn):bJ where
 prog:=P
 w:=w
 K:=K
 mg:=mg
 base:=base
 A:=A.deeper (f3 b d l.heap.objs.size f e)
 N:=N
 s_0:=l
 H_0:=c
 env:=f3 b d l.heap.objs.size f e
 outer:=outer
 stack:=f3 b d l.heap.objs.size f e::outer
 ex:=[]
 calm:=H
 fn:=λ_=>H
 pn:=[]
 xe:=λh i=>a5 (a' P w) (A.deeper (f3 b d l.heap.objs.size f e)) (leaving (f3 b d l.heap.objs.size f e) h) (λ_ g=>cc outer c l B h g) (λk g=>cc outer c l B k g) i
def Eo{b:hN}{o:Nat}(d:b.names.lookup i=j .cell):∃y,(hb o b.names []).lookup i=j y:=by exact yj.mp (MJ b.names o [] (.inl d))
def MK{p:List Str}{y:Str}{h:hN}{f:t}{z:ab}{outer:List Env}{I:aJ}{B:bn}{G:List V}(S:b2 p aZ h)(O:A.handled=E)(g:po P w K mg base A outer l c)(X:G.length=aZ.length)(s:bW G aP)(i:InCallC l l.heap.objs.size (bindL (f3 y h l.heap.objs.size f z).kindOf (aZ.zip aP) λ_=>E) (hb (l.heap.objs.size+1) h.names []) (pq (f3 y h l.heap.objs.size f z).kindOf (aZ.zip aP) λ_=>E) I):
  Inv (jN cc P w K mg base p y h f z A outer l c B) [] (start p G) c I:=by
 have Y:aZ.length<=p.length:=by have:=dZ nv S.pre;rw[ic]at this;omega
 obtain⟨C,bR,rfl,J⟩:=i.done;have F:∀k:t,k∉(jN cc P w K mg base p y h f z A outer l c B).ex:=λk q=>aq (show k∈([]:List t)from q) (by simp);refine⟨⟨g.fm,S.kind,a,a,bC _,λb q m C e=>?_,λb n=>?_,λb m _ d=>?_,λ_=>O,Around.frames_deeper g.frames,.inr ⟨a,a⟩,λk q=>aq q (F k),g.gp,g.jc,λk _ _=>F k,λk q=>aq q (F k),g.g9,g.frf⟩,rfl,g.fB,fW.kept J,⟨_,i.toInCall.ns,λu b Q C e Z=>?_⟩,λb m d=>⟨_,i.cell b m d⟩,g.hok.fresh (bC _),λb m d=>?_,λR v=>aq (show R∈([]:List (t×Obj))from v) (by simp),g.hok.kept J,?_⟩;exact name_of_addr i.apart (jO C) (jO e);have n:h.names.lookup b=j .cell\/h.names.lookup b=j .free:=n;obtain n|n:=n;exact Eo n;exact aq a (S.nofree _ (jO n));exact fX (i.above b m (jO d));have D:u<G.length:=by unfold start at e;by_cases D:u<G.length;exact D;rw[pr (by simpa using D)]at e;rw[ML]at e;split at e<;>cases(e)
 have T:G[u]?=j Q:=by
  unfold start at e;rw[uz (by simpa using D),d2]at e;cases x:G[u]? with
  |none=>rw[x]at e;cases(e)
  |some aa=>rw[x]at e;cases(e);rfl
 obtain⟨U,L,W⟩:=s.get T;have v:aZ[u]?=j b:=by rw[<-S.pre,MM (by omega)];exact C
 have M:aZ.Nodup:=by rw[<-S.pre];exact S.nd.sublist (MN _ _)
 refine⟨U,W,?_⟩;obtain r|r:=S.par b (ev v);exact .inl ⟨r,El M v L r⟩;obtain⟨m,x⟩:=Eo (o:=l.heap.objs.size+1) r;refine .inr ⟨.inl r,m,x,?_⟩;have N:=i.cell b m x;rw[En M v L (by show h.names.lookup b≠_;rw[r];decide)]at N;exact N;exact g.hok.fresh (fX (i.above b m (jO d)));delta start;show _=p.length;rw[b4,aV,uA];omega
def Ep{f:t}{name i:Str}{J:Arguments}{d:hN}{L c9 doc M k N X:ab}{O Y:Option t}{Z:Array (Option ab)}{m:List Str}{b0:f2}(lk:K.lookup f=j ⟨X,Y,.func (qN name i J pg d L c9 doc M O k N),Z⟩)(aa:su K k i=H)(S:b2 m aZ d)(len:∀G c e B,b0 G c e B->G.length=aZ.length)(ad:∀(A:g8) (outer:List Env) (l:aJ) (c:z) (G:List V) (e:aW) (B:bn),cV r (A.deeper (f3 i d l.heap.objs.size f k))->b0 G c e B->∃p,fZ (jN cc P w K mg base m i d f k A outer l c B) pg p/\p {bb:=λ_ g=>e .aL g,lp:=e} (start m G) c):
  bd P w K mg base cc (r+1) f (qN name i J pg d L c9 doc M O k N) aZ b0:=by
 refine⟨len,λA outer l c args ae G e B v o af ah Q=>?_⟩;have R:K.In l.heap:=o.fm.pa.keeps λx y q=>(o.gp x y q).1;have ai:∀D∈aZ.zip ae,d.names.lookup D.1=j .local\/(d.names.lookup D.1=j .cell/\((hb (l.heap.objs.size+1) d.names []).lookup D.1).isSome=H):=λ⟨aj,u⟩ ak=>by obtain b|b:=S.par aj (Em ak).1;exact .inl b;exact .inr ⟨b,MJ _ _ _ (.inl b)⟩
 refine codeAny_call_function v.depth (R _ _ lk) a S.co S.gen a (PySem.W.codeRec_of R aa) (af _ _ _ _ ?_);refine wpAny_newFunctionEnv_cells S.kind ai λar al T U=>?_;subst al;refine⟨(o.fm.nolimit.keeps λx y q=>(o.gp x y q).1:l.heap.NoLimit).keeps U.toInCall.keep,codeAny_func ?_⟩;obtain⟨p,an,ao⟩:=ad A outer l c G e B (v.deeper _) Q;refine h_ (an [] T (start m G) c _ (MK S v.du o (len _ _ _ _ Q) ah U:Inv (jN cc P w K mg base m i d f k A outer l c B) [] (start m G) c T) ao) (λap F n=>?_) λq F n=>n;have bL:∀{s:St} {g:z} {u:V} {C:ab},Inv (jN cc P w K mg base m i d f k A outer l c B) [] s g F->RelV u C->e u g->ye outer P w c l e C F:=
  λ{s g u C} h I b=>⟨u,g,h.os,h.fB,h.base,h.hok,I,b⟩
 cases ap with
 |ret C=>obtain⟨u,s,g,h,I,b⟩:=n;exact bL h I b
 |next=>obtain⟨s,g,h,b⟩:=n;exact bL (u:=V.aL) (C:=ng) h a b
 |brk=>obtain⟨_,_,_,b⟩:=n;exact hu b
 |cont=>obtain⟨_,_,_,b⟩:=n;exact hu b
section
variable{m:Pos}{p:ba}{id T:String}{s:List V->z->aW->Prop}
def uB(s:List V->z->aW->Prop)(p:ba):bu:=λJ c b=>p J c λd e=>s d e b
def en(f:j6 X (.builtin id) s)(g:gN X i)(k:X.mg i=E)(l:uc i=j (.builtin id))(n:hO X (h::ap) p)(o:i≠"__name__":=by decide)(q:(i==("__debug__":Str))=am:=by decide)(r:da (h::ap) X.env=(am,cb h X.env)::da ap X.env:=by rfl)(u:(gq aT (da ap X.env)).any (·.1)=am:=by rfl):a8 X (.Call (.Name i m) (h::ap) [] aT) (uB s p):=by intro b v c w x e d;refine qM (ug e g k l ?_ o q);exact PyProof.Rows.callWith_builtin1 (bB (n aT b v c w _ e d) λy z ⟨A,B,C,D,F⟩=>f b z c B A y x C D F) r u
def nw(f:j6 X (.type T) s)(g:gN X i)(k:X.mg i=E)(l:uc i=j (.type T))(n:hO X (h::ap) p)(o:i≠"__name__":=by decide)(q:(i==("__debug__":Str))=am:=by decide)(r:da (h::ap) X.env=(am,cb h X.env)::da ap X.env:=by rfl)(u:(gq aT (da ap X.env)).any (·.1)=am:=by rfl):a8 X (.Call (.Name i m) (h::ap) [] aT) (uB s p):=by intro b v c w x e d;refine qM (ug e g k l ?_ o q);exact DN (bB (n aT b v c w _ e d) λy z ⟨A,B,C,D,F⟩=>f b z c B A y x C D F) r u
end
end bT
namespace gu
open PySem PyProof.Rows
section
variable{prog:cN}{w:cr}{A:g8}{B:ab->aJ->Prop}{l:aJ}
def MO{p b:t}{G cG:List ab}{e:ab->aJ->Prop}(s:IsTup l.heap p G.toArray)(u:IsTup l.heap b cG.toArray)(f:G≠[])(v:cG=[]->e (.ref p) l)(x:cG≠[]->e (.ref l.heap.objs.size) {l with heap:=l.heap.push {cls:=.type "tuple",data:=.seq (G++cG).toArray}})(y:G.length+cG.length<=aD):a5 (a' prog w) A (pi .Add (.ref p) (.ref b)) e B l:=by
 obtain⟨⟨cls,g,data,h⟩,c,i,k,m⟩:=id s;obtain⟨⟨z,n,data2,o⟩,d,kE,q,r⟩:=id u;simp only at i m kE r;subst i m kE r;by_cases hw:cG=[];exact concat_meets ⟨_,c,a⟩ ⟨_,d,a⟩ noFill_tuple_add seq_tuple_add MP MQ (MR _ _)
  (tuple_addW1 p b G.toArray cG.toArray k q g n h o (by simpa using f) (by simp[hw])) ⟨c,d,v hw⟩
 refine concat_meets ⟨_,c,a⟩ ⟨_,d,a⟩ noFill_tuple_add seq_tuple_add MP MQ (MR _ _)
  (tuple_addW2 p b G.toArray cG.toArray k q g n h o (by simpa using f) (by simpa using hw) (by rw[eO,eO];exact y)) ⟨c,d,?_⟩
 rw[(by simp:G.toArray++cG.toArray=(G++cG).toArray)];exact x hw
noncomputable def hR(o aa:Nat):Option Int->Nat
 |none=>aa
 |some b=>if b<0 then(b+(o:Int)).toNat else min b.toNat o
def MS(o aa:Nat):hR o aa E=aa:=rfl
def yk(o aa r:Nat):hR o aa (j (r:Int))=min r o:=by show(if(r:Int)<0 then((r:Int)+(o:Int)).toNat else min (r:Int).toNat o)=min r o;rw[ag (by omega),Er]
end
end gu
namespace bT
open PySem PySem.Spec PyProof.Rows
abbrev sv:=St->z->(Option Int->z->Prop)->Prop
def uC(X:bJ)(h:Option ce)(p:sv):Prop:=
 ∀(c:List (t×Obj)) (d:aJ) (b:St) (e:z) (f:Option Int->z->Prop),Inv X c b e d->p b e f->a5 (a' X.prog X.w) X.A (evalPart h X.env) (λk l=>∃g i,Inv X c b i l/\IsPart k g/\f g i) X.xe d
def MT:sv:=λ_ b c=>c E b
def MU(p:bu):sv:=λc d e=>p c d λf g=>∃b,f= .int b/\e (j b) g
variable{X:bJ}{h:ce}{aT:Pos}{aP:List ab}
section
variable{bj:bu}{lo d4:Option ce}{ax Es:sv}{Et:Pos}
def MV:uC X E MT:=by intro e f g b h c d;rw[evalPart_none];exact c2 ⟨E,b,c,.none,d⟩
def yl(d:a8 X h bj):uC X (j h) (MU bj):=by intro c e f g q i hw;rw[evalPart_some];refine bB (d c e f g _ i hw) λr s ⟨u,k,l,m,n⟩=>?_;obtain⟨b,rfl,o⟩:=n;obtain⟨p,rfl⟩:=m;exact⟨j b,k,l,.int b p,o⟩
def Eu(X:bJ)(s:V->Option Int->Option Int->z->aW->Prop):Prop:=
 ∀(d:List (t×Obj)) (b:aJ) (e:St) (f:z) (g:V) (c h i:ab) (lo d4:Option Int) (k:t) (l:aW),Inv X d e f b->RelV g c->b.heap.IsSliceOf k h i .none->IsPart h lo->IsPart i d4->s g lo d4 f l->∃m id,typeLookup (.type m) "__getitem__"=pure (j (.builtin id))/\b.TypeIs c m/\a5 (a' X.prog X.w) X.A (sw c (.ref k)) (fC X d e l) X.xe b
def MW(s:V->Option Int->Option Int->z->aW->Prop)(bj:bu)(ax c:sv):bu:=λb d e=>bj b d λf g=>ax b g λh i=>c b i λk l=>s f h k l e
def Ev{s:V->Option Int->Option Int->z->aW->Prop}(l:Eu X s)(m:a8 X h bj)(n:uC X lo ax)(o:uC X d4 Es):a8 X (.Subscript h (.Slice lo d4 E Et) aT) (MW s bj ax Es):=by intro c p d q i r u;refine Ew (bB (m c p d q _ r u) λg v ⟨x,y,B,C,D⟩=>?_);refine wpAny_Slice (bB (n c v d y _ B D) λe F ⟨G,I,J,K,L⟩=>bB (o c F d I _ J L) λf b ⟨M,k,N,O,P⟩=>?_);rw[evalPart_none];refine c2 ?_;have Q:Inv X c d k {b with heap:=b.heap.push {cls:=.type "slice",data:=.fields #[e,f,.none]}}:=N.kept (cX:=b.toks) λW Y R=>gs _ R;obtain⟨Z,id,S,T,U⟩:=l c {b with heap:=b.heap.push {cls:=.type "slice",data:=.fields #[e,f,.none]}} d k x g e f G M b.heap.objs.size i Q C (YD ..) K O P;show a5 (a' X.prog X.w) X.A (Ex h (.Slice lo d4 E Et) g (.ref b.heap.objs.size)) (fC X c d i) X.xe {b with heap:=b.heap.push {cls:=.type "slice",data:=.fields #[e,f,.none]}};exact tail_any (ops:=[.ref b.heap.objs.size,g]) T S U (by with_unfolding_all rfl)
def oq(M:List V)(lo b:Option Int):List V:=(M.drop (gu.hR M.length 0 lo)).take (gu.hR M.length M.length b-gu.hR M.length 0 lo)
def MX(M:List V)(lo b:Option Int):(oq M lo b).length<=M.length:=by delta oq;rw[ic,uD];omega
inductive uE(K:bG)(i D:V)(c:z)(e:aW):Prop|mk:∀f h d b,i= .ref f->D= .ref h->ej K c f d->ej K c h b->d≠[]->d.length+b.length<=aD->(b=[]->e (.ref f) c)->(b≠[]->∀g,c g=E->e (.ref g) (U c g (.aF (d++b))))->uE K i D c e
def bW.ym{M:List V}(s:bW M aP):aP=[]↔M=[]:=by
 cases s with
 |nil=>simp
 |cons _ _=>simp
def Ey:fp X (pi .Add) (uE X.K):=by intro B f C h D F G I J b i k l;obtain⟨m,n,o,p,rfl,rfl,r,s,u,g,v,w⟩:=l;cases i;cases k;obtain⟨L,e,x,_⟩:=b.tuple r;obtain⟨M,d,y,_⟩:=b.tuple s;refine gu.MO x y (λc=>u (e.ym.mp c)) (λc=>⟨.ref m,h,b,a,v (d.ym.mp c)⟩) (λc=>?_) (by rw[<-e.length,<-d.length];exact g);refine⟨.ref f.heap.objs.size,_,b.hr (cX:=f.toks) (q:=.aF (o++p)) (λn N z=>gs _ z) (bC _) ?_,a,w (λA=>c (d.ym.mpr A)) _ (b.hok.fresh (bC _))⟩;exact⟨by rw[b4];exact g,_,e.append d,IsTup.new _ _⟩
end
noncomputable def ot(o:Nat)(k:Int):Option Nat:=if 0<=k then(if k<o then j k.toNat else E)else if-(o:Int)<=k then j (k+o).toNat else E
def gv{b:Type}(M:List b)(k:Int):Option b:=(ot M.length k).bind λc=>M[c]?
variable{o:Nat}
def Ez{k:Int}{af:Nat}(d:ot o k=j af):seqIndex? k o=j af/\af<o/\ -(o:Int)<=k/\k<o:=by unfold ot at d;by_cases c:0<=k;rw[as c]at d;by_cases b:k<o;rw[as b]at d;have e:k.toNat=af:=dP d;exact⟨by rw[EA c b,e],by omega,by omega,b⟩;rw[ag b]at d;cases d;rw[ag c]at d;by_cases b: -(o:Int)<=k;rw[as b]at d;have e:(k+o).toNat=af:=dP d;exact⟨by rw[EB (by omega) b,e],by omega,b,by omega⟩;rw[ag b]at d;cases d
variable{a3:Type}
def EC{M:List a3}{k:Int}{u:a3}(d:gv M k=j u):∃af,seqIndex? k M.length=j af/\M[af]?=j u/\af<M.length/\ -(M.length:Int)<=k/\k<M.length:=by
 unfold gv at d;cases b:ot M.length k with
 |none=>rw[b]at d;cases d
 |some af=>rw[b]at d;obtain⟨c,e,f,g⟩:=Ez b;exact⟨af,c,d,e,f,g⟩
def dj{M:List a3}{af:Nat}{u:a3}(d:M[af]?=j u):gv M (af:Int)=j u:=by
 have c:af<M.length:=(es.mp d).1;have b:ot M.length (af:Int)=j af:=by delta ot;rw[as (by omega),as (by omega)];simp
 delta gv;rw[b];exact d
def MY(b:ce):Prop:=∀c d,subscripted b am c d=operate [c,d] (sw c d)
def yn(X:bJ)(s:nm):Prop:=
 ∀(m d:ce) (e:List (t×Obj)) (f:aJ) (g:St) (h:z) (i k:V) (b c:ab) (l:aW),Inv X e g h f->RelV i b->RelV k c->s i k h l->subscripted d am b c=operate [b,c] (sw b c)->a5 (a' X.prog X.w) X.A (Ex m d b c) (fC X e g l) X.xe f
def kF(X:bJ)(id:String)(s:V->List V->z->aW->Prop):Prop:=
 ∀(b:List (t×Obj)) (c:aJ) (d:St) (e:z) (f:V) (g:List V) (h:ab) (aP:List ab) (i:aW),Inv X b d e c->RelV f h->bW g aP->s f g e i->a5 (a' X.prog X.w) X.A (call (.builtin id) (h::aP)) (fC X b d i) X.xe c
section
variable{e b:ce}{dD cl:bu}
def bU{s:nm}(c:yn X s)(d:a8 X e dD)(f:a8 X b cl)(g:MY b):a8 X (.Subscript e b aT) (hx s dD cl):=by intro h z i A k l m;exact Ew (x5 d f l m λn o p q r u v w x y=>c e b h p i u q r n o k v w x y (g _ _))
inductive uF(K:bG)(i D:V)(c:z)(b:aW):Prop|mk:∀d e f g,i= .ref d->D= .int f->an K c d e->gv e f=j g->b g c->uF K i D c b
inductive qO(K:bG)(i D:V)(c:z)(b:aW):Prop|mk:∀d e f g,i= .ref d->D= .int f->ej K c d e->gv e f=j g->b g c->qO K i D c b
def cj:yn X (uF X.K):=by
 intro L M h q k r i N O P bc l s u v m;obtain⟨R,S,d,w,rfl,rfl,y,z,A⟩:=v;cases s;obtain⟨T,rfl⟩:=u;obtain⟨B,b,e,U⟩:=l.list y;obtain⟨n,c,C,V,D,F⟩:=EC z;obtain⟨f,o,G⟩:=b.get C;have I:=b.length;have W:=sn;have bL:fC X h k bc f q:=⟨w,r,l,G,A⟩;by_cases p:0<=d;have g:d.toNat=n:=by rw[EA p F]at c;exact dP c
 exact item_listR e.isList p (by omega) (by rw[g];simpa using o) bL m;have g:(d+(B.toArray.size:Int)).toNat=n:=by rw[EB (by omega) D]at c;rw[eO,<-I];exact dP c
 exact MZ (x:=f) e.isList.typeIs M0.lookup
  (wpAny_getItem_list_neg (Q:=λb J=>b=f/\fC X h k bc b J) e.isList (by omega) (by rw[eO]<;>omega) (by omega) (by rw[g];simpa using o) ⟨a,bL⟩) m
def ji:yn X (qO X.K):=by
 intro A B d h e k i C D F bc f l m n o;obtain⟨G,I,J,p,rfl,rfl,q,r,s⟩:=n;cases l;obtain⟨L,rfl⟩:=m;obtain⟨M,b,g,N⟩:=f.tuple q;obtain⟨af,u,v,O,P,R⟩:=EC r;obtain⟨c,w,y⟩:=b.get v;have S:=sn;exact MZ (x:=c) g.typeIs slot_tuple_getitem.lookup
  (getItem_tuple (j:=af) (Q:=λb z=>b=c/\fC X d e bc b z) g (by omega) (by omega) (by rw[eO,<-b.length];exact u) (by simpa using w) ⟨a,(⟨p,k,f,y,s⟩:fC X d e bc c h)⟩) o
def M1(b:List ab)(o af:Nat)(C:ab):uG (·.setIfInBounds af C) {cls:=.type "list",data:=.seq b.toArray o}={cls:=.type "list",data:=.seq (b.set af C).toArray o}:=by simp[uG]
variable{al:List (t×Obj)}{J:St}{c:z}{l:aJ}
theorem Inv.L{m:t}{M:List V}(e:Inv X al J c l)(d:c m=j (.L M)):
  ∃(b:List ab) (o:Nat),bW M b/\l.heap.get? m=j {cls:=.type "list",data:=.seq b.toArray o}/\M.length<=aD:=by
 obtain⟨f,b,o,g,h⟩:=e.hok m _ d;exact⟨b,o,g,h,f⟩
variable{ie:List ab}
def Inv.M2{m:t}{M aN:List V}{kG:List ab}{b:Nat}{f:Obj->Obj}(e:Inv X al J c l)(d:c m=j (.L M))(g:l.heap.get? m=j {cls:=.type "list",data:=.seq ie.toArray o})(cA:f {cls:=.type "list",data:=.seq ie.toArray o}={cls:=.type "list",data:=.seq kG.toArray b})(s:bW aN kG)(k:aN.length<=aD)(p:Nat):
  Inv X al J (U c m (.L aN)) {l with heap:=l.heap.update m f,toks:=p}:=by
 have h:(l.heap.update m f).get? m=j {cls:=.type "list",data:=.seq kG.toArray b}:=by rw[ED f g (by rw[cA]<;>rfl),cA]
 refine e.l8 (i:=m) (h:=m) (by rw[d];trivial) (.inl a) (λr u n q=>(yo _ _ (cU n)).trans q) ⟨_,h⟩ ?_;exact⟨k,kG,b,s,h⟩
inductive EE(q k u:V)(c:z)(e:z->Prop):Prop|mk:∀b d f g,q= .ref b->k= .int f->c b=j (.L d)->ot d.length f=j g->e (U c b (.L (d.set g u)))->EE q k u c e
def M3:DG X EE:=by
 intro v d w x J K y M N i O k z A B C;obtain⟨l,D,e,b,rfl,rfl,m,F,n⟩:=C;cases z;obtain⟨P,rfl⟩:=A;obtain⟨o,G,p,f,I⟩:=k.L m;obtain⟨c,Q,q,r⟩:=Ez F;have g:=p.length;have R:=sn;have s:Inv X v w (U x l (.L (D.set b y))) {d with heap:=d.heap.update l (uG (·.setIfInBounds b i))}:=
  k.M2 m f (M1 o G b i) (p.set B b) (by rw[EF];exact I) d.toks
 by_cases u:0<=e;have h:e.toNat=b:=by rw[EA u r]at c;exact dP c
 exact PySem.W.ki_setAt f u (by omega) (by rw[eO,<-g];exact r) (by rw[h];exact⟨_,s,n⟩);have h:(e+(o.toArray.size:Int)).toNat=b:=by rw[EB (by omega) q]at c;rw[eO,<-g];exact dP c
 exact PySem.W.ki_setBack f (by omega) (by rw[eO,<-g];exact q) (by omega) (by rw[h];exact⟨_,s,n⟩)
def M4(lo b:Option Int)(o:Nat):(qP lo b E o).1=((gu.hR o 0 lo:Nat):Int)/\(qP lo b E o).2.1=((gu.hR o o b:Nat):Int)/\(qP lo b E o).2.2=1:=by
 refine⟨?_,?_,a⟩;cases lo with
 |none=>simp[qP,gu.hR]
 |some d=>simp only[qP,gu.hR,M5,show(1:Int)>0 by decide,kH];by_cases c:d<0;simp only[c,kH]<;>omega;simp only[c,ig]<;>omega
 cases b with
 |none=>simp[qP,gu.hR]
 |some d=>simp only[qP,gu.hR,M5,show(1:Int)>0 by decide,kH];by_cases c:d<0;simp only[c,kH]<;>omega;simp only[c,ig]<;>omega
def M6(b:List ab)(lo c:Option Int):slicePick b.toArray lo c E=((b.drop (gu.hR b.length 0 lo)).take (gu.hR b.length b.length c-gu.hR b.length 0 lo)).toArray:=by obtain⟨d,e,f⟩:=M4 lo c b.toArray.size;unfold slicePick;rw[d,e,f];simp only[sliceRange_one,pick_run,eO]<;>rfl
inductive EG(K:bG)(i:V)(lo d:Option Int)(c:z)(f:aW):Prop|mk:∀e g,i= .ref e->an K c e g->(∀b,c b=E->f (.ref b) (U c b (.L (oq g lo d))))->EG K i lo d c f
def EH:Eu X (EG X.K):=by intro s f u v w x y z lo c A B d i k l m n;obtain⟨C,b,rfl,o,e⟩:=n;cases i;obtain⟨D,g,h,p⟩:=d.list o;have r:=g.length;refine⟨"list",_,M0.lookup,h.isList.typeIs,?_⟩;refine wpAny_getItem_list_slice h.isList k l m .none (by simp) ?_ (by rw[eO]<;>omega);rw[M6,<-r];refine⟨.ref f.heap.objs.size,_,d.hr (cX:=f.toks) (q:=.L (oq b lo c)) (λF G e=>gs _ e) (bC _) ?_,a,e _ (d.hok.fresh (bC _))⟩;exact⟨b5 (MX b lo c) p,_,0,(g.drop (gu.hR b.length 0 lo)).take (gu.hR b.length b.length c-gu.hR b.length 0 lo),hv _ a⟩
def ou:V->Bool
 | .aL=>H
 | .bl _=>H
 | .int _=>H
 | .str _=>H
 |_=>am
noncomputable def mf:V->V->Bool
 | .aL,.aL=>H
 | .bl e,.bl b=>e==b
 | .bl e,.int b=>(if e then 1 else 0)==b
 | .int e,.bl b=>e==(if b then 1 else 0)
 | .int e,.int b=>e==b
 | .str e,.str b=>e==b
 |_,_=>am
variable{A:g8}{D i:V}{C u:ab}
def M7(g:RelV D C)(c:RelV i u)(k:ou D=H)(h:ou i=H):SeqAt.EqAt A l C u (mf D i):=by
 cases D with
 |aL=>
  cases g;cases i with
  |aL=>cases c;exact SeqAt.EqAt.same _
  |bl b=>cases c;exact SeqAt.EqAt.none_bool b
  |int b=>obtain⟨d,rfl⟩:=c;exact SeqAt.EqAt.none_int b d
  |str b=>obtain⟨d,rfl⟩:=c;exact SeqAt.EqAt.none_str b d
  |_=>exact aq (show am=H from h) dA
 |bl e=>
  cases g;cases i with
  |aL=>cases c;exact SeqAt.EqAt.bool_none e
  |bl b=>cases c;exact SeqAt.EqAt.bool_bool e b
  |int b=>obtain⟨d,rfl⟩:=c;exact SeqAt.EqAt.bool_int e b d
  |str b=>obtain⟨d,rfl⟩:=c;exact SeqAt.EqAt.bool_str e b d
  |_=>exact aq (show am=H from h) dA
 |int e=>
  obtain⟨f,rfl⟩:=g;cases i with
  |aL=>cases c;exact SeqAt.EqAt.int_none e f
  |bl b=>cases c;exact SeqAt.EqAt.int_bool e f b
  |int b=>obtain⟨d,rfl⟩:=c;exact SeqAt.EqAt.int_int e f b d
  |str b=>obtain⟨d,rfl⟩:=c;exact Lf e f b d
  |_=>exact aq (show am=H from h) dA
 |str e=>
  obtain⟨f,rfl⟩:=g;cases i with
  |aL=>cases c;exact SeqAt.EqAt.str_none e f
  |bl b=>cases c;exact SeqAt.EqAt.str_bool e f b
  |int b=>obtain⟨d,rfl⟩:=c;exact Lg e f b d
  |str b=>obtain⟨d,rfl⟩:=c;exact SeqAt.EqAt.str_str e f b d
  |_=>exact aq (show am=H from h) dA
 |_=>exact aq (show am=H from k) dA
def jj(i:V)(C:ab):Bool:=match C with
 | .none=>mf .aL i
 | .bool b=>mf (.bl b) i
 | .int c _=>mf (.int c) i
 | .str d _=>mf (.str d) i
 |_=>am
def EI(s:RelV D C)(f:ou D=H):jj i C=mf D i:=by
 cases D with
 |aL=>cases s;rfl
 |bl c=>cases s;rfl
 |int d=>obtain⟨b,rfl⟩:=s;rfl
 |str e=>obtain⟨b,rfl⟩:=s;rfl
 |_=>exact aq (show am=H from f) dA
theorem sx:∀{M:List V} {aP:List ab},bW M aP->M.all ou=H->aP.any (jj i)=M.any λD=>mf D i
 |_,_,.nil,_=>rfl
 |D::M,e::aP,.cons c d,b=>by rw[tY,dQ]at b;rw[mh,mh,EI c b.1,sx d b.2]
theorem sy(d:RelV i u)(e:ou i=H):∀{M:List V} {aP:List ab},bW M aP->M.all ou=H->∀C∈aP,SeqAt.EqAt A l C u (jj i C)
 |_,_,.nil,_=>λC b=>by cases b
 |k::M,C::aP,.cons f g,c=>λh b=>by rw[tY,dQ]at c;obtain rfl|b:=bm.mp b;rw[EI f c.1];exact M7 f d c.1 e;exact sy d e g c.2 h b
def kI(i:V)(M:List V):Bool:=M.any λD=>mf D i
inductive uH(K:bG)(e:Bool)(i D:V)(c:z)(f:aW):Prop|mk:∀d b,D= .ref d->(an K c d b\/ej K c d b)->ou i=H->b.all ou=H->f (.bl (if e then !kI i b else kI i b)) c->uH K e i D c f
def uI:fp X (h' .In) (uH X.K am):=by intro r s u k b v w x y f l o p;obtain⟨z,A,rfl,c,m,g,n⟩:=p;cases o;obtain c|c:=c;obtain⟨d,e,h,q⟩:=f.list c;refine SeqAt.in_listAt (jj b) h.isList (λi hw=>sy l m e g i (by simpa using hw)) ⟨.bl _,k,f,a,?_⟩;rw[show d.toArray.any (jj b)=d.any (jj b)by simp,sx e g];exact n;obtain⟨d,e,h,q⟩:=f.tuple c;refine SeqAt.in_tupleAt (jj b) h (λi hw=>sy l m e g i (by simpa using hw)) ⟨.bl _,k,f,a,?_⟩;rw[show d.toArray.any (jj b)=d.any (jj b)by simp,sx e g];exact n
def M8:fp X (h' .NotIn) (uH X.K H):=by intro r s u k b v w x y f l o p;obtain⟨z,A,rfl,c,m,g,n⟩:=p;cases o;obtain c|c:=c;obtain⟨d,e,h,q⟩:=f.list c;refine SeqAt.notIn_listAt (jj b) h.isList (λi hw=>sy l m e g i (by simpa using hw)) ⟨.bl _,k,f,a,?_⟩;rw[show d.toArray.any (jj b)=d.any (jj b)by simp,sx e g];exact n;obtain⟨d,e,h,q⟩:=f.tuple c;refine SeqAt.notIn_tupleAt (jj b) h (λi hw=>sy l m e g i (by simpa using hw)) ⟨.bl _,k,f,a,?_⟩;rw[show d.toArray.any (jj b)=d.any (jj b)by simp,sx e g];exact n
def fE:j6 X (.builtin "len") (λM c h=>∃m aN,M=[.ref m]/\(an X.K c m aN\/ej X.K c m aN)/\h (.int aN.length) c):=by intro r i s c M u h d l n;obtain⟨m,aN,rfl,b,k⟩:=n;obtain⟨v,rfl,o⟩:=vals1 l;cases o;have w:=sn;obtain b|b:=b;obtain⟨p,e,f,q⟩:=d.list b;have g:=e.length;exact Calls.call_len_list f.isList (by simp only[eO]<;>omega) ⟨.int aN.length,c,d.eM _,⟨i.toks+1,by rw[eO,g]⟩,k⟩;obtain⟨p,e,f,q⟩:=d.tuple b;have g:=e.length;exact len_tuple f (by simp only[eO]<;>omega) ⟨.int aN.length,c,d.eM _,⟨i.toks+1,by rw[eO,g]⟩,k⟩
def EJ:j6 X (.builtin "len") (λM c d=>∃b,M=[.str b]/\b.length<=aD/\d (.int b.length) c):=by intro i k l c M m d e f g;obtain⟨b,rfl,n,h⟩:=g;obtain⟨o,rfl,p,rfl⟩:=vals1 f;have q:=sn;exact len_str (by omega) ⟨.int b.length,c,e.eM _,⟨_,a⟩,h⟩
def yp:j6 X (.type "list") (λM c p=>∃m aN,M=[.ref m]/\(an X.K c m aN\/ej X.K c m aN)/\∀n,c n=E->p (.ref n) (U c n (.L aN))):=by
 intro y g z c M J p o A B;obtain⟨m,aN,rfl,h,C⟩:=B;obtain⟨N,rfl,D⟩:=vals1 A;cases D;have bL:∀(d:List ab),bW aN d->aN.length<=aD->∀(b:bM) (e:Nat),(∀v x,g.heap.get? v=j x->b.get? v=j x)->b.get? g.heap.objs.size=j {cls:=.type "list",dict:=E,data:=.seq d.toArray e,slots:= #[]}->fC X y z p (.ref g.heap.objs.size) {g with heap:=b}:=λd f i b e k l=>⟨.ref g.heap.objs.size,_,o.hr (cX:=g.toks) k (bC _) (show ei X.prog X.w _ b _ (.L aN)from⟨i,d,e,f,l⟩),a,C _ (o.hok.fresh (bC _))⟩
 obtain h|h:=h;obtain⟨d,f,q,i⟩:=o.list h;have F:=f.length;obtain⟨G,r,s,I,u⟩:=q.isList;exact call_list_seq m (.inl a) r s u (λb e k l=>bL d f i b e k l) (by simp only[eO]<;>omega);obtain⟨d,f,q,i⟩:=o.tuple h;have F:=f.length;obtain⟨G,r,s,I,u⟩:=q;exact call_list_seq m (.inr a) r s u (λb e k l=>bL d f i b e k l) (by simp only[eO]<;>omega)
def yq(K:bG)(T:String)(i:V)(c:z):Prop:=match i with
 | .str _=>T="str"
 | .int _=>T="int"
 | .ref b=>(T="list"/\∃f,an K c b f)\/(T="tuple"/\∃d,K.lookup b=j d/\d.cls= .type "tuple"/\d.dict=E)\/(T="dict"/\((∃e,c b=j (.cH e))\/∃e,c b=j (.cI e)))\/(T="set"/\∃S o,c b=j (.set S o))
 |_=>False
def EK{T:String}(h:Inv X al J c l)(s:RelV i u)(m:yq X.K T i c):
  l.TypeIs u T/\∀e,u= .ref e->∃r,l.heap.get? e=j r/\r.dict=E:=by
 cases i with
 |str n=>obtain⟨o,rfl⟩:=s;cases(show T="str" from m);exact⟨qQ l n o,λ_=>⋯⟩
 |int w=>obtain⟨o,rfl⟩:=s;cases(show T="int" from m);exact⟨typeIs_int l w o,λ_=>⋯⟩
 |ref k=>
  cases s;obtain⟨rfl,B,x⟩|⟨rfl,d,f,y,p⟩|⟨rfl,f⟩|⟨rfl,S,z,f⟩:=m;obtain⟨C,_,v,_⟩:=h.list x;refine⟨v.isList.typeIs,λe b=>?_⟩;cases b;obtain⟨d,z,b,D,p,_⟩:=v;exact⟨d,b,p⟩;refine⟨⟨d,h.gM k d f,y⟩,λe b=>?_⟩;cases b;exact⟨d,h.gM _ d f,p⟩;have n:∃d,l.heap.get? k=j d/\d.ExactDict:=by obtain⟨A,f⟩|⟨A,f⟩:=f;obtain⟨_,_,_,_,d,_,_,b,g,_⟩:=h.hok k _ f;exact⟨d,b,g⟩;obtain⟨_,_,_,_,d,_,_,b,g,_⟩:=h.hok k _ f;exact⟨d,b,g⟩
  obtain⟨d,b,g⟩:=n;refine⟨⟨d,b,g.1⟩,λe q=>?_⟩;cases q;exact⟨d,b,g.2.1⟩;obtain⟨d,_,_,_,b,g,_⟩:=h.hok k _ f;refine⟨⟨d,b,g.1⟩,λe q=>?_⟩;cases q;exact⟨d,b,g.2.1⟩
 |_=>exact hu m
def M9(K:bG)(T:String)(s:V->List V->z->aW->Prop)(d:bu):bu:=λJ c e=>d J c λi b=>yq K T i b/\s i [] b e
def yr(K:bG)(T:String)(s:V->List V->z->aW->Prop)(d:bu)(p:ba):bu:=λJ c e=>d J c λi b=>yq K T i b/\p J b λf g=>s i f g e
variable{q:ce}{ap:List ce}{iK:bu}{p:ba}{name:Str}{gg ih:Pos}{T id:String}{s:V->List V->z->aW->Prop}
def M_(f:PlainAttrs T)(g:Slot T name id)(h:typeOf (.builtin id)=pure (.type "method_descriptor"))(i:kF X id s)(k:a8 X q iK)(l:oo q name X.env (cb q X.env)=cb q X.env:=by rfl)(m:(gg.endLine==ih.line)=H:=by rfl):a8 X (.Call (.Attribute q name gg) [] [] ih) (M9 X.K T s iK):=by intro b n c o p r u;refine wpAny_Call_method0_late l m (bB (k b n c o _ r u) λv w ⟨x,y,d,e,z,A⟩=>?_);obtain⟨B,C⟩:=EK d e z;exact⟨T,id,f,g,h,B,C,uJ a (M' (i b w c y x [] v [] p d e .nil A))⟩
def fF(g:PlainAttrs T)(k:Slot T name id)(l:typeOf (.builtin id)=pure (.type "method_descriptor"))(m:kF X id s)(n:a8 X q iK)(o:hO X (h::ap) p)(r:oo q name X.env (cb q X.env)=cb q X.env:=by rfl)(u:((gq ih (da (h::ap) X.env)).all (λi=> !i.1)&&(pl ih (pm [] X.env)).all (λi=>i.1.isSome)&&decide ((h::ap).length+([]:List ys).length+(if([]:List ys).isEmpty then 0 else 1)<30))=H:=by rfl)(v:(gg.endLine==ih.line)=H:=by rfl)(w:da (h::ap) X.env=(am,cb h X.env)::da ap X.env:=by rfl)(x:(gq ih (da ap X.env)).any (·.1)=am:=by rfl):
  a8 X (.Call (.Attribute q name gg) (h::ap) [] ih) (yr X.K T s iK p):=by
 intro b y c z A B C;refine wpAny_Call_method_late r u v a (bB (n b y c z _ B C) λD F ⟨i,G,d,e,I,J⟩=>?_);obtain⟨L,M⟩:=EK d e I;refine⟨T,id,g,k,l,L,M,?_⟩;have f:=o ih b F c G _ d J;rw[w]at f|-;refine uJ (by show(am||(gq ih (da ap X.env)).any (·.1))=am;rw[x]<;>rfl) (EL ?_);exact bB f λN O ⟨P,Q,R,S,U⟩=>m b O c Q i P D N A R e S U
end
def uK(X:bJ)(id:String)(s:V->List V->z->aW->Prop):Prop:=
 ∀(b:List (t×Obj)) (c:aJ) (d:St) (e:z) (f:V) (g:List V) (h:ab) (aP:List ab) (i:aW),Inv X b d e c->RelV f h->bW g aP->s f g e i->a5 (a' X.prog X.w) X.A (call (.builtin id) (h::aP)) (fC X b d i) X.xe c
theorem bW.i':∀{i:V} {aP:List ab},bW [i] aP->∃C,aP=[C]/\RelV i C
 |_,_,.cons b .nil=>⟨_,a,b⟩
theorem bW.zero:∀{aP:List ab},bW [] aP->aP=[]
 |_,.nil=>rfl
theorem bW.dropLast{M:List V}(d:bW M aP):bW M.dropLast aP.dropLast:=by
 induction d with
 |nil=>exact .nil
 |cons b c e=>
  cases c with
  |nil=>exact .nil
  |cons f g=>exact .cons b e
def Na(n:List a3):n.eraseIdx (n.length-1)=n.dropLast:=by
 induction n with
 |nil=>rfl
 |cons d b e=>
  cases b with
  |nil=>rfl
  |cons c b=>
   have f:(d::c::b).length-1=((c::b).length-1)+1:=by have g:(d::c::b).length=b.length+2:=rfl;have h:(c::b).length=b.length+1:=rfl;omega
   rw[f,List.eraseIdx_cons_succ,e]
   all_goals rfl
section
variable{al:List (t×Obj)}{J:St}{c:z}{l:aJ}{n b:t}{M aN f4:List V}{ie:List ab}{cX:Nat}
def Inv.uL{kG:List ab}{f:Array ab->Array ab}(d:Inv X al J c l)(e:c n=j (.L M))(h:l.heap.get? n=j {cls:=.type "list",data:=.seq ie.toArray o})(cA:f ie.toArray=kG.toArray)(g:bW aN kG)(k:aN.length<=aD):
  Inv X al J (U c n (.L aN)) {l with heap:=l.heap.update n (uG f),toks:=cX}:=by
 have b:=PySem.IsL.update h f;rw[cA]at b;refine d.l8 (i:=n) (h:=n) (by rw[e];exact trivial) (.inl a) (λq r m p=>(yo l.heap (uG f) (cU m)).trans p) ⟨_,b⟩ ?_;exact⟨k,kG,_,g,b⟩
def Inv.Nb(b:Inv X al J c l)(d:bW aN ie)(e:aN.length<=aD):
  Inv X al J (U c l.heap.objs.size (.L aN)) {l with heap:=l.heap.push {cls:=.type "list",data:=.seq ie.toArray},toks:=cX}:=
 b.hr (λ_ _ f=>gs _ f) (bC _) ⟨e,ie,0,d,hv _ a⟩
theorem Inv.fresh(b:Inv X al J c l):c l.heap.objs.size=E:=b.hok.fresh (bC _)
def Inv.ps(d:Inv X al J c l)(e:c n=j (.L M)):M.length<=aD/\∃(ie:List ab) (o:Nat),bW M ie/\M.length=ie.length/\l.heap.get? n=j {cls:=.type "list",data:=.seq ie.toArray o}:=by obtain⟨f,ie,o,b,g⟩:=d.hok n _ e;exact⟨f,ie,o,b,b.length,g⟩
def EM(d:o<=aD):uM o=am:=by unfold uM;exact bq (by omega)
end
inductive uN(i:V)(G:List V)(c:z)(e:aW):Prop|mk:∀b d f,i= .ref b->G=[f]->c b=j (.L d)->d.length<aD->e .aL (U c b (.L (d++[f])))->uN i G c e
def hS:uK X "list.append" uN:=by intro p q r s u v w x y c g h i;obtain⟨k,z,A,rfl,rfl,d,B,l⟩:=i;cases g;obtain⟨e,rfl,m⟩:=h.i';obtain⟨C,f,n,o,D,b⟩:=c.ps d;refine qR hT ⟨_,b,a⟩ F.entry_list_append (F.args_list_append_2 _ _) (PySem.list_append k f.toArray n e (by rw[eO];omega)) ⟨b,?_⟩;refine⟨.aL,_,c.uL (kG:=f++[e]) d b (by simp) (o.append (.cons m .nil)) ?_,a,l⟩;rw[b4,fS];omega
inductive EN(i:V)(G:List V)(c:z)(f:aW):Prop|mk:∀b g d e,i= .ref b->G=[.ref g]->c b=j (.L d)->c g=j (.L e)->d.length+e.length<=aD->f .aL (U c b (.L (d++e)))->EN i G c f
def qS:uK X "list.extend" EN:=by
 intro x y z A B C D F G d g h i;obtain⟨k,l,I,J,rfl,rfl,f,m,K,n⟩:=i;cases g;obtain⟨L,rfl,o⟩:=h.i';cases o;obtain⟨M,b,p,q,N,e⟩:=d.ps f;obtain⟨O,c,r,s,P,u⟩:=d.ps m;have v:b.toArray.size+c.toArray.size<=aD:=by rw[eO,eO];omega
 have w:¬(!b.toArray.isEmpty&&uM (b.toArray.size+c.toArray.size))=H:=by rw[EM v,uO];exact dA
 refine qR ov ⟨_,e,a⟩ Nc (Nd _ _)
  (AutoSeq1.list_extend_list_list_0 k b.toArray p l c.toArray r w (by rw[eO];omega) (by omega)) ⟨e,u,?_⟩
 refine⟨.aL,_,d.uL (kG:=b++c) f e (by simp) (q.append s) ?_,a,n⟩;rw[b4];omega
inductive EO(i:V)(G:List V)(c:z)(e:aW):Prop|mk:∀d b f,i= .ref d->G=[]->c d=j (.L b)->b[b.length-1]?=j f->e f (U c d (.L b.dropLast))->EO i G c e
def Nf:uK X "list.pop" EO:=by
 intro w x y z A B C D G e h i k;obtain⟨l,I,m,rfl,rfl,f,n,o⟩:=k;cases h;have p:=i.zero;subst p;obtain⟨J,b,q,g,r,c⟩:=e.ps f;obtain⟨d,s,u⟩:=g.get n;have v:b.toArray[b.toArray.size-1]?=j d:=by show b.toArray[b.length-1]?=j d;rw[<-Array.getElem?_toList,<-r];exact s
 refine qR Ng ⟨_,c,a⟩ F.entry_list_pop (F.args_list_pop_1 _) (MeetsSeq.list_pop_last l b.toArray q d v (by rw[eO];omega)) ⟨c,?_⟩;refine⟨m,_,e.uL (kG:=b.dropLast) f c ?_ g.dropLast ?_,u,o⟩;show b.toArray.eraseIdxIfInBounds (b.toArray.size-1)=b.dropLast.toArray;rw[eO,List.eraseIdxIfInBounds_toArray,Na];rw[List.length_dropLast];omega
inductive EP(i D:V)(c:z)(f:aW):Prop|mk:∀g h b d,i= .ref g->D= .ref h->c g=j (.L b)->c h=j (.L d)->b.length+d.length<=aD->(∀e,c e=E->f (.ref e) (U c e (.L (b++d))))->EP i D c f
def nx:fp X (pi .Add) EP:=by intro q e r s u v w x y b f g h;obtain⟨z,A,B,C,rfl,rfl,i,k,D,l⟩:=h;cases f;cases g;obtain⟨F,c,G,m,I,n⟩:=b.ps i;obtain⟨J,d,K,o,L,p⟩:=b.ps k;refine PySem.P.add_list n p ?_ (by rw[eO,eO];omega);rw[(by simp:c.toArray++d.toArray=(c++d).toArray)];exact⟨.ref _,_,b.Nb (cX:=e.toks) (m.append o) (by rw[b4];omega),a,l _ b.fresh⟩
theorem bW.ints:∀{c:List Int} {aP:List ab},bW (c.map V.int) aP->IntsAre aP c
 |[],aP,b=>by rw[xt]at b;cases b;exact IntsAre.nil
 |o::c,aP,b=>by
  rw[bz]at b;cases b with
  |cons d e=>obtain⟨f,rfl⟩:=d;exact IntsAre.cons o f (bW.ints e)
variable{e:t}
def bW.Nh(s:bW [V.ref e] aP):aP=[dt e]:=by
 cases s with
 |cons s b=>cases b;cases s;rfl
variable{prog:cN}{w:cr}{A:g8}{B bc:ab->aJ->Prop}{l:aJ}{ie:List ab}
section
variable{n:t}{bf:List Int}
def Ni(h:A.handled=E)(c:l.heap.IsList n ie.toArray)(e:IntsAre ie bf)(d:∀aY bR cX,(∀b q,l.heap.get? b=j q->aY.get? b=j q)->bc (.int bf.sum cX) {l with heap:=aY,toks:=bR}):a5 (a' prog w) A (call (.builtin "sum") [.ref n]) bc B l:=by
 obtain⟨i,f⟩:=e.allInts.items;have g:numsOf (intItems i).toList=bf:=by rw[<-f];exact e.numsOf
 rw[nums_intItems]at g;rw[f]at c;refine PySem.sum_intListG h c λaY bR cX k=>?_;have:=d aY bR cX k;rw[preSum_eq,EQ (by simp),g];exact this
end
inductive ER(K:bG)(G:List V)(c:z)(b:aW):Prop|mk:∀(e:t) (d:List Int),G=[V.ref e]->an K c e (d.map V.int)->b (.int d.sum) c->ER K G c b
def ES(c:X.calm=H):j6 X (.builtin "sum") (ER X.K):=by intro m n o d p q r b e f;obtain⟨s,u,rfl,g,h⟩:=f;obtain⟨v,i,k,_⟩:=b.list g;rw[bW.Nh e];exact Ni (b.ok.du c) k.isList i.ints λw bR x l=>⟨.int _,d,b.kept l,⟨_,a⟩,h⟩
mutual
inductive f5 (K:bG) (c:z):V->ow->Prop
 |aL:f5 K c .aL .none
 |bl (b:Bool):f5 K c (.bl b) (.bool b)
 |int (k:Int):f5 K c (.int k) (.int k)
 |str (i:Str):f5 K c (.str i) (.str i)
 |L {e:t} {M:List V} {cu:List ow}:an K c e M->qT K c M cu->f5 K c (.ref e) (.list cu)
 |aF {e:t} {M:List V} {cu:List ow}:ej K c e M->qT K c M cu->f5 K c (.ref e) (.tuple cu)
inductive qT (K:bG) (c:z):List V->List ow->Prop
 |nil:qT K c [] []
 |cons {u:V} {G:List V} {aa:ow} {cu:List ow}:f5 K c u aa->qT K c G cu->qT K c (u::G) (aa::cu)
end
variable{al:List (t×Obj)}{J:St}{c:z}
mutual
theorem f5.ox(e:Inv X al J c l):∀(aa:ow) (u:V) (C:ab),f5 X.K c u aa->RelV u C->∃f,Reads l.heap C aa f
 | .none,_,_,b,d=>by cases b;cases d;exact⟨_,Reads.none⟩
 | .bool s,_,_,b,d=>by cases b;cases d;exact⟨_,Reads.bool s⟩
 | .int v,_,_,b,d=>by cases b;obtain⟨g,rfl⟩:=d;exact⟨_,Reads.int v g⟩
 | .str w,_,_,b,d=>by cases b;obtain⟨g,rfl⟩:=d;exact⟨_,Reads.str w g⟩
 | .list h,_,_,b,d=>by
  cases b with
  |L i k=>cases d;obtain⟨m,n,⟨x,y,o,p,_,q⟩,_⟩:=e.list i;obtain⟨f,r⟩:=f5.pt e h _ m k n;exact⟨_,Reads.list o p q r⟩
 | .tuple h,_,_,b,d=>by
  cases b with
  |aF i k=>cases d;obtain⟨m,n,⟨x,o,p,y,q⟩,_⟩:=e.tuple i;obtain⟨f,r⟩:=f5.pt e h _ m k n;exact⟨_,Reads.tuple o p q r⟩
 | .dict _,_,_,b,_=>by cases b
theorem f5.pt(f:Inv X al J c l):∀(b:List ow) (G:List V) (aP:List ab),qT X.K c G b->bW G aP->∃g,ReadsAll l.heap aP b g
 |[],_,_,d,e=>by cases d;cases e;exact⟨_,ReadsAll.nil⟩
 |h::b,_,_,d,e=>by
  cases d with
  |cons i k=>
   cases e with
   |cons m n=>obtain⟨g,o⟩:=f5.ox f h _ _ i m;obtain⟨q,p⟩:=f5.pt f b _ _ k n;exact⟨_,ReadsAll.cons o p⟩
end
inductive sz(K:bG)(i D:V)(c:z)(d:aW):Prop|mk:∀b h,f5 K c i b->f5 K c D h->pu b=H->pu h=H->d (.bl (pv b h)) c->sz K i D c d
inductive sA(K:bG)(i D:V)(c:z)(d:aW):Prop|mk:∀b h,f5 K c i b->f5 K c D h->pu b=H->pu h=H->d (.bl (!pv b h)) c->sA K i D c d
def yt(c:X.A.units+64<e0):fp X (h' .Eq) (sz X.K):=by intro w x y d e f g h z b i k l;obtain⟨m,n,o,p,q,r,s⟩:=l;obtain⟨B,u⟩:=f5.ox b m e g o i;obtain⟨C,v⟩:=f5.ox b n f h p k;exact SeqAt.compareEq_shaped u v q r c ⟨.bl _,d,b,a,s⟩
def ET(c:X.A.units+64<e0):fp X (h' .NotEq) (sA X.K):=by intro w x y d e f g h z b i k l;obtain⟨m,n,o,p,q,r,s⟩:=l;obtain⟨B,u⟩:=f5.ox b m e g o i;obtain⟨C,v⟩:=f5.ox b n f h p k;exact SeqAt.compareNe_shaped u v q r c ⟨.bl _,d,b,a,s⟩
abbrev EU(d:bM)(y:t)(u:Option ab):Prop:=d.IsCell y u
noncomputable def Nj(b c:hN):hN:=
 {b with names:=b.names.map λ(o,d)=>if(d== .free&&c.kind== .function&&c.names.lookup o==j .cell)then(o,.cell)else(o,d)}
noncomputable def gQ(mi:List (Str×t)):List (Str×kD)->List (Str×t)->List (Str×t)
 |[],b=>b
 |(o,d)::c,b=>if d== .free then gQ mi c ((o,(mi.lookup o).getD 0)::b)else gQ mi c b
theorem EV(env:Env)(f:Str×kD->List (Str×t)->Sem (ForInStep (List (Str×t))))(cA:∀o r y,f (o,r) y=if r== .free then(do let e<-cellOf env o;pure (.yield ((o,e)::y)))else pure (.yield y)):
  ∀(names:List (Str×kD)) (a9:List (Str×t)),(∀D∈names,D.2= .free->∃y,env.cells.lookup D.1=j y)->forIn names a9 f=pure (gQ env.cells names a9)
 |[],a9,_=>by rw[Nk];rfl
 |(o,r)::h,a9,c=>by
  rw[EW,cA];have d:=λa9=>EV env f cA h a9 λD i=>c D (cv _ i);unfold gQ;by_cases b:(r==sB)=H;rw[as b,as b];obtain⟨y,g⟩:=c (o,r) b8 (by simpa using b);have k:cellOf env o=pure y:=by unfold cellOf;rw[g]
  rw[k];have l:(env.cells.lookup o).getD 0=y:=by rw[g];rfl
  rw[l];exact d _;rw[ag b,ag b];exact d _
variable{bk:hN}{env:Env}
def Nl(d:∀D∈bk.names,D.2= .free->∃y,env.cells.lookup D.1=j y):closureFor bk env=pure (gQ env.cells bk.names []):=by simp only[closureFor];rw[EV env _ (λb c y=>rfl) bk.names [] d];rfl
theorem mem_lookup:∀{n:List (Str×a3)} {o:Str} {y:a3},(o,y)∈n->∃c,n.lookup o=j c
 |(d,g)::h,o,y,b=>by
  rw[ny];cases e:o==d with
  |true=>exact⟨_,a⟩
  |false=>obtain f|b:=bm.mp b;cases f;simp at e;exact mem_lookup b
variable{mi:List (Str×t)}
theorem uP:∀{names:List (Str×kD)} {a9:List (Str×t)} {o:Str} {y:t},(o,y)∈gQ mi names a9->(o,y)∈a9\/((o,.free)∈names/\y=(mi.lookup o).getD 0)
 |[],_,_,_,b=>.inl b
 |(h,e)::i,a9,o,y,b=>by unfold gQ at b;split at b;rename_i f;obtain b|⟨c,d⟩:=uP b;obtain g|b:=bm.mp b;cases g;exact .inr ⟨(by simpa using f:e= .free)▸b8,a⟩;exact .inl b;exact .inr ⟨cv _ c,d⟩;obtain b|⟨c,d⟩:=uP b;exact .inl b;exact .inr ⟨cv _ c,d⟩
theorem yu:∀{names:List (Str×kD)} {a9:List (Str×t)} {m:Str×t},m∈a9->m∈gQ mi names a9
 |[],_,_,b=>b
 |(c,d)::e,a9,m,b=>by unfold gQ;split;exact yu (cv _ b);exact yu b
theorem yv:∀{names:List (Str×kD)} {a9:List (Str×t)} {o:Str},(o,.free)∈names->(o,(mi.lookup o).getD 0)∈gQ mi names a9
 |(d,e)::f,a9,o,b=>by unfold gQ;obtain c|b:=bm.mp b;cases c;exact yu b8;split;exact yv b;exact yv b
theorem sC:∀{names:List (Str×kD)} {d:bM} {a9:List (Str×t)} {i:Str} {y:t},(i,y)∈hb d.objs.size names a9->(i,y)∈a9\/((i,.cell)∈names/\d.objs.size<=y/\EU (pw d names) y E)
 |[],_,_,_,_,d=>.inl d
 |(m,h)::k,d,a9,i,y,b=>by
  unfold hb at b;unfold pw;split at b;rename_i c;rw[as c];have c:h= .cell:=by simpa using c
  rw[<-lx d {cls:=.type "cell",data:=.cell E}]at b;obtain b|⟨f,e,g⟩:=sC b;obtain l|b:=bm.mp b;cases l;exact .inr ⟨c▸b8,bC _,_,yw k _ _ _ (hv _ a),a⟩;exact .inl b;rw[lx]at e;exact .inr ⟨cv _ f,yx e,g⟩;rename_i c;rw[ag c];obtain b|⟨f,e,g⟩:=sC b;exact .inl b;exact .inr ⟨cv _ f,e,g⟩
theorem uQ:∀{names:List (Str×kD)} {o:Nat} {a9:List (Str×t)} {m:Str×t},m∈a9->m∈hb o names a9
 |[],_,_,_,b=>b
 |(c,d)::e,o,a9,m,b=>by unfold hb;split;exact uQ (cv _ b);exact uQ b
theorem yy:∀{names:List (Str×kD)} {o:Nat} {a9:List (Str×t)} {i:Str},(i,.cell)∈names->∃y,(i,y)∈hb o names a9
 |(d,e)::f,o,a9,i,b=>by unfold hb;obtain c|b:=bm.mp b;cases c;exact⟨o,uQ b8⟩;split;exact yy b;exact yy b
theorem yz:∀{names:List (Str×kD)} {d:bM} {a9:List (Str×t)} {i D:Str} {y:t},(∀m∈a9,m.2<d.objs.size)->(∀i D y,(i,y)∈a9->(D,y)∈a9->i=D)->(i,y)∈hb d.objs.size names a9->(D,y)∈hb d.objs.size names a9->i=D
 |[],_,_,_,_,_,_,f,e,c=>f _ _ _ e c
 |(o,p)::q,d,a9,i,D,y,g,f,e,c=>by unfold hb at e c;split at e;rename_i k;rw[as k]at c;rw[<-lx d {cls:=.type "cell",data:=.cell E}]at e c;refine yz (d:=d.push _) (λm bg=>?_) (λi D y h b=>?_) e c;rw[lx];obtain rfl|bg:=bm.mp bg;exact uu _;exact EX (g m bg);obtain l|h:=bm.mp h<;>obtain n|b:=bm.mp b;cases l;cases n;rfl;cases l;exact aq (g _ b) (nh _);cases n;exact aq (g _ h) (nh _);exact f _ _ _ h b;rename_i k;rw[ag k]at c;exact yz g f e c
def Nm{i:qA}{globals:t}{b:List (Str×t)}{c:Str}{e:Option t}{code:ab}{f:Env}{g:t}{h:Env->aJ->Prop}(d:h (newEnv bk l.heap.objs.size globals (hb (l.heap.objs.size+1) bk.names b) c e code (j f) g) {l with heap:=pw (l.heap.push {cls:=.type "dict",data:=.dict #[]}) bk.names}):
  a5 i A (newFunctionEnv bk globals b [] c e code (j f) g) h B l:=by
 simp only[newFunctionEnv,Nn,kH];refine bv (wpAny_alloc ?_);refine bv (wpAny_layCells _ (λk m n=>rfl) bk.names b _ _ ?_);rw[show({l with heap:=l.heap.push {cls:=.type "dict",data:=.dict #[]}}:aJ).heap.objs.size=l.heap.objs.size+1 from lx ..];rw[Nk];exact bv (c2 (c2 d))
theorem yA{c:hN}:∀{names:List (Str×kD)} {i:Str} {r:kD},
  (names.map λ(o,r)=>if(r==sB&&c.kind== .function&&c.names.lookup o==j .cell)then(o,EY)else(o,r)).lookup i=j r->∃g,names.lookup i=j g/\(r=g\/(g= .free/\r= .cell))
 |[],_,_,h=>by simp at h
 |(o,f)::k,i,r,h=>by
  have l:=@yA c k i r;have b:on i ((if(f==sB&&c.kind== .function&&c.names.lookup o==j .cell)=H then(o,EY)else(o,f))::(k.map _))=j r:=h;cases e:i==o with
  |true=>simp only[ny,e];by_cases d:(f==sB&&c.kind== .function&&c.names.lookup o==j .cell)=H;rw[as d]at b;simp only[ny,e]at b;cases b;simp only[dQ,fz]at d;exact⟨f,a,.inr ⟨d.1.1,a⟩⟩;rw[ag d]at b;simp only[ny,e]at b;cases b;exact⟨_,a,.inl a⟩
  |false=>simp only[ny,e];by_cases d:(f==sB&&c.kind== .function&&c.names.lookup o==j .cell)=H;rw[as d]at b;simp only[ny,e]at b;exact l b;rw[ag d]at b;simp only[ny,e]at b;exact l b
structure px (N:List Str) (nu scope:hN) (own:List (Str×Nat)):Prop where
 kind:scope.kind= .function
 yB:∀D∈scope.names,scope.names.lookup D.1=j D.2
 No:∀m∈own,N[m.2]?=j m.1
 free:∀D∈scope.names,D.2= .free->nu.names.lookup D.1=j .cell\/nu.names.lookup D.1=j .free
 own:∀D∈scope.names,D.2= .local\/D.2= .cell->D.1∈own.map (·.1)\/D.1∉N
def cB(b:St):List Nat->St
 |[]=>b
 |c::d=>(cB b d).set c E
theorem yC(b:St):∀G:List Nat,(cB b G).length=b.length
 |[]=>rfl
 |c::G=>by unfold cB;rw[EF,yC b G]
variable{i:V}
theorem yD{k:Nat}:∀{G:List Nat},(cB J G)[k]?=j (j i)->J[k]?=j (j i)/\k∉G
 |[],b=>⟨b,by simp⟩
 |d::G,b=>by unfold cB at b;by_cases c:d=k;subst c;by_cases e:d<(cB J G).length;rw[ud e]at b;cases b;rw[yE (by simpa using e)]at b;cases b;rw[ue c]at b;obtain⟨f,g⟩:=yD b;exact⟨f,by simp only[bm,not_or];exact⟨λh=>c h.symm,g⟩⟩
abbrev bJ.blk(X:bJ)(l:aJ)(c:z)(b:hN)(d:Env)(e:List t):bJ:={X with s_0:=l,H_0:=c,env:=d,outer:=X.stack,ex:=e,fn:=λi=>b.names.lookup i==j .cell,pn:=[],xe:=λ_ _=>False}
variable{D:V}{u:ab}
def Np{own:List (Str×Nat)}{U:List t}(g:Inv X al J c l)(q:px X.N X.env.scope bk own)(af:X.N.Nodup)(B:∀b∈U,kA X al c b/\b<l.heap.objs.size):
  Inv (X.blk l c bk (hc bk (hb (l.heap.objs.size+1) bk.names (gQ X.env.cells bk.names [])) l.heap.objs.size X.env) U) [] (cB J (own.map (·.2))) c {l with heap:=pw (l.heap.push {cls:=.type "dict",data:=.dict #[]}) bk.names}:=by
 have ah:∀D∈bk.names,D.2= .free->∃y,X.env.cells.lookup D.1=j y:=λD n d=>by obtain r|r:=q.free D n d;exact g.ok.has _ (.inl r);exact g.ok.has _ (.inr r)
 generalize I:hc bk (hb (l.heap.objs.size+1) bk.names (gQ X.env.cells bk.names [])) l.heap.objs.size X.env=f;have M:∀b C,l.heap.get? b=j C->(pw (l.heap.push {cls:=.type "dict",data:=.dict #[]}) bk.names).get? b=j C:=λb C d=>yw _ _ _ _ (gs _ d);have O:f.locals=l.heap.objs.size:=by rw[<-I];rfl
 have z:f.cells=hb (l.heap.objs.size+1) bk.names (gQ X.env.cells bk.names []):=by rw[<-I];rfl
 have V:f.scope=Nj bk X.env.scope:=by rw[<-I];rfl
 rw[<-lx l.heap {cls:=.type "dict",data:=.dict #[]}]at z;have K:∀{D y},(D,y)∈gQ X.env.cells bk.names []->X.env.cells.lookup D=j y/\y<l.heap.objs.size:=λ{D y} i=>by obtain i|⟨h,rfl⟩:=uP i;cases i;obtain⟨y,Z⟩:=ah _ h a;rw[Z];obtain⟨P,e⟩:=g.cell _ _ Z;exact⟨a,e.lt⟩
 have W:∀{D y},f.cells.lookup D=j y->(X.env.cells.lookup D=j y/\y<l.heap.objs.size)\/(l.heap.objs.size+1<=y/\EU (pw (l.heap.push {cls:=.type "dict",data:=.dict #[]}) bk.names) y E):=λ{D y} d=>by rw[z]at d;obtain i|⟨_,p,ai⟩:=sC (jO d);exact .inl (K i);rw[lx]at p;exact .inr ⟨p,ai⟩
 have aa:∀{D},bk.names.lookup D=j .free->∃y,f.cells.lookup D=j y/\X.env.cells.lookup D=j y:=λ{D} Q=>by have n:(D,sB)∈bk.names:=jO Q;obtain⟨R,k⟩:=mem_lookup (uQ (names:=bk.names) (o:=(l.heap.push {cls:=.type "dict",data:=.dict #[]}).objs.size) (yv (mi:=X.env.cells) (a9:=[]) n));rw[<-z]at k;refine⟨R,k,?_⟩;rw[z]at k;obtain i|⟨h,_,_⟩:=sC (jO k);exact(K i).1;have:=q.yB _ h;rw[Q]at this;cases this
 have aj:(X.blk l c bk f U).Ok:=by
  refine⟨g.ok.fm,by show f.scope.kind=_;rw[V];exact q.kind,by show f.globals=_;rw[<-I];exact g.ok.jI,by show f.builtins=_;rw[<-I];exact g.ok.ln,by show l.heap.objs.size<=f.locals;rw[O];exact bC _,λD e y s u=>?_,λD n=>?_,λD y e d=>?_,g.ok.du,g.ok.frames,.inl a,λb v=>⟨?_,λD y d e=>?_⟩,g.gp,b5 g.ok.jc g.de,λb C d v=>?_,λb v e=>?_,g.stack,g.xL⟩;have s:f.cells.lookup D=j y:=s;have u:f.cells.lookup e=j y:=u;rw[z]at s u;refine yz (λw F=>?_) (λD e y ak b=>g.ok.inj D e y (K ak).1 (K b).1) (jO s) (jO u);rw[lx];exact EX (K (D:=w.1) (y:=w.2) F).2;show∃y,f.cells.lookup D=j y;have G:∀r,f.kindOf D=j r->(r= .cell\/r= .free)->∃y,f.cells.lookup D=j y:=λr A Y=>by
   unfold Env.kindOf at A;rw[V]at A;obtain⟨x,d,L⟩:=yA A;have:x= .cell\/x= .free:=by obtain rfl|⟨rfl,_⟩:=L;exact Y;exact .inr a
   obtain rfl|rfl:=this;obtain⟨y,i⟩:=yy (o:=(l.heap.push {cls:=.type "dict",data:=.dict #[]}).objs.size) (a9:=gQ X.env.cells bk.names []) (jO d);obtain⟨R,k⟩:=mem_lookup i;exact⟨R,by rw[z];exact k⟩;obtain⟨y,h,_⟩:=aa d;exact⟨y,h⟩
  obtain n|n:=n;exact G _ n (.inl a);exact G _ n (.inr a);have e:(bk.names.lookup D==j EY)=H:=e;have e:bk.names.lookup D=j .cell:=by simpa using e
  have d:f.cells.lookup D=j y:=d;rw[z]at d;obtain i|⟨_,p,_⟩:=sC (jO d);obtain i|⟨h,_⟩:=uP i;cases i;have S:=q.yB _ h;rw[e]at S;cases S;rw[lx]at p;exact yx p;show b≠f.locals;rw[O];exact gL (B b v).2;have d:f.cells.lookup D=j y:=d;obtain⟨h,_⟩|⟨h,_⟩:=W d;exact(B b v).1.2.2.2.2.1 D y h e;have p:l.heap.objs.size+1<=b:=by rw[<-e];exact h
  exact aq (gK (B b v).2 (yx p)) (nh _);obtain e|e:=(B b v).1.2.2.2.1;exact g.ok.l_ b C d e;exact aq (gK (d_ d) (b5 g.ok.jc e)) (nh _);obtain e|e:=bm.mp (g.xK b e);exact(B b v).1.2.1 e;exact(B b v).1.2.2.1 e
 refine⟨aj,a,g.fB,fW.kept M,⟨λ_=>E,?_,λan D ao s u m=>?_⟩,λD y d=>?_,?_,λD y d=>?_,λw F=>?_,g.hok.kept M,by rw[yC];exact g.len⟩;show Heap.Ns _ f.locals _;rw[O];exact Heap.Ns.keeps (Heap.Ns.new ..) λb C d=>yw _ _ _ _ d;obtain⟨u,ap⟩:=yD u;have T:bk.names.lookup D=j .free/\(f.kindOf D=j .cell\/f.kindOf D=j .free):=by
  have G:∀r,f.scope.names.lookup D=j r->r= .local\/r= .cell\/r= .free->bk.names.lookup D=j .free/\(f.kindOf D=j .cell\/f.kindOf D=j .free):=λr A Y=>by
   have ad:=A;rw[V]at A;obtain⟨x,d,L⟩:=yA A;have ae:¬(x= .local\/x= .cell):=λar=>by obtain k|k:=q.own _ (jO d) ar;obtain⟨w,F,au⟩:=cx.mp k;have m:=q.No w F;have:w.1=D:=au;rw[this]at m;exact ap (cx.mpr ⟨w,F,xM af m s⟩);exact k (ev s)
   obtain rfl|⟨rfl,rfl⟩:=L;obtain rfl|rfl|rfl:=Y;exact aq (.inl a) ae;exact aq (.inr a) ae;exact⟨d,.inr ad⟩;exact⟨d,.inl ad⟩
  have m:pb f.scope D:=m;obtain m|m|m:=m;exact G _ m (.inl a);exact G _ m (.inr (.inl a));exact G _ m (.inr (.inr a))
 obtain⟨av,aw,Q⟩:=g.a6;obtain⟨P,L,S⟩:=Q an D ao s u ((q.free _ (jO T.1) a).elim (λr=>.inr (.inl r)) (λr=>.inr (.inr r)):pb X.env.scope D);refine⟨P,L,.inr ⟨T.2,?_⟩⟩;obtain⟨y,h,p⟩:=aa T.1;obtain⟨r,_⟩|⟨_,R,k,e⟩:=S;have r:X.env.scope.names.lookup D=j .local:=r;obtain x|x:=q.free _ (jO T.1) rfl<;>rw[show X.env.scope.names.lookup D=_ from x]at r<;>cases r;rw[p]at k;cases k;exact⟨y,h,e.keeps M⟩;have d:f.cells.lookup D=j y:=d;obtain⟨h,_⟩|⟨_,e⟩:=W d;obtain⟨P,e⟩:=g.cell D y h;exact⟨P,e.keeps M⟩;exact⟨_,e⟩;show c f.locals=E;rw[O];exact g.hok.fresh (bC _);have d:f.cells.lookup D=j y:=d;obtain⟨h,_⟩|⟨h,_⟩:=W d;exact g.hs D y h;exact g.hok.fresh (yx h);exact aq (show w∈([]:List (t×Obj))++[]from F) (by simp)
def Nq{b:t}{M:List V}(e:Inv X al J c l)(f:c b=j (.L M))(i:M.length<aD)(s:RelV D u)(d:∀aM,Inv X al J (U c b (.L (M++[D]))) aM->bc .none aM):a5 (a' X.prog X.w) X.A (call (.builtin "list.append") [.ref b,u]) bc B l:=by obtain⟨x,k,m,g,n⟩:=e.hok b _ f;have y:=g.length;refine append_at (hsz:=by rw[eO];omega) n λo p h=>?_;refine d {l with heap:=o} (e.l8 (cX:=l.toks) (by rw[f];trivial) (.inl a) (λq z r v=>(p.2 q r).trans v) ⟨_,h⟩ ⟨by rw[b4];exact i,k++[u],m+1,g.append (.cons s .nil),?_⟩);rw[h];simp
def py(X:bJ)(e:List ce)(p:TT):Prop:=
 ∀(al:List (t×Obj)) (l:aJ) (J:St) (c:z) (bc:Bool->z->Prop),Inv X al J c l->p J c bc->a5 (a' X.prog X.w) X.A (forIn e H λb d=>if d=H then do let f<-uf b X.env (cb b X.env);pure (yF f)else pure (yF d)) (bF X al J bc) X.xe l
def hd:TT:=λ_ c bc=>bc H c
def jk:py X [] hd:=λ_ _ _ b _ c d=>wpAny_tests_nil ⟨b,c,d⟩
def nz{y:ce}{p:TT}(d:jf X y p):py X [y] p:=λb c e f g h hw=>wpAny_tests_one (d b c e f g h hw)
def sD{p:Sem a3}{b c:a3->aJ->Prop}{f:qA}(d:a5 f A p b (λ_ _=>False) l)(g:∀e l,b e l->c e l):a5 f A p c B l:=h_ d g λ_ _ h=>hu h
theorem Nr{R:Result->aJ->Prop}{g f iter:ce}{k:List ce}{aQ a9:ab}(c:Nat->aJ->Prop)(C:∀o l,c o l->a5 (a' prog w) A (qG aQ) (λs m=>match s with
   |none=>R (.ok .next) m
   |some u=>a5 (a' prog w) A (xZ f aQ u) (λ_ p=>a5 (a' prog w) A (assign f env u) (λ_ q=>
     a5 (a' prog w) A (forIn k H λy s=>if s=H then do let e<-uf y env (cb y env);pure (yF e)else pure (yF s)) (λe n=>
      if e=H then a5 (a' prog w) A (cb g env) (λi r=>a5 (a' prog w) A (call (.builtin "list.append") [a9,i]) (λ_ x=>∃v,v<o/\c v x) (pz (a' prog w) A env λh aM=>R (.error h) aM) r) (pz (a' prog w) A env λh aM=>R (.error h) aM) n
      else∃v,v<o/\c v n) (pz (a' prog w) A env λh aM=>R (.error h) aM) q) (pz (a' prog w) A env λh aM=>R (.error h) aM) p) (pz (a' prog w) A env λh aM=>R (.error h) aM) m) (pz (a' prog w) A env λh aM=>R (.error h) aM) l)(o:Nat)(d:c o l):
  qL (a' prog w) A (.compLoop (.ListComp g [⟨f,iter,k,0⟩] bk aT) 0 aQ a9 env) R l:=by
 refine codeAny_loop a c (λo l D=>?_) o d;show a5 _ A ((compTurn (.ListComp g [⟨f,iter,k,0⟩] bk aT) 0 aQ a9 env).onRaise (λi=>do pA i env;theTreesLotGoes i)) _ _ l;refine wpAny_noted ?_;rw[compTurn_list];refine bv (xW (bv (h_ (C o l D) (λs m z=>?_) λ_ _ b=>b)));cases s with
 |none=>exact c2 z
 |some u=>
  refine bv (h_ z (λ_ p F=>?_) λ_ _ b=>b);refine bv (h_ F (λ_ q G=>bv (h_ G (λe n B=>?_) λ_ _ b=>b)) λ_ _ b=>b);cases e with
  |false=>exact c2 ⟨a,B⟩
  |true=>exact bv (bv (h_ B (λi r I=>bv (h_ I (λ_ x J=>c2 (c2 ⟨a,J⟩)) λ_ _ b=>b)) λ_ _ b=>b))
def pB(r:TI)(g:f0)(cK:TT)(bj:bu)(G:List Nat):bu:=λJ c bc=>r J c λh n=>∀b,n b=E->∃W:Nat->Nat->z->Prop,(∃f,W 0 f (U n b (.L [])))/\∀d f c,W d f c->(h.stop d c/\bc (.ref b) c)\/(h.go d c/\∃k:z->Prop,(∀e,k e->∃o,o<f/\W (d+1) o e)/\∀i e,h.jh d c i e->g i (cB J G) e λl s=>cB l G=cB J G/\cK l s λu p=>if u=H then bj l p λD q=>∃m,q b=j (.L m)/\m.length<aD/\k (U q b (.L (m++[D])))else k p)
def qU{c:ce}{d:List Comprehension}{b:Pos}{D:Str}{n:Nat}(e:env.scope.kind= .function)(f:env.scope.names.lookup D=j .local)(g:(b.line==aT.line)=H)(h:(bk.names.any λ(o,r)=>o==D&&(r== .local||r== .cell))=am):pe (.ListComp c d bk aT) (j (.Name D b)) n env=pure H:=by
 have i:env.kindOf D=j .local:=f;have k:env.blockKind= .function:=by unfold Env.blockKind;rw[e];rfl
 show pure (env.blockKind== .function&&env.kindOf D==j .local&&b.line==aT.line&& !(bk.names.any λ(o,r)=>o==D&&(r== .local||r== .cell)))=_;rw[k,i,g,h];rfl
def Nt{lo:Int}{g:f0}{cK:TT}{bj:bu}{G:List Nat}{r:z}{f:t}{s:z->Prop}(Pv:Nat->z->Prop)(w:Pv 0 (U r f (.L [])))(x:∀k c,k<o->Pv k c->g (.int (lo+k)) (cB J G) c λd m=>cB d G=cB J G/\cK d m λb h=>if b=H then bj d h λD l=>∃a9,l f=j (.L a9)/\a9.length<aD/\Pv (k+1) (U l f (.L (a9++[D])))else Pv (k+1) h)(y:∀c,Pv o c->s c):
  ∃W:Nat->Nat->z->Prop,(∃v,W 0 v (U r f (.L [])))/\∀k v c,W k v c->((kB lo o).stop k c/\s c)\/((kB lo o).go k c/\∃n:z->Prop,(∀e,n e->∃bH,bH<v/\W (k+1) bH e)/\∀i e,(kB lo o).jh k c i e->g i (cB J G) e λd m=>cB d G=cB J G/\cK d m λb h=>if b=H then bj d h λD l=>∃a9,l f=j (.L a9)/\a9.length<aD/\n (U l f (.L (a9++[D])))else n h):=by
 refine⟨λk v c=>v=o-k/\k<=o/\Pv k c,⟨o,by simp,dC _,w⟩,?_⟩;rintro k v c ⟨rfl,B,u⟩;by_cases p:k<o;refine .inr ⟨p,Pv (k+1),λe A=>⟨o-(k+1),by omega,a,p,A⟩,λi e D=>?_⟩;obtain⟨q,D⟩:=D;subst q D;exact x k _ p u;have q:k=o:=by omega
 subst q;exact .inl ⟨bC _,y c u⟩
variable{K:bG}
def Nu{M:List V}{g:f0}{cK:TT}{bj:bu}{G:List Nat}{s:z}{h:t}{u:z->Prop}(Pv:Nat->z->Prop)(x:Pv 0 (U s h (.L [])))(y:∀k c,k<=M.length->Pv k c->an K c e M)(A:∀k i c,M[k]?=j i->Pv k c->g i (cB J G) c λd n=>cB d G=cB J G/\cK d n λb l=>if b=H then bj d l λD m=>∃a9,m h=j (.L a9)/\a9.length<aD/\Pv (k+1) (U m h (.L (a9++[D])))else Pv (k+1) l)(B:∀c,Pv M.length c->u c):
  ∃W:Nat->Nat->z->Prop,(∃v,W 0 v (U s h (.L [])))/\∀k v c,W k v c->((jM K e).stop k c/\u c)\/((jM K e).go k c/\∃o:z->Prop,(∀f,o f->∃bH,bH<v/\W (k+1) bH f)/\∀i f,(jM K e).jh k c i f->g i (cB J G) f λd n=>cB d G=cB J G/\cK d n λb l=>if b=H then bj d l λD m=>∃a9,m h=j (.L a9)/\a9.length<aD/\o (U m h (.L (a9++[D])))else o l):=by
 refine⟨λk v c=>v=M.length-k/\k<=M.length/\Pv k c,⟨M.length,by simp,dC _,x⟩,?_⟩;rintro k v c ⟨rfl,C,p⟩;have q:=y k c C p;by_cases w:k<M.length;refine .inr ⟨⟨M,M[k],q,by simp[w]⟩,Pv (k+1),λf F=>⟨M.length-(k+1),by omega,a,w,F⟩,λi f D=>?_⟩;obtain⟨r,D⟩:=D;subst r;exact A k i _ (D M q) p;have r:k=M.length:=by omega
 subst r;exact .inl ⟨⟨M,q,bC _⟩,B c p⟩
noncomputable def EZ(c:List Str)(e b:hN)(own:List (Str×Nat)):Bool:=
 (match b.kind with| .function=>H|_=>am)&&(b.names.all λD=>decide (b.names.lookup D.1=j D.2))&&(own.all λd=>decide (c[d.2]?=j d.1))&&
  (b.names.all λD=>match D.2 with
   | .free=>(match e.names.lookup D.1 with|some .cell=>H|some .free=>H|_=>am)
   | .local=>decide (D.1∈own.map (·.1))||decide (D.1∉c)
   | .cell=>decide (D.1∈own.map (·.1))||decide (D.1∉c)
   |_=>H)
def f6{g:List Str}{h:hN}{own:List (Str×Nat)}(d:EZ g h bk own=H):px g h bk own:=by
 unfold EZ at d;simp only[dQ,l4,l2]at d;obtain⟨⟨⟨i,l⟩,m⟩,k⟩:=d;refine⟨?_,l,m,λe f b=>?_,λe f b=>?_⟩;split at i;assumption;cases i;have c:=k e f;simp only[b]at c;split at c<;>first|exact .inl (by assumption)|exact .inr (by assumption)|cases c
 have c:=k e f;obtain b|b:=b<;>(simp only[b,xx,l2]at c;exact c)
variable{q:Option V}{C:ab}
section
variable{dE:Type}[DecidableEq dE]
noncomputable def cg(aB:List (dE×V))(r:dE):Option V:=(aB.find? λb=>decide (b.1=r)).map (·.2)
noncomputable def ey(aB:List (dE×V))(r:dE)(u:V):List (dE×V):=
 if(aB.any λb=>decide (b.1=r))=H then aB.map (λb=>if b.1=r then(b.1,u)else b)else aB++[(r,u)]
def jl{m:dE×V}{s:List (dE×V)}{r:dE}(h:m.1=r):cg (m::s) r=j m.2:=by simp[cg,ez,h]
def jm{m:dE×V}{s:List (dE×V)}{r:dE}(h:¬m.1=r):cg (m::s) r=cg s r:=by simp[cg,ez,h]
theorem pC(r:dE):∀aB:List (dE×V),(aB.any λc=>decide (c.1=r))=(cg aB r).isSome
 |[]=>rfl
 |d::e=>by rw[mh];by_cases b:d.1=r;simp only[jl b,bw b,Bool.true_or,Nn];rw[jm b,bq b,Bool.false_or];exact pC r e
theorem E0(r af:dE)(D:V):∀aB:List (dE×V),cg (aB.map λd=>if d.1=r then(d.1,D)else d) af=(cg aB af).map λi=>if af=r then D else i
 |[]=>rfl
 |m::f=>by have e:=E0 r af D f;rw[bz];by_cases c:m.1=r;rw[as c];by_cases b:m.1=af;rw[jl (m:=(m.1,D)) b,jl b,r3,as (b.symm.trans c)];rw[jm (m:=(m.1,D)) b,jm b,e];rw[ag c];by_cases b:m.1=af;rw[jl (m:=m) b,jl b,r3,ag (λg=>c (b.trans g))];rw[jm (m:=m) b,jm b,e]
theorem E1(r af:dE)(D:V):∀aB:List (dE×V),cg aB r=E->cg (aB++[(r,D)]) af=if af=r then j D else cg aB af
 |[],_=>by by_cases b:r=af;rw[as b.symm];exact jl (m:=(r,D)) b;rw[ag (λc=>b c.symm)];exact jm (m:=(r,D)) b
 |m::f,d=>by
  rw[hJ];have e:¬m.1=r:=λc=>by rw[jl c]at d;cases d
  rw[jm e]at d;by_cases b:m.1=af;rw[jl b,jl b,ag (λc=>e (b.trans c))];rw[jm b,jm b,(E1 r af D f d)]
def sE(aB:List (dE×V))(r af:dE)(D:V):cg (ey aB r D) af=if af=r then j D else cg aB af:=by
 delta ey;by_cases b:(aB.any λe=>decide (e.1=r))=H;rw[as b,E0];rw[pC]at b;by_cases c:af=r;obtain⟨d,f⟩:=yj.mp b;rw[as c,c,f,r3,as a];rw[ag c];cases cg aB af with
 |none=>rfl
 |some d=>rw[r3,ag c]
 rw[ag b];refine E1 r af D aB ?_;rw[pC]at b;cases g:cg aB r with
 |none=>rfl
 |some d=>rw[g]at b;exact(b a).elim
def sF(aB:List (dE×V))(r:dE)(u:V):(ey aB r u).length<=aB.length+1:=by delta ey;split;rw[aV];omega;rw[b4,cy,t0];omega
def uR{aB:List (dE×V)}{r:dE}(u:V)(d:cg aB r=E):ey aB r u=aB++[(r,u)]:=by delta ey;rw[pC,d];exact ag nofun
def hM.sG{C:Option ab}(s:hM q C):q.isSome=C.isSome:=by
 cases q with
 |none=>cases C with
  |none=>rfl
  |some _=>exact(show False from s).elim
 |some _=>cases C with
  |none=>exact(show False from s).elim
  |some _=>rfl
theorem hM.getD{C:Option ab}{aa:V}{j5:ab}(s:hM q C)(b:RelV aa j5):RelV (q.getD aa) (C.getD j5):=by
 cases q with
 |none=>cases C with
  |none=>exact b
  |some _=>exact(show False from s).elim
 |some _=>cases C with
  |none=>exact(show False from s).elim
  |some _=>exact s
def g6.val{aB:List (dE×V)}{G:List (dE×ab)}(s:g6 aB G)(r:dE):hM (cg aB r) (qV G r):=by
 unfold g6 at s;induction s with
 |nil=>exact d5
 | @cons h b n d i o k=>
  obtain⟨g,l⟩:=i;by_cases c:h.1=r;have e:b.1=r:=g.symm.trans c;have f:qV (b::d) r=j b.2:=by simp[qV,ez,e]
  rw[jl c,f];exact l;have e:¬b.1=r:=λm=>c (g.trans m);have f:qV (b::d) r=qV d r:=by simp[qV,ez,e]
  rw[jm c,f];exact k
theorem g6.any{aB:List (dE×V)}{G:List (dE×ab)}(s:g6 aB G)(r:dE):(aB.any λb=>decide (b.1=r))=G.any λb=>decide (b.1=r):=by
 unfold g6 at s;induction s with
 |nil=>rfl
 |cons c e d=>rw[mh,mh,d,c.1]
def g6.yG{aB:List (dE×V)}{G:List (dE×ab)}(s:g6 aB G)(r:dE)(e:RelV D C):
  g6 (aB.map λb=>if b.1=r then(b.1,D)else b) (G.map λb=>if b.1=r then(b.1,C)else b):=by
 unfold g6 at s|-;induction s with
 |nil=>exact .nil
 | @cons f l m n g o h=>rw[bz,bz];refine .cons ?_ h;obtain⟨c,i⟩:=g;by_cases d:f.1=r;rw[as d,as (c.symm.trans d)];exact⟨c,e⟩;rw[ag d,ag (λk=>d (c.trans k))];exact⟨c,i⟩
def g6.bK{aB:List (dE×V)}{G:List (dE×ab)}(s:g6 aB G)(r:dE)(c:RelV D C):g6 (ey aB r D) (stored G r C):=by unfold ey stored;rw[s.any r];by_cases b:(G.any λd=>decide (d.1=r))=H;rw[as b,as b];exact s.yG r c;rw[ag b,ag b];exact Paired.snoc s ⟨a,c⟩
theorem g6.length{aB:List (dE×V)}{G:List (dE×ab)}(s:g6 aB G):aB.length=G.length:=Paired.length s
end
variable{P:cN}
def qW{r:bY}(s:RelV (c9 r) C):(ge P w).is r C=H:=by
 cases r with
 |inl d=>obtain⟨b,c⟩:=(show∃b,C=r7 d b from s);subst c;exact Lh P w d b
 |inr e=>obtain⟨b,c⟩:=(show∃b,C=xC e b from s);subst c;exact Li P w e b
theorem E2:∀{aK:List bY} {aP:List ab},bW (aK.map c9) aP->ItemsAre (ge P w) aK aP
 |[],_,b=>by rw[xt]at b;cases b;exact .nil
 |r::aK,_,b=>by
  rw[bz]at b;cases b with
  |cons c d=>exact .cons (qW c) (E2 d)
abbrev KT(c:z):List (List bY×V)->List (List bY×t×ab)->Prop:=Paired λb d=>b.1=d.1/\bA c d.2.1 (.aF (b.1.map c9))/\RelV b.2 d.2.2
variable{aB:List (List bY×V)}{M:List (List bY×t×ab)}
def KT.val(s:KT c aB M)(r:List bY):hM (cg aB r) ((mj M r).map (·.2)):=by
 induction s with
 |nil=>exact d5
 | @cons i b o e k p l=>
  obtain⟨h,_,m⟩:=k;by_cases d:i.1=r;have f:b.1=r:=h.symm.trans d;have g:mj (b::e) r=j b.2:=by simp[mj,ez,f]
  rw[jl d,g];exact m;have f:¬b.1=r:=λn=>d (h.trans n);have g:mj (b::e) r=mj e r:=by simp[mj,ez,f]
  rw[jm d,g];exact l
def KT.yG(s:KT c aB M)(r:List bY)(g:RelV D C):
  KT c (aB.map λe=>if e.1=r then(e.1,D)else e) (M.map (putAt r C)):=by
 induction s with
 |nil=>exact .nil
 | @cons h n o p i q k=>rw[bz,bz];refine .cons ?_ k;obtain⟨b,f,l⟩:=i;unfold putAt;by_cases d:h.1=r;rw[as d,as (b.symm.trans d)];exact⟨b,f,g⟩;rw[ag d,ag (λm=>d (b.trans m))];exact⟨b,f,l⟩
def KT.bK(s:KT c aB M)(r:List bY){b:t}(f:bA c b (.aF (r.map c9)))(e:RelV D C):
  KT c (ey aB r D) (yH M r b C):=by
 have g:(aB.any λh=>decide (h.1=r))=(mj M r).isSome:=by rw[pC,(s.val r).sG,uS]
 unfold ey yH;rw[g];by_cases d:(mj M r).isSome=H;rw[as d,as d];exact s.yG r e;rw[ag d,ag d];exact Paired.snoc s ⟨a,f,e⟩
def KT.keeps{e:z}(s:KT c aB M)(f:∀b aN,bA c b (.aF aN)->bA e b (.aF aN)):KT e aB M:=
 Paired.xG s λ_ _ d=>⟨d.1,f _ _ d.2.1,d.2.2⟩
section
variable{d:bM}
def E3{C:aC}(b:dK P w c d)(h:bA c e C):ei P w c d e C:=h.ok b
def pD{aB:List (bY×V)}(b:dK P w c d)(h:bA c e (.cH aB)):aB.length<=aD/\(e==g7)=am/\∃G,g6 aB G/\d.DictOf (ge P w) e G:=
 show ei P w c d e (.cH aB)from E3 b h
def Nv{aB:List (bY×V)}(b:dK P w c d)(h:c e=j (.cH aB)):aB.length<=aD/\(e==g7)=am/\∃G,g6 aB G/\d.DictOf (ge P w) e G:=pD b (.inl h)
def pE{aK:List bY}(b:dK P w c d)(h:bA c e (.aF (aK.map c9))):(r9 (ge P w)).is d aK e:=by obtain⟨_,f,g,i,k,l,m,n⟩:=(show ei P w c d e (.aF (aK.map c9))from h.ok b);exact⟨i,f.toArray,m,k,l,n,by simpa using E2 g⟩
def nA(i:dK P w c d)(h:bA c e (.cI aB)):aB.length<=aD/\(e==g7)=am/\∃M,KT c aB M/\d.DictOfH (r9 (ge P w)) e M:=by
 obtain⟨o,p,M,k,q,r,s,u,v,x,y,z⟩:=(show ei P w c d e (.cI aB)from E3 i h);refine⟨o,p,M,k,q,r,s,u,v,x,y,λb f=>?_,z⟩;have all:∀{l:List (List bY×V)} {g:List (List bY×t×ab)},KT c l g->∀b∈g,(r9 (ge P w)).is d b.1 b.2.1:=by
  intro l g m;induction m with
  |nil=>intro b f;exact nomatch f
  | @cons B m C D n F A=>intro b f;obtain h|f:=bm.mp f;subst h;exact pE i (by rw[<-n.1];exact n.2.1);exact A b f
 exact all k b f
def Nw(b:dK P w c d)(h:c e=j (.cI aB)):aB.length<=aD/\(e==g7)=am/\∃M,KT c aB M/\d.DictOfH (r9 (ge P w)) e M:=nA b (.inl h)
end
def eo(c:z)(e:t)(D:V)(s:Option V):Prop:=
 (∃aB b,bA c e (.cH aB)/\D=c9 b/\s=cg aB b)\/∃aB b d,bA c e (.cI aB)/\D= .ref d/\bA c d (.aF (b.map c9))/\s=cg aB b
def kJ(c:z)(e:t)(D u:V)(d:z):Prop:=
 (∃aB b,c e=j (.cH aB)/\D=c9 b/\aB.length<aD/\d=U c e (.cH (ey aB b u)))\/∃aB b f,c e=j (.cI aB)/\D= .ref f/\bA c f (.aF (b.map c9))/\aB.length<aD/\d=U c e (.cI (ey aB b u))
theorem eo.r{aB:List (bY×V)}{r:bY}(h:c e=j (.cH aB)):eo c e (c9 r) (cg aB r):=.inl ⟨aB,r,.inl h,a,a⟩
def eo.p{b:t}{r:List bY}(h:c e=j (.cI aB))(d:bA c b (.aF (r.map c9))):eo c e (.ref b) (cg aB r):=.inr ⟨aB,r,b,.inl h,a,d,a⟩
theorem kJ.r{aB:List (bY×V)}{r:bY}{u:V}(h:c e=j (.cH aB))(b:aB.length<aD):kJ c e (c9 r) u (U c e (.cH (ey aB r u))):=.inl ⟨aB,r,h,a,b,a⟩
def kJ.p{b:t}{r:List bY}{u:V}(h:c e=j (.cI aB))(d:bA c b (.aF (r.map c9)))(f:aB.length<aD):
  kJ c e (.ref b) u (U c e (.cI (ey aB r u))):=.inr ⟨aB,r,b,h,a,d,f,a⟩
section
variable{u:V}{s:ab}
def Inv.o8(b:Inv X al J c l):g7<l.heap.objs.size:=by exact Nat.lt_trans nofun ((b.fm.jI.keeps b.jd).lt:oe<l.heap.objs.size)
def Nx(s:A.units+1<e0)(f:Inv X al J c l)(g:eo c e D (j u))(r:RelV D C)(d:∀b aM,Inv X al J c aM->RelV u b->bc b aM):
  a5 (a' X.prog X.w) A (sw (.ref e) C) bc B l:=by
 obtain⟨v,h,i,k,m⟩|⟨v,h,x,i,k,y,m⟩:=g;subst k;obtain⟨z,F,G,n,o⟩:=pD f.hok i;obtain⟨b,hw,p⟩:=hM.x_ (u:=u) (q:=qV G h) (by rw[m];exact n.val h);exact wpAny_getItem_of (qW r) o.mapOf hw (d b _ (f.eM _) p);subst k;cases(show C=dt x from r);obtain⟨z,F,I,n,o⟩:=nA f.hok i;obtain⟨b,hw,p⟩:=hM.x_ (u:=u) (q:=(mj I h).map (·.2)) (by rw[m];exact n.val h);obtain⟨M,K,L⟩:=E4.mp hw;refine wpAny_getItem_heap (uT s) (pE f.hok y) o K ?_;rw[L];exact d b _ (f.eM _) p
def Ny(s:A.units+1<e0)(b:Inv X al J c l)(g:eo c e D q)(p:RelV D C)(d:∀aM,Inv X al J c aM->bc (.bool q.isSome) aM):
  a5 (a' X.prog X.w) A (h' .In C (.ref e)) bc B l:=by
 obtain⟨u,f,h,i,k⟩|⟨u,f,v,h,i,x,k⟩:=g;subst i;obtain⟨y,m,z,n,o⟩:=pD b.hok h;refine wpAny_in_of (qW p) m o.mapOf ?_;rw[<-(n.val f).sG,<-k];exact d _ (b.eM _);subst i;cases(show C=dt v from p);obtain⟨y,m,F,n,o⟩:=nA b.hok h;refine wpAny_in_heap (uT s) (pE b.hok x) m o ?_;have r:=(n.val f).sG;rw[uS]at r;rw[<-r,<-k];exact d _ (b.eM _)
def Nz(s:A.units+1<e0)(b:Inv X al J c l)(g:eo c e D q)(p:RelV D C)(d:∀aM,Inv X al J c aM->bc (.bool (!q.isSome)) aM):
  a5 (a' X.prog X.w) A (h' .NotIn C (.ref e)) bc B l:=by
 obtain⟨u,f,h,i,k⟩|⟨u,f,v,h,i,x,k⟩:=g;subst i;obtain⟨y,m,z,n,o⟩:=pD b.hok h;refine wpAny_notIn_of (qW p) m o.mapOf ?_;rw[<-(n.val f).sG,<-k];exact d _ (b.eM _);subst i;cases(show C=dt v from p);obtain⟨y,m,F,n,o⟩:=nA b.hok h;refine wpAny_notIn_heap (uT s) (pE b.hok x) m o ?_;have r:=(n.val f).sG;rw[uS]at r;rw[<-r,<-k];exact d _ (b.eM _)
variable{cX:Nat}
def yI{aY:bM}{b:aC}(d:Inv X al J c l)(f:oc (c e))(g:qB e l.heap aY)(k:∃ao,aY.get? e=j ao)(m:ei X.prog X.w (U c e b) aY e b):
  Inv X al J (U c e b) {l with heap:=aY,toks:=cX}:=
 d.l8 (i:=e) (h:=e) f (.inl a) (λn ao o p=>(g.2 n o).trans p) k m
def NA{b:z}{aY:bM}{aB:List (bY×V)}{G:List (bY×ab)}(c:aB.length<=aD)(d:(e==g7)=am)(f:g6 aB G)(g:aY.DictOf (ge P w) e G):
  ei P w b aY e (.cH aB):=⟨c,d,G,f,g⟩
def NB{K:z}{L:Unit->aJ->Prop}(Q:A.units+1<e0)(k:Inv X al J c l)(g:kJ c e D u K)(M:RelV D C)(N:RelV u s)(d:∀aM,Inv X al J K aM->L () aM):
  a5 (a' X.prog X.w) A (setItem (.ref e) C s) L B l:=by
 obtain⟨m,b,f,r,R,v⟩|⟨m,b,S,f,r,O,R,v⟩:=g;subst r v;obtain⟨n,x,T,o,y⟩:=Nv k.hok f;have F:T.length<=aD:=by rw[<-o.length];exact n
 have G:(ey m b u).length<=aD:=by have:=sF m b u;omega
 refine wpAny_setItem_pairs (hsz:=F) (qW M) y λP p I=>d _ ?_;have U:∃h,P.get? e=j h:=let⟨h,_,_,q,_⟩:=p;⟨h,q⟩
 exact yI k (by rw[f];exact d5) I U (NA G x (o.bK b N) p);subst r v;cases(show C=dt S from M);obtain⟨n,x,V,o,y⟩:=Nw k.hok f;have F:V.length<=aD:=by rw[<-Paired.length o];exact n
 have G:(ey m b u).length<=aD:=by have:=sF m b u;omega
 refine NC (hsz:=F) (uT Q) (pE k.hok O) y λP p I=>d _ ?_;obtain⟨h,W,Y,q,Z,aa,ad,_,ae⟩:=p;refine yI k (by rw[f];exact d5) I ⟨h,q⟩ ⟨G,x,_,(o.bK b O N).keeps λaf ah i=>?_,h,W,Y,q,Z,aa,ad,ae⟩;exact i.other λn=>(by subst n;obtain i|⟨_,i⟩:=i<;>(rw[f]at i;cases i))
end
def E5(k:ce):Prop:=∀b c,subscripted k am b c=operate [b,c] (sw b c)
def ND{f c:ce}{T id:String}(o:typeLookup (.type T) "__getitem__"=pure (j (.builtin id)))(p:E5 c)(d:a5 (a' prog w) A (cb f env) (λq i=>a5 (a' prog w) A (cb c env) (λk e=>e.TypeIs q T/\a5 (a' prog w) A (sw q k) bc B e) B i) B l):
  a5 (a' prog w) A (cb (.Subscript f c aT) env) bc B l:=by
 refine Ew (h_ d (λq i r=>h_ r (λk e g=>?_) λ_ _ b=>b) λ_ _ b=>b);obtain⟨m,g⟩:=g;unfold Ex;refine bv ?_;rw[getitemInPython_of_ne m.not_modules];refine bv (wpAny_specialOf m o ?_);have bL:a5 (a' prog w) A (subscripted c am q k) (λh n=>a5 (a' prog w) A (letTemporaryGo f q h>>=λ_=>pure h) bc B n) B e:=by rw[p q k];exact wpAny_operating (h_ g (λh n s=>bv (wpAny_letTemporaryGo (c2 s))) λ_ _ b=>b)
 first
  |exact c2 (bv bL)
  |exact bv (c2 (bv bL))
  |exact bv bL
def NE(f:Inv X al J c l)(g:eo c e D q):l.TypeIs (.ref e) "dict":=by obtain⟨h,i,b,_,_⟩|⟨h,i,k,b,_,_,_⟩:=g;obtain⟨_,_,m,_,d⟩:=pD f.hok b;exact d.typeIs;obtain⟨_,_,n,_,d⟩:=nA f.hok b;exact d.typeIs
inductive E6(c:aW)(i D:V)(b:z):Prop|mk:∀e u,i= .ref e->eo b e D (j u)->c u b->E6 c i D b
def yJ(b d:bu):bu:=λJ c bc=>b J c λi e=>d J e λD f=>E6 bc i D f
inductive E7(c:aW)(D i:V)(b:z):Prop|mk:∀e q,i= .ref e->eo b e D q->c (.bl q.isSome) b->E7 c D i b
def yK(b d:bu):bu:=λJ c bc=>b J c λD e=>d J e λi f=>E7 bc D i f
inductive E8(c:aW)(D i:V)(b:z):Prop|mk:∀e q,i= .ref e->eo b e D q->c (.bl (!q.isSome)) b->E8 c D i b
def NF(b d:bu):bu:=λJ c bc=>b J c λD e=>d J e λi f=>E8 bc D i f
def NG(d f g:bu):dz:=λh J c=>g J c λu k=>d J k λi l=>f J l λD m=>∃e b,i= .ref e/\kJ m e D u b/\h.bb J b
section
variable{q k j7:ce}{op D9:Pos}{hU gJ me:bu}
def jP(f:X.A.units+1<e0)(g:a8 X q hU)(h:a8 X k gJ)(i:E5 k):a8 X (.Subscript q k aT) (yJ hU gJ):=by intro b l c m J n o;refine ND PySem.F.slot_dict_getitem.lookup i (bB (g b l c m _ n o) λp r ⟨K,s,u,v,w⟩=>bB (h b r c s _ u w) λL M ⟨N,x,d,y,z,B,C,e,D⟩=>?_);subst C;obtain rfl:p=dt z:=v;exact⟨NE d e,Nx f d e y λO P G I=>⟨B,x,G,I,D⟩⟩
def yL(d:X.A.units+1<e0)(e:a8 X k gJ)(f:a8 X q hU):r_ X .In k q (yK gJ hU):=by intro b g c h F i l;refine bB (e b g c h _ i l) λG m ⟨I,n,o,p,r⟩=>bB (f b m c n _ o r) λs J ⟨K,u,v,w,x,y,z,B,C⟩=>?_;subst z;obtain rfl:s=dt x:=w;exact Ny d v B p λL D=>⟨.bl y.isSome,u,D,a,C⟩
def oy(d:X.A.units+1<e0)(e:a8 X k gJ)(f:a8 X q hU):r_ X .NotIn k q (NF gJ hU):=by intro b g c h F i l;refine bB (e b g c h _ i l) λG m ⟨I,n,o,p,r⟩=>bB (f b m c n _ o r) λs J ⟨K,u,v,w,x,y,z,B,C⟩=>?_;subst z;obtain rfl:s=dt x:=w;exact Nz d v B p λL D=>⟨.bl (!y.isSome),u,D,a,C⟩
def ml(d:X.A.units+1<e0)(e:a8 X q hU)(f:a8 X k gJ)(g:a8 X j7 me)(h:pe j7 (j (.Subscript q k op)) aT.line X.env=pure am):
  fY X (.Assign [.Subscript q k op] j7 aT) (NG hU gJ me):=by
 intro c i b l M m n;refine NH (bB (g c i b l _ m n) λN o ⟨O,p,r,s,u⟩=>bB (e c o b p _ r u) λv w ⟨P,x,y,z,B⟩=>bB (f c w b x _ y B) λQ R ⟨S,T,C,D,F,G,I,J,K⟩=>?_) h;subst I;obtain rfl:v=dt F:=z;exact NB d C J D s λU L=>⟨b,G,L,K⟩
end
def NI(d:bM)(b:g7<d.objs.size):ei P w c (d.push {cls:=.type "dict",data:=.dict #[]}) d.objs.size (.cH []):=
 ⟨dC _,fl.mpr (cU (gL b)),[],.nil,Heap.DictOf.new d⟩
def NJ(d:bM)(b:g7<d.objs.size):ei P w c (d.push {cls:=.type "dict",data:=.dict #[]}) d.objs.size (.cI []):=
 ⟨dC _,fl.mpr (cU (gL b)),[],.nil,_,#[],0,hv _ a,⟨a,a,a⟩,a,a,rV⟩
def NK:bu:=λ_ c bc=>∀b,c b=E->bc (.ref b) (U c b (.cH []))
def NL:bu:=λ_ c bc=>∀b,c b=E->bc (.ref b) (U c b (.cI []))
def sH:a8 X (.Dict [] [] aT) NK:=λg b h i k c d=>E9 ⟨.ref b.heap.objs.size,_,c.hr (e:=b.heap.objs.size) (q:=.cH []) (cX:=b.toks) (λ_ _ f=>gs _ f) (bC _) (NI b.heap c.o8),a,d _ (c.hok.fresh (bC _))⟩
def uU:a8 X (.Dict [] [] aT) NL:=λg b h i k c d=>E9 ⟨.ref b.heap.objs.size,_,c.hr (e:=b.heap.objs.size) (q:=.cI []) (cX:=b.toks) (λ_ _ f=>gs _ f) (bC _) (NJ b.heap c.o8),a,d _ (c.hok.fresh (bC _))⟩
structure ii (X:bJ) (q:ce) (v:Str) (gg:Pos) (h f:ce) (ih:Pos):Prop where
 base:oo q v X.env (cb q X.env)=cb q X.env
 mm:((gq ih (da [h,f] X.env)).all (λi=> !i.1)&&(pl ih (pm [] X.env)).all (λi=>i.1.isSome)&&decide (([h,f]:List ce).length+([]:List ys).length+(if([]:List ys).isEmpty then 0 else 1)<30))=H
 line:(gg.endLine==ih.line)=H
 NM:gq ih (da [h,f] X.env)=[(am,cb h X.env),(am,cb f X.env)]
def E_(c:z)(e:t):Prop:=(∃aB,bA c e (.cH aB))\/∃aB,bA c e (.cI aB)
def NN(n:Inv X al J c l)(aa:E_ c e):
  l.TypeIs (.ref e) "dict"/\(∀b,dt e= .ref b->∃d,l.heap.get? b=j d/\d.dict=E)/\(e==g7)=am:=by
 obtain⟨o,g⟩|⟨o,g⟩:=aa;obtain⟨_,h,p,_,f⟩:=pD n.hok g;refine⟨f.typeIs,λb i=>?_,h⟩;cases i;obtain⟨d,_,_,k,m,_⟩:=f;exact⟨d,k,m.2.1⟩;obtain⟨_,h,q,_,f⟩:=nA n.hok g;refine⟨f.typeIs,λb i=>?_,h⟩;cases i;obtain⟨d,_,_,k,m,_⟩:=f;exact⟨d,k,m.2.1⟩
section
variable{aa:V}{s:ab}
def NO(x:A.units+1<e0)(b:Inv X al J c l)(g:eo c e D q)(p:RelV D C)(r:RelV aa s)(d:∀u aM,Inv X al J c aM->RelV (q.getD aa) u->bc u aM):
  a5 (a' X.prog X.w) A (call (.builtin "dict.get") [.ref e,C,s]) bc B l:=by
 obtain⟨y,h,i,k,m⟩|⟨y,h,v,i,k,z,m⟩:=g;subst k;obtain⟨F,n,I,o,f⟩:=pD b.hok i;refine E' Fa f.typeIs NP (NQ _ _ _) (meets_dict_get_default (ge X.prog X.w) e (qW p) n s) ⟨_,f.mapOf,d _ _ (b.eM _) ?_⟩;rw[m];exact(o.val h).getD r;subst k;cases(show C=dt v from p);obtain⟨F,n,G,o,f⟩:=nA b.hok i;refine E' Fa f.typeIs NP (NQ _ _ _) (meetsH_dict_get_default (r9 (ge X.prog X.w)) e v n s) ⟨uT x,h,G,pE b.hok z,f,d _ _ (b.eM _) ?_⟩;rw[m];exact(o.val h).getD r
end
inductive Fb(d f:bu)(b:bT.St)(g:aW)(i:V)(c:z):Prop|mk:∀e,i= .ref e->E_ c e->(d b c λD k=>f b k λl h=>∃q,eo h e D q/\g (q.getD l) h)->Fb d f b g i c
def NR(b d e:bu):bu:=λJ c bc=>b J c λi f=>Fb d e J bc i f
section
variable{q f:ce}{gg ih:Pos}{hU gJ Fc:bu}
def NS(e:X.A.units+1<e0)(g:a8 X q hU)(i:a8 X h gJ)(cA:a8 X f Fc)(v:ii X q "get" gg h f ih):a8 X (.Call (.Attribute q "get" gg) [h,f] [] ih) (NR hU gJ Fc):=by intro b k c l R m n;refine wpAny_Call_method v.base v.mm v.line PySem.F.plainAttrs_dict Fa PySem.F.type_dict_get (bB (g b k c l _ m n) λo p ⟨S,r,d,s,u,w,x,y⟩=>?_);subst w;obtain rfl:o=dt u:=s;obtain⟨z,B,_⟩:=NN d x;refine⟨z,B,?_⟩;rw[v.NM];refine uJ a (EL (yd (bB (i b p c r _ d y) λT C ⟨U,D,G,I,J⟩=>yd (bB (cA b C c D _ G J) λV W ⟨Y,K,L,M,Z,N,O⟩=>Ee ?_))));exact NO e L N I M λaa ad P Q=>⟨_,K,P,Q,O⟩
end
theorem Fd:∀{aZ:List t} {aP:List ab},bW (aZ.map V.ref) aP->aP=aZ.map dt
 |[],aP,b=>by rw[xt]at b;cases b;rfl
 |e::aZ,aP,b=>by
  rw[bz]at b;cases b with
  |cons c d=>cases c;rw[bz,<-Fd d]
variable{cX:Nat}{aa:t}
section
variable{aY:bM}
def Inv.NT{eZ:List t}{T:t}{o:aC}(m:Inv X al J c l)(r:∀b q,b∉eZ->l.heap.get? b=j q->aY.get? b=j q)(cA:∀b∈eZ,kA X al c b)(p:l.heap.objs.size<=T)(u:ei X.prog X.w (U c T o) aY T o):Inv X al J (U c T o) {l with heap:=aY,toks:=cX}:=by
 have k:c T=E:=m.hok.fresh p;have s:∀b i,c b=j i->b∉eZ:=λb i d f=>by have e:=(cA b f).1;rw[e]at d;cases d
 refine m.step (kv:=l.gens) (j5:=l.drawn) (eZ:=eZ) (λb g=>⟨(cA b g).2.2.2.1,(cA b g).2.1,(cA b g).2.2.2.2.1,(cA b g).2.2.2.2.2⟩) (λb q _ _ h d _=>r b q h d) (λb q _ _ h d _=>⟨q.slots,r b q h d⟩)
  (λb q _ d v=>?_) (λb q h d=>⟨q,r b q h d⟩) (λb x d=>?_) (λb q i d=>?_) (λb F d=>⟨#[],?_⟩) (λG y=>?_) (λb i d=>?_) m.fB
 rw[aH (gL (gK (d_ d) p))];exact v;rw[aH (ew d k)];exact d;rw[aH (ew d k)];exact d;rw[aH (ew d k),d];simp;obtain⟨q,z,A,B,C⟩:=y;exact⟨q,z,A,r _ q (λf=>(cA _ f).2.1 a) B,C⟩;by_cases g:b=T;subst g;rw[aw]at d;cases d;exact u;rw[aH g]at d;refine(m.hok b i d).ku (λn D h e=>r n D ?_ e) (λn e=>by rw[aH (ew e k)];exact e) λn x e=>e.fresh k;obtain f|f:=h;rw[f];exact s b i d;exact s n _ f
def Inv.NU{C:aC}(n:Inv X al J c l)(d:c aa=j C)(g:oc (j C)):∃e,Inv X al J (U c aa (.ci e C)) l:=by
 have i:=n.hok aa C d;have o:∃e,l.heap.get? aa=j e:=by
  cases C with
  |L p=>obtain⟨_,_,_,_,h⟩:=i;exact⟨_,h⟩
  |cH q=>obtain⟨_,_,_,_,f,_,_,h,_⟩:=i;exact⟨f,h⟩
  |cI q=>obtain⟨_,_,_,_,f,_,_,h,_⟩:=i;exact⟨f,h⟩
  |set S u=>obtain⟨f,_,_,_,h,_⟩:=i;exact⟨f,h⟩
  |az v x y=>obtain⟨_,_,_,h,_⟩:=i;exact⟨_,h⟩
  |ext z=>obtain⟨_,⟨_,h⟩,_⟩:=i;exact⟨_,h⟩
  |_=>exact hu g
 obtain⟨e,h⟩:=o;have r:ei X.prog X.w (U c aa (.ci e C)) l.heap aa (.ci e C):=by refine⟨h,i.ku (λk s _ b=>b) (λk b=>?_) λk p b=>?_⟩;rw[aH (λm=>by rw[m,d]at b;cases b;exact g)];exact b;exact b.other λm=>(by subst m;obtain b|⟨_,b⟩:=b<;>(rw[d]at b;cases b;exact g))
 exact⟨e,n.l8 (i:=aa) (h:=aa) (cX:=l.toks) (aY:=l.heap) (by rw[d];exact g) (.inl a) (λk s _ b=>b) ⟨e,h⟩ r⟩
def Inv.uV{C:aC}(g:Inv X al J c l)(d:c aa=j C)(h:oc (j C)):∀b e,X.H_0 aa≠j (.ci b e):=λb e i=>by have f:=g.base.frzs aa b e i;rw[d]at f;cases f;exact h
def Inv.uW{v:Obj}{C:aC}(f:Inv X al J c l)(d:c aa=j (.ci v C))(w:∀p q,X.H_0 aa≠j (.ci p q)):Inv X al J (U c aa C) l:=by
 have o:∀e k,c e=j k->(∀p q,k≠.ci p q)->e≠aa:=λe k b x h=>by rw[h,d]at b;cases b;exact x _ _ a
 have neN:∀e,c e=E->e≠aa:=λe b h=>by rw[h,d]at b;cases b
 refine⟨f.ok,f.os,f.fB,⟨f.base.keep,f.base.slot,λe k b n u=>?_,f.base.there,λe r b=>?_,λe k m b=>?_,λe y b=>?_⟩,f.a6,f.cell,?_,λm i b=>?_,λz A=>?_,λe k b=>?_,f.len⟩;rw[aH (neN e (f.base.free e k b n u))];exact f.base.free e k b n u;have g:=f.base.tups e r b;rw[aH (o e _ g (λ_ _=>⋯))];exact g;have g:=f.base.frzs e k m b;rw[aH (λh=>by rw[h]at b;exact w _ _ b)];exact g;obtain⟨B,g⟩:=f.base.tbls e y b;exact⟨B,by rw[aH (o e _ g (λ_ _=>⋯))];exact g⟩;rw[aH (neN _ f.free)];exact f.free;rw[aH (neN i (f.hs m i b))];exact f.hs m i b;obtain⟨b,n,D⟩:=f.g_ z A;exact⟨b,by rw[aH (neN _ n)];exact n,D⟩;by_cases s:e=aa;rw[s,aw]at b;cases b;rw[s];obtain⟨_,m⟩:=f.hok aa _ d;exact m.ku (λi F _ g=>g) (λi g=>by rw[aH (o i _ g (λ_ _=>⋯))];exact g) λi r g=>g.Di d (λ_ _=>⋯);rw[aH s]at b;exact(f.hok e k b).ku (λi F _ g=>g) (λi g=>by rw[aH (o i _ g (λ_ _=>⋯))];exact g) λi r g=>g.Di d (λ_ _=>⋯)
end
inductive Fe(p:dz)(d:Ends)(g:bT.St)(c:z):Prop|mk:∀aa C,c aa=j C->oc (j C)->(∀e,p ⟨λf b=>b aa=j (.ci e C)/\d.bb f (U b aa C),λu b=>b aa=j (.ci e C)/\d.lp u (U b aa C),λf b=>b aa=j (.ci e C)/\d.jd f (U b aa C),λf b=>b aa=j (.ci e C)/\d.ma f (U b aa C)⟩ g (U c aa (.ci e C)))->Fe p d g c
variable{cE:ce}
def Ff{st:be}{p:dz}(d:fY X st p):fY X st (Fe p):=by
 intro l m n v w g hw;obtain⟨x,y,h,i,hw⟩:=hw;obtain⟨o,q⟩:=g.NU h i;refine bB (d l m n _ _ q (hw o)) λr z b=>?_;cases r with
 |next=>obtain⟨c,k,e,f,b⟩:=b;exact⟨c,_,e.uW f (g.uV h i),b⟩
 |brk=>obtain⟨c,k,e,f,b⟩:=b;exact⟨c,_,e.uW f (g.uV h i),b⟩
 |cont=>obtain⟨c,k,e,f,b⟩:=b;exact⟨c,_,e.uW f (g.uV h i),b⟩
 |ret A=>obtain⟨s,c,k,e,u,f,b⟩:=b;exact⟨s,c,_,e.uW f (g.uV h i),u,b⟩
def yM{R:jg->z->Prop}{b:jg}{d:Nat->bM->Prop}{bR:Nat}(e:Inv X al J c l)(q:Obj)(T:oj X.prog X.w X.K cE b [l.heap.objs.size] l.heap.objs.size d)(st:d 0 (l.heap.push q))(ao:R b c):x0 X al J cE R (.ref l.heap.objs.size) {l with heap:=l.heap.push q,toks:=bR}:=by
 refine⟨l.heap.objs.size,[l.heap.objs.size],d,b,c,a,e.kept λg i f=>gs _ f,T,st,λg h=>?_,ao⟩;have f:g=l.heap.objs.size:=by simpa using h
 subst f;exact e.sg (bC _) (e.hok.fresh (bC _))
def oz(i:Str):jg:=⟨λb _=>b<i.cps.size,λb c u e=>e=c/\∃d,i.cps[b]?=j d/\u= .str ⟨#[d]⟩,λb _=>i.cps.size<=b⟩
def Fg(aQ:t)(i:Str)(p:Tok)(h:String)(o:h="str_ascii_iterator"\/h="str_iterator"):
  oj P w K cE (oz i) [aQ] aQ (λk d=>d.IsStrIter aQ h i p k)where
 mem:=by simp
 obj:=λk d st e f=>by
  have b:e=aQ:=by simpa using f
  subst b;obtain⟨c,b,y,O⟩:=st;exact⟨c,b,λQ G=>by rw[O]at G;cases G⟩
 keep:=λk d m st R=>let⟨c,S,T⟩:=st;⟨c,R aQ (by simp) c S,T⟩
 item:=by
  intro X z hw B n k I l J C L g q st D;subst z hw B;obtain⟨r,s,U,u,v,x⟩:=q aQ (by simp);have W:Walks X.prog X.w X.A aQ [aQ] [aQ] i.cps.size (SignAt i) (λk d=>d.IsStrIter aQ h i p k):=by obtain b|b:=o;rw[b];exact Walks.strAscii (g.ok.du n) aQ i p;rw[b];exact Walks.strWide (g.ok.du n) aQ i p
  have V:YV.contains h=am:=by obtain b|b:=o;rw[b];decide;rw[b];decide
  refine W.item k l _ _ D st λQ m bR Y M Z=>?_;obtain⟨y,aa,ad,rfl⟩:=Y;have ae:Inv X I J C {l with heap:=m,toks:=bR}:=g.je (λe c f b=>Z e c (by simpa using f) b) r s u v x;obtain⟨ai,b,af,ah⟩:=id M;exact⟨_,a,sh (l:={l with heap:=m,toks:=bR}) b af ah V ⟨.str ⟨#[y]⟩,C,ae,⟨aa,a⟩,⟨a,y,ad,a⟩,M,λe f=>(q e f).1⟩⟩
 done:=by intro X z hw B n k I l J C L g q st D;subst z hw B;obtain⟨r,s,U,u,v,x⟩:=q aQ (by simp);have N:i.cps[k]?=E:=yN D;obtain b|b:=o;rw[b]at st;exact wpAny_pyNext_ascii_end (g.ok.du n) st N λm F=>⟨a,g.je (cX:=l.toks) (λe c f b=>F e c f b) r s u v x⟩;rw[b]at st;exact wpAny_pyNext_wide_end (g.ok.du n) st N λm F=>⟨a,g.je (cX:=l.toks) (λe c f b=>F e c f b) r s u v x⟩
 self:=λaj k l ak L st d=>by obtain b|b:=o;rw[b]at st;exact wpAny_pyIter_striter_ascii st d;rw[b]at st;exact wpAny_pyIter_striter_wide st d
def NV(bj:bu):TI:=λJ c R=>bj J c λu b=>∃i,u= .str i/\R (oz i) b
def yO{bj:bu}(i:a8 X h bj):lv X cE h (NV bj):=by intro k l m n R o p;refine bB (i k l m n _ o p) λs c ⟨u,v,d,q,b,r,e⟩=>?_;subst r;obtain⟨f,rfl⟩:=q;cases g:b.cps.all (·<128);exact wpAny_pyIter_wide g (yM (bR:=c.toks) d _ (Fg _ b f "str_iterator" (.inr a)) ⟨_,hv _ a,a,a⟩ e);exact wpAny_pyIter_ascii g (yM (bR:=c.toks) d _ (Fg _ b f "str_ascii_iterator" (.inl a)) ⟨_,hv _ a,a,a⟩ e)
variable{ap:Array iL}{f7:Nat}
def Fh{q:Obj}(e:(aa==g7)=am)(b:l.heap.get? aa=j q)(f:q.ExactDict)(d:q.data= .dict ap f7)(g:bc (.ref l.heap.objs.size) {l with heap:=l.heap.push {cls:=.type "dict_keyiterator",data:=.fields #[.ref aa,.int 0 0,.int ap.size 0,.int f7 0]}}):
  a5 (a' prog w) A (pyIter (.ref aa)) bc B l:=by
 have c:l.TypeIs (.ref aa) "dict":=⟨q,b,f.1⟩;refine Fi c NW (sI NW c F.entry_dict_iter ?_ (F.args_dict_iter_1 _));unfold Builtin.«dict.__iter__»;refine bv ?_;unfold Builtin.Dict.dictSlotNone;refine bv (wpAny_notOrdered_dict c ?_);show a5 _ _ (pure (dt aa)) _ _ l;refine c2 ?_;show a5 _ _ (NX aa>>=_) _ _ l;unfold NX;rw[ag (by rw[e];exact dA)];refine bv (c2 ?_);refine bv (yP b d ?_);refine bv (Fj b d ?_);refine bv (yQ (c2 ⟨_,a,"dict_keyiterator",_,⟨_,hv _ a,a⟩,qX.lookup,?_⟩));simpa[nl]using g
def yR{aQ:t}{k:Nat}{e:Obj}{f:iL}{g:Option ab->aJ->Prop}(b:l.heap.IsKeyIter aQ aa k o f7)(h:l.heap.get? aa=j e)(i:e.data= .dict ap f7)(n:ap.size=o)(p:ap[k]?=j f)(q:∀aY,aY.IsKeyIter aQ aa (k+1) o f7->qB aQ l.heap aY->g (j f.key) {l with heap:=aY}):a5 (a' prog w) A (qG (.ref aQ)) g B l:=by
 obtain⟨x,d,r,c⟩:=id b;unfold qG;refine bv (wpAny_attempt (Fk (name:=eD "__next__") b.typeIs qX (sI qX b.typeIs NY ?_ (NZ _))));refine bv (c2 ?_);refine bv ?_;refine bv ?_
 first|refine bv (yS b.typeIs (c2 ?_))|refine bv (yT b.typeIs (c2 ?_))
 refine bv (wpAny_fieldsOf d c ?_);simp only[(by decide:N0 "dict_keyiterator"=am),kK,ig];show a5 _ _ (if(dt aa==ng)=H then _ else _) _ _ l;rw[ag (show¬((dt aa==ng)=H)from dA)];refine bv (c2 ?_);refine bv (yP h i ?_);rw[ag (by rw[n];simp)];refine bv (c2 ?_);refine bv (Fj h i ?_);rw[ag (by simp)];refine c2 ?_;obtain⟨u,v⟩:=yU.mp p;simp only[show¬((k:Int)<0)from by omega,ig,Er,yV u];refine bv ?_
 first|refine bv (yS b.typeIs (c2 ?_))|refine bv (yT b.typeIs (c2 ?_))
 refine bv (N1 b.typeIs ?_);show a5 _ _ (setField (.ref aQ) 1 (nl ((k:Int)+1))>>=_) _ _ l;refine bv (yW d c (by simp) ?_);have m:(l.heap.update aQ (yX (·.setIfInBounds 1 (nl ((k:Int)+1))))).IsKeyIter aQ aa (k+1) o f7:=
  ⟨_,ED _ d (N2 (yY c _)),(Obj.cls_mapFields ..).trans r,by rw[yY c];simp[nl]⟩
 refine bv (um ?_);refine bv (N1 (s:={l with heap:=l.heap.update aQ (yX (·.setIfInBounds 1 (nl ((k:Int)+1))))}) m.typeIs ?_);show a5 _ _ (pure ap[k].key) _ _ _;rw[v];exact c2 (c2 ⟨_,rfl,c2 (q _ m (N3 ..))⟩)
def yZ{aQ:t}{k:Nat}{d:Obj}{e:Option ab->aJ->Prop}(p:A.handled=E)(c:l.heap.IsKeyIter aQ aa k o f7)(f:l.heap.get? aa=j d)(g:d.data= .dict ap f7)(h:ap.size=o)(q:o<=k)(r:∀aY,Heap.ExtBut aQ l.heap aY->e E {l with heap:=aY}):a5 (a' prog w) A (qG (.ref aQ)) e B l:=by
 obtain⟨u,i,v,n⟩:=id c;unfold qG;refine bv (wpAny_attempt (Fk (name:=eD "__next__") c.typeIs qX (sI qX c.typeIs NY ?_ (NZ _))));refine bv (c2 ?_);refine bv ?_;refine bv ?_
 first|refine bv (yS c.typeIs (c2 ?_))|refine bv (yT c.typeIs (c2 ?_))
 refine bv (wpAny_fieldsOf i n ?_);simp only[(by decide:N0 "dict_keyiterator"=am),kK,ig];show a5 _ _ (if(dt aa==ng)=H then _ else _) _ _ l;rw[ag (show¬((dt aa==ng)=H)from dA)];refine bv (c2 ?_);refine bv (yP f g ?_);rw[ag (by rw[h];simp)];refine bv (c2 ?_);refine bv (Fj f g ?_);rw[ag (by simp)];refine c2 ?_;have s:ap.size<=k:=by rw[h];exact q
 simp only[show¬((k:Int)<0)from by omega,ig,Er,yN s];refine bv ?_
 first|refine bv (yS c.typeIs (c2 ?_))|refine bv (yT c.typeIs (c2 ?_))
 show a5 _ _ (setField (.ref aQ) 0 .none>>=_) _ _ l;refine bv (yW i n (by simp) ?_);show a5 _ _ (newExc (.type "StopIteration") []>>=_) _ _ _;refine bv ?_;simp only[newExc,newTuple];refine bv (yQ ?_ (by size_fits));refine bv (m:=firstArgMember _ _) (wpAny_of_eq (a:=ng) (by first|rfl|(simp only[firstArgMember];rfl)) ?_);refine yQ ?_ (by size_fits);simp only[raiseNew];refine bv (wpAny_handled ?_);rw[show A.in1.handled=E from p];refine bv (c2 (wpAny_throw ?_));refine bv (wpAny_isInstance (T:="StopIteration") (b:=H) ⟨_,hv _ rfl,rfl⟩ isSubtype_stop ?_);exact c2 (r _ (((N3 ..).extBut.push _).push _))
def N4{h:Type}{e_:a3->h->Prop}{f:List a3}{g:List h}(d:Paired e_ f g):∀{k:Nat} {e:a3},f[k]?=j e->∃b,g[k]?=j b/\e_ e b:=by
 induction d with
 |nil=>intro k e c;simp at c
 | @cons e b f g i m l=>
  intro k n c;cases k with
  |zero=>simp only[Fl,Kx]at c;subst c;exact⟨b,a,i⟩
  |succ o=>simp only[N5]at c|-;exact l c
section
variable{q:Obj}
def Inv.Fm(m:Inv X al J c l)(d:c aa=j (.ci q (.cI aB))):
  (aa==g7)=am/\l.heap.get? aa=j q/\q.ExactDict/\∃(ap:Array iL) (f7:Nat),q.data= .dict ap f7/\ap.size=aB.length/\∀(k:Nat) (r:List bY) (u:V),aB[k]?=j (r,u)->∃(b:iL) (ao:t),ap[k]?=j b/\b.key= .ref ao/\bA c ao (.aF (r.map c9)):=by
 obtain⟨e,y,n,f,g,z,ap,f7,h,o,p,i,_⟩:=m.hok aa _ d;rw[e]at h;cases h;refine⟨n,e,o,ap,f7,p,?_,λk r u s=>?_⟩;have A:ap.size=f.length:=uX i;have B:aB.length=f.length:=Paired.length g;omega;obtain⟨v,w,C,x,_⟩:=N4 g s;have ao:=entry_at i k;rw[w]at ao;exact⟨_,v.2.1,ao,a,x⟩
end
def N6(aa:t)(q:Obj)(aB:List (List bY×V)):jg:=
 ⟨λb c=>c aa=j (.ci q (.cI aB))/\b<aB.length,λb c i f=>f=c/\∃(d:List bY) (u:V) (e:t),aB[b]?=j (d,u)/\i= .ref e/\bA c e (.aF (d.map c9)),λb c=>c aa=j (.ci q (.cI aB))/\aB.length<=b⟩
def uY{q:Obj}{b:Array iL}{c:Nat}(d:q.data= .dict ap f7)(aY:q.data= .dict b c):b=ap/\c=f7:=by rw[d]at aY;cases aY;exact⟨a,a⟩
section
variable{q:Obj}
def N7(aQ:t)(I:q.data= .dict ap f7):oj P w K cE (N6 aa q aB) [aQ] aQ (λk d=>d.IsKeyIter aQ aa k aB.length f7)where
 mem:=by simp
 obj:=λk d st c e=>by
  have b:c=aQ:=by simpa using e
  subst b;obtain⟨h,b,J,o⟩:=st;exact⟨h,b,λp L=>by rw[o]at L;cases L⟩
 keep:=λk d i st m=>st.at λh b=>m aQ (by simp) h b
 item:=by intro X r hw s M k N l O u Q f n st v;subst r hw s;obtain⟨x,y⟩:=v;obtain⟨z,A,W,B,C,D⟩:=n aQ (by simp);obtain⟨Y,F,Z,ad,ae,g,G,R⟩:=f.Fm x;obtain⟨rfl,rfl⟩:=uY I g;obtain⟨⟨m,p⟩,S⟩:∃af,aB[k]?=j af:=⟨aB[k],gE y⟩;obtain⟨ah,T,ai,aj,ak⟩:=R k m p S;refine yR st F g G ai λi U al=>?_;have an:Inv X N O u {l with heap:=i}:=f.je (cX:=l.toks) (λc V e b=>(al.2 c e).trans b) z A B C D;obtain⟨h,b,J,o⟩:=id U;exact⟨ah.key,a,sh (l:={l with heap:=i}) b J o nofun ⟨.ref T,u,an,aj,⟨a,m,p,T,S,a,ak⟩,U,λc e=>(n c e).1⟩⟩
 done:=by intro X r hw s M k N l O u Q f n st v;subst r hw s;obtain⟨x,y⟩:=v;obtain⟨z,A,W,B,C,D⟩:=n aQ (by simp);obtain⟨Y,F,Z,ad,ae,g,G,R⟩:=f.Fm x;obtain⟨rfl,rfl⟩:=uY I g;exact yZ (f.ok.du M) st F g G y λi ao=>⟨a,f.je (cX:=l.toks) (λc V e b=>ao c V e b) z A B C D⟩
 self:=λar k l au Q st d=>by refine Fi st.typeIs y0 (sI y0 st.typeIs N8 ?_ (N9 _));show a5 _ _ (ret (.ref aQ)) _ _ l;exact c2 ⟨_,a,"dict_keyiterator",_,st.typeIs,qX.lookup,d⟩
end
def oA(K:bG)(e:t):jg:=
 ⟨λb c=>∃(M:List V) (i:V),an K c e M/\M[b]?=j i,λb c u f=>∃d i,u= .ref d/\c d=E/\f=U c d (.aF [.int (b:Nat),i])/\∀M,an K c e M->M[b]?=j i,λb c=>∃M:List V,an K c e M/\M.length<=b⟩
def N_{W:List ce}{Y:Nat}{Z:Pos}(e h aQ:t):
  oj P w K (.Tuple W Y Z) (oA K e) [h,aQ] h (λk d=>(∃o,IsEnum d h aQ ((k:Nat):Int) o)/\d.IsListIter aQ e k/\h≠aQ)where
 mem:=by simp
 obj:=λk d st f g=>by
  obtain⟨⟨o,m⟩,⟨p,z,A,aa⟩,_⟩:=st;have B:f=h\/f=aQ:=by simpa using g
  obtain c|c:=B;rw[c];exact⟨_,m,λad=>⋯⟩;rw[c];exact⟨p,z,λad b=>by rw[aa]at b;cases b⟩
 keep:=λk d C st Q=>let⟨⟨o,m⟩,ae,q⟩:=st;⟨⟨o,Q h (by simp) _ m⟩,ae.at λp b=>Q aQ (by simp) p b,q⟩
 item:=by
  intro X D hw F A k R l S G T n r st I;subst D hw F;obtain⟨⟨o,m⟩,u,q⟩:=st;obtain⟨af,i,v,J⟩:=I;obtain⟨ah,L,M,ai⟩:=n.list v;obtain⟨y,aj,ak⟩:=L.get J;have V:h<l.heap.objs.size:=d_ m;have al:aQ<l.heap.objs.size:=by obtain⟨_,b,_⟩:=u;exact d_ b
  refine wpAny_pyNext_enum_item m u M.isList (x:=y) (by simpa using aj) q λC z an ao aL ap=>?_;refine⟨_,a,wpAny_letOwnedTupleGo_enum (s:={l with heap:=C,toks:=l.toks+1}) z λN ar O=>?_⟩;have au:N.get? l.heap.objs.size=j {cls:=.type "tuple",data:=.seq #[.int k l.toks,y]}:=(O.2 _ (DK V)).trans ao;have av:ei X.prog X.w (U G l.heap.objs.size (.aF [.int (k:Nat),i])) N l.heap.objs.size (.aF [.int (k:Nat),i]):=
   ⟨by show 2<=aD;decide,[.int k l.toks,y],.cons ⟨_,a⟩ (.cons ak .nil),⟨_,au,a,_,a⟩⟩
  have aw:Inv X R S (U G l.heap.objs.size (.aF [.int (k:Nat),i])) {l with heap:=N,toks:=l.toks+1}:=
   n.NT (eZ:=[h,aQ]) (λf ax g b=>(O.2 f (λc=>g (by simp[c]))).trans (ap f ax (λc=>g (by simp[c])) (λc=>g (by simp[c])) b)) r (bC _) av
  refine⟨.ref l.heap.objs.size,_,aw,a,⟨_,i,a,n.hok.fresh (bC _),a,λaM ay=>by rw[n.DB ay v];exact J⟩,⟨⟨y,?_⟩,an.at λp b=>(O.2 aQ (cU q)).trans b,q⟩,λf g=>?_⟩;have az:((k+1:Nat):Int)=(k:Int)+1:=by omega
  rw[az];exact ar;have aA:f<l.heap.objs.size:=by
   have B:f=h\/f=aQ:=by simpa using g
   obtain c|c:=B;rw[c];exact V;rw[c];exact al
  rw[aH (gL aA)];exact(r f g).1
 done:=by intro X D hw F A k R l S G T n r st I;subst D hw F;obtain⟨⟨o,m⟩,u,q⟩:=st;obtain⟨af,v,J⟩:=I;obtain⟨ah,L,M,ai⟩:=n.list v;obtain⟨aB,aC,aN,aE,aG,aI⟩:=r aQ (by simp);have aP:=L.length;exact wpAny_pyNext_enum_end (n.ok.du A) m u M.isList (by simp;omega) λC aK=>⟨a,n.je (cX:=l.toks) (λf p g b=>aK f p g b) aB aC aE aG aI⟩
 self:=λaR k l aT T st d=>let⟨⟨_,m⟩,_⟩:=st;N' m d
def Oa(K:bG)(d:ba):TI:=λJ c R=>d J c λf b=>∃e M,f=[.ref e]/\an K b e M/\R (oA K e) b
def Fn{f:ba}{m p:Pos}{q:List ce}{r:Nat}(s:gN X "enumerate")(u:X.mg "enumerate"=E)(v:hO X [h] f)(w:da [h] X.env=[(am,cb h X.env)]:=by rfl):
  lv X (.Tuple q r p) (.Call (.Name "enumerate" m) [h] [] aT) (Oa X.K f):=by
 intro g x i y R k z;refine Call_ (ug k s u boot_enumerate (DN (bB (v aT g x i y _ k z) λT b ⟨U,l,c,A,B⟩=>?_) w a));obtain⟨C,V,D,F,G⟩:=B;subst D;cases A with
 |cons I J=>
  cases J;cases I;obtain⟨W,Y,L,Z⟩:=c.list F;refine call_enumerate_list L.isList λM n N aa O=>N' n ?_;have P:Inv X g i l {b with heap:=M}:=c.kept (cX:=b.toks) O;refine⟨b.heap.objs.size+1,[b.heap.objs.size+1,b.heap.objs.size],_,_,l,a,P,N_ C (b.heap.objs.size+1) b.heap.objs.size,⟨⟨.none,n⟩,N,Nat.succ_ne_self _⟩,λd Q=>?_,G⟩;have S:d=b.heap.objs.size+1\/d=b.heap.objs.size:=by simpa using Q
  have o:b.heap.objs.size<=d:=by obtain e|e:=S;rw[e];exact Kl _ _;rw[e];exact bC _
  exact c.sg o (c.hok.fresh o)
end bT
namespace iM
open PySem PySem.Builtin PySem.Builtin.Str PySem.StrLaws
abbrev ax(i:Str):List Nat:=i.cps.toList
def qY(i:Str):i.length=(ax i).length:=by simp[ax,Str.length]
variable{D:Str}
def uZ{i:Str}(d:ax i=ax D):i=D:=Str.ext' (Array.toList_inj.mp d)
def Fo(i D:Str):ax (i++D)=ax i++ax D:=by show(i++D).cps.toList=_;rw[Str.cps_append,Array.toList_append]
theorem Fp:∀{n v:List Str},n.map ax=v.map ax->n=v
 |[],[],_=>rfl
 |[],_::_,b=>by simp at b
 |_::_,[],b=>by simp at b
 |i::n,e::v,b=>by rw[bz,bz]at b;injection b with c d;rw[uZ c,Fp d]
def pre(S n:List Nat):Bool:=n.take S.length==S
noncomputable def eA(S:List Nat):Nat->List Nat->List Nat->List (List Nat)
 |_,b,[]=>[b]
 |0,b,d::c=>if pre S (d::c)=H then b::eA S (S.length-1) [] c else eA S 0 (b++[d]) c
 |r+1,b,_::c=>eA S r b c
def u0(S:List Nat)(r:Nat)(a9:List Nat):eA S r a9 []=[a9]:=by cases r<;>rfl
variable{S a9:List Nat}
def Ob{s:List Nat}{y:Nat}(d:pre S (y::s)=H):eA S 0 a9 (y::s)=a9::eA S (S.length-1) [] s:=by show(if pre S (y::s)=H then a9::eA S (S.length-1) [] s else eA S 0 (a9++[y]) s)=_;rw[as d]
def Oc{s:List Nat}{y:Nat}(d:pre S (y::s)=am):eA S 0 a9 (y::s)=eA S 0 (a9++[y]) s:=by show(if pre S (y::s)=H then a9::eA S (S.length-1) [] s else eA S 0 (a9++[y]) s)=_;rw[ag (by rw[d];exact dA)]
theorem Fq(S:List Nat):∀(r:Nat) (a9 n:List Nat),eA S r a9 n=eA S 0 a9 (n.drop r)
 |0,_,_=>by rw[qZ]
 |r+1,a9,[]=>by rw[List.drop_nil,u0,u0]
 |r+1,a9,c::b=>by show eA S r a9 b=eA S 0 a9 (b.drop r);exact Fq S r a9 b
def Od(b:S≠[]):pre S []=am:=by
 cases S with
 |nil=>exact aq a b
 |cons c S=>rfl
variable{l:Nat}
def Oe{y:Nat}(S s:List Nat)(d:y≠l):pre (l::S) (y::s)=am:=by
 cases c:pre (l::S) (y::s)with
 |false=>rfl
 |true=>have b:(y::s).take (l::S).length=l::S:=eq_of_beq c;rw[cy,Fs]at b;injection b with e f;exact aq e d
def Of(S s:List Nat):pre S (S++s)=H:=by show((S++s).take S.length==S)=H;rw[(Ft:(S++s).take S.length=S)]<;>exact le S
def Og{b:List Nat}{e:Nat}(d:e<b.length):∃y,b.drop e=y::b.drop (e+1):=⟨b[e],u1 d⟩
theorem sJ(S b:List Nat):∀(v e:Nat) (a9:List Nat),e+v<=b.length->(∀r,e<=r->r<e+v->pre S (b.drop r)=am)->eA S 0 a9 (b.drop e)=eA S 0 (a9++(b.drop e).take v) (b.drop (e+v))
 |0,e,a9,_,_=>by rw[Oh,fT,y1]
 |v+1,e,a9,i,c=>by obtain⟨h,d⟩:=Og (by omega:e<b.length);have f:=c e (bC _) (by omega);have g:=sJ S b v (e+1) (a9++[h]) (by omega) (λr k l=>c r (by omega) (by omega));rw[(by omega:e+1+v=e+(v+1))]at g;rw[d]at f;rw[d,Oc f,g,Fs,eW]<;>rfl
def Fu(c:List Nat)(e b:Nat):(c.drop e).drop b=c.drop (e+b):=by
 first
  |rw[sK]
  |rw[sK,Nat.add_comm]
def Fv{b:List Nat}(c:S≠[]){y:Nat}(d:pre S (b.drop y)=H):eA S 0 a9 (b.drop y)=a9::eA S 0 [] (b.drop (y+S.length)):=by
 rw[<-Fu];cases e:b.drop y with
 |nil=>rw[e,Od c]at d;cases d
 |cons f g=>
  rw[e]at d;rw[Ob d,Fq];cases S with
  |nil=>exact aq a c
  |cons h S=>rfl
def Fw{i:Str}(e:ax D≠[])(k:Nat):At i D i.length k↔pre (ax D) ((ax i).drop k)=H:=by have g:=qY i;have c:=qY D;constructor;intro b;have d:=b.2;rw[subAt_eq,c]at d;exact d;intro b;have f:=dZ nv (eq_of_beq b:((ax i).drop k).take (ax D).length=ax D);rw[ic,uD]at f;have h:0<(ax D).length:=xA.mpr e;refine⟨by omega,?_⟩;rw[subAt_eq,c];exact b
def Fx{i:Str}(b:ax D≠[]){k:Nat}(d:¬At i D i.length k):pre (ax D) ((ax i).drop k)=am:=by
 cases c:pre (ax D) ((ax i).drop k)with
 |false=>rfl
 |true=>exact aq ((Fw b k).mpr c) d
def kL(b:ax D≠[]):1<=D.length:=by rw[qY D];exact(xA.mpr b:0<(ax D).length)
def Fy(i:Str)(k af:Nat):ax (oB i k af)=((ax i).drop k).take (af-k):=strSub_toList i k af
def Oi(i:Str)(k:Nat):ax (oB i k i.length)=(ax i).drop k:=by rw[Fy,qY i];exact EQ (by rw[uD]<;>omega)
theorem Fz{i:Str}(b:ax D≠[]):∀(g:List Nat) (e f:Nat),e<=(ax i).length->ChainG i D i.length e g f->(∀r,f<=r->¬At i D i.length r)->(partsFrom i D.length e g).map ax=eA (ax D) 0 [] ((ax i).drop e)
 |[],e,f,m,c,d=>by
  have n:f=e:=c;subst n;show[ax (oB i f i.length)]=_;have run:=sJ (ax D) (ax i) ((ax i).length-f) f [] (by omega) (λr h _=>Fx b (d r h));have o:f+((ax i).length-f)=(ax i).length:=by omega
  rw[o,FA,u0,g2,EQ (by rw[uD]<;>omega)]at run;rw[run,Oi]
 |y::k,e,f,m,c,d=>by obtain⟨h,l,p,q⟩:=c;have u:y+D.length<=i.length:=l.1;have v:=qY i;show ax (oB i e y)::(partsFrom i D.length (y+D.length) k).map ax=_;have run:=sJ (ax D) (ax i) (y-e) e [] (by omega) (λr s w=>Fx b (p r s (by omega)));rw[(by omega:e+(y-e)=y),g2,Fv b ((Fw b y).mp l)]at run;rw[run,(Fz b k (y+D.length) f (by omega) q d),Fy,(qY D)]
def Oj(i D:Str)(h:ax D≠[])(l:¬mn i<mn D):(j8 i D).map ax=eA (ax D) 0 [] (ax i):=by
 obtain⟨m,d,n⟩:=occ_tight i D (kL h);have b:=Fz h _ 0 m (dC _) d n;rw[qZ]at b;have k:occurrences i D 0 i.length (i.length+1)=[]->[i].map ax=eA (ax D) 0 [] (ax i):=λe=>by rw[e]at b;rw[<-b];show[ax i]=[ax (oB i 0 i.length)];rw[sub_whole]
 unfold j8;by_cases c:(decide (i.length<D.length)||decide (mn i<mn D))=H;rw[as c];have p:i.length<D.length:=by simp only[xx,l2]at c;obtain f|f:=c;exact f;exact aq f l
 refine k ?_;cases e:occurrences i D 0 i.length (i.length+1)with
 |nil=>rfl
 |cons o q=>rw[e]at d;have r:o+D.length<=i.length:=d.2.1.1;omega
 rw[ag c];by_cases g:(occurrences i D 0 i.length (i.length+1)).isEmpty=H;rw[as g];exact k (xs.mp g);rw[ag g,partsBetween_eq];exact b
def Ol{i:Str}(d:D.cps.all (·<256)=H):¬mn i<mn D:=by
 have b:mn D=1:=by unfold mn;rw[as d]
 rw[b];unfold mn;split;omega;split<;>omega
def Om{m b:List Nat}(e:S≠[])(d:∀k,k<m.length->pre S ((m++(S++b)).drop k)=am):
  eA S 0 a9 (m++(S++b))=(a9++m)::eA S 0 [] b:=by
 have run:=sJ S (m++(S++b)) m.length 0 a9 (by rw[b4];omega) (λf _ g=>d f (by omega));have c:(m++(S++b)).drop m.length=S++b:=FC;rw[qZ,Dd,Ft]at run;rw[run,Fv e (by rw[c];exact Of S b),<-Fu,c,FC]
def Oo{m:List Nat}(d:∀k,k<m.length->pre S (m.drop k)=am):eA S 0 a9 m=[a9++m]:=by have run:=sJ S m m.length 0 a9 (by omega) (λb _ c=>d b (by omega));rw[qZ,Dd,FA,u0,f8]at run;exact run
def FD{m ao:List Nat}(d:l∉m):∀k,k<m.length->pre (l::S) ((m++ao).drop k)=am:=λk b=>by
 have c:k<(m++ao).length:=by rw[b4];omega
 rw[(u1 c:(m++ao).drop k=(m++ao)[k]::(m++ao).drop (k+1))];refine Oe _ _ λe=>d ?_;rw[<-e,(List.getElem_append_left b:(m++ao)[k]=m[k])];exact Op b
def Oq{m b:List Nat}(d:l∉m):eA (l::S) 0 a9 (m++(l::S++b))=(a9++m)::eA (l::S) 0 [] b:=
 Om (by simp) (FD d)
def Ot{m:List Nat}(d:l∉m):eA (l::S) 0 a9 m=[a9++m]:=Oo λc e=>by have b:=FD (S:=S) (ao:=[]) d c e;rw[fT]at b;exact b
def mo(S:List Nat):List (List Nat)->List Nat
 |[]=>[]
 |[b]=>b
 |b::c::d=>b++(S++mo S (c::d))
theorem u2(D:Str):∀d:List Str,ax (FE D d)=mo (ax D) (d.map ax)
 |[]=>rfl
 |[_]=>rfl
 |i::b::c=>by show ax (i++D++FE D (b::c))=ax i++(ax D++mo (ax D) ((b::c).map ax));rw[Fo,Fo,u2 D (b::c),eW]
theorem FF:∀{b:List (List Nat)},b≠[]->(∀m∈b,l∉m)->eA (l::S) 0 [] (mo (l::S) b)=b
 |[],f,_=>aq a f
 |[m],_,c=>by show eA (l::S) 0 [] m=[m];rw[Ot (c m (y2.mpr a)),g2]
 |m::d::e,_,c=>by show eA (l::S) 0 [] (m++(l::S++mo (l::S) (d::e)))=m::d::e;rw[Oq (c m (b8 ..)),g2,FF (by simp) λg h=>c g (cv _ h)]
def y3(D:Str)(b:List Str):pF D b=FE D b:=glued_eq_join D b
def Ou(c:ax D=l::S)(d:D.cps.all (·<256)=H){b:List Str}(e:b≠[])(f:∀m∈b,l∉ax m):
  j8 (pF D b) D=b:=by
 refine Fp ?_;rw[Oj _ D (by rw[c];simp) (Ol d),y3,u2,c];refine FF (λg=>e (List.map_eq_nil_iff.mp g)) λm h=>?_;obtain⟨i,k,rfl⟩:=cx.mp h;exact f i k
end iM
namespace bT
open PySem PySem.Spec PyProof.Rows
theorem FG:∀n:List (Str×Tok),bW ((n.map (·.1)).map V.str) (strValues n)
 |[]=>.nil
 |b::c=>.cons ⟨b.2,a⟩ (FG c)
theorem y4:∀{aN:List Str} {aP:List ab},bW (aN.map V.str) aP->StrsAre aP aN
 |[],_,.nil=>.nil
 |b::aN,_,.cons c d=>by obtain⟨e,rfl⟩:=c;exact .cons b e (y4 d)
def u3(aN:List Str):z->aW->Prop:=λc d=>∀b,c b=E->d (.ref b) (U c b (.L (aN.map V.str)))
variable{X:bJ}{al:List (t×Obj)}{J:St}{c:z}{l:aJ}{r:Nat}
section
variable{bc:aW}
def sL{n:List (Str×Tok)}{aN:List Str}(b:Inv X al J c l)(h:n.map (·.1)=aN)(e:aN.length<=aD)(d:u3 aN c bc):
  fC X al J bc (.ref l.heap.objs.size) {l with toks:=r,heap:=l.heap.push {cls:=.type "list",data:=.seq (strValues n).toArray}}:=by
 refine⟨.ref l.heap.objs.size,U c l.heap.objs.size (.L (aN.map V.str)),b.hr (λg i f=>gs _ f) (bC _) ⟨by rw[aV];exact e,strValues n,_,?_,hv _ a⟩,a,d _ (b.hok.fresh (bC _))⟩;rw[<-h];exact FG n
end
variable{id:String}
def Ov:kF X "str.split" (λi M c l=>∃e b,i= .str e/\M=[.str b]/\(b.length==0)=am/\e.length+2<=aD/\u3 (j8 e b) c l):=by
 intro u d v c i M A B l m w o g;obtain⟨e,b,rfl,rfl,s,x,g⟩:=g;obtain⟨h,rfl⟩:=w;cases o with
 |cons y o=>
  cases o;obtain⟨p,rfl⟩:=y;have q:(j8 e b).length<=aD:=b5 (PyProof.Rows.split_le e b) x;have z:(Ow e (sm e b 0 e.length (e.length+1)) b.length).length<=aD:=by have C:=StrLaws.occ_length_le e b 0 e.length (e.length+1);rw[Ox];omega
  cases f:(decide (e.length<b.length)||decide (mn e<mn b));cases k:(sm e b 0 e.length (e.length+1)).isEmpty;refine qR y5 (qQ _ _ _) FH (FI _ _) (meets_str_split_sep e b h p f s k (by omega) z) ?_;show fC X u v l (.ref d.heap.objs.size) {d with toks:=_,heap:=d.heap.push {cls:=.type "list",data:=.seq (strsFrom d.toks (Ow e (sm e b 0 e.length (e.length+1)) b.length)).toArray}};rw[strsFrom_eq];exact sL (aN:=j8 e b) m ((numbered_texts _ _).trans ((ag (FJ f)).trans (ag (FJ k))).symm) q g;refine qR y5 (qQ _ _ _) FH (FI _ _) (meets_str_split_not_found e b h p f s k) ?_;exact sL (n:=[(e,h)]) (aN:=j8 e b) (r:=d.toks) m ((ag (FJ f)).trans (as k)).symm q g;refine qR y5 (qQ _ _ _) FH (FI _ _) (meets_str_split_cannot_occur e b h p f) ?_;exact sL (n:=[(e,h)]) (aN:=j8 e b) (r:=d.toks) m (as f).symm q g
def Oy:kF X "str.join" (λi M c n=>∃e m,∃aN:List Str,i= .str e/\M=[.ref m]/\(an X.K c m (aN.map V.str)\/ej X.K c m (aN.map V.str))/\(aN.map (·.length)).sum+aN.length*e.length<=16777216/\n (.str (pF e aN)) c):=by
 intro y z A c i M B C n b p f d;obtain⟨e,m,aN,rfl,rfl,bg,o,d⟩:=d;obtain⟨D,rfl⟩:=p;cases f with
 |cons q f=>cases f;cases q;obtain bg|bg:=bg;obtain⟨g,h,⟨r,s,u,v,_,w⟩,_⟩:=b.list bg;exact PyProof.Rows.join_list (items:=g.toArray) ⟨r,u,v,s,w⟩ (by rw[Oz];exact y4 h) o λk l=>⟨.str _,c,b.eM l,⟨k,a⟩,d⟩;obtain⟨g,h,x,_⟩:=b.tuple bg;exact PyProof.Rows.join_tuple (items:=g.toArray) x (by rw[Oz];exact y4 h) o λk l=>⟨.str _,c,b.eM l,⟨k,a⟩,d⟩
def FK{ah:Str->Prop}{g:Str->V}(rule:∀(e:Str) (p:Tok) (l:aJ) (b:ab->aJ->Prop),ah e->(∀(C:ab) (r:Nat),RelV (g e) C->b C {l with toks:=r})->a5 (a' X.prog X.w) X.A (call (.builtin id) [.str e p]) b X.xe l):kF X id (λi M c b=>∃e,i= .str e/\M=[]/\ah e/\b (g e) c):=by intro o l q c i M s u b f h k d;obtain⟨e,rfl,rfl,m,d⟩:=d;obtain⟨p,rfl⟩:=h;cases k;exact rule e p l _ m λC r n=>⟨g e,c,f.eM r,n,d⟩
def OA:kF X "str.isdigit" (λi M c b=>∃e,i= .str e/\M=[]/\True/\b (.bl (y6 e)) c):=
 FK (ah:=λ_=>True) (g:=λe=>.bl (y6 e)) λ_ _ d _ _ f=>PySem.SC.isdigit (f _ d.toks a)
def OB:kF X "str.isalpha" (λi M c b=>∃e,i= .str e/\M=[]/\True/\b (.bl (y7 e)) c):=
 FK (ah:=λ_=>True) (g:=λe=>.bl (y7 e)) λ_ _ d _ _ f=>PySem.SC.isalpha (f _ d.toks a)
def OC{g:Str->Str->V}(rule:∀(e b:Str) (p C:Tok) (l:aJ) (d:ab->aJ->Prop),(∀(u:ab) (r:Nat),RelV (g e b) u->d u {l with toks:=r})->a5 (a' X.prog X.w) X.A (call (.builtin id) [.str e p,.str b C]) d X.xe l):kF X id (λi M c d=>∃e b,i= .str e/\M=[.str b]/\d (g e b) c):=by
 intro q l s c i M u v d k m f h;obtain⟨e,b,rfl,rfl,h⟩:=h;obtain⟨p,rfl⟩:=m;cases f with
 |cons n f=>cases f;obtain⟨C,rfl⟩:=n;exact rule e b p C l _ λu r o=>⟨g e b,c,k.eM r,o,h⟩
def OD:kF X "str.startswith" (λi M c d=>∃e b,i= .str e/\M=[.str b]/\d (.bl (y8 e b)) c):=
 OC (g:=λe b=>.bl (y8 e b)) λ_ _ _ _ f _ h=>PySem.SC.startswith (h _ f.toks a)
def OE:j6 X (.type "int") (λM c f=>∃e o,M=[.str e]/\y9 e=j o/\e.length<=640/\f (.int o) c):=by
 intro l m n c M p f g b d;obtain⟨e,o,rfl,h,i,d⟩:=d;cases b with
 |cons k b=>cases b;obtain⟨q,rfl⟩:=k;exact PySem.W.KIN.call_text h i ⟨.int o,c,g.eM _,⟨_,a⟩,d⟩
variable{bj:bu}{aT:Pos}
section
variable{q h:ce}{iK:bu}
def OF(s:V->List V->z->aW->Prop)(d:bu):bu:=λJ c e=>d J c λb f=>(∃g,b= .str g)/\s b [] f e
def y_(s:V->List V->z->aW->Prop)(d bj:bu):bu:=λJ c e=>d J c λb f=>(∃g,b= .str g)/\bj J f λh i=>s b [h] i e
def y'{name:Str}{c:Pos}{s:V->List V->z->aW->Prop}(g:Slot "str" name id)(h:typeOf (.builtin id)=pure (.type "method_descriptor"))(rule:kF X id s)(i:a8 X q iK)(k:oo q name X.env (cb q X.env)=cb q X.env:=by rfl)(l:(c.endLine==aT.line)=H:=by rfl):a8 X (.Call (.Attribute q name c) [] [] aT) (OF s iK):=by intro d m e n o p r;refine PySem.Call_method0 k l (bB (i d m e n _ p r) λy u ⟨A,v,w,f,b⟩=>?_);obtain⟨⟨B,rfl⟩,b⟩:=b;obtain⟨C,rfl⟩:=_root_.id f;exact⟨"str",_,OG,g,h,qQ _ _ _,(λ_=>⋯),uJ a (M' (rule d u e v _ [] _ [] o w f .nil b))⟩
def za{name:Str}{e:Pos}{s:V->List V->z->aW->Prop}(g:Slot "str" name id)(i:typeOf (.builtin id)=pure (.type "method_descriptor"))(rule:kF X id s)(k:a8 X q iK)(l:a8 X h bj)(m:da [h] X.env=[(am,cb h X.env)]:=by rfl)(n:oo q name X.env (cb q X.env)=cb q X.env:=by rfl)(o:(e.endLine==aT.line)=H:=by rfl):
  a8 X (.Call (.Attribute q name e) [h] [] aT) (y_ s iK bj):=by
 intro b p c r u v w;refine PySem.Call_method1 n m o (bB (k b p c r _ v w) λK x ⟨L,y,A,f,d⟩=>?_);obtain⟨⟨M,rfl⟩,d⟩:=d;obtain⟨N,rfl⟩:=_root_.id f;refine⟨"str",_,OG,g,i,qQ _ _ _,(λ_=>⋯),uJ a (EL (yd ?_))⟩;exact bB (l b x c y _ A d) λB C ⟨D,F,G,I,J⟩=>Ee (rule b C c F _ [D] _ [B] u G f (.cons I .nil) J)
def OH{d:Pos}(f:a8 X q iK)(g:a8 X h bj)(k:da [h] X.env=[(am,cb h X.env)]:=by rfl)(l:oo q "split" X.env (cb q X.env)=cb q X.env:=by rfl)(m:(d.endLine==aT.line)=H:=by rfl):
  a8 X (.Call (.Attribute q "split" d) [h] [] aT) (y_ (λi M c n=>∃e b,i= .str e/\M=[.str b]/\(b.length==0)=am/\e.length+2<=aD/\u3 (j8 e b) c n) iK bj):=
 za y5 F.type_str_split Ov f g k l m
def zb{b:Pos}(d:a8 X q iK)(f:a8 X h bj)(g:da [h] X.env=[(am,cb h X.env)]:=by rfl)(k:oo q "join" X.env (cb q X.env)=cb q X.env:=by rfl)(l:(b.endLine==aT.line)=H:=by rfl):
  a8 X (.Call (.Attribute q "join" b) [h] [] aT) (y_ (λi M c n=>∃e m,∃aN:List Str,i= .str e/\M=[.ref m]/\(an X.K c m (aN.map V.str)\/ej X.K c m (aN.map V.str))/\(aN.map (·.length)).sum+aN.length*e.length<=16777216/\n (.str (pF e aN)) c) iK bj):=
 za F.slot_str_join F.type_str_join Oy d f g k l
end
def jn(l:be)(af:Nat):be:=match l with
 | .ClassDef _ _ _ b _ _ _ _ _ _ _=>b.getD af (.Pass ⟨0,0,0,0⟩)
 |_=>.Pass ⟨0,0,0,0⟩
def sM(l:be):Arguments:=match l with
 | .FunctionDef _ b _ _ _ _ _ _ _ _=>b
 |_=>{posonlyargs:=[],args:=[],vararg:=E,kwonlyargs:=[],kw_defaults:=[],kwarg:=E,defaults:=[]}
def ly(l:be):List be:=match l with
 | .FunctionDef _ _ b _ _ _ _ _ _ _=>b
 |_=>[]
def bo(l:be):hN:=match l with
 | .FunctionDef _ _ _ _ _ _ b _ _ _=>b
 |_=>{kind:=.function,names:=[],isGenerator:=am,isCoroutine:=am}
abbrev a7:hz:=λ_ _ _ _ _ _=>False
abbrev b9:bn:=λ_ _ _=>False
def bN:gt a7 X b9:=λ_ _ _ _ _ _ _ b=>b.elim
structure bO (K:bG) (i FL:Str) (st:be) (f:t) (ai:hQ):Prop where
 ex:∃(OI:ab) (OJ:Option t) (c9 doc OK:ab) (sN:Option t) (FM ma:ab) (OL:Array (Option ab)),
  ai=qN i FL (sM st) (ly st) (bo st) .none c9 doc OK sN FM ma/\K.lookup f=j ⟨OI,OJ,.func ai,OL⟩/\su K FM FL=H
 kp:md K (.ref f)=H
variable{P:cN}{w:cr}{K:bG}{mg:Str->Option ab}{i lz:Str}{f:t}
section
variable{base:bM}
def bO.ok{st:be}{h:hQ}{g aZ:List Str}{b0:f2}(F:bO K i lz st f h)(S:b2 g aZ (bo st))(len:∀G c b B,b0 G c b B->G.length=aZ.length)(k:∀(d:ab) (e:g8) (outer:List Env) (l:aJ) (c:z) (G:List V) (b:aW) (B:bn),cV r (e.deeper (f3 lz (bo st) l.heap.objs.size f d))->b0 G c b B->∃p,fZ (jN a7 P w K mg base g lz (bo st) f d e outer l c B).nox (ly st) p/\p {bb:=λ_ m=>b .aL m,lp:=b} (start g G) c):bd P w K mg base a7 (r+1) f h aZ b0:=by obtain⟨v,x,c9,doc,y,A,d,C,D,rfl,lk,n⟩:=F.ex;refine Ep lk n S len λe outer l c G b B o q=>?_;obtain⟨p,s,u⟩:=k d e outer l c G b B o q;exact⟨p,s.nox,u⟩
def OM{st:be}{g:ab}{h c:Option t}{k:Array (Option ab)}{c9 doc d b e:ab}(n:K.lookup f=j ⟨g,h,.func (qN i lz (sM st) (ly st) (bo st) .none c9 doc d c b e),k⟩)(y:su K b lz=H)(r:md K (.ref f)=H):bO K i lz st f (qN i lz (sM st) (ly st) (bo st) .none c9 doc d c b e):=⟨⟨g,h,c9,doc,d,c,b,e,k,a,n,y⟩,r⟩
end
def kM{b:g8}(c:cV r b):b.units+1<e0:=jo (Nat.add_le_add_left (by decide:1<=64) _) c.units
def c1{o:Nat}(d:o<=1000):o<aD:=jo d nofun
def x(k:Nat)(b:X.N[k]?=j i:=by rfl)(c:pb X.env.scope i:=by first|exact aU rfl|exact lA (aU rfl)|exact lA (lA rfl))(d:(i==("__debug__":Str))=am:=by decide)(e:(i==("__classdict__":Str))=am:=by decide):a8 X (.Name i aT) (cD k):=Lx b c d e
def cq{b bD:Prop}(d:bD):if am=H then b else bD:=by rw[ag dA];exact d
def cm{b bD:Prop}(d:b):if H=H then b else bD:=by rw[as a];exact d
def gw{y c bD:Prop}[Decidable y](d:y->c)(e:¬y->bD):if y then c else bD:=by by_cases b:y;rw[as b];exact d b;rw[ag b];exact e b
def u4{y b bD:Prop}[Decidable y](c:y)(d:bD):if(!decide y)=H then b else bD:=by rw[bw c];exact cq d
def Q(c e:z):Prop:=∀b d,c b=j d->e b=j d
def Q.trans{d f:z}(e:Q c d)(b:Q d f):Q c f:=λg h i=>b g h (e g h i)
def Q.free{b:z}(h:Q c b){n:t}(d:b n=E):c n=E:=by
 cases e:c n with
 |none=>rfl
 |some f=>rw[h n f e]at d;cases d
variable{e:t}{M:List V}
def Q.seq{b:z}(h:Q c b)(d:an K c e M):an K b e M:=by obtain(d|⟨f,d⟩)|d:=d;exact .inl (.inl (h _ _ d));exact .inl (.inr ⟨f,h _ _ d⟩);exact .inr d
section
variable{dE:Type}[DecidableEq dE]
def ON{aB:List (dE×V)}{r:dE}{u:V}(d:cg aB r=j u):r∈aB.map (·.1):=by
 have b:(aB.any λc=>decide (c.1=r))=H:=by
  rw[pC,d]
  all_goals rfl
 obtain⟨e,f,g⟩:=C4.mp b;exact cx.mpr ⟨e,f,iF g⟩
end
def nB{b:Int}{af:Nat}{u:V}(h:b=(af:Int))(d:M[af]?=j u):gv M b=j u:=by rw[h];exact dj d
def OO{c:Type}{n:List c}(d:n.Nodup){k af:Nat}{i:c}(e:n[k]?=j i)(b:n[af]?=j i):k=af:=by obtain⟨h,f⟩:=es.mp e;obtain⟨l,g⟩:=es.mp b;exact(Lv d).mp (f.trans g.symm)
abbrev u5:List ab:=[.type "Exception",.type "BaseException",.type "object"]
inductive FN(K:bG)(ah:t):Prop|mk:∀c d b e f g sub h i k l m n o p,K.lookup ah=j (zc c d ah b e u5 f g sub h i k l m n o p "Exception.__new__")->OP K b=H->OQ K b "__init__"=j E->FN K ah
structure ij (K:bG) (mg:Str->Option ab) (i:Str) (ah:t):Prop where
 bound:mg i=j (.ref ah)
 obj:FN K ah
variable{d:bM}
def ij.own{ah:t}(h:ij K mg i ah)(X:K.In d):OwnCls i ah u5 "Exception.__new__" mg d:=by obtain⟨c,e,f,g,k,l,sub,m,n,o,p,q,r,s,u,lk,b,v⟩:=h.obj;exact⟨h.bound,u5,f,c,e,g,k,l,sub,m,n,o,p,q,r,s,u,_,X _ _ lk,.of_isNs (PySem.W.isNs_of_in X b),PySem.W.nsMap_none_of_in X b v,.base⟩
structure gR (P:cN) (w:cr) (n:List Env) (c O:z) (d bD:bM) (aM:aJ) (jp:t) (cls:ab):Prop where
 fly:∃fG,u6 bD n jp cls fG aM.heap
 un:fW (dh n) [] c O d aM.heap
 keep:∀b q,d.get? b=j q->c b=E->b∉dh n->bD.get? b=j q
 hok:dK P w O bD
 there:∀b q,d.get? b=j q->b∉dh n->∃j4,bD.get? b=j j4
 frf:∀b∈dh n,c b=E
 frh:∀b∈dh n,∃q,d.get? b=j q/\∀G,q.data≠.fields G
def bh(P:cN)(w:cr)(K:bG)(g:Str->Option ab):hz:=λh c l k m b=>∃e d f n,m= .ref e/\(∃i,ij K g i d)/\k (.ref d) E f/\b.os=l.os/\nk b.gens/\gR P w h c f l.heap n b e (.ref d)
section
variable{n:List Env}{O:z}{bD gn:bM}{aM:aJ}{jp:t}{cls fG:ab}
def gR.un2(F:gR P w n c O d bD aM jp cls)(st:bD.StaysIn gn)(o:aM.heap.UpToSlots gn):fW (dh n) [] c O d gn:=by refine⟨λb g f l e _=>st b g (F.keep b g f l e),λb g f l e _=>?_,F.un.free,λb g f _=>?_,F.un.tups,F.un.frzs,F.un.tbls⟩;obtain⟨q,h⟩:=F.un.slot b g f l e (by simp);obtain⟨k,i,cJ⟩:=F.frh b e;rw[f]at i;cases i;obtain⟨p,m⟩:=o b _ h cJ;exact⟨p,m⟩;by_cases e:b∈dh n;obtain⟨q,h⟩:=F.un.slot b g f (F.frf b e) e (by simp);obtain⟨k,i,cJ⟩:=F.frh b e;rw[f]at i;cases i;obtain⟨p,m⟩:=o b _ h cJ;exact⟨_,m⟩;obtain⟨k,h⟩:=F.there b g f e;exact⟨k,st b k h⟩
def gR.move(F:gR P w n c O d bD aM jp cls)(df:u6 bD n jp cls fG gn)(b:aM.heap.UpToSlots gn):gR P w n c O d bD {aM with heap:=gn} jp cls:=
 ⟨⟨fG,df⟩,F.un2 df.1 b,F.keep,F.hok,F.there,F.frf,F.frh⟩
end
section
variable{O:z}{aM:aJ}{bD gn:bM}{jp:t}{cls fG:ab}
def Inv.FO(b:Inv X al J c l)(F:gR X.prog X.w X.stack c O l.heap bD aM jp cls)(os:aM.os=l.os)(g:nk aM.gens):Inv X al J O aM:=by obtain⟨f,d⟩:=F.fly;exact b.xP os F.un (F.hok.kept d.1) g (eZ:=[]) λh e=>aq e (by simp)
def Inv.sO(d:Inv X al J c l):∀b q,X.s_0.heap.get? b=j q->b≠X.env.locals:=λb q e=>gL (gK (d_ e) d.ok.above)
def zd(b:X.stack=X.env::X.outer)(cA:X.env.frame=j X.env.locals):dh X.stack=X.env.locals::dh X.outer:=by rw[b];delta dh;rw[hn,cA]
def gR.nC(f:Inv X al J c l)(s:X.stack=X.env::X.outer)(cA:X.env.frame=j X.env.locals)(u:X.ex=[])(F:gR X.prog X.w X.stack c O l.heap bD aM jp cls)(df:u6 bD X.outer jp cls fG gn)(v:aM.heap.UpToSlots gn):gR X.prog X.w X.outer X.H_0 O X.s_0.heap bD {aM with heap:=gn} jp cls:=by
 have o:=zd s cA;have bb:∀b,b∉X.ex:=λb g=>by rw[u]at g;cases g
 have q:∀b d,X.s_0.heap.get? b=j d->X.H_0 b=E->b∉dh X.outer->bD.get? b=j d:=λb d e i h=>F.keep b d (f.base.keep b d e i h (bb b)) (f.base.free b d e i (bb b)) (by rw[o];intro g;obtain g|g:=bm.mp g;exact f.sO b d e g;exact h g)
 have x:∀b d,X.s_0.heap.get? b=j d->b∉dh X.outer->∃y,bD.get? b=j y:=λb d e h=>by obtain⟨m,k⟩:=f.base.there b d e (bb b);exact F.there b m k (by rw[o];intro g;obtain g|g:=bm.mp g;exact f.sO b d e g;exact h g)
 have r:=F.un2 df.1 v;refine⟨⟨fG,df⟩,⟨λb d e i h _=>df.1 b d (q b d e i h),λb d e i h _=>?_,λb d e i _=>?_,λb d e _=>?_,λb n e=>F.un.tups b n (f.base.tups b n e),λb d n e=>F.un.frzs b d n (f.base.frzs b d n e),λb z e=>?_⟩,q,F.hok,x,f.ok.frf,(λb h=>(f.ok.g9.mem h).2:∀b∈dh X.outer,∃d,X.s_0.heap.get? b=j d/\∀A,d.data≠.fields A)⟩;obtain⟨G,k⟩:=f.base.slot b d e i h (bb b);obtain⟨B,p⟩:=r.slot b _ k (f.base.free b d e i (bb b)) (by rw[o];exact cv _ h) (by simp);exact⟨B,p⟩;obtain⟨m,k⟩:=f.base.there b d e (bb b);exact F.un.free b m k (f.base.free b d e i (bb b)) (by simp);obtain⟨m,k⟩:=f.base.there b d e (bb b);exact r.there b m k (by simp);obtain⟨C,k⟩:=f.base.tbls b z e;obtain⟨D,p⟩:=F.un.tbls b _ k;exact⟨C++D,by rw[p,Do]⟩
def OR(f:Inv X al J c l)(q:X.stack=X.env::X.outer)(cA:X.env.frame=j X.env.locals)(K:X.ex=[]){r:bM}{h:t}(v:OS l.heap r h cls []){L:qA}{B:ab->aJ->Prop}{z:Unit->aJ->Prop}(M:∀bD gn,gR X.prog X.w X.outer X.H_0 c X.s_0.heap bD {l with heap:=gn} h cls->z () {l with heap:=gn}):
  a5 L X.A (leaving X.env (.ref h)) z B {l with heap:=r}:=by
 have C:=zd q cA;have bb:∀b,b∉X.ex:=λb g=>by rw[K]at g;cases g
 have N:X.A.frames=j (X.env::X.outer):=by rw[<-q];exact f.ok.frames
 refine wpAny_leaves_madeW (base:=o' l.heap (dh X.stack)) (h:=l.heap) (s:={l with heap:=r}) N cA (λb d i=>Lq _ i:(o' l.heap (dh X.stack)).StaysIn l.heap) (by rw[<-q];exact(PySem.W.funFrames_hide f.stack λO P b e=>eV.mpr ⟨O,P,e⟩:l.heap.FunFrames (o' l.heap (dh X.stack)) X.stack)) v λgn Y u _ _ Q=>M (o' l.heap (dh X.stack)) gn ?_;have D:l.heap.UpToSlots gn:=(YE v.keeps).trans Q;have F:∀b d,X.s_0.heap.get? b=j d->X.H_0 b=E->b∉dh X.outer->(o' l.heap (dh X.stack)).get? b=j d:=λb d h k e=>xH _ (f.base.keep b d h k e (bb b)) (by rw[C];intro g;obtain g|g:=bm.mp g;exact f.sO b d h g;exact e g)
 have G:∀b d,X.s_0.heap.get? b=j d->b∉dh X.outer->∃n,(o' l.heap (dh X.stack)).get? b=j n:=λb d h e=>by obtain⟨R,m⟩:=f.base.there b d h (bb b);exact⟨R,xH _ m (by rw[C];intro g;obtain g|g:=bm.mp g;exact f.sO b d h g;exact e g)⟩
 have x:∀b∈dh X.outer,∃d,X.s_0.heap.get? b=j d/\∀S,d.data≠.fields S:=λb e=>(f.ok.g9.mem e).2;have T:dK X.prog X.w c (o' l.heap (dh X.stack)):=λU d h=>(f.hok U d h).ku (λb Z e i=>xH _ i λg=>by have p:=f.xL b g;obtain rfl|e:=e;rw[h]at p;cases p;rw[e]at p;cases p) (λ_ i=>i) λ_ _ i=>i
 refine⟨⟨_,u⟩,⟨λb d h k e _=>u.1 b d (F b d h k e),λb d h k e _=>?_,λb d h k _=>f.base.free b d h k (bb b),λb d h _=>?_,f.base.tups,f.base.frzs,f.base.tbls⟩,F,T,G,f.ok.frf,x⟩;obtain⟨V,m⟩:=f.base.slot b d h k e (bb b);obtain⟨n,o,cJ⟩:=x b e;rw[h]at o;cases o;obtain⟨I,y⟩:=D b _ m cJ;exact⟨I,y⟩;by_cases e:b∈dh X.outer;obtain⟨V,m⟩:=f.base.slot b d h (f.ok.frf b e) e (bb b);obtain⟨n,o,cJ⟩:=x b e;rw[h]at o;cases o;obtain⟨I,y⟩:=D b _ m cJ;exact⟨_,y⟩;obtain⟨n,m⟩:=G b d h e;exact⟨n,u.1 b n m⟩
end
def FP(X:bJ)(B:bn):Prop:=∀(al:List (t×Obj)) (J:St) (c:z) (l:aJ) (d:bM) (e b:t),Inv X al J c l->(∃i,ij X.K X.mg i b)->OS l.heap d e (.ref b) []->B (.ref b) E c->X.xe (.ref e) {l with heap:=d}
def OT(ah:t)(B:bn):dz:=λ_ _ c=>B (.ref ah) E c
def ik{ah:t}{B:bn}{e f:Pos}(h:ij X.K X.mg i ah)(g:FP X B)(k:X.A.handled=E)(l:gN X i)(m:(i==("__debug__":Str))=am:=by decide):
  fY X (.Raise (j (.Call (.Name i e) [] [] f)) E aT) (OT ah B):=by
 intro n o p r aa b d;have FB:=PySem.F.excBase_Exception;have s:=(h.own b.gM).obj;obtain⟨u,v,w,x,y,z,D,G,I,J,L,M,O,P,Q,R,S,T,U,V,c⟩:=s;refine wpAny_Raise_call_subT (C:=ah) (nm:=w) (q:=x) (N:=v) (bs:=y) (bm:=u) (hdct:=z) (sn:=D) (sub:=G) (ab:=I) (col:=J) (dd:=L) (k0:=M) (k1:=O) (k2:=P) (k3:=Q) (k5:=R)
  FB (mN:=S) (c.hasType FB.hasBase) k a V (pc b l h.bound ⟨a,?_⟩ m)
 exact evalArgs_empty ⟨a,dC _,T,U,c,λW Y Z=>g n p r o W Y ah b ⟨i,h⟩ Z d⟩
variable{bk:hN}
def dF{h:bM}{i:List Str}{e:ab}{k:g8}{outer:List Env}{B g:bn}(m:∀y aa b,g y aa b->B y aa b):gt (bh P w K mg) (jN (bh P w K mg) P w K mg h i lz bk f e k outer l c B) g:=by intro A C D G I J d ⟨n,o,b,p,q,r,s,os,u,F⟩;subst q;obtain⟨L,v⟩:=F.fly;refine wpAny_leaves_onW (env:=f3 lz bk l.heap.objs.size f e) (outer:=outer) d.ok.frames a v λM x z=>?_;exact⟨n,o,b,p,a,r,m _ _ _ s,os.trans d.os,u,gR.nC d a a a F x z⟩
def il{g:bM}{h:List Str}{i:ab}{k:g8}{outer:List Env}{B d:bn}(m:∀y aa e,d y aa e->B y aa e):FP (jN (bh P w K mg) P w K mg g h lz bk f i k outer l c B) d:=by intro v x n z A o p b q r s;refine OR b a a a r λu C F=>?_;exact⟨o,p,n,u,a,q,m _ _ _ s,b.os,b.fB,F⟩
section
variable{B:ab->aJ->Prop}{kw:qA}{A:g8}{sP ao OU OV:Str}{ah N sQ OW:t}{gp FQ OX ze:List ab}{OY OZ:Bool}{O0 O1:List Str}{sub O2:List ab}{O3 O4:Bool}{O5 O6:Option Bool}{O7 O8:Option t}{O9 O_ O' Pa Pb Pc Pd Pe Pf Pg:Option ab}{Ph Pj:String}
def Pk{g:Array GenState}{aa:Drawn}{p:Nat}{os:OsState}{h:t}{b:Obj}{c:Bool->aJ->Prop}(f:d.get? ah=j (zc sP ao ah N gp FQ OY O0 sub O3 O5 O7 O9 O_ O' Pa Pb Ph))(e:d.get? sQ=j (zc OU OV sQ OW OX ze OZ O1 O2 O4 O6 O8 Pc Pd Pe Pf Pg Pj))(i:d.get? h=j b)(k:b.cls= .ref ah)(l:ze.contains (.type "BaseException")=H)(m:(dt ah::FQ).contains (.ref sQ)=am)(n:c am ⟨d,g,aa,p,os⟩):a5 kw A (excMatches (.ref h) (.ref sQ)) c B ⟨d,g,aa,p,os⟩:=by
 have o:=tc_notTuple;unfold excMatches
 repeat (first|(with_reducible refine Pl i ?_;rw[k])|with_reducible refine Pl e ?_|(with_reducible refine Pm e ?_;rw[(by rw[Pn,l,Bool.or_true]:(dt sQ::ze).contains (.type "BaseException")=H)])|(with_reducible refine Pm f ?_;rw[m])|wp_step)
 exact n
end
abbrev bJ.held(X:bJ)(u:ab):bJ:={X with A:=X.A.mark (j u),calm:=am,xe:=λ_ _=>False}
section
variable{u:ab}
theorem Inv.held(b:Inv X al J c l)(u:ab):Inv (X.held u) al J c l:=
 ⟨⟨b.ok.fm,b.ok.kind,b.ok.jI,b.ok.ln,b.ok.above,b.ok.inj,b.ok.has,b.ok.l9,λd=>j9 d,b.ok.frames,b.ok.ni,b.ok.nj,b.ok.gp,b.ok.jc,b.ok.l_,b.ok.l',b.ok.g9,b.ok.frf⟩,b.os,b.fB,b.base,b.a6,b.cell,b.free,b.hs,b.g_,b.hok,b.len⟩
def Inv.u7(b:Inv (X.held u) al J c l)(d:X.Ok):Inv X al J c l:=⟨d,b.os,b.fB,b.base,b.a6,b.cell,b.free,b.hs,b.g_,b.hok,b.len⟩
end
def q0(X:bJ)(h:List pG)(p:t->dz):Prop:=
 ∀(al:List (t×Obj)) (l:aJ) (J:St) (c:z) (e:Ends) (f:z) (k:bM) (b:aJ) (g d:t),Inv X al J c l->gR X.prog X.w X.stack c f l.heap k b g (.ref d)->b.os=l.os->nk b.gens->(∃i,ij X.K X.mg i d)->p d e J f->a5 (a' X.prog X.w) X.A (handleBy (.ref g) X.env h) (jJ X al e) X.xe b
def FR:q0 X [] (λ_ _ _ _=>False):=λ_ _ _ _ _ _ _ _ _ _ _ _ _ _ _ d=>d.elim
def pH{h:t}{M:Pos}{v:be}{w:List be}{x:List pG}{p:dz}{C:t->dz}(y:ij X.K X.mg i h)(N:gN X i)(O:∀u,fZ (X.held u) (v::w) p)(P:q0 X x C)(Q:(i==("__debug__":Str))=am:=by decide):q0 X (.ExceptHandler (j (.Name i M)) E (v::w) aT::x) (λah k J c=>(ah=h->p k J c)/\(ah≠h->C ah k J c)):=by
 intro n R J c k o S T q ah d F os r U z;obtain⟨V,A⟩:=U;have s:=d.FO F os r;obtain⟨an,B⟩:=F.fly;obtain⟨ao,D,G⟩:=B.there;refine wpAny_handleBy_cons (codeAny_handlers_test (pc (X:=X.held (.ref q)) (s.held _) N y.bound ?_ Q)) (by intro I;cases I);obtain⟨ap,I,ar,au,av,aw,sub,ax,ay,az,aA,aB,aC,aE,aF,W,_⟩:=A.obj;have L:=s.gM _ _ W;obtain⟨aG,aH,aI,aK,aL,aM,aN,aP,aQ,aR,aW,aX,aY,aZ,a0,Y,_⟩:=y.obj;obtain⟨a1,Z,aa,bR,ad⟩:=T;by_cases l:ah=h
 ·subst l;refine wpAny_excMatches_sub_self L D G nofun (codeAny_handlers_suite ?_);refine lands_againW B λae af ai=>?_;refine h_ (O (.ref q) n _ J o k ((d.FO (F.move af ai) os r:Inv X n J o ⟨ae,Z,aa,bR,ad⟩).held _) (z.1 a)) (λaj a2 m=>?_) λ_ _ b=>b.elim;cases aj with
  |next=>obtain⟨e,f,g,b⟩:=m;exact⟨e,f,g.u7 d.ok,b⟩
  |brk=>obtain⟨e,f,g,b⟩:=m;exact⟨e,f,g.u7 d.ok,b⟩
  |cont=>obtain⟨e,f,g,b⟩:=m;exact⟨e,f,g.u7 d.ok,b⟩
  |ret C=>obtain⟨u,e,f,g,ak,b⟩:=m;exact⟨u,e,f,g.u7 d.ok,ak,b⟩
 refine Pk L (s.gM _ _ Y) D G nofun ?_ ?_;have al:(dt ah==dt h)=am:=by apply fl.mpr;intro b;cases b;exact l a
 simp[al,l,cU l,q1];exact P n R J c k o S _ q ah d F os r ⟨V,A⟩ (z.2 l)
abbrev bJ.tri(X:bJ)(pn:List (t×Obj))(xe:ab->aJ->Prop):bJ:={X with pn:=pn,xe:=xe}
variable{xe:ab->aJ->Prop}
section
variable{FS pn:List (t×Obj)}
theorem bJ.Ok.tri(b:X.Ok):(X.tri pn xe).Ok:=
 ⟨b.fm,b.kind,b.jI,b.ln,b.above,b.inj,b.has,b.l9,b.du,b.frames,b.ni,b.nj,b.gp,b.jc,b.l_,b.l',b.g9,b.frf⟩
def bJ.Ok.im(b:(X.tri pn xe).Ok):X.Ok:=
 ⟨b.fm,b.kind,b.jI,b.ln,b.above,b.inj,b.has,b.l9,b.du,b.frames,b.ni,b.nj,b.gp,b.jc,b.l_,b.l',b.g9,b.frf⟩
theorem Inv.tri(b:Inv X al J c l):Inv (X.tri (X.pn++al) xe) [] J c l:=
 ⟨b.ok.tri,b.os,b.fB,b.base,b.a6,b.cell,b.free,b.hs,λd e=>b.g_ d (by simpa using e),b.hok,b.len⟩
theorem Inv.im(b:Inv (X.tri (X.pn++al) xe) FS J c l):Inv X al J c l:=
 ⟨b.ok.im,b.os,b.fB,b.base,b.a6,b.cell,b.free,b.hs,λd e=>b.g_ d (g5 _ e),b.hok,b.len⟩
theorem jJ.im{h:Ends}{f:Flow}{aM:aJ}(d:jJ (X.tri (X.pn++al) xe) FS h f aM):jJ X al h f aM:=by
 cases f with
 |next=>obtain⟨b,c,e,g⟩:=d;exact⟨b,c,e.im,g⟩
 |brk=>obtain⟨b,c,e,g⟩:=d;exact⟨b,c,e.im,g⟩
 |cont=>obtain⟨b,c,e,g⟩:=d;exact⟨b,c,e.im,g⟩
 |ret l=>obtain⟨i,b,c,e,k,g⟩:=d;exact⟨i,b,c,e.im,k,g⟩
end
def Po(cl:bn->dz)(f:t->dz):dz:=λb J c=>cl (λg _ h=>∃d,g= .ref d/\∀e:St,e.length=J.length->f d b e h) b J c
def Pp{u:List be}{m:pG}{n:List pG}{cl:bn->dz}{o:t->dz}(z:∀(B:bn) (pn:List (t×Obj)) (xe:ab->aJ->Prop),gt (bh X.prog X.w X.K X.mg) (X.tri pn xe) B->sf (a' X.prog X.w) X.A X.env xe->fZ (X.tri pn xe) u (cl B))(C:q0 X (m::n) o)(p:X.stack=X.env::X.outer)(cA:X.env.frame=j X.env.locals):fY X (.Try u (m::n) [] [] aT) (Po cl o):=by
 intro g D v G h q d;refine wpAny_Try_except ?_;have I:gt (bh X.prog X.w X.K X.mg) (X.tri (X.pn++g) (λi J=>a5 (a' X.prog X.w) X.A (pA i X.env) (λ_ L=>a5 (a' X.prog X.w) X.A (u9 i E) (λ_ M=>a5 (a' X.prog X.w) X.A (handleBy i X.env (m::n)) (jJ X g h) X.xe M) X.xe L) X.xe J))
   (λN _ f=>∃b,N= .ref b/\∀c:St,c.length=v.length->o b h c f):=by
  intro af c k l i x O ⟨r,b,f,s,P,Q,⟨ah,R,S⟩,os,T,F⟩;cases R;subst P;have y:Inv X g c k l:=O.im;have F:gR X.prog X.w X.stack k f l.heap s x r (.ref b):=F;obtain⟨fG,U⟩:=F.fly;refine FT (env:=X.env) (outer:=X.outer) (by rw[<-p];exact q.ok.frames) cA (by rw[<-p];exact U) λai V W=>?_;refine FU V λe Y Z=>?_;have aa:gR X.prog X.w X.stack k f l.heap s {x with heap:=e} r (.ref b):=F.move (fG:=fG) (by rw[p];exact Y) (W.trans Z);refine C g l c k h f s _ r b y aa os T Q (S c ?_);rw[y.len,q.len]
 refine h_ (z _ _ _ I Pq [] D v G h q.tri d) (λad aj e=>?_) λ_ _ ae=>ae;cases ad with
 |next=>exact sc e.im
 |brk=>exact e.im
 |cont=>exact e.im
 |ret ak=>exact e.im
def zf(X:bJ)(B:bn):Prop:=∀(al:List (t×Obj)) (J:St) (d:z) (e:aJ) (c:ab) (f:aJ) (b:t) (g:Env) (use:Option (ab->Sem Unit)) (h:ab->aJ->Prop) (i:ab),Inv X al J d e->bh X.prog X.w X.K X.mg X.stack d e B c f->d b=E->b∉dh X.stack->(∃k,e.heap.Ns b k)->X.s_0.heap.objs.size<=b->g.frame=X.env.frame->pz (a' X.prog X.w) X.A g (λc l=>sR (a' X.prog X.w) X.A X.xe use h i b (.error c) l) c f
abbrev bJ.xes(X:bJ)(xe:ab->aJ->Prop):bJ:={X with xe:=xe}
theorem bJ.Ok.xes(b:X.Ok):(X.xes xe).Ok:=⟨b.fm,b.kind,b.jI,b.ln,b.above,b.inj,b.has,b.l9,b.du,b.frames,b.ni,b.nj,b.gp,b.jc,b.l_,b.l',b.g9,b.frf⟩
def bJ.Ok.u_(b:(X.xes xe).Ok):X.Ok:=⟨b.fm,b.kind,b.jI,b.ln,b.above,b.inj,b.has,b.l9,b.du,b.frames,b.ni,b.nj,b.gp,b.jc,b.l_,b.l',b.g9,b.frf⟩
theorem Inv.xes(b:Inv X al J c l)(d:ab->aJ->Prop):Inv (X.xes d) al J c l:=⟨b.ok.xes,b.os,b.fB,b.base,b.a6,b.cell,b.free,b.hs,b.g_,b.hok,b.len⟩
theorem Inv.u_(b:Inv (X.xes xe) al J c l):Inv X al J c l:=⟨b.ok.u_,b.os,b.fB,b.base,b.a6,b.cell,b.free,b.hs,b.g_,b.hok,b.len⟩
variable{j_:List ce}{own:List (Str×Nat)}
def FV{aA:aW}{Q cE iter:ce}{ba:Pos}{aB:TI}{g:f0}{cK:TT}{use:Option (ab->Sem Unit)}{lB:ab->aJ->Prop}(aC:X.calm=H)(bc:X.N.Nodup)(aj:Inv X al J c l)(bd:lv X cE iter aB)(R:px X.N X.env.scope bk own)(bf:∀(l:aJ) (c:z) (ah:t) (aR:List (Str×t)) (f:List t),lu (X.blk l c bk (hc bk aR ah X.env) f) cE g)(bg:∀(l:aJ) (c:z) (ah:t) (aR:List (Str×t)) (f:List t),py (X.blk l c bk (hc bk aR ah X.env) f) j_ cK){B:bn}(bi:zf X B)(bl:∀(l:aJ) (c:z) (ah:t) (aR:List (Str×t)) (f:List t) (xe:ab->aJ->Prop),gt (bh X.prog X.w X.K X.mg) ((X.blk l c bk (hc bk aR ah X.env) f).xes xe) B->a8 ((X.blk l c bk (hc bk aR ah X.env) f).xes xe) Q bj)(bo:∀i,sj iter X.env i=pure i)(d:pB aB g cK bj (own.map (·.2)) J c aA)(bp:∀n ah aM v m,Inv X al J m aM->aA (.ref n) m->aM.heap.Ns ah v->kA X al m ah->sR (a' X.prog X.w) X.A X.xe use lB (.ref n) ah (.ok .next) aM):
  a5 (a' X.prog X.w) X.A (comprehension (.ListComp Q [⟨cE,iter,j_,0⟩] bk aT) bk X.env ba (zg []) am (cb iter X.env) use) lB X.xe l:=by
 have br:∀M∈bk.names,M.2= .free->∃ak,X.env.cells.lookup M.1=j ak:=λM an k=>by obtain r|r:=R.free M an k;exact aj.ok.has _ (.inl r);exact aj.ok.has _ (.inr r)
 refine wpAny_comprehension_free (use:=use) a bo (Nl br) R.kind (λM an k=>by rw[R.yB M an,k])
  (bB (bd al l J c _ aj d) λcj ck bs=>bB bs λcl O bt=>?_)
 obtain⟨aE,f,S,cm,F,k,aF,D,aG,aI,bu⟩:=bt;subst k;refine yQ (Nm ?_) YR;generalize T:O.heap.objs.size=n;obtain⟨W,⟨bx,aK⟩,bA⟩:=bu n (aF.hok.fresh (yb T):F n=E);generalize aL:({O with heap:=O.heap.push {cls:=.type "list",data:=.seq ([]:List ab).toArray}}:aJ)=e;have G:Inv X al J (U F n (.L [])) e:=by rw[<-aL];refine aF.hr (cX:=O.toks) (λb p k=>gs _ k) (yb T) ⟨dC _,[],0,.nil,?_⟩;rw[<-T];exact hv _ a
 have aN:e.heap=O.heap.push {cls:=.type "list",data:=.seq ([]:List ab).toArray}:=by rw[<-aL]
 have de:∀b∈f,b<O.heap.objs.size:=λb h=>by obtain⟨p,k,_⟩:=D.obj _ _ aG b h;exact d_ k
 have u:∀b∈f,kA X al (U F n (.L [])) b/\b<e.heap.objs.size:=λb h=>by have aP:=de b h;refine⟨⟨?_,(aI b h).2⟩,by rw[aN,lx];exact EX aP⟩;rw[aH (by rw[<-T];exact gL aP)];exact(aI b h).1
 have bD:S 0 e.heap:=D.keep _ _ _ aG λb _ p k=>by rw[aN];exact gs _ k
 have V:=Np G R bc u;have ao:=bf e (U F n (.L [])) e.heap.objs.size (hb (e.heap.objs.size+1) bk.names (gQ X.env.cells bk.names [])) f;have ap:=bg e (U F n (.L [])) e.heap.objs.size (hb (e.heap.objs.size+1) bk.names (gQ X.env.cells bk.names [])) f;have ar:=bl e (U F n (.L [])) e.heap.objs.size (hb (e.heap.objs.size+1) bk.names (gQ X.env.cells bk.names [])) f;show qL _ _ (.compStart (.ListComp Q [⟨cE,iter,j_,0⟩] bk aT) 0 (.ref aE) (.ref n) (hc bk (hb (e.heap.objs.size+1) bk.names (gQ X.env.cells bk.names [])) e.heap.objs.size X.env)) (sR (a' X.prog X.w) X.A X.xe use lB (.ref n) e.heap.objs.size) {e with heap:=pw (e.heap.push {cls:=.type "dict",data:=.dict #[]}) bk.names};have aQ:∀b∈f,(U F n (.L [])) b=E:=λb h=>(u b h).1.1;generalize aX:hc bk (hb (e.heap.objs.size+1) bk.names (gQ X.env.cells bk.names [])) e.heap.objs.size X.env=o at V ao ap ar|-;have Y:o.locals=e.heap.objs.size:=by subst aX;rfl
 generalize cn:U F n (.L [])=y at G V ao ap ar aK aQ u;generalize bF:({e with heap:=pw (e.heap.push {cls:=.type "dict",data:=.dict #[]}) bk.names}:aJ)=aY at V|-;have aZ:S 0 aY.heap:=D.keep _ _ _ bD λb _ p k=>by rw[<-bF];exact yw _ _ _ _ (gs _ k)
 have au:∀{av:St} {m:z} {aM:aJ},Inv (X.blk e y bk o f) [] av m aM->(∀b∈f,m b=E)->∀b∈f,kA (X.blk e y bk o f) [] m b:=λ{av m aM} q x b h=>⟨x b h,(q.ok.nj b h).1,q.ok.l' b h,.inl h,λi ak k=>(q.ok.nj b h).2 i ak k,λbH aw=>aq (show bH∈([]:List (t×Obj))++[]from aw) (by simp)⟩
 have a0:qL (a' X.prog X.w) X.A (.compLoop (.ListComp Q [⟨cE,iter,j_,0⟩] bk aT) 0 (.ref aE) (.ref n) o) (sR (a' X.prog X.w) X.A X.xe use lB (.ref n) e.heap.objs.size) aY:=by
  refine Nr (λZ aM=>∃C m,Inv (X.blk e y bk o f) [] (cB J (own.map (·.2))) m aM/\S C aM.heap/\(∀b∈f,m b=E)/\W C Z m) ?_ bx ⟨0,y,V,aZ,aQ,aK⟩;rintro Z a1 ⟨C,I,aa,a2,a3,bI⟩;obtain⟨stop,bJ⟩|⟨bK,bN,bO,step⟩:=bA C Z I bI;have bP:=D.done (X.blk e y bk o f) a a a aC C [] a1 _ I (λ_ _=>False) aa (au aa a3) a2 stop;refine sD bP λbQ ad ⟨ax,P⟩=>?_;subst ax;have ae:Inv X al J I ad:=G.xP (eZ:=f) P.os P.base P.hok P.fB λb h=>⟨(u b h).1.2.2.2.1,(u b h).1.2.1,(u b h).1.2.2.2.2.1,(u b h).1.2.2.2.2.2⟩;have bR:I e.heap.objs.size=E:=by have s:I o.locals=E:=P.free;rw[Y]at s;exact s
  obtain⟨v,x,_⟩:=P.a6;have x:ad.heap.Ns o.locals v:=x;rw[Y]at x;exact bp n e.heap.objs.size ad v I ae bJ x (G.sg (bC _) bR);have bS:=D.item (X.blk e y bk o f) a a a aC C [] a1 _ I (λ_ _=>False) aa (au aa a3) a2 bK;refine sD bS λbQ ad ⟨bT,ax,bU⟩=>?_;subst ax;refine sD bU λ_ ay ⟨i,a4,ae,bV,bW,az,bX⟩=>?_;refine sD (ao _ ay _ a4 i bT _ (ae.DO (au ae bX) (D.obj _ _ az)) bV (step i a4 bW)) λ_ bY ⟨af,bZ,b0,a7,b1⟩=>?_;refine sD (ap _ bY af bZ _ b0 b1) λb b2 ⟨b3,a9,ai⟩=>?_;have bL:∀{aM:aJ} {m:z},Inv (X.blk e y bk o f) ([]++si f ay.heap) af m aM->bN m->∃v,v<Z/\∃C m,Inv (X.blk e y bk o f) [] (cB J (own.map (·.2))) m aM/\S C aM.heap/\(∀b∈f,m b=E)/\W C v m:=λ{aM m} q bb=>by
   obtain⟨b6,b7,b9⟩:=bO m bb;have a_:∀b∈f,∀p,ay.heap.get? b=j p->aM.heap.get? b=j p/\m b=E:=λb h p k=>
    let s:=q.g_ (b,p) (gH _ (gH _ (x1 h k)))
    ⟨s.1,s.2.1⟩
   refine⟨b6,b7,C+1,m,(q.up (al:=[])).Lu (by rw[<-a7,yC]:(cB J (own.map (·.2))).length=af.length) (λco cp k=>?_),D.keep _ _ _ az λb h p k=>(a_ b h p k).1,λb h=>?_,b9⟩;rw[<-a7]at k;exact(yD k).1;obtain⟨p,k,_⟩:=D.obj _ _ az b h;exact(a_ b h p k).2
  cases b with
  |false=>simp only[kK,ig]at ai|-;exact bL a9 ai
  |true=>
   simp only[kH]at ai|-;have aw:gt (bh X.prog X.w X.K X.mg) ((X.blk e y bk o f).xes (pz (a' X.prog X.w) X.A o λk aM=>sR (a' X.prog X.w) X.A X.xe use lB (.ref n) e.heap.objs.size (.error k) aM)) B:=by intro cq av m aM k b_ q b';refine bi al J m aM k b_ e.heap.objs.size o use lB (.ref n) (G.xP (eZ:=f) q.os q.base q.hok q.fB λb h=>⟨(u b h).1.2.2.2.1,(u b h).1.2.1,(u b h).1.2.2.2.2.1,(u b h).1.2.2.2.2.2⟩:Inv X al J m aM) b' ?_ (λs=>?_) ?_ G.de (by subst aX;rfl);have s:m o.locals=E:=q.free;rw[Y]at s;exact s;obtain⟨_,p,ca,_⟩:=G.stack.mem s;exact nh _ (d_ ca);obtain⟨v,x,_⟩:=q.a6;have x:aM.heap.Ns o.locals v:=x;rw[Y]at x;exact⟨v,x⟩
   refine h_ (ar _ aw _ b2 af b3 _ (a9.xes _) ai) (λs cs ⟨ct,cu,cc,cd,cw,cf,cg,bb⟩=>?_) λ_ _ s=>s;exact Nq (X:=X.blk e y bk o f) cc.u_ cf cg cd λcA ci=>bL ci bb
 exact codeAny_compStart_list a0 (D.self X.A 0 _ _ _ aZ a0)
theorem a8.xes{h:ce}{p:bu}(e:X.xe=λ_ _=>False)(f:a8 X h p):a8 (X.xes xe) h p:=by intro g i k l m n d;refine h_ (f g i k l m n.u_ d) (λb u c=>?_) λ_ _ b=>?_;obtain⟨o,q,r,s,c⟩:=c;exact⟨o,q,r.xes _,s,c⟩;rw[e]at b;exact b.elim
def FW{h:aW}{k cE iter:ce}{o:Pos}{m:TI}{g:f0}{cK:TT}{use:Option (ab->Sem Unit)}{lB:ab->aJ->Prop}(p:X.calm=H)(q:X.N.Nodup)(r:Inv X al J c l)(s:lv X cE iter m)(u:px X.N X.env.scope bk own)(x:∀(l:aJ) (c:z) (ah:t) (aR:List (Str×t)) (b:List t),lu (X.blk l c bk (hc bk aR ah X.env) b) cE g)(y:∀(l:aJ) (c:z) (ah:t) (aR:List (Str×t)) (b:List t),py (X.blk l c bk (hc bk aR ah X.env) b) j_ cK)(C:∀(l:aJ) (c:z) (ah:t) (aR:List (Str×t)) (b:List t),a8 (X.blk l c bk (hc bk aR ah X.env) b) k bj)(D:∀i,sj iter X.env i=pure i)(d:pB m g cK bj (own.map (·.2)) J c h)(F:∀n ah aM v e,Inv X al J e aM->h (.ref n) e->aM.heap.Ns ah v->kA X al e ah->sR (a' X.prog X.w) X.A X.xe use lB (.ref n) ah (.ok .next) aM):
  a5 (a' X.prog X.w) X.A (comprehension (.ListComp k [⟨cE,iter,j_,0⟩] bk aT) bk X.env o (zg []) am (cb iter X.env) use) lB X.xe l:=
 FV (B:=λ_ _ _=>False) p q r s u x y (λ_ _ _ _ _ _ _ _ _ _ _ _ f=>by obtain⟨_,_,_,_,_,_,f,_⟩:=f;exact f.elim) (λl c ah aR b _ _=>(C l c ah aR b).xes a) D d F
def hV{e cE iter:ce}{f:TI}{g:f0}{cK:TT}(h:X.calm=H)(k:X.N.Nodup)(m:lv X cE iter f)(n:px X.N X.env.scope bk own)(o:∀(l:aJ) (c:z) (ah:t) (aR:List (Str×t)) (b:List t),lu (X.blk l c bk (hc bk aR ah X.env) b) cE g)(p:∀(l:aJ) (c:z) (ah:t) (aR:List (Str×t)) (b:List t),py (X.blk l c bk (hc bk aR ah X.env) b) j_ cK)(q:∀(l:aJ) (c:z) (ah:t) (aR:List (Str×t)) (b:List t),a8 (X.blk l c bk (hc bk aR ah X.env) b) e bj)(r:∀i,sj iter X.env i=pure i:=by intro _;rfl):
  a8 X (.ListComp e [⟨cE,iter,j_,0⟩] bk aT) (pB f g cK bj (own.map (·.2))):=by
 intro P l Q c R s d;rw[eval_ListComp];refine FW h k s m n o p q r d λu ah v w x y A B C=>⟨w,B,λS D=>?_⟩;obtain⟨F,G,T,I,J,K⟩:=C;exact⟨.ref u,x,y.je (cX:=v.toks) (λL U M O=>(D.2 L M).trans O) F G I J K,a,A⟩
def sS{k:Nat}{D:Str}{e:Pos}{f cE iter:ce}{p:Pos}{h:TI}{g:f0}{cK:TT}(C:X.calm=H)(q:X.N.Nodup)(F:X.N[k]?=j D)(r:X.env.scope.names.lookup D=j .local)(G:pe (.ListComp f [⟨cE,iter,j_,0⟩] bk aT) (j (.Name D e)) p.line X.env=pure H)(I:lv X cE iter h)(J:px X.N X.env.scope bk own)(K:∀(l:aJ) (c:z) (ah:t) (aR:List (Str×t)) (b:List t),lu (X.blk l c bk (hc bk aR ah X.env) b) cE g)(L:∀(l:aJ) (c:z) (ah:t) (aR:List (Str×t)) (b:List t),py (X.blk l c bk (hc bk aR ah X.env) b) j_ cK)(M:∀(l:aJ) (c:z) (ah:t) (aR:List (Str×t)) (b:List t),a8 (X.blk l c bk (hc bk aR ah X.env) b) f bj)(O:∀i,sj iter X.env i=pure i:=by intro _;rfl):
  fY X (.Assign [.Name D e] (.ListComp f [⟨cE,iter,j_,0⟩] bk aT) p) (se (pB h g cK bj (own.map (·.2))) (d0 k)):=by
 intro P l s c v Q d;rw[Pr _ _ _ _ G];refine bv (xW (bv ?_));show a5 _ X.A (do let _<-comprehension (.ListComp f [⟨cE,iter,j_,0⟩] bk aT) bk X.env (firstIterPos [⟨cE,iter,j_,0⟩] aT) (zg []) am (cb iter X.env) (j (assign (.Name D e) X.env))) _ _ l;refine bv (bB (FW (lB:=λ_ m=>jJ X P v .next m) C q Q I J K L M O (d:pB h g cK bj (own.map (·.2)) s c (λi R=>d0 k i s R v.bb)) λw ah m S T U W Y Z=>?_) λ_ m aa=>c2 (c2 aa));show a5 _ _ (assign (.Name D e) X.env (.ref w)) _ _ _;refine DH (xN (u:=V.ref w) U q F (.inl r) a (λad ae ⟨x,af,ai⟩=>?_) (.inr r));obtain⟨aj,y,au,ak,B,al⟩:=Z;have an:ah≠x:=by obtain n|n:=ai;rw[n];exact y;exactλo=>B D x n o.symm
 refine⟨S,Y.sameBut af an,λav ao=>?_⟩;exact⟨_,T,ae.je (cX:=ad.toks) (λap aw ar o=>(ao.2 ap ar).trans o) aj y ak B al,W⟩
open PySem.W (WData Codec OpenSpec Well WellAll ReadsW ReadsAllW)
mutual
inductive he (K:bG) (c:z):V->WData->Prop
 |aL:he K c .aL .none
 |bl (b:Bool):he K c (.bl b) (.bool b)
 |int (k:Int):he K c (.int k) (.int k)
 |str (i:Str):he K c (.str i) (.str i)
 |iI (b:Array UInt8):he K c (.iI b) (.bytes b.toList)
 |L {e:t} {M:List V} {cu:List WData}:an K c e M->lC K c M cu->he K c (.ref e) (.list cu)
 |aF {e:t} {M:List V} {cu:List WData}:ej K c e M->lC K c M cu->he K c (.ref e) (.tuple cu)
inductive lC (K:bG) (c:z):List V->List WData->Prop
 |nil:lC K c [] []
 |cons {u:V} {G:List V} {aa:WData} {cu:List WData}:he K c u aa->lC K c G cu->lC K c (u::G) (aa::cu)
end
theorem FX:∀b:List Int,lC K c (b.map V.int) (b.map WData.int)
 |[]=>.nil
 |o::d=>.cons (.int o) (FX d)
theorem FY:∀(b:List Int) (M:List V),lC K c M (b.map WData.int)->M=b.map V.int
 |[],M,d=>by cases d;rfl
 |o::e,M,d=>by
  cases d with
  |cons f g=>cases f;rw[FY e _ g]<;>rfl
section
variable{R:Ps}{aR:Str->Option t}
def Pt(h:dK P w c d)(i:K.In d)(ao:an K c e M):∃(b:List ab) (q:Obj) (o:Nat),bW M b/\d.get? e=j q/\q.cls= .type "list"/\q.data= .seq b.toArray o:=by obtain ao|⟨q,b,o,f,k,_,l,_,g⟩:=ao;obtain⟨_,b,o,g,f⟩:=(show ei P w c d e (.L M)from ao.ok h);exact⟨b,_,o,g,f,a,a⟩;exact⟨b.toList,q,o,g,i _ _ f,k,by simp[l]⟩
def Pu(k:dK P w c d)(l:K.In d)(ao:ej K c e M):∃(b:List ab) (q:Obj) (o:Nat),bW M b/\d.get? e=j q/\q.cls= .type "tuple"/\q.data= .seq b.toArray o:=by obtain ao|⟨q,b,o,f,g,h,_,i⟩:=ao;obtain⟨_,b,i,q,f,g,o,h⟩:=(show ei P w c d e (.aF M)from ao.ok k);exact⟨b,q,o,i,f,g,h⟩;exact⟨b.toList,q,o,i,l _ _ f,g,by simp[h]⟩
mutual
theorem he.ox(g:dK P w c d)(h:K.In d):∀(aa:WData) (u:V) (C:ab),he K c u aa->RelV u C->∃i,ReadsW R aR d C aa i
 | .none,_,_,b,e=>by cases b;cases e;exact⟨_,ReadsW.none⟩
 | .bool v,_,_,b,e=>by cases b;cases e;exact⟨_,ReadsW.bool v⟩
 | .int x,_,_,b,e=>by cases b;obtain⟨f,rfl⟩:=e;exact⟨_,ReadsW.int x f⟩
 | .str y,_,_,b,e=>by cases b;obtain⟨f,rfl⟩:=e;exact⟨_,ReadsW.str y f⟩
 | .bytes v,_,_,b,e=>by cases b;obtain⟨f,rfl⟩:=e;exact⟨_,ReadsW.bytes _ f⟩
 | .list k,_,_,b,e=>by
  cases b with
  |L l m=>cases e;obtain⟨n,z,A,o,p,q,r⟩:=Pt g h l;obtain⟨i,s⟩:=he.pt g h k _ n m o;exact⟨_,ReadsW.list p q r s⟩
 | .tuple k,_,_,b,e=>by
  cases b with
  |aF l m=>cases e;obtain⟨n,z,A,o,p,q,r⟩:=Pu g h l;obtain⟨i,s⟩:=he.pt g h k _ n m o;exact⟨_,ReadsW.tuple p q r s⟩
 | .float _,_,_,b,_=>by cases b
 | .dict _,_,_,b,_=>by cases b
 | .bytearray _,_,_,b,_=>by cases b
 | .set _,_,_,b,_=>by cases b
 | .frozenset _,_,_,b,_=>by cases b
 | .obj _ _,_,_,b,_=>by cases b
theorem he.pt(g:dK P w c d)(h:K.In d):∀(b:List WData) (G:List V) (aP:List ab),lC K c G b->bW G aP->∃i,ReadsAllW R aR d aP b i
 |[],_,_,e,f=>by cases e;cases f;exact⟨_,ReadsAllW.nil⟩
 |k::b,_,_,e,f=>by
  cases e with
  |cons l m=>
   cases f with
   |cons n o=>obtain⟨i,p⟩:=he.ox g h k _ _ l n;obtain⟨r,q⟩:=he.pt g h b _ _ m o;exact⟨_,ReadsAllW.cons p q⟩
end
end
mutual
def jQ:WData->Bool
 | .none=>H
 | .bool _=>H
 | .int _=>H
 | .str _=>H
 | .bytes _=>H
 | .list M=>kN M
 | .tuple M=>kN M
 |_=>am
def kN:List WData->Bool
 |[]=>H
 |i::b=>jQ i&&kN b
end
theorem FZ{b:Type}{f:b->WData}(d:∀e,jQ (f e)=H):∀n:List b,kN (n.map f)=H
 |[]=>rfl
 |i::c=>by show(jQ (f i)&&kN (c.map f))=H;rw[d i,FZ d c]<;>rfl
theorem oC:∀(y:Codec) (e:y.denote),jQ (y.enc e)=H
 | .unit,_=>rfl
 | .bool,_=>rfl
 | .int _ _,_=>rfl
 | .nat _ _,_=>rfl
 | .u8,_=>rfl
 | .bytes _ _,_=>rfl
 | .text _ _ _ _,_=>rfl
 | .list _ _ y,e=>FZ (λc=>oC y c) e
 | .pair y b,e=>by show(jQ (y.enc e.1)&&(jQ (b.enc e.2)&&H))=H;rw[oC y e.1,oC b e.2]<;>rfl
 | .triple y b d,e=>by show(jQ (y.enc e.1)&&(jQ (b.enc e.2.1)&&(jQ (d.enc e.2.2)&&H)))=H;rw[oC y e.1,oC b e.2.1,oC d e.2.2]<;>rfl
 | .option y,E=>rfl
 | .option y,j c=>oC y c
theorem F0:∀(b:List Codec) (e:Codec.denoteAll b),kN (Codec.encAll b e)=H
 |[],_=>rfl
 |y::b,e=>by show(jQ (y.enc e.1)&&kN (Codec.encAll b e.2))=H;rw[oC y e.1,F0 b e.2]<;>rfl
theorem zh:∀{M:List WData} {aa:WData},aa∈M->aa.weight<=WData.weightAll M
 |[],aa,d=>aq d (by simp)
 |i::b,aa,d=>by show aa.weight<=i.weight+1+WData.weightAll b;obtain c|e:=bm.mp d;rw[c];omega;have f:=zh e;omega
def io:ab->V
 | .none=>.aL
 | .bool b=>.bl b
 | .int c _=>.int c
 | .str i _=>.str i
 | .bytes b _=>.iI b
 | .ref e=>.ref e
 |_=>.aL
def j'(b:List t):ab->Prop
 | .none=>True
 | .bool _=>True
 | .int _ _=>True
 | .str _ _=>True
 | .bytes _ _=>True
 | .ref e=>e∈b
 |_=>False
variable{A:List t}
def j'.aG{bD:List t}(d:∀e∈A,e∈bD):∀{C:ab},j' A C->j' bD C:=λ{C} b=>by
 cases C with
 |ref e=>exact d e b
 |none=>trivial
 |bool f=>trivial
 |int g c=>trivial
 |str h c=>trivial
 |bytes f c=>trivial
 |_=>exact hu b
def Pw{C:ab}(i:j' A C):RelV (io C) C:=by
 cases C with
 |ref d=>rfl
 |none=>rfl
 |bool c=>rfl
 |int e b=>exact⟨b,a⟩
 |str f b=>exact⟨b,a⟩
 |bytes c b=>exact⟨b,a⟩
 |_=>exact hu i
theorem q2:∀{G:List ab},(∀C∈G,j' A C)->bW (G.map io) G
 |[],_=>.nil
 |C::e,d=>.cons (Pw (d C (b8 ..))) (q2 λb c=>d b (cv _ c))
def kO(d:bM)(c:List t)(e:t):Prop:=∃b:List ab,b.length<=aD/\(∀f∈b,j' c f)/\(d.get? e=j {cls:=.type "list",data:=.seq b.toArray}\/d.get? e=j {cls:=.type "tuple",data:=.seq b.toArray})
theorem kO.aG{bD:List t}(r:∀e∈A,e∈bD)(i:kO d A e):kO d bD e:=by obtain⟨b,c,f,g⟩:=i;exact⟨b,c,λh k=>(f h k).aG r,g⟩
theorem u'{P:oD}:∀{G:List ab} {b:List WData},WellAll P d G b->G.length=b.length
 |_,_,.nil=>rfl
 |_,_,.cons _ c=>by show _+1=_+1;rw[u' c]
variable{cu:List WData}
def F1{P:oD}{u:ab}(i:Well P d u (.list cu)):∃(e:t) (G:List ab),u= .ref e/\d.get? e=j {cls:=.type "list",data:=.seq G.toArray}/\WellAll P d G cu:=by
 cases i with
 |list b c=>exact⟨_,_,a,b,c⟩
def F2{P:oD}{u:ab}(i:Well P d u (.tuple cu)):∃(e:t) (G:List ab),u= .ref e/\d.get? e=j {cls:=.type "tuple",data:=.seq G.toArray}/\WellAll P d G cu:=by
 cases i with
 |tuple b c=>exact⟨_,_,a,b,c⟩
def F3{P:oD}{aP:List ab}{aa:WData}(i:WellAll P d aP (aa::cu)):∃(u:ab) (G:List ab),aP=u::G/\Well P d u aa/\WellAll P d G cu:=by
 cases i with
 |cons b c=>exact⟨_,_,a,b,c⟩
def F4{o:Nat}(d:o<=1048576):o<=aD:=b5 d nofun
section
variable{P:oD}
mutual
theorem Px:∀(aa:WData) (u:ab),Well P d u aa->jQ aa=H->aa.weight<=1048576->∃A:List t,j' A u/\∀e∈A,kO d A e
 | .none,_,c,_,_=>by cases c;exact⟨[],trivial,λe f=>aq f (by simp)⟩
 | .bool g,_,c,_,_=>by cases c;exact⟨[],trivial,λe f=>aq f (by simp)⟩
 | .int y,_,c,_,_=>by cases c;exact⟨[],trivial,λe f=>aq f (by simp)⟩
 | .str z,_,c,_,_=>by cases c;exact⟨[],trivial,λe f=>aq f (by simp)⟩
 | .bytes g,_,c,_,_=>by cases c;exact⟨[],trivial,λe f=>aq f (by simp)⟩
 | .list h,_,c,b,n=>by obtain⟨e,o,rfl,p,k⟩:=F1 c;have l:WData.weightAll h<=1048576:=n;obtain⟨A,q,r⟩:=va h _ k b λaa s=>b5 (zh s) l;have m:∀g∈A,g∈e::A:=λg i=>cv _ i;refine⟨e::A,b8 ..,λg i=>?_⟩;obtain v|f:=bm.mp i;rw[v];exact⟨o,F4 (by rw[u' k];exact b5 (Py h) l),λw x=>(q w x).aG m,.inl p⟩;exact(r g f).aG m
 | .tuple h,_,c,b,n=>by obtain⟨e,o,rfl,p,k⟩:=F2 c;have l:WData.weightAll h<=1048576:=n;obtain⟨A,q,r⟩:=va h _ k b λaa s=>b5 (zh s) l;have m:∀g∈A,g∈e::A:=λg i=>cv _ i;refine⟨e::A,b8 ..,λg i=>?_⟩;obtain v|f:=bm.mp i;rw[v];exact⟨o,F4 (by rw[u' k];exact b5 (Py h) l),λw x=>(q w x).aG m,.inr p⟩;exact(r g f).aG m
 | .float _,_,_,b,_=>j9 (show am=H from b)
 | .dict _,_,_,b,_=>j9 (show am=H from b)
 | .bytearray _,_,_,b,_=>j9 (show am=H from b)
 | .set _,_,_,b,_=>j9 (show am=H from b)
 | .frozenset _,_,_,b,_=>j9 (show am=H from b)
 | .obj _ _,_,_,b,_=>j9 (show am=H from b)
theorem va:∀(cu:List WData) (G:List ab),WellAll P d G cu->kN cu=H->(∀aa∈cu,aa.weight<=1048576)->∃A:List t,(∀C∈G,j' A C)/\∀e∈A,kO d A e
 |[],_,h,_,_=>by cases h;exact⟨[],λC b=>aq b (by simp),λe b=>aq b (by simp)⟩
 |aa::cu,_,h,o,k=>by obtain⟨p,G,rfl,q,r⟩:=F3 h;have l:jQ aa=H/\kN cu=H:=Pz.mp o;obtain⟨A,s,u⟩:=Px aa p q l.1 (k aa (b8 ..));obtain⟨g,v,w⟩:=va cu G r l.2 λi x=>k i (cv _ x);have m:∀c∈A,c∈A++g:=λc f=>bE.mpr (.inl f);have n:∀c∈g,c∈A++g:=λc f=>bE.mpr (.inr f);refine⟨A++g,λC y=>?_,λc f=>?_⟩;obtain i|b:=bm.mp y;rw[i];exact s.aG m;exact(v C b).aG n;obtain b|b:=bE.mp f;exact(u c b).aG m;exact(w c b).aG n
end
end
noncomputable def vb(q:Obj):Option aC:=match q.data with
 | .seq b _=>if(q.cls==jb "list")=H then j (.ci q (.L (b.toList.map io)))else j (.ci q (.aF (b.toList.map io)))
 |_=>E
noncomputable def hf(K:bG)(d:bM)(c:List t):z:=λb=>if b∈c then(if(K.lookup b).isNone=H then(d.get? b).bind vb else E)else E
def sT(c:z):Prop:=∀b,c b=E\/∃d e,c b=j (.ci d e)
def F5(G:List ab):vb {cls:=.type "list",data:=.seq G.toArray}=j (.ci {cls:=.type "list",data:=.seq G.toArray} (.L (G.map io))):=by show(if(jb "list"==jb "list")=H then j (aC.ci {cls:=.type "list",data:=.seq G.toArray} (.L (G.toArray.toList.map io)))else j (aC.ci {cls:=.type "list",data:=.seq G.toArray} (.aF (G.toArray.toList.map io))))=_;rw[as (le _)]
def F6(G:List ab):vb {cls:=.type "tuple",data:=.seq G.toArray}=j (.ci {cls:=.type "tuple",data:=.seq G.toArray} (.aF (G.map io))):=by show(if(jb "tuple"==jb "list")=H then j (aC.ci {cls:=.type "tuple",data:=.seq G.toArray} (.L (G.toArray.toList.map io)))else j (aC.ci {cls:=.type "tuple",data:=.seq G.toArray} (.aF (G.toArray.toList.map io))))=_;rw[ag nofun]
def vc{b:t}{q:Obj}(c:b∈A)(e:K.lookup b=E)(h:d.get? b=j q):hf K d A b=vb q:=by delta hf;rw[as c,e,as (show(E:Option Obj).isNone=H from rfl),h]<;>rfl
def PA{b:t}{C:aC}(ao:hf K d A b=j C):b∈A/\K.lookup b=E:=by
 unfold hf at ao;by_cases c:b∈A;rw[as c]at ao;cases e:K.lookup b with
 |none=>exact⟨c,a⟩
 |some f=>rw[e,ag (by simp)]at ao;cases ao
 rw[ag c]at ao;cases ao
def vd(h:∀e∈A,kO d A e){b:t}{C:aC}(ao:hf K d A b=j C):K.lookup b=E/\∃G:List ab,G.length<=aD/\(∀C∈G,j' A C)/\((d.get? b=j {cls:=.type "list",data:=.seq G.toArray}/\C= .ci {cls:=.type "list",data:=.seq G.toArray} (.L (G.map io)))\/(d.get? b=j {cls:=.type "tuple",data:=.seq G.toArray}/\C= .ci {cls:=.type "tuple",data:=.seq G.toArray} (.aF (G.map io)))):=by obtain⟨f,g⟩:=PA ao;obtain⟨G,i,k,l⟩:=h b f;refine⟨g,G,i,k,?_⟩;obtain c|c:=l;rw[vc f g c,F5]at ao;exact .inl ⟨c,(dP ao).symm⟩;rw[vc f g c,F6]at ao;exact .inr ⟨c,(dP ao).symm⟩
def PB(c:∀e∈A,kO d A e):sT (hf K d A):=λf=>by
 cases g:hf K d A f with
 |none=>exact .inl a
 |some h=>obtain⟨_,i,_,_,⟨_,b⟩|⟨_,b⟩⟩:=vd c g;exact .inr ⟨_,_,by rw[b]⟩;exact .inr ⟨_,_,by rw[b]⟩
def PC(h:∀e∈A,kO d A e):dK P w (hf K d A) d:=λk l i=>by obtain⟨_,c,f,g,⟨b,rfl⟩|⟨b,rfl⟩⟩:=vd h i;exact⟨b,by rw[aV];exact f,c,_,q2 g,b⟩;exact⟨b,by rw[aV];exact f,c,q2 g,_,b,a,_,a⟩
def ve{y b:ab}{G aP:List ab}(h:(j {cls:=y,data:=.seq G.toArray}:Option Obj)=j {cls:=b,data:=.seq aP.toArray}):y=b/\G=aP:=by have c:=dP h;have d:zi G.toArray=zi aP.toArray:=dZ Obj.data c;injection d with e;refine⟨(dZ Obj.cls c:y=b),?_⟩;simpa using(dZ LN e)
def PD(l:K.In d)(m:∀e∈A,kO d A e){G:List ab}(f:e∈A)(h:d.get? e=j {cls:=.type "list",data:=.seq G.toArray}):(∀C∈G,j' A C)/\an K (hf K d A) e (G.map io):=by
 obtain⟨g,n,i,o⟩:=m e f;have p:g=G:=by obtain b|b:=o;rw[h]at b;exact(ve b).2.symm;rw[h]at b;exact aq (PE (ve b).1) nofun
 subst p;refine⟨i,?_⟩;cases c:K.lookup e with
 |none=>exact .inl (.inr ⟨_,by rw[vc f c h,F5]⟩)
 |some q=>have k:=l e q c;rw[h]at k;obtain rfl:=dP k;exact .inr ⟨_,g.toArray,_,c,a,a,a,by rw[eO];exact n,by simpa using q2 i⟩
def PF(l:K.In d)(m:∀e∈A,kO d A e){G:List ab}(f:e∈A)(h:d.get? e=j {cls:=.type "tuple",data:=.seq G.toArray}):(∀C∈G,j' A C)/\ej K (hf K d A) e (G.map io):=by
 obtain⟨g,n,i,o⟩:=m e f;have p:g=G:=by obtain b|b:=o;rw[h]at b;exact aq (PE (ve b).1) nofun;rw[h]at b;exact(ve b).2.symm
 subst p;refine⟨i,?_⟩;cases c:K.lookup e with
 |none=>exact .inl (.inr ⟨_,by rw[vc f c h,F6]⟩)
 |some q=>have k:=l e q c;rw[h]at k;obtain rfl:=dP k;exact .inr ⟨_,g.toArray,_,c,a,a,by rw[eO];exact n,by simpa using q2 i⟩
mutual
theorem PG{q:oD}(g:K.In d)(h:∀e∈A,kO d A e):∀(aa:WData) (u:ab),Well q d u aa->jQ aa=H->j' A u->he K (hf K d A) (io u) aa
 | .none,_,f,_,_=>by cases f;exact .aL
 | .bool i,_,f,_,_=>by cases f;exact .bl i
 | .int r,_,f,_,_=>by cases f;exact .int r
 | .str s,_,f,_,_=>by cases f;exact .str s
 | .bytes i,_,f,_,_=>by cases f;exact he.iI (K:=K) (c:=hf K d A) i.toArray
 | .list k,_,f,b,l=>by obtain⟨e,v,rfl,m,n⟩:=F1 f;obtain⟨o,p⟩:=PD g h l m;exact .L p (vf g h k _ n b o)
 | .tuple k,_,f,b,l=>by obtain⟨e,v,rfl,m,n⟩:=F2 f;obtain⟨o,p⟩:=PF g h l m;exact .aF p (vf g h k _ n b o)
 | .float _,_,_,b,_=>j9 (show am=H from b)
 | .dict _,_,_,b,_=>j9 (show am=H from b)
 | .bytearray _,_,_,b,_=>j9 (show am=H from b)
 | .set _,_,_,b,_=>j9 (show am=H from b)
 | .frozenset _,_,_,b,_=>j9 (show am=H from b)
 | .obj _ _,_,_,b,_=>j9 (show am=H from b)
theorem vf{k:oD}(c:K.In d)(f:∀e∈A,kO d A e):∀(cu:List WData) (G:List ab),WellAll k d G cu->kN cu=H->(∀C∈G,j' A C)->lC K (hf K d A) (G.map io) cu
 |[],_,b,_,_=>by cases b;exact .nil
 |g::cu,_,b,l,h=>by obtain⟨m,G,rfl,n,o⟩:=F3 b;have i:jQ g=H/\kN cu=H:=Pz.mp l;exact .cons (PG c f g m n i.1 (h _ (b8 ..))) (vf c f cu G o i.2 λC p=>h C (cv _ p))
end
def PH(d:WData.layableAll cu=H):∀aa∈cu,aa.weight<=1048576:=λaa b=>(PySem.W.layableW_iff.mp (l4.mp d aa b)).2.2
theorem F7:∀(b:List Codec) (e:Codec.denoteAll b),(Codec.encAll b e).length=b.length
 |[],_=>rfl
 |y::b,e=>by show(Codec.encAll b e.2).length+1=b.length+1;rw[F7 b e.2]
structure vg (K:bG) (cL:z) (P:cN) (w:cr):Prop where
 ci:∀e C,cL e=j C->∃q u,C= .ci q u/\K.lookup e=j q/\q.cls≠.type "list"
 ok:∀(c:z) (d:bM),K.In d->(∀e C,cL e=j C->c e=j C)->∀e C,cL e=j C->ei P w c d e C
 g:cL oe=E
 b:cL xI=E
 y:cL cStatics=E
noncomputable def fH(K:bG)(cL:z):bG:=K.filter λb=>(cL b.1).isNone
theorem q3(cL:z)(e:t):∀K:bG,(fH K cL).lookup e=if(cL e).isNone=H then K.lookup e else E
 |[]=>by delta fH;simp
 |(d,i)::h=>by have c:=q3 cL e h;unfold fH at c|-;rw[lc];by_cases g:e=d;subst g;by_cases b:(cL e).isNone=H;rw[as b,as b];simp[on];rw[ag b,c,ag b,ag b];have f:(e==d)=am:=fl.mpr g;by_cases b:(cL d).isNone=H;rw[as b,ny,f,ny,f];exact c;rw[ag b,c,ny,f]
variable{cL:z}
def PI(X:K.In d):(fH K cL).In d:=λc e b=>by rw[q3]at b;split at b;exact X c e b;cases b
def hg(cL c:z):z:=λb=>match cL b with
 |some d=>j d
 |none=>c b
def vh{C:aC}(d:cL e=j C):hg cL c e=j C:=by unfold hg;rw[d]
def pI(d:cL e=E):hg cL c e=c e:=by unfold hg;rw[d]
def PJ(ah:vg K cL P w)(n:∀b C,c b=j C->K.lookup b=E)(d:an K c e M):an (fH K cL) (hg cL c) e M:=by
 have i:(∃C,c e=j C)->cL e=E:=λ⟨C,o⟩=>by
  cases g:cL e with
  |none=>rfl
  |some h=>obtain⟨k,p,_,f,_⟩:=ah.ci e h g;rw[n e C o]at f;cases f
 obtain d|⟨k,q,r,l,m,s⟩:=d;left;have u:cL e=E:=by obtain d|⟨_,d⟩:=d;exact i ⟨_,d⟩;exact i ⟨_,d⟩
 delta bA;rw[pI u];exact d;right;refine⟨k,q,r,?_,m,s⟩;rw[q3];cases g:cL e with
 |none=>exact l
 |some h=>obtain⟨x,p,_,f,v⟩:=ah.ci e h g;rw[l]at f;cases f;exact aq m v
def PK{J:Str->Option ab}{cc:hz}{Y:t}{Z:hQ}{aZ:List Str}{b0:f2}{d:aJ}{n:List ab}{R:Ps}{aR:Str->Option t}{vi:WData}(ah:vg K cL P w)(B:K.In d.heap)(ad:d.heap.Ns oe mg)(L:d.heap.Ns xI J)(az:∀i:Str,i≠"__name__"->J i=uc i)(aA:d.heap.NoLimit)(aB:d.gens= #[])(N:WellAll w.params d.heap n cu)(ae:kN cu=H)(aC:∀aa∈cu,aa.weight<=1048576)(aE:cV r vj)(F:∀O:bM,(fH K cL).In O->O.Ns oe mg->bd P w (fH K cL) mg O cc r Y Z aZ b0)(aF:∀(l:aJ) (aP:List ab),aP.length=aZ.length->yf l Z ⟨aP,[]⟩ (aZ.zip aP))(aG:cu.length=aZ.length)(aH:∀(c:z) (M:List V),sT c->(∀b C,c b=j C->K.lookup b=E)->lC K c M cu->b0 M (hg cL c) (λu af=>he (fH K cL) af u vi) λ_ _ _=>False)(aI:∀c h aM,cc [] c d (λ_ _ _=>False) h aM->False):
  qL (a' P w) vj (.call (.ref Y) ⟨n,[]⟩) (λs aM=>∃C Q,s= .ok (.ret C)/\ReadsW R aR aM.heap C vi Q/\OldK d.heap aM.heap/\aM.os=d.os/\nk aM.gens) d:=by
 obtain⟨v,ai,A⟩:=va cu n N ae aC;have S:sT (hf K d.heap v):=PB A;have aj:dK P w (hf K d.heap v) d.heap:=PC A;have ak:=vf B A cu n N ae ai;have D:∀b C,hf K d.heap v b=j C->K.lookup b=E:=λb C k=>(vd A k).1;have al:∀{b:t} {e:Obj} {o:Array iL} {p:Nat},d.heap.get? b=j e->e.data= .dict o p->hf K d.heap v b=E:=λ{b e o p} h aa=>by
  cases k:hf K d.heap v b with
  |none=>rfl
  |some C=>obtain⟨_,an,_,_,⟨q,_⟩|⟨q,_⟩⟩:=vd A k;rw[q]at h;cases h;have T:zi an.toArray _=Data.dict o p:=aa;cases T;rw[q]at h;cases h;have T:zi an.toArray _=Data.dict o p:=aa;cases T
 have ao:=aH (hf K d.heap v) _ S D ak;generalize hf K d.heap v=m at S aj ak D al ao;have U:∀b C,m b=j C->cL b=E:=λb C h=>by
  cases k:cL b with
  |none=>rfl
  |some u=>obtain⟨e,ap,_,q,_⟩:=ah.ci b u k;rw[D b C h]at q;cases q
 have only:sT (hg cL m):=λb=>by
  cases k:cL b with
  |some u=>obtain⟨e,ap,G,_⟩:=ah.ci b u k;exact .inr ⟨e,ap,by rw[vh k,G]⟩
  |none=>rw[pI k];exact S b
 have ar:dK P w (hg cL m) d.heap:=λW e h=>by
  cases k:cL W with
  |some u=>rw[vh k]at h;cases h;exact ah.ok _ _ B (λb C f=>vh f) W _ k
  |none=>
   rw[pI k]at h;refine(aj W e h).ku (λb C _ f=>f) (λb f=>by rw[pI (U b _ f)];exact f) λb M f=>?_;have x:cL b=E:=by obtain f|⟨_,f⟩:=f;exact U b _ f;exact U b _ f
   delta bA;rw[pI x];exact f
 have aK:∀{b:t} {e:Obj} {o:Array iL} {p:Nat},cL b=E->d.heap.get? b=j e->e.data= .dict o p->hg cL m b=E:=λ{b e o p} x h aa=>by rw[pI x];exact al h aa
 have I:∀{b:t} {X:Str->Option ab},cL b=E->d.heap.Ns b X->(od d.heap (hg cL m)).Ns b X:=λ{b X} x ⟨e,o,p,h,aa,s⟩=>⟨e,o,p,Dm h (aK x h aa),aa,s⟩;have au:(fH K cL).In (od d.heap (hg cL m)):=λb e h=>by
  rw[q3]at h;split at h;rename_i x;refine Dm (B b e h) ?_;rw[pI (Option.isNone_iff_eq_none.mp x:cL b=E)];cases k:m b with
  |none=>rfl
  |some C=>rw[D b C k]at h;cases h
  cases h
 have aL:Mod (fH K cL) mg (od d.heap (hg cL m)):=⟨au,I ah.g ad,⟨J,I ah.b L,az⟩,let⟨aN,aQ,aT⟩:=aA;⟨aN,I ah.y aQ,aT⟩⟩;have aW:n.length=aZ.length:=by rw[u' N];exact aG
 refine ux ((F _ au (I ah.g ad)).run vj [] d (hg cL m) ⟨n,[]⟩ n (n.map io) _ _ aE (⟨a,aL,λb e h=>Lp h,yb (Lo _ _),trivial,λb L=>aq (show b∈([]:List t)from L) (by simp),ar,.of_eq aB⟩:po P w (fH K cL) mg (od d.heap (hg cL m)) vj [] d (hg cL m)) (aF d n aW) (q2 ai) ao) λs aM i=>?_;cases s with
 |error h=>exact(aI (hg cL m) h aM i).elim
 |ok aX=>
  cases aX with
  |next=>exact hu i
  |brk=>exact hu i
  |cont=>exact hu i
  |ret C=>
   obtain⟨u,af,os,aY,av,aw,a0,k⟩:=i;have ax:∀b e,d.heap.get? b=j e->aM.heap.get? b=j e:=λb e h=>by
    cases ay:hg cL m b with
    |none=>exact av.keep b e h ay (by intro f;exact aq (show b∈([]:List t)from f) (by simp)) (by simp)
    |some a4=>obtain f|⟨a1,a6,f⟩:=only b;rw[ay]at f;cases f;have a2:=av.frzs b a1 _ f;obtain⟨G,_⟩:=ar b _ f;obtain⟨q,_⟩:=aw b _ a2;rw[h]at G;cases G;exact q
   obtain⟨Q,a3⟩:=he.ox (R:=R) (aR:=aR) aw (λb e h=>ax b e (PI B b e h):(fH K cL).In aM.heap) vi u C k a0;exact⟨C,Q,a,a3,OldK.of_keep ax,os,aY⟩
def PL{s:OpenSpec}{ao:cN}{x:List Str}{y:(Str->Option ab)->bM->Prop}{m:cr->bM->Prop}{aa:DefRec}{K:oD->bG}{cL:cr->z}{cc:cr->(Str->Option ab)->hz}{aZ:List Str}{b0:cr->f2}(A:s.wellSaid=H)(ay:aa.params.defaults=[])(B:s.args.length=aZ.length)(D:cV r vj)(I:∀(w:cr) (d:bM),m w d->(K w.params).In d)(J:∀w:cr,vg (K w.params) (cL w) s.prog w)(F:∀(w:cr) (mg:Str->Option ab) (k:t) (d:bM),m w d->(K w.params).In d->d.Ns oe mg->mg aa.name=j (.ref k)->∃n:hQ,(∀(l:aJ) (aP:List ab),aP.length=aZ.length->yf l n ⟨aP,[]⟩ (aZ.zip aP))/\∀o:bM,(fH (K w.params) (cL w)).In o->o.Ns oe mg->bd s.prog w (fH (K w.params) (cL w)) mg o (cc w mg) r k n aZ (b0 w))(L:∀(w:cr) (c:z) (M:List V) (e:Codec.denoteAll s.args),sT c->(∀b C,c b=j C->(K w.params).lookup b=E)->Codec.withinAll s.args e=H->Codec.app s.args s.asked e=H->lC (K w.params) c M (Codec.encAll s.args e)->b0 w M (hg (cL w) c) (λu N=>he (fH (K w.params) (cL w)) N u (s.ret.enc (Codec.app s.args s.f e))) λ_ _ _=>False)(O:∀(w:cr) (mg:Str->Option ab) (c:z) (l:aJ) (h:ab) (aM:aJ),cc w mg [] c l (λ_ _ _=>False) h aM->False):
  PM ao x y m s aa [] (λf G=>PySem.call f G):=by
 intro w P Q mg az i p k aA aB aC doc aE c9 aF aG aH aI S U args aK aL X Y aN Z aQ;obtain⟨e,ad,ae⟩:=PySem.W.os_pre_some X;obtain⟨af,q⟩:=Codec.encAll_of_decAll s.args args e ad;subst af;have v:=I w _ p;obtain⟨n,ah,ai⟩:=F w mg k _ p v i.T.g S;refine PySem.W.enter_call (ux (PK (R:=[]) (aR:=classAt P.heap) (vi:=s.ret.enc (Codec.app s.args s.f e)) (J w) v i.T.g i.T.b i.T.builtins i.T.nolimit U Z (F0 _ _) (PH Y) D ai ah (by rw[F7];exact B) (λc M aj ak al=>L w c M e aj ak q ae al) λc h aM=>O w mg c Q h aM) λaT aM an=>?_);obtain⟨C,ap,rfl,ar,au,av,aw⟩:=an;exact⟨.inl ⟨C,_,ap,a,λ_=>rfl,ar,(OpenSpec.post_iff A q _ _).mpr a,λax=>j9 (show am=H from ax)⟩,au,av,aw⟩
end bT
namespace bT
open PySem PySem.Spec PyProof.Rows
variable{K:bG}{e:t}
def PN{M:List V}{g:f0}{cK:TT}{bj:bu}{G:List Nat}{n:St}{s:z}{h:t}{u:z->Prop}(Pv:Nat->z->Prop)(x:Pv 0 (U s h (.L [])))(y:∀k c,k<=M.length->Pv k c->an K c e M)(A:∀k i T c,M[k]?=j i->Pv k c->c T=E->g (.ref T) (cB n G) (U c T (.aF [.int (k:Nat),i])) λd o=>cB d G=cB n G/\cK d o λb l=>if b=H then bj d l λD m=>∃a9,m h=j (.L a9)/\a9.length<aD/\Pv (k+1) (U m h (.L (a9++[D])))else Pv (k+1) l)(B:∀c,Pv M.length c->u c):
  ∃W:Nat->Nat->z->Prop,(∃v,W 0 v (U s h (.L [])))/\∀k v c,W k v c->((oA K e).stop k c/\u c)\/((oA K e).go k c/\∃p:z->Prop,(∀f,p f->∃bH,bH<v/\W (k+1) bH f)/\∀i f,(oA K e).jh k c i f->g i (cB n G) f λd o=>cB d G=cB n G/\cK d o λb l=>if b=H then bj d l λD m=>∃a9,m h=j (.L a9)/\a9.length<aD/\p (U m h (.L (a9++[D])))else p l):=by
 refine⟨λk v c=>v=M.length-k/\k<=M.length/\Pv k c,⟨M.length,by simp,dC _,x⟩,?_⟩;rintro k v c ⟨rfl,C,q⟩;have r:=y k c C q;by_cases w:k<M.length;refine .inr ⟨⟨M,M[k],r,by simp[w]⟩,Pv (k+1),λf F=>⟨M.length-(k+1),by omega,a,w,F⟩,λi f D=>?_⟩;obtain⟨T,I,J,N,O,P⟩:=D;subst J O;exact A k I T _ (P M r) q N;have Q:k=M.length:=by omega
 subst Q;exact .inl ⟨⟨M,r,bC _⟩,B c q⟩
def F8{i:Str}{g:f0}{cl:dz}{f:Ends}{b:St}{c:z}(Pv:Nat->St->z->Prop)(q:Pv 0 b c)(r:∀k y b c,i.cps[k]?=j y->Pv k b c->g (.str ⟨#[y]⟩) b c λh l=>cl ⟨λe d=>Pv (k+1) e d,f.lp,f.bb,λe d=>Pv (k+1) e d⟩ h l)(s:∀b c,Pv i.cps.size b c->f.bb b c):
  ∃W:Nat->Nat->St->z->Prop,(∃v,W 0 v b c)/\∀k v b c,W k v b c->((oz i).stop k c/\f.bb b c)\/((oz i).go k c/\∃m:St->z->Prop,(∀e d,m e d->∃bH,bH<v/\W (k+1) bH e d)/\∀u d,(oz i).jh k c u d->g u b d λh l=>cl ⟨m,f.lp,f.bb,m⟩ h l):=by
 refine⟨λk v b c=>v=i.cps.size-k/\k<=i.cps.size/\Pv k b c,⟨i.cps.size,by simp,dC _,q⟩,?_⟩;rintro k v b c ⟨rfl,C,o⟩;by_cases p:k<i.cps.size;refine .inr ⟨p,Pv (k+1),λe d w=>⟨i.cps.size-(k+1),by omega,a,p,w⟩,λu d x=>?_⟩;obtain⟨n,y,A,B⟩:=x;subst n B;exact r k y b _ A o;have n:k=i.cps.size:=by omega
 subst n;exact .inl ⟨bC _,s b c o⟩
def Q.new{c b:z}{m:t}{q:aC}(h:Q c b)(g:b m=E):Q c (U b m q):=λd e f=>by rw[aH (ew (h d e f) g)];exact h d e f
def Q.bK{c b:z}{m:t}{q:aC}(h:Q c b)(e:c m=E):Q c (U b m q):=λf g d=>by rw[aH (ew d e)];exact h f g d
def Q.id(c:z):Q c c:=λ_ _ b=>b
def Q.fresh{c:z}{m:t}{q:aC}(b:c m=E):Q c (U c m q):=(Q.id c).new b
inductive br {a3 dG:Type} (R:a3->dG->Prop):List a3->List dG->Prop
 |nil:br R [] []
 |cons {e:a3} {b:dG} {n:List a3} {v:List dG}:R e b->br R n v->br R (e::n) (b::v)
variable{a3 dG:Type}
theorem br.snoc{R:a3->dG->Prop}{e:a3}{b:dG}:∀{n:List a3} {v:List dG},br R n v->R e b->br R (n++[e]) (v++[b])
 |_,_,.nil,c=>.cons c .nil
 |_,_,.cons d f,c=>.cons d (f.snoc c)
theorem br.aG{R S:a3->dG->Prop}(f:∀e b,R e b->S e b):∀{n:List a3} {v:List dG},br R n v->br S n v
 |_,_,.nil=>.nil
 |_,_,.cons c d=>.cons (f _ _ c) (d.aG f)
theorem br.length{R:a3->dG->Prop}:∀{n:List a3} {v:List dG},br R n v->n.length=v.length
 |_,_,.nil=>rfl
 |_,_,.cons _ b=>by rw[cy,cy,b.length]
theorem br.get{R:a3->dG->Prop}:∀{n:List a3} {v:List dG} {k:Nat} {e:a3},br R n v->n[k]?=j e->∃b,v[k]?=j b/\R e b
 |_,_,_,_,.nil,c=>by simp at c
 |_,_,0,_,.cons d f,c=>by simp at c;subst c;exact⟨_,a,d⟩
 |_,_,k+1,e,.cons d f,c=>by obtain⟨b,g,h⟩:=br.get (k:=k) (e:=e) f (by simpa using c);exact⟨b,by simpa using g,h⟩
theorem br.fq{R:a3->dG->Prop}:∀{n:List a3} {v:List dG} {k:Nat} {b:dG},br R n v->v[k]?=j b->∃e,n[k]?=j e/\R e b
 |_,_,_,_,.nil,c=>by simp at c
 |_,_,0,_,.cons d f,c=>by simp at c;subst c;exact⟨_,a,d⟩
 |_,_,k+1,b,.cons d f,c=>by obtain⟨e,g,h⟩:=br.fq (k:=k) (b:=b) f (by simpa using c);exact⟨e,by simpa using g,h⟩
theorem br.append{R:a3->dG->Prop}:∀{n c:List a3} {v bH:List dG},br R n v->br R c bH->br R (n++c) (v++bH)
 |_,_,_,_,.nil,b=>b
 |_,_,_,_,.cons d e,b=>.cons d (e.append b)
theorem br.map{f:a3->dG}:∀{n:List a3} {v:List dG},br (λe b=>b=f e) n v->v=n.map f
 |_,_,.nil=>rfl
 |_,_,.cons c d=>by rw[c,d.map,bz]
def vk(aQ:Nat->Option dG)(k:Nat):(er (k+1)).filterMap aQ=(er k).filterMap aQ++(aQ k).toList:=by rw[F9,List.filterMap_append];cases b:aQ k<;>simp[b]
def ip(aQ:Nat->Option dG)(k:Nat):((er k).filterMap aQ).length<=k:=by refine b5 (hW _ _) ?_;rw[zj];exact bC _
section
variable{R:z->dG->V->Prop}{aQ:Nat->Option dG}{g:f0}{cK:TT}{bj:bu}{G:List Nat}{J:St}{eY:z}{bs:t}{q4:z->Prop}
def hA(R:z->dG->V->Prop)(aQ:Nat->Option dG)(d:z)(e:t)(k:Nat)(c:z):Prop:=Q d c/\∃b,c e=j (.L b)/\br (R c) ((er k).filterMap aQ) b
def hA.sU{k o:Nat}{e:z}(s:∀c e b u,Q c e->R c b u->R e b u)(own:∀c b u q,c bs=j q->(∃aN,q= .L aN)->R c b u->∀aN,R (U c bs (.L aN)) b u)(y:k<o)(A:o<aD)(w:eY bs=E)(m:hA R aQ eY bs k e):
  (∀D d g,Q e d->aQ k=j g->R d g D->∃a9,d bs=j (.L a9)/\a9.length<aD/\hA R aQ eY bs (k+1) (U d bs (.L (a9++[D]))))/\(aQ k=E->∀i,Q e i->hA R aQ eY bs (k+1) i):=by
 obtain⟨v,aN,h,l⟩:=m;refine⟨λD d g f n x=>⟨aN,f _ _ h,?_,(v.trans f).bK w,aN++[D],aw,?_⟩,λn i p=>⟨v.trans p,aN,p _ _ h,?_⟩⟩;rw[<-l.length];have:=ip aQ k;omega;rw[vk,n];exact(l.aG λb u r=>own d b u _ (f _ _ h) ⟨_,a⟩ (s _ _ _ _ f r) _).snoc (own d g D _ (f _ _ h) ⟨_,a⟩ x _);rw[vk,n];simp only[Option.toList_none,fT];exact l.aG λb u r=>s _ _ _ _ p r
def hA.zero(b:eY bs=E):hA R aQ eY bs 0 (U eY bs (.L [])):=⟨Q.fresh b,[],aw,.nil⟩
def iN{M:List V}(y:∀c d b u,Q c d->R c b u->R d b u)(own:∀c b u q,c bs=j q->(∃aN,q= .L aN)->R c b u->∀aN,R (U c bs (.L aN)) b u)(A:∀d,Q eY d->an K d e M)(B:M.length<aD)(p:eY bs=E)(C:∀k i d (r:V->z->Prop) (s:z->Prop),M[k]?=j i->Q eY d->(∀D l w,Q d l->aQ k=j w->R l w D->r D l)->(aQ k=E->∀f,Q d f->s f)->g i (cB J G) d λh n=>cB h G=cB J G/\cK h n λb f=>if b=H then bj h f r else s f)(F:∀d aN,Q eY d->d bs=j (.L aN)->br (R d) ((er M.length).filterMap aQ) aN->q4 d):
  ∃W:Nat->Nat->z->Prop,(∃v,W 0 v (U eY bs (.L [])))/\∀k v c,W k v c->((jM K e).stop k c/\q4 c)\/((jM K e).go k c/\∃o:z->Prop,(∀d,o d->∃bH,bH<v/\W (k+1) bH d)/\∀i d,(jM K e).jh k c i d->g i (cB J G) d λh n=>cB h G=cB J G/\cK h n λb f=>if b=H then bj h f λD l=>∃a9,l bs=j (.L a9)/\a9.length<aD/\o (U l bs (.L (a9++[D])))else o f):=by
 refine Nu (K:=K) (e:=e) (M:=M) (hA R aQ eY bs) (hA.zero p) (λk d _ m=>A d m.1) (λk i d x m=>?_) λd ⟨I,aN,N,O⟩=>F d aN I N O;have P:k<M.length:=(es.mp x).1;obtain⟨S,T⟩:=m.sU y own P B p;exact C k i d _ _ x m.1 S T
def F_{M:List V}(x:∀c d b u,Q c d->R c b u->R d b u)(own:∀c b u q,c bs=j q->(∃aN,q= .L aN)->R c b u->∀aN,R (U c bs (.L aN)) b u)(N:∀d,Q eY d->an K d e M)(O:M.length<aD)(y:eY bs=E)(P:∀k i T d (A:V->z->Prop) (B:z->Prop),M[k]?=j i->Q eY d->d T=j (.aF [.int (k:Nat),i])->(∀D l C,Q d l->aQ k=j C->R l C D->A D l)->(aQ k=E->∀f,Q d f->B f)->g (.ref T) (cB J G) d λh m=>cB h G=cB J G/\cK h m λb f=>if b=H then bj h f A else B f)(S:∀d aN,Q eY d->d bs=j (.L aN)->br (R d) ((er M.length).filterMap aQ) aN->q4 d):
  ∃W:Nat->Nat->z->Prop,(∃v,W 0 v (U eY bs (.L [])))/\∀k v c,W k v c->((oA K e).stop k c/\q4 c)\/((oA K e).go k c/\∃n:z->Prop,(∀d,n d->∃bH,bH<v/\W (k+1) bH d)/\∀i d,(oA K e).jh k c i d->g i (cB J G) d λh m=>cB h G=cB J G/\cK h m λb f=>if b=H then bj h f λD l=>∃a9,l bs=j (.L a9)/\a9.length<aD/\n (U l bs (.L (a9++[D])))else n f):=by
 refine PN (K:=K) (e:=e) (M:=M) (hA R aQ eY bs) (hA.zero y) (λk d _ o=>N d o.1) (λk i T d F o X=>?_) λd ⟨p,aN,r,s⟩=>S d aN p r s;have Y:k<M.length:=(es.mp F).1;have w:Q d (U d T (.aF [.int (k:Nat),i])):=Q.fresh X;have I:hA R aQ eY bs k (U d T (.aF [.int (k:Nat),i])):=let⟨p,aN,r,s⟩:=o;⟨p.trans w,aN,w _ _ r,s.aG λb u Z=>x _ _ _ _ w Z⟩
 obtain⟨aa,ad⟩:=I.sU x own Y O y;exact P k i T _ _ _ F I.1 aw aa ad
def PO{lo:Int}{o:Nat}(y:∀c d b u,Q c d->R c b u->R d b u)(own:∀c b u q,c bs=j q->(∃aN,q= .L aN)->R c b u->∀aN,R (U c bs (.L aN)) b u)(A:o<aD)(n:eY bs=E)(B:∀k d (p:V->z->Prop) (r:z->Prop),k<o->Q eY d->(∀D h s,Q d h->aQ k=j s->R h s D->p D h)->(aQ k=E->∀e,Q d e->r e)->g (.int (lo+k)) (cB J G) d λf l=>cB f G=cB J G/\cK f l λb e=>if b=H then bj f e p else r e)(C:∀d aN,Q eY d->d bs=j (.L aN)->br (R d) ((er o).filterMap aQ) aN->q4 d):
  ∃W:Nat->Nat->z->Prop,(∃v,W 0 v (U eY bs (.L [])))/\∀k v c,W k v c->((kB lo o).stop k c/\q4 c)\/((kB lo o).go k c/\∃m:z->Prop,(∀d,m d->∃bH,bH<v/\W (k+1) bH d)/\∀i d,(kB lo o).jh k c i d->g i (cB J G) d λf l=>cB f G=cB J G/\cK f l λb e=>if b=H then bj f e λD h=>∃a9,h bs=j (.L a9)/\a9.length<aD/\m (U h bs (.L (a9++[D])))else m e):=by
 refine Nt (lo:=lo) (o:=o) (hA R aQ eY bs) (hA.zero n) (λk d w x=>?_) λd ⟨F,aN,I,K⟩=>C d aN F I K;obtain⟨M,N⟩:=x.sU y own w A n;exact B k d _ _ w x.1 M N
end
variable{w:cr}
section
variable{P:cN}{mg:Str->Option ab}{base:bM}{cc:hz}{r:Nat}{i lz:Str}{aZ:List Str}{b0:f2}{ah:t}{st:be}
structure bI (P:cN) (w:cr) (K:bG) (mg:Str->Option ab) (base:bM) (cc:hz) (r:Nat) (i:Str) (aZ:List Str) (b0:f2):Prop where
 ex:∃f ai,bd P w K mg base cc r f ai aZ b0/\mg i=j (.ref f)/\md K (.ref f)=H/\Binds K ai aZ []
structure eE (P:cN) (w:cr) (K:bG) (mg:Str->Option ab) (base:bM) (cc:hz) (r:Nat) (ah:t) (i:Str) (aZ:List Str) (b0:f2):Prop where
 ex:∃f ai,bd P w K mg base cc r f ai aZ b0/\sp K ah i f/\Binds K ai aZ []
 aR:ha K ah
structure kP (P:cN) (w:cr) (K:bG) (mg:Str->Option ab) (base:bM) (cc:hz) (r:Nat) (ah:t) (i:Str) (aZ:List Str) (b0:f2):Prop where
 ex:∃f ai,bd P w K mg base cc r f ai aZ b0/\kC K ah f/\Binds K ai aZ []
 F':mg i=j (.ref ah)
end
section
variable{X:bJ}{cc:hz}{r:Nat}{ah:t}{aZ:List Str}{b0:f2}{B:bn}{i v:Str}{m aT gg:Pos}{h q:ce}{ap:List ce}{dD:bu}{p:ba}
def bP(y:bI X.prog X.w X.K X.mg X.base cc r i aZ b0)(b:cV r X.A)(c:gN X i)(d:gt cc X B)(e:hO X (h::ap) p)(f:(i==("__debug__":Str))=am:=by decide)(g:da (h::ap) X.env=(am,cb h X.env)::da ap X.env:=by rfl)(k:(gq aT (da ap X.env)).any (·.1)=am:=by rfl):a8 X (.Call (.Name i m) (h::ap) [] aT) (sr b0 [] B p):=by obtain⟨q,s,F,l,n,o⟩:=y.ex;exact MB F b c l n o .nil d e f g k
def fI{c:Sem Bool}(y:eE X.prog X.w X.K X.mg X.base cc r ah v aZ b0)(d:a8 X q dD)(e:cV r X.A)(g:gt cc X B)(i:hO X (h::ap) p)(k:da (h::ap) X.env=(am,cb h X.env)::da ap X.env:=by rfl)(l:(gq aT (da ap X.env)).any (·.1)=am:=by rfl)(m:cb (.Call (.Attribute q v gg) (h::ap) [] aT) X.env=(do
   let b<-cb q X.env
   qC gg.atName
   let(f,first)<-holding [b] (qJ b v c)
   sq aT f first (gq aT (da (h::ap) X.env)) (pl aT (pm [] X.env))):=by rfl):a8 X (.Call (.Attribute q v gg) (h::ap) [] aT) (ss ah v b0 [] B dD p):=by
 obtain⟨f,s,F,n,o⟩:=y.ex;exact MC d y.aR n F e o .nil g i k l m
def oE{c:Sem Bool}(y:eE X.prog X.w X.K X.mg X.base cc r ah v aZ b0)(d:a8 X q dD)(e:cV r X.A)(g:gt cc X B)(h:cb (.Call (.Attribute q v gg) [] [] aT) X.env=(do
   let b<-cb q X.env
   qC gg.atName
   let(f,first)<-holding [b] (qJ b v c)
   sq aT f first (gq aT (da [] X.env)) (pl aT (pm [] X.env))):=by rfl):a8 X (.Call (.Attribute q v gg) [] [] aT) (ss ah v b0 [] B dD e1):=by
 obtain⟨f,l,F,i,k⟩:=y.ex;exact MD d y.aR i F e k .nil g h
def mq(y:kP X.prog X.w X.K X.mg X.base cc r ah i aZ b0)(b:cV (r+1) X.A)(c:gN X i)(d:gt cc X B)(e:hO X (h::ap) p)(f:(i==("__debug__":Str))=am:=by decide)(g:da (h::ap) X.env=(am,cb h X.env)::da ap X.env:=by rfl)(k:(gq aT (da ap X.env)).any (·.1)=am:=by rfl):a8 X (.Call (.Name i m) (h::ap) [] aT) (uv ah b0 [] B p):=by obtain⟨o,q,F,l,n⟩:=y.ex;exact MG l F b c y.F' n .nil d e f g k
def PP(y:kP X.prog X.w X.K X.mg X.base cc r ah i aZ b0)(b:cV (r+1) X.A)(c:gN X i)(d:gt cc X B)(e:(i==("__debug__":Str))=am:=by decide):a8 X (.Call (.Name i m) [] [] aT) (uv ah b0 [] B e1):=by obtain⟨h,k,F,f,g⟩:=y.ex;exact MH f F b c y.F' g .nil d e
end
def bO.okE{P:cN}{d:Str->Option ab}{m:bM}{i h:Str}{st:be}{f:t}{n:hQ}{k aZ:List Str}{r:Nat}{b0:f2}(F:bO K i h st f n)(S:b2 k aZ (bo st))(len:∀G c b B,b0 G c b B->G.length=aZ.length)(o:∀(e:ab) (g:g8) (outer:List Env) (l:aJ) (c:z) (G:List V) (b:aW) (B:bn),cV r (g.deeper (f3 h (bo st) l.heap.objs.size f e))->b0 G c b B->∃p,fZ (jN (bh P w K d) P w K d m k h (bo st) f e g outer l c B) (ly st) p/\p {bb:=λ_ q=>b .aL q,lp:=b} (start k G) c):bd P w K d m (bh P w K d) (r+1) f n aZ b0:=by obtain⟨x,y,c9,doc,A,C,e,D,I,rfl,lk,s⟩:=F.ex;exact Ep lk s S len λg outer l c G b B u v=>o e g outer l c G b B u v
def bA.same{c b:z}{C:aC}(h:Q c b)(s:bA c e C):bA b e C:=by obtain s|⟨d,s⟩:=s;exact .inl (h _ _ s);exact .inr ⟨d,h _ _ s⟩
def PQ{c:cN}{aa:t}(d:(aa==g7)=am):
  MeetsIn c w (Builtin.«dict.__len__» ⟨[.ref aa],[]⟩) (λ_ R l=>∃q ap b,l.heap.get? aa=j q/\q.data= .dict ap b/\R (.ok (.ret (.int ap.size l.toks))) {l with toks:=l.toks+1}):=
 .of_wp λh R l ⟨q,ap,b,e,f,g⟩=>by show a5 _ _ (dictSize aa>>=_) _ _ l;unfold dictSize;refine bv (bv (yP e f (c2 ?_)));show a5 _ _ (Builtin.Dict.pendingCount aa>>=_) _ _ l;refine bv (wpAny_pendingCount_other d (wpAny_ret_mkInt ?_));rw[y1];exact g
def Ga{g:cN}{h:g8}{B:ab->aJ->Prop}{l:aJ}{aa:t}{q:Obj}{ap:Array iL}{b:Nat}{c:ab->aJ->Prop}(i:(aa==g7)=am)(e:l.heap.get? aa=j q)(k:q.cls= .type "dict")(n:q.data= .dict ap b)(o:(ap.size:Int)<2^63)(d:∀p,c (.int ap.size p) {l with toks:=l.toks+1+1}):a5 (a' g w) h (call (.builtin "len") [.ref aa]) c B l:=by have f:l.TypeIs (.ref aa) "dict":=⟨q,e,k⟩;refine Calls.call_function_entry kind_len plain_len entry_len (args_len1 _) ?_;unfold Builtin.«len»;refine bv (m:=oneArg "len" _) (c2 ?_);refine bv (m:=callSpecial? (.ref aa) (eD "__len__")) (Fk (name:=eD "__len__") f PR (E' PR f F.entry_dict_len (F.args_dict_len_1 _) (PQ i) ⟨q,ap,b,e,n,?_⟩));show a5 _ _ _ _ _ {l with toks:=l.toks+1};refine bv (um (c2 ?_));refine bv (wpAny_letGo ?_);show a5 _ _ (if((ap.size:Nat):Int)<0 then _ else _) _ _ _;rw[ag (by omega)];show a5 _ _ (if((ap.size:Nat):Int)>=2^63 then _ else _) _ _ _;rw[ag (by omega)];exact bv (wpAny_mkInt (c2 ⟨_,a,d _⟩))
def Gb{X:bJ}:j6 X (.builtin "len") (λM c b=>∃e aB,M=[V.ref e]/\bA c e (.cI aB)/\b (.int aB.length) c):=by
 intro w x y c M z b d g h;obtain⟨e,aB,rfl,i,k⟩:=h;obtain⟨A,rfl,l⟩:=vals1 g;cases l;obtain⟨m,n,M,o,B,p,C,q,r,s,u,_⟩:=nA d.hok i;have f:p.size=aB.length:=by rw[uX u];exact(Paired.length o).symm
 refine Ga n q r.1 s (by rw[f];rw[ut]at m;omega) λv=>?_;rw[f];exact⟨.int aB.length,c,d.eM _,⟨v,a⟩,k⟩
end bT
namespace e2
open PySem PySem.Spec PyProof.Rows bT
abbrev av:=d7
abbrev aI:=Vacfaa.Abs
def b3(k:Nat):be:=YF.main.body.getD k (.Pass ⟨0,0,0,0⟩)
abbrev cW:t:=58
abbrev b_:t:=215
abbrev hX:t:=168
abbrev vl:t:=169
abbrev oF:t:=28
structure a2 where
 kind:Str
 pJ:V
 parts:List Nat
 vm:V
abbrev vn(b:List (Str×V))(f:Str)(u:V):Prop:=b.lookup f=j u
def b'(n:List Nat):List V:=n.map λb=>V.int (b:Nat)
inductive Gc(c:z)(e:t)(o:a2):Prop|mk:∀f d b,c e=j (.az cW f b)->vn b "kind" (.str o.kind)->(vn b "binder" o.pJ/\vn b "number" o.vm)->vn b "parts" (.ref d)->c d=j (.L (b' o.parts))->Gc c e o
def q5(c:z)(e:t)(o:a2):Prop:=Gc c e o
inductive Gd(c:z)(e:t)(b:List a2):Prop|mk:∀(d:List t),c e=j (.L (d.map V.ref))->d.length=b.length->(∀(f:Nat) (g:a2),b[f]?=j g->∃h,d[f]?=j h/\q5 c h g)->Gd c e b
def hB(c:z)(b:t)(d:List a2):Prop:=Gd c b d
def Ge(F:t->Prop)(c e:z):Prop:=∀b d,c b=j d->¬F b->e b=j d
variable{a3:Type}{k:Nat}
def jR{f:a3->V}{n:List a3}{i:V}(d:(n.map f)[k]?=j i):∃e,n[k]?=j e/\i=f e:=by
 rw[d2]at d;cases b:n[k]? with
 |none=>rw[b]at d;cases d
 |some e=>rw[b]at d;exact⟨e,a,(dP d).symm⟩
variable{c O:z}{o:a2}
def q5.same{e:t}(h:Q c O)(d:q5 c e o):q5 O e o:=
 let⟨b,f,g,i,k,l,m,n⟩:=d
 ⟨b,f,g,h _ _ i,k,l,m,h _ _ n⟩
variable{bf:List a2}
theorem hB.same{b:t}(h:Q c O)(d:hB c b bf):hB O b bf:=
 let⟨e,f,g,i⟩:=d
 ⟨e,h _ _ f,g,λk l m=>let⟨n,o,p⟩:=i k l m;⟨n,o,p.same h⟩⟩
noncomputable def c3:av->List bY
 | .node b=>[.inl 0,.inl (b:Nat)]
 | .name b=>[.inl 1,.inl (b:Nat)]
 | .first b=>[.inl 2,.inl (b:Nat)]
 | .second b=>[.inl 3,.inl (b:Nat)]
 | .inside b=>[.inl 4,.inl (b:Nat)]
noncomputable def gS:aI->List bY
 | .num=>[.inl 0,.inl 0]
 | .fn b=>[.inl 1,.inl (b:Nat)]
 | .pair b=>[.inl 2,.inl (b:Nat)]
 | .ref b=>[.inl 3,.inl (b:Nat)]
inductive Gf(c:z)(u:V)(aK:List bY):Prop|mk:∀b,u= .ref b->bA c b (.aF (aK.map c9))->Gf c u aK
def TupAt(c:z)(u:V)(aK:List bY):Prop:=Gf c u aK
abbrev b1(c:z)(m:av)(u:V):Prop:=TupAt c u (c3 m)
abbrev d'(c:z)(e:aI)(u:V):Prop:=TupAt c u (gS e)
variable{u:V}{aK:List bY}
theorem TupAt.same(h:Q c O)(d:TupAt c u aK):TupAt O u aK:=let⟨b,e,f⟩:=d;⟨b,e,f.same h⟩
variable{b:t}
def bA.eJ{e:t}{q C:aC}(s:bA c b C)(d:c e=j q)(f:q≠C)(g:∀ao,q≠.ci ao C):b≠e:=by rintro rfl;obtain s|⟨ao,s⟩:=s;rw[d]at s;cases s;exact f a;rw[d]at s;cases s;exact g ao a
def TupAt.bK{e:t}{q C:aC}(d:TupAt c u aK)(f:c e=j q)(g:∀M,q≠.aF M)(h:∀ao C,q≠.ci ao C):TupAt (U c e C) u aK:=
 let⟨i,k,b⟩:=d
 ⟨i,k,b.other (e2.bA.eJ b f (g _) λao=>h ao _)⟩
def TupAt.new:TupAt (U c b (.aF (aK.map c9))) (.ref b) aK:=⟨b,a,.inl aw⟩
def PS(c:z)(u:V):Option aI->Prop
 |none=>u= .aL
 |some b=>d' c b u
structure cT (K:bG) (mg:Str->Option ab):Prop where
 dB:ha K cW
 fh:eN K cW "kind"
 zk:eN K cW "binder"
 lD:eN K cW "parts"
 hY:eN K cW "number"
 dV:ha K b_
 iO:eN K b_ "nodes"
 q6:eN K b_ "places"
 vo:eN K b_ "sorts"
 q7:eN K b_ "facts"
 Gg:mg "enumerate"=E
 eP:mg "len"=E
 q8:mg "range"=E
 Gh:mg "sum"=E
 lE:∃p,mg "NODE"=j (.int 0 p)
 vp:∃p,mg "NAME"=j (.int 1 p)
 vq:∃p,mg "FIRST"=j (.int 2 p)
 vr:∃p,mg "SECOND"=j (.int 3 p)
 vs:∃p,mg "INSIDE"=j (.int 4 p)
 vt:∃p,mg "FUNCTION"=j (.int 1 p)
 zl:∃p,mg "PAIR"=j (.int 2 p)
 vu:∃p,mg "REFERENCE"=j (.int 3 p)
 sV:mg "NUMBERS"=j (.ref hX)
 PT:mg "NUMBER_KINDS"=j (.ref vl)
 zm:mg "BINDERS"=j (.ref oF)
 PU:∀c,ej K c vl [.str "number",.str "in",.str "add"]
 bind:∀c,ej K c oF [.str "fun",.str "let"]
abbrev fJ(c:z):Prop:=bA c hX (.aF [.int 0,.int 0])
noncomputable def ea(r:Str)(n:Nat):Option aI:=if r="number"\/r="in"\/r="add" then j .num else if r="fun" then j (.fn n)else if r="pair" then j (.pair n)else if r="new" then j (.ref n)else E
abbrev zn:be:=b3 44
inductive vv(G:List V)(c:z)(d:aW)(g:bn):Prop|mk:∀(e:t) (b:Nat) (f:List a2) (o:a2),G=[.ref e,.int (b:Nat)]->hB c e f->f[b]?=j o->fJ c->(∀u O,Q c O->PS O u (ea o.kind b)->d u O)->vv G c d g
def q9(e r:Str):mf (.str e) (.str r)=decide (r=e):=by show(e==r)=decide (r=e);by_cases b:r=e;subst b;rw[bw a];exact le _;rw[bq b];exact fl.mpr λc=>b c.symm
def PV(r:Str):kI (.str r) [.str "number",.str "in",.str "add"]=decide (r="number"\/r="in"\/r="add"):=by delta kI;rw[mh,mh,mh,PW,q9,q9,q9,PX,zo,zo]
def Gi(r:Str):kI (.str r) [.str "fun",.str "let"]=decide (r="fun"\/r="let"):=by delta kI;rw[mh,mh,PW,q9,q9,PX,zo]
variable{P:cN}{w:cr}{K:bG}{mg:Str->Option ab}{base:bM}{f:t}{ai:hQ}
def Gj:b2 ["nodes","label","kind"] Zh (bo zn):=⟨a,a,a,∅,a,∅,∅⟩
def PY(F:bO K "own_sort" "own_sort" zn f ai)(T:cT K mg):bd P w K mg base a7 2 f ai Zh vv:=by
 refine F.ok Gj (λs v y z m=>?_) (λY Z aa ad v s y z af m=>?_);obtain⟨p,h,A,c,rfl,_⟩:=m;rfl;obtain⟨p,h,A,c,rfl,B,C,D,i⟩:=m;obtain⟨ah,G⟩:=T.vt;obtain⟨aj,J⟩:=T.zl;obtain⟨ak,L⟩:=T.vu;refine⟨_,ay (bZ (k:=2) Gj.nd a (aU a) (a1 (bU cj (x 0) (x 1) (λ_ _=>rfl)) a)) (ay (cp (b7 uI (x 2) (bQ a T.PT (u:=.ref vl) a) a) (aA (bx (bQ a T.sV (u:=.ref hX) a))) cO) (ay (cp (b7 dL (x 2) c_ (cf _)) (aA (bx (cP (I (bQ a G (u:=.int 1) ⟨_,a⟩) (I (x 1) ae))))) cO) (ay (cp (b7 dL (x 2) c_ (cf _)) (aA (bx (cP (I (bQ a J (u:=.int 2) ⟨_,a⟩) (I (x 1) ae))))) cO) (ay (cp (b7 dL (x 2) c_ (cf _)) (aA (bx (cP (I (bQ a L (u:=.int 3) ⟨_,a⟩) (I (x 1) ae))))) cO) (aA (bx jK)))))),?_⟩;obtain⟨al,M,ao,N⟩:=B;obtain⟨O,R,S,ap,U,W,X,ar,av,aw⟩:=N h c C;refine⟨_,a,_,a,p,_,_,_,a,a,an.au M,dj (by rw[d2,R];rfl),O,cW,S,U,_,a,W,T.dB,T.fh,X,?_⟩;refine⟨_,a,vl,_,a,.inr (T.PU _),a,a,_,a,?_⟩;dsimp only;rw[ag dA,PV];refine gw (λd=>?_) λd=>?_;have d:=iF d;exact i _ _ (Q.id _) (by delta ea;rw[as d];exact⟨hX,a,D⟩);have d:¬(c.kind="number"\/c.kind="in"\/c.kind="add"):=λe=>d (bw e);have g:∀{n:Str},decide (V.str c.kind=V.str n)=H↔c.kind=n:=λ{n}=>by simp
 refine⟨_,a,a,_,a,gw (λb=>?_) λb=>?_⟩;have b:=g.mp b;refine⟨_,a,YT,λq l=>i _ _ (Q.fresh l) ?_⟩;delta ea;rw[ag d,as b];exact TupAt.new (aK:=gS (.fn h));have o:¬c.kind="fun":=λe=>b (g.mpr e);refine⟨_,a,a,_,a,gw (λb=>?_) λb=>?_⟩;have b:=g.mp b;refine⟨_,a,YT,λq l=>i _ _ (Q.fresh l) ?_⟩;delta ea;rw[ag d,ag o,as b];exact TupAt.new (aK:=gS (.pair h));have r:¬c.kind="pair":=λe=>b (g.mpr e);refine⟨_,a,a,_,a,gw (λb=>?_) λb=>?_⟩;have b:=g.mp b;refine⟨_,a,YT,λq l=>i _ _ (Q.fresh l) ?_⟩;delta ea;rw[ag d,ag o,ag r,as b];exact TupAt.new (aK:=gS (.ref h));refine i _ _ (Q.id _) ?_;delta ea;rw[ag d,ag o,ag r,ag (λe=>b (g.mpr e):¬c.kind="new")];rfl
def vw(e b y aa:Int):pv (.tuple [.int e,.int b]) (.tuple [.int y,.int aa])=decide (e=y/\b=aa):=by rw[Bool.decide_and];simp[pv,sW];rfl
def oG(e b:Int):pu (.tuple [.int e,.int b])=H:=by simp[pu,Gk,Gl,Gm,Gn]
def oH{k af:Int}(d:bA c b (.aF [.int k,.int af])):f5 K c (.ref b) (.tuple [.int k,.int af]):=.aF (.inl d) (.cons (.int k) (.cons (.int af) .nil))
noncomputable def lF(b:List a2)(r:Str)(k:Nat):Bool:=decide ((b[k]?).map a2.kind=j r)
noncomputable def dS(b:List a2)(r:Str):List Nat:=(er b.length).filterMap λk=>if lF b r k=H then j k else E
abbrev zp:be:=b3 45
inductive vx(G:List V)(c:z)(e:aW)(h:bn):Prop|mk:∀(f:t) (g:Str) (b:List a2),G=[.ref f,.str g]->hB c f b->b.length<=30->(∀(O:z) (d:t),Q c O->c d=E->O d=j (.L (b' (dS b g)))->e (.ref d) O)->vx G c e h
def pK(b:List a2)(k:Nat):Option aI:=match(b[k]?).bind λo=>ea o.kind k with
 |some .num=>E
 |c=>c
def bp(b:List a2):List aI:=.num::(er b.length).filterMap (pK b)
def kQ(b:List a2)(k:Nat):Option (av×aI):=((b[k]?).bind λo=>ea o.kind k).map λc=>(ef k,c)
def f9(b:List a2):List (av×aI):=(er b.length).filterMap (kQ b)
inductive Go(c:z)(w:av×aI)(u:V):Prop|mk:∀b d e,u= .ref b->c b=j (.aF [d,e])->b1 c w.1 d->d' c w.2 e->Go c w u
def ka(c:z)(w:av×aI)(u:V):Prop:=Go c w u
def ka.aG(c b:z)(w:av×aI)(u:V)(h:Q c b)(d:ka c w u):ka b w u:=
 let⟨e,f,g,i,k,l,m⟩:=d
 ⟨e,f,g,i,h _ _ k,l.same h,m.same h⟩
variable{bs:t}
def ka.own(c:z)(w:av×aI)(u:V)(q:aC)(d:c bs=j q)(f:∃aN,q= .L aN)(s:ka c w u)(aN:List V):ka (U c bs (.L aN)) w u:=by obtain⟨n,rfl⟩:=f;obtain⟨g,h,i,k,e,l,m⟩:=s;exact⟨g,h,i,k,by rw[aH (ct e d ⋯)];exact e,TupAt.bK l d (λ_=>⋯) (λ_ _=>⋯),TupAt.bK m d (λ_=>⋯) (λ_ _=>⋯)⟩
def vy(e:aI):Option aI:=match e with
 | .num=>E
 |e=>j e
def PZ(b:List a2):bp b= .num::(f9 b).filterMap λw=>vy w.2:=by
 delta bp f9;rw[List.filterMap_filterMap];congr 1;congr 1;funext c;unfold pK kQ;cases(b[c]?).bind λd=>ea d.kind c with
 |none=>rfl
 |some e=>cases e<;>rfl
def eQ{k af:Int}(d:aK.map c9=[.int k,.int af]):TupAt (U c b (.aF [.int k,.int af])) (.ref b) aK:=⟨b,a,.inl (by rw[aw,d])⟩
def Gp(e:aI):∃k af:Int,(gS e).map c9=[.int k,.int af]/\((k=0/\af=0)↔e= .num):=by
 cases e with
 |num=>exact⟨0,0,a,by simp⟩
 |fn b=>exact⟨1,b,a,by simp⟩
 |pair b=>exact⟨2,b,a,by simp⟩
 |ref b=>exact⟨3,b,a,by simp⟩
variable{dG:Type}
theorem mr(f:a3->Option dG):∀n:List a3,(er n.length).filterMap (λk=>(n[k]?).bind f)=n.filterMap f
 |[]=>rfl
 |c::n=>by
  rw[cy,P0,hn,P1,hn];have b:=mr f n;simp only[Fl,d3];cases e:f c with
  |none=>exact b
  |some d=>exact dZ (List.cons d) b
def d'.aG(c e:z)(b:aI)(u:V)(h:Q c e)(d:d' c b u):d' e b u:=TupAt.same h d
def d'.own(c:z)(b:aI)(u:V)(q:aC)(d:c bs=j q)(f:∃aN,q= .L aN)(s:d' c b u)(aN:List V):d' (U c bs (.L aN)) b u:=by obtain⟨g,rfl⟩:=f;exact TupAt.bK s d (λ_=>⋯) (λ_ _=>⋯)
abbrev zq:be:=b3 43
inductive q_(G:List V)(c:z)(e:aW)(h:bn):Prop|mk:∀(f:t) (b:List a2),G=[.ref f]->hB c f b->b.length<=30->fJ c->(∀(O:z) (d:t) (g:List V),Q c O->c d=E->O d=j (.L g)->br (ka O) (f9 b) g->e (.ref d) O)->q_ G c e h
abbrev zr:be:=b3 42
inductive zs(G:List V)(c:z)(e:aW)(h:bn):Prop|mk:∀(f:t) (b:List a2),G=[.ref f]->hB c f b->b.length<=30->fJ c->(∀(O:z) (d:t) (g:List V),Q c O->c d=E->O d=j (.L g)->br (d' O) (bp b) g->e (.ref d) O)->zs G c e h
def vz:b2 ["nodes","kind","label","node"] Zo (bo zp):=⟨a,a,a,∅,a,∅,∅⟩
def P2(F:bO K "labels_of_kind" "labels_of_kind" zp f ai)(T:cT K mg):bd P w K mg base a7 2 f ai Zo vx:=by
 refine F.ok vz (λG m J L b=>?_) (λal ao ap n m G J L ar b=>?_);obtain⟨o,c,i,rfl,_⟩:=b;rfl;obtain⟨o,c,i,rfl,p,av,h⟩:=b;obtain⟨N,s,q,O⟩:=p;refine⟨_,aA (bx (hV (own:=[("label",2),("node",3)]) (g:=oi K 2 (jL (d0 2) (jL (d0 3) pf))) (cK:=ol (hx gf (nt K (cD 3) "kind") (cD 1))) (bj:=cD 2) a vz.nd (Fn a T.Gg (I (x 0) ae)) (f6 a) (λn m u v y=>kz a (fo (cF (k:=2) vz.nd a (aU a)) (fo (cF (k:=3) vz.nd a (aU a)) ky))) (λn m u v y=>nz (b7 dL (a1 (x 3) a) (x 1) (cf _))) (λn m u v y=>x 2))),?_⟩;refine⟨_,a,o,_,a,an.au s,?_⟩;intro S z;refine F_ (K:=K) (e:=o) (M:=N.map V.ref) (R:=λ_ (k:Nat) U=>U=V.int (k:Nat)) (aQ:=λk=>if lF i c k=H then j k else E) (λ_ _ _ _ _ b=>b) (λ_ _ _ _ _ _ b _=>b) (λr l=>an.au (l _ _ s)) (by rw[aV,q];exact c1 (by omega)) z ?_ ?_;intro k aw W r ax ay X l Y Z p;obtain⟨e,A,rfl⟩:=jR X;have aa:k<i.length:=by rw[<-q];exact(es.mp A).1
 obtain⟨d,B⟩:∃d,i[k]?=j d:=⟨_,gE aa⟩;obtain⟨az,C,ad,aB,af,ah,aj,aC,aE,aF⟩:=O k d B;rw[A]at C;cases C;refine⟨W,_,a,.inl (.inl Y),a,_,_,a,_,_,a,a,a,_,a,e,cW,ad,af,_,a,l _ _ ah,T.dB,T.fh,aj,_,a,a,_,a,?_⟩;have D:lF i c k=decide (d.kind=c):=by delta lF;rw[B];simp
 rw[(by simp:decide (V.str d.kind=V.str c)=decide (d.kind=c))];by_cases h:d.kind=c;rw[bw h,as a];exact⟨_,a,Z _ _ k (Q.id _) (by rw[D,bw h,as a]) a⟩;rw[bq h,ag dA];exact p (by rw[D,bq h,ag dA]) _ (Q.id _);intro r aG l ak b;rw[aV,q]at b;refine h r S l z ?_;rw[ak,b.map];rfl
def vA:b2 ["nodes","needs","label","sort"] Zw (bo zq):=⟨a,a,a,∅,a,∅,∅⟩
inductive Gq(c:z)(e:t)(f:List a2)(d:t)(k:Nat)(g:bT.St)(b:z):Prop|mk:∀i l,g=[j (.ref e),j (.ref d),i,l]->Q c b->(∃h,b d=j (.L h)/\br (ka b) ((er k).filterMap (kQ f)) h)->Gq c e f d k g b
def P4(F:bO K "list_own_needs" "list_own_needs" zq f ai)(T:cT K mg)(aa:bI P w K mg base a7 2 "own_sort" Zh vv):bd P w K mg base a7 3 f ai Zw q_:=by
 refine F.ok vA (λad m af ah z=>?_) (λaI aK aM aN m ad af ah aj z=>?_);obtain⟨n,b,rfl,_⟩:=z;rfl;obtain⟨n,b,rfl,O,aP,ak,al⟩:=z;obtain⟨aQ,ao⟩:=T.lE;refine⟨_,ay (bZ (k:=1) vA.nd a (aU a) (dR ae)) (ay (fg gx a (qH a T.q8 (I (en fE a T.eP e3 (I (x 0) ae)) ae)) (cF (k:=2) vA.nd a (aU a)) (ay (bZ (k:=3) vA.nd a (aU a) (bP aa aj a bN (I (x 0) (I (x 2) ae)))) (aA (cp (b7 Mc (x 3) jK (cf _)) (aA (c' (fF fK hT iq hS (x 1) (I (cP (I (cP (I (bQ a ao (u:=.int 0) ⟨_,a⟩) (I (x 2) ae))) (I (x 3) ae))) ae)))) cO)))) (aA (bx (x 1)))),?_⟩;obtain⟨ap,ar,A,aR⟩:=id O;refine⟨YR,λp B=>?_⟩;have R:Q m (U m p (.L [])):=Q.fresh B;refine⟨_,a,n,_,a,.inl (an.au (R _ _ ar)),_,a,?_,?_,?_⟩;omega;rw[aV,A];omega;refine sk (lo:=0) (o:=_) (Gq m n b p)
  ⟨E,E,a,R,_,aw,.nil⟩ ?_ ?_
 rintro k av S C ⟨ax,az,rfl,e,r,D,g⟩;have C:k<b.length:=by have:=C;rw[aV,A]at this;omega
 obtain⟨o,W⟩:∃o,b[k]?=j o:=⟨_,gE C⟩;refine⟨_,a,_,a,n,k,b,o,(by simp),O.same e,W,ak.same e,λu G J c=>?_⟩;have X:=e.trans J;have s:=J _ _ D;have Y:=g.aG λ_ _ h=>ka.aG _ _ _ _ J h;have aT:r.length<=k:=by rw[<-g.length];exact ip (kQ b) k
 have v:kQ b k=(ea o.kind k).map λy=>(ef k,y):=by delta kQ;rw[W];rfl
 refine⟨_,a,a,_,a,?_⟩;dsimp only;cases Z:ea o.kind k with
 |none=>rw[Z]at c v;have c:u= .aL:=c;subst c;rw[ag (by simp)];refine⟨_,_,a,X,r,s,?_⟩;rw[vk,v];simpa using Y
 |some y=>rw[Z]at c v;obtain⟨M,rfl,aB⟩:=(show d' G y u from c);rw[as (by simp)];refine⟨_,a,.inl ⟨a,_,an.au s⟩,_,a,YT,λi aE=>?_⟩;have l:=Q.fresh (q:=aC.aF [.int 0,.int (0+(k:Nat))]) aE;refine⟨_,a,YT,λN aH=>?_⟩;have d:=Q.fresh (q:=aC.aF [.ref i,.ref M]) aH;refine⟨p,_,_,a,a,d _ _ (l _ _ s),c1 (by omega),?_⟩;refine⟨_,_,a,((X.trans l).trans d).bK B,_,aw,?_⟩;rw[vk,v];exact((Y.aG λ_ _ h=>ka.aG _ _ _ _ (l.trans d) h).snoc (⟨N,_,_,a,aw,(eQ (by simp[c3,c9]):b1 (U G i (.aF [.int 0,.int (0+(k:Nat))])) (.node k) (.ref i)).same d,⟨M,a,(aB.same l).same d⟩⟩:ka (U (U G i (.aF [.int 0,.int (0+(k:Nat))])) N (.aF [.ref i,.ref M])) (ef k,y) (.ref N))).aG λaW aX h=>ka.own _ _ _ _ (d _ _ (l _ _ s)) ⟨_,a⟩ h _
 rintro av S ⟨ax,az,rfl,e,r,D,g⟩;refine⟨_,a,al S p r e B D ?_⟩;have:((ap.map V.ref).length:Int).toNat=b.length:=by rw[aV,A];omega
 rw[this]at g;exact g
def vB:b2 ["nodes","place","sort"] Zw (bo zr):=⟨a,a,a,∅,a,∅,∅⟩
def P5(F:bO K "list_sorts" "list_sorts" zr f ai)(T:cT K mg)(ah:bI P w K mg base a7 3 "list_own_needs" Zw q_):bd P w K mg base a7 4 f ai Zw zs:=by
 refine F.ok vB (λaj c ak al b=>?_) (λaR aT aW n c aj ak al z b=>?_);obtain⟨A,o,rfl,_⟩:=b;rfl;obtain⟨A,o,rfl,ao,B,p,ap⟩:=b;refine⟨_,aA (bx (fD nx (dR (I (bQ a T.sV (u:=.ref hX) a) ae)) (hV (own:=[("place",1),("sort",2)]) (g:=oi K 2 (jL (d0 1) (jL (d0 2) pf))) (cK:=ol (hx (sA K) (cD 2) (ff (.ref hX)))) (bj:=cD 2) a vB.nd (dU (bP ah z a bN (I (x 0) ae))) (f6 a) (λn c C D G=>kz a (fo (cF (k:=1) vB.nd a (aU a)) (fo (cF (k:=2) vB.nd a (aU a)) ky))) (λn c C D G=>nz (b7 (s:=sA K) (by exact ET z.units) (x 2) (bQ a T.sV (u:=.ref hX) a) (cf _))) (λn c C D G=>x 2)))),?_⟩;refine⟨YS,λJ ar=>?_⟩;have i:Q c (U c J (.L [.ref hX])):=Q.fresh ar;refine⟨_,a,A,o,a,ao.same i,B,p.same i,λaX N O r aY S l=>⟨N,a,⟨_,an.au S⟩,?_⟩⟩;intro av ax;have ay:O.length<=30:=by rw[<-l.length];exact b5 (ip _ _) B
 refine iN (K:=K) (e:=N) (M:=O) (R:=d') (aQ:=λk=>((f9 o)[k]?).bind λw=>vy w.2) d'.aG d'.own (λaz h=>an.au (h _ _ S)) (c1 (by omega)) ax ?_ ?_;intro k aZ az a0 a1 aB h aE aF;obtain⟨d,V,aH,a2,a3,rfl,aI,a4,aK⟩:=l.fq aB;obtain⟨aL,rfl,W⟩:=aK.same h;obtain⟨a6,a8,aM,X⟩:=Gp d.2;have Y:=W;rw[aM]at Y;refine⟨aH,_,a,ej.au (h _ _ aI),a,_,_,a,_,_,a,a,a,_,a,_,_,oH Y,oH (((p.same i).same r).same h),oG _ _,oG _ _,_,a,?_⟩;rw[vw];by_cases m:d.2= .num;rw[bw (X.mpr m)];exact cq (aF (by rw[V];show vy d.2=_;rw[m];rfl) _ (Q.id _));rw[bq λv=>m (X.mp v)];exact cm ⟨_,a,aE _ _ d.2 (Q.id _) (by rw[V];show vy d.2=_;cases v:d.2<;>first|rfl|exact aq v m) ⟨aL,a,W⟩⟩;intro a9 Z aa aN b;rw[<-l.length,mr]at b;have a_:Z.length<=30:=by rw[<-b.length];exact b5 (hW _ _) (by rw[l.length];exact ay)
 refine⟨J,av,_,_,a,a,aa _ _ (r _ _ aw),aN,fX (c1 (by rw[fS];omega)),λs ad=>?_⟩;have af:=Q.fresh (q:=aC.L ([.ref hX]++Z)) ad;have y:=((i.trans r).trans aa);refine ap _ s _ (y.trans af) (y.free ad) aw ?_;rw[PZ];exact(br.cons ⟨hX,a,(p.same y)⟩ b).aG λ_ _ aP=>TupAt.same af aP
noncomputable def oI(b:List a2)(k:Nat):Bool:=decide ((b[k]?).map a2.kind=j "fun"\/(b[k]?).map a2.kind=j "let")
def iP(o:Nat):List av:=(er o).filterMap λk=>j (ef k)
def iQ(b:List a2):List av:=(er b.length).filterMap λk=>if oI b k=H then j (h7 k)else E
noncomputable def a_(b:List a2):List av:=iP b.length++iQ b++((dS b "pair").flatMap λc=>[k' c,.second c])++(dS b "new").map la
abbrev zt:be:=b3 41
inductive zu(G:List V)(c:z)(e:aW)(h:bn):Prop|mk:∀(f:t) (b:List a2),G=[.ref f]->hB c f b->b.length<=30->(∀(O:z) (d:t) (g:List V),Q c O->c d=E->O d=j (.L g)->br (b1 O) (a_ b) g->e (.ref d) O)->zu G c e h
theorem q'(f g:Nat->a3):∀n:List Nat,(n.flatMap λi=>[f i,g i]).length=2*n.length
 |[]=>rfl
 |c::b=>by rw[ds,b4,q' f g b,cy];simp;omega
theorem eF:∀{n:List a3} {k:Nat} {i:a3},n[k]?=j i->n.take (k+1)=n.take k++[i]
 |[],k,i,b=>by simp at b
 |c::n,0,i,b=>by simp at b;subst b;rfl
 |c::n,k+1,i,b=>by rw[Fs,(eF (n:=n) (k:=k) (i:=i) (by simpa using b))];rfl
theorem ms(f:a3->dG):∀n:List a3,(er n.length).filterMap (λk=>(n[k]?).map f)=n.map f
 |[]=>rfl
 |b::n=>by rw[cy,P0,hn,P1];simp only[Fl,r3,bz];congr 1;exact ms f n
def mu{g:bT.St}{e bD:z->Prop}(d:e c):hd g c λb f=>if b=H then e f else bD f:=by show(if H=H then e c else bD c);rw[as a];exact d
def b1.aG(c e:z)(b:av)(u:V)(h:Q c e)(d:b1 c b u):b1 e b u:=TupAt.same h d
def b1.own(c:z)(b:av)(u:V)(q:aC)(d:c bs=j q)(f:∃aN,q= .L aN)(s:b1 c b u)(aN:List V):b1 (U c bs (.L aN)) b u:=by obtain⟨g,rfl⟩:=f;exact TupAt.bK s d (λ_=>⋯) (λ_ _=>⋯)
def nD:b2 ["nodes","places","label","node"] Zw (bo zt):=⟨a,a,a,∅,a,∅,∅⟩
inductive Gr(c:z)(f:t)(b:List a2)(e m:t)(k:Nat)(g:bT.St)(d:z):Prop|mk:∀l n h,g=[j (.ref f),j (.ref e),l,n]->Q c d->d m=j (.L (b' (dS b "pair")))->(d e=j (.L h)/\br (b1 d) (iP b.length++iQ b++((dS b "pair").take k).flatMap λi=>[k' i,.second i]) h)->Gr c f b e m k g d
def P6(F:bO K "list_places" "list_places" zt f ai)(T:cT K mg)(aN:bI P w K mg base a7 2 "labels_of_kind" Zo vx):bd P w K mg base a7 3 f ai Zw zu:=by
 refine F.ok nD (λbk l bl bn ao=>?_) (λcg ci cj p l bk bl bn aP ao=>?_);obtain⟨B,c,rfl,_⟩:=ao;rfl;obtain⟨B,c,rfl,N,r,G⟩:=ao;obtain⟨ck,bo⟩:=T.lE;obtain⟨cl,bp⟩:=T.vp;obtain⟨cm,bs⟩:=T.vq;obtain⟨cn,bt⟩:=T.vr;obtain⟨co,bu⟩:=T.vs;refine⟨_,ay (sS (k:=1) (own:=[("label",2)]) (g:=d0 2) (cK:=hd) (bj:=hP (dx (ff (.int 0)) (dx (cD 2) e1))) a nD.nd a a (qU a a a a) (qH a T.q8 (I (en fE a T.eP e3 (I (x 0) ae)) ae)) (f6 a) (λp l y z A=>cF (k:=2) nD.nd a (aU a)) (λp l y z A=>jk) (λp l y z A=>cP (I (bQ a bo ⟨_,a⟩) (I (x 2) ae)))) (ay (c' (fF fK ov ra qS (x 1) (I (hV (own:=[("label",2),("node",3)]) (g:=oi K 2 (jL (d0 2) (jL (d0 3) pf))) (cK:=ol (hx (uH K am) (nt K (cD 3) "kind") (ff (.ref oF)))) (bj:=hP (dx (ff (.int 1)) (dx (cD 2) e1))) a nD.nd (Fn a T.Gg (I (x 0) ae)) (f6 a) (λp l y z A=>kz a (fo (cF (k:=2) nD.nd a (aU a)) (fo (cF (k:=3) nD.nd a (aU a)) ky))) (λp l y z A=>nz (b7 uI (a1 (x 3) a) (bQ a T.zm a) a)) (λp l y z A=>cP (I (bQ a bp ⟨_,a⟩) (I (x 2) ae)))) ae))) (ay (fg gx a (dU (bP aN aP a bN (I (x 0) (I c_ ae)))) (cF (k:=2) nD.nd a (aU a)) (ay (c' (fF fK hT iq hS (x 1) (I (cP (I (bQ a bs (u:=.int 2) ⟨_,a⟩) (I (x 2) ae))) ae))) (aA (c' (fF fK hT iq hS (x 1) (I (cP (I (bQ a bt (u:=.int 3) ⟨_,a⟩) (I (x 2) ae))) ae)))))) (ay (c' (fF fK ov ra qS (x 1) (I (hV (own:=[("label",2)]) (g:=d0 2) (cK:=hd) (bj:=hP (dx (ff (.int 4)) (dx (cD 2) e1))) a nD.nd (dU (bP aN aP a bN (I (x 0) (I c_ ae)))) (f6 a) (λp l y z A=>cF (k:=2) nD.nd a (aU a)) (λp l y z A=>jk) (λp l y z A=>cP (I (bQ a bu ⟨_,a⟩) (I (x 2) ae)))) ae))) (aA (bx (x 1)))))),?_⟩;obtain⟨aR,ap,O,bA⟩:=id N;have bB:((aR.map V.ref).length:Int).toNat=c.length:=by rw[aV,O];omega
 refine⟨_,a,B,_,a,.inl (an.au ap),_,a,?_,?_,?_⟩;omega;rw[aV,O];omega;rw[bB];intro i J;refine PO (lo:=0) (o:=c.length) (R:=b1) (aQ:=λk=>j (ef k)) b1.aG b1.own (c1 (by omega)) J ?_ ?_;intro k s aT aW aX v S _;refine⟨a,mu ?_⟩;refine⟨_,a,YT,λb C=>S _ _ (.node k) (Q.fresh C) a ?_⟩;exact eQ (by simp[c3,c9]);intro cp ad af ar aY;refine⟨_,a,.inl ⟨a,_,an.au ar⟩,_,a,B,_,a,an.au (af _ _ ap),?_⟩;intro bD bF;refine F_ (K:=K) (e:=B) (M:=aR.map V.ref) (R:=b1) (aQ:=λk=>if oI c k=H then j (h7 k)else E) b1.aG b1.own (λs v=>an.au (v _ _ (af _ _ ap))) (by rw[aV,O];exact c1 (by omega)) bF ?_ ?_;intro k m bH s aT aW W v bJ S N;obtain⟨e,aZ,rfl⟩:=jR W;have aX:k<c.length:=by rw[<-O];exact(es.mp aZ).1
 obtain⟨o,a0⟩:∃o,c[k]?=j o:=⟨_,gE aX⟩;obtain⟨av,a2,bL,cq,bR,bS,bT,cs,ct,cu⟩:=bA k o a0;rw[aZ]at a2;cases a2;refine⟨bH,_,a,.inl (.inl bJ),a,_,_,a,_,_,a,a,a,_,a,e,cW,bL,bR,_,a,v _ _ (af _ _ bS),T.dB,T.fh,bT,oF,_,a,.inr (T.bind _),a,a,_,a,?_⟩;have a3:oI c k=decide (o.kind="fun"\/o.kind="let"):=by delta oI;rw[a0];simp
 rw[ag dA,Gi];by_cases G:o.kind="fun"\/o.kind="let";rw[bw G,as a];refine⟨_,a,YT,λb C=>S _ _ (.name k) (Q.fresh C) (by rw[a3,bw G,as a]) ?_⟩;exact eQ (by simp[c3,c9]);rw[bq G,ag dA];exact N (by rw[a3,bq G,ag dA]) _ (Q.id _);intro a4 ah aj bU ax;rw[aV,O]at ax;have cw:ad.length<=30:=by rw[<-aY.length];exact b5 (ip _ _) r
 have cA:ah.length<=30:=by rw[<-ax.length];exact b5 (ip _ _) r
 have lk:∀a6,(dS c a6).length<=30:=λa6=>b5 (ip _ _) r;refine⟨i,bD,_,_,a,a,aj _ _ ar,bU,fX (c1 (by omega)),?_⟩;have a8:Q l (U a4 i (.L (ad++ah))):=(af.trans aj).bK J;have bV:br (b1 (U a4 i (.L (ad++ah)))) (iP c.length++iQ c) (ad++ah):=
  ((aY.aG λ_ _ h=>TupAt.same aj h).append ax).aG λm D h=>b1.own _ m D _ (aj _ _ ar) ⟨_,a⟩ h _
 refine⟨_,a,B,"pair",c,a,N.same a8,r,λcB ak az a9 a_=>⟨ak,a,⟨_,an.au a_⟩,?_⟩⟩;have ba:ak≠i:=λX=>(by rw[X,aw]at a9;cases a9);refine g' (K:=K) (e:=ak) (M:=b' (dS c "pair")) (Gr l B c i ak)
  ⟨_,_,_,a,a8.trans az,a_,az _ _ aw,by simpa using bV.aG λ_ _ h=>TupAt.same az h⟩ (λk bb s _ ⟨_,_,_,_,_,X,_⟩=>an.au X) ?_ ?_
 rintro k m bb s W ⟨bW,bX,n,rfl,v,bY,aB,av⟩;obtain⟨d,aE,rfl⟩:=jR W;have cC:n.length<=120:=by
  rw[<-av.length,b4,b4];have bZ:(iP c.length).length<=30:=b5 (ip _ _) r;have b0:(iQ c).length<=30:=b5 (ip _ _) r;have b2:(((dS c "pair").take k).flatMap λd=>[k' d,.second d]).length<=60:=by rw[q',ic];have:=lk "pair";omega
  omega
 refine⟨_,a,.inl ⟨a,_,an.au aB⟩,_,a,YT,λb C=>?_⟩;have Y:=Q.fresh (q:=aC.aF [.int 2,.int (d:Nat)]) C;refine⟨i,_,_,a,a,Y _ _ aB,c1 (by omega),?_⟩;have al:Q l (U (U s b (.aF [.int 2,.int (d:Nat)])) i (.L (n++[.ref b]))):=(v.trans Y).bK J;refine⟨_,a,.inl ⟨a,_,an.au aw⟩,_,a,YT,λaI b3=>?_⟩;have Z:=Q.fresh (q:=aC.aF [.int 3,.int (d:Nat)]) b3;refine⟨i,_,_,a,a,Z _ _ aw,c1 (by rw[b4,fS];omega),?_⟩;refine⟨_,_,_,a,(al.trans Z).bK J,?_,aw,?_⟩;rw[aH ba];refine Z _ _ ?_;rw[aH ba];exact Y _ _ bY;have b6:br (b1 (U (U s b (.aF [.int 2,.int (d:Nat)])) i (.L (n++[.ref b])))) _ _:=((av.aG λ_ _ h=>TupAt.same Y h).snoc (e:=k' d) (b:=.ref b) (eQ a)).aG λm D h=>b1.own _ m D _ (Y _ _ aB) ⟨_,a⟩ h _;rw[eF aE,lG];simpa[eW]using(((b6.aG λ_ _ h=>TupAt.same Z h).snoc (e:=tO d) (b:=.ref aI) (eQ a)).aG λm D h=>b1.own _ m D _ (Z _ _ aw) ⟨_,a⟩ h _:br (b1 (U (U (U (U s b (.aF [.int 2,.int (d:Nat)])) i (.L (n++[.ref b]))) aI (.aF [.int 3,.int (d:Nat)])) i (.L (n++[.ref b]++[.ref aI])))) _ _);rintro bb b9 ⟨bW,bX,n,rfl,al,cE,bc,aa⟩;have aa:br (b1 b9) (iP c.length++iQ c++(dS c "pair").flatMap λd=>[k' d,.second d]) n:=by have X:(b' (dS c "pair")).length=(dS c "pair").length:=aV _;rw[X,f8]at aa;exact aa
 refine⟨_,a,.inl ⟨a,_,an.au bc⟩,_,a,B,"new",c,a,N.same al,r,λcG bf aK cH bg=>⟨bf,a,⟨_,an.au bg⟩,?_⟩⟩;intro b_ ca;refine iN (K:=K) (e:=bf) (M:=b' (dS c "new")) (R:=b1) (aQ:=λk=>((dS c "new")[k]?).map la) b1.aG b1.own (λs v=>an.au (v _ _ bg)) (by delta b';rw[aV];exact c1 (b5 (lk "new") nofun)) ca ?_ ?_;intro k m s aT aW W v S _;obtain⟨d,aE,rfl⟩:=jR W;refine⟨a,mu ?_⟩;refine⟨_,a,YT,λb C=>S _ _ (.inside d) (Q.fresh C) (by rw[aE];rfl) ?_⟩;exact eQ a;intro cc bh aL cd aM;have cf:(er (b' (dS c "new")).length).filterMap (λk=>((dS c "new")[k]?).map la)=(dS c "new").map la:=by delta b';rw[aV];exact ms _ _
 rw[cf]at aM;have bi:cc i=j (.L n):=aL _ _ (aK _ _ bc);have cI:n.length<=120:=by
  rw[<-aa.length,b4,b4];have bZ:(iP c.length).length<=30:=b5 (ip _ _) r;have b0:(iQ c).length<=30:=b5 (ip _ _) r;have b2:((dS c "pair").flatMap λd=>[k' d,.second d]).length<=60:=by rw[q'];have:=lk "pair";omega
  omega
 have cJ:bh.length<=30:=by rw[<-aM.length,aV];exact lk "new"
 refine⟨i,b_,_,_,a,a,bi,cd,fX (c1 (by omega)),?_⟩;refine⟨_,a,G _ i (n++bh) (((al.trans aK).trans aL).bK J) J aw ?_⟩;exact((aa.aG λ_ _ h=>TupAt.same (aK.trans aL) h).append aM).aG λm D h=>b1.own _ m D _ bi ⟨_,a⟩ h _
variable{m:av}
def zv{ao:av}(d:c3 m=c3 ao):m=ao:=by cases m<;>cases ao<;>simp[c3]at d<;>first|(cases d;rfl)|(have d:=vC d;cases d;rfl)
variable{e:aI}
def Gs{b:aI}(d:gS e=gS b):e=b:=by cases e<;>cases b<;>simp[gS]at d<;>first|rfl|(have d:=vC d;cases d;rfl)
structure c4 where
 a4:t
 cs:t
 gP:t
 iJ:t
 ai:t
 fL:av->t
noncomputable def P7(b:c4):List (Str×V):=[("nodes",.ref b.cs),("places",.ref b.gP),("sorts",.ref b.iJ),("facts",.ref b.ai)]
def kR(n:List aI):List (List bY×V):=n.map λe=>(gS e,V.bl H)
def mv(b:List av)(c:av->t):List (List bY×V):=b.map λm=>(c3 m,V.ref (c m))
inductive Gu(c:z)(b:List av)(d:c4):Prop|mk:∀x,c d.gP=j (.L x)->br (b1 c) b x->Gu c b d
inductive Gv(c:z)(b:List aI)(d:c4):Prop|mk:∀e,c d.iJ=j (.L e)->br (d' c) b e->Gv c b d
structure TabAt (c:z) (p:t) (ns:List a2) (dg:List av) (i9:List aI) (A:c4) (ir:av->List aI):Prop where
 az:c p=j (.az b_ A.a4 (P7 A))
 eX:hB c A.cs ns
 bi:Gu c dg A
 rb:Gv c i9 A
 iR:c A.ai=j (.cI (mv dg A.fL))
 kb:∀m∈dg,c (A.fL m)=j (.cI (kR (ir m)))
 inj:∀m∈dg,∀ao∈dg,A.fL m=A.fL ao->m=ao
 vD:∀m∈dg,A.fL m≠A.ai
 nd:∀m∈dg,(ir m).Nodup
 sub:∀m∈dg,∀e∈ir m,e∈i9
 num:fJ c
def zw(n:List aI)(e:aI):cg (kR n) (gS e)=if e∈n then j (V.bl H)else E:=by
 delta cg kR;induction n with
 |nil=>rfl
 |cons c h d=>rw[bz,ez];by_cases b:gS c=gS e;have:=Gs b;subst this;simp;have f:e≠c:=λg=>b (by rw[g]);simp only[bq b];rw[d];simp[f]
def sX(b:List av)(d:av->t)(m:av):cg (mv b d) (c3 m)=if m∈b then j (V.ref (d m))else E:=by
 delta cg mv;induction b with
 |nil=>rfl
 |cons e i f=>rw[bz,ez];by_cases c:c3 e=c3 m;have:=zv c;subst this;simp;have g:m≠e:=λh=>c (by rw[h]);simp only[bq c];rw[f];simp[g]
def P8{n:List aI}(d:e∉n):ey (kR n) (gS e) (V.bl H)=kR (n++[e]):=by delta ey;rw[pC,(by rw[zw,ag d]:cg (kR n) (gS e)=E),ag (by simp)];delta kR;rw[cS];rfl
def mw(aj:av->List aI)(m:av)(n:List aI):av->List aI:=λb=>if b=m then n else aj b
variable{aj:av->List aI}
def mx{n:List aI}:mw aj m n m=n:=by delta mw;rw[as a]
def lH{ao:av}{n:List aI}(d:ao≠m):mw aj m n ao=aj ao:=by delta mw;rw[ag d]
variable{p:t}{dg:List av}{A:c4}
section
variable{i9:List aI}
def TabAt.vE(d:TabAt c p bf dg i9 A aj){k:av->List aI}(h:Ge (λb=>∃m∈dg,b=A.fL m) c O)(s:∀m∈dg,O (A.fL m)=j (.cI (kR (k m))))(u:∀m∈dg,(k m).Nodup)(v:∀m∈dg,∀e∈k m,e∈i9):TabAt O p bf dg i9 A k:=by
 have cJ:∀{b g},c b=j g->(∀w,g≠.cI w)->O b=j g:=λ{b g} l y=>h b g l λ⟨m,n,f⟩=>by rw[f,d.kb m n]at l;cases l;exact y _ a
 have r:∀{o q},TupAt c o q->TupAt O o q:=λ{o q} ⟨b,z,i⟩=>⟨b,z,by obtain i|⟨g,i⟩:=i;exact .inl (cJ i λ_=>⋯);exact .inr ⟨g,cJ i (λ_=>⋯)⟩⟩
 obtain⟨x,B,C⟩:=d.bi;obtain⟨D,F,G⟩:=d.rb;obtain⟨I,J,K,L⟩:=d.eX;refine⟨cJ d.az (λ_=>⋯),⟨I,cJ J (λ_=>⋯),K,λM N P=>?_⟩,⟨x,cJ B (λ_=>⋯),C.aG λ_ _=>r⟩,⟨D,cJ F (λ_=>⋯),G.aG λ_ _=>r⟩,h _ _ d.iR λ⟨m,n,f⟩=>d.vD m n f.symm,s,d.inj,d.vD,u,v,?_⟩;obtain⟨e,Q,R,S,T,U,V,W,X,Y⟩:=L M N P;exact⟨e,Q,R,S,T,cJ U (λ_=>⋯),V,W,X,cJ Y (λ_=>⋯)⟩;obtain i|⟨g,i⟩:=d.num;exact .inl (cJ i λ_=>⋯);exact .inr ⟨g,cJ i (λ_=>⋯)⟩
def TabAt.same(d:TabAt c p bf dg i9 A aj)(h:Q c O):TabAt O p bf dg i9 A aj:=
 d.vE (λb e f _=>h b e f) (λg i=>h _ _ (d.kb g i)) d.nd d.sub
def TabAt.bK(d:TabAt c p bf dg i9 A aj)(k:m∈dg)(l:e∈i9)(n:e∉aj m):TabAt (U c (A.fL m) (.cI (kR (aj m++[e])))) p bf dg i9 A (mw aj m (aj m++[e])):=by
 refine d.vE (λi v g o=>by rw[aH λb=>o ⟨m,k,b⟩];exact g) (λf h=>?_) (λf h=>?_) (λf h i g=>?_);by_cases b:f=m;subst b;rw[aw,mx];rw[aH λq=>b (d.inj f h m k q),lH b];exact d.kb f h;by_cases b:f=m;subst b;rw[mx];exact Y.n8 (d.nd f h) (by simp) λr s u=>by
  have:r=e:=by simpa using u
  subst this;exact n s
 rw[lH b];exact d.nd f h;by_cases b:f=m;subst b;rw[mx]at g;obtain g|g:=bE.mp g;exact d.sub f h i g;have:i=e:=by simpa using g
 subst this;exact l;rw[lH b]at g;exact d.sub f h i g
end
abbrev zx:be:=jn (b3 40) 1
inductive sY(G:List V)(c:z)(d:aW)(h:bn):Prop|mk:∀(p:t) (x g:V) (i:List a2) (dg:List av) (f:List aI) (A:c4) (b:av->List aI) (m:av) (e:aI),G=[.ref p,x,g]->TabAt c p i dg f A b->b1 c m x->d' c e g->m∈dg->e∈f->f.length<=31->(e∈b m->d (.bl am) c)->(e∉b m->d (.bl H) (U c (A.fL m) (.cI (kR (b m++[e])))))->sY G c d h
abbrev zy:be:=jn (b3 40) 2
inductive pL(G:List V)(c:z)(b:aW)(g:bn):Prop|mk:∀(p:t) (x d:V) (h:List a2) (dg:List av) (i:List aI) (A:c4) (f:av->List aI) (m:av) (e:aI),G=[.ref p,x,d]->TabAt c p h dg i A f->b1 c m x->d' c e d->m∈dg->b (.bl (decide (e∈f m))) c->pL G c b g
def P9:b2 Y9 Y9 (bo zy):=⟨a,a,a,∅,a,∅,∅⟩
def P_(F:bO K "has" "Table.has" zy f ai)(T:cT K mg):bd P w K mg base a7 2 f ai Y9 pL:=by
 refine F.ok P9 (λq h s u i=>?_) (λQ v R S h q s u y i=>?_);obtain⟨m,x,z,A,B,C,v,k,b,d,rfl,_⟩:=i;rfl;obtain⟨m,U,z,A,B,C,c,k,b,d,rfl,l,D,G,n,e⟩:=i;have o:=kM y;refine⟨_,aA (bx (Du (by exact yL o (x 2) (jP o (a1 (x 0) a) (x 1) (λ_ _=>rfl))))),?_⟩;obtain⟨I,rfl,J⟩:=D;obtain⟨L,rfl,M⟩:=G;have N:eo h c.ai (.ref I) (j (.ref (c.fL b))):=by have:=eo.p (r:=c3 b) l.iR J;rw[sX,as n]at this;exact this
 have O:eo h (c.fL b) (.ref L) (if d∈k b then j (V.bl H)else E):=by have:=eo.p (r:=gS d) (l.kb b n) M;rw[zw]at this;exact this
 refine⟨_,a,_,a,m,b_,c.a4,_,_,a,l.az,T.dV,T.q7,a,_,a,c.ai,_,a,N,c.fL b,_,a,O,?_⟩;by_cases g:d∈k b;rw[as g];rw[bw g]at e;exact e;rw[ag g];rw[bq g]at e;exact e
def P':b2 Y9 Y9 (bo zx):=⟨a,a,a,∅,a,∅,∅⟩
def Qa(F:bO K "put" "Table.put" zx f ai)(T:cT K mg)(z:eE P w K mg base a7 2 b_ "has" Y9 pL):bd P w K mg base a7 3 f ai Y9 sY:=by
 refine F.ok P' (λA m B C l=>?_) (λS D U V m A B C n l=>?_);obtain⟨h,x,G,o,q,s,D,i,b,k,rfl,_⟩:=l;rfl;obtain⟨h,W,G,o,q,s,c,i,b,k,rfl,d,u,v,e,X,J,L,M⟩:=l;have y:=kM n;refine⟨_,ay (cp (mc (fI z (x 0) n bN (I (x 1) (I (x 2) ae)))) (aA (bx of)) cO) (ay (ml y (jP y (a1 (x 0) a) (x 1) (λ_ _=>rfl)) (x 2) of a) (aA (bx of))),?_⟩;refine⟨_,a,h,c.a4,_,a,d.az,a,_,a,_,a,h,_,_,o,q,s,c,i,b,k,a,d,u,v,e,_,a,?_⟩;obtain⟨N,rfl,O⟩:=u;obtain⟨Z,rfl,Q⟩:=v;have R:eo m c.ai (.ref N) (j (.ref (c.fL b))):=by have:=eo.p (r:=c3 b) d.iR O;rw[sX,as e]at this;exact this
 by_cases g:k∈i b;rw[bw g];exact cm (L g);rw[bq g];refine cq ?_;have aa:(i b).length<=31:=b5 (Y.m6 (d.nd b e) (d.sub b e)) J;refine⟨_,a,h,b_,c.a4,_,_,a,d.az,T.dV,T.q7,a,_,a,c.ai,_,a,R,_,a,c.fL b,_,a,kJ.p (r:=gS k) (d.kb b e) Q ?_,?_⟩;delta kR;rw[aV];exact c1 (by omega);rw[P8 g];exact M g
def kS(s:List aI)(e:aI):Option aI:=if e∈s then j e else E
noncomputable def b6(b s:List aI):List aI:=b.filterMap (kS s)
abbrev zz:be:=jn (b3 40) 3
inductive oJ(G:List V)(c:z)(e:aW)(h:bn):Prop|mk:∀(p:t) (x:V) (i:List a2) (dg:List av) (b:List aI) (A:c4) (f:av->List aI) (m:av),G=[.ref p,x]->TabAt c p i dg b A f->b1 c m x->m∈dg->b.length<=31->(∀(O:z) (d:t) (g:List V),Q c O->c d=E->O d=j (.L g)->br (d' O) (b6 b (f m)) g->e (.ref d) O)->oJ G c e h
def ep:aI->Int
 | .num=>0
 | .fn _=>1
 | .pair _=>2
 | .ref _=>3
def ck:aI->Nat
 | .num=>0
 | .fn b=>b
 | .pair b=>b
 | .ref b=>b
def rc(e:aI):(gS e).map c9=[.int (ep e),.int (ck e:Nat)]:=by cases e<;>rfl
def fM(made:Int)(e:aI):Option Nat:=if ep e=made then j (ck e)else E
abbrev zA:be:=jn (b3 40) 4
inductive sZ(G:List V)(c:z)(e:aW)(g:bn):Prop|mk:∀(p:t) (x:V) (made:Int) (h:List a2) (dg:List av) (b:List aI) (A:c4) (f:av->List aI) (m:av),G=[.ref p,x,.int made]->TabAt c p h dg b A f->b1 c m x->m∈dg->b.length<=31->(∀(O:z) (d:t),Q c O->c d=E->O d=j (.L (b' ((b6 b (f m)).filterMap (fM made))))->e (.ref d) O)->sZ G c e g
def zB:b2 Y9 Zp (bo zz):=⟨a,a,a,∅,a,∅,∅⟩
def Qb(F:bO K "sorts_at" "Table.sorts_at" zz f ai)(T:cT K mg):bd P w K mg base a7 2 f ai Zp oJ:=by
 refine F.ok zB (λS l U W h=>?_) (λax X ay o l S U W Y h=>?_);obtain⟨q,x,Z,aa,y,X,m,b,rfl,_⟩:=h;rfl;obtain⟨q,aB,Z,aa,y,c,m,b,rfl,s,ad,z,A,ae⟩:=h;have B:=kM Y;refine⟨_,aA (bx (hV (own:=[("sort",2)]) (g:=d0 2) (cK:=lr (yK (cD 2) (yJ (nt K (cD 0) "facts") (cD 1)))) (bj:=cD 2) a zB.nd (dU (a1 (x 0) a)) (f6 a) (λo l C D G=>cF (k:=2) zB.nd a (aU a)) (λo l C D G=>nz (mb (yL B (x 2) (jP B (a1 (x 0) a) (x 1) (λ_ _=>rfl))))) (λo l C D G=>x 2))),?_⟩;obtain⟨af,rfl,ah⟩:=ad;obtain⟨aj,I,u⟩:=s.rb;refine⟨_,a,q,b_,c.a4,_,_,a,s.az,T.dV,T.vo,a,c.iJ,a,⟨_,an.au I⟩,?_⟩;intro ak J;refine iN (K:=K) (e:=c.iJ) (M:=aj) (R:=d') (aQ:=λk=>(y[k]?).bind (kS (m b))) d'.aG d'.own (λi d=>an.au (d _ _ I)) (by rw[<-u.length];exact c1 (by omega)) J ?_ ?_;intro k aC i aE aF al d ao ap;obtain⟨e,L,N,rfl,O⟩:=u.fq al;have v:=s.same d;have ar:eo i c.ai (.ref af) (j (.ref (c.fL b))):=by have:=eo.p (r:=c3 b) v.iR (ah.same d);rw[sX,as z]at this;exact this
 have av:eo i (c.fL b) (.ref N) (if e∈m b then j (V.bl H)else E):=by have:=eo.p (r:=gS e) (v.kb b z) (O.same d);rw[zw]at this;exact this
 refine⟨a,_,a,_,a,q,b_,c.a4,_,_,a,v.az,T.dV,T.q7,a,_,a,c.ai,_,a,ar,c.fL b,_,a,av,_,a,?_⟩;by_cases n:e∈m b;rw[as n];exact cm ⟨_,a,ao _ _ e (Q.id _) (by rw[L];show kS _ e=_;delta kS;rw[as n]) ⟨N,a,O.same d⟩⟩;rw[ag n];exact cq (ap (by rw[L];show kS _ e=_;delta kS;rw[ag n]) _ (Q.id _));intro i aw d A h;rw[<-u.length,mr]at h;exact ae i ak aw d J A h
def zC:b2 ["self","place","made","sort"] Y_ (bo zA):=⟨a,a,a,∅,a,∅,∅⟩
def Qc(F:bO K "labels_at" "Table.labels_at" zA f ai)(T:cT K mg)(U:eE P w K mg base a7 2 b_ "sorts_at" Zp oJ):bd P w K mg base a7 3 f ai Y_ sZ:=by
 refine F.ok zC (λW h X Y b=>?_) (λar Z av m h W X Y aa b=>?_);obtain⟨n,x,made,u,v,o,Z,p,q,rfl,_⟩:=b;rfl;obtain⟨n,aw,made,u,v,o,y,p,q,rfl,z,ad,af,i,ah⟩:=b;refine⟨_,aA (bx (hV (own:=[("sort",3)]) (g:=d0 3) (cK:=ol (hx gf (hx (qO K) (cD 3) (ff (.int 0))) (cD 2))) (bj:=hx (qO K) (cD 3) (ff (.int 1))) a zC.nd (dU (fI U (x 0) aa bN (I (x 1) ae))) (f6 a) (λm h A B C=>cF (k:=3) zC.nd a (aU a)) (λm h A B C=>nz (b7 dL (bU ji (x 3) bt (λ_ _=>rfl)) (x 2) (cf _))) (λm h A B C=>bU ji (x 3) bt (λ_ _=>rfl)))),?_⟩;refine⟨_,a,n,y.a4,_,a,z.az,a,_,a,n,_,u,v,o,y,p,q,a,z,ad,af,i,λax D G J ay L r=>⟨D,a,⟨_,an.au L⟩,?_⟩⟩;have aB:G.length<=31:=by rw[<-r.length];exact b5 (hW _ _) i
 intro aj N;refine iN (K:=K) (e:=D) (M:=G) (R:=λ_ (k:Nat) ak=>ak=V.int (k:Nat)) (aQ:=λk=>((b6 o (p q))[k]?).bind (fM made)) (λ_ _ _ _ _ b=>b) (λ_ _ _ _ _ _ b _=>b) (λs c=>an.au (c _ _ L)) (c1 (by omega)) N ?_ ?_;intro k aC s aE aF al c ao ap;obtain⟨e,O,S,rfl,d⟩:=r.fq al;have d:=d.same c;rw[rc]at d;refine⟨a,_,a,S,_,_,_,a,a,.inl d,a,_,a,a,_,a,?_⟩;rw[(by simp:decide (V.int (ep e)=V.int made)=decide (ep e=made))];by_cases l:ep e=made;rw[bw l,as a];exact⟨_,a,S,_,_,_,a,a,.inl d,a,ao _ _ (ck e) (Q.id _) (by rw[O];show fM made e=_;delta fM;rw[as l]) a⟩;rw[bq l,ag dA];exact ap (by rw[O];show fM made e=_;delta fM;rw[ag l]) _ (Q.id _);intro s aG c i b;rw[<-r.length,mr]at b;refine ah s aj (J.trans c) (J.free N) ?_;rw[i,b.map];rfl
def gy(b:List av)(aj:av->List aI):Nat:=(b.map λm=>(aj m).length).sum
abbrev zD:be:=jn (b3 40) 5
inductive s0(G:List V)(c:z)(b:aW)(e:bn):Prop|mk:∀(p:t) (f:List a2) (dg:List av) (g:List aI) (A:c4) (d:av->List aI),G=[.ref p]->TabAt c p f dg g A d->dg.length<=900->(∀O,Q c O->b (.int (gy dg d:Nat)) O)->s0 G c b e
abbrev zE:be:=jn (b3 40) 0
inductive vF(G:List V)(c:z)(f:aW)(h:bn):Prop|mk:∀(p i e:t) (d:List a2),G=[.ref p,.ref e]->c p=j (.az b_ i [])->hB c e d->d.length<=30->fJ c->(a_ d).Nodup->(∀(O:z) (A:c4),(∀b g,c b=j g->b≠p->O b=j g)->A.cs=e->(∀m∈a_ d,c (A.fL m)=E)->TabAt O p d (a_ d) (bp d) A (λ_=>[])->f .aL O)->vF G c f h
def dM(p:t)(c e:z):Prop:=∀b d,c b=j d->b≠p->e b=j d
def dM.trans{d f:z}(e:dM p c d)(b:dM p d f):dM p c f:=λg h k i=>b g h (e g h k i) i
def dM.au(h:Q c O):dM p c O:=λb d e _=>h b d e
theorem dM.U(p:t)(c:z)(q:aC):dM p c (U c p q):=λe f b d=>by rw[aH d];exact b
variable{fs:List (Str×V)}
def TupAt.kp{ah h:t}(d:TupAt c u aK)(i:c p=j (.az ah h fs))(r:dM p c O):TupAt O u aK:=by obtain⟨f,k,b⟩:=d;have g:f≠p:=e2.bA.eJ b i ⋯ (λ_=>⋯);refine⟨f,k,?_⟩;obtain b|⟨l,b⟩:=b;exact .inl (r _ _ b g);exact .inr ⟨l,r _ _ b g⟩
theorem fJ.kp{ah b:t}(d:fJ c)(e:c p=j (.az ah b fs))(r:dM p c O):fJ O:=by obtain⟨h,f,g⟩:=TupAt.kp (aK:=[.inl 0,.inl 0]) (u:=.ref hX) ⟨hX,a,d⟩ e r;cases f;exact g
def hB.kp{ah k f:t}(d:hB c f bf)(e:c p=j (.az ah k fs))(l:ah≠cW)(r:dM p c O):hB O f bf:=by obtain⟨m,g,n,o⟩:=d;refine⟨m,r _ _ g (ct g e ⋯),n,λq s u=>?_⟩;obtain⟨v,w,x,y,z,h,A,B,C,i⟩:=o q s u;exact⟨v,w,x,y,z,r _ _ h (ct h e (λb=>by cases b;exact l a)),A,B,C,r _ _ i (ct i e ⋯)⟩
def Qd{n:List av}{b:av->t}{aa:t}(d:m∉n):ey (mv n b) (c3 m) (V.ref aa)=mv (n++[m]) (λao=>if ao=m then aa else b ao):=by rw[uR _ (by rw[sX,ag d]:cg (mv n b) (c3 m)=E)];delta mv;rw[cS];congr 1;apply nc;intro ao c;have:ao≠m:=λe=>d (e▸c);show(c3 ao,V.ref (b ao))=(c3 ao,V.ref (if ao=m then aa else b ao));rw[ag this];simp
def Gw{n:List a3}{i:a3}(d:n.Nodup)(e:n[k]?=j i):i∉n.take k:=by
 intro f;obtain⟨b,c,g⟩:=Kw.mp f;have h:b<k:=by rw[ic]at c;omega
 have l:n[b]?=j i:=by rw[<-MM h,gE c,g]
 have:=OO d l e;omega
def oK(b:List a2)(d:b.length<=30):(a_ b).length<=900:=by have e:(iP b.length).length<=30:=b5 (ip _ _) d;have f:(iQ b).length<=30:=b5 (ip _ _) d;have lk:∀c,(dS b c).length<=30:=λc=>b5 (ip _ _) d;delta a_;rw[b4,b4,b4,q',aV];have:=lk "pair";have:=lk "new";omega
theorem Gx:∀n:List Nat,(n.map λ(k:Nat)=>(k:Int)).sum=(n.sum:Nat)
 |[]=>rfl
 |c::b=>by rw[bz,l1,l1,Gx b];omega
def zF:b2 Zp ZB (bo zD):=⟨a,a,a,∅,a,∅,∅⟩
def Qe(F:bO K "fact_count" "Table.fact_count" zD f ai)(T:cT K mg):bd P w K mg base a7 2 f ai ZB s0:=by
 refine F.ok zF (λL h o N b=>?_) (λap O ar q h L o N S b=>?_);obtain⟨s,U,l,W,O,m,rfl,_⟩:=b;rfl;obtain⟨s,U,l,W,d,m,rfl,u,av,X⟩:=b;refine⟨_,aA (bx (en (ES a) a T.Gh (by rfl) (I (hV (own:=[("place",1)]) (g:=d0 1) (cK:=hd) (bj:=uB (λM h o=>∃e z,M=[V.ref e]/\bA h e (.cI z)/\o (.int z.length) h) (dx (yJ (nt K (cD 0) "facts") (cD 1)) e1)) a zF.nd (dU (a1 (x 0) a)) (f6 a) (λq h A B C=>cF (k:=1) zF.nd a (aU a)) (λq h A B C=>jk) (λq h A B C=>en Gb a T.eP e3 (I (jP (kM S) (a1 (x 0) a) (x 1) (λ_ _=>rfl)) ae))) ae))),?_⟩;obtain⟨Y,D,v⟩:=u.bi;refine⟨_,a,s,b_,d.a4,_,_,a,u.az,T.dV,T.q6,a,d.gP,a,⟨_,an.au D⟩,?_⟩;intro Z aa;refine iN (K:=K) (e:=d.gP) (M:=Y) (R:=λ_ (k:Nat) ad=>ad=V.int (k:Nat)) (aQ:=λk=>(l[k]?).map λc=>(m c).length) (λ_ _ _ _ _ b=>b) (λ_ _ _ _ _ _ b _=>b) (λn i=>an.au (i _ _ D)) (by rw[<-v.length];exact c1 (by omega)) aa ?_ ?_;intro k aw n ax ay af i ah _;obtain⟨c,G,aj,rfl,ak⟩:=v.fq af;have y:=u.same i;have J:c∈l:=ev G;have al:eo n d.ai (.ref aj) (j (.ref (d.fL c))):=by have:=eo.p (r:=c3 c) y.iR (ak.same i);rw[sX,as J]at this;exact this
 refine⟨a,mu ⟨_,a,s,b_,d.a4,_,_,a,y.az,T.dV,T.q7,a,_,a,d.ai,_,a,al,d.fL c,_,a,.inl (y.kb c J),?_⟩⟩;refine ah _ _ (m c).length (Q.id _) (by rw[G];rfl) ?_;delta kR;rw[aV];intro n aB i ao b;rw[<-v.length,ms]at b;refine⟨Z,(l.map λc=>((m c).length:Int)),a,an.au ?_,?_⟩;rw[ao,b.map,fU,fU];rfl;have:=X n i;unfold gy at this;rw[<-Gx,fU]at this;exact this
def Gy:b2 ["self","nodes","place"] Zq (bo zE):=⟨a,a,a,∅,a,∅,∅⟩
inductive Gz(p h:t)(c:List a2)(f:t)(g:z)(k:Nat)(i:bT.St)(e:z):Prop|mk:∀o d,i=[j (.ref p),j (.ref h),o]->(∀b l,g b=j l->b≠f->e b=j l)->(e f=j (.cI (mv ((a_ c).take k) d))/\(∀m∈(a_ c).take k,e (d m)=j (.cI [])/\g (d m)=E)/\(∀m∈(a_ c).take k,∀n∈(a_ c).take k,d m=d n->m=n))->Gz p h c f g k i e
def Qf(F:bO K "__init__" "Table.__init__" zE f ai)(T:cT K mg)(bk:bI P w K mg base a7 3 "list_places" Zw zu)(bl:bI P w K mg base a7 4 "list_sorts" Zw zs):bd P w K mg base a7 5 f ai Zq vF:=by
 refine F.ok Gy (λbn c bo bs m=>?_) (λcg ci cj ck c bn bo bs aP m=>?_);obtain⟨g,l,n,D,rfl,_⟩:=m;rfl;obtain⟨g,l,n,D,rfl,aQ,bt,aR,bu,bx,i⟩:=m;refine⟨_,ay (f1 (x 0) (x 1) a) (ay (f1 (x 0) (bP bk (aP.aG nofun) a bN (I (x 1) ae)) a) (ay (f1 (x 0) (bP bl aP a bN (I (x 1) ae)) a) (ay (f1 (x 0) uU a) (aA (fg gx a (dU (a1 (x 0) a)) (cF (k:=2) Gy.nd a (aU a)) (aA (ml (kM aP) (a1 (x 0) a) (x 2) uU a))))))),?_⟩;refine⟨_,a,_,a,g,b_,l,[],a,aQ,T.dV,T.iO,(by show 0<1000;decide),?_⟩;have ax:dM g c (U c g (.az b_ l (c0 "nodes" (.ref n) []))):=dM.U _ _ _;have a2:=bt.kp aQ nofun ax;refine⟨_,a,n,D,a,a2,aR,λaB C aE al cl a3 bB=>?_⟩;have W:=al _ _ (aw (c:=c) (e:=g) (q:=.az b_ l (c0 "nodes" (.ref n) [])));refine⟨_,a,g,b_,l,_,a,W,T.dV,T.q6,(by show 1<1000;decide),?_⟩;have X:=dM.U g aB (.az b_ l (c0 "places" (.ref C) (c0 "nodes" (.ref n) [])));have a4:=(a2.same al).kp W nofun X;have a6:fJ aB:=(bu.kp aQ ax).same al;refine⟨_,a,n,D,a,a4,aR,a6.kp W X,λY N aT Z cm a8 bD=>?_⟩;have ao:=Z _ _ (aw (c:=aB) (e:=g) (q:=.az b_ l (c0 "places" (.ref C) (c0 "nodes" (.ref n) []))));refine⟨_,a,g,b_,l,_,a,ao,T.dV,T.vo,(by show 2<1000;decide),?_⟩;have aa:=dM.U g Y (.az b_ l (c0 "sorts" (.ref N) (c0 "places" (.ref C) (c0 "nodes" (.ref n) []))));have bF:fJ Y:=(a6.kp W X).same Z;intro ai a9;have ad:=Q.fresh (q:=aC.cI []) a9;have aI:=ad _ _ (aw (c:=Y) (e:=g) (q:=.az b_ l (c0 "sorts" (.ref N) (c0 "places" (.ref C) (c0 "nodes" (.ref n) [])))));refine⟨_,a,g,b_,l,_,a,aI,T.dV,T.q7,(by show 3<1000;decide),?_⟩;have S:=dM.U g (U (U Y g (.az b_ l (c0 "sorts" (.ref N) (c0 "places" (.ref C) (c0 "nodes" (.ref n) []))))) ai (.cI [])) (.az b_ l (c0 "facts" (.ref ai) (c0 "sorts" (.ref N) (c0 "places" (.ref C) (c0 "nodes" (.ref n) [])))));generalize bH:U (U (U Y g (.az b_ l (c0 "sorts" (.ref N) (c0 "places" (.ref C) (c0 "nodes" (.ref n) []))))) ai (.cI [])) g (.az b_ l (c0 "facts" (.ref ai) (c0 "sorts" (.ref N) (c0 "places" (.ref C) (c0 "nodes" (.ref n) [])))))=o at S;have ap:o g=j (.az b_ l [("nodes",.ref n),("places",.ref C),("sorts",.ref N),("facts",.ref ai)]):=by rw[<-bH,aw];rfl
 have ba:dM g c o:=(((ax.trans (dM.au al)).trans X).trans (dM.au Z)).trans ((aa.trans (dM.au ad)).trans S);have bb:dM g aB o:=(X.trans (dM.au Z)).trans ((aa.trans (dM.au ad)).trans S);have bc:dM g Y o:=(aa.trans (dM.au ad)).trans S;have aL:o C=j (.L aE):=bb _ _ a3 (ct a3 W ⋯);have aW:br (b1 o) (a_ D) aE:=bB.aG λ_ _ h=>h.kp W bb;have O:o ai=j (.cI []):=S _ _ aw (ct aw aI ⋯);have bJ:∀v,o v=E->c v=E:=λv y=>by
  cases b:c v with
  |none=>rfl
  |some q=>by_cases d:v=g;subst d;rw[ap]at y;cases y;rw[ba v q b d]at y;cases y
 have cn:T.dV=T.dV:=rfl;refine⟨_,a,g,b_,l,_,_,a,ap,T.dV,T.q6,a,C,a,⟨_,an.au aL⟩,?_⟩;refine g' (K:=K) (e:=C) (M:=aE) (Gz g n D ai o)
  ⟨E,λ_=>0,a,λz q m _=>m,by simpa[mv]using O,by simp,by simp⟩ (λk bf af _ ⟨_,_,_,b,_⟩=>an.au (b _ _ aL (ct aL O ⋯))) ?_ ?_
 rintro k co bf af bK ⟨bL,ar,rfl,G,ah,R,aM⟩;obtain⟨s,J,bg,rfl,bh⟩:=aW.fq bK;have bQ:bA af bg (.aF ((c3 s).map c9)):=by have A:bg≠ai:=e2.bA.eJ bh O ⋯ (λ_=>⋯);obtain h|⟨q,h⟩:=bh;exact .inl (G _ _ h A);exact .inr ⟨q,G _ _ h A⟩
 intro v y;have av:=Q.fresh (q:=aC.cI []) y;refine⟨_,a,g,b_,l,_,_,a,av _ _ (G _ _ ap (ct ap O ⋯:g≠ai)),T.dV,T.q7,a,_,a,ai,_,a,kJ.p (r:=c3 s) (av _ _ ah) (bQ.same av) ?_,?_⟩;delta mv;rw[aV,ic];have:(a_ D).length<=900:=oK D aR;exact c1 (by omega);have bR:o v=E:=by
  cases d:o v with
  |none=>rfl
  |some q=>by_cases bi:v=ai;subst bi;rw[ah]at y;cases y;rw[G v q d bi]at y;cases y
 have bS:v≠ai:=λd=>by rw[d,ah]at y;cases y
 refine⟨_,(λi=>if i=s then v else ar i),a,λz q A bj=>?_,?_,λi aj=>?_,λi aj h aX=>?_⟩;rw[aH bj];exact av _ _ (G z q A bj);rw[aw,Qd (Gw bx J),eF J];rw[eF J]at aj;by_cases d:i=s;subst d;rw[as a];exact⟨by rw[aH bS,aw],bR⟩;have bT:i∈(a_ D).take k:=by obtain m|m:=bE.mp aj;exact m;exact aq (by simpa using m) d
 simp only[ag d];have B:=R i bT;have bU:ar i≠ai:=λd=>by rw[d]at B;rw[O]at B;exact nomatch B.2
 exact⟨by rw[aH bU];exact av _ _ B.1,B.2⟩;rw[eF J]at aj aX;have aN:∀i,i≠s->i∈(a_ D).take k++[s]->i∈(a_ D).take k:=λi d m=>by obtain m|m:=bE.mp m;exact m;exact aq (by simpa using m) d
 intro d;by_cases ak:i=s;by_cases V:h=s;rw[ak,V];simp only[as ak,ag V]at d;have B:=(R h (aN h V aX)).1;rw[<-d,y]at B;cases B;by_cases V:h=s;simp only[ag ak,as V]at d;have B:=(R i (aN i ak aj)).1;rw[d,y]at B;cases B;simp only[ag ak,ag V]at d;exact aM i (aN i ak aj) h (aN h V aX) d;rintro bf af ⟨bL,ar,rfl,G,ah,R,aM⟩;rw[<-aW.length,f8]at ah R aM;have aY:∀{u aK},TupAt o u aK->TupAt af u aK:=λ{u aK} ⟨z,aZ,h⟩=>⟨z,aZ,by have A:z≠ai:=e2.bA.eJ h O ⋯ (λ_=>⋯);obtain h|⟨q,h⟩:=h;exact .inl (G _ _ h A);exact .inr ⟨q,G _ _ h A⟩⟩
 have cJ:∀{z q},o z=j q->(∀bV,q≠.cI bV)->af z=j q:=λ{z q} A bW=>G z q A (ct A O (bW _));refine i af ⟨l,n,C,N,ai,ar⟩ (λz q A a0=>G z q (ba z q A a0) λd=>?_) a (λs J=>bJ _ (R s J).2) ⟨cJ ap (λ_=>⋯),?_,⟨aE,cJ aL (λ_=>⋯),aW.aG λ_ _=>aY⟩,⟨aT,cJ (bc _ _ a8 (ct a8 ao ⋯):o N=j (.L aT)) (λ_=>⋯),(bD.aG λ_ _ h=>h.kp ao bc:br (d' o) (bp D) aT).aG λ_ _=>aY⟩,ah,λs J=>(R s J).1,aM,λs J d=>?_,λ_ _=>rV,(λ_ _ _=>⋯),?_⟩;rw[d]at A a0;have:=(((ax.trans (dM.au al)).trans X).trans ((dM.au Z).trans aa)) ai q A a0;rw[a9]at this;cases this;obtain⟨bX,bY,bZ,b0⟩:=(((a4.same Z).kp ao nofun aa).same ad).kp aI nofun S;refine⟨bX,cJ bY (λ_=>⋯),bZ,λk b2 b3=>?_⟩;obtain⟨e,b6,v,b7,b9,b',ca,cc,cd,cf⟩:=b0 k b2 b3;exact⟨e,b6,v,b7,b9,cJ b' (λ_=>⋯),ca,cc,cd,cJ cf (λ_=>⋯)⟩;have B:=(R s J).2;have d:ar s=ai:=d;rw[d,O]at B;cases B;obtain⟨z,aZ,h⟩:=aY (u:=.ref hX) (aK:=[.inl 0,.inl 0]) ⟨hX,a,(fJ.kp ((bF.kp ao aa).same ad) aI S:fJ o)⟩;cases aZ;exact h
structure vG (o:a2):Prop where
 name:o.kind="name"->∃b:Nat,o.pJ= .int (b:Nat)
 vH:o.kind="let"->∃m ao,o.parts=[m,ao]
 s1:o.kind="if"->∃m ao s,o.parts=[m,ao,s]
 pair:o.kind="pair"->∃m ao,o.parts=[m,ao]
 GA:o.kind="set"->∃m ao,o.parts=[m,ao]
 call:o.kind="call"->∃m ao,o.parts=[m,ao]
 new:o.kind="new"->∃m,o.parts=[m]
 fst:o.kind="fst"->∃m,o.parts=[m]
 snd:o.kind="snd"->∃m,o.parts=[m]
 get:o.kind="get"->∃m,o.parts=[m]
 fn:o.kind="fun"->∃m,o.parts=[m]
 mm:o.parts.length<=3
def Qg:V->Nat
 | .int k=>k.toNat
 |_=>0
def dv(o:a2)(k:Nat):Nat:=o.parts.getD k 0
open Vacfab.Place in
def lI(o:a2)(n:Nat):List (av×av):=
 if o.kind="name" then[(name (Qg o.pJ),node n)]
 else if o.kind="let" then[(node (dv o 0),name n),(node (dv o 1),node n)]
 else if o.kind="if" then[(node (dv o 1),node n),(node (dv o 2),node n)]
 else if o.kind="pair" then[(node (dv o 0),first n),(node (dv o 1),second n)]
 else if o.kind="new" then[(node (dv o 0),inside n)]
 else if o.kind="set" then[(node (dv o 1),node n)]
 else[]
inductive GB(c:z)(w:av×av)(u:V):Prop|mk:∀b d e,u= .ref b->c b=j (.aF [d,e])->b1 c w.1 d->b1 c w.2 e->GB c w u
def eb(c:z)(w:av×av)(u:V):Prop:=GB c w u
def eb.aG(c b:z)(w:av×av)(u:V)(h:Q c b)(d:eb c w u):eb b w u:=
 let⟨e,f,g,i,k,l,m⟩:=d
 ⟨e,f,g,i,h _ _ k,l.same h,m.same h⟩
def eb.own(c:z)(w:av×av)(u:V)(q:aC)(d:c bs=j q)(f:∃aN,q= .L aN)(s:eb c w u)(aN:List V):eb (U c bs (.L aN)) w u:=by obtain⟨n,rfl⟩:=f;obtain⟨g,h,i,k,e,l,m⟩:=s;exact⟨g,h,i,k,by rw[aH (ct e d ⋯)];exact e,TupAt.bK l d (λ_=>⋯) (λ_ _=>⋯),TupAt.bK m d (λ_=>⋯) (λ_ _=>⋯)⟩
abbrev zG:be:=b3 51
inductive zH(G:List V)(c:z)(d:aW)(i:bn):Prop|mk:∀(e:t) (b:Nat) (f:List a2) (o:a2),G=[.ref e,.int (b:Nat)]->hB c e f->f[b]?=j o->vG o->(∀(O:z) (g:t) (h:List V),Q c O->O g=j (.L h)->br (eb O) (lI o b) h->d (.ref g) O)->zH G c d i
def s2:b2 ["nodes","label","node","here","parts","part"] Zh (bo zG):=⟨a,a,a,∅,a,∅,∅⟩
def Qh(F:bO K "steady_ways" "steady_ways" zG f ai)(T:cT K mg):bd P w K mg base a7 2 f ai Zh zH:=by
 refine F.ok s2 (λbn aI bo bp W=>?_) (λbX bY b0 aX aI bn bo bp b2 W=>?_);obtain⟨a4,s,br,d,rfl,_⟩:=W;rfl;obtain⟨a4,s,br,d,rfl,bs,bu,X,Y⟩:=W;obtain⟨b3,a6⟩:=T.lE;obtain⟨b6,a8⟩:=T.vp;obtain⟨b9,bA⟩:=T.vq;obtain⟨b_,bB⟩:=T.vr;obtain⟨ca,bD⟩:=T.vs;refine⟨_,ay (bZ (k:=2) s2.nd a (aU a) (bU cj (x 0) (x 1) (λ_ _=>rfl))) (ay (bZ (k:=3) s2.nd a (aU a) (cP (I (bQ a a6 (u:=.int 0) ⟨_,a⟩) (I (x 1) ae)))) (ay (sS (k:=4) (own:=[("part",5)]) (g:=d0 5) (cK:=hd) (bj:=hP (dx (ff (.int 0)) (dx (cD 5) e1))) a s2.nd a a (qU a a a a) (dU (a1 (x 2) a)) (f6 a) (λaX aI a9 a_ ba=>cF (k:=5) s2.nd a (aU a)) (λaX aI a9 a_ ba=>jk) (λaX aI a9 a_ ba=>cP (I (bQ a a6 ⟨_,a⟩) (I (x 5) ae)))) (ay (cp (b7 dL (a1 (x 2) a) c_ (cf _)) (aA (bx (dR (I (cP (I (cP (I (bQ a a8 (u:=.int 1) ⟨_,a⟩) (I (a1 (x 2) a) ae))) (I (x 3) ae))) ae)))) cO) (ay (cp (b7 dL (a1 (x 2) a) c_ (cf _)) (aA (bx (dR (I (cP (I (bU cj (x 4) bt (λ_ _=>rfl)) (I (cP (I (bQ a a8 (u:=.int 1) ⟨_,a⟩) (I (x 1) ae))) ae))) (I (cP (I (bU cj (x 4) bt (λ_ _=>rfl)) (I (x 3) ae))) ae))))) cO) (ay (cp (b7 dL (a1 (x 2) a) c_ (cf _)) (aA (bx (dR (I (cP (I (bU cj (x 4) bt (λ_ _=>rfl)) (I (x 3) ae))) (I (cP (I (bU cj (x 4) bt (λ_ _=>rfl)) (I (x 3) ae))) ae))))) cO) (ay (cp (b7 dL (a1 (x 2) a) c_ (cf _)) (aA (bx (dR (I (cP (I (bU cj (x 4) bt (λ_ _=>rfl)) (I (cP (I (bQ a bA (u:=.int 2) ⟨_,a⟩) (I (x 1) ae))) ae))) (I (cP (I (bU cj (x 4) bt (λ_ _=>rfl)) (I (cP (I (bQ a bB (u:=.int 3) ⟨_,a⟩) (I (x 1) ae))) ae))) ae))))) cO) (ay (cp (b7 dL (a1 (x 2) a) c_ (cf _)) (aA (bx (dR (I (cP (I (bU cj (x 4) bt (λ_ _=>rfl)) (I (cP (I (bQ a bD (u:=.int 4) ⟨_,a⟩) (I (x 1) ae))) ae))) ae)))) cO) (ay (cp (b7 dL (a1 (x 2) a) c_ (cf _)) (aA (bx (dR (I (cP (I (bU cj (x 4) bt (λ_ _=>rfl)) (I (x 3) ae))) ae)))) cO) (aA (bx (dR ae))))))))))),?_⟩;obtain⟨cc,bF,cd,bH⟩:=bs;obtain⟨e,bI,O,bb,S,bc,av,aL,bJ,bf⟩:=bH s d bu;refine⟨_,a,_,a,a4,_,_,_,a,a,an.au bF,dj (by rw[d2,bI];rfl),?_⟩;refine⟨_,a,YT,λZ bK=>?_⟩;have aM:=Q.fresh (q:=aC.aF [.int 0,.int (s:Nat)]) bK;refine⟨_,a,e,cW,O,S,_,a,aM _ _ bc,T.dB,T.lD,bJ,bb,a,⟨_,an.au (aM _ _ bf)⟩,?_⟩;intro J bL;refine iN (K:=K) (e:=bb) (M:=b' d.parts) (R:=b1) (aQ:=λk=>(d.parts[k]?).map ef) b1.aG b1.own (λaz aN=>an.au (aN _ _ (aM _ _ bf))) (by delta b';rw[aV];exact c1 (b5 X.mm nofun)) bL ?_ ?_;intro k aP az cg ci bN aN bP _;obtain⟨m,bR,rfl⟩:=jR bN;refine⟨a,mu ⟨_,a,YT,λaY aR=>bP _ _ (.node m) (Q.fresh aR) (by rw[bR];rfl) (eQ a)⟩⟩;intro aZ aT bg bS bh;have bT:(er (b' d.parts).length).filterMap (λk=>(d.parts[k]?).map ef)=d.parts.map ef:=by delta b';rw[aV];exact ms _ _
 rw[bT]at bh;have U:=aM.trans bg;have aa:=U _ _ bc;have aB:b1 aZ (.node s) (.ref Z):=⟨Z,a,.inl (bg _ _ (by rw[aw];rfl))⟩;have v:∀{aP:Str},decide (V.str d.kind=V.str aP)=H↔d.kind=aP:=λ{aP}=>by simp
 have part:∀{k m:Nat},d.parts[k]?=j m->∃u,aT[k]?=j u/\b1 aZ (.node m) u:=λ{k m} W=>by have:=bh.get (k:=k) (e:=ef m) (by rw[d2,W];rfl);exact this
 refine⟨_,a,e,cW,O,S,_,a,aa,T.dB,T.fh,av,a,_,a,gw (λb=>?_) λb=>?_⟩;have b:=v.mp b;obtain⟨aY,aR⟩:=X.name b;have aL:=aL.1;rw[aR]at aL;refine⟨_,a,e,cW,O,S,_,a,aa,T.dB,T.zk,aL,YT,λad af=>?_⟩;have N:=Q.fresh (q:=aC.aF [.int 1,.int (aY:Nat)]) af;refine⟨_,a,YT,λl A=>?_⟩;have c:=Q.fresh (q:=aC.aF [.ref ad,.ref Z]) A;refine⟨YS,λp r=>?_⟩;have h:=Q.fresh (q:=aC.L [.ref l]) r;refine Y _ p _ (((U.trans N).trans c).trans h) aw ?_;unfold lI;rw[as b,aR];exact .cons (eb.aG _ _ _ _ h ⟨l,_,_,a,aw,(eQ (aK:=c3 (.name aY)) a).same c,(aB.same N).same c⟩) .nil;have ax:¬d.kind="name":=λo=>b (v.mpr o);have n:∀{az:z} {k:Nat} {u:V} {o:Int},Q aZ az->o=(k:Nat)->aT[k]?=j u->an K az J aT/\gv aT o=j u:=λ{az k u o} aN bV W=>⟨an.au (aN _ _ bS),nB bV W⟩;refine⟨_,a,e,cW,O,S,_,a,aa,T.dB,T.fh,av,a,_,a,gw (λb=>?_) λb=>?_⟩;have b:=v.mp b;obtain⟨m,B,i⟩:=X.vH b;obtain⟨ah,C,aj⟩:=part (k:=0) (m:=m) (by rw[i];rfl);obtain⟨ak,D,al⟩:=part (k:=1) (m:=B) (by rw[i];rfl);refine⟨_,a,J,_,_,_,a,a,(n (Q.id _) a C).1,(n (k:=0) (Q.id _) a C).2,_,a,YT,λad af=>?_⟩;have N:=Q.fresh (q:=aC.aF [.int 1,.int (s:Nat)]) af;refine⟨YT,λl A=>?_⟩;have c:=Q.fresh (q:=aC.aF [ah,.ref ad]) A;have y:=N.trans c;refine⟨_,a,J,_,_,_,a,a,(n y a D).1,(n (k:=1) y a D).2,_,a,YT,λao r=>?_⟩;have h:=Q.fresh (q:=aC.aF [ak,.ref Z]) r;refine⟨YT,λp aE=>?_⟩;have G:=Q.fresh (q:=aC.L [.ref l,.ref ao]) aE;refine Y _ p _ (((U.trans y).trans h).trans G) aw ?_;unfold lI;rw[ag ax,as b];have ap:dv d 0=m:=by delta dv;rw[i];rfl
 have ar:dv d 1=B:=by delta dv;rw[i];rfl
 rw[ap,ar];exact .cons (eb.aG _ _ _ _ (h.trans G) ⟨l,_,_,a,aw,aj.same y,(eQ (aK:=c3 (.name s)) a).same c⟩) (.cons (eb.aG _ _ _ _ G ⟨ao,_,_,a,aw,al.same (y.trans h),aB.same (y.trans h)⟩) .nil);have aH:¬d.kind="let":=λo=>b (v.mpr o);refine⟨_,a,e,cW,O,S,_,a,aa,T.dB,T.fh,av,a,_,a,gw (λb=>?_) λb=>?_⟩;have b:=v.mp b;obtain⟨m,B,bi,i⟩:=X.s1 b;obtain⟨ah,C,aj⟩:=part (k:=1) (m:=B) (by rw[i];rfl);obtain⟨ak,D,al⟩:=part (k:=2) (m:=bi) (by rw[i];rfl);refine⟨_,a,J,_,_,_,a,a,(n (Q.id _) a C).1,(n (k:=1) (Q.id _) a C).2,_,a,YT,λl A=>?_⟩;have c:=Q.fresh (q:=aC.aF [ah,.ref Z]) A;refine⟨_,a,J,_,_,_,a,a,(n c a D).1,(n (k:=2) c a D).2,_,a,YT,λao r=>?_⟩;have h:=Q.fresh (q:=aC.aF [ak,.ref Z]) r;refine⟨YT,λp aE=>?_⟩;have G:=Q.fresh (q:=aC.L [.ref l,.ref ao]) aE;refine Y _ p _ (((U.trans c).trans h).trans G) aw ?_;unfold lI;rw[ag ax,ag aH,as b];have ap:dv d 1=B:=by delta dv;rw[i];rfl
 have ar:dv d 2=bi:=by delta dv;rw[i];rfl
 rw[ap,ar];exact .cons (eb.aG _ _ _ _ (h.trans G) ⟨l,_,_,a,aw,aj.same c,aB.same c⟩) (.cons (eb.aG _ _ _ _ G ⟨ao,_,_,a,aw,al.same (c.trans h),aB.same (c.trans h)⟩) .nil);have aW:¬d.kind="if":=λo=>b (v.mpr o);refine⟨_,a,e,cW,O,S,_,a,aa,T.dB,T.fh,av,a,_,a,gw (λb=>?_) λb=>?_⟩;have b:=v.mp b;obtain⟨m,B,i⟩:=X.pair b;obtain⟨ah,C,aj⟩:=part (k:=0) (m:=m) (by rw[i];rfl);obtain⟨ak,D,al⟩:=part (k:=1) (m:=B) (by rw[i];rfl);refine⟨_,a,J,_,_,_,a,a,(n (Q.id _) a C).1,(n (k:=0) (Q.id _) a C).2,_,a,YT,λad af=>?_⟩;have N:=Q.fresh (q:=aC.aF [.int 2,.int (s:Nat)]) af;refine⟨YT,λl A=>?_⟩;have c:=Q.fresh (q:=aC.aF [ah,.ref ad]) A;have y:=N.trans c;refine⟨_,a,J,_,_,_,a,a,(n y a D).1,(n (k:=1) y a D).2,_,a,YT,λao r=>?_⟩;have h:=Q.fresh (q:=aC.aF [.int 3,.int (s:Nat)]) r;refine⟨YT,λbk aE=>?_⟩;have G:=Q.fresh (q:=aC.aF [ak,.ref ao]) aE;refine⟨YT,λp bW=>?_⟩;have a0:=Q.fresh (q:=aC.L [.ref l,.ref bk]) bW;have a2:=h.trans G;refine Y _ p _ (((U.trans y).trans a2).trans a0) aw ?_;unfold lI;rw[ag ax,ag aH,ag aW,as b];have ap:dv d 0=m:=by delta dv;rw[i];rfl
 have ar:dv d 1=B:=by delta dv;rw[i];rfl
 rw[ap,ar];exact .cons (eb.aG _ _ _ _ (a2.trans a0) ⟨l,_,_,a,aw,aj.same y,(eQ (aK:=c3 (.first s)) a).same c⟩) (.cons (eb.aG _ _ _ _ a0 ⟨bk,_,_,a,aw,al.same (y.trans a2),(eQ (aK:=c3 (.second s)) a).same G⟩) .nil);have a3:¬d.kind="pair":=λo=>b (v.mpr o);refine⟨_,a,e,cW,O,S,_,a,aa,T.dB,T.fh,av,a,_,a,gw (λb=>?_) λb=>?_⟩;have b:=v.mp b;obtain⟨m,i⟩:=X.new b;obtain⟨ah,C,aj⟩:=part (k:=0) (m:=m) (by rw[i];rfl);refine⟨_,a,J,_,_,_,a,a,(n (Q.id _) a C).1,(n (k:=0) (Q.id _) a C).2,_,a,YT,λad af=>?_⟩;have N:=Q.fresh (q:=aC.aF [.int 4,.int (s:Nat)]) af;refine⟨YT,λl A=>?_⟩;have c:=Q.fresh (q:=aC.aF [ah,.ref ad]) A;refine⟨YS,λp r=>?_⟩;have h:=Q.fresh (q:=aC.L [.ref l]) r;refine Y _ p _ (((U.trans N).trans c).trans h) aw ?_;unfold lI;rw[ag ax,ag aH,ag aW,ag a3,as b];have ap:dv d 0=m:=by delta dv;rw[i];rfl
 rw[ap];exact .cons (eb.aG _ _ _ _ h ⟨l,_,_,a,aw,aj.same (N.trans c),(eQ (aK:=c3 (.inside s)) a).same c⟩) .nil;have bl:¬d.kind="new":=λo=>b (v.mpr o);refine⟨_,a,e,cW,O,S,_,a,aa,T.dB,T.fh,av,a,_,a,gw (λb=>?_) λb=>?_⟩;have b:=v.mp b;obtain⟨m,B,i⟩:=X.GA b;obtain⟨ak,D,al⟩:=part (k:=1) (m:=B) (by rw[i];rfl);refine⟨_,a,J,_,_,_,a,a,(n (Q.id _) a D).1,(n (k:=1) (Q.id _) a D).2,_,a,YT,λl A=>?_⟩;have c:=Q.fresh (q:=aC.aF [ak,.ref Z]) A;refine⟨YS,λp r=>?_⟩;have h:=Q.fresh (q:=aC.L [.ref l]) r;refine Y _ p _ ((U.trans c).trans h) aw ?_;unfold lI;rw[ag ax,ag aH,ag aW,ag a3,ag bl,as b];have ar:dv d 1=B:=by delta dv;rw[i];rfl
 rw[ar];exact .cons (eb.aG _ _ _ _ h ⟨l,_,_,a,aw,al.same c,aB.same c⟩) .nil;refine⟨dC _,λp r=>?_⟩;refine Y _ p _ (U.trans (Q.fresh r)) aw ?_;unfold lI;rw[ag ax,ag aH,ag aW,ag a3,ag bl,ag (λo=>b (v.mpr o):¬d.kind="set")];exact .nil
structure Good (ns:List a2):Prop where
 len:ns.length<=30
 ok:∀(n:Nat) (o:a2),ns[n]?=j o->vG o
 GC:∀(n:Nat) (o:a2),ns[n]?=j o->∀m∈o.parts,m<ns.length
 nd:(a_ ns).Nodup
abbrev fN(c:z)(p:t)(b:List a2)(d:c4)(aj:av->List aI):Prop:=TabAt c p b (a_ b) (bp b) d aj
def iS(d:k<bf.length):ef k∈a_ bf:=by delta a_ iP;simp only[bE,eV,jH];exact .inl (.inl (.inl ⟨k,d,a⟩))
def f_(d:bf.length<=30):(bp bf).length<=31:=by delta bp;rw[cy];have:=ip (pK bf) bf.length;omega
def Qi{r:Nat}(d:zI r∈bp bf):∃v,bf[r]?=j v/\v.kind="fun":=by
 unfold bp at d;obtain d|d:=bm.mp d;cases d;obtain⟨e,_,c⟩:=eV.mp d;unfold pK at c;cases f:bf[e]? with
 |none=>rw[f]at c;cases c
 |some v=>
  rw[f]at c;simp only[d3]at c;have b:ea v.kind e=j (.fn r):=by
   cases h:ea v.kind e with
   |none=>rw[h]at c;cases c
   |some m=>
    rw[h]at c;cases m with
    |num=>cases c
    |_=>exact c
  unfold ea at b;by_cases i:v.kind="number"\/v.kind="in"\/v.kind="add";rw[as i]at b;cases b;rw[ag i]at b;by_cases g:v.kind="fun";rw[as g]at b;cases b;exact⟨v,f,g⟩;rw[ag g]at b;by_cases k:v.kind="pair";rw[as k]at b;cases b;rw[ag k]at b;by_cases l:v.kind="new";rw[as l]at b;cases b;rw[ag l]at b;cases b
def fO(b:List a2)(aj:av->List aI)(made:Int)(m:av):List Nat:=(b6 (bp b) (aj m)).filterMap (fM made)
def zJ(d:bf.length<=30)(aj:av->List aI)(made:Int)(m:av):(fO bf aj made m).length<=31:=
 b5 (hW _ _) (b5 (hW _ _) (f_ d))
def Qj{r:Nat}(d:r∈fO bf aj 1 m):∃v,bf[r]?=j v/\v.kind="fun":=by
 obtain⟨g,h,b⟩:=eV.mp d;obtain⟨k,i,c⟩:=eV.mp h;unfold kS at c;split at c;cases(c);unfold fM at b;split at b;rename_i e;cases g with
 |fn f=>cases(b);exact Qi i
 |num=>exact aq e nofun
 |pair f=>exact aq e (by show¬(2:Int)=1;decide)
 |ref f=>exact aq e (by show¬(3:Int)=1;decide)
 cases(b);cases(c)
def pM(b:List a2)(r:Nat):Nat:=match b[r]? with
 |some c=>dv c 0
 |none=>0
open Vacfab.Place in
def s3(b:List a2)(d:av->List aI)(f s n:Nat):List (av×av):=(fO b d 1 (node f)).flatMap λc=>[(node s,name c),(node (pM b c),node n)]
abbrev zK:be:=b3 53
inductive zL(G:List V)(c:z)(e:aW)(q:bn):Prop|mk:∀(p bs:t) (g h i:V) (d:List V) (b:List a2) (A:c4) (k:av->List aI) (f l m:Nat),G=[.ref p,g,.ref bs]->fN c p b A k->Good b->b1 c (.node m) g->c bs=j (.L d)->d[0]?=j h->b1 c (.node f) h->d[1]?=j i->b1 c (.node l) i->f<b.length->(∀(O:z) (n:t) (o:List V),Q c O->O n=j (.L o)->br (eb O) (s3 b k f l m) o->e (.ref n) O)->zL G c e q
def zM:b2 ["table","here","parts","ways","made"] Y6 (bo zK):=⟨a,a,a,∅,a,∅,∅⟩
inductive GD(c:z)(p g:t)(h:V)(d:List a2)(e:av->List aI)(f s n:Nat)(W aa:t)(k:Nat)(i:bT.St)(b:z):Prop|mk:∀o l,i=[j (.ref p),j h,j (.ref g),j (.ref W),o]->Q c b->b aa=j (.L (b' (fO d e 1 (.node f))))->(b W=j (.L l)/\br (eb b) (((fO d e 1 (.node f)).take k).flatMap λm=>[(.node s,.name m),(.node (pM d m),.node n)]) l)->GD c p g h d e f s n W aa k i b
def Qk(F:bO K "call_ways" "call_ways" zK f ai)(T:cT K mg)(aX:eE P w K mg base a7 3 b_ "labels_at" Y_ sZ):bd P w K mg base a7 4 f ai Y6 zL:=by
 refine F.ok zM (λaY Y aZ a0 Z=>?_) (λbV a2 bW bX Y aY aZ a0 a3 Z=>?_);obtain⟨d,O,R,a6,y,a8,h,a2,i,f,z,A,rfl,_⟩:=Z;rfl;obtain⟨d,O,R,a6,y,a8,h,S,i,n,z,A,rfl,aa,ad,a9,ar,a_,ba,bb,bc,bf,bg⟩:=Z;obtain⟨bY,bh⟩:=T.lE;obtain⟨b0,bi⟩:=T.vp;obtain⟨b1,bj⟩:=T.vt;refine⟨_,ay (bZ (k:=3) zM.nd a (aU a) (dR ae)) (ay (fg gx a (dU (fI aX (x 0) a3 bN (I (bU cj (x 2) bt (λ_ _=>rfl)) (I (bQ a bj (u:=.int 1) ⟨_,a⟩) ae)))) (cF (k:=4) zM.nd a (aU a)) (ay (c' (fF fK hT iq hS (x 3) (I (cP (I (bU cj (x 2) bt (λ_ _=>rfl)) (I (cP (I (bQ a bi (u:=.int 1) ⟨_,a⟩) (I (x 4) ae))) ae))) ae))) (aA (c' (fF fK hT iq hS (x 3) (I (cP (I (cP (I (bQ a bh (u:=.int 0) ⟨_,a⟩) (I (bU cj (a1 (bU cj (a1 (x 0) a) (x 4) (λ_ _=>rfl)) a) bt (λ_ _=>rfl)) ae))) (I (x 1) ae))) ae)))))) (aA (bx (x 3)))),?_⟩;refine⟨dC _,λW ah=>?_⟩;have B:=Q.fresh (q:=aC.L []) ah;refine⟨_,a,d,S.a4,_,a,B _ _ aa.az,a,_,a,O,_,_,_,a,a,an.au (B _ _ ar),nB (af:=0) a a_,d,_,1,h,_,_,S,i,.node n,a,aa.same B,ba.same B,iS bf,f_ ad.len,λb2 C av ax aB=>⟨C,a,⟨_,an.au aB⟩,?_⟩⟩;have aE:C≠W:=λD=>(by rw[D,aw]at ax;cases ax);refine g' (K:=K) (e:=C) (M:=b' (fO h i 1 (.node n))) (GD Y d O R h i n z A W C)
  ⟨E,_,a,B.trans av,aB,av _ _ aw,by simpa using br.nil⟩ (λk aI r _ ⟨_,_,_,_,D,_⟩=>an.au D) ?_ ?_
 rintro k l aI r bk ⟨bl,m,rfl,G,aL,J,N⟩;obtain⟨c,aM,rfl⟩:=jR bk;obtain⟨aj,ak,bn⟩:=Qj (ev aM);obtain⟨b,aN⟩:=(ad.ok c aj ak).fn bn;have bo:pM h c=b:=by unfold pM dv;rw[ak];show aj.parts.getD 0 0=b;rw[aN];rfl
 have b3:m.length<=62:=by rw[<-N.length,q',ic];have:=zJ ad.len i 1 (.node n);omega
 refine⟨_,a,.inl ⟨a,_,an.au J⟩,_,a,O,_,_,_,a,a,an.au (G _ _ ar),nB (af:=1) a bb,_,a,YT,λo bp=>?_⟩;refine⟨YT,λg bs=>?_⟩;have aP:=Q.fresh (q:=aC.aF [y,.ref o]) bs;have s:=(Q.fresh (q:=aC.aF [.int 1,.int (c:Nat)]) bp).trans aP;refine⟨W,_,_,a,a,s _ _ J,c1 (by omega),?_⟩;have aQ:br (eb (U (U (U r o (.aF [.int 1,.int (c:Nat)])) g (.aF [y,.ref o])) W (.L (m++[.ref g])))) _ _:=
  ((N.aG λl p d=>eb.aG _ _ l p s d).snoc (e:=(ef z,h7 c)) (b:=.ref g) ⟨g,_,_,a,aw,(bc.same G).same s,(eQ (aK:=c3 (.name c)) a).same aP⟩).aG λl p d=>eb.own _ l p _ (s _ _ J) ⟨_,a⟩ d _
 have V:Q Y (U (U (U r o (.aF [.int 1,.int (c:Nat)])) g (.aF [y,.ref o])) W (.L (m++[.ref g]))):=(G.trans s).bK ah;generalize aR:U (U (U r o (.aF [.int 1,.int (c:Nat)])) g (.aF [y,.ref o])) W (.L (m++[.ref g]))=al at aQ V;have ao:al W=j (.L (m++[.ref g])):=by rw[<-aR,aw]
 have bu:al C=j (.L (b' (fO h i 1 (.node n)))):=by rw[<-aR,aH aE];exact s _ _ aL
 have aT:=aa.same V;obtain⟨b6,bA,b7,bB⟩:=aT.eX;obtain⟨e,bD,bF,bH,bI,bJ,b9,ca,bL,bP⟩:=bB c aj ak;refine⟨_,a,.inl ⟨a,_,an.au ao⟩,_,a,d,b_,S.a4,_,_,a,aT.az,T.dV,T.iO,a,_,a,S.cs,_,_,_,a,a,an.au bA,dj (by rw[d2,bD];rfl),e,cW,bF,bI,_,a,bJ,T.dB,T.lD,bL,bH,_,_,_,a,a,an.au bP,nB (af:=0) a (by rw[aN];rfl),YT,λap bR=>?_⟩;refine⟨_,a,YT,λX bS=>?_⟩;have aW:=Q.fresh (q:=aC.aF [.ref ap,R]) bS;have v:=(Q.fresh (q:=aC.aF [.int 0,.int (b:Nat)]) bR).trans aW;refine⟨W,_,_,a,a,v _ _ ao,c1 (by rw[b4,fS];omega),?_⟩;refine⟨_,_,a,(V.trans v).bK ah,?_,aw,?_⟩;rw[aH aE];exact v _ _ bu;have bT:br (eb (U (U (U al ap (.aF [.int 0,.int (b:Nat)])) X (.aF [.ref ap,R])) W (.L (m++[.ref g]++[.ref X])))) _ _:=
  ((aQ.aG λl p d=>eb.aG _ _ l p v d).snoc (e:=(ef b,ef A)) (b:=.ref X) ⟨X,_,_,a,aw,(eQ (aK:=c3 (.node b)) a).same aW,(a9.same V).same v⟩).aG λl p d=>eb.own _ l p _ (v _ _ ao) ⟨_,a⟩ d _
 rw[eF aM,lG];have:([c].flatMap λc=>[(ef z,h7 c),(ef (pM h c),ef A)])=[(ef z,h7 c),(ef b,ef A)]:=by rw[<-bo];rfl
 rw[this];simpa[eW]using bT;rintro aI r ⟨bl,m,rfl,G,aL,J,N⟩;have D:(b' (fO h i 1 (.node n))).length=(fO h i 1 (.node n)).length:=aV _;rw[D,f8]at N;exact⟨_,a,bg r W m G J N⟩
open Vacfab.Place in
def my(c:List a2)(d:av->List aI)(o:a2)(n:Nat):List (av×av):=
 if o.kind="call" then s3 c d (dv o 0) (dv o 1) n
 else if o.kind="fst" then(fO c d 2 (node (dv o 0))).map λb=>(first b,node n)
 else if o.kind="snd" then(fO c d 2 (node (dv o 0))).map λb=>(second b,node n)
 else if o.kind="get" then(fO c d 3 (node (dv o 0))).map λb=>(inside b,node n)
 else if o.kind="set" then(fO c d 3 (node (dv o 0))).map λb=>(node (dv o 1),inside b)
 else[]
abbrev zN:be:=b3 52
inductive zO(G:List V)(c:z)(e:aW)(i:bn):Prop|mk:∀(p:t) (d:Nat) (b:List a2) (A:c4) (f:av->List aI) (o:a2),G=[.ref p,.int (d:Nat)]->fN c p b A f->Good b->b[d]?=j o->(∀(O:z) (g:t) (h:List V),Q c O->O g=j (.L h)->br (eb O) (my b f o d) h->e (.ref g) O)->zO G c e i
def jS:b2 ["table","label","node","here","parts","part","made"] Zi (bo zN):=⟨a,a,a,∅,a,∅,∅⟩
def Ql(F:bO K "asked_ways" "asked_ways" zN f ai)(T:cT K mg)(bc:eE P w K mg base a7 3 b_ "labels_at" Y_ sZ)(ck:bI P w K mg base a7 4 "call_ways" Y6 zL):bd P w K mg base a7 5 f ai Zi zO:=by
 refine F.ok jS (λcl n cm cn ah=>?_) (λc7 co c9 r n cl cm cn bV ah=>?_);obtain⟨S,aj,v,co,N,o,rfl,_⟩:=ah;rfl;obtain⟨S,aj,v,X,N,o,rfl,bn,aH,bo,aY⟩:=ah;obtain⟨c',bW⟩:=T.lE;obtain⟨db,cq⟩:=T.vq;obtain⟨dc,ct⟩:=T.vr;obtain⟨dd,bX⟩:=T.vs;obtain⟨de,bY⟩:=T.zl;obtain⟨df,b0⟩:=T.vu;have bf:cV 3 _:=bV.aG nofun;refine⟨_,ay (bZ (k:=2) jS.nd a (aU a) (bU cj (a1 (x 0) a) (x 1) (λ_ _=>rfl))) (ay (bZ (k:=3) jS.nd a (lA a) (cP (I (bQ a bW (u:=.int 0) ⟨_,a⟩) (I (x 1) ae)))) (ay (bZ (k:=4) jS.nd a (lA a) (hV (own:=[("part",5)]) (g:=d0 5) (cK:=hd) (bj:=hP (dx (ff (.int 0)) (dx (cD 5) e1))) a jS.nd (dU (a1 (x 2) a)) (f6 a) (λr n y A B=>cF (k:=5) jS.nd a (aU a)) (λr n y A B=>jk) (λr n y A B=>cP (I (bQ a bW ⟨_,a⟩) (I (x 5) ae))))) (ay (cp (b7 dL (a1 (x 2) a) c_ (cf _)) (aA (bx (bP ck bV a bN (I (x 0) (I (x 3) (I (x 4) ae)))))) cO) (ay (cp (b7 dL (a1 (x 2) a) c_ (cf _)) (aA (bx (hV (own:=[("made",6)]) (g:=d0 6) (cK:=hd) (bj:=hP (dx (hP (dx (ff (.int 2)) (dx (cD 6) e1))) (dx (cD 3) e1))) a jS.nd (dU (fI bc (x 0) bf bN (I (bU cj (x 4) bt (λ_ _=>rfl)) (I (bQ a bY (u:=.int 2) ⟨_,a⟩) ae)))) (f6 a) (λr n y A B=>cF (k:=6) jS.nd a (aU a)) (λr n y A B=>jk) (λr n y A B=>cP (I (cP (I (bQ a cq ⟨_,a⟩) (I (x 6) ae))) (I (x 3) ae)))))) cO) (ay (cp (b7 dL (a1 (x 2) a) c_ (cf _)) (aA (bx (hV (own:=[("made",6)]) (g:=d0 6) (cK:=hd) (bj:=hP (dx (hP (dx (ff (.int 3)) (dx (cD 6) e1))) (dx (cD 3) e1))) a jS.nd (dU (fI bc (x 0) bf bN (I (bU cj (x 4) bt (λ_ _=>rfl)) (I (bQ a bY (u:=.int 2) ⟨_,a⟩) ae)))) (f6 a) (λr n y A B=>cF (k:=6) jS.nd a (aU a)) (λr n y A B=>jk) (λr n y A B=>cP (I (cP (I (bQ a ct ⟨_,a⟩) (I (x 6) ae))) (I (x 3) ae)))))) cO) (ay (cp (b7 dL (a1 (x 2) a) c_ (cf _)) (aA (bx (hV (own:=[("made",6)]) (g:=d0 6) (cK:=hd) (bj:=hP (dx (hP (dx (ff (.int 4)) (dx (cD 6) e1))) (dx (cD 3) e1))) a jS.nd (dU (fI bc (x 0) bf bN (I (bU cj (x 4) bt (λ_ _=>rfl)) (I (bQ a b0 (u:=.int 3) ⟨_,a⟩) ae)))) (f6 a) (λr n y A B=>cF (k:=6) jS.nd a (aU a)) (λr n y A B=>jk) (λr n y A B=>cP (I (cP (I (bQ a bX ⟨_,a⟩) (I (x 6) ae))) (I (x 3) ae)))))) cO) (ay (cp (b7 dL (a1 (x 2) a) c_ (cf _)) (aA (bx (hV (own:=[("made",6)]) (g:=d0 6) (cK:=hd) (bj:=hP (dx (hx (uF K) (cD 4) (ff (.int 1))) (dx (hP (dx (ff (.int 4)) (dx (cD 6) e1))) e1))) a jS.nd (dU (fI bc (x 0) bf bN (I (bU cj (x 4) bt (λ_ _=>rfl)) (I (bQ a b0 (u:=.int 3) ⟨_,a⟩) ae)))) (f6 a) (λr n y A B=>cF (k:=6) jS.nd a (aU a)) (λr n y A B=>jk) (λr n y A B=>cP (I (bU cj (x 4) bt (λ_ _=>rfl)) (I (cP (I (bQ a bX ⟨_,a⟩) (I (x 6) ae))) ae)))))) cO) (aA (bx (dR ae)))))))))),?_⟩;have aZ:=aH.ok aj o bo;obtain⟨dg,cu,dh,cw⟩:=bn.eX;obtain⟨e,cA,a0,b2,a2,b3,a8,di,cC,b6⟩:=cw aj o bo;refine⟨_,a,S,b_,X.a4,_,_,a,bn.az,T.dV,T.iO,a,_,a,X.cs,_,_,_,a,a,an.au cu,dj (by rw[d2,cA];rfl),?_⟩;refine⟨_,a,YT,λa9 cE=>?_⟩;have bg:=Q.fresh (q:=aC.aF [.int 0,.int (aj:Nat)]) cE;refine⟨_,a,e,cW,a0,a2,_,a,bg _ _ b3,T.dB,T.lD,cC,b2,a,⟨_,an.au (bg _ _ b6)⟩,?_⟩;intro C bp;refine iN (K:=K) (e:=b2) (M:=b' o.parts) (R:=b1) (aQ:=λk=>(o.parts[k]?).map ef) b1.aG b1.own (λb h=>an.au (h _ _ (bg _ _ b6))) (by delta b';rw[aV];exact c1 (b5 aZ.mm nofun)) bp ?_ ?_;intro k ak b ap cG bs h Y _;obtain⟨m,b9,rfl⟩:=jR bs;refine⟨a,mu ⟨_,a,YT,λca cH=>Y _ _ (.node m) (Q.fresh cH) (by rw[b9];rfl) (eQ a)⟩⟩;intro aI bA cc a3 cd;have cI:(er (b' o.parts).length).filterMap (λk=>(o.parts[k]?).map ef)=o.parts.map ef:=by delta b';rw[aV];exact ms _ _
 rw[cI]at cd;have aL:=bg.trans cc;have a_:=aL _ _ b3;have ar:=bn.same aL;have bh:b1 aI (.node aj) (.ref a9):=⟨a9,a,.inl (cc _ _ (by rw[aw];rfl))⟩;have al:∀{ak:Str},decide (V.str o.kind=V.str ak)=H↔o.kind=ak:=λ{ak}=>by simp
 have part:∀{k m:Nat},o.parts[k]?=j m->(∃u,bA[k]?=j u/\b1 aI (.node m) u)/\m<v.length/\dv o k=m:=λ{k m} ah=>by have:=cd.get (k:=k) (e:=ef m) (by rw[d2,ah];rfl);exact⟨this,aH.GC aj o bo m (ev ah),by delta dv;rw[zP,ah];rfl⟩
 have bi:∀{made:Int} {m:Nat} {ax:V} {w:Nat->av×av} {bj:bu} {aM:bT.St} {bB:aW},bA[0]?=j ax->b1 aI (.node m) ax->m<v.length->(∀(i:Nat) (b:z) (ap:V->z->Prop),Q aI b->(∀a6 aN,Q b aN->eb aN (w i) a6->ap a6 aN)->bj (aM.set 6 (j (.int (i:Nat)))) b ap)->(∀b d D,Q aI b->b d=j (.L D)->br (eb b) ((fO v N made (.node m)).map w) D->bB (.ref d) b)->cB aM [6]=aM->(∀ak,cB (aM.set 6 ak) [6]=aM)->∀(p:z) (d:t),Q aI p->p d=j (.L (b' (fO v N made (.node m))))->∀C,p C=E->∃W:Nat->Nat->z->Prop,(∃bk,W 0 bk (U p C (.L [])))/\∀k bk n,W k bk n->((jM K d).stop k n/\bB (.ref C) n)\/((jM K d).go k n/\∃bD:z->Prop,(∀b,bD b->∃cg,cg<bk/\W (k+1) cg b)/\∀ak b,(jM K d).jh k n ak b->d0 6 ak (cB aM [6]) b λbF aI=>cB bF [6]=cB aM [6]/\hd bF aI λca p=>if ca=H then bj bF p λa6 aN=>∃bH,aN C=j (.L bH)/\bH.length<aD/\bD (U aN C (.L (bH++[a6])))else bD p):=by intro made m ax w bj aM bB G J b9 cJ cL cM cQ p d ao l C bp;refine iN (K:=K) (e:=d) (M:=b' (fO v N made (.node m))) (R:=eb) (aQ:=λk=>((fO v N made (.node m))[k]?).map w) eb.aG eb.own (λb h=>an.au (h _ _ l)) (by delta b';rw[aV];exact c1 (b5 (zJ aH.len N made _) nofun)) bp ?_ ?_;intro k ak b ap cG bs h Y _;obtain⟨i,cX,rfl⟩:=jR bs;rw[cM];exact⟨cQ _,mu (cJ i b ap (ao.trans h) λa6 aN cY hw=>Y a6 aN (w i) cY (by rw[cX];rfl) hw)⟩;intro b D h cZ ah;have Z:(b' (fO v N made (.node m))).length=(fO v N made (.node m)).length:=aV _;rw[Z,ms]at ah;exact cL b C D (ao.trans h) cZ ah
 refine⟨_,a,e,cW,a0,a2,_,a,a_,T.dB,T.fh,a8,a,_,a,gw (λc=>?_) λc=>?_⟩;have c:=al.mp c;obtain⟨m,ba,aa⟩:=aZ.call c;obtain⟨⟨ax,G,J⟩,O,aB⟩:=part (k:=0) (m:=m) (by rw[aa];rfl);obtain⟨⟨bJ,bK,bL⟩,c0,bR⟩:=part (k:=1) (m:=ba) (by rw[aa];rfl);refine⟨_,a,_,a,_,a,S,C,_,ax,bJ,bA,v,X,N,m,ba,aj,a,ar,aH,bh,a3,G,J,bK,bL,O,λb d D h l aE=>aY b d D (aL.trans h) l ?_⟩;unfold my;rw[as c,aB,bR];exact aE;have bb:¬o.kind="call":=λZ=>c (al.mpr Z);refine⟨_,a,e,cW,a0,a2,_,a,a_,T.dB,T.fh,a8,a,_,a,gw (λc=>?_) λc=>?_⟩;have c:=al.mp c;obtain⟨m,aa⟩:=aZ.fst c;obtain⟨⟨ax,G,J⟩,O,aB⟩:=part (k:=0) (m:=m) (by rw[aa];rfl);refine⟨_,a,S,X.a4,_,a,ar.az,a,_,a,C,_,_,_,a,a,an.au a3,nB (af:=0) a G,S,_,2,v,_,_,X,N,.node m,a,ar,J,iS O,f_ aH.len,λp d ao _ l=>⟨d,a,⟨_,an.au l⟩,?_⟩⟩;refine bi (w:=λi=>(.first i,.node aj)) G J O (λi b ap h Y=>?_) (λb d D h l aE=>aY b d D (aL.trans h) l ?_) a (λ_=>rfl) p d ao l;refine⟨_,a,YT,λaP aR=>?_⟩;have ad:=Q.fresh (q:=aC.aF [.int 2,.int (i:Nat)]) aR;refine⟨_,a,YT,λaT aX=>?_⟩;have s:=Q.fresh (q:=aC.aF [.ref aP,.ref a9]) aX;exact Y _ _ (ad.trans s) ⟨aT,_,_,a,aw,(eQ (aK:=c3 (.first i)) a).same s,(bh.same h).same (ad.trans s)⟩;unfold my;rw[ag bb,as c,aB];exact aE;have bl:¬o.kind="fst":=λZ=>c (al.mpr Z);refine⟨_,a,e,cW,a0,a2,_,a,a_,T.dB,T.fh,a8,a,_,a,gw (λc=>?_) λc=>?_⟩;have c:=al.mp c;obtain⟨m,aa⟩:=aZ.snd c;obtain⟨⟨ax,G,J⟩,O,aB⟩:=part (k:=0) (m:=m) (by rw[aa];rfl);refine⟨_,a,S,X.a4,_,a,ar.az,a,_,a,C,_,_,_,a,a,an.au a3,nB (af:=0) a G,S,_,2,v,_,_,X,N,.node m,a,ar,J,iS O,f_ aH.len,λp d ao _ l=>⟨d,a,⟨_,an.au l⟩,?_⟩⟩;refine bi (w:=λi=>(.second i,.node aj)) G J O (λi b ap h Y=>?_) (λb d D h l aE=>aY b d D (aL.trans h) l ?_) a (λ_=>rfl) p d ao l;refine⟨_,a,YT,λaP aR=>?_⟩;have ad:=Q.fresh (q:=aC.aF [.int 3,.int (i:Nat)]) aR;refine⟨_,a,YT,λaT aX=>?_⟩;have s:=Q.fresh (q:=aC.aF [.ref aP,.ref a9]) aX;exact Y _ _ (ad.trans s) ⟨aT,_,_,a,aw,(eQ (aK:=c3 (.second i)) a).same s,(bh.same h).same (ad.trans s)⟩;unfold my;rw[ag bb,ag bl,as c,aB];exact aE;have bS:¬o.kind="snd":=λZ=>c (al.mpr Z);refine⟨_,a,e,cW,a0,a2,_,a,a_,T.dB,T.fh,a8,a,_,a,gw (λc=>?_) λc=>?_⟩;have c:=al.mp c;obtain⟨m,aa⟩:=aZ.get c;obtain⟨⟨ax,G,J⟩,O,aB⟩:=part (k:=0) (m:=m) (by rw[aa];rfl);refine⟨_,a,S,X.a4,_,a,ar.az,a,_,a,C,_,_,_,a,a,an.au a3,nB (af:=0) a G,S,_,3,v,_,_,X,N,.node m,a,ar,J,iS O,f_ aH.len,λp d ao _ l=>⟨d,a,⟨_,an.au l⟩,?_⟩⟩;refine bi (w:=λi=>(.inside i,.node aj)) G J O (λi b ap h Y=>?_) (λb d D h l aE=>aY b d D (aL.trans h) l ?_) a (λ_=>rfl) p d ao l;refine⟨_,a,YT,λaP aR=>?_⟩;have ad:=Q.fresh (q:=aC.aF [.int 4,.int (i:Nat)]) aR;refine⟨_,a,YT,λaT aX=>?_⟩;have s:=Q.fresh (q:=aC.aF [.ref aP,.ref a9]) aX;exact Y _ _ (ad.trans s) ⟨aT,_,_,a,aw,(eQ (aK:=c3 (.inside i)) a).same s,(bh.same h).same (ad.trans s)⟩;unfold my;rw[ag bb,ag bl,ag bS,as c,aB];exact aE;have ci:¬o.kind="get":=λZ=>c (al.mpr Z);refine⟨_,a,e,cW,a0,a2,_,a,a_,T.dB,T.fh,a8,a,_,a,gw (λc=>?_) λc=>?_⟩;have c:=al.mp c;obtain⟨m,ba,aa⟩:=aZ.GA c;obtain⟨⟨ax,G,J⟩,O,aB⟩:=part (k:=0) (m:=m) (by rw[aa];rfl);obtain⟨⟨bJ,bK,bL⟩,c0,bR⟩:=part (k:=1) (m:=ba) (by rw[aa];rfl);refine⟨_,a,S,X.a4,_,a,ar.az,a,_,a,C,_,_,_,a,a,an.au a3,nB (af:=0) a G,S,_,3,v,_,_,X,N,.node m,a,ar,J,iS O,f_ aH.len,λp d ao _ l=>⟨d,a,⟨_,an.au l⟩,?_⟩⟩;refine bi (w:=λi=>(.node ba,.inside i)) G J O (λi b ap h Y=>?_) (λb d D h l aE=>aY b d D (aL.trans h) l ?_) a (λ_=>rfl) p d ao l;refine⟨_,a,C,_,_,_,a,a,an.au (h _ _ a3),nB (af:=1) a bK,_,a,YT,λaP aR=>?_⟩;have ad:=Q.fresh (q:=aC.aF [.int 4,.int (i:Nat)]) aR;refine⟨YT,λaT aX=>?_⟩;have s:=Q.fresh (q:=aC.aF [bJ,.ref aP]) aX;exact Y _ _ (ad.trans s) ⟨aT,_,_,a,aw,(bL.same h).same (ad.trans s),(eQ (aK:=c3 (.inside i)) a).same s⟩;unfold my;rw[ag bb,ag bl,ag bS,ag ci,as c,aB,bR];exact aE;refine⟨dC _,λd c4=>?_⟩;refine aY _ d _ (aL.trans (Q.fresh c4)) aw ?_;unfold my;rw[ag bb,ag bl,ag bS,ag ci,ag (λZ=>c (al.mpr Z):¬o.kind="set")];exact .nil
def fr(b:List a2)(aj:av->List aI)(o:a2)(n:Nat):List (av×av):=lI o n++my b aj o n
def GF(o:a2)(n:Nat):(lI o n).length<=2:=by have b:(1:Nat)<=2:=nofun;unfold lI;split;exact b;split;exact bC 2;split;exact bC 2;split;exact bC 2;split;exact b;split;exact b;exact dC _
def GG(d:bf.length<=30)(aj:av->List aI)(o:a2)(n:Nat):(my bf aj o n).length<=62:=by have b:=zJ d aj;unfold my;split;unfold s3;rw[q'];have:=b 1 (.node (dv o 0));omega;split;rw[aV];exact b5 (b _ _) nofun;split;rw[aV];exact b5 (b _ _) nofun;split;rw[aV];exact b5 (b _ _) nofun;split;rw[aV];exact b5 (b _ _) nofun;decide
abbrev zQ:be:=b3 50
inductive vI(G:List V)(c:z)(e:aW)(i:bn):Prop|mk:∀(p:t) (d:Nat) (b:List a2) (A:c4) (f:av->List aI) (o:a2),G=[.ref p,.int (d:Nat)]->fN c p b A f->Good b->b[d]?=j o->(∀(O:z) (g:t) (h:List V),Q c O->O g=j (.L h)->br (eb O) (fr b f o d) h->e (.ref g) O)->vI G c e i
abbrev dW(d:List a2)(e:c4)(c f:z):Prop:=Ge (λb=>∃m∈a_ d,b=e.fL m) c f
def dW.trans{d f:z}(e:dW bf A c d)(b:dW bf A d f):dW bf A c f:=λg h k i=>b g h (e g h k i) i
def dW.au{b:z}(e:Q c b):dW bf A c b:=λd f g _=>e d f g
def dW.nd(h:dW bf A c O)(e:fN c p bf A aj){q:aC}(d:c b=j q)(f:∀aB,q≠.cI aB):O b=j q:=h b q d λ⟨g,i,k⟩=>by rw[k,e.kb g i]at d;cases d;exact f _ a
def TupAt.mz(d:TupAt c u aK)(f:fN c p bf A aj)(h:dW bf A c O):TupAt O u aK:=by obtain⟨g,i,b⟩:=d;refine⟨g,i,?_⟩;obtain b|⟨k,b⟩:=b;exact .inl (h.nd f b (λ_=>⋯));exact .inr ⟨k,h.nd f b (λ_=>⋯)⟩
theorem eb.mz{w:av×av}(d:eb c w u)(b:fN c p bf A aj)(h:dW bf A c O):eb O w u:=
 let⟨e,f,g,i,k,l,m⟩:=d
 ⟨e,f,g,i,h.nd b k (λ_=>⋯),l.mz b h,m.mz b h⟩
def zR(b:List a2)(S:av->aI->Prop):Prop:=∀(c:Nat) (o:a2) (aj:av->List aI),b[c]?=j o->(∀m∈a_ b,∀e∈aj m,e∈bp b/\S m e)->∀w∈fr b aj o c,∀e,S w.1 e->S w.2 e
structure mA (ns:List a2) (vJ ir:av->List aI) (g:Bool):Prop where
 aG:∀m e,e∈vJ m->e∈ir m
 sub:∀S,zR ns S->(∀m∈a_ ns,∀e∈vJ m,S m e)->∀m∈a_ ns,∀e∈ir m,S m e
 no:g=am->ir=vJ
 zS:g=H->gy (a_ ns) vJ<gy (a_ ns) ir
def mA.start:mA bf aj aj am:=⟨λ_ _ b=>b,λ_ _ b=>b,λ_=>rfl,⋯⟩
def Qm(h:dg.Nodup)(f:m∈dg):gy dg (mw aj m (aj m++[e]))=gy dg aj+1:=by
 delta gy;induction dg with
 |nil=>cases f
 |cons ao c i=>
  have g:=e9.mp h;rw[bz,bz,l1,l1];by_cases d:ao=m;subst d;have:(c.map λm=>(mw aj ao (aj ao++[e]) m).length)=c.map λm=>(aj m).length:=by apply nc;intro k l;rw[lH (m:=ao) (ao:=k) (λb=>g.1 (by rw[<-b];exact l))]
  rw[this,mx,b4,fS];omega;have n:m∈c:=by obtain b|b:=bm.mp f;exact aq b.symm d;exact b
  rw[i g.2 n,lH d];omega
def Qn{b:av->List aI}(c:∀m∈dg,(aj m).Nodup)(d:∀m e,e∈aj m->e∈b m):gy dg aj<=gy dg b:=by
 delta gy;induction dg with
 |nil=>exact bC _
 |cons f k g=>rw[bz,bz,l1,l1];have l:=Y.m6 (c f b8) (λe h=>d f e h);have n:=g λm i=>c m (cv _ i);omega
def mA.bK{l k:av->List aI}{g:Bool}(y:mA bf l aj g)(e_:Good bf){n:Nat}(s:bf[n]?=j o){w:av×av}(hw:w∈fr bf k o n)(p:∀m∈a_ bf,∀e∈k m,e∈bp bf/\e∈aj m)(u:w.1∈a_ bf)(v:w.2∈a_ bf)(x:e∈aj w.1):
  mA bf l (mw aj w.2 (aj w.2++[e])) H:=by
 have z:∀m b,b∈aj m->b∈mw aj w.2 (aj w.2++[e]) m:=λm b d=>by by_cases h:m=w.2;subst h;rw[mx];exact g5 _ d;rw[lH h];exact d
 refine⟨λm b d=>z m b (y.aG m b d),λS q A m f b c=>?_,⋯,λ_=>?_⟩;have i:=y.sub S q A;by_cases h:m=w.2;subst h;rw[mx]at c;obtain c|c:=bE.mp c;exact i _ f b c;have:b=e:=by simpa using c
 subst this;exact q n o k s (λm f b c=>⟨(p m f b c).1,i m f b (p m f b c).2⟩) w hw b (i _ u b x);rw[lH h]at c;exact i m f b c;rw[Qm e_.nd v];cases r:g with
 |false=>rw[y.no r];omega
 |true=>have:=y.zS r;omega
abbrev zT:be:=b3 47
def GoodW(b:List a2):Prop:=∀(c:Nat) (o:a2) (aj:av->List aI),b[c]?=j o->(∀m∈a_ b,∀e∈aj m,e∈bp b)->∀w∈fr b aj o c,w.1∈a_ b/\w.2∈a_ b
inductive zU(G:List V)(c:z)(g:aW)(k:bn):Prop|mk:∀(p:t) (b:List a2) (A:c4) (d:av->List aI),G=[.ref p]->fN c p b A d->Good b->GoodW b->(∀(O:z) (h:av->List aI) (f:Bool),dW b A c O->fN O p b A h->mA b d h f->(f=am->∀(i:Nat) (o:a2),b[i]?=j o->∀w∈fr b d o i,∀e∈d w.1,e∈d w.2)->g (.bl f) O)->zU G c g k
def mB{s:List aI}(d:e∈b6 (bp bf) s):e∈bp bf/\e∈s:=by obtain⟨f,c,b⟩:=eV.mp d;unfold kS at b;split at b;cases b;exact⟨c,by assumption⟩;cases b
def GH{s:List aI}(b:e∈bp bf)(c:e∈s):e∈b6 (bp bf) s:=eV.mpr ⟨e,b,by delta kS;rw[as c]⟩
def Qo:b2 Zi Zi (bo zQ):=⟨a,a,a,∅,a,∅,∅⟩
def Qp(F:bO K "ways_of" "ways_of" zQ f ai)(T:cT K mg)(z:bI P w K mg base a7 2 "steady_ways" Zh zH)(A:bI P w K mg base a7 5 "asked_ways" Zi zO):bd P w K mg base a7 6 f ai Zi vI:=by refine F.ok Qo (λB C D G e=>?_) (λaa J ad af C B D G r e=>?_);obtain⟨b,c,g,J,h,d,rfl,_⟩:=e;rfl;obtain⟨b,c,g,i,h,d,rfl,k,l,m,M⟩:=e;refine⟨_,aA (bx (fD nx (bP z (r.aG nofun:cV 2 _) a bN (I (a1 (x 0) a) (I (x 1) ae))) (bP A r a bN (I (x 0) (I (x 1) ae))))),?_⟩;refine⟨_,a,b,b_,i.a4,_,_,a,k.az,T.dV,T.iO,a,_,a,i.cs,c,g,d,a,k.eX,m,l.ok c d m,λah N O s R u=>?_⟩;refine⟨_,a,_,a,b,c,g,i,h,d,a,k.same s,l,m,λaj S U n V v=>?_⟩;have W:=GF d c;have X:=GG l.len h d c;rw[u.length]at W;rw[v.length]at X;refine⟨N,S,_,_,a,a,n _ _ R,V,fX (c1 (by omega)),λY Z=>?_⟩;have y:=Q.fresh (q:=aC.L (O++U)) Z;exact M _ Y _ ((s.trans n).trans y) aw (((u.aG λo p b=>eb.aG _ _ o p n b).append v).aG λo p b=>eb.aG _ _ o p y b)
def pN:b2 ["table","grown","label","begin","end","sort"] Zx (bo zT):=⟨a,a,a,∅,a,∅,∅⟩
inductive GI(c:z)(p:t)(b:List a2)(bD:c4)(d:av->List aI)(k:Nat)(i:bT.St)(f:z):Prop|mk:∀g m n q r l,i=[j (.ref p),j (.bl g),m,n,q,r]->dW b bD c f->fN f p b bD l->mA b d l g->(g=am->∀(h:Nat) (o:a2),h<k->b[h]?=j o->∀w∈fr b d o h,∀e∈d w.1,e∈d w.2)->GI c p b bD d k i f
inductive GJ(p:t)(b:List a2)(bD:c4)(c:av->List aI)(k:Nat)(d:av->List aI)(o:a2)(l:z)(af:Nat)(n:bT.St)(f:z):Prop|mk:∀g q r s h,n=[j (.ref p),j (.bl g),j (.int (0+(k:Nat))),q,r,s]->dW b bD l f->(fN f p b bD h/\mA b c h g/\(∀m e,e∈d m->e∈h m)/\(g=am->(∀(i:Nat) (o:a2),i<k->b[i]?=j o->∀w∈fr b c o i,∀e∈c w.1,e∈c w.2)/\∀w∈(fr b d o k).take af,∀e∈c w.1,e∈c w.2))->GJ p b bD c k d o l af n f
inductive GK(p:t)(b:List a2)(bD:c4)(c:av->List aI)(k:Nat)(l:Bool)(d:av->List aI)(f:av×av)(n o:V)(q:z)(r:Nat)(s:bT.St)(g:z):Prop|mk:∀h u i,s=[j (.ref p),j (.bl h),j (.int (0+(k:Nat))),j n,j o,u]->dW b bD q g->(fN g p b bD i/\mA b c i h/\(∀m e,e∈d m->e∈i m)/\(h=am->l=am/\∀e∈(b6 (bp b) (d f.1)).take r,e∈c f.2))->GK p b bD c k l d f n o q r s g
def Qq(F:bO K "carry_all" "carry_all" zT f ai)(T:cT K mg)(aM:bI P w K mg base a7 6 "ways_of" Zi vI)(al:eE P w K mg base a7 2 b_ "sorts_at" Zp oJ)(ba:eE P w K mg base a7 3 b_ "put" Y9 sY):bd P w K mg base a7 7 f ai Zx zU:=by
 refine F.ok pN (λbb aN bc bf d=>?_) (λb3 bg b6 b7 aN bb bc bf ao d=>?_);obtain⟨h,g,bg,A,rfl,_⟩:=d;rfl;obtain⟨h,g,i,A,rfl,Z,J,bh,bi⟩:=d;refine⟨_,ay (bZ (k:=1) pN.nd a (aU a) of) (ay (fg gx a (qH a T.q8 (I (en fE a T.eP e3 (I (a1 (x 0) a) ae)) ae)) (cF (k:=2) pN.nd a (aU a)) (aA (fg gx a (dU (bP aM ao a bN (I (x 0) (I (x 2) ae)))) (kz a (fo (cF (k:=3) pN.nd a (aU a)) (fo (cF (k:=4) pN.nd a (aU a)) ky))) (aA (fg gx a (dU (fI al (x 0) (ao.aG nofun:cV 2 _) bN (I (x 3) ae))) (cF (k:=5) pN.nd a (aU a)) (aA (cp (mc (fI ba (x 0) (ao.aG nofun:cV 3 _) bN (I (x 4) (I (x 5) ae)))) (aA (bZ (k:=1) pN.nd a (aU a) of)) cO))))))) (aA (bx (x 1)))),?_⟩;obtain⟨bj,bk,aP,b9⟩:=Z.eX;have bl:((bj.map V.ref).length:Int).toNat=g.length:=by rw[aV,aP];omega
 refine⟨_,a,h,b_,i.a4,_,_,a,Z.az,T.dV,T.iO,a,i.cs,_,a,.inl (an.au bk),_,a,?_,?_,?_⟩;omega;rw[aV,aP];have:=J.len;omega;rw[bl];refine sk (lo:=0) (o:=g.length) (GI aN h g i A)
  ⟨am,E,E,E,E,A,a,dW.au (Q.id _),Z,mA.start,λ_ L o aQ=>aq aQ (s4 _)⟩ ?_ ?_
 rintro k p aR bn ⟨N,bo,ap,ar,O,m,rfl,av,q,R,aw⟩;obtain⟨o,r⟩:∃o,g[k]?=j o:=⟨_,gE bn⟩;refine⟨_,a,_,a,h,k,g,i,m,o,(by simp),q,J,r,λbp aT br aW aX aY=>⟨aT,a,⟨_,an.au aX⟩,?_⟩⟩;have ax:=q.same aW;refine g' (K:=K) (e:=aT) (M:=br) (GJ h g i A k m o bp)
  ⟨N,_,_,_,m,a,dW.au (Q.id _),ax,R,λ_ _ d=>d,λb=>⟨aw b,by simp⟩⟩ (λbs p bt _ ⟨_,_,_,_,_,_,c,_⟩=>an.au (c.nd ax aX (λ_=>⋯))) ?_ ?_
 rintro bs b' p bu bA ⟨aa,ap,ar,O,B,rfl,ad,S,U,af,ah⟩;obtain⟨l,hw,bB⟩:=aY.fq bA;have aZ:l∈fr g m o k:=ev hw;obtain⟨bD,bF,a0,rfl,bH,bJ,bL⟩:=bB.mz ax ad;have s:=(bh k o m r q.sub) l aZ;refine⟨bD,_,a,ej.au bH,a,_,_,a,_,_,a,a,?_⟩;refine⟨_,a,h,i.a4,_,a,S.az,a,_,a,h,_,g,_,_,i,B,l.1,a,S,bJ,s.1,f_ J.len,λbQ a2 bR aB ca a3 a6=>⟨a2,a,⟨_,an.au a3⟩,?_⟩⟩;have aj:=S.same aB;refine g' (K:=K) (e:=a2) (M:=bR) (GK h g i A k aa B l bF a0 bQ)
  ⟨aa,_,B,a,dW.au (Q.id _),aj,U,λ_ _ d=>d,λb=>⟨b,by simp⟩⟩ (λbS p bt _ ⟨_,_,_,_,c,_⟩=>an.au (c.nd aj a3 (λ_=>⋯))) ?_ ?_
 rintro bS bT p aC bU ⟨aE,O,W,rfl,C,D,X,u,v⟩;obtain⟨e,Y,bV⟩:=a6.fq bU;have aF:=mB (ev Y);refine⟨_,a,h,i.a4,_,a,D.az,a,_,a,_,a,h,_,_,g,_,_,i,W,l.2,e,a,D,((bL.same aB).mz aj C:b1 aC l.2 a0),(bV.mz aj C:d' aC e bT),s.2,aF.1,f_ J.len,λy=>⟨_,a,cq ?_⟩,λy=>⟨_,a,cm ?_⟩⟩;refine⟨aE,_,W,a,C,D,X,u,λb=>⟨(v b).1,λz c7=>?_⟩⟩;rw[eF Y]at c7;obtain c7|c7:=bE.mp c7;exact(v b).2 z c7;have:z=e:=by simpa using c7
 subst this;rw[<-X.no b];exact y;refine⟨H,_,_,a,λz bW c7 a8=>?_,D.bK s.2 aF.1 y,X.bK J r aZ (λn aI z c7=>⟨q.sub n aI z c7,u _ _ (af _ _ c7)⟩) s.1 s.2 (u _ _ aF.2:e∈W l.1),λn z c7=>?_,⋯⟩;rw[aH λc=>a8 ⟨l.2,s.2,c⟩];exact C z bW c7 a8;by_cases c:n=l.2;subst c;rw[mx];exact g5 _ (u _ _ c7);rw[lH c];exact u _ _ c7;rintro p aC ⟨aE,O,W,rfl,C,D,X,u,v⟩;rw[<-a6.length,f8]at v;refine⟨aE,_,_,_,W,a,ad.trans ((dW.au aB).trans C),D,X,λn e d=>u _ _ (af _ _ d),λb=>?_⟩;obtain⟨a9,v⟩:=v b;obtain⟨aK,ak⟩:=ah a9;refine⟨aK,λw G e aL=>?_⟩;rw[eF hw]at G;obtain G|G:=bE.mp G;exact ak w G e aL;have:w=l:=by simpa using G
 subst this;refine v e (GH (Z.sub _ s.1 e aL) ?_);rw[U.no a9];exact aL;rintro p bu ⟨aa,ap,ar,O,B,rfl,ad,S,U,af,ah⟩;rw[<-aY.length,f8]at ah;refine⟨aa,_,_,_,_,B,a,av.trans ((dW.au aW).trans ad),S,U,λb L bX aQ y w hw e Y=>?_⟩;obtain⟨aK,ak⟩:=ah b;by_cases c:L=k;subst c;rw[r]at y;cases y;have bY:m=A:=by
  have b0:N=am:=by
   cases b2:N with
   |false=>rfl
   |true=>exfalso;have aM:=R.zS b2;have al:gy (a_ g) m<=gy (a_ g) B:=Qn (λn aI=>q.nd n aI) λn e d=>af n e d;rw[(U.no b)]at al;omega
  exact R.no b0
 rw[bY]at ak;exact ak w hw e Y;exact aK L bX (by omega) y w hw e Y;rintro p aR ⟨N,bo,ap,ar,O,m,rfl,av,q,R,aw⟩;exact⟨_,a,bi aR m N av q R λb L o r=>aw b L o (es.mp r).1 r⟩
structure kT (ns:List a2) (ir:av->List aI):Prop where
 own:∀(n:Nat) (o:a2) (e:aI),ns[n]?=j o->ea o.kind n=j e->e∈ir (.node n)
 qt:∀(n:Nat) (o:a2),ns[n]?=j o->∀w∈fr ns ir o n,∀e∈ir w.1,e∈ir w.2
 Qr:∀S,zR ns S->(∀(n:Nat) (o:a2) (e:aI),ns[n]?=j o->ea o.kind n=j e->S (.node n) e)->∀m∈a_ ns,∀e∈ir m,S m e
abbrev zV:be:=b3 46
inductive vK(G:List V)(c:z)(e:aW)(g:bn):Prop|mk:∀(d:t) (b:List a2),G=[.ref d]->hB c d b->Good b->GoodW b->fJ c->(∀(O:z) (p:t) (A:c4) (f:av->List aI),Q c O->c p=E->A.cs=d->fN O p b A f->kT b f->e (.ref p) O)->vK G c e g
def GL{n:Nat}(b:bf[n]?=j o)(d:ea o.kind n=j e):e∈bp bf:=by
 delta bp;cases c:e with
 |num=>exact b8
 |_=>refine cv _ (eV.mpr ⟨n,jH.mpr (es.mp b).1,?_⟩);unfold pK;rw[b];simp only[d3];rw[d,c]
def Qs(b:∀m∈a_ bf,(aj m).Nodup)(c:∀m∈a_ bf,∀e∈aj m,e∈bp bf):gy (a_ bf) aj<=(a_ bf).length*(bp bf).length:=by
 delta gy;generalize a_ bf=g at b c;induction g with
 |nil=>simp
 |cons m i h=>rw[bz,l1,cy,Nat.succ_mul];have k:=Y.m6 (b m b8) (c m b8);have l:=h (λd f=>b d (cv _ f)) (λd f=>c d (cv _ f));omega
def vL:b2 ["nodes","table","place","sort"] Zw (bo zV):=⟨a,a,a,∅,a,∅,∅⟩
def GN{af:Nat}{w:av×aI}(d:(f9 bf)[af]?=j w):∃n o,bf[n]?=j o/\ea o.kind n=j w.2/\w.1= .node n:=by
 obtain⟨n,f,b⟩:=eV.mp (ev d);unfold kQ at b;cases c:bf[n]? with
 |none=>rw[c]at b;cases b
 |some o=>
  rw[c]at b;cases e:ea o.kind n with
  |none=>simp[e]at b
  |some g=>simp[e]at b;subst b;exact⟨n,o,c,e,a⟩
def Qt{n:Nat}(b:bf[n]?=j o)(d:ea o.kind n=j e):(ef n,e)∈f9 bf:=
 eV.mpr ⟨n,jH.mpr (es.mp b).1,by delta kQ;rw[b];simp[d]⟩
inductive GO(g:t)(b:List a2)(p:t)(bD:c4)(h:z)(af:Nat)(i:bT.St)(c:z):Prop|mk:∀k l d,i=[j (.ref g),j (.ref p),k,l]->dW b bD h c->(fN c p b bD d/\(∀w∈(f9 b).take af,w.2∈d w.1)/\(∀m e,e∈d m->∃(f:Nat) (o:a2),m= .node f/\b[f]?=j o/\ea o.kind f=j e))->GO g b p bD h af i c
def Qu(F:bO K "least_table" "least_table" zV f ai)(T:cT K mg)(av:kP P w K mg base a7 5 b_ "Table" Zq vF)(ax:bI P w K mg base a7 3 "list_own_needs" Zw q_)(a9:eE P w K mg base a7 3 b_ "put" Y9 sY)(ba:bI P w K mg base a7 7 "carry_all" Zx zU):bd P w K mg base a7 8 f ai Zw vK:=by
 refine F.ok vL (λbb r bc bf A=>?_) (λb0 b2 b3 b6 r bb bc bf Z A=>?_);obtain⟨v,b,rfl,_⟩:=A;rfl;obtain⟨v,b,rfl,aB,B,bg,bh,bi⟩:=A;have aC:cV 3 _:=Z.aG nofun;refine⟨_,ay (bZ (k:=1) vL.nd a (aU a) (mq av (Z.aG nofun:cV 6 _) a bN (I (x 0) ae))) (ay (fg gx a (dU (bP ax aC a bN (I (x 0) ae))) (kz a (fo (cF (k:=2) vL.nd a (aU a)) (fo (cF (k:=3) vL.nd a (aU a)) ky))) (aA (c' (fI a9 (x 1) aC bN (I (x 2) (I (x 3) ae)))))) (ay (uo gx (mc (bP ba Z a bN (I (x 1) ae))) (aA DD)) (aA (bx (x 1))))),?_⟩;refine⟨_,a,λi aa ad bj bk=>?_⟩;have L:Q r (U (U r aa (.own i)) i (.az b_ aa [])):=(Q.fresh bj).new (by rw[aH (cU bk)];exact ad);refine⟨i,aa,v,b,a,aw,aB.same L,B.len,bh.same L,B.nd,λaE m bl bn bo aF=>⟨a,?_⟩⟩;have aK:Q r aE:=λy s N=>bl y s (L y s N) (ew N ad);have br:∀g∈a_ b,r (m.fL g)=E:=λg O=>by
  cases c:r (m.fL g)with
  |none=>rfl
  |some s=>have:=L _ _ c;rw[bo g O]at this;cases this
 have bs:∀{n},dW b m aE n->Q r n:=λ{n} y aL s af=>y aL s (aK aL s af) λ⟨g,O,c⟩=>by rw[c,br g O]at af;cases af
 refine⟨_,a,v,b,a,aB.same aK,B.len,aF.num,λaM g bt aN O aP aQ=>⟨g,a,⟨_,an.au aP⟩,?_⟩⟩;have C:=aF.same aN;refine g' (K:=K) (e:=g) (M:=bt) (GO v b i m aM)
  ⟨E,E,_,a,dW.au (Q.id _),C,by simp,(λg e=>⋯)⟩ (λbu D n _ ⟨_,_,_,_,c,_⟩=>an.au (c.nd C aP (λ_=>⋯))) ?_ ?_
 rintro bu b7 D ah bA ⟨aj,ak,R,rfl,u,z,G,J⟩;obtain⟨l,V,y,bB,bD,rfl,N,bF,bH⟩:=aQ.fq bA;obtain⟨d,h,o,p,aR⟩:=GN V;have bJ:d<b.length:=(es.mp o).1;have al:l.1∈a_ b:=by rw[aR];exact iS bJ
 refine⟨y,_,a,ej.au (u.nd C N (λ_=>⋯)),a,_,_,a,_,_,a,a,?_⟩;refine⟨_,a,i,m.a4,_,a,z.az,a,_,a,_,a,i,_,_,b,_,_,m,R,l.1,l.2,a,z,(bF.mz C u:b1 ah l.1 bB),(bH.mz C u:d' ah l.2 bD),al,GL o p,f_ B.len,λao=>?_,λao=>?_⟩;refine⟨_,_,R,a,u,z,λw hw=>?_,J⟩;rw[eF V]at hw;obtain hw|hw:=bE.mp hw;exact G w hw;have:w=l:=by simpa using hw
 subst this;exact ao;refine⟨_,_,_,a,u.trans (λb9 s bL bQ=>by rw[aH λc=>bQ ⟨_,al,c⟩];exact bL),z.bK al (GL o p) ao,λw hw=>?_,λaT ap q=>?_⟩;by_cases c:w.1=l.1;rw[c,mx];rw[eF V]at hw;obtain hw|hw:=bE.mp hw;exact g5 _ (by rw[<-c];exact G w hw);have:w=l:=by simpa using hw
 subst this;simp;rw[lH c];rw[eF V]at hw;obtain hw|hw:=bE.mp hw;exact G w hw;have:w=l:=by simpa using hw
 exact aq (by rw[this]) c;by_cases c:aT=l.1;subst c;rw[mx]at q;obtain q|q:=bE.mp q;exact J _ ap q;have:ap=l.2:=by simpa using q
 subst this;exact⟨d,h,aR,o,p⟩;rw[lH c]at q;exact J aT ap q;rintro D ah ⟨aj,ak,R,rfl,u,z,G,J⟩;refine⟨λaW D n=>∃W,D=[j (.ref v),j (.ref i),aj,ak]/\dW b m aM n/\fN n i b m W/\(∀(d:Nat) (h:a2) (e:aI),b[d]?=j h->ea h.kind d=j e->e∈W (.node d))/\(∀S,zR b S->(∀(d:Nat) (h:a2) (e:aI),b[d]?=j h->ea h.kind d=j e->S (.node d) e)->∀g∈a_ b,∀e∈W g,S g e)/\aW=(a_ b).length*(bp b).length-gy (a_ b) W,⟨_,R,a,u,z,λd h e o p=>G (.node d,e) (by rw[<-aQ.length,f8];exact Qt o p),λS _ ar g _ e bR=>?_,a⟩,?_⟩;obtain⟨d,h,rfl,o,p⟩:=J g e bR;exact ar d h e o p;rintro aW D b' ⟨bS,rfl,aX,bT,aY,aZ,rfl⟩;refine⟨_,a,i,b,m,bS,a,bT,B,bg,λa0 bU a1 a3 X Y bV=>⟨a1,a,?_⟩⟩;cases a1 with
 |true=>refine cm ⟨λa6 n=>a6=[j (.ref v),j (.ref i),aj,ak]/\n=a0,λa6 n ⟨bW,bX⟩=>?_,⟨a,a⟩⟩;subst bW bX;refine⟨_,?_,bU,a,aX.trans a3,X,λd h e o p=>Y.aG _ _ (aY d h e o p),λS a8 ar=>Y.sub S a8 (aZ S a8 ar),a⟩;have av:=Y.zS a;have ax:=Qs X.nd X.sub;omega
 |false=>refine cq ⟨_,a,?_⟩;have bY:=Y.no a;subst bY;exact bi a0 i m _ (bs ((dW.au aN).trans (aX.trans a3))) ad bn X ⟨aY,bV a,aZ⟩
abbrev a0:=dT
def hh:Option Nat->a2
 |none=>⟨"in",.aL,[],.aL⟩
 |some b=>⟨"name",.int (b:Nat),[],.aL⟩
noncomputable def pn(h:a0)(i:a0):a2:=match i with
 | .num _ o=>⟨"number",.aL,[],.int (o:Nat)⟩
 | .var d _=>hh (dH h d)
 | .fn _ _ b=>⟨"fun",.aL,[aS b],.aL⟩
 | .app _ f e=>⟨"call",.aL,[aS f,aS e],.aL⟩
 | .letE _ _ c b=>⟨"let",.aL,[aS c,aS b],.aL⟩
 | .ifz _ g p c=>⟨"if",.aL,[aS g,aS p,aS c],.aL⟩
 | .pair _ e b=>⟨"pair",.aL,[aS e,aS b],.aL⟩
 | .fst _ c=>⟨"fst",.aL,[aS c],.aL⟩
 | .snd _ c=>⟨"snd",.aL,[aS c],.aL⟩
 | .new _ c=>⟨"new",.aL,[aS c],.aL⟩
 | .get _ c=>⟨"get",.aL,[aS c],.aL⟩
 | .set _ e b=>⟨"set",.aL,[aS e,aS b],.aL⟩
 | .add _ e b=>⟨"add",.aL,[aS e,aS b],.aL⟩
def aE(h:a0):List a2:=(aO h).map (pn h)
def pO(h:a0):(aE h).length=(aO h).length:=aV _
variable{h:a0}
def jT(d:(aE h)[k]?=j o):∃i,(aO h)[k]?=j i/\o=pn h i:=by
 unfold aE at d;rw[d2]at d;cases b:(aO h)[k]? with
 |none=>rw[b]at d;cases d
 |some i=>rw[b]at d;exact⟨i,a,(dP d).symm⟩
variable{i:a0}
def jq(d:(aO h)[k]?=j i):(aE h)[k]?=j (pn h i):=by delta aE;rw[d2,d];rfl
theorem vM{f g:a3->Option dG}:∀{n:List a3},(∀e∈n,f e=g e)->n.filterMap f=n.filterMap g
 |[],_=>rfl
 |e::n,b=>by rw[hn,hn,b e b8,vM λc d=>b c (cv _ d)]
def rd(h:a0)(e_:Nat->Option dG)(r:a0->Option dG)(d:∀k i,(aO h)[k]?=j i->e_ k=r i):(er (aE h).length).filterMap e_=(aO h).filterMap r:=by
 rw[pO,<-mr r];have:∀k∈er (aO h).length,e_ k=((aO h)[k]?).bind r:=by intro k b;have b:=jH.mp b;rw[d k _ (gE b),gE b];rfl
 exact vM this
def jU(r:Str)(h i:a0):Bool:=decide ((pn h i).kind=r)
def Qv{r:Str}(d:(aO h)[k]?=j i):lF (aE h) r k=jU r h i:=by delta lF jU;rw[jq d];simp
def s5{r:Str}(q:Option Nat)(c:r≠"in")(d:r≠"name"):decide ((hh q).kind=r)=am:=by
 cases q with
 |none=>exact bq λb=>c b.symm
 |some e=>exact bq λb=>d b.symm
def Qw(h i:a0):jU "pair" h i=(match i with| .pair _ _ _=>H|_=>am):=by
 cases i with
 |var b c=>exact s5 _ ∅ ∅
 |_=>rfl
def Qx(h i:a0):jU "new" h i=(match i with| .new _ _=>H|_=>am):=by
 cases i with
 |var b c=>exact s5 _ ∅ ∅
 |_=>rfl
def GP(h i:a0):jU "fun" h i=(match i with| .fn _ _ _=>H|_=>am):=by
 cases i with
 |var b c=>exact s5 _ ∅ ∅
 |_=>rfl
def Qy(h i:a0):jU "let" h i=(match i with| .letE _ _ _ _=>H|_=>am):=by
 cases i with
 |var b c=>exact s5 _ ∅ ∅
 |_=>rfl
theorem zW(h i:a0)(n:Nat)(c:aS i=n):ea (pn h i).kind n=(match i with
  | .num _ _=>j .num
  | .var n _=>(match dH h n with|none=>j .num|some _=>E)
  | .fn n _ _=>j (.fn n)
  | .pair n _ _=>j (.pair n)
  | .new n _=>j (.ref n)
  | .add _ _ _=>j .num
  |_=>E):=by
 subst c;cases i with
 |var n d=>
  show ea (hh (dH h n)).kind _=_;cases b:dH h n with
  |none=>simp only[b];rfl
  |some e=>simp only[b];rfl
 |_=>rfl
def GQ(k:Y.cY h){f:dr}:f∈l0 h↔∃(n:Nat) (o:a2),(aE h)[n]?=j o/\f.place= .node n/\ea o.kind n=j f.abs:=by
 unfold l0;rw[cR];have l:∀b:a0,f∈fy h b↔f.place= .node (aS b)/\ea (pn h b).kind (aS b)=j f.abs:=by
  intro b;obtain⟨r,s⟩:=f;rw[zW h b _ a];cases b with
  |var n c=>
   simp only[fy];cases u:dH h n with
   |none=>simp[aS,q1]
   |some e=>simp
  |num n c=>simp[fy,aS,q1]
  |fn n c e=>simp[fy,aS,q1]
  |pair n c e=>simp[fy,aS,q1]
  |new n c=>simp[fy,aS,q1]
  |add n c e=>simp[fy,aS,q1]
  |_=>simp[fy]
 constructor;rintro⟨b,d,m⟩;obtain⟨g,i⟩:=(l b).mp m;exact⟨_,_,jq (k.at_ d),g,i⟩;rintro⟨n,o,p,g,i⟩;obtain⟨b,d,rfl⟩:=jT p;have q:=k.get d;subst q;exact⟨b,ev d,(l b).mpr ⟨g,i⟩⟩
def it(d:Y.cY h):bp (aE h)=d8 h:=by
 unfold bp d8;congr 1;apply rd;intro e b c;unfold pK;rw[jq c];simp only[d3];rw[zW h b e (d.get c)];cases b with
 |var f g=>simp only;cases i:dH h f<;>rfl
 |_=>rfl
theorem nE{d:Type}(r:a3->Option dG)(g:dG->List d):∀n:List a3,(n.filterMap r).flatMap g=n.flatMap λi=>match r i with
  |some b=>g b
  |none=>[]
 |[]=>rfl
 |e::n=>by
  rw[hn,ds];cases c:r e with
  |none=>simp only[c];rw[g2];exact nE r g n
  |some b=>simp only[c];rw[ds,nE r g n]
theorem vN{c:Type}(g:dG->c):∀n:List dG,n.map g=n.flatMap λb=>[g b]
 |[]=>rfl
 |b::n=>by rw[bz,ds,vN g n];rfl
theorem jr{f g:a3->List dG}:∀{n:List a3},(∀e∈n,f e=g e)->n.flatMap f=n.flatMap g
 |[],_=>rfl
 |e::n,b=>by rw[ds,ds,b e b8,jr λc d=>b c (cv _ d)]
def zX(c:Y.cY h)(r:Str):dS (aE h) r=(aO h).filterMap λi=>if jU r h i=H then j (aS i)else E:=by delta dS;apply rd;intro d i b;rw[Qv b,c.get b]
def e4(d:Y.cY h):a_ (aE h)=ch h:=by
 have g:iP (aE h).length=(aO h).flatMap λb=>[e5 b]:=by delta iP;rw[rd h _ (λb=>j (e5 b)) (λf b e=>by unfold e5;rw[d.get e]),<-vN,vO]
 have i:iQ (aE h)=(aO h).flatMap λb=>match b with
   | .fn c _ _=>[h7 c]
   | .letE c _ _ _=>[.name c]
   |_=>[]:=by
  delta iQ;rw[rd h _ (λb=>if(jU "fun" h b||jU "let" h b)=H then j (h7 (aS b))else E) (λf b e=>by
   have:oI (aE h) f=(jU "fun" h b||jU "let" h b):=by delta oI jU;rw[jq e,zo];simp
   rw[this,d.get e])]
  rw[<-List.flatMap_singleton' ((aO h).filterMap _),nE];apply jr;intro b _;rw[GP,Qy];cases b<;>rfl
 have k:((dS (aE h) "pair").flatMap λc=>[k' c,.second c])=(aO h).flatMap λb=>match b with
   | .pair c _ _=>[k' c,.second c]
   |_=>[]:=by
  rw[zX d,nE];apply jr;intro b _;rw[Qw];cases b<;>rfl
 have l:(dS (aE h) "new").map la=(aO h).flatMap λb=>match b with
   | .new c _=>[la c]
   |_=>[]:=by
  rw[zX d,vN,nE];apply jr;intro b _;rw[Qx];cases b<;>rfl
 unfold a_ ch;rw[g,i,k,l];simp only[eW];rfl
open Vacfab (Fact Table Way)
def mC(h:a0):h∈aO h:=by cases h<;>simp[aO]
def zY{D:a0}(b:i∈aO h)(c:D∈aO i):D∈aO h:=by
 induction h with
 |num d m=>simp[aO]at b;subst b;exact c
 |var d m=>simp[aO]at b;subst b;exact c
 |fn d m g k=>simp only[aO,bm]at b;obtain rfl|b:=b;exact c;simp only[aO,bm];exact .inr (k b)
 |fst d g k=>simp only[aO,bm]at b;obtain rfl|b:=b;exact c;simp only[aO,bm];exact .inr (k b)
 |snd d g k=>simp only[aO,bm]at b;obtain rfl|b:=b;exact c;simp only[aO,bm];exact .inr (k b)
 |new d g k=>simp only[aO,bm]at b;obtain rfl|b:=b;exact c;simp only[aO,bm];exact .inr (k b)
 |get d g k=>simp only[aO,bm]at b;obtain rfl|b:=b;exact c;simp only[aO,bm];exact .inr (k b)
 |app d l g e f=>simp only[aO,bm,bE]at b;obtain rfl|b|b:=b;exact c;simp only[aO,bm,bE];exact .inr (.inl (e b));simp only[aO,bm,bE];exact .inr (.inr (f b))
 |letE d m l g e f=>simp only[aO,bm,bE]at b;obtain rfl|b|b:=b;exact c;simp only[aO,bm,bE];exact .inr (.inl (e b));simp only[aO,bm,bE];exact .inr (.inr (f b))
 |pair d l g e f=>simp only[aO,bm,bE]at b;obtain rfl|b|b:=b;exact c;simp only[aO,bm,bE];exact .inr (.inl (e b));simp only[aO,bm,bE];exact .inr (.inr (f b))
 |set d l g e f=>simp only[aO,bm,bE]at b;obtain rfl|b|b:=b;exact c;simp only[aO,bm,bE];exact .inr (.inl (e b));simp only[aO,bm,bE];exact .inr (.inr (f b))
 |add d l g e f=>simp only[aO,bm,bE]at b;obtain rfl|b|b:=b;exact c;simp only[aO,bm,bE];exact .inr (.inl (e b));simp only[aO,bm,bE];exact .inr (.inr (f b))
 |ifz d l g o e f n=>simp only[aO,bm,bE]at b;obtain rfl|b|b|b:=b;exact c;simp only[aO,bm,bE];exact .inr (.inl (e b));simp only[aO,bm,bE];exact .inr (.inr (.inl (f b)));simp only[aO,bm,bE];exact .inr (.inr (.inr (n b)))
noncomputable def dy:a0->List a0
 | .num _ _=>[]
 | .var _ _=>[]
 | .fn _ _ b=>[b]
 | .app _ f e=>[f,e]
 | .letE _ _ c b=>[c,b]
 | .ifz _ d p c=>[d,p,c]
 | .pair _ e b=>[e,b]
 | .fst _ c=>[c]
 | .snd _ c=>[c]
 | .new _ c=>[c]
 | .get _ c=>[c]
 | .set _ e b=>[e,b]
 | .add _ e b=>[e,b]
def nF{D:a0}(c:i∈aO h)(b:D∈dy i):D∈aO h:=by
 refine zY c ?_;cases i<;>simp only[dy,bm,Qz,or_false]at b<;>simp only[aO,bm,bE]
 all_goals first
  |(subst b;exact .inr (mC _))
  |(obtain rfl|rfl:=b
    exact .inr (.inl (mC _));exact .inr (.inr (mC _)))
  |(obtain rfl|rfl|rfl:=b
    exact .inr (.inl (mC _));exact .inr (.inr (.inl (mC _)));exact .inr (.inr (.inr (mC _))))
  |cases b
def QA(h i:a0):(pn h i).parts=(dy i).map aS:=by
 cases i with
 |var b c=>show(hh _).parts=[];cases dH h b<;>rfl
 |_=>rfl
def QB(h i:a0):vG (pn h i):=by
 cases i with
 |var c e=>
  show vG (hh (dH h c));cases dH h c with
  |none=>constructor<;>first|(intro b;exact aq b ∅)|exact dC _
  |some d=>constructor<;>first|(intro b;first|exact⟨d,rfl⟩|(simp only[hh]at b;exact aq b ∅))|exact dC _
 |_=>constructor<;>first|(intro b;first|exact⟨_,rfl⟩|exact⟨_,_,rfl⟩|exact⟨_,_,_,rfl⟩|(simp only[pn]at b;exact aq b ∅))|(simp[pn];done)
def QC{b:Nat}(f:i∈aO h)(d:h7 b∈ch i):h7 b∈ch h:=by unfold ch at d|-;simp only[bE,cR]at d|-;obtain⟨c,e,d⟩|⟨c,e,d⟩|⟨c,e,d⟩|⟨c,e,d⟩:=d;simp[e5]at d;exact .inr (.inl ⟨c,zY f e,d⟩);cases c<;>simp at d;cases c<;>simp at d
def QD:∀{l:List (kr×Nat)} {n b:Nat},(n,j b)∈c8 l i->(∃D,(D,b)∈l)\/h7 b∈ch i:=by
 have g:∀{D d:a0} {b:Nat},D∈dy d->h7 b∈ch D->h7 b∈ch d:=λ{D d b} s c=>QC (nF (mC d) s) c;induction i with
 |num n v=>intro l n b c;cases(c)
 |var h D=>
  intro l n b c;simp only[c8,y2,QE]at c;obtain⟨_,c⟩:=c;cases r:l.find? λd=>d.1==D with
  |none=>rw[r]at c;cases(c)
  |some d=>rw[r]at c;cases(c);exact .inl ⟨d.1,n7 r⟩
 |fn h D b p=>intro l n e c;obtain⟨d,f⟩|f:=p (show(n,j e)∈c8 ((D,h)::l) b from c);obtain f|f:=bm.mp f;cases(f);exact .inr (Y.CB (mC _));exact .inl ⟨d,f⟩;exact .inr (g (by simp[dy]) f)
 |letE h D k b m o=>intro l n e c;obtain c|c:=bE.mp (show(n,j e)∈c8 l k++c8 ((D,h)::l) b from c);obtain f|f:=m c;exact .inl f;exact .inr (g (by simp[dy]) f);obtain⟨d,f⟩|f:=o c;obtain f|f:=bm.mp f;cases(f);exact .inr (Y.CC (mC _));exact .inl ⟨d,f⟩;exact .inr (g (by simp[dy]) f)
 |app h q b m o=>intro l n e c;obtain c|c:=bE.mp (show(n,j e)∈c8 l q++c8 l b from c);exact(m c).imp id λd=>g (by simp[dy]) d;exact(o c).imp id λd=>g (by simp[dy]) d
 |pair h q b m o=>intro l n e c;obtain c|c:=bE.mp (show(n,j e)∈c8 l q++c8 l b from c);exact(m c).imp id λd=>g (by simp[dy]) d;exact(o c).imp id λd=>g (by simp[dy]) d
 |set h q b m o=>intro l n e c;obtain c|c:=bE.mp (show(n,j e)∈c8 l q++c8 l b from c);exact(m c).imp id λd=>g (by simp[dy]) d;exact(o c).imp id λd=>g (by simp[dy]) d
 |add h q b m o=>intro l n e c;obtain c|c:=bE.mp (show(n,j e)∈c8 l q++c8 l b from c);exact(m c).imp id λd=>g (by simp[dy]) d;exact(o c).imp id λd=>g (by simp[dy]) d
 |ifz h q b k m o u=>intro l n e c;obtain c|c:=bE.mp (show(n,j e)∈c8 l q++(c8 l b++c8 l k)from c);exact(m c).imp id λd=>g (by simp[dy]) d;obtain c|c:=bE.mp c;exact(o c).imp id λd=>g (by simp[dy]) d;exact(u c).imp id λd=>g (by simp[dy]) d
 |fst h k p=>intro l n e c;exact(p (show(n,j e)∈c8 l k from c)).imp id λd=>g (by simp[dy]) d
 |snd h k p=>intro l n e c;exact(p (show(n,j e)∈c8 l k from c)).imp id λd=>g (by simp[dy]) d
 |new h k p=>intro l n e c;exact(p (show(n,j e)∈c8 l k from c)).imp id λd=>g (by simp[dy]) d
 |get h k p=>intro l n e c;exact(p (show(n,j e)∈c8 l k from c)).imp id λd=>g (by simp[dy]) d
def QF{n b:Nat}(d:dH h n=j b):h7 b∈ch h:=by unfold dH at d;rw[CT]at d;obtain⟨⟨f,g⟩,i,c⟩:=d;have k:=n7 i;have c:g=j b:=c;subst c;obtain⟨m,e⟩|e:=QD (l:=[]) (show(f,j b)∈c8 [] h from k);cases e;exact e
def QG(c:Y.cY h){r:Nat}(d:zI r∈d8 h):vP h r=j (pM (aE h) r):=by obtain⟨e,f,g⟩:=Y.rU.mp d;have b:=c.at_ g;have b:(aO h)[r]?=j (.fn r e f):=b;unfold vP;rw[c.nodeAt,b];unfold pM;rw[jq b];rfl
def mD(w:Way):av×av:=(w.src,w.dst)
theorem mE{b:Type}(g:a3->List dG)(f:dG->b):∀n:List a3,(n.flatMap g).map f=n.flatMap λe=>(g e).map f
 |[]=>rfl
 |e::n=>by rw[ds,ds,cS,mE g f n]
theorem vQ{b:Type}(r:a3->Option dG)(g:dG->b)(n:List a3):(n.filterMap r).map g=n.flatMap λi=>match r i with
  |some c=>[g c]
  |none=>[]:=by
 rw[vN,nE]<;>
  rfl
def zZ(s:Y.cY h){T:Table}(l:i∈aO h)(u:∀D∈aO h,ee T (e5 D)=b6 (d8 h) (aj (e5 D))):
  (c5 h T i).map mD=fr (aE h) aj (pn h i) (aS i):=by
 have m:∀(made:Int) (D:a0),D∈aO h->fO (aE h) aj made (.node (aS D))=(ee T (e5 D)).filterMap (fM made):=λmade D r=>by delta fO;rw[it s,u D r];rfl
 have w:∀(D:a0),D∈aO h->∀d∈ee T (e5 D),d∈d8 h:=λD r d n=>by rw[u D r]at n;unfold b6 at n;obtain⟨f,x,q⟩:=eV.mp n;unfold kS at q;split at q;cases q;exact x;cases q
 cases i with
 |num b y=>rfl
 |fn b D g=>rfl
 |add b f g=>rfl
 |letE b D c g=>rfl
 |ifz b z A c=>rfl
 |pair b f g=>rfl
 |new b c=>rfl
 |var b D=>
  show(match dH h b with|none=>[]|some g=>[(⟨.name g,.node b,b⟩:Way)]).map mD=fr (aE h) aj (hh (dH h b)) b;cases dH h b with
  |none=>rfl
  |some g=>rfl
 |app b k f=>
  have v:=nF l (show k∈dy (.app b k f)by simp[dy]);show(c5 h T (.app b k f)).map mD=s3 (aE h) aj (aS k) (aS f) b;unfold s3;rw[m 1 k v,nE];simp only[c5];rw[mE];apply jr;intro d n;cases d with
  |fn e=>show(_::(vP h e).toList.map _).map mD=_;rw[QG s (w k v _ n)];rfl
  |_=>rfl
 |fst b c=>have o:=nF l (show c∈dy (.fst b c)by simp[dy]);show(c5 h T (.fst b c)).map mD=(fO (aE h) aj 2 (.node (aS c))).map λe=>(k' e,ef b);rw[m 2 c o,vQ];simp only[c5];rw[mE];apply jr;intro d _;cases d<;>rfl
 |snd b c=>have o:=nF l (show c∈dy (.snd b c)by simp[dy]);show(c5 h T (.snd b c)).map mD=(fO (aE h) aj 2 (.node (aS c))).map λe=>(tO e,ef b);rw[m 2 c o,vQ];simp only[c5];rw[mE];apply jr;intro d _;cases d<;>rfl
 |get b c=>have o:=nF l (show c∈dy (.get b c)by simp[dy]);show(c5 h T (.get b c)).map mD=(fO (aE h) aj 3 (.node (aS c))).map λe=>(la e,ef b);rw[m 3 c o,vQ];simp only[c5];rw[mE];apply jr;intro d _;cases d<;>rfl
 |set b p c=>show(c5 h T (.set b p c)).map mD=(ef (aS c),ef b)::(fO (aE h) aj 3 (.node (aS p))).map λe=>(ef (aS c),la e);rw[m 3 p (nF l (show p∈dy (.set b p c)by simp[dy])),vQ];simp only[c5,bz];rw[mE];congr 1;apply jr;intro d _;cases d<;>rfl
noncomputable def dX(h:a0)(aj:av->List aI):Table:=(ch h).flatMap λm=>(aj m).map λe=>(⟨m,e⟩:Fact)
def vR{f:Fact}:f∈dX h aj↔f.place∈ch h/\f.abs∈aj f.place:=by delta dX;rw[cR];constructor;rintro⟨i,b,c⟩;obtain⟨k,d,rfl⟩:=cx.mp c;exact⟨b,d⟩;rintro⟨e,g⟩;exact⟨f.place,e,cx.mpr ⟨f.abs,g,a⟩⟩
def z0(c s:List aI):b6 c s=c.filter λe=>decide (e∈s):=by
 delta b6;induction c with
 |nil=>rfl
 |cons e g d=>rw[hn,lc];delta kS;by_cases b:e∈s;rw[as b,as (bw b)];exact dZ (List.cons e) d;rw[ag b,ag (λf=>b (iF f))];exact d
def s6(c:m∈ch h):Y.gb h (dX h aj) m=b6 (d8 h) (aj m):=by rw[z0];delta Y.gb;apply KX;intro d _;unfold QH;rw[m8,d1,z1,vR];exact⟨λb=>b.2,λb=>⟨c,b⟩⟩
def s7(c:Y.cY h)(b:m∈ch h):ee (c6 h (dX h aj)) m=b6 (d8 h) (aj m):=by rw[Y.Kv c.dg,as b,s6 b]
def GR(b:Y.cY h){n:Nat}(e:(aE h)[n]?=j o){w:av×av}(hw:w∈fr (aE h) aj o n):∃u∈i6 h (c6 h (dX h aj)),u.src=w.1/\u.dst=w.2:=by obtain⟨f,c,rfl⟩:=jT e;have d:=ev c;have g:=b.get c;subst g;rw[<-zZ b d (T:=c6 h (dX h aj)) λl i=>s7 b (Y.qn i)]at hw;obtain⟨u,k,rfl⟩:=cx.mp hw;exact⟨u,Y.n5.mpr ⟨f,d,k⟩,a,a⟩
def vS(b:Y.cY h){u:Way}(c:u∈i6 h (c6 h (dX h aj))):∃(n:Nat) (o:a2),(aE h)[n]?=j o/\(u.src,u.dst)∈fr (aE h) aj o n:=by obtain⟨f,d,c⟩:=Y.n5.mp c;refine⟨_,_,jq (b.at_ d),?_⟩;rw[<-zZ b d (T:=c6 h (dX h aj)) λg e=>s7 b (Y.qn e)];exact cx.mpr ⟨u,c,a⟩
def pP(c:∀m∈ch h,∀e∈aj m,e∈d8 h){f:Fact}:f∈c6 h (dX h aj)↔f.place∈ch h/\f.abs∈aj f.place:=by rw[Y.lb,vR];exact⟨λb=>b.2.2,λb=>⟨b.1,c _ b.1 _ b.2,b⟩⟩
def oL(b:Y.cY h)(k:∀m∈a_ (aE h),∀e∈aj m,e∈bp (aE h))(d:kT (aE h) aj):cz h=c6 h (dX h aj):=by
 rw[e4 b,it b]at k;have v:Y.m5 h (c6 h (dX h aj)):=by intro l f;rw[pP k];obtain f|⟨s,n,w,x⟩:=Y.m4.mp f;have y:=Y.tR l f;obtain⟨g,i,c,p,q⟩:=(GQ b).mp f;exact⟨y.1,by rw[p];exact d.own g i _ c q⟩;obtain⟨g,i,c,hw⟩:=vS b n;rw[x];exact⟨Y.tS (λr o=>⟨(Y.lb.mp o).1,(Y.lb.mp o).2.1⟩:Y.jF h (c6 h (dX h aj))) n,d.qt g i c _ hw _ ((pP k).mp w).2⟩
 have z:Y.Sub (c6 h (dX h aj)) (Y.m7 h):=by
  intro l f;obtain⟨p,q⟩:=(pP k).mp f;refine d.Qr (λm e=>(⟨m,e⟩:Fact)∈Y.m7 h) ?_ ?_ l.place (by rw[e4 b];exact p) l.abs q;intro g i A c u I hw e B;rw[e4 b,it b]at u;obtain⟨s,n,C,D⟩:=GR b c hw;have F:Y.Sub (c6 h (dX h A)) (Y.m7 h):=λr o=>by have:=vR.mp (Y.lb.mp o).2.2;exact(u r.place this.1 r.abs this.2).2
  refine Y.xc h _ (Y.m4.mpr (.inr ⟨s,Y.w8 F n,?_,?_⟩));rw[C];exact B;exact D.symm;intro g i e c G;exact Y.xc h _ (Y.m4.mpr (.inl ((GQ b).mpr ⟨g,i,c,a,G⟩)))
 rw[Y.Kr v z,Y.xu]
def GS(b:Y.cY h)(c:∀m∈a_ (aE h),∀e∈aj m,e∈bp (aE h))(d:kT (aE h) aj)(f:m∈ch h):ee (cz h) m=b6 (bp (aE h)) (aj m):=by rw[oL b c d,s7 b f,it b]
def GU{c s:List aI}(d:s.Nodup)(f:∀e∈s,e∈c)(g:c.Nodup):(b6 c s).length=s.length:=by rw[z0];apply Nat.le_antisymm;exact Y.m6 (g.sublist r6) λe b=>iF (eI.mp b).2;exact Y.m6 d λe b=>eI.mpr ⟨f e b,bw b⟩
def GV(b:Y.cY h)(g:∀m∈a_ (aE h),(aj m).Nodup)(c:∀m∈a_ (aE h),∀e∈aj m,e∈bp (aE h))(d:kT (aE h) aj):(cz h).length=gy (a_ (aE h)) aj:=by rw[oL b c d,Y.CK,e4 b];delta gy;congr 1;apply nc;intro m f;rw[s6 f];rw[e4 b]at g c;exact GU (g m f) (λe i=>by rw[<-it b];exact c m f e i) b.i9
def jV(d:Y.iG h):Good (aE h):=by refine⟨?_,λf g b=>?_,λf g b l c=>?_,?_⟩;have:=d.eX;unfold dO at this;rw[aV]at this;rw[pO];exact this;obtain⟨e,_,rfl⟩:=jT b;exact QB h e;obtain⟨e,i,rfl⟩:=jT b;rw[QA]at c;obtain⟨m,k,rfl⟩:=cx.mp c;have:=d.ck.at_ (nF (ev i) k);rw[pO];exact(es.mp this).1;rw[e4 d.ck];exact d.ck.dg
def re(d:Y.iG h):GoodW (aE h):=by
 intro c I r x y J hw;rw[e4 d.ck,it d.ck]at y;obtain⟨K,b,z,A⟩:=GR d.ck x hw;have s:Y.jF h (c6 h (dX h r)):=λL u=>⟨(Y.lb.mp u).1,(Y.lb.mp u).2.1⟩;rw[<-z,<-A,e4 d.ck];refine⟨?_,Y.tS s b⟩;obtain⟨v,B,b⟩:=Y.n5.mp b;have sub:∀g,g∈dy v->e5 g∈ch h:=λg C=>Y.qn (nF B C);have st:∀{w e},e∈ee (c6 h (dX h r)) w->e∈d8 h:=λ{w e} D=>(s _ (Y.o3.mp D)).2;cases v with
 |num c g=>cases b
 |fn c g f=>cases b
 |add c e f=>cases b
 |var c g=>
  simp only[c5]at b;cases o:dH h c with
  |none=>rw[o]at b;cases b
  |some f=>rw[o]at b;simp at b;subst b;exact QF o
 |app c M e=>
  simp only[c5,cR]at b;obtain⟨i,l,b⟩:=b;cases i with
  |fn n=>
   simp only[bm,cx]at b;obtain rfl|⟨f,o,rfl⟩:=b;exact sub e (by simp[dy]);have F:=st l;obtain⟨g,q,m⟩:=Y.rU.mp F;have p:vP h n=j f:=by simpa using o
   have G:(aO h)[n]?=j (.fn n g q):=d.ck.at_ m;unfold vP at p;rw[d.ck.nodeAt,G]at p;have p:j (aS q)=j f:=p;cases p;exact Y.qn (nF m (by simp[dy]))
  |_=>cases b
 |letE c g k f=>simp[c5]at b;obtain rfl|rfl:=b;exact sub k (by simp[dy]);exact sub f (by simp[dy])
 |ifz c q e f=>simp[c5]at b;obtain rfl|rfl:=b;exact sub e (by simp[dy]);exact sub f (by simp[dy])
 |pair c e f=>simp[c5]at b;obtain rfl|rfl:=b;exact sub e (by simp[dy]);exact sub f (by simp[dy])
 |new c k=>simp[c5]at b;subst b;exact sub k (by simp[dy])
 |fst c k=>
  simp only[c5,cR]at b;obtain⟨i,l,b⟩:=b;cases i with
  |pair n=>simp at b;subst b;obtain⟨e,f,m⟩:=Y.tP.mp (st l);exact Y.CD m
  |_=>cases b
 |snd c k=>
  simp only[c5,cR]at b;obtain⟨i,l,b⟩:=b;cases i with
  |pair n=>simp at b;subst b;obtain⟨e,f,m⟩:=Y.tP.mp (st l);exact Y.CE m
  |_=>cases b
 |get c k=>
  simp only[c5,cR]at b;obtain⟨i,l,b⟩:=b;cases i with
  |ref n=>simp at b;subst b;obtain⟨e,m⟩:=Y.tQ.mp (st l);exact Y.w' m
  |_=>cases b
 |set c N k=>
  simp only[c5,bm,cR]at b;obtain rfl|⟨i,l,b⟩:=b;exact sub k (by simp[dy]);cases i with
  |ref n=>simp at b;subst b;exact sub k (by simp[dy])
  |_=>cases b
end e2
namespace bT
open PySem PySem.Spec PyProof.Rows
def GW{X:bJ}:j6 X (.type "dict") (λM c f=>∃e aB,M=[V.ref e]/\c e=j (.cH aB)/\∀m,c m=E->f (.ref m) (U c m (.cH aB))):=by intro z b A c M B f d l n;obtain⟨e,aB,rfl,o,p⟩:=n;obtain⟨C,rfl,q⟩:=vals1 l;cases q;obtain⟨g,r,h,i,s⟩:=d.hok e _ o;refine PySem.kt_call_dict (knd:=ge X.prog X.w) r s (by rw[((Paired.length i).symm:h.length=aB.length)];exact g) λD u v=>?_;exact⟨.ref b.heap.objs.size,U c b.heap.objs.size (.cH aB),d.hr (cX:=b.toks) (λx y k=>v.extBut x y (gL (d_ k)) (gs _ k)) (bC _) (show ei X.prog X.w _ _ _ (.cH aB)from⟨g,(fl.mpr (DK d.o8):(b.heap.objs.size==g7)=am),h,i,u⟩),a,p _ (d.hok.fresh (bC _))⟩
end bT
namespace e2
open PySem PySem.Spec PyProof.Rows bT
abbrev kc:t:=38
abbrev ec:t:=100
abbrev nG:t:=27
abbrev ak:=el
def jW(y:Nat):Str:=⟨#[y]⟩
def aX(p:ak):Str:=⟨(p.map fP).toArray⟩
noncomputable def gh(p:ak):List V:=p.map λb=>V.int (b.toNat:Nat)
def iT{e b:ak}(d:aX e=aX b):e=b:=by unfold aX at d;have d:=Str.mk.inj d;exact(QI λf g c=>z2.mp c).mp (by simpa using d:e.map fP=b.map fP)
def QJ(p:ak)(b:UInt8):aX (p++[b])=aX p++jW b.toNat:=by show(⟨((p++[b]).map fP).toArray⟩:Str)=⟨(p.map fP).toArray++ #[b.toNat]⟩;rw[cS];simp
def QK:aX []=("":Str):=rfl
def gT(p:ak):(aX p).length=p.length:=by show((p.map fP).toArray).size=_;simp
variable{p:ak}
def z3:aX p=("":Str)↔p=[]:=⟨λb=>iT (b.trans QK.symm),λb=>by rw[b];rfl⟩
noncomputable def mF(n:List UInt8):List (bY×V):=n.map λb=>(gm ((b.toNat:Nat):Int),V.str (jW b.toNat))
def GX(n:List UInt8)(b:UInt8):cg (mF n) (gm ((b.toNat:Nat):Int))=if b∈n then j (V.str (jW b.toNat))else E:=by
 delta mF;induction n with
 |nil=>simp[cg]
 |cons f g h=>rw[bz];by_cases e:f=b;subst e;rw[jl a,as b8];have i:¬(gm ((f.toNat:Nat):Int):bY)=gm ((b.toNat:Nat):Int):=λk=>e (z2.mp (vC (Dg k)));rw[jm i,h];by_cases d:b∈g;rw[as d,as (cv _ d)];rw[ag d,ag];intro c;obtain c|c:=bm.mp c;exact e c.symm;exact d c
def QL{n:List UInt8}{y:UInt8}(d:y∉n):ey (mF n) (gm ((y.toNat:Nat):Int)) (V.str (jW y.toNat))=mF (n++[y]):=by rw[uR _ (by rw[GX,ag d]:cg (mF n) (gm ((y.toNat:Nat):Int))=E)];delta mF;rw[cS];rfl
def lJ(b p:ak):Bool:=p.all λc=>b.contains c
def rf{e:ak}:lJ e p=H↔∀b∈p,b∈e:=by delta lJ;rw[l4];exact⟨λc b d=>d1.mp (c b d),λc b d=>d1.mpr (c b d)⟩
theorem GY:∀n:List (List Nat),iM.mo [] n=n.flatten
 |[]=>rfl
 |[b]=>by simp[iM.mo]
 |b::c::d=>by show b++([]++iM.mo [] (c::d))=_;rw[GY (c::d)];simp
def GZ(n:List Str):pF ("":Str) n=⟨(n.map iM.ax).flatten.toArray⟩:=by refine iM.uZ ?_;rw[iM.y3,iM.u2];exact GY _
def join_one(p:ak):pF ("":Str) (p.map λb=>jW b.toNat)=aX p:=by
 rw[GZ];delta aX;congr 1;congr 1;induction p with
 |nil=>rfl
 |cons d e c=>rw[bz,bz,pQ,bz,c];rfl
def kU:9000<aD:=nofun
structure iu (K:bG) (mg:Str->Option ab):Prop where
 oM:ij K mg "NotProgram" kc
 QM:∃p,mg "SINGLE_SIGNS"=j (.str "() " p)
 QN:∃p,mg "LETTERS"=j (.str "abcdefghijklmnopqrstuvwxyz" p)
 QO:∃p,mg "DIGITS"=j (.str "0123456789" p)
 z4:∃p,mg "END"=j (.str "" p)
 G0:∃p,mg "INPUT_NAME"=j (.str "in" p)
 QP:∃p,mg "LONGEST_NAME"=j (.int 4 p)
 QQ:∃p,mg "LONGEST_NUMBER"=j (.int 2 p)
 QR:∃p,mg "MOST_NODES"=j (.int 30 p)
 G1:∃p,mg "MOST_AROUND"=j (.int 8 p)
 QS:∃p,mg "CALL_PARTS"=j (.int 2 p)
 z5:mg "PART_COUNTS"=j (.ref nG)
 G2:mg "ord"=E
 z6:mg "dict"=E
 QT:mg "int"=E
 iv:ha K ec
 pR:eN K ec "tokens"
 nH:eN K ec "at"
 hY:eN K ec "nodes"
abbrev z7:be:=b3 2
inductive vT(K:bG)(G:List V)(c:z)(e:aW)(g:bn):Prop|mk:∀(f:t) (p b:ak),G=[.ref f,.str (aX b)]->an K c f (gh p)->p.length<=4000->b.Nodup->b.length<=100->(lJ b p=H->∀d,Q c d->e (.str (aX p)) d)->(lJ b p=am->∀d,Q c d->e .aL d)->vT K G c e g
variable{P:cN}{w:cr}{K:bG}{mg:Str->Option ab}{base:bM}{f:t}{ai:hQ}
def s8:b2 ["text","allowed","known","sign","signs","byte"] Zc (bo z7):=⟨a,a,a,∅,a,∅,∅⟩
inductive G3(c:z)(e:t)(b:ak)(aa:t)(k:Nat)(f:bT.St)(d:z):Prop|mk:∀g,f=[j (.ref e),j (.str (aX b)),j (.ref aa),g,E,E]->Q c d->d aa=j (.cH (mF (b.take k)))->G3 c e b aa k f d
inductive G4(c:z)(e:t)(p b:ak)(aa f:t)(k:Nat)(h:bT.St)(d:z):Prop|mk:∀i l,h=[j (.ref e),j (.str (aX b)),j (.ref aa),i,j (.ref f),l]->Q c d->(d aa=j (.cH (mF b))/\d f=j (.L ((p.take k).map λg=>V.str (jW g.toNat)))/\∀g∈p.take k,g∈b)->G4 c e p b aa f k h d
def QU(F:bO K "signs_of" "signs_of" z7 f ai)(bF:iu K mg):bd P w K mg base a7 2 f ai Zc (vT K):=by
 refine F.ok s8 (λad s af ah B=>?_) (λaF aG aI aK s ad af ah aj B=>?_);obtain⟨e,d,b,rfl,_⟩:=B;rfl;obtain⟨e,d,b,rfl,C,T,ak,aL,U,W⟩:=B;have D:=kM aj;refine⟨_,ay (bZ (k:=2) s8.nd a (aU a) sH) (ay (fg gx a (yO (x 1)) (cF (k:=3) s8.nd a (aU a)) (aA (ml D (x 2) (en DX a bF.G2 (by rfl) (I (x 3) ae)) (x 3) a))) (ay (bZ (k:=4) s8.nd a (aU a) (dR ae)) (ay (fg gx a (dU (x 0)) (cF (k:=5) s8.nd a (aU a)) (ay (cp (mb (oy D (x 5) (x 2))) (aA (bx jK)) cO) (aA (c' (fF fK hT iq hS (x 4) (I (jP D (x 2) (x 5) (λ_ _=>rfl)) ae)))))) (aA (bx (zb c_ (x 4))))))),?_⟩;intro l X;refine⟨_,a,_,a,?_⟩;refine F8 (i:=aX b) (G3 s e b l) ⟨E,a,(Q.fresh (q:=aC.cH []) X),aw⟩ ?_ ?_;rintro k m u G c7 ⟨Y,rfl,v,y⟩;have n:(b.map fP)[k]?=j m:=by have:(b.map fP).toArray[k]?=j m:=c7;simpa using this
 rw[d2]at n;cases g:b[k]? with
 |none=>rw[g]at n;cases n
 |some c=>
  rw[g]at n;have al:m=c.toNat:=(dP n).symm;subst al;have ao:(mF (b.take k)).length<aD:=by delta mF;rw[aV,ic];exact c1 (by omega)
  refine⟨_,a,_,a,_,a,_,a,a,l,_,a,kJ.r (r:=gm ((c.toNat:Nat):Int)) y ao,_,a,v.bK X,?_⟩;rw[aw,eF g];exact dZ (λh=>j (aC.cH h)) (QL (Gw ak g:c∉b.take k))
 rintro u aM ⟨Y,rfl,J,N⟩;have ap:(aX b).cps.size=b.length:=gT b;rw[ap,f8]at N;refine⟨dC _,λo O=>?_⟩;have R:=Q.fresh (q:=aC.L []) O;refine⟨_,a,e,a,⟨_,(J.trans R).seq C⟩,g' (K:=K) (e:=e) (M:=gh d) (G4 s e d b l o) ⟨_,E,a,J.trans R,R _ _ N,aw,by simp⟩ (λk u G _ ⟨_,_,_,h,_⟩=>h.seq C) ?_ ?_⟩;rintro k i u G ar ⟨Y,av,rfl,v,y,Z,p⟩;obtain⟨c,g,rfl⟩:=jR ar;have aN:k<4000:=gK (es.mp g).1 T;have z:=eo.r (r:=gm ((c.toNat:Nat):Int)) y;rw[GX]at z;refine⟨_,a,_,a,l,_,a,z,_,a,?_⟩;by_cases A:c∈b;rw[as A]at z|-;refine cq ?_;refine⟨_,a,.inl ⟨a,_,an.au Z⟩,_,a,_,a,l,V.str (jW c.toNat),a,z,o,_,_,a,a,Z,?_,?_⟩;rw[aV,ic];exact jo (by omega) kU;refine⟨_,_,a,v.bK (J.free O:s o=E),by rw[aH (ew N O:l≠o)];exact y,?_,λm c7=>?_⟩;rw[aw,eF g,cS];rfl;rw[eF g]at c7;obtain c7|c7:=bE.mp c7;exact p m c7;have:m=c:=by simpa using c7
 subst this;exact A;rw[ag A];refine cm (W ?_ G v);cases h:lJ b d with
 |false=>rfl
 |true=>exact aq (rf.mp h c (ev g)) A
 rintro u ax ⟨aP,av,rfl,az,aQ,S,p⟩;have aa:(gh d).length=d.length:=aV _;rw[aa,f8]at S p;refine⟨⟨_,a⟩,_,a,_,o,d.map (λc=>jW c.toNat),a,a,.inl (an.au (by rw[S,fU];rfl)),?_,?_⟩;have h:("":Str).length=0:=rfl;rw[h,Nat.mul_zero,y1,fU];have:(d.map ((λi=>i.length)∘λc=>jW c.toNat)).sum=d.length:=by
  clear U W C T S p aa;induction d with
  |nil=>rfl
  |cons c aB aE=>rw[bz,l1,aE,cy];show 1+aB.length=_;omega
 omega;rw[join_one];exact U (rf.mpr p) ax az
def iU:ak:=dI "() abcdefghijklmnopqrstuvwxyz0123456789"
def QV:iU.Nodup:=∅
def QW:((eD "() "++eD "abcdefghijklmnopqrstuvwxyz")++eD "0123456789")=aX iU:=∅
def lK(y:UInt8):Bool:=decide (y=40\/y=41\/y=32)
def QX:∀y∈iU,(!(sm "() " (jW y.toNat) 0 (eD "() ").length 1).isEmpty)=lK y:=∅
def f'(s:List ak×ak):List ak:=if s.2=[]then s.1 else s.1++[s.2]
noncomputable def stepT(s:List ak×ak)(y:UInt8):List ak×ak:=if lK y=H then(f' s++[[y]],[])else(s.1,s.2++[y])
def ft(b:ak):List ak×ak:=b.foldl stepT ([],[])
def hC(b:ak):List ak:=f' (ft b)++[[]]
def hD(n:List ak):List V:=n.map λp=>V.str (aX p)
def QY(b:ak)(y:UInt8):ft (b++[y])=stepT (ft b) y:=by delta ft;rw[z8];rfl
def z9(s:List ak×ak):(f' s).length<=s.1.length+1:=by delta f';split;omega;rw[b4,fS];exact bC _
theorem G5:∀(b:ak) (s:List ak×ak),(b.foldl stepT s).1.length<=s.1.length+2*b.length/\(b.foldl stepT s).2.length<=s.2.length+b.length
 |[],s=>⟨by simp,by simp⟩
 |y::b,s=>by
  rw[gk,cy];have c:=G5 b (stepT s y);have d:(stepT s y).1.length<=s.1.length+2:=by delta stepT;split;show(f' s++[[y]]).length<=_;rw[b4,fS];have:=z9 s;omega;show s.1.length<=_;omega
  have e:(stepT s y).2.length<=s.2.length+1:=by delta stepT;split;exact dC _;show(s.2++[y]).length<=_;rw[b4,fS];exact bC _
  omega
def G6(b:ak):(ft b).1.length<=2*b.length/\(ft b).2.length<=b.length:=by have:=G5 b ([],[]);simp only[t0]at this;delta ft;omega
abbrev z_:be:=b3 20
inductive z'(K:bG)(G:List V)(c:z)(e:aW)(B:bn):Prop|mk:∀(f:t) (p:ak),G=[.ref f]->an K c f (gh p)->p.length<=4000->(lJ iU p=H->∀(b:z) (d:t),Q c b->c d=E->b d=j (.L (hD (hC p)))->e (.ref d) b)->(lJ iU p=am->∀b,Q c b->B (.ref kc) E b)->z' K G c e B
def pS:b2 ["text","signs","tokens","word","sign"] ZC (bo z_):=⟨a,a,a,∅,a,∅,∅⟩
inductive Aa(c:z)(e:t)(p:ak)(b:t)(k:Nat)(f:bT.St)(d:z):Prop|mk:∀g,f=[j (.ref e),j (.str (aX p)),j (.ref b),j (.str (aX (ft (p.take k)).2)),g]->Q c d->d b=j (.L (hD (ft (p.take k)).1))->Aa c e p b k f d
def QZ(F:bO K "split_tokens" "split_tokens" z_ f ai)(bF:iu K mg)(af:bI P w K mg base a7 2 "signs_of" Zc (vT K)):bd P w K mg base (bh P w K mg) 3 f ai ZC (z' K):=by
 refine F.okE pS (λah e p B l=>?_) (λaH aI aK aM e ah p B N l=>?_);obtain⟨g,b,rfl,_⟩:=l;rfl;obtain⟨g,b,rfl,aj,O,ak,al⟩:=l;obtain⟨aN,R⟩:=bF.QM;obtain⟨aP,ao⟩:=bF.QN;obtain⟨aQ,ap⟩:=bF.QO;obtain⟨aR,ar⟩:=bF.z4;refine⟨_,ay (bZ (k:=1) pS.nd a (aU a) (bP (B:=b9) af N a bN (I (x 0) (I (fD so (fD so (bQ a R (u:=.str "() ") ⟨_,a⟩) (bQ a ao (u:=.str "abcdefghijklmnopqrstuvwxyz") ⟨_,a⟩)) (bQ a ap (u:=.str "0123456789") ⟨_,a⟩)) ae)))) (ay (cp (b7 us (x 1) jK (cf _)) (aA (ik (B:=B) bF.oM (il (λ_ _ _ l=>l)) N.du a)) cO) (ay (bZ (k:=2) pS.nd a (aU a) (dR ae)) (ay (bZ (k:=3) pS.nd a (aU a) c_) (ay (fg rg a (yO (x 1)) (cF (k:=4) pS.nd a (aU a)) (aA (cp (b7 Mb (x 4) (bQ a R (u:=.str "() ") ⟨_,a⟩) a) (ay (cp (b7 sl (x 3) c_ (cf _)) (aA (c' (fF fK hT iq hS (x 2) (I (x 3) ae)))) cO) (ay (bZ (k:=3) pS.nd a (aU a) c_) (aA (c' (fF fK hT iq hS (x 2) (I (x 4) ae)))))) (aA (LV (k:=3) pS.nd a (aU a) (x 4) Md))))) (ay (cp (b7 sl (x 3) c_ (cf _)) (aA (c' (fF fK hT iq hS (x 2) (I (x 3) ae)))) cO) (ay (c' (fF fK hT iq hS (x 2) (I (bQ a ar (u:=.str "") ⟨_,a⟩) ae))) (aA (bx (x 2))))))))),?_⟩;refine⟨_,a,_,_,a,a,nofun,_,_,a,a,nofun,g,b,iU,by rw[QW];rfl,aj,O,QV,nofun,λS T r=>?_,λav T r=>?_⟩;refine⟨_,a,a,_,a,cq ⟨dC _,λc U=>?_⟩⟩;have A:=Q.fresh (q:=aC.L []) U;have m:e c=E:=r.free U;refine⟨_,a,_,a,F8 (i:=aX b) (Aa e g b c) ⟨E,a,r.trans A,aw⟩ ?_ ?_⟩;rintro k C ax D az ⟨W,rfl,G,s⟩;have n:(b.map fP)[k]?=j C:=by have:(b.map fP).toArray[k]?=j C:=az;simpa using this
 rw[d2]at n;cases o:b[k]? with
 |none=>rw[o]at n;cases n
 |some d=>
  rw[o]at n;have aB:C=d.toNat:=(dP n).symm;subst aB;have aT:k<4000:=gK (es.mp o).1 O;have X:=G6 (b.take k);rw[ic]at X;have Y:ft (b.take (k+1))=stepT (ft (b.take k)) d:=by rw[eF o,QY]
  refine⟨_,a,_,_,a,a,_,a,?_⟩;dsimp only;rw[show(⟨#[d.toNat]⟩:Str)=jW d.toNat from rfl,QX d ((rf.mp S) d (ev o))];refine gw (λJ=>?_) λJ=>?_;have st:ft (b.take (k+1))=(f' (ft (b.take k))++[[d]],[]):=by rw[Y];delta stepT;rw[as J]
  have bL:∀(h:z),Q e h->h c=j (.L (hD (f' (ft (b.take k)))))->xR (se (ff (.str "")) (d0 3)) (xS (yr K "list" uN (cD 2) (dx (cD 4) e1))) {bb:=Aa e g b c (k+1),lp:=p} [j (.ref g),j (.str (aX b)),j (.ref c),j (.str (aX (ft (b.take k)).2)),j (.str (jW d.toNat))] h:=by intro h A Z;have aE:=z9 (ft (b.take k));refine⟨_,a,.inl ⟨a,_,an.au Z⟩,_,a,c,_,_,a,a,Z,?_,?_⟩;delta hD;rw[aV];exact jo (by omega) kU;refine⟨j (.str (jW d.toNat)),?_,A.bK m,?_⟩;rw[st];rfl;rw[aw,st];delta hD;rw[cS];rfl
  refine⟨_,a,a,_,a,?_⟩;by_cases hw:(ft (b.take k)).2=[];refine u4 (by rw[hw];rfl) ?_;refine bL D G ?_;delta f';rw[as hw];exact s;dsimp only;rw[as (by rw[bq (λM=>hw (z3.mp (V.str.inj M)))];rfl)];refine⟨_,a,.inl ⟨a,_,an.au s⟩,_,a,c,_,_,a,a,s,?_,?_⟩;delta hD;rw[aV];exact jo (by omega) kU;refine bL _ (G.bK m) ?_;rw[aw];delta f';rw[ag hw];delta hD;rw[cS];rfl;have st:ft (b.take (k+1))=((ft (b.take k)).1,(ft (b.take k)).2++[d]):=by rw[Y];delta stepT;rw[ag J]
  refine⟨_,a,_,a,_,_,a,a,?_,?_⟩;show(aX _).length+1<=aD;rw[gT];exact fX (jo (by omega) kU);refine⟨j (.str (jW d.toNat)),?_,G,?_⟩;rw[st,QJ];rfl;rw[st];exact s
 rintro ax h ⟨W,rfl,aa,v⟩;have aF:(aX b).cps.size=b.length:=gT b;rw[aF,f8]at v|-;have X:=G6 b;have aE:=z9 (ft b);have bL:∀(y:z),Q e y->y c=j (.L (hD (f' (ft b))))->xR (xS (yr K "list" uN (cD 2) (dx (ff (.str "")) e1))) (DE (cD 2)) {bb:=λ_ D=>p .aL D,lp:=p} [j (.ref g),j (.str (aX b)),j (.ref c),j (.str (aX (ft b).2)),W] y:=by intro y aG ad;refine⟨_,a,.inl ⟨a,_,an.au ad⟩,c,_,_,a,a,ad,?_,?_⟩;delta hD;rw[aV];exact jo (by omega) kU;refine⟨_,a,ak S _ c (aG.bK m) m ?_⟩;rw[aw];delta hC hD;rw[cS];rfl
 refine⟨_,a,a,_,a,?_⟩;by_cases hw:(ft b).2=[];refine u4 (by rw[hw];rfl) ?_;refine bL h aa ?_;delta f';rw[as hw];exact v;dsimp only;rw[as (by rw[bq (λM=>hw (z3.mp (V.str.inj M)))];rfl)];refine⟨_,a,.inl ⟨a,_,an.au v⟩,_,a,c,_,_,a,a,v,?_,?_⟩;delta hD;rw[aV];exact jo (by omega) kU;refine bL _ (aa.bK m) ?_;rw[aw];delta f';rw[ag hw];delta hD;rw[cS];rfl;exact⟨_,a,a,_,a,cm (al av T r)⟩
noncomputable def Ab(ax:t)(m:Nat)(b:t):List (Str×V):=[("tokens",.ref ax),("at",.int (m:Nat)),("nodes",.ref b)]
def jX(toks:List ak)(m:Nat):ak:=toks.getD m []
def hZ(toks:List ak)(m:Nat):Nat:=if jX toks m=[]then m else m+1
structure nI (c:z) (s a4 ax cs:t) (toks:List ak) (m:Nat):Prop where
 az:c s=j (.az ec a4 (Ab ax m cs))
 nJ:c ax=j (.L (hD toks))
 lt:m<toks.length
abbrev kV(c:z)(s b ax d:t)(m:Nat):z:=U c s (.az ec b (Ab ax m d))
variable{c:z}{e:t}
def Q0{q:aC}(d:c e=j q):U c e q=c:=by funext f;by_cases b:f=e;subst b;rw[aw,d];rw[aH b]
variable{toks:List ak}{m:Nat}
def Ac(d:m<toks.length):toks[m]?=j (jX toks m):=by delta jX;rw[gE d,zP,gE d];rfl
def nI.move{s b ax e:t}{ao:Nat}(d:nI c s b ax e toks m)(f:ao<toks.length):nI (kV c s b ax e ao) s b ax e toks ao:=
 ⟨aw,by show U c s _ ax=_;rw[aH (ct d.nJ d.az ⋯)];exact d.nJ,f⟩
structure vU (toks:List ak):Prop where
 G7:∃n,toks=n++[[]]/\∀p∈n,p≠[]
def vU.next(d:vU toks)(b:m<toks.length):hZ toks m<toks.length:=by
 obtain⟨c,rfl,g⟩:=d.G7;delta hZ;split;exact b;rename_i e;rw[b4,fS]at b|-;have:m≠c.length:=λf=>e (by delta jX;rw[f,zP,pr (bC _)];simp)
 omega
abbrev Ad:be:=jn (b3 18) 0
abbrev Ae:be:=jn (b3 18) 1
abbrev Af:be:=jn (b3 18) 2
abbrev Ag:be:=jn (b3 18) 3
inductive Ah(G:List V)(c:z)(g:aW)(k:bn):Prop|mk:∀(b h ax:t) (toks:List ak),G=[.ref b,.ref ax]->c b=j (.az ec h [])->c ax=j (.L (hD toks))->0<toks.length->(∀(d:z) (e:t),(∀f i,c f=j i->f≠b->d f=j i)->c e=E->nI d b h ax e toks 0->d e=j (.L [])->g .aL d)->Ah G c g k
inductive Ai(G:List V)(c:z)(b:aW)(e:bn):Prop|mk:∀(d f ax g:t) (toks:List ak) (m:Nat),G=[.ref d]->nI c d f ax g toks m->b (.str (aX (jX toks m))) c->Ai G c b e
inductive rh(G:List V)(c:z)(d:aW)(g:bn):Prop|mk:∀(b e ax f:t) (toks:List ak) (m:Nat),G=[.ref b]->nI c b e ax f toks m->d (.str (aX (jX toks m))) (kV c b e ax f (hZ toks m))->rh G c d g
inductive ri(G:List V)(c:z)(g:aW)(B:bn):Prop|mk:∀(b d ax e:t) (toks:List ak) (m:Nat) (f:ak),G=[.ref b,.str (aX f)]->nI c b d ax e toks m->(jX toks m=f->g .aL (kV c b d ax e (hZ toks m)))->(jX toks m≠f->B (.ref kc) E (kV c b d ax e (hZ toks m)))->ri G c g B
def Q1:b2 Zj Zj (bo Ad):=⟨a,a,a,∅,a,∅,∅⟩
def Q2(F:bO K "__init__" "Reader.__init__" Ad f ai)(bF:iu K mg):bd P w K mg base a7 1 f ai Zj Ah:=by
 refine F.ok Q1 (λu e v y k=>?_) (λB C D G e u v y I k=>?_);obtain⟨b,c,ax,toks,rfl,_⟩:=k;rfl;obtain⟨b,c,ax,toks,rfl,o,p,z,A⟩:=k;refine⟨_,ay (f1 (x 0) (x 1) a) (ay (f1 (x 0) bt a) (aA (f1 (x 0) (dR ae) a))),?_⟩;refine⟨_,a,_,a,b,ec,c,_,a,o,bF.iv,bF.pR,(by show 0<1000;decide),?_⟩;refine⟨_,a,b,ec,c,_,a,aw,bF.iv,bF.nH,(by show 1<1000;decide),?_⟩;refine⟨dC _,λd g=>?_⟩;have h:d≠b:=λl=>by rw[l,aw]at g;cases g
 refine⟨_,a,b,ec,c,_,a,by rw[aH (cU h)];exact aw,bF.iv,bF.hY,(by show 2<1000;decide),?_⟩;have q:e d=E:=by rw[aH h,aH h]at g;exact g
 have r:∀i m,e i=j m->i≠b->U (U (U (U e b (.az ec c (c0 "tokens" (.ref ax) []))) b (.az ec c (c0 "at" (.int 0) (c0 "tokens" (.ref ax) [])))) d (.L [])) b (.az ec c (c0 "nodes" (.ref d) (c0 "at" (.int 0) (c0 "tokens" (.ref ax) [])))) i=j m:=λi m s n=>by rw[aH n,aH (ew s q),aH n,aH n];exact s
 refine A _ d r q ⟨by rw[aw];rfl,r _ _ p (ct p o ⋯),z⟩ (by rw[aH h,aw])
def Q3:b2 ZB ZB (bo Ae):=⟨a,a,a,∅,a,∅,∅⟩
def Q4(F:bO K "look" "Reader.look" Ae f ai)(bF:iu K mg):bd P w K mg base a7 1 f ai ZB Ai:=by refine F.ok Q3 (λg h i k c=>?_) (λo p q r h g i k s c=>?_);obtain⟨d,e,ax,l,toks,m,rfl,_⟩:=c;rfl;obtain⟨d,e,ax,l,toks,m,rfl,b,n⟩:=c;refine⟨_,aA (bx (bU cj (a1 (x 0) a) (a1 (x 0) a) (λ_ _=>rfl))),?_⟩;exact⟨_,a,d,ec,e,_,_,a,b.az,bF.iv,bF.pR,a,_,a,d,ec,e,_,_,a,b.az,bF.iv,bF.nH,a,ax,_,_,_,a,a,an.au b.nJ,dj (by delta hD;rw[d2,Ac b.lt];rfl),n⟩
def G8:b2 Zr ZB (bo Af):=⟨a,a,a,∅,a,∅,∅⟩
def Q5(F:bO K "take" "Reader.take" Af f ai)(bF:iu K mg):bd P w K mg base a7 1 f ai ZB rh:=by
 refine F.ok G8 (λn i o p l=>?_) (λv y z A i n o p B l=>?_);obtain⟨e,d,ax,m,toks,b,rfl,_⟩:=l;rfl;obtain⟨e,d,ax,m,toks,b,rfl,c,g⟩:=l;obtain⟨q,r⟩:=bF.z4;refine⟨_,ay (bZ (k:=1) G8.nd a (aU a) (bU cj (a1 (x 0) a) (a1 (x 0) a) (λ_ _=>rfl))) (ay (cp (b7 sl (x 1) (bQ a r (u:=.str "") ⟨q,a⟩) (cf _)) (aA (D_ (x 0) bt Ea)) cO) (aA (bx (x 1)))),?_⟩;refine⟨_,a,e,ec,d,_,_,a,c.az,bF.iv,bF.pR,a,_,a,e,ec,d,_,_,a,c.az,bF.iv,bF.nH,a,ax,_,_,_,a,a,an.au c.nJ,dj (by delta hD;rw[d2,Ac c.lt];rfl),?_⟩;refine⟨_,a,a,_,a,?_⟩;by_cases h:jX toks b=[];have:hZ toks b=b:=by delta hZ;rw[as h]
 rw[this,show kV i e d ax m b=i from Q0 c.az]at g;exact u4 (by rw[h];rfl) ⟨_,a,g⟩;have:hZ toks b=b+1:=by delta hZ;rw[ag h]
 rw[this]at g;dsimp only;rw[as (by rw[bq (λs=>h (z3.mp (V.str.inj s)))];rfl)];refine⟨_,a,e,ec,d,_,_,a,c.az,bF.iv,bF.nH,a,?_⟩;refine⟨_,_,a,a,d,_,c.az,(by show 3<1000;decide),⟨_,a,?_⟩⟩;have C:((b+1:Nat):Int)=(b:Int)+1:=rfl;exact g
def Q6:b2 Zr Zr (bo Ag):=⟨a,a,a,∅,a,∅,∅⟩
def Q7(F:bO K "expect" "Reader.expect" Ag f ai)(bF:iu K mg)(m:eE P w K mg base a7 1 ec "take" ZB rh):bd P w K mg base (bh P w K mg) 2 f ai Zr ri:=by
 refine F.okE Q6 (λn o p B b=>?_) (λu v y z o n p B h b=>?_);obtain⟨d,e,ax,i,toks,g,k,rfl,_⟩:=b;rfl;obtain⟨d,e,ax,i,toks,g,k,rfl,l,q,r⟩:=b;refine⟨_,aA (cp (b7 sl (oE (B:=b9) m (x 0) h bN) (x 1) (cf _)) (aA (ik (B:=B) bF.oM (il (λ_ _ _ b=>b)) h.du a)) cO),?_⟩;refine⟨_,a,d,e,_,a,l.az,a,d,e,ax,i,toks,g,a,l,_,a,a,_,a,?_⟩;by_cases c:jX toks g=k;exact u4 (by rw[c]) (q c)
 try dsimp only
 rw[as (by rw[bq (λs=>c (iT (V.str.inj s)))];rfl)];exact r c
def gz(p:ak):Prop:=∀b∈p,b∈iU
def Q8:∀b∈iU,Unicode.isDigit b.toNat=g3 b:=∅
def Q9:∀b∈iU,Unicode.isAlpha b.toNat=li b:=∅
def G9(f:Nat->Bool)(g:UInt8->Bool)(d:∀b∈p,f b.toNat=g b):(aX p).cps.all f=p.all g:=by
 show((p.map fP).toArray).all f=_;rw[List.all_toArray,Q_];induction p with
 |nil=>rfl
 |cons c i e=>rw[tY,tY,e λb h=>d b (cv _ h)];show(f c.toNat&&_)=_;rw[d c b8]
def G_(p:ak):decide ((aX p).length>0)= !p.isEmpty:=by rw[gT];cases p<;>simp
def Q'(d:gz p):y6 (aX p)=(!p.isEmpty&&p.all g3):=by unfold y6;rw[G_,G9 _ g3 λb c=>Q8 b (d b c)]
def Ra(d:gz p):y7 (aX p)=(!p.isEmpty&&p.all li):=by unfold y7;rw[G_,G9 _ li λb c=>Q9 b (d b c)]
def pT:ak:=dI "0123456789"
def Aj:∀b∈iU,g3 b=H->b∈pT:=∅
def G':∀e∈pT,i_ [e]=j (e.toNat-48)/\y9 (aX [e])=j ((e.toNat-48:Nat):Int)/\(y8 (aX [e]) (eD "0")=decide (e=48)):=∅
def Ha:∀e∈pT,∀b∈pT,i_ [e,b]=(if e=48 then E else j ((e.toNat-48)*10+(b.toNat-48)))/\y9 (aX [e,b])=j (((e.toNat-48)*10+(b.toNat-48):Nat):Int)/\(y8 (aX [e,b]) (eD "0")=decide (e=48)):=∅
def Hb:aX [48]=eD "0":=rfl
def vV(d:(!p.isEmpty&&p.all g3)=am\/p.length>2):i_ p=E:=by
 unfold i_;rw[ag];rintro⟨e,b,c⟩;obtain d|d:=d;rw[b,Bool.and_true]at d;cases p with
 |nil=>exact aq c nofun
 |cons f g=>cases d
 omega
def Hc(c:gz p)(d:(!p.isEmpty&&p.all g3)=H)(f:p.length<=2):(∃e∈pT,p=[e])\/∃e∈pT,∃b∈pT,p=[e,b]:=by
 rw[dQ,l4]at d
 match p,d,f,c with
 |[],d,_,_=>exact aq d.1 nofun
 |[e],d,_,c=>exact .inl ⟨e,Aj e (c e (by simp)) (d.2 e (by simp)),a⟩
 |[e,b],d,_,c=>exact .inr ⟨e,Aj e (c e (by simp)) (d.2 e (by simp)),b,Aj b (c b (by simp)) (d.2 b (by simp)),a⟩
 |e::b::g::h,_,f,_=>simp at f
def Rb{o:Nat}(i:gz p)(d:i_ p=j o):y9 (aX p)=j (o:Int)/\p.length<=2:=by
 have k:(!p.isEmpty&&p.all g3)=H:=by
  cases b:(!p.isEmpty&&p.all g3)with
  |true=>rfl
  |false=>rw[vV (.inl b)]at d;cases d
 have h:p.length<=2:=by by_cases b:p.length<=2;exact b;rw[vV (.inr (by omega))]at d;cases d
 refine⟨?_,h⟩;obtain⟨c,e,rfl⟩|⟨c,e,l,m,rfl⟩:=Hc i k h;obtain⟨f,g,_⟩:=G' c e;rw[f]at d;cases d;exact g;obtain⟨f,g,_⟩:=Ha c e l m;rw[f]at d;split at d;cases d;cases d;exact g
noncomputable def vW:List (ak×Nat):=[("fun",1),("let",2),("if",3),("pair",2),("fst",1),("snd",1),("new",1),("get",1),("set",2),("add",2)].map λm=>(dI m.1,m.2)
def pU:List (bY×V):=vW.map λm=>(dJ (aX m.1),V.int (m.2:Nat))
def hi(p:ak):Option Nat:=(vW.find? λm=>m.1==p).map λm=>m.2
def Rc(p:ak):cg pU (dJ (aX p))=(hi p).map λo=>V.int (o:Nat):=by
 delta pU hi;generalize vW=d;induction d with
 |nil=>rfl
 |cons c g e=>rw[bz,ez];by_cases b:c.1=p;rw[jl (show(dJ (aX c.1):bY)=dJ (aX p)by rw[b]),fz.mpr b];rfl;rw[jm (λf=>b (iT (t' f))),fl.mpr b];exact e
def Ak(p:ak):(hi p).isSome=n_.contains p:=by
 have e:∀(c:List (ak×Nat)),((c.find? λb=>b.1==p).map λb=>b.2).isSome=(c.map λb=>b.1).contains p:=by
  intro c;induction c with
  |nil=>rfl
  |cons b g f=>rw[ez,bz,Pn];by_cases d:b.1=p;rw[fz.mpr d,fz.mpr d.symm];rfl;rw[fl.mpr d,fl.mpr (cU d)];exact f
 exact e vW
abbrev js(c:z):Prop:=bA c nG (.cH pU)
def eo.fi{aB:List (bY×V)}{r:bY}(h:bA c e (.cH aB)):eo c e (c9 r) (cg aB r):=.inl ⟨aB,r,h,a,a⟩
def Al(d:js c)(p:ak):eo c nG (.str (aX p)) ((hi p).map λo=>V.int (o:Nat)):=by rw[<-Rc];exact eo.fi (r:=dJ (aX p)) d
abbrev cd:=ak->Option Nat
def bindL(lk:cd)(i:ak)(n:Nat):cd:=λb=>if b=i then j n else lk b
inductive Hd(c:z)(aa:t)(lk:cd)(v:Nat):Prop|mk:∀b,c aa=j (.cH b)->b.length<=v->(∀p,cg b (dJ (aX p))=(lk p).map λd=>V.int (d:Nat))->Hd c aa lk v
structure hE (c:z) (aa:t) (lk:cd) (v:Nat):Prop where
 ex:Hd c aa lk v
def hE.get{aa:t}{lk:cd}{v:Nat}(d:hE c aa lk v)(p:ak):eo c aa (.str (aX p)) ((lk p).map λo=>V.int (o:Nat)):=by obtain⟨f,b,_,e⟩:=d.ex;rw[<-e];exact eo.r (r:=dJ (aX p)) b
def hE.keep{b:z}{aa:t}{lk:cd}{v:Nat}(d:hE c aa lk v)(h:∀q,c aa=j q->b aa=j q):hE b aa lk v:=
 let⟨e,f,g,i⟩:=d.ex
 ⟨e,h _ f,g,i⟩
noncomputable def cJ(r:Str)(b c:V)(d:t):List (Str×V):=[("kind",.str r),("binder",b),("number",c),("parts",.ref d)]
inductive He(c:z)(e:t)(o:a2)(F:t->Prop):Prop|mk:∀d b,c e=j (.az cW d (cJ o.kind o.pJ o.vm b))->c b=j (.L (b' o.parts))->F b->He c e o F
def iV(c:z)(e:t)(o:a2)(F:t->Prop):Prop:=He c e o F
def iV.node{o:a2}{F:t->Prop}(d:iV c e o F):q5 c e o:=
 let⟨b,f,g,h,_⟩:=d
 ⟨b,f,_,g,a,⟨a,a⟩,a,h⟩
def iV.aG{b:z}{o:a2}{F e_:t->Prop}(d:iV c e o F)(h:Q c b)(g:∀m,F m->e_ m):iV b e o e_:=
 let⟨f,i,k,l,n⟩:=d
 ⟨f,i,h _ _ k,h _ _ l,g _ n⟩
abbrev Am:be:=jn (b3 17) 0
inductive s9(G:List V)(c:z)(f:aW)(l:bn):Prop|mk:∀(e g:t) (h:Str) (i k:V),G=[.ref e,.str h,i,k]->c e=j (.az cW g [])->(∀(b:z) (d:t),dM e c b->c d=E->b e=j (.az cW g (cJ h i k d))->b d=j (.L [])->f .aL b)->s9 G c f l
abbrev An:be:=b3 26
inductive Ao(G:List V)(c:z)(b:aW)(d:bn):Prop|mk:∀(p:ak),G=[.str (aX p)]->gz p->p.length<=4000->b (.bl (i_ p).isSome) c->Ao G c b d
abbrev Ap:be:=b3 27
inductive Aq(G:List V)(c:z)(b:aW)(d:bn):Prop|mk:∀(p:ak),G=[.str (aX p)]->gz p->p.length<=4000->js c->b (.bl (rY p)) c->Aq G c b d
noncomputable def lL(lk:cd)(p:ak):Option a2:=match i_ p with
 |some b=>j ⟨"number",.aL,[],.int (b:Nat)⟩
 |none=>if p=d9 then j ⟨"in",.aL,[],.aL⟩else(lk p).map λc=>⟨"name",.int (c:Nat),[],.aL⟩
abbrev Ar:be:=b3 22
inductive As(G:List V)(c:z)(d:aW)(B:bn):Prop|mk:∀(p:ak) (f:t) (lk:cd) (h:Nat),G=[.str (aX p),.ref f]->gz p->p.length<=4000->hE c f lk h->(∀g,lL lk p=j g->∀(b:z) (e:t),Q c b->c e=E->iV b e g (λm=>c m=E)->d (.ref e) b)->(lL lk p=E->∀b,Q c b->B (.ref kc) E b)->As G c d B
def Rd:b2 YY YY (bo Am):=⟨a,a,a,∅,a,∅,∅⟩
def Rf(F:bO K "__init__" "Node.__init__" Am f ai)(T:cT K mg):bd P w K mg base a7 1 f ai YY s9:=by
 refine F.ok Rd (λn k o p h=>?_) (λz A B C k n o p D h=>?_);obtain⟨b,c,q,r,s,rfl,_⟩:=h;rfl;obtain⟨b,c,q,r,s,rfl,u,v⟩:=h;refine⟨_,ay (f1 (x 0) (x 1) a) (ay (f1 (x 0) (x 2) a) (ay (f1 (x 0) (x 3) a) (aA (f1 (x 0) (dR ae) a)))),?_⟩;refine⟨_,a,_,a,b,cW,c,_,a,u,T.dB,T.fh,(by show 0<1000;decide),?_⟩;refine⟨_,a,_,a,b,cW,c,_,a,aw,T.dB,T.zk,(by show 1<1000;decide),?_⟩;refine⟨_,a,_,a,b,cW,c,_,a,aw,T.dB,T.hY,(by show 2<1000;decide),?_⟩;refine⟨dC _,λi e=>?_⟩;have d:i≠b:=λy=>by rw[y,aw]at e;cases e
 refine⟨_,a,b,cW,c,_,a,by rw[aH (cU d)];exact aw,T.dB,T.lD,(by show 3<1000;decide),?_⟩;have l:k i=E:=by rw[aH d,aH d,aH d]at e;exact e
 refine v _ i (λG I m g=>?_) l (by rw[aw];rfl) (by rw[aH d,aw]);rw[aH g,aH (ew m l),aH g,aH g,aH g];exact m
def Rg:b2 Zy Zy (bo An):=⟨a,a,a,∅,a,∅,∅⟩
def Rh(F:bO K "is_number" "is_number" An f ai)(T:cT K mg)(bF:iu K mg):bd P w K mg base a7 1 f ai Zy Ao:=by
 refine F.ok Rg (λp q r s h=>?_) (λD G J L q p r s M h=>?_);obtain⟨e,rfl,_⟩:=h;rfl;obtain⟨e,rfl,n,N,c⟩:=h;obtain⟨O,v⟩:=bF.QQ;refine⟨_,ay (cp (ht.lq (og (sb (mc (y' PySem.F.slot_str_isdigit PySem.F.type_str_isdigit OA (x 0)))) (pd (b7 nr (en EJ a T.eP e3 (I (x 0) ae)) (bQ a v (u:=.int 2) ⟨_,a⟩) (cf _))))) (aA (bx of)) cO) (aA (bx (LI (DU dL (x 0) c_ (cf _)) (Dz (LJ (za PySem.F.slot_str_startswith PySem.F.type_str_startswith OD (x 0) c_)))))),?_⟩;refine⟨_,a,⟨_,a⟩,_,a,a,trivial,_,a,?_⟩;rw[Q' n];cases o:(!e.isEmpty&&e.all g3)with
 |false=>rw[vV (.inl o)]at c;exact cm c
 |true=>
  refine cq ⟨_,a,_,a,by rw[gT];exact fX (jo (by omega) kU),_,_,a,a,_,a,?_⟩;dsimp only;rw[gT];by_cases y:e.length<=2;rw[bq (by omega)];refine cq ⟨_,a,a,_,a,?_⟩;have z:∀b,decide (V.str (aX [b])=V.str (eD "0"))=decide (b=(48:UInt8)):=λb=>by by_cases d:b=48;subst d;rw[bw a];exact bw a;rw[bq d];exact bq λi=>d (by have:=iT ((V.str.inj i).trans Hb.symm);simpa using this)
  have A:∀b g,decide (V.str (aX [b,g])=V.str (eD "0"))=am:=λb g=>bq λi=>by have:=iT ((V.str.inj i).trans Hb.symm);simp at this
  obtain⟨b,k,rfl⟩|⟨b,k,g,B,rfl⟩:=Hc n o y;obtain⟨l,C,m⟩:=G' b k;rw[l]at c;rw[z];by_cases d:b=48;rw[bw d];exact cm c;rw[bq d];refine cq ⟨_,a,⟨_,a⟩,_,_,a,a,_,a,?_⟩;rw[m,bq d];exact c;obtain⟨l,C,m⟩:=Ha b k g B;rw[l]at c;rw[A];refine cq ⟨_,a,⟨_,a⟩,_,_,a,a,_,a,?_⟩;rw[m];by_cases d:b=48;rw[as d]at c;rw[bw d];exact c;rw[ag d]at c;rw[bq d];exact c;rw[vV (.inr (by omega))]at c;rw[bw (by omega)];exact cm c
def Ri:b2 Zy Zy (bo Ap):=⟨a,a,a,∅,a,∅,∅⟩
def Rj(F:bO K "is_name" "is_name" Ap f ai)(T:cT K mg)(bF:iu K mg):bd P w K mg base a7 2 f ai Zy Aq:=by
 refine F.ok Ri (λi k l m d=>?_) (λr s v y k i l m n d=>?_);obtain⟨c,rfl,_⟩:=d;rfl;obtain⟨c,rfl,o,z,p,b⟩:=d;obtain⟨A,q⟩:=bF.QP;refine⟨_,aA (bx (DA (y' PySem.F.slot_str_isalpha PySem.F.type_str_isalpha OB (x 0)) (DA (DU L' (en EJ a T.eP e3 (I (x 0) ae)) (bQ a q (u:=.int 4) ⟨_,a⟩) (cf _)) (Dz (Du (by exact oy (kM n) (x 0) (bQ a bF.z5 (u:=.ref nG) a))))))),?_⟩;refine⟨_,a,⟨_,a⟩,_,a,a,trivial,_,a,?_⟩;rw[Ra o];unfold rY at b;cases e:c.isEmpty with
 |true=>rw[e]at b;exact cq b
 |false=>
  rw[e]at b;cases g:c.all li with
  |false=>rw[g]at b;refine cq ?_;rw[LW,uO,uO]at b;exact b
  |true=>rw[g]at b;refine cm ⟨_,a,_,a,by rw[gT];exact fX (jo (by omega) kU),_,_,a,a,_,a,?_⟩;rw[gT];by_cases h:c.length<=4;rw[bw (by omega)];refine cm ⟨_,a,nG,_,a,Al p c,?_⟩;rw[uS,Ak];have:decide (c.length<=CP)=H:=bw h;rw[this]at b;exact b;rw[bq (by omega)];have:decide (c.length<=CP)=am:=bq h;rw[this]at b;exact cq b
def Rk:b2 Zk Zk (bo Ar):=⟨a,a,a,∅,a,∅,∅⟩
def Rl(F:bO K "plain_node" "plain_node" Ar f ai)(T:cT K mg)(bF:iu K mg)(O:bI P w K mg base a7 1 "is_number" Zy Ao)(o:kP P w K mg base a7 1 cW "Node" YY s9):bd P w K mg base (bh P w K mg) 3 f ai Zk As:=by
 refine F.okE Rk (λR g z B l=>?_) (λan ao ap ar g R z B h l=>?_);obtain⟨c,p,lk,S,rfl,_⟩:=l;rfl;obtain⟨c,p,lk,S,rfl,A,W,C,X,Y⟩:=l;obtain⟨au,Z⟩:=bF.G0;have D:=kM h;refine⟨_,ay (cp (mc (bP (B:=b9) O (h.aG nofun:cV 1 _) a bN (I (x 0) ae))) (aA (bx (mq (B:=b9) o h a bN (I c_ (I jK (I (nw OE a bF.QT (by rfl) (I (x 0) ae)) ae)))))) cO) (ay (cp (b7 dL (x 0) (bQ a Z (u:=.str "in") ⟨_,a⟩) (cf _)) (aA (bx (mq (B:=b9) o h a bN (I c_ (I jK (I jK ae)))))) cO) (ay (cp (mb (by exact oy D (x 0) (x 1))) (aA (ik (B:=B) bF.oM (il (λ_ _ _ l=>l)) h.du a)) cO) (aA (bx (mq (B:=b9) o h a bN (I c_ (I (jP D (x 1) (x 0) (λ_ _=>rfl)) (I jK ae)))))))),?_⟩;have q:∀(d:a2),lL lk c=j d->d.parts=[]->∀(b e:t),g b=E->g e=E->e≠b->s9 [.ref b,.str d.kind,d.pJ,d.vm] (U (U g e (.own b)) b (.az cW e [])) (λu aa=>u= .aL/\z (.ref b) aa) b9:=by intro d i k b e r ad af;have G:Q g (U (U g e (.own b)) b (.az cW e [])):=(Q.fresh ad).new (by rw[aH (cU af)];exact r);refine⟨b,e,_,_,_,a,aw,λah aj ak al s J=>⟨a,X d i ah b (λm L M=>ak m L (G m L M) (ew M r)) r ⟨e,aj,s,by rw[k];exact J,G.free al⟩⟩⟩
 refine⟨_,a,c,a,A,W,_,a,?_⟩;cases i:i_ c with
 |some d=>obtain⟨s,J⟩:=Rb A i;refine cm ⟨_,a,_,_,a,s,by rw[gT];omega,?_⟩;exact q ⟨"number",.aL,[],.int (d:Nat)⟩ (by unfold lL;rw[i]) a
 |none=>
  refine cq ⟨_,a,a,_,a,?_⟩;by_cases n:c=d9;refine gw (λ_=>?_) (λv=>aq (by rw[n];exact bw a) v);exact q ⟨"in",.aL,[],.aL⟩ (by unfold lL;rw[i];show(if _ then _ else _)=_;rw[as n]) a;refine gw (λv=>aq (iT ((V.str.inj (iF v)).trans (by rfl))) n) (λ_=>?_);have k:lL lk c=(lk c).map λm=>⟨"name",.int (m:Nat),[],.aL⟩:=by unfold lL;rw[i];show(if _ then _ else _)=_;rw[ag n]
  refine⟨_,a,_,a,p,_,a,C.get c,_,a,?_⟩;cases y:lk c with
  |none=>rw[y]at k;exact cm (Y k g (Q.id _))
  |some m=>rw[y]at k;have N:=C.get c;rw[y]at N;refine cq ⟨_,a,_,a,p,_,a,N,?_⟩;exact q _ k a
def bR(b:List ak):ak:=b.headD []
def bb(b:List ak):List ak:=if bR b=[]then b else b.tail
def de(h:a0):Nat:=(aO h).length
def iw:ak:=dI "call"
def kd:ak:=dI "fun"
def ke:ak:=dI "let"
abbrev nK:=cd->List ak->Nat->Option (a0×List ak)
noncomputable def h0(b:List ak):Option (ak×List ak):=if hi (bR b)=E then j (iw,b)else if bR (bb b)=[32]then j (bR b,bb (bb b))else E
noncomputable def kf(b:List ak):Option (ak×List ak):=if bR b=d9\/rY (bR b)=am then E else if bR (bb b)=[32]then j (bR b,bb (bb b))else E
noncomputable def ga(d:nK):List cd->Bool->List ak->Nat->Option (List a0×List ak)
 |[],_,b,_=>j ([],b)
 |lk::g,first,b,e=>if first=am/\bR b≠[32]then E else(d lk (if first=H then b else bb b) e).bind λc=>(ga d g am c.2 (e+de c.1)).map λf=>(c.1::f.1,f.2)
noncomputable def nL(b:ak)(o:Nat)(i:ak):List a0->a0
 |[e]=>if b=kd then .fn o i e else if b=dI "fst" then .fst o e else if b=dI "snd" then .snd o e else if b=dI "new" then .new o e else .get o e
 |[e,c]=>if b=ke then .letE o i e c else if b=dI "pair" then .pair o e c else if b=dI "set" then .set o e c else if b=dI "add" then .add o e c else .app o e c
 |[e,c,d]=>.ifz o e c d
 |_=>.num o 0
def kg(b:ak):Bool:=decide (b=kd\/b=ke)
def cnt(b:ak):Nat:=(hi b).getD 2
def gi(y:Nat)(lk gA:cd):List cd:=MI (y-1) lk++[gA]
def jt(c:ak)(b:List ak):Option (ak×List ak):=if kg c=H then kf b else j ([],b)
def eR(b:ak)(lk:cd)(i:ak)(o:Nat):cd:=if kg b=H then bindL lk i o else lk
noncomputable def kh(d:nK)(lk:cd)(o:Nat)(b i:ak)(e:List ak):Option (a0×List ak):=
 (ga d (gi (cnt b) lk (eR b lk i o)) H e (o+1)).bind λc=>if bR c.2=[41]then j (nL b o i c.1,bb c.2)else E
def mG(c:nK)(lk:cd)(d:List ak)(o:Nat):Option (a0×List ak):=(h0 d).bind λe=>(jt e.1 e.2).bind λb=>kh c lk o e.1 b.1 b.2
noncomputable def h1(lk:cd)(p:ak)(o:Nat):Option a0:=match i_ p with
 |some b=>j (.num o b)
 |none=>if p=d9 then j (.var o p)else(lk p).map λ_=>.var o p
noncomputable def ed:Nat->nK
 |0,_,_,_=>E
 |r+1,lk,b,c=>if c=30 then E else if bR b=[40]then mG (ed r) lk (bb b) c else(h1 lk (bR b) c).map λd=>(d,bb b)
noncomputable def cC(lk:cd):a0->List a2
 | .num _ i=>[⟨"number",.aL,[],.int (i:Nat)⟩]
 | .var _ d=>[hh (lk d)]
 | .fn g d c=>⟨"fun",.aL,[aS c],.aL⟩::cC (bindL lk d g) c
 | .app _ f e=>⟨"call",.aL,[aS f,aS e],.aL⟩::(cC lk f++cC lk e)
 | .letE g d b c=>⟨"let",.aL,[aS b,aS c],.aL⟩::(cC lk b++cC (bindL lk d g) c)
 | .ifz _ h p b=>⟨"if",.aL,[aS h,aS p,aS b],.aL⟩::(cC lk h++(cC lk p++cC lk b))
 | .pair _ e c=>⟨"pair",.aL,[aS e,aS c],.aL⟩::(cC lk e++cC lk c)
 | .fst _ b=>⟨"fst",.aL,[aS b],.aL⟩::cC lk b
 | .snd _ b=>⟨"snd",.aL,[aS b],.aL⟩::cC lk b
 | .new _ b=>⟨"new",.aL,[aS b],.aL⟩::cC lk b
 | .get _ b=>⟨"get",.aL,[aS b],.aL⟩::cC lk b
 | .set _ e c=>⟨"set",.aL,[aS e,aS c],.aL⟩::(cC lk e++cC lk c)
 | .add _ e c=>⟨"add",.aL,[aS e,aS c],.aL⟩::(cC lk e++cC lk c)
def Rm:∀(h:a0) (lk:cd),(cC lk h).length=de h:=by
 intro h;delta de;induction h with
 |num=>intro lk;rfl
 |var=>intro lk;rfl
 |fn d i e f=>intro lk;simp only[cC,aO,cy,f]
 |fst d e f=>intro lk;simp only[cC,aO,cy,f]
 |snd d e f=>intro lk;simp only[cC,aO,cy,f]
 |new d e f=>intro lk;simp only[cC,aO,cy,f]
 |get d e f=>intro lk;simp only[cC,aO,cy,f]
 |app d g e b c=>intro lk;simp only[cC,aO,cy,b4,b,c]
 |letE d i g e b c=>intro lk;simp only[cC,aO,cy,b4,b,c]
 |pair d g e b c=>intro lk;simp only[cC,aO,cy,b4,b,c]
 |set d g e b c=>intro lk;simp only[cC,aO,cy,b4,b,c]
 |add d g e b c=>intro lk;simp only[cC,aO,cy,b4,b,c]
 |ifz d g e l b c k=>intro lk;simp only[cC,aO,cy,b4,b,c,k]
def ju:List cd->List a0->List a2
 |lk::b,c::d=>cC lk c++ju b d
 |_,_=>[]
def s_(ap:List a0):Nat:=(ap.map de).sum
theorem vX{e:nK}:∀{eS:List cd} {b:Bool} {d dq:List ak} {o:Nat} {ap:List a0},ga e eS b d o=j (ap,dq)->ap.length=eS.length
 |[],b,d,dq,o,ap,c=>by cases c;rfl
 |lk::eS,b,d,dq,o,ap,c=>by
  unfold ga at c;split at c;cases c;cases i:e lk (if b=H then d else bb d) o with
  |none=>rw[i]at c;cases c
  |some f=>
   rw[i]at c;simp only[d3]at c;cases g:ga e eS am f.2 (o+de f.1)with
   |none=>rw[g]at c;cases c
   |some h=>rw[g]at c;have:ap=f.1::h.1:=(Au (dP c)).1.symm;rw[this,cy,cy,(vX (ap:=h.1) (dq:=h.2) g)]
noncomputable def ki:List ak:=["call","fun","let","if","pair","fst","snd","new","get","set","add"].map dI
def Hf(d:hi p≠E):p∈ki:=by
 have b:(hi p).isSome=H:=by cases c:hi p with|none=>exact aq c d|some _=>rfl
 rw[Ak]at b;exact cv _ (d1.mp b)
def vY{c dq:List ak}{b:ak}(d:h0 c=j (b,dq)):b∈ki:=by unfold h0 at d;split at d;cases d;exact b8;split at d;cases d;exact Hf (by assumption);cases d
def s':∀b∈ki,1<=cnt b/\cnt b<=3:=∅
def vZ{y:Nat}(d:1<=y)(lk gA:cd):(gi y lk gA).length=y:=by delta gi;rw[b4,uA,fS];omega
def Rn{y k:Nat}(c:k<y)(lk gA:cd):(gi y lk gA)[k]?=j (if k=y-1 then gA else lk):=by delta gi;by_cases b:k=y-1;rw[as b,pr (by rw[uA];omega),uA,b];simp;rw[ag b,uz (by rw[uA];omega),ML];rw[as (by omega)]
def v0{b:ak}(h:b∈ki){ap:List a0}(c:ap.length=cnt b)(lk:cd)(o:Nat)(i:ak):
  cC lk (nL b o i ap)=⟨aX b,.aL,ap.map aS,.aL⟩::ju (gi (cnt b) lk (eR b lk i o)) ap/\aS (nL b o i ap)=o/\de (nL b o i ap)=1+s_ ap:=by
 have k:b=iw\/b=kd\/b=ke\/b=dI "if"\/b=dI "pair"\/b=dI "fst"\/b=dI "snd"\/b=dI "new"\/b=dI "get"\/b=dI "set"\/b=dI "add":=by simpa[ki,iw,kd,ke]using h
 obtain rfl|rfl|rfl|rfl|rfl|rfl|rfl|rfl|rfl|rfl|rfl:=k<;>
  (match ap,c with
   |[d],c=>first
    |exact aq (show 1=cnt _ from c) ∅
    |exact⟨by show _::_=_::(_++ju [] []);rw[show ju [] []=[]from rfl,fT];rfl,rfl,by show(aO d).length+1=1+(de d+0);delta de;omega⟩
   |[d,e],c=>first
    |exact aq (show 2=cnt _ from c) ∅
    |exact⟨by show _::_=_::(_++(_++ju [] []));rw[show ju [] []=[]from rfl,fT];rfl,rfl,by show(aO d++aO e).length+1=1+(de d+(de e+0));delta de;rw[b4];omega⟩
   |[d,e,f],c=>first
    |exact aq (show 3=cnt _ from c) ∅
    |exact⟨by show _::_=_::(_++(_++(_++ju [] [])));rw[show ju [] []=[]from rfl,fT];rfl,rfl,by show(aO d++(aO e++aO f)).length+1=1+(de d+(de e+(de f+0)));delta de;rw[b4,b4];omega⟩
   |[],c=>exact aq (show 0=cnt _ from c) ∅
   |_::_::_::_::g,c=>exact aq (show g.length+4=_ from c) (λl=>aq (show g.length+4<=3 from l▸∅) (by omega)))
def Ro:∀{r:Nat} {lk:cd} {d dq:List ak} {o:Nat} {h:a0},ed r lk d o=j (h,dq)->aS h=o:=by
 intro r lk d dq o h b;cases r with
 |zero=>cases b
 |succ r=>
  unfold ed at b;split at b;cases b;split at b;unfold mG at b;cases c:h0 (bb d)with
  |none=>rw[c]at b;cases b
  |some f=>
   rw[c,d3]at b;cases e:jt f.1 f.2 with
   |none=>rw[e]at b;cases b
   |some g=>
    rw[e,d3]at b;unfold kh at b;cases i:ga (ed r) (gi (cnt f.1) lk (eR f.1 lk g.1 o)) H g.2 (o+1)with
    |none=>rw[i]at b;cases b
    |some l=>rw[i,d3]at b;split at b;cases b;have k:=vY c;exact(v0 k (by rw[vX i,vZ (s' _ k).1]) lk o g.1).2.1;cases b
  cases c:h1 lk (bR d) o with
  |none=>rw[c]at b;cases b
  |some m=>
   rw[c]at b;cases b;unfold h1 at c;split at c;cases c;rfl;split at c;cases c;rfl;cases e:lk (bR d)with
   |none=>rw[e]at c;cases c
   |some n=>rw[e]at c;cases c;rfl
theorem Hg{f:nK}(m:∀lk d dq o h,o<=30->f lk d o=j (h,dq)->o+de h<=30):∀{eS:List cd} {b:Bool} {d dq:List ak} {o:Nat} {ap:List a0},o<=30->ga f eS b d o=j (ap,dq)->o+s_ ap<=30
 |[],b,d,dq,o,ap,i,c=>by cases c;exact i
 |lk::eS,b,d,dq,o,ap,i,c=>by
  unfold ga at c;split at c;cases c;cases k:f lk (if b=H then d else bb d) o with
  |none=>rw[k]at c;cases c
  |some e=>
   rw[k]at c;simp only[d3]at c;cases l:ga f eS am e.2 (o+de e.1)with
   |none=>rw[l]at c;cases c
   |some g=>rw[l]at c;have n:=Hg m (ap:=g.1) (dq:=g.2) (m _ _ e.2 _ e.1 i k) l;have:ap=e.1::g.1:=(Au (dP c)).1.symm;rw[this];show o+(de e.1+s_ g.1)<=30;omega
def Hh:∀{r:Nat} {lk:cd} {d dq:List ak} {o:Nat} {h:a0},o<=30->ed r lk d o=j (h,dq)->o+de h<=30:=by
 intro r;induction r with
 |zero=>intro lk d dq o h _ b;cases b
 |succ r m=>
  intro lk d dq o h n b;unfold ed at b;split at b;cases b;rename_i p;split at b;unfold mG at b;cases c:h0 (bb d)with
  |none=>rw[c]at b;cases b
  |some f=>
   rw[c,d3]at b;cases e:jt f.1 f.2 with
   |none=>rw[e]at b;cases b
   |some i=>
    rw[e,d3]at b;unfold kh at b;cases g:ga (ed r) (gi (cnt f.1) lk (eR f.1 lk i.1 o)) H i.2 (o+1)with
    |none=>rw[g]at b;cases b
    |some k=>rw[g,d3]at b;split at b;cases b;have l:=vY c;rw[(v0 l (by rw[vX g,vZ (s' _ l).1]) lk o i.1).2.2];have:=Hg (λlk d dq o h=>m) (ap:=k.1) (dq:=k.2) (by omega) g;omega;cases b
  cases c:h1 lk (bR d) o with
  |none=>rw[c]at b;cases b
  |some q=>
   rw[c]at b;cases b;have:de h=1:=by
    unfold h1 at c;split at c;cases c;rfl;split at c;cases c;rfl;cases e:lk (bR d)with
    |none=>rw[e]at c;cases c
    |some s=>rw[e]at c;cases c;rfl
   omega
theorem Hi:∀{eS:List cd} {ap:List a0} {lk:cd} {h:a0},eS[ap.length]?=j lk->ju eS (ap++[h])=ju eS ap++cC lk h
 |[],ap,lk,h,b=>by simp at b
 |c::eS,[],lk,h,b=>by simp at b;subst b;show cC c h++ju eS []=[]++cC c h;cases eS<;>simp[ju]
 |c::eS,d::ap,lk,h,b=>by show cC c d++ju eS (ap++[h])=cC c d++ju eS ap++cC lk h;rw[Hi (eS:=eS) (ap:=ap) (lk:=lk) (by simpa using b),eW]
def Rp{lk:cd}{o:Nat}(d:lk d9=E):(lL lk p).isSome=(h1 lk p o).isSome/\∀h,h1 lk p o=j h->lL lk p=j (match cC lk h with|[i]=>i|_=>⟨"",.aL,[],.aL⟩)/\∃i,cC lk h=[i]/\lL lk p=j i:=by
 unfold lL h1;cases f:i_ p with
 |some g=>exact⟨a,λh b=>by cases b;exact⟨a,_,a,a⟩⟩
 |none=>
  dsimp only;by_cases c:p=d9;rw[as c,as c];refine⟨a,λh b=>?_⟩;cases b;subst c;simp only[cC,d];exact⟨a,_,a,a⟩;rw[ag c,ag c];cases e:lk p with
  |none=>exact⟨a,λh b=>by cases b⟩
  |some k=>refine⟨a,λh b=>?_⟩;cases b;simp only[cC,e];exact⟨a,_,a,a⟩
def Fr(s e:t)(c f:z):Prop:=∀b d,c b=j d->b≠s->b≠e->f b=j d
def Fr.id(s b:t)(c:z):Fr s b c c:=λ_ _ d _ _=>d
def Fr.trans{s d:t}{f g:z}(e:Fr s d c f)(b:Fr s d f g):Fr s d c g:=λh i m k l=>b h i (e h i m k l) k l
def Fr.au{s d:t}{b:z}(h:Q c b):Fr s d c b:=λe f g _ _=>h e f g
inductive Hj(c:z)(s b ax d:t)(toks e:List ak):Prop|mk:∀m,nI c s b ax d toks m->toks.drop m=e->Hj c s b ax d toks e
structure eq (c:z) (s a4 ax cs:t) (toks gB:List ak) (cn:List t):Prop where
 hj:Hj c s a4 ax cs toks gB
 e':c cs=j (.L (cn.map V.ref))
 rj:ax≠cs
structure Tks (toks:List ak):Prop where
 Rq:vU toks
 ok:∀p∈toks,gz p/\p.length<=4000
section
variable{O:z}{s a4 ax cs:t}{gB:List ak}{cn:List t}
def mH(d:m<toks.length)(b:toks.drop m=gB):jX toks m=bR gB/\toks.drop (hZ toks m)=bb gB:=by
 have c:toks.drop m=jX toks m::toks.drop (m+1):=by rw[u1 d];congr 1;delta jX;rw[zP,gE d];rfl
 have e:jX toks m=bR gB:=by rw[<-b,c];rfl
 refine⟨e,?_⟩;delta hZ bb;rw[e];split;exact b;rw[<-b,c];rfl
def Hk(d:m<toks.length)(b:toks.drop m=gB):bR gB∈toks:=by rw[<-(mH d b).1];exact ev (Ac d)
theorem eq.az(d:eq c s a4 ax cs toks gB cn):∃m,c s=j (.az ec a4 (Ab ax m cs)):=let⟨m,b,_⟩:=d.hj;⟨m,b.az⟩
def eq.eJ(d:eq c s a4 ax cs toks gB cn):cs≠s:=by obtain⟨f,b⟩:=d.az;exact ct d.e' b ⋯
def eq.same(d:eq c s a4 ax cs toks gB cn)(h:Q c O):eq O s a4 ax cs toks gB cn:=
 let⟨e,b,f⟩:=d.hj
 ⟨⟨e,⟨h _ _ b.az,h _ _ b.nJ,b.lt⟩,f⟩,h _ _ d.e',d.rj⟩
def eq.oN(d:eq c s a4 ax cs toks gB cn)(T:Tks toks)(b:nI c s a4 ax cs toks m)(e:toks.drop m=gB):eq (kV c s a4 ax cs (hZ toks m)) s a4 ax cs toks (bb gB) cn/\Fr s cs c (kV c s a4 ax cs (hZ toks m)):=
 ⟨⟨⟨_,b.move (T.Rq.next b.lt),(mH b.lt e).2⟩,by show U c s _ cs=_;rw[aH d.eJ];exact d.e',d.rj⟩,λf i g h _=>by show U c s _ f=_;rw[aH h];exact g⟩
def eq.push(d:eq c s a4 ax cs toks gB cn)(e:t):eq (U c cs (.L (cn.map V.ref++[.ref e]))) s a4 ax cs toks gB (cn++[e]):=
 let⟨f,b,g⟩:=d.hj
 ⟨⟨f,⟨by rw[aH (cU d.eJ)];exact b.az,by rw[aH d.rj];exact b.nJ,b.lt⟩,g⟩,by rw[aw,cS];rfl,d.rj⟩
def Rr{X:bJ}{h:ce}:jf X h (λ_ _ _=>False):=λ_ _ _ _ _ _ b=>b.elim
def eq.free(d:eq O s a4 ax cs toks gB cn)(f:Fr s cs c O){m:t}(b:O m=E):c m=E:=by
 cases h:c m with
 |none=>rfl
 |some i=>by_cases e:m=s;obtain⟨l,k⟩:=d.az;rw[e,k]at b;cases b;by_cases g:m=cs;rw[g,d.e']at b;cases b;rw[f m i h e g]at b;cases b
def Rs{C:aC}(d:eq c s a4 ax cs toks gB cn)(f:Fr s cs c O)(b:bA c e C)(k:∀ah aa l,C≠.az ah aa l)(m:∀M,C≠.L M):bA O e C:=by obtain⟨p,n⟩:=d.az;have h:e≠s:=e2.bA.eJ b n (λg=>k _ _ _ g.symm) (λ_=>⋯);have i:e≠cs:=e2.bA.eJ b d.e' (λg=>m _ g.symm) (λ_=>⋯);obtain b|⟨o,b⟩:=b;exact .inl (f _ _ b h i);exact .inr ⟨o,f _ _ b h i⟩
def pV(d:eq c s a4 ax cs toks gB cn)(f:Fr s cs c O)(m:js c):js O:=Rs d f m (λ_ _ _=>⋯) (λ_=>⋯)
def lM{g:t}{lk:cd}{v:Nat}(d:eq c s a4 ax cs toks gB cn)(f:Fr s cs c O)(l:hE c g lk v):hE O g lk v:=by obtain⟨h,b,i,k⟩:=l.ex;obtain⟨n,m⟩:=d.az;exact⟨h,f _ _ b (ct b m ⋯) (ct b d.e' ⋯),i,k⟩
def rk{o:a2}{F:t->Prop}(d:eq c s a4 ax cs toks gB cn)(f:Fr s cs c O)(p:∀m,F m->m≠cs)(l:iV c e o F):iV O e o F:=by obtain⟨q,h,g,i,k⟩:=l;obtain⟨r,n⟩:=d.az;exact⟨q,h,f _ _ g (ct g n ⋯) (ct g d.e' ⋯),f _ _ i (ct i n ⋯) (p h k),k⟩
end
abbrev Av:be:=b3 24
inductive Aw(G:List V)(c:z)(i:aW)(B:bn):Prop|mk:∀(d g ax e:t) (toks f:List ak) (h:List t),G=[.ref d]->Tks toks->eq c d g ax e toks f h->js c->(∀k l,h0 f=j (k,l)->∀b,Fr d e c b->eq b d g ax e toks l h->i (.str (aX k)) b)->(h0 f=E->∀b,Fr d e c b->eq b d g ax e toks (bb (bb f)) h->B (.ref kc) E b)->Aw G c i B
abbrev Ax:be:=b3 25
inductive Ay(G:List V)(c:z)(h:aW)(B:bn):Prop|mk:∀(d i ax e k:t) (l:Nat) (toks f:List ak) (m:List t) (lk:cd) (g:Nat),G=[.ref d,.ref k,.int (l:Nat)]->Tks toks->eq c d i ax e toks f m->js c->hE c k lk g->g<=100->(∀n o,kf f=j (n,o)->∀(b:z) (p:t),Fr d e c b->eq b d i ax e toks o m->hE b p (bindL lk n l) (g+1)->h (.ref p) b)->(kf f=E->∀b,Fr d e c b->B (.ref kc) E b)->Ay G c h B
def Hl:b2 ["reader","kind"] ["reader"] (bo Av):=⟨a,a,a,∅,a,∅,∅⟩
def Rt(F:bO K "read_kind" "read_kind" Av f ai)(bF:iu K mg)(M:eE P w K mg base a7 1 ec "look" ZB Ai)(N:eE P w K mg base a7 1 ec "take" ZB rh)(O:eE P w K mg base (bh P w K mg) 2 ec "expect" Zr ri):bd P w K mg base (bh P w K mg) 3 f ai ["reader"] Aw:=by
 refine F.okE Hl (λQ p R B e=>?_) (λW X Y Z p Q R B i e=>?_);obtain⟨b,c,ax,g,toks,l,S,rfl,_⟩:=e;rfl;obtain⟨b,c,ax,g,toks,l,S,rfl,q,m,T,r,U⟩:=e;have s:cV 1 _:=i.aG nofun;refine⟨_,ay (cp (mb (by exact oy (kM i) (oE (B:=b9) M (x 0) s bN) (bQ a bF.z5 (u:=.ref nG) a))) (aA (bx c_)) cO) (ay (bZ (k:=1) Hl.nd a (aU a) (oE (B:=b9) N (x 0) s bN)) (ay (c' (fI (B:=B) O (x 0) i (dF (λ_ _ _ e=>e)) (I c_ ae))) (aA (bx (x 1))))),?_⟩;obtain⟨v,d,y⟩:=m.hj;obtain⟨z,aa⟩:=mH d.lt y;refine⟨_,a,b,c,_,a,d.az,a,b,c,ax,g,toks,v,a,d,nG,_,a,Al T _,_,a,?_⟩;rw[z];cases n:hi (bR l)with
 |none=>refine cm (r iw l ?_ p (Fr.id _ _ _) m);delta h0;rw[as n]
 |some ad=>obtain⟨A,C⟩:=m.oN q d y;refine cq ⟨_,a,b,c,_,a,d.az,a,b,c,ax,g,toks,v,a,d,?_⟩;obtain⟨V,h,D⟩:=A.hj;obtain⟨G,af⟩:=mH h.lt D;obtain⟨J,L⟩:=A.oN q h D;refine⟨_,a,b,c,_,a,h.az,a,b,c,ax,g,toks,V,[32],a,h,λo=>⟨_,a,?_⟩,λo=>?_⟩;rw[z];refine r _ _ ?_ _ (C.trans L) J;delta h0;rw[ag (by rw[n];simp),as (by rw[<-G];exact o)];refine U ?_ _ (C.trans L) J;delta h0;rw[ag (by rw[n];simp),ag (by rw[<-G];exact o)]
def Az:b2 ["reader","scope","label","name","inner"] Y1 (bo Ax):=⟨a,a,a,∅,a,∅,∅⟩
def Ru(F:bO K "read_bound_name" "read_bound_name" Ax f ai)(bF:iu K mg)(ad:eE P w K mg base a7 1 ec "take" ZB rh)(af:eE P w K mg base (bh P w K mg) 2 ec "expect" Zr ri)(ah:bI P w K mg base a7 2 "is_name" Zy Aq):bd P w K mg base (bh P w K mg) 3 f ai Y1 Ay:=by
 refine F.okE Az (λaj z al B g=>?_) (λaM aN aP aQ z aj al B m g=>?_);obtain⟨c,d,ax,h,S,A,toks,e,an,lk,ao,rfl,_⟩:=g;rfl;obtain⟨c,d,ax,h,S,A,toks,e,an,lk,ao,rfl,C,s,ap,ar,aR,av,D⟩:=g;obtain⟨aT,aB⟩:=bF.G0;refine⟨_,ay (bZ (k:=3) Az.nd a (aU a) (oE (B:=b9) ad (x 0) (m.aG nofun:cV 1 _) bN)) (ay (cp (ht.lq (og (b7 dL (x 3) (bQ a aB (u:=.str "in") ⟨_,a⟩) (cf _)) (pd (sb (mc (bP (B:=b9) ah m a bN (I (x 3) ae))))))) (aA (ik (B:=B) bF.oM (il (λ_ _ _ g=>g)) m.du a)) cO) (ay (c' (fI (B:=B) af (x 0) m (dF (λ_ _ _ g=>g)) (I c_ ae))) (ay (bZ (k:=4) Az.nd a (aU a) (nw GW a bF.z6 (by rfl) (I (x 1) ae))) (ay (ml (kM m) (x 4) (x 3) (x 2) a) (aA (bx (x 4))))))),?_⟩;obtain⟨G,n,J⟩:=s.hj;obtain⟨aE,aW⟩:=mH n.lt J;obtain⟨T,i⟩:=s.oN C n J;have W:=C.ok _ (Hk n.lt J);refine⟨_,a,c,d,_,a,n.az,a,c,d,ax,h,toks,G,a,n,?_⟩;rw[aE];refine⟨_,a,a,_,a,?_⟩;have aF:∀(l:ak),decide (V.str (aX l)=V.str (eD "in"))=decide (l=d9):=λl=>by by_cases b:l=d9;rw[bw b];exact bw (by rw[b];rfl);rw[bq b];exact bq λL=>b (iT ((V.str.inj L).trans (by rfl)))
 dsimp only;rw[aF];by_cases o:bR e=d9;rw[bw o];refine cm (cm (D ?_ _ i));delta kf;rw[as (.inl o)];rw[bq o];refine cq ⟨_,a,bR e,a,W.1,W.2,pV s i ap,_,a,?_⟩;cases M:rY (bR e)with
 |false=>refine cm (D ?_ _ i);delta kf;rw[as (.inr M)]
 |true=>obtain⟨N,v,X⟩:=T.hj;obtain⟨Y,aY⟩:=mH v.lt X;obtain⟨aH,O⟩:=T.oN C v X;refine cq ⟨_,a,c,d,_,a,v.az,a,c,d,ax,h,toks,N,[32],a,v,λR=>?_,λR=>?_⟩;have aI:=lM s (i.trans O) ar;obtain⟨p,aK,aZ,aL⟩:=aI.ex;refine⟨_,a,S,p,a,aK,λy Z=>?_⟩;refine⟨_,a,_,a,_,a,y,_,a,kJ.r (r:=dJ (aX (bR e))) aw (c1 (by omega)),⟨_,a,?_⟩⟩;have aa:Q (kV (kV z c d ax h (hZ toks G)) c d ax h (hZ toks N)) (U (U (kV (kV z c d ax h (hZ toks G)) c d ax h (hZ toks N)) y (.cH p)) y (.cH (ey p (dJ (aX (bR e))) (.int (A:Nat))))):=(Q.fresh (q:=aC.cH p) Z).bK Z;refine av (bR e) _ ?_ _ y ((i.trans O).trans (Fr.au aa)) (aH.same aa) ⟨_,aw,?_,λl=>?_⟩;delta kf;rw[ag (by rintro(b|b);exact o b;rw[M]at b;cases b),as (by rw[<-Y];exact R)];have:=sF p (dJ (aX (bR e)):bY) (.int (A:Nat));omega;rw[sE,aL];unfold bindL;by_cases b:l=bR e;rw[as (by rw[b]),as b];rfl;rw[ag (λL=>b (iT (t' L))),ag b];refine D ?_ _ (i.trans O);delta kf;rw[ag (by rintro(b|b);exact o b;rw[M]at b;cases b),ag (by rw[<-Y];exact R)]
abbrev AA(c b:z)(d:List a2)(f:List t):Prop:=br (λg e=>iV c e g (λm=>b m=E)) d f
inductive AB(i:Nat->Nat->Prop)(b3:Nat)(g:nK)(G:List V)(c:z)(k:aW)(B:bn):Prop|mk:∀(d l ax f m:t) (n:Nat) (toks h:List ak) (e:List t) (lk:cd) (o:Nat),G=[.ref d,.ref m,.int (n:Nat)]->i n o->Tks toks->eq c d l ax f toks h e->e.length<=b3->js c->hE c m lk o->lk d9=E->(∀p q,g lk h e.length=j (p,q)->∀(b:z) (r:List t),Fr d f c b->eq b d l ax f toks q (e++r)->AA b c (cC lk p) r->k .aL b)->(g lk h e.length=E->∀b,Fr d f c b->B (.ref kc) E b)->AB i b3 g G c k B
abbrev v1:be:=b3 21
abbrev pW:be:=b3 23
def ta(r:Nat):f2:=AB (λb c=>b+r=9/\c<=b) 30 (ed r)
def Hm(r:Nat):f2:=AB (λb c=>b+r=8/\c<=b) 29 (mG (ed r))
def AC:b2 ["reader","scope","around","token"] Y0 (bo v1):=⟨a,a,a,∅,a,∅,∅⟩
def Rv(F:bO K "read_expression" "read_expression" v1 f ai)(bF:iu K mg)(r:Nat):bd P w K mg base (bh P w K mg) (r+1) f ai Y0 (ta 0):=by refine F.okE AC (λd c e B b=>?_) (λv y z A c d e B g b=>?_);obtain⟨h,i,ax,k,l,m,toks,n,o,lk,p,rfl,_⟩:=b;rfl;obtain⟨h,i,ax,k,l,m,toks,n,o,lk,p,rfl,⟨C,D⟩,G,I,J,L,M,N,O,q⟩:=b;obtain⟨Q,s⟩:=bF.G1;refine⟨_,ay (cp (ht.lq (og (b7 nr (x 2) (bQ a s (u:=.int 8) ⟨_,a⟩) (cf _)) (pd Rr))) (aA (ik (B:=B) bF.oM (il (λ_ _ _ b=>b)) g.du a)) cO) (ay DF (aA DF)),?_⟩;refine⟨_,a,_,_,a,a,_,a,?_⟩;dsimp only;rw[bw (by omega)];exact cm (cm (q a c (Fr.id _ _ _)))
def Rw{r:Nat}(F:bO K "read_expression" "read_expression" v1 f ai)(aw:cT K mg)(bF:iu K mg)(aB:eE P w K mg base a7 1 ec "take" ZB rh)(aC:bI P w K mg base (bh P w K mg) 3 "plain_node" Zk As)(aE:bI P w K mg base (bh P w K mg) (2*r+6) "read_brackets" Y0 (Hm r)):bd P w K mg base (bh P w K mg) (2*r+7) f ai Y0 (ta (r+1)):=by
 refine F.okE AC (λaF S aI B g=>?_) (λba bc bf bg S aF aI B C g=>?_);obtain⟨i,n,ax,l,T,aj,toks,c,d,lk,W,rfl,_⟩:=g;rfl;obtain⟨i,n,ax,l,T,aj,toks,c,d,lk,W,rfl,⟨bi,aK⟩,X,s,bj,aL,ak,al,D,z⟩:=g;obtain⟨bk,aM⟩:=bF.G1;obtain⟨bl,aN⟩:=bF.QR;refine⟨_,ay (cp (ht.lq (og (b7 nr (x 2) (bQ a aM (u:=.int 8) ⟨_,a⟩) (cf _)) (pd (b7 dL (en fE a aw.eP e3 (I (a1 (x 0) a) ae)) (bQ a aN (u:=.int 30) ⟨_,a⟩) (cf _))))) (aA (ik (B:=B) bF.oM (il (λ_ _ _ g=>g)) C.du a)) cO) (ay (bZ (k:=3) AC.nd a (aU a) (oE (B:=b9) aB (x 0) (C.aG (by omega):cV 1 _) bN)) (aA (cp (b7 dL (x 3) c_ (cf _)) (aA (c' (bP (B:=B) aE C a (dF (λ_ _ _ g=>g)) (I (x 0) (I (x 1) (I (x 2) ae)))))) (aA (c' (fF fK hT iq hS (a1 (x 0) a) (I (bP (B:=B) aC (C.aG (by omega):cV 3 _) a (dF (λ_ _ _ g=>g)) (I (x 3) (I (x 1) ae))) ae))))))),?_⟩;obtain⟨Y,v,Z⟩:=s.hj;obtain⟨aP,bn⟩:=mH v.lt Z;obtain⟨m,h⟩:=s.oN X v Z;have ao:=X.ok _ (Hk v.lt Z);refine⟨_,a,_,_,a,a,_,a,?_⟩;dsimp only;rw[bq (by omega)];refine cq ⟨_,a,i,ec,n,_,_,a,v.az,bF.iv,bF.hY,a,l,_,a,.inl (an.au s.e'),a,_,a,?_⟩;rw[aV];by_cases G:d.length=30;refine gw (λ_=>z ?_ S (Fr.id _ _ _)) (λb=>aq (by rw[G];exact bw a) b);unfold ed;rw[as G];have J:ed (r+1) lk c d.length=if bR c=[40]then mG (ed r) lk (bb c) d.length else(h1 lk (bR c) d.length).map λe=>(e,bb c):=by show(if d.length=30 then E else _)=_;rw[ag G]
 refine gw (λb=>aq (vC (V.int.inj (iF b))) G) λ_=>?_;refine⟨_,a,i,n,_,a,v.az,a,i,n,ax,l,toks,Y,a,v,?_⟩;rw[aP];refine⟨_,a,a,_,a,?_⟩;by_cases M:bR c=[40];rw[as M]at J;rw[J]at D z;refine gw (λ_=>?_) (λb=>aq (by rw[M];exact bw a) b);refine⟨_,a,_,a,_,a,i,n,ax,l,T,aj,toks,bb c,d,lk,W,a,⟨by omega,aK⟩,X,m,by omega,pV s h aL,lM s h ak,al,λe aQ y q aR aa aT ad=>?_,λy q aa=>z y q (h.trans aa)⟩;exact D e aQ y q aR (h.trans aa) aT (br.aG (λo N af=>af.aG (Q.id _) λY aW=>m.free h aW) ad);rw[ag M]at J;rw[J]at D z;refine gw (λb=>aq (iT ((V.str.inj (iF b)).trans (by rfl))) M) λ_=>?_;obtain⟨bo,aX,bp⟩:=m.hj;obtain⟨O,aY⟩:=Rp (lk:=lk) (p:=bR c) (o:=d.length) al;refine⟨_,a,i,ec,n,_,_,a,aX.az,bF.iv,bF.hY,a,.inl ⟨a,_,an.au m.e'⟩,_,a,_,a,bR c,T,lk,W,a,ao.1,ao.2,lM s h ak,λo R q N A bs ad=>?_,λR q A=>?_⟩;obtain⟨e,y⟩:∃e,h1 lk (bR c) d.length=j e:=by
  cases b:h1 lk (bR c) d.length with
  |some e=>exact⟨e,a⟩
  |none=>rw[b,R]at O;cases O
 obtain⟨_,af,aZ,ap⟩:=aY e y;rw[R]at ap;cases ap;have ar:=A _ _ m.e';refine⟨l,_,_,a,a,ar,by rw[aV];exact c1 (by omega),?_⟩;have a0:Fr i l (kV S i n ax l (hZ toks Y)) (U q l (.L (d.map V.ref++[.ref N]))):=λa2 a3 a4 af a6=>by rw[aH a6];exact A a2 a3 a4
 refine D e (bb c) (by rw[y];rfl) _ [N] (h.trans a0) ((m.same A).push N) ?_;rw[aZ];obtain⟨a8,a9,av,a_,ah⟩:=ad;refine .cons ⟨a8,a9,by rw[aH (ct av ar ⋯)];exact av,(by rw[aH (λb=>by rw[b,m.e']at ah;cases ah)];exact a_),m.free h ah⟩ .nil;refine z ?_ q (h.trans (Fr.au A));cases b:h1 lk (bR c) d.length with
 |none=>rfl
 |some e=>rw[b,R]at O;cases O
def Hn{b:Type}{n:List b}{k:Nat}{i:b}(d:n[k]?=j i):n.drop k=i::n.drop (k+1):=by obtain⟨c,e⟩:=es.mp d;rw[u1 c,e]
def Rx(b:ak):kI (.str (aX b)) [.str "fun",.str "let"]=kg b:=by rw[Gi];delta kg;have g:(aX b=eD "fun")↔b=kd:=⟨λc=>iT (c.trans (by rfl)),λc=>by rw[c];rfl⟩;have h:(aX b=eD "let")↔b=ke:=⟨λc=>iT (c.trans (by rfl)),λc=>by rw[c];rfl⟩;by_cases e:b=kd;rw[bw (.inl (g.mpr e)),bw (.inl e)];by_cases f:b=ke;rw[bw (.inr (h.mpr f)),bw (.inr f)];rw[bq (by rintro(d|d);exact e (g.mp d);exact f (h.mp d)),bq (by rintro(d|d);exact e d;exact f d)]
def Ry{b dq:List ak}{i:ak}(d:kf b=j (i,dq)):i≠d9:=by unfold kf at d;split at d;cases d;rename_i c;split at d;cases d;exactλe=>c (.inl e);cases d
def Rz:be->List be
 | .For _ _ b _ _=>b
 |_=>[]
def oO:b2 YW Y0 (bo pW):=⟨a,a,a,∅,a,∅,∅⟩
inductive AD(r:Nat)(c:z)(s q ax l n:t)(u:Nat)(toks:List ak)(d:List t)(lk:cd)(v:Nat)(b i:ak)(w:List ak)(o e p:t)(x k:Nat)(y:bT.St)(f:z):Prop|mk:∀C g A h,y=[j (.ref s),j (.ref n),j (.int (u:Nat)),j (.int (d.length:Nat)),j (.str (aX b)),j (.ref e),j (.ref o),j (.int ((cnt b:Int)-1)),C]->Fr s l c f->eq f s q ax l toks A (d++[e]++h)->js f->hE f n lk v->hE f o (eR b lk i d.length) x->iV f e ⟨aX b,.aL,g.map aS,.aL⟩ (λm=>m=p)->g.length=k->(br (λD F=>iV f F D (λm=>c m=E/\m≠p)) (ju (gi (cnt b) lk (eR b lk i d.length)) g) h)->(ga (ed r) (gi (cnt b) lk (eR b lk i d.length)) H w (d.length+1)=(ga (ed r) ((gi (cnt b) lk (eR b lk i d.length)).drop k) (decide (k=0)) A (d.length+1+h.length)).map λB=>(g++B.1,B.2))->d.length+1+h.length<=30->AD r c s q ax l n u toks d lk v b i w o e p x k y f
def RA{r:Nat}(F:bO K "read_brackets" "read_brackets" pW f ai)(aW:cT K mg)(bF:iu K mg)(dE:bI P w K mg base (bh P w K mg) 3 "read_kind" ["reader"] Aw)(dG:kP P w K mg base a7 1 cW "Node" YY s9)(dK:bI P w K mg base (bh P w K mg) 3 "read_bound_name" Y1 Ay)(c3:eE P w K mg base (bh P w K mg) 2 ec "expect" Zr ri)(dM:bI P w K mg base (bh P w K mg) (2*r+5) "read_expression" Y0 (ta r)):bd P w K mg base (bh P w K mg) (2*r+6) f ai Y0 (Hm r):=by
 refine F.okE oO (λdN O bL B A=>?_) (λc4 c7 c9 db O dN bL B bS A=>?_);obtain⟨e,C,ax,g,Z,al,toks,co,d,lk,T,rfl,_⟩:=A;rfl;obtain⟨e,C,ax,g,Z,al,toks,co,d,lk,T,rfl,⟨eM,eN⟩,ba,aF,eQ,dc,dR,cs,aY,ao⟩:=A;obtain⟨eS,dS⟩:=bF.QS;have cu:cV 2 _:=bS.aG (by omega);have dd:cV 3 _:=bS.aG (by omega);obtain⟨lr,dU,dV⟩:∃lr,fZ (jN (bh P w K mg) P w K mg base YW "read_brackets" (bo pW) f c4 c7 c9 db O B) ((Rz ((ly pW).getD 7 (.Pass ⟨0,0,0,0⟩))).drop 1) lr/\∀(aM:Ends) (c:ak) (h l W:t) (k ap ar:Nat) (aZ:cd) (S:z) (a0:List ak) (J:List t) (aa:List Nat),eq S e C ax g toks a0 J->js S->hE S Z lk T->hE S W aZ ar->iV S h ⟨aX c,.aL,aa,.aL⟩ (λX=>X=l)->l≠g->ax≠l->J.length<=30->k<ap->aa.length<=3->aZ d9=E->ar<=al+1->(∀M D,ed r (if k=ap-1 then aZ else lk) a0 J.length=j (M,D)->∀(i:z) (v:List t),Fr e g (U S l (.L (b' (aa++[J.length])))) i->eq i e C ax g toks D (J++v)->AA i (U S l (.L (b' (aa++[J.length])))) (cC (if k=ap-1 then aZ else lk) M) v->aM.bb [j (.ref e),j (.ref Z),j (.int (al:Nat)),j (.int (d.length:Nat)),j (.str (aX c)),j (.ref h),j (.ref W),j (.int ((ap:Int)-1)),j (.int (0+(k:Nat)))] i)->(ed r (if k=ap-1 then aZ else lk) a0 J.length=E->∀i,Fr e g (U S l (.L (b' (aa++[J.length])))) i->B (.ref kc) E i)->lr aM [j (.ref e),j (.ref Z),j (.int (al:Nat)),j (.int (d.length:Nat)),j (.str (aX c)),j (.ref h),j (.ref W),j (.int ((ap:Int)-1)),j (.int (0+(k:Nat)))] S:=by
  refine⟨_,ay (c' (fF fK hT iq hS (a1 (x 5) a) (I (en fE a aW.eP e3 (I (a1 (x 0) a) ae)) ae))) (aA (c' (bP (B:=B) dM bS a (dF (λ_ _ _ A=>A)) (I (x 0) (I (xQ (b7 dL (x 8) (x 7) (cf _)) (x 6) (x 1)) (I (fD pj (x 2) bt) ae)))))),?_⟩;intro aM c h l W k ap ar aZ S a0 J aa p bc bf bn bp ad bT bg eT eU cw cA bU bV;obtain⟨bs,Y,a2⟩:=p.hj;obtain⟨aN,a3,av,aI,rfl⟩:=bp;refine⟨_,a,h,cW,aN,_,_,a,av,aW.dB,aW.lD,a,.inl ⟨a,_,an.au aI⟩,_,a,e,ec,C,_,_,a,Y.az,bF.iv,bF.hY,a,g,_,a,.inl (an.au p.e'),a3,_,_,a,a,aI,(by show(b' aa).length<aD;delta b';rw[aV];exact c1 (by omega)),?_⟩;have dW:b' aa++[V.int ((J.map V.ref).length:Nat)]=b' (aa++[J.length]):=by delta b';rw[aV,cS];rfl
  rw[dW];have bW:e≠a3:=ct Y.az aI ⋯;have N:eq (U S a3 (.L (b' (aa++[J.length])))) e C ax g toks a0 J:=⟨⟨bs,⟨by rw[aH bW];exact Y.az,by rw[aH bT];exact Y.nJ,Y.lt⟩,a2⟩,by rw[aH (cU ad)];exact p.e',p.rj⟩;have df:js (U S a3 (.L (b' (aa++[J.length])))):=bc.other (e2.bA.eJ bc aI ⋯ (λ_=>⋯));have dg:∀{a4:t} {cB:cd} {T:Nat},hE S a4 cB T->hE (U S a3 (.L (b' (aa++[J.length])))) a4 cB T:=λ{a4 cB T} A=>A.keep λG bu=>by obtain⟨dh,b,_⟩:=A.ex;rw[aH (ct b aI ⋯)];exact bu
  refine⟨_,a,_,a,_,a,a,_,a,?_⟩;dsimp only;have di:decide (V.int (0+(k:Nat))=V.int ((ap:Int)-1))=decide (k=ap-1):=by by_cases b:k=ap-1;rw[bw b];exact bw (by congr 1;omega);rw[bq b];exact bq λcD=>b (by have:=V.int.inj cD;omega)
  rw[di];by_cases b:k=ap-1;rw[as b]at bU bV;rw[bw b];refine cm ⟨_,a,_,a,_,_,a,a,?_⟩;exact⟨e,C,ax,g,W,al+1,toks,a0,J,aZ,ar,a,⟨by omega,cA⟩,ba,N,bg,df,dg bn,cw,λM D q i v f bx cE=>bU M D q i v f bx cE,λq i f=>bV q i f⟩;rw[ag b]at bU bV;rw[bq b];refine cq ⟨_,a,_,a,_,_,a,a,?_⟩;exact⟨e,C,ax,g,Z,al+1,toks,a0,J,lk,T,a,⟨by omega,by omega⟩,ba,N,bg,df,dg bf,cs,λM D q i v f bx cE=>bU M D q i v f bx cE,λq i f=>bV q i f⟩
 obtain⟨cG,dX,dj⟩:∃cG,fZ (jN (bh P w K mg) P w K mg base YW "read_brackets" (bo pW) f c4 c7 c9 db O B) ((ly pW).drop 6) cG/\∀(c s:ak) (aB af:List ak) (dk ah:z) (W h l:t) (ar:Nat),c∈ki->(∀M D,kh (ed r) lk d.length c s af=j (M,D)->∀(i:z) (v:List t),Fr e g O i->eq i e C ax g toks D (d++v)->AA i O (cC lk M) v->bL .aL i)->(kh (ed r) lk d.length c s af=E->∀i,Fr e g O i->B (.ref kc) E i)->Fr e g O ah->eq ah e C ax g toks af (d++[h])->js ah->hE ah Z lk T->hE ah W (eR c lk s d.length) ar->ar<=al+1->eR c lk s d.length d9=E->iV ah h ⟨aX c,.aL,[],.aL⟩ (λX=>X=l)->O l=E->l≠g->cG {bb:=λ_ i=>bL .aL i,lp:=bL} [j (.ref e),j (.ref Z),j (.int (al:Nat)),j (.int (d.length:Nat)),j (.str (aX c)),j (.ref h),j (.ref W),E,E] ah:=by
  refine⟨_,ay (bZ (k:=7) oO.nd a (aU a) (fD L7 (NS (kM bS) (bQ a bF.z5 (u:=.ref nG) a) (x 4) (bQ a dS (u:=.int 2) ⟨_,a⟩) ⟨a,a,a,a⟩) bt)) (ay (fg rg a (qH a aW.q8 (I (fD pj (x 7) bt) ae)) (cF (k:=8) oO.nd a (aU a)) (ay (cp (b7 nr (x 8) bt (cf _)) (aA (c' (fI (B:=B) c3 (x 0) cu (dF (λ_ _ _ A=>A)) (I c_ ae)))) cO) dU)) (aA (c' (fI (B:=B) c3 (x 0) cu (dF (λ_ _ _ A=>A)) (I c_ ae))))),?_⟩;intro c s aB af dk ah W h l ar bi aY ao aP cH cI dY bn cA cw d0 aQ ad;have dl:=s' c bi;have d4:(((hi c).map λo=>V.int (o:Nat)).getD (.int 2))= .int (cnt c:Nat):=by delta cnt;cases hi c<;>rfl
  refine⟨nG,a,.inl ⟨_,cI⟩,_,a,_,Al cI c,(cnt c:Int),1,d4,a,?_⟩;refine⟨_,a,_,_,a,a,_,a,by omega,by omega,?_⟩;rw[(by omega:((cnt c:Int)-1+1).toNat=cnt c)];refine sk (lo:=0) (o:=cnt c) (AD r O e C ax g Z al toks d lk T c s af W h l ar)
   ⟨E,[],af,[],a,aP,by rw[fT];exact cH,cI,dY,bn,d0,a,(by cases bX:gi (cnt c) lk (eR c lk s d.length)<;>exact .nil),?_,by rw[t0];omega⟩ ?_ ?_
  rw[qZ,bw a,t0,y1];cases ga (ed r) (gi (cnt c) lk (eR c lk s d.length)) H af (d.length+1)<;>rfl;rintro k bY i dm ⟨d',aR,D,v,rfl,a6,p,bc,bf,b0,bp,b1,cJ,Y,bg⟩;have bT:ax≠l:=λb=>by obtain⟨eX,ea,_⟩:=aF.hj;rw[<-b,ea.nJ]at aQ;cases aQ
  have dn:=Rn dm lk (eR c lk s d.length);rw[Hn dn]at Y;have b2:(d++[h]++v).length=d.length+1+v.length:=by rw[b4,b4];rfl
  have dp:∀(a8:z) (b3:List ak) (aM:Ends),Fr e g i a8->eq a8 e C ax g toks b3 (d++[h]++v)->ga (ed r) (gi (cnt c) lk (eR c lk s d.length)) H af (d.length+1)=((ed r (if k=cnt c-1 then eR c lk s d.length else lk) b3 (d.length+1+v.length)).bind λe=>(ga (ed r) ((gi (cnt c) lk (eR c lk s d.length)).drop (k+1)) am e.2 (d.length+1+v.length+de e.1)).map λa9=>(e.1::a9.1,a9.2)).map (λa9=>(aR++a9.1,a9.2))->(∀bY i,AD r O e C ax g Z al toks d lk T c s af W h l ar (k+1) bY i->aM.bb bY i)->lr aM [j (.ref e),j (.ref Z),j (.int (al:Nat)),j (.int (d.length:Nat)),j (.str (aX c)),j (.ref h),j (.ref W),j (.int ((cnt c:Int)-1)),j (.int (0+(k:Nat)))] a8:=by
   intro a8 b3 aM y N b6 eb;have cK:=rk p y (λX R=>by rw[R];exact ad) bp;have aT:∃eh,a8 l=j (.L eh):=let⟨_,_,_,b,M⟩:=cK;⟨_,by rw[<-M];exact b⟩
   obtain⟨eY,aT⟩:=aT;refine dV aM c h l W k (cnt c) ar _ a8 b3 _ (aR.map aS) N (pV p y bc) (lM p y bf) (lM p y b0) cK ad bT (by rw[b2];exact bg) dm (by rw[aV];omega) cw cA (λM dq q bB du bD bx dv=>?_) (λq bB bD=>?_);rw[b2]at q;have eZ:=Hh bg q;have dw:du.length=de M:=by rw[<-dv.length,Rm]
   rw[q,d3]at b6;have bj:∀{n:t} {G:aC},a8 n=j G->n≠e->n≠g->n≠l->bB n=j G:=λ{n G} m aj aE ei=>bD n G (by rw[aH ei];exact m) aj aE;obtain⟨ej,cL,ek⟩:=N.hj;have a_:=cL.az;have bW:e≠l:=ct a_ aT ⋯;have eo:bB l=j (.L (b' (aR.map aS++[(d++[h]++v).length]))):=bD l _ aw (cU bW) ad;have ep:Fr e g O bB:=λn G m aj aE=>bj (y n G (a6 n G m aj aE) aj aE) aj aE (λb=>by rw[b,aQ]at m;cases m);refine eb _ _ ⟨_,aR++[M],dq,v++du,a,ep,by rw[<-eW];exact bx,?_,?_,?_,?_,by rw[b4,b1];rfl,?_,?_,by rw[b4,dw];omega⟩;have b:=pV p y bc;exact pV ⟨⟨ej,⟨by rw[aH bW];exact a_,by rw[aH bT];exact cL.nJ,cL.lt⟩,ek⟩,by rw[aH (cU ad)];exact N.e',N.rj⟩ bD (b.other (e2.bA.eJ b aT ⋯ (λ_=>⋯)));exact(lM p y bf).keep λG bu=>by obtain⟨dh,b,_⟩:=(lM p y bf).ex;exact bj bu (ct b a_ ⋯) (ct b N.e' ⋯) (ct b aT ⋯)
   exact(lM p y b0).keep λG bu=>by obtain⟨dh,b,_⟩:=(lM p y b0).ex;exact bj bu (ct b a_ ⋯) (ct b N.e' ⋯) (ct b aT ⋯)
   obtain⟨aN,a3,av,aI,rfl⟩:=cK;refine⟨aN,a3,bj av (ct av a_ ⋯) (ct av N.e' ⋯) (ct av aT ⋯),?_,a⟩;rw[eo,cS];show j (aC.L (b' (_++[(d++[h]++v).length])))=j (aC.L (b' (_++[aS M])));rw[(Ro q),b2];rw[Hi (by rw[b1];exact dn)];refine br.append (br.aG (λo n m=>?_) cJ) (br.aG (λo n m=>?_) dv);have eu:=rk p y (λX R b=>by rw[b,aF.e']at R;exact nomatch R.1) m;obtain⟨a4,cM,av,aI,cP,dx⟩:=eu;exact⟨a4,cM,bj av (ct av a_ ⋯) (ct av N.e' ⋯) (ct av aT ⋯),bj aI (ct aI a_ ⋯) (λb=>by rw[b,aF.e']at cP;cases cP) dx,cP,dx⟩;refine m.aG (Q.id _) λcM b_=>?_;have dy:cM≠l:=λb=>by rw[b,aw]at b_;cases b_
   rw[aH dy]at b_;exact⟨N.free (a6.trans y) b_,dy⟩;rw[b6,bq (Nat.succ_ne_zero k),b4,dw,<-v2];cases ga (ed r) ((gi (cnt c) lk (eR c lk s d.length)).drop (k+1)) am dq (d.length+1+v.length+de M)with
   |none=>rfl
   |some a9=>simp
   rw[b2]at q;rw[q]at b6;refine ao (by delta kh;rw[b6];rfl) bB λn G m aj aE=>bD n G ?_ aj aE;rw[aH (λb=>by rw[b,aQ]at m;cases m)];exact y n G (a6 n G m aj aE) aj aE
  refine⟨_,a,_,_,a,a,_,a,?_⟩;dsimp only;by_cases bX:k=0;rw[bq (by omega)];refine cq (dp i D _ (Fr.id _ _ _) p ?_ λ_ _ A=>A);rw[Y];congr 1;show(if decide (k=0)=am/\bR D≠[32]then E else _)=_;rw[bw bX,ag (λb=>nomatch b.1)];rfl;rw[bw (by omega)];obtain⟨bs,aK,a2⟩:=p.hj;obtain⟨bH,ey⟩:=mH aK.lt a2;obtain⟨N,y⟩:=p.oN ba aK a2;refine cm ⟨_,a,e,C,_,a,aK.az,a,e,C,ax,g,toks,bs,[32],a,aK,λq=>?_,λq=>?_⟩;refine dp _ (bb D) _ y N ?_ λ_ _ A=>A;rw[Y];congr 1;show(if decide (k=0)=am/\bR D≠[32]then E else _)=_;rw[bq bX,ag (λb=>b.2 (by rw[<-bH];exact q))];rfl;refine ao ?_ _ (a6.trans y);delta kh;rw[Y];have:ga (ed r) ((if k=cnt c-1 then eR c lk s d.length else lk)::(gi (cnt c) lk (eR c lk s d.length)).drop (k+1)) (decide (k=0)) D (d.length+1+v.length)=E:=by show(if decide (k=0)=am/\bR D≠[32]then E else _)=_;rw[bq bX,as ⟨a,by rw[<-bH];exact q⟩]
  rw[this];rfl;rintro bY i ⟨d',aR,D,v,rfl,a6,p,bc,bf,b0,bp,b1,cJ,Y,bg⟩;rw[RB (by rw[(vZ dl.1 lk (eR c lk s d.length))];exact bC _)]at Y;have ca:ga (ed r) (gi (cnt c) lk (eR c lk s d.length)) H af (d.length+1)=j (aR,D):=by rw[Y];show j (aR++[],D)=_;rw[fT]
  obtain⟨bs,aK,a2⟩:=p.hj;obtain⟨bH,ey⟩:=mH aK.lt a2;obtain⟨N,y⟩:=p.oN ba aK a2;obtain⟨hk,e1,rl⟩:=v0 bi b1 lk d.length s;refine⟨_,a,e,C,_,a,aK.az,a,e,C,ax,g,toks,bs,[41],a,aK,λq=>?_,λq=>?_⟩;refine aY (nL c d.length s aR) (bb D) (by delta kh;rw[ca,d3,as (by rw[<-bH];exact q)]) _ ([h]++v) (a6.trans y) (by rw[<-eW];exact N) ?_;rw[hk];refine .cons (iV.aG (rk p y (λX R=>by rw[R];exact ad) bp) (Q.id _) λX R=>by rw[R];exact aQ) ?_;exact br.aG (λo n m=>iV.aG (rk p y (λX R b=>by rw[b,aF.e']at R;exact nomatch R.1) m) (Q.id _) λX R=>R.1) cJ;exact ao (by delta kh;rw[ca,d3,ag (by rw[<-bH];exact q)]) _ (a6.trans y)
 refine⟨_,ay (bZ (k:=3) oO.nd a (aU a) (en fE a aW.eP e3 (I (a1 (x 0) a) ae))) (ay (bZ (k:=4) oO.nd a (aU a) (bP (B:=B) dE dd a (dF (λ_ _ _ A=>A)) (I (x 0) ae))) (ay (bZ (k:=5) oO.nd a (aU a) (mq (B:=b9) dG cu a bN (I (x 4) (I jK (I jK ae))))) (ay (c' (fF fK hT iq hS (a1 (x 0) a) (I (x 5) ae))) (ay (bZ (k:=6) oO.nd a (aU a) (x 1)) (ay (cp (b7 uI (x 4) (bQ a aW.zm (u:=.ref oF) a) a) (aA (bZ (k:=6) oO.nd a (aU a) (bP (B:=B) dK dd a (dF (λ_ _ _ A=>A)) (I (x 0) (I (x 1) (I (x 3) ae)))))) cO) dX))))),?_⟩;obtain⟨X,ca,e4⟩:=aF.hj;refine⟨_,a,e,ec,C,_,_,a,ca.az,bF.iv,bF.hY,a,g,_,a,.inl (an.au aF.e'),?_⟩;rw[aV];refine⟨_,a,e,C,ax,g,toks,co,d,a,ba,aF,dc,λc aB cc bJ cg ci=>?_,λcc bJ cg _=>ao (by delta mG;rw[cc];rfl) bJ cg⟩;have bi:=vY cc;have eA:mG (ed r) lk co d.length=(jt c aB).bind λn=>kh (ed r) lk d.length c n.1 n.2:=by delta mG;rw[cc];rfl
 rw[eA]at aY ao;refine⟨_,a,λh aN cQ eB eF=>?_⟩;have cX:Q bJ (U (U bJ aN (.own h)) h (.az cW aN [])):=(Q.fresh eB).new (by rw[aH (cU eF)];exact cQ);refine⟨h,aN,_,_,_,a,aw,λcj l eG cY aj aE=>⟨a,?_⟩⟩;have dz:Q bJ cj:=λn G m=>eG n G (cX n G m) (ew m cQ);have bK:=ci.same dz;obtain⟨e6,eH,di⟩:=bK.hj;refine⟨_,a,e,ec,C,_,_,a,eH.az,bF.iv,bF.hY,a,.inl ⟨a,_,an.au bK.e'⟩,_,a,g,_,_,a,a,bK.e',by rw[aV];exact c1 (by omega),?_⟩;have bk:=bK.push h;have ad:l≠g:=λb=>by rw[b,cX _ _ ci.e']at cY;cases cY
 have e7:e≠h:=λb=>by obtain⟨a9,dD⟩:=ci.az;rw[b,cQ]at dD;cases dD
 have aQ:O l=E:=ci.free cg (cX.free cY);have bl:Fr e g O (U cj g (.L (d.map V.ref++[.ref h]))):=(cg.trans (Fr.au dz)).trans λn G m s cD=>by rw[aH cD];exact m
 have cZ:iV (U cj g (.L (d.map V.ref++[.ref h]))) h ⟨aX c,.aL,[],.aL⟩ (λX=>X=l):=⟨aN,l,by rw[aH (ct aj bK.e' ⋯)];exact aj,by rw[aH ad];exact aE,a⟩;generalize eL:U cj g (.L (d.map V.ref++[.ref h]))=dk at bk bl cZ;have c0:=pV aF bl dc;have ck:=lM aF bl dR;have dl:=s' c bi;subst eL;refine⟨_,a,_,a,oF,_,a,.inr (aW.bind _),a,a,_,a,?_⟩;dsimp only;rw[ag dA,Rx];cases m:kg c with
 |false=>
  refine cq ?_;have cl:jt c aB=j ([],aB):=by delta jt;rw[m];rfl
  rw[cl]at aY ao;exact dj c [] aB aB O _ Z h l T bi aY ao bl bk c0 ck (by delta eR;rw[m];exact ck) (by omega) (by delta eR;rw[m];exact cs) cZ aQ ad
 |true=>
  have cl:jt c aB=kf aB:=by delta jt;rw[m];rfl
  refine cm ⟨_,a,_,a,_,a,e,C,ax,g,Z,d.length,toks,aB,d++[h],lk,T,a,ba,bk,c0,ck,by omega,λs af cn ah a4 aP cH bn=>?_,λcn ah aP=>ao (by rw[cl,cn];rfl) ah (bl.trans aP)⟩;rw[cl,cn]at aY ao;refine dj c s aB af O ah a4 h l (T+1) bi aY ao (bl.trans aP) cH (pV bk aP c0) (lM bk aP ck) (by delta eR;rw[m];exact bn) (by omega) ?_ (rk bk aP (λX R=>by rw[R];exact ad) cZ) aQ ad;delta eR;rw[m];show(if _ then _ else _)=_;rw[ag (λb=>Ry cn b.symm)];exact cs
def Ho(s:List ak×ak):(f' s).flatten=s.1.flatten++s.2:=by delta f';split;rename_i b;rw[b,fT];simp
theorem Hp:∀(b:ak) (s:List ak×ak),(b.foldl stepT s).1.flatten++(b.foldl stepT s).2=s.1.flatten++s.2++b
 |[],s=>by simp
 |y::b,s=>by rw[gk,Hp b];delta stepT;split;show(f' s++[[y]]).flatten++[]++b=_;rw[v3,Ho];simp;show s.1.flatten++(s.2++[y])++b=_;simp
def AE(p:ak):(hC p).flatten=p:=by delta hC;rw[v3,Ho];have:=Hp p ([],[]);delta ft;simpa using this
def Hq{s:List ak×ak}(d:∀p∈s.1,p≠[]):∀p∈f' s,p≠[]:=by
 delta f';split;exact d;rename_i c;intro p b;obtain b|b:=bE.mp b;exact d p b;have:p=s.2:=by simpa using b
 rw[this];exact c
theorem Hr:∀(d:ak) (s:List ak×ak),(∀p∈s.1,p≠[])->∀p∈(d.foldl stepT s).1,p≠[]
 |[],s,c=>c
 |y::d,s,c=>by
  rw[gk];refine Hr d _ ?_;delta stepT;split;intro p b;obtain b|b:=bE.mp b;exact Hq c p b;have:p=[y]:=by simpa using b
  rw[this];simp;exact c
def Hs(p:ak):vU (hC p):=⟨_,a,Hq (Hr p _ (by simp))⟩
def RC{n:List ak}(d:p∈n):p.length<=n.flatten.length:=by
 induction n with
 |nil=>cases d
 |cons c e b=>rw[pQ,b4];obtain rfl|d:=bm.mp d;omega;have:=b d;omega
def RD(d:lJ iU p=H)(g:p.length<=4000):Tks (hC p):=by refine⟨Hs p,λc b=>⟨λe f=>rf.mp d e ?_,?_⟩⟩;rw[<-AE p];exact RE.mpr ⟨c,b,f⟩;have:=RC b;rw[AE]at this;omega
def lN:cd:=λ_=>E
noncomputable def mI(p:ak):Option a0:=if lJ iU p=H then(ed 9 lN (hC p) 0).bind λb=>if bR b.2=[]then j b.1 else E else E
abbrev AF:be:=b3 19
inductive v4(K:bG)(G:List V)(c:z)(f:aW)(B:bn):Prop|mk:∀(e:t) (p:ak),G=[.ref e]->an K c e (gh p)->p.length<=4000->js c->(∀g,mI p=j g->∀(b:z) (d:t),Q c b->c d=E->hB b d (cC lN g)->f (.ref d) b)->(mI p=E->∀b,Q c b->B (.ref kc) E b)->v4 K G c f B
def Ht:b2 ["text","reader"] ZC (bo AF):=⟨a,a,a,∅,a,∅,∅⟩
def RF(F:bO K "read_program" "read_program" AF f ai)(a6:cT K mg)(bF:iu K mg)(an:kP P w K mg base a7 1 ec "Reader" Zj Ah)(ao:bI P w K mg base (bh P w K mg) 3 "split_tokens" ZC (z' K))(ap:bI P w K mg base (bh P w K mg) 23 "read_expression" Y0 (ta 9))(ar:eE P w K mg base (bh P w K mg) 2 ec "expect" Zr ri):bd P w K mg base (bh P w K mg) 24 f ai ZC (v4 K):=by
 refine F.okE Ht (λau R av B d=>?_) (λa8 a9 a_ ba R au av B v d=>?_);obtain⟨S,c,rfl,_⟩:=d;rfl;obtain⟨S,c,rfl,aB,T,aE,y,o⟩:=d;obtain⟨bb,aF⟩:=bF.z4;have V:cV 2 _:=v.aG nofun;refine⟨_,ay (bZ (k:=1) Ht.nd a (aU a) (mq (B:=b9) an V a bN (I (bP (B:=B) ao (v.aG nofun:cV 3 _) a (dF (λ_ _ _ d=>d)) (I (x 0) ae)) ae))) (ay (c' (bP (B:=B) ap v a (dF (λ_ _ _ d=>d)) (I (x 1) (I sH (I bt ae))))) (ay (c' (fI (B:=B) ar (x 1) V (dF (λ_ _ _ d=>d)) (I (bQ a aF (u:=.str "") ⟨_,a⟩) ae))) (aA (bx (a1 (x 1) a))))),?_⟩;refine⟨_,a,S,c,a,aB,T,λW m ax h bc z=>?_,λaI m h=>o (by delta mI;rw[ag (by rw[aI];decide)]) m h⟩;have X:=RD W T;have aK:mI c=(ed 9 lN (hC c) 0).bind λb=>if bR b.2=[]then j b.1 else E:=by delta mI;rw[as W]
 rw[aK]at y o;intro b e A aL aM;have C:Q m (U (U m e (.own b)) b (.az ec e [])):=(Q.fresh aL).new (by rw[aH (cU aM)];exact A);have aN:0<(hC c).length:=by delta hC;rw[b4,fS];omega
 refine⟨b,e,ax,hC c,a,aw,C _ _ z,aN,λD i aP aQ aR aT=>⟨a,?_⟩⟩;have Y:Q m D:=λn q g=>aP n q (C n q g) (ew g A);have G:m i=E:=C.free aQ;have aW:ax≠i:=λl=>by rw[l,G]at z;cases z
 refine⟨_,a,λZ aX=>?_⟩;have J:=Q.fresh (q:=aC.cH []) aX;have aa:=(⟨⟨0,aR,a⟩,aT,aW⟩:eq D b e ax i (hC c) (hC c) []).same J;have bL:∀{L},Fr b i (U D Z (.cH [])) L->Q R L:=λ{L} f n q g=>f n q (J _ _ (Y _ _ (h _ _ g))) (λl=>by have:=h _ _ g;rw[l,A]at this;cases this) (λl=>by have:=h _ _ g;rw[l,G]at this;cases this);refine⟨b,e,ax,i,Z,0,hC c,hC c,[],lN,0,a,⟨a,bC _⟩,X,aa,nofun,((aE.same h).same Y).same J,⟨[],aw,bC _,λ_=>rfl⟩,a,λaY bf p ad aZ r M af=>?_,λp ad r=>o (by rw[show([]:List t).length=0 from rfl]at p;rw[p];rfl) ad (bL r)⟩;rw[show([]:List t).length=0 from rfl]at p;rw[p,d3]at y o;obtain⟨a0,s,ah⟩:=M.hj;obtain⟨aj,bg⟩:=mH s.lt ah;obtain⟨ak,N⟩:=M.oN X s ah;refine⟨_,a,b,e,_,a,s.az,a,b,e,ax,i,hC c,a0,[],a,s,λO=>?_,λO=>o (by rw[ag (by rw[<-aj];exact O)]) _ (bL (r.trans N))⟩;obtain⟨bi,a2,bj⟩:=ak.hj;refine⟨_,a,b,ec,e,_,_,a,a2.az,bF.iv,bF.hY,a,?_⟩;refine y aY (by rw[as (by rw[<-aj];exact O)]) _ i (bL (r.trans N)) (h.free G) ⟨aZ,by have:=ak.e';simpa using this,af.length.symm,λk bk a3=>?_⟩;obtain⟨n,g,a4⟩:=af.get a3;exact⟨n,g,(rk M N (λbl al l=>by rw[l,aa.e']at al;cases al) a4).node⟩
end e2
namespace e2
open Vacfaa (Expr labelsOf nodesOf labelOf deepOf textOf isName INPUT RESERVED inBrackets decimal numberOf isSmall isDigit)
open Y (cZ size m9 l3 wf xk iG)
abbrev tb:ak:=dI "if"
abbrev tc:ak:=dI "pair"
abbrev td:ak:=dI "fst"
abbrev te:ak:=dI "snd"
abbrev tf:ak:=dI "new"
abbrev tg:ak:=dI "get"
abbrev th:ak:=dI "set"
abbrev ti:ak:=dI "add"
noncomputable def bX:a0->List ak
 | .num _ f=>[decimal f]
 | .var _ e=>[e]
 | .fn _ e c=>[40]::kd::[32]::e::[32]::(bX c++[[41]])
 | .app _ g d=>[40]::(bX g++([32]::(bX d++[[41]])))
 | .letE _ e b c=>[40]::ke::[32]::e::[32]::(bX b++([32]::(bX c++[[41]])))
 | .ifz _ h i b=>[40]::tb::[32]::(bX h++([32]::(bX i++([32]::(bX b++[[41]])))))
 | .pair _ d c=>[40]::tc::[32]::(bX d++([32]::(bX c++[[41]])))
 | .fst _ b=>[40]::td::[32]::(bX b++[[41]])
 | .snd _ b=>[40]::te::[32]::(bX b++[[41]])
 | .new _ b=>[40]::tf::[32]::(bX b++[[41]])
 | .get _ b=>[40]::tg::[32]::(bX b++[[41]])
 | .set _ d c=>[40]::th::[32]::(bX d++([32]::(bX c++[[41]])))
 | .add _ d c=>[40]::ti::[32]::(bX d++([32]::(bX c++[[41]])))
def RG(h:a0):(bX h).flatten=textOf h:=by
 induction h with
 |num=>simp[bX,textOf]
 |var=>simp[bX,textOf]
 |fn d i e f=>simp[bX,textOf,inBrackets,fA,jZ,f,kd]
 |fst d e f=>simp[bX,textOf,inBrackets,fA,jZ,f]
 |snd d e f=>simp[bX,textOf,inBrackets,fA,jZ,f]
 |new d e f=>simp[bX,textOf,inBrackets,fA,jZ,f]
 |get d e f=>simp[bX,textOf,inBrackets,fA,jZ,f]
 |app d g e b c=>simp[bX,textOf,inBrackets,fA,jZ,b,c]
 |letE d i g e b c=>simp[bX,textOf,inBrackets,fA,jZ,b,c,ke]
 |pair d g e b c=>simp[bX,textOf,inBrackets,fA,jZ,b,c]
 |set d g e b c=>simp[bX,textOf,inBrackets,fA,jZ,b,c]
 |add d g e b c=>simp[bX,textOf,inBrackets,fA,jZ,b,c]
 |ifz d g e l b c k=>simp[bX,textOf,inBrackets,fA,jZ,b,c,k]
def dk:cd->a0->Prop
 |_,.num _ g=>g<=99
 |lk,.var _ b=>isName b=H/\(b=INPUT\/(lk b).isSome=H)
 |lk,.fn f b d=>isName b=H/\b≠INPUT/\dk (bindL lk b f) d
 |lk,.app _ h e=>dk lk h/\dk lk e
 |lk,.letE f b c d=>isName b=H/\b≠INPUT/\dk lk c/\dk (bindL lk b f) d
 |lk,.ifz _ i k c=>dk lk i/\dk lk k/\dk lk c
 |lk,.pair _ e d=>dk lk e/\dk lk d
 |lk,.fst _ c=>dk lk c
 |lk,.snd _ c=>dk lk c
 |lk,.new _ c=>dk lk c
 |lk,.get _ c=>dk lk c
 |lk,.set _ e d=>dk lk e/\dk lk d
 |lk,.add _ e d=>dk lk e/\dk lk d
def tj(l:List ak)(lk:cd):Prop:=∀b,b∈l↔(b=INPUT\/(lk b).isSome=H)
variable{lk:cd}
def tj.bind{l:List ak}(d:tj l lk)(i:ak)(n:Nat):tj (i::l) (bindL lk i n):=λb=>by unfold bindL;rw[bm,d b];by_cases c:b=i;simp[c];simp[c]
def Hu:∀{h:a0} {l:List ak} {lk:cd},tj l lk->(et l h=H↔dk lk h):=by
 intro h;induction h with
 |num c o=>intro l lk b;exact z1
 |var c i=>intro l lk b;simp only[et,dk,dQ,d1,b i]
 |fn c i g f=>intro l lk b;simp only[et,dk,dQ,bne_iff_ne,f (b.bind i c)]
 |letE c i k g d e=>intro l lk b;simp only[et,dk,dQ,bne_iff_ne,d b,e (b.bind i c)]
 |app c k g d e=>intro l lk b;simp only[et,dk,dQ,d b,e b]
 |pair c k g d e=>intro l lk b;simp only[et,dk,dQ,d b,e b]
 |set c k g d e=>intro l lk b;simp only[et,dk,dQ,d b,e b]
 |add c k g d e=>intro l lk b;simp only[et,dk,dQ,d b,e b]
 |ifz c k g p d e n=>intro l lk b;simp only[et,dk,dQ,d b,e b,n b]
 |fst c m f=>intro l lk b;simp only[et,dk,f b]
 |snd c m f=>intro l lk b;simp only[et,dk,f b]
 |new c m f=>intro l lk b;simp only[et,dk,f b]
 |get c m f=>intro l lk b;simp only[et,dk,f b]
def Hv:tj [INPUT] lN:=λb=>by simp[lN]
structure kW (lk:cd) (o r:Nat) (h:a0):Prop where
 aR:dk lk h
 ar:cZ o h
 hy:deepOf h<r
def v5(h:a0):size h=de h:=aV _
variable{o:Nat}{h:a0}
def cZ.hk{aa:a0}(b:nodesOf h=h::nodesOf aa)(c:labelOf h=o)(d:cZ (o+1) aa):cZ o h:=by unfold Y.cZ at d|-;unfold labelsOf at d|-;rw[b,bz,c,cy,r2,<-d]
def AG(o e b:Nat):h8 o e++h8 (o+e) b=h8 o (e+b):=by have:=RH (s:=o) (m:=e) (n:=b) (step:=1);simpa using this
def cZ.RI{e b:a0}(f:nodesOf h=h::(nodesOf e++nodesOf b))(g:labelOf h=o)(d:cZ (o+1) e)(c:cZ (o+1+de e) b):cZ o h:=by unfold Y.cZ at d c|-;unfold labelsOf at d c|-;have i:((nodesOf e).map labelOf).length=de e:=aV _;rw[f,bz,g,cy,r2,cS,b4,<-AG,<-d,i,<-c]
def cZ.rl{e b y:a0}(g:nodesOf h=h::(nodesOf e++(nodesOf b++nodesOf y)))(i:labelOf h=o)(d:cZ (o+1) e)(c:cZ (o+1+de e) b)(f:cZ (o+1+de e+de b) y):cZ o h:=by unfold Y.cZ at d c f|-;unfold labelsOf at d c f|-;have k:((nodesOf e).map labelOf).length=de e:=aV _;have l:((nodesOf b).map labelOf).length=de b:=aV _;rw[g,bz,i,cy,r2,cS,b4,<-AG,<-d,k,cS,b4,<-AG,<-c,l,<-f]
def lO(r:Nat):List cd->Nat->List a0->Prop
 |lk::b,o,h::c=>kW lk o r h/\lO r b (o+de h) c
 |[],_,[]=>True
 |_,_,_=>False
noncomputable def fa:Bool->List a0->List ak
 |_,[]=>[]
 |b,h::c=>(if b=H then[]else[[32]])++(bX h++fa am c)
noncomputable def h2(b i:ak):List ak:=if b=iw then[]else if kg b=H then[b,[32],i,[32]]else[b,[32]]
variable{dm:ak}
def Hw(b:dm∈ki):dm=iw\/dm=kd\/dm=ke\/dm=tb\/dm=tc\/dm=td\/dm=te\/dm=tf\/dm=tg\/dm=th\/dm=ti:=by simpa[ki,iw,kd,ke]using b
variable{ap:List a0}
def iW{y:Nat}(d:ap.length=y)(b:y=1):∃e,ap=[e]:=by
 subst b
 match ap,d with
 |[e],_=>exact⟨e,a⟩
def lP{y:Nat}(d:ap.length=y)(c:y=2):∃e b,ap=[e,b]:=by
 subst c
 match ap,d with
 |[e,b],_=>exact⟨e,b,a⟩
def oP{y:Nat}(d:ap.length=y)(c:y=3):∃e b aa,ap=[e,b,aa]:=by
 subst c
 match ap,d with
 |[e,b,aa],_=>exact⟨e,b,aa,a⟩
def Hx(f:dm∈ki)(d:ap.length=cnt dm)(o:Nat)(i:ak):bX (nL dm o i ap)=[40]::(h2 dm i++(fa H ap++[[41]])):=by
 obtain rfl|rfl|rfl|rfl|rfl|rfl|rfl|rfl|rfl|rfl|rfl:=Hw f;obtain⟨b,c,rfl⟩:=lP d ∅;show[40]::(bX b++([32]::(bX c++[[41]])))=[40]::([]++(([]++(bX b++([[32]]++(bX c++[]))))++[[41]]));simp
 obtain⟨b,rfl⟩:=iW d ∅;show[40]::kd::[32]::i::[32]::(bX b++[[41]])=[40]::([kd,[32],i,[32]]++(([]++(bX b++[]))++[[41]]));simp
 obtain⟨b,c,rfl⟩:=lP d ∅;show[40]::ke::[32]::i::[32]::(bX b++([32]::(bX c++[[41]])))=[40]::([ke,[32],i,[32]]++(([]++(bX b++([[32]]++(bX c++[]))))++[[41]]));simp
 obtain⟨b,c,e,rfl⟩:=oP d ∅;show[40]::tb::[32]::(bX b++([32]::(bX c++([32]::(bX e++[[41]])))))=[40]::([tb,[32]]++(([]++(bX b++([[32]]++(bX c++([[32]]++(bX e++[]))))))++[[41]]));simp
 obtain⟨b,c,rfl⟩:=lP d ∅;show[40]::tc::[32]::(bX b++([32]::(bX c++[[41]])))=[40]::([tc,[32]]++(([]++(bX b++([[32]]++(bX c++[]))))++[[41]]));simp
 obtain⟨b,rfl⟩:=iW d ∅;show[40]::td::[32]::(bX b++[[41]])=[40]::([td,[32]]++(([]++(bX b++[]))++[[41]]));simp
 obtain⟨b,rfl⟩:=iW d ∅;show[40]::te::[32]::(bX b++[[41]])=[40]::([te,[32]]++(([]++(bX b++[]))++[[41]]));simp
 obtain⟨b,rfl⟩:=iW d ∅;show[40]::tf::[32]::(bX b++[[41]])=[40]::([tf,[32]]++(([]++(bX b++[]))++[[41]]));simp
 obtain⟨b,rfl⟩:=iW d ∅;show[40]::tg::[32]::(bX b++[[41]])=[40]::([tg,[32]]++(([]++(bX b++[]))++[[41]]));simp
 obtain⟨b,c,rfl⟩:=lP d ∅;show[40]::th::[32]::(bX b++([32]::(bX c++[[41]])))=[40]::([th,[32]]++(([]++(bX b++([[32]]++(bX c++[]))))++[[41]]));simp
 obtain⟨b,c,rfl⟩:=lP d ∅;show[40]::ti::[32]::(bX b++([32]::(bX c++[[41]])))=[40]::([ti,[32]]++(([]++(bX b++([[32]]++(bX c++[]))))++[[41]]));simp
variable{r:Nat}
def tk{gA:cd}{e:a0}(b:nodesOf h=h::nodesOf e)(c:labelOf h=o)(f:deepOf h=deepOf e+1)(g:dk gA e->dk lk h)(d:lO r [gA] (o+1) [e]):kW lk o (r+1) h:=
 ⟨g d.1.aR,cZ.hk b c d.1.ar,by rw[f];have:=d.1.hy;omega⟩
def tl{gU gV:cd}{e b:a0}(c:nodesOf h=h::(nodesOf e++nodesOf b))(f:labelOf h=o)(g:deepOf h=max (deepOf e) (deepOf b)+1)(i:dk gU e->dk gV b->dk lk h)(d:lO r [gU,gV] (o+1) [e,b]):kW lk o (r+1) h:=
 ⟨i d.1.aR d.2.1.aR,cZ.RI c f d.1.ar d.2.1.ar,by rw[g];have:=d.1.hy;have:=d.2.1.hy;omega⟩
def RJ{gU gV nM:cd}{e b y:a0}(c:nodesOf h=h::(nodesOf e++(nodesOf b++nodesOf y)))(f:labelOf h=o)(g:deepOf h=max (deepOf e) (max (deepOf b) (deepOf y))+1)(i:dk gU e->dk gV b->dk nM y->dk lk h)(d:lO r [gU,gV,nM] (o+1) [e,b,y]):kW lk o (r+1) h:=
 ⟨i d.1.aR d.2.1.aR d.2.2.1.aR,cZ.rl c f d.1.ar d.2.1.ar d.2.2.1.ar,by rw[g];have:=d.1.hy;have:=d.2.1.hy;have:=d.2.2.1.hy;omega⟩
variable{i:ak}
def RK(k:dm∈ki)(e:ap.length=cnt dm)(f:kg dm=H->isName i=H/\i≠INPUT)(d:lO r (gi (cnt dm) lk (eR dm lk i o)) (o+1) ap):kW lk o (r+1) (nL dm o i ap):=by obtain rfl|rfl|rfl|rfl|rfl|rfl|rfl|rfl|rfl|rfl|rfl:=Hw k;obtain⟨b,c,rfl⟩:=lP e ∅;exact tl (lk:=lk) (h:=.app o b c) a a a (λb c=>⟨b,c⟩) d;obtain⟨b,rfl⟩:=iW e ∅;exact tk (lk:=lk) (h:=.fn o i b) a a a (λb=>⟨(f a).1,(f a).2,b⟩) d;obtain⟨b,c,rfl⟩:=lP e ∅;exact tl (lk:=lk) (h:=.letE o i b c) a a a (λb c=>⟨(f a).1,(f a).2,b,c⟩) d;obtain⟨b,c,g,rfl⟩:=oP e ∅;exact RJ (lk:=lk) (h:=.ifz o b c g) a a a (λb c g=>⟨b,c,g⟩) d;obtain⟨b,c,rfl⟩:=lP e ∅;exact tl (lk:=lk) (h:=.pair o b c) a a a (λb c=>⟨b,c⟩) d;obtain⟨b,rfl⟩:=iW e ∅;exact tk (lk:=lk) (h:=.fst o b) a a a (λb=>b) d;obtain⟨b,rfl⟩:=iW e ∅;exact tk (lk:=lk) (h:=.snd o b) a a a (λb=>b) d;obtain⟨b,rfl⟩:=iW e ∅;exact tk (lk:=lk) (h:=.new o b) a a a (λb=>b) d;obtain⟨b,rfl⟩:=iW e ∅;exact tk (lk:=lk) (h:=.get o b) a a a (λb=>b) d;obtain⟨b,c,rfl⟩:=lP e ∅;exact tl (lk:=lk) (h:=.set o b c) a a a (λb c=>⟨b,c⟩) d;obtain⟨b,c,rfl⟩:=lP e ∅;exact tl (lk:=lk) (h:=.add o b c) a a a (λb c=>⟨b,c⟩) d
def RL(d:kW lk o (r+1) h):(∃p,bX h=[p]/\h1 lk p o=j h/\p≠[]/\p≠[40])\/∃dm ap i,dm∈ki/\ap.length=cnt dm/\h=nL dm o i ap/\(kg dm=H->isName i=H/\i≠INPUT)/\(kg dm=am->i=[])/\lO r (gi (cnt dm) lk (eR dm lk i o)) (o+1) ap:=by
 have m:∀{b:a0} {gA:cd},nodesOf h=h::nodesOf b->deepOf h=deepOf b+1->dk gA b->labelOf h=o/\lO r [gA] (o+1) [b]:=λ{b gA} k z n=>by obtain⟨q,s,_⟩:=Y.cZ.i' k a d.ar;exact⟨q,⟨n,s,by have:=d.hy;omega⟩,trivial⟩
 have u:∀{b e:a0} {gU gV:cd},nodesOf h=h::(nodesOf b++nodesOf e)->deepOf h=max (deepOf b) (deepOf e)+1->dk gU b->dk gV e->labelOf h=o/\lO r [gU,gV] (o+1) [b,e]:=λ{b e gU gV} k z n kE=>by obtain⟨q,s,v,_⟩:=Y.cZ.ll k a d.ar;rw[v5]at v;exact⟨q,⟨n,s,by have:=d.hy;omega⟩,⟨kE,v,by have:=d.hy;omega⟩,trivial⟩
 have C:∀{b e l:a0} {gU gV nM:cd},nodesOf h=h::(nodesOf b++(nodesOf e++nodesOf l))->deepOf h=max (deepOf b) (max (deepOf e) (deepOf l))+1->dk gU b->dk gV e->dk nM l->labelOf h=o/\lO r [gU,gV,nM] (o+1) [b,e,l]:=λ{b e l gU gV nM} k z n kE pX=>by obtain⟨q,s,v,A,_⟩:=Y.cZ.CR k a d.ar;rw[v5]at v;rw[v5,v5]at A;exact⟨q,⟨n,s,by have:=d.hy;omega⟩,⟨kE,v,by have:=d.hy;omega⟩,⟨pX,A,by have:=d.hy;omega⟩,trivial⟩
 have G:∀{D:Prop},am=H->D:=⋯;cases h with
 |num g B=>
  have k:g=o:=by have:=d.ar;unfold Y.cZ labelsOf at this;simpa[nodesOf,labelOf]using this
  subst k;have w:B<=99:=d.aR;refine .inl ⟨decimal B,a,?_,Y.qr w,λc=>?_⟩;unfold h1;rw[Y.tZ w];have:=Y.lj w 40 (by rw[c];simp);exact aq this nofun
 |var g i=>
  have k:g=o:=by have:=d.ar;unfold Y.cZ labelsOf at this;simpa[nodesOf,labelOf]using this
  subst k;have x:=l3.mp d.aR.1;refine .inl ⟨i,a,?_,x.eJ,λc=>?_⟩;unfold h1;rw[Y.CQ x];dsimp only;by_cases c:i=INPUT;rw[as c];rw[ag c];obtain y|y:=d.aR.2;exact aq y c;obtain⟨e,F⟩:=yj.mp y;rw[F];rfl;have:=x.o5 40 (by rw[c];simp);exact aq this nofun
 |app g b e=>obtain⟨rfl,f⟩:=u (gU:=lk) (gV:=lk) a a d.aR.1 d.aR.2;exact .inr ⟨iw,[b,e],[],∅,(show 2=cnt _ by decide +kernel),a,λc=>aq c ∅,λ_=>rfl,f⟩
 |fn g i b=>obtain⟨rfl,f⟩:=m (gA:=bindL lk i g) a a d.aR.2.2;exact .inr ⟨kd,[b],i,∅,(show 1=cnt _ by decide +kernel),a,λ_=>⟨d.aR.1,d.aR.2.1⟩,λc=>aq c ∅,f⟩
 |letE g i b e=>obtain⟨rfl,f⟩:=u (gU:=lk) (gV:=bindL lk i g) a a d.aR.2.2.1 d.aR.2.2.2;exact .inr ⟨ke,[b,e],i,∅,(show 2=cnt _ by decide +kernel),a,λ_=>⟨d.aR.1,d.aR.2.1⟩,λc=>aq c ∅,f⟩
 |ifz g b e l=>obtain⟨rfl,f⟩:=C (gU:=lk) (gV:=lk) (nM:=lk) a a d.aR.1 d.aR.2.1 d.aR.2.2;exact .inr ⟨tb,[b,e,l],[],∅,(show 3=cnt _ by decide +kernel),a,λc=>aq c ∅,λ_=>rfl,f⟩
 |pair g b e=>obtain⟨rfl,f⟩:=u (gU:=lk) (gV:=lk) a a d.aR.1 d.aR.2;exact .inr ⟨tc,[b,e],[],∅,(show 2=cnt _ by decide +kernel),a,λc=>aq c ∅,λ_=>rfl,f⟩
 |fst g b=>obtain⟨rfl,f⟩:=m (gA:=lk) a a d.aR;exact .inr ⟨td,[b],[],∅,(show 1=cnt _ by decide +kernel),a,λc=>aq c ∅,λ_=>rfl,f⟩
 |snd g b=>obtain⟨rfl,f⟩:=m (gA:=lk) a a d.aR;exact .inr ⟨te,[b],[],∅,(show 1=cnt _ by decide +kernel),a,λc=>aq c ∅,λ_=>rfl,f⟩
 |new g b=>obtain⟨rfl,f⟩:=m (gA:=lk) a a d.aR;exact .inr ⟨tf,[b],[],∅,(show 1=cnt _ by decide +kernel),a,λc=>aq c ∅,λ_=>rfl,f⟩
 |get g b=>obtain⟨rfl,f⟩:=m (gA:=lk) a a d.aR;exact .inr ⟨tg,[b],[],∅,(show 1=cnt _ by decide +kernel),a,λc=>aq c ∅,λ_=>rfl,f⟩
 |set g b e=>obtain⟨rfl,f⟩:=u (gU:=lk) (gV:=lk) a a d.aR.1 d.aR.2;exact .inr ⟨th,[b,e],[],∅,(show 2=cnt _ by decide +kernel),a,λc=>aq c ∅,λ_=>rfl,f⟩
 |add g b e=>obtain⟨rfl,f⟩:=u (gU:=lk) (gV:=lk) a a d.aR.1 d.aR.2;exact .inr ⟨ti,[b,e],[],∅,(show 2=cnt _ by decide +kernel),a,λc=>aq c ∅,λ_=>rfl,f⟩
def kX(lk:cd):Prop:=∀i,(lk i).isSome=H->isName i=H/\i≠INPUT
def kX.bind(d:kX lk)(f:isName i=H)(g:i≠INPUT)(n:Nat):kX (bindL lk i n):=λc b=>by unfold bindL at b;by_cases e:c=i;rw[e];exact⟨f,g⟩;rw[ag e]at b;exact d c b
def nN{p:ak}{s:List ak}(d:p≠[]):bb (p::s)=s:=by delta bb;rw[ag (show bR (p::s)≠[]from d)];rfl
def oQ{b:List ak}{p:ak}(d:bR b=p)(c:p≠[]):b=p::bb b:=by
 cases b with
 |nil=>exact aq d.symm c
 |cons e f=>have:e=p:=d;subst this;rw[nN c]
def RM{p:ak}(d:numberOf p=j o):p=decimal o/\o<=99:=by
 unfold i_ at d;split at d;rename_i i;obtain⟨f,e,l⟩:=i;have k:o=Vacfaa.valueOf p:=(dP d).symm;refine⟨by rw[k];exact l,?_⟩;rw[k];have g:∀b,isDigit b=H->b.toNat-48<=9:=λb h=>by unfold g3 at h;simp only[dQ,l2]at h;have:=UInt8.le_iff_toNat_le.mp h.2;have m:(57:UInt8).toNat=57:=rfl;omega
 rw[l4]at e
 match p,f,e with
 |[],_,_=>decide
 |[c],_,e=>show 0*10+(c.toNat-48)<=99;have:=g c (e c (by simp));omega
 |[c,b],_,e=>show(0*10+(c.toNat-48))*10+(b.toNat-48)<=99;have:=g c (e c (by simp));have:=g b (e b (by simp));omega
 |c::b::i::n,f,_=>simp at f
 cases d
def RN(g:kX lk){p:ak}(d:h1 lk p o=j h):bX h=[p]/\kW lk o (r+1) h/\p≠[]:=by
 unfold h1 at d;split at d;rename_i l i;cases d;obtain⟨b,c⟩:=RM i;exact⟨by rw[b];rfl,⟨c,by simp[Y.cZ,labelsOf,nodesOf,labelOf],Hy _⟩,by rw[b];exact Y.qr c⟩;split at d;rename_i k;cases d;subst k;exact⟨a,⟨⟨∅,.inl a⟩,by simp[Y.cZ,labelsOf,nodesOf,labelOf],Hy _⟩,nofun⟩;cases e:lk p with
 |none=>rw[e]at d;cases d
 |some m=>
  rw[e]at d;cases d;have f:(lk p).isSome=H:=by rw[e];rfl
  obtain⟨b,c⟩:=g p f;exact⟨a,⟨⟨b,.inr f⟩,by simp[Y.cZ,labelsOf,nodesOf,labelOf],Hy _⟩,(l3.mp b).eJ⟩
theorem Hz{g:nK}(n:∀{lk d dq o h},kX lk->g lk d o=j (h,dq)->d=bX h++dq/\kW lk o r h):∀{eS:List cd} {b:Bool} {d dq:List ak} {o:Nat} {ap:List a0},(∀lk∈eS,kX lk)->ga g eS b d o=j (ap,dq)->d=fa b ap++dq/\lO r eS o ap
 |[],b,d,dq,o,ap,k,c=>by cases c;exact⟨a,trivial⟩
 |lk::eS,b,d,dq,o,ap,k,c=>by
  unfold ga at c;split at c;cases c;rename_i s;cases l:g lk (if b=H then d else bb d) o with
  |none=>rw[l]at c;cases c
  |some e=>
   rw[l]at c;simp only[d3]at c;cases m:ga g eS am e.2 (o+de e.1)with
   |none=>rw[m]at c;cases c
   |some f=>
    rw[m]at c;have c:=dP c;have u:ap=e.1::f.1:=(Au c).1.symm;have v:dq=f.2:=(Au c).2.symm;subst u v;obtain⟨i,w⟩:=n (h:=e.1) (dq:=e.2) (k lk b8) l;obtain⟨p,x⟩:=Hz n (ap:=f.1) (dq:=f.2) (λy z=>k y (cv _ z)) m;refine⟨?_,w,x⟩;show d=((if b=H then[]else[[32]])++(bX e.1++fa am f.1))++f.2;cases b with
    |true=>rw[as a]at i|-;rw[i,p];simp
    |false=>
     rw[ag nofun]at i|-;have A:bR d=[32]:=by by_cases q:bR d=[32];exact q;exact aq ⟨a,q⟩ s
     rw[oQ A (by simp),i,p];simp
def HA:∀dm∈ki,dm≠[]:=∅
def HB(i:ak)(d:kg dm=H):h2 dm i=[dm,[32],i,[32]]:=by
 delta h2;have:dm≠iw:=λb=>by rw[b]at d;exact aq d ∅
 rw[ag this,as d]
def RO{b dq:List ak}(d:h0 b=j (dm,dq)):(dm=iw/\b=dq)\/(dm≠iw/\b=dm::[32]::dq):=by
 unfold h0 at d;split at d;cases d;exact .inl ⟨a,a⟩;rename_i c;split at d;rename_i e;cases d;refine .inr ⟨λf=>c (by rw[f];decide +kernel),?_⟩
 conv=>lhs;rw[oQ a (HA _ (Hf c):bR b≠[]),oQ e (by simp)]
 cases d
def RP{b dq:List ak}(d:kf b=j (i,dq)):b=i::[32]::dq/\isName i=H/\i≠INPUT:=by
 unfold kf at d;split at d;cases d;rename_i e;split at d;rename_i g;cases d;have f:isName (bR b)=H:=by
  cases c:isName (bR b)with
  |true=>rfl
  |false=>exact aq (.inr c) e
 refine⟨?_,f,λc=>e (.inl c)⟩
 conv=>lhs;rw[oQ a (l3.mp f).eJ,oQ g (by simp)]
 cases d
def lks_ok{gA:cd}(d:kX lk)(aY:kX gA)(y:Nat):∀n∈gi y lk gA,kX n:=λn b=>by
 unfold gi at b;obtain b|b:=bE.mp b;rw[(List.mem_replicate.mp b).2];exact d;have:n=gA:=by simpa using b
 rw[this];exact aY
def RQ:∀{r:Nat} {lk:cd} {f dq:List ak} {o:Nat} {h:a0},kX lk->ed r lk f o=j (h,dq)->f=bX h++dq/\kW lk o r h:=by
 intro r;induction r with
 |zero=>intro lk f dq o h _ b;cases b
 |succ r v=>
  intro lk f dq o h l b;unfold ed at b;split at b;cases b;split at b;rename_i w;unfold mG at b;cases c:h0 (bb f)with
  |none=>rw[c]at b;cases b
  |some x=>
   obtain⟨d,y⟩:=x;rw[c,d3]at b;dsimp only at b;cases g:jt d y with
   |none=>rw[g]at b;cases b
   |some z=>
    obtain⟨i,q⟩:=z;rw[g,d3]at b;unfold kh at b;dsimp only at b;cases m:ga (ed r) (gi (cnt d) lk (eR d lk i o)) H q (o+1)with
    |none=>rw[m]at b;cases b
    |some A=>
     obtain⟨B,P⟩:=A;rw[m,d3]at b;dsimp only at b;split at b;rename_i C;cases b;have p:=vY c;have s:B.length=cnt d:=by rw[vX m,vZ (s' _ p).1]
     have n:(kg d=H->isName i=H/\i≠INPUT)/\bb f=h2 d i++q:=by
      have u:=RO c;unfold jt at g;cases e:kg d with
      |true=>rw[as e]at g;obtain⟨D,F,G⟩:=RP g;refine⟨λ_=>⟨F,G⟩,?_⟩;obtain⟨rfl,_⟩|⟨_,k⟩:=u;exact aq e ∅;rw[k,D,HB i e];rfl
      |false=>rw[ag (by rw[e];decide)]at g;cases g;refine⟨⋯,?_⟩;delta h2;obtain⟨rfl,k⟩|⟨I,k⟩:=u;rw[as a,k];rfl;rw[ag I,ag (by rw[e];decide),k];rfl
     have J:kX (eR d lk i o):=by delta eR;split;rename_i e;exact l.bind (n.1 e).1 (n.1 e).2 o;exact l
     obtain⟨K,L⟩:=Hz v (lks_ok l J _) m;refine⟨?_,RK p s n.1 L⟩;rw[Hx p s]
     conv=>lhs;rw[oQ w (by simp),n.2,K,oQ C (by simp)]
     simp;cases b
  cases c:h1 lk (bR f) o with
  |none=>rw[c]at b;cases b
  |some i=>rw[c]at b;cases b;obtain⟨M,N,O⟩:=RN (r:=r) l c;exact⟨by rw[M];exact oQ a O,N⟩
def RR:∀{h:a0} {lk:cd},dk lk h->∃w ao,bX h=w::ao/\hi w=E/\w≠[]:=by
 have e:∀w:ak,w∉RESERVED->hi w=E:=λw b=>by
  cases c:hi w with
  |none=>rfl
  |some n=>
   have:(hi w).isSome=H:=by rw[c];rfl
   rw[Ak]at this;exact aq (d1.mp this) b
 intro h lk b;cases h with
 |num l f=>have d:f<=99:=b;refine⟨decimal f,[],a,e _ λc=>?_,Y.qr d⟩;obtain⟨g,i⟩:=List.exists_mem_of_ne_nil _ (Y.qr d);have k:=Y.xi (((Y.o6 _ c).1) g i);rw[Y.lj d g i]at k;cases k
 |var l m=>exact⟨m,[],a,e _ (l3.mp b.1).free,(l3.mp b.1).eJ⟩
 |_=>exact⟨[40],_,a,∅,nofun⟩
theorem HC{c:nK}(d:∀{lk o h s},kW lk o r h->o+de h<=30->c lk (bX h++s) o=j (h,s)):∀{eS:List cd} {b:Bool} {o:Nat} {ap:List a0} {s:List ak},lO r eS o ap->o+s_ ap<=30->ga c eS b (fa b ap++s) o=j (ap,s)
 |[],b,o,[],s,_,_=>rfl
 |lk::eS,b,o,h::ap,s,e,f=>by
  have f:o+(de h+s_ ap)<=30:=f;unfold ga;have g:(if b=H then fa b (h::ap)++s else bb (fa b (h::ap)++s))=bX h++(fa am ap++s):=by
   cases b with
   |true=>rw[as a];show([]++(bX h++fa am ap))++s=_;simp
   |false=>rw[ag nofun];show bb (([[32]]++(bX h++fa am ap))++s)=_;simp[nN]
  have i:¬(b=am/\bR (fa b (h::ap)++s)≠[32]):=by rintro⟨rfl,k⟩;exact k a
  rw[ag i,g,d e.1 (by omega),d3];dsimp only;rw[HC d e.2 (by omega)];rfl
def HD{ao:List ak}(b:hi dm≠E)(c:dm≠[]):h0 (dm::[32]::ao)=j (dm,ao):=by show(if hi dm=E then _ else if bR (bb (dm::[32]::ao))=[32]then j (dm,bb (bb (dm::[32]::ao)))else E)=_;rw[ag b,nN c,as (show bR ([32]::ao)=[32]from rfl),nN (by simp)]
def RS{ao:List ak}(c:isName i=H)(d:i≠INPUT):kf (i::[32]::ao)=j (i,ao):=by show(if i=INPUT\/isName i=am then E else if bR (bb (i::[32]::ao))=[32]then j (i,bb (bb (i::[32]::ao)))else E)=_;rw[ag (by rintro(b|b);exact d b;rw[c]at b;cases b),nN (l3.mp c).eJ,as (show bR ([32]::ao)=[32]from rfl),nN (by simp)]
def RT:∀{r:Nat} {lk:cd} {o:Nat} {h:a0} {s:List ak},kW lk o r h->o+de h<=30->ed r lk (bX h++s) o=j (h,s):=by
 intro r;induction r with
 |zero=>intro lk o h s m _;exact aq m.hy (s4 _)
 |succ r B=>
  intro lk o h s m C;have O:1<=de h:=by delta de;cases h<;>simp[nodesOf]
  unfold ed;rw[ag (by omega)];obtain⟨k,D,F,G,I⟩|⟨b,c,d,l,n,rfl,J,w,x⟩:=RL m;rw[D,ag (show bR ([k]++s)≠[40]from I),show bR ([k]++s)=k from rfl,F];show j (h,bb (k::s))=_;rw[nN G];have K:=(v0 l n lk o d).2.2;rw[K]at C;rw[Hx l n];rw[(by simp:([40]::(h2 b d++(fa H c++[[41]])):List ak)++s=[40]::(h2 b d++(fa H c++([41]::s)))),as (show bR ([40]::_)=[40]from rfl),nN (by simp)];have p:kh (ed r) lk o b d (fa H c++([41]::s))=j (nL b o d c,s):=by delta kh;rw[HC B x (by omega),d3];dsimp only;rw[as (show bR ([41]::s)=[41]from rfl),nN (by simp)]
  delta mG;by_cases q:b=iw;subst q;obtain⟨e,f,rfl⟩:=(lP n ∅:∃e f,c=[e,f]);obtain⟨y,P,hw,L,Q⟩:=RR x.1.aR;have i:h0 (h2 iw d++(fa H [e,f]++([41]::s)))=j (iw,fa H [e,f]++([41]::s)):=by
   delta h0;rw[as];rfl;have:bR (h2 iw d++(fa H [e,f]++([41]::s)))=y:=by show bR ([]++([]++(bX e++fa am [f])++([41]::s)))=y;rw[hw];rfl
   rw[this];exact L
  rw[i,d3];dsimp only;rw[show jt iw (fa H [e,f]++([41]::s))=j ([],fa H [e,f]++([41]::s))from rfl,d3];dsimp only;have u:=w ∅;subst u;exact p;have z:hi b≠E:=by have:∀b∈ki,b≠iw->hi b≠E:=∅;exact this b l q
  have A:=HA b l;cases g:kg b with
  |true=>
   obtain⟨M,N⟩:=J g;have i:h0 (h2 b d++(fa H c++([41]::s)))=j (b,d::[32]::(fa H c++([41]::s))):=by rw[HB d g];exact HD z A
   rw[i,d3];dsimp only;have v:jt b (d::[32]::(fa H c++([41]::s)))=j (d,fa H c++([41]::s)):=by delta jt;rw[as g];exact RS M N
   rw[v,d3];exact p
  |false=>
   have i:h0 (h2 b d++(fa H c++([41]::s)))=j (b,fa H c++([41]::s)):=by delta h2;rw[ag q,ag (by rw[g];decide)];exact HD z A
   rw[i,d3];dsimp only;have v:jt b (fa H c++([41]::s))=j ([],fa H c++([41]::s)):=by delta jt;rw[ag (by rw[g];decide)]
   rw[v,d3];dsimp only;have u:=w g;subst u;exact p
def ix(p:ak)(aK:List ak):Prop:=∀b,f' (p.foldl stepT (b,[]))=b++aK
theorem HE:∀{i:ak} {c:List ak} {w:ak},(∀b∈i,lK b=am)->i.foldl stepT (c,w)=(c,w++i)
 |[],c,w,_=>by simp
 |b::i,c,w,d=>by
  rw[gk];have:stepT (c,w) b=(c,w++[b]):=by delta stepT;rw[ag (by rw[d b b8];decide)]
  rw[this,HE λe f=>d e (cv _ f)];simp
def AH(d:∀b∈i,lK b=am)(c:i≠[]):ix i [i]:=λe=>by rw[HE d,g2];delta f';rw[ag c]
def HF{s:List ak×ak}{y:UInt8}(d:lK y=H):stepT s y=(f' s++[[y]],[]):=by delta stepT;rw[as d]
def nO{e:ak}{c:List ak}(d:ix e c){y:UInt8}(f:lK y=H)(b:List ak)(s:ak):(e++y::s).foldl stepT (b,[])=s.foldl stepT (b++(c++[[y]]),[]):=by rw[z8,gk,HF f,d b,eW]
def RU:lK 40=H:=nofun
def AI:lK 41=H:=nofun
def rm:lK 32=H:=nofun
def AJ(b:List ak)(s:ak):(40::s).foldl stepT (b,[])=s.foldl stepT (b++[[40]],[]):=by rw[gk,HF RU];rfl
def AK(b:List ak):f' (b,[])=b:=rfl
def tm{e b:ak}{c d:List ak}(f:ix e c)(g:ix b d):ix (inBrackets [e,b]) ([40]::(c++([32]::(d++[[41]])))):=λi=>by
 have h:inBrackets [e,b]=40::(e++32::(b++41::[])):=by have:=Y.qs e b [];simpa using this
 rw[h,AJ,nO f rm,nO g AI];show f' (_,[])=_;rw[AK];simp
def v6{e b y:ak}{c d ep:List ak}(f:ix e c)(g:ix b d)(h:ix y ep):ix (inBrackets [e,b,y]) ([40]::(c++([32]::(d++([32]::(ep++[[41]])))))):=λk=>by
 have i:inBrackets [e,b,y]=40::(e++32::(b++32::(y++41::[]))):=by have:=Y.r0 e b y [];simpa using this
 rw[i,AJ,nO f rm,nO g rm,nO h AI];show f' (_,[])=_;rw[AK];simp
def HG{e b y aa:ak}{c d ep f:List ak}(g:ix e c)(h:ix b d)(i:ix y ep)(k:ix aa f):ix (inBrackets [e,b,y,aa]) ([40]::(c++([32]::(d++([32]::(ep++([32]::(f++[[41]])))))))):=λm=>by
 have l:inBrackets [e,b,y,aa]=40::(e++32::(b++32::(y++32::(aa++41::[])))):=by have:=Y.xm e b y aa [];simpa using this
 rw[l,AJ,nO g rm,nO h rm,nO i rm,nO k AI];show f' (_,[])=_;rw[AK];simp
def AL{b:UInt8}(d:Y.tV b):lK b=am:=by delta lK;refine bq ?_;rintro(c|c|c);exact d.1 (.inl c);exact d.1 (.inr c);exact d.2 c
def AM(d:m9 i):ix i [i]:=AH (λb c=>AL (Y.tX (d.o5 b c))) d.eJ
def mJ(d:i∈RESERVED):ix i [i]:=AH (λb c=>AL (Y.tX ((Y.o6 i d).1 b c))) (Y.o6 i d).2
def RV:∀{h:a0},wf h->ix (textOf h) (bX h):=by
 intro h;induction h with
 |num c n=>intro b;exact AH (λd l=>AL (Y.CO (Y.lj b d l))) (Y.qr b)
 |var c k=>intro b;exact AM b
 |fn c k d g=>intro b;exact v6 (mJ ∅) (AM b.1) (g b.2)
 |fst c d g=>intro b;exact tm (mJ ∅) (g b)
 |snd c d g=>intro b;exact tm (mJ ∅) (g b)
 |new c d g=>intro b;exact tm (mJ ∅) (g b)
 |get c d g=>intro b;exact tm (mJ ∅) (g b)
 |app c i d e f=>intro b;exact tm (e b.1) (f b.2)
 |letE c k i d e f=>intro b;exact HG (mJ ∅) (AM b.1) (e b.2.1) (f b.2.2)
 |pair c i d e f=>intro b;exact v6 (mJ ∅) (e b.1) (f b.2)
 |set c i d e f=>intro b;exact v6 (mJ ∅) (e b.1) (f b.2)
 |add c i d e f=>intro b;exact v6 (mJ ∅) (e b.1) (f b.2)
 |ifz c i d o e f m=>intro b;exact HG (mJ ∅) (e b.1) (f b.2.1) (m b.2.2)
def HH{b:UInt8}(d:isSmall b=H):b∈iU:=by have:=(by decide +kernel:∀c:Fin 256,isSmall (mK c.val)=H->mK c.val∈iU) ⟨b.toNat,b.toNat_lt⟩;rw[show mK (⟨b.toNat,b.toNat_lt⟩:Fin 256).val=b from HI]at this;exact this d
def RW{b:UInt8}(d:isDigit b=H):b∈iU:=by have:=(by decide +kernel:∀c:Fin 256,isDigit (mK c.val)=H->mK c.val∈iU) ⟨b.toNat,b.toNat_lt⟩;rw[show mK (⟨b.toNat,b.toNat_lt⟩:Fin 256).val=b from HI]at this;exact this d
def lQ{n:List ak}(d:∀p∈n,gz p):gz (inBrackets n):=by
 have f:∀{n:List ak},(∀p∈n,gz p)->gz (fA n):=by
  intro n;induction n with
  |nil=>intro _ c b;cases b
  |cons e g h=>
   intro d;cases g with
   |nil=>exact d e b8
   |cons i k=>
    intro c b;have b:c∈e++([32]++fA (i::k)):=b;obtain b|b:=bE.mp b;exact d e b8 c b;obtain b|b:=bE.mp b;have:c=32:=by simpa using b
    rw[this];decide +kernel;exact h (λp l=>d p (cv _ l)) c b
 intro c b;have b:c∈40::(fA n++[41]):=b;obtain rfl|b:=bm.mp b;decide +kernel;obtain b|b:=bE.mp b;exact f d c b;have:c=41:=by simpa using b
 rw[this];decide +kernel
def RX:∀i∈RESERVED,gz i:=λi b c d=>HH ((Y.o6 i b).1 c d)
def RY:∀{h:a0},wf h->gz (textOf h):=by
 have f:∀{e c:ak},gz e->gz c->∀l∈[e,c],gz l:=λ{e c} q r l p=>by
  obtain rfl|p:=bm.mp p;exact q;have:l=c:=by simpa using p
  rw[this];exact r
 have n:∀{e:ak} {d:List ak},gz e->(∀l∈d,gz l)->∀l∈e::d,gz l:=λ{e d} q r l p=>by obtain rfl|p:=bm.mp p;exact q;exact r l p
 have s:∀{o:ak},m9 o->gz o:=λb c u=>HH (b.o5 c u);have k:∀{o:ak},o∈RESERVED->gz o:=λb=>RX _ b;intro h;induction h with
 |num d w=>intro b c u;exact RW (Y.lj b c u)
 |var d o=>intro b;exact s b
 |fn d o c m=>intro b;exact lQ (n (k ∅) (f (s b.1) (m b.2)))
 |fst d c m=>intro b;exact lQ (f (k ∅) (m b))
 |snd d c m=>intro b;exact lQ (f (k ∅) (m b))
 |new d c m=>intro b;exact lQ (f (k ∅) (m b))
 |get d c m=>intro b;exact lQ (f (k ∅) (m b))
 |app d e c g i=>intro b;exact lQ (f (g b.1) (i b.2))
 |letE d o e c g i=>intro b;exact lQ (n (k ∅) (n (s b.1) (f (g b.2.1) (i b.2.2))))
 |pair d e c g i=>intro b;exact lQ (n (k ∅) (f (g b.1) (i b.2)))
 |set d e c g i=>intro b;exact lQ (n (k ∅) (f (g b.1) (i b.2)))
 |add d e c g i=>intro b;exact lQ (n (k ∅) (f (g b.1) (i b.2)))
 |ifz d e c x g i v=>intro b;exact lQ (n (k ∅) (n (g b.1) (f (i b.2.1) (v b.2.2))))
def RZ:kX lN:=λc=>⋯
def HJ:Y.cY h↔cZ 0 h:=by delta Y.cY Y.cZ;rw[KV]
def v7(p:ak):mI p=m' p:=by
 have q:∀b,mI p=j b->m' p=j b:=by
  intro b c;unfold mI at c;split at c;rename_i G;cases e:ed 9 lN (hC p) 0 with
  |none=>rw[e]at c;cases c
  |some r=>
   obtain⟨I,f⟩:=r;rw[e,d3]at c;dsimp only at c;split at c;rename_i s;cases c;obtain⟨k,g⟩:=RQ RZ e;have J:=Hh nofun e;refine Y.t2.mpr ⟨⟨(Hu Hv).mpr g.aR,HJ.mpr g.ar,?_,?_⟩,?_⟩;show(labelsOf b).length<=30;have:(labelsOf b).length=de b:=aV _;omega;have:=g.hy;show deepOf b<=8;omega;rw[<-RG,<-AE p,k];have u:f.flatten=[]:=by
    obtain⟨l,v,w⟩:=(Hs p).G7;have x:bX b++f=l++[[]]:=by rw[<-k,v]
    cases f with
    |nil=>rfl
    |cons y h=>
     have z:y=[]:=s;subst z;cases m:h.reverse with
     |nil=>
      have:h=[]:=by simpa using m
      subst this;rfl
     |cons n o=>
      have A:h=o.reverse++[n]:=by have:=dZ List.reverse m;simpa using this
      subst A;have B:(bX b++[]::o.reverse)++[n]=l++[[]]:=by rw[<-x];simp
      exact aq a (w [] (by rw[<-((List.append_inj' B a).1)];simp))
   rw[v3,u,fT];cases c
  cases c
 cases i:m' p with
 |some b=>
  obtain⟨d,rfl⟩:=Y.t2.mp i;have hw:=xk d.qt;delta mI;rw[as (rf.mpr (RY hw))];have C:hC (textOf b)=bX b++[[]]:=by delta hC ft;rw[RV hw []];rfl
  have D:0+de b<=30:=by have:(labelsOf b).length=de b:=aV _;have:=d.eX;show 0+de b<=Vacfaa.NODES;omega
  rw[C,RT (⟨(Hu Hv).mp d.qt,HJ.mp d.ck,Nat.lt_succ_of_le d.KU⟩:kW lN 0 9 b) D,d3];dsimp only;rw[as (show bR [[]]=[]from rfl)]
 |none=>
  cases F:mI p with
  |none=>rfl
  |some b=>rw[q b F]at i;cases i
def fu(l:List (ak×Nat)):cd:=λi=>(l.find? λb=>b.1==i).map λb=>b.2
def HK(l:List (ak×Nat))(i:ak)(n:Nat):bindL (fu l) i n=fu ((i,n)::l):=by funext c;unfold bindL fu;rw[ez];by_cases b:c=i;subst b;simp;rw[ag b];have:(i==c)=am:=fl.mpr (cU b);simp[this]
noncomputable def R0(bD:Nat->Option Nat)(i:a0):a2:=match i with
 | .num _ o=>⟨"number",.aL,[],.int (o:Nat)⟩
 | .var e _=>hh (bD e)
 | .fn _ _ c=>⟨"fun",.aL,[labelOf c],.aL⟩
 | .app _ f d=>⟨"call",.aL,[labelOf f,labelOf d],.aL⟩
 | .letE _ _ b c=>⟨"let",.aL,[labelOf b,labelOf c],.aL⟩
 | .ifz _ g h b=>⟨"if",.aL,[labelOf g,labelOf h,labelOf b],.aL⟩
 | .pair _ d c=>⟨"pair",.aL,[labelOf d,labelOf c],.aL⟩
 | .fst _ b=>⟨"fst",.aL,[labelOf b],.aL⟩
 | .snd _ b=>⟨"snd",.aL,[labelOf b],.aL⟩
 | .new _ b=>⟨"new",.aL,[labelOf b],.aL⟩
 | .get _ b=>⟨"get",.aL,[labelOf b],.aL⟩
 | .set _ d c=>⟨"set",.aL,[labelOf d,labelOf c],.aL⟩
 | .add _ d c=>⟨"add",.aL,[labelOf d,labelOf c],.aL⟩
def R1{bD:Nat->Option Nat}:∀{h:a0} {l:List (ak×Nat)},(∀c∈c8 l h,bD c.1=c.2)->cC (fu l) h=(nodesOf h).map (R0 bD):=by
 intro h;induction h with
 |num f q=>intro l b;rfl
 |var f n=>intro l b;have:=b (f,fu l n) (by simp[c8,fu]);show[hh (fu l n)]=[hh (bD f)];rw[this]
 |fn f n e m=>intro l b;show _::cC (bindL (fu l) n f) e=_;rw[HK,m b];rfl
 |fst f e m=>intro l b;show _::cC (fu l) e=_;rw[m b];rfl
 |snd f e m=>intro l b;show _::cC (fu l) e=_;rw[m b];rfl
 |new f e m=>intro l b;show _::cC (fu l) e=_;rw[m b];rfl
 |get f e m=>intro l b;show _::cC (fu l) e=_;rw[m b];rfl
 |app f g e i k=>intro l b;show _::(cC (fu l) g++cC (fu l) e)=_;rw[i λc d=>b c (g5 _ d),k λc d=>b c (gH _ d),<-cS];rfl
 |letE f n g e i k=>intro l b;show _::(cC (fu l) g++cC (bindL (fu l) n f) e)=_;rw[HK,i λc d=>b c (g5 _ d),k λc d=>b c (gH _ d),<-cS];rfl
 |pair f g e i k=>intro l b;show _::(cC (fu l) g++cC (fu l) e)=_;rw[i λc d=>b c (g5 _ d),k λc d=>b c (gH _ d),<-cS];rfl
 |set f g e i k=>intro l b;show _::(cC (fu l) g++cC (fu l) e)=_;rw[i λc d=>b c (g5 _ d),k λc d=>b c (gH _ d),<-cS];rfl
 |add f g e i k=>intro l b;show _::(cC (fu l) g++cC (fu l) e)=_;rw[i λc d=>b c (g5 _ d),k λc d=>b c (gH _ d),<-cS];rfl
 |ifz f g e o i k p=>intro l b;show _::(cC (fu l) g++(cC (fu l) e++cC (fu l) o))=_;rw[i λc d=>b c (g5 _ d),k λc d=>b c (gH _ (g5 _ d)),p λc d=>b c (gH _ (gH _ d)),<-cS,<-cS];rfl
def HL:∀{h:a0} {l:List (ak×Nat)},((c8 l h).map λk=>k.1).Sublist (labelsOf h):=by
 intro h;unfold dO;induction h with
 |num b n=>intro l;exact List.nil_sublist _
 |var b i=>intro l;exact List.Sublist.refl _
 |fn b i e f=>intro l;exact(f).cons _
 |fst b e f=>intro l;exact(f).cons _
 |snd b e f=>intro l;exact(f).cons _
 |new b e f=>intro l;exact(f).cons _
 |get b e f=>intro l;exact(f).cons _
 |app b g e c d=>intro l;simp only[c8,nodesOf,bz,cS];exact(c.append d).cons _
 |letE b i g e c d=>intro l;simp only[c8,nodesOf,bz,cS];exact(c.append d).cons _
 |pair b g e c d=>intro l;simp only[c8,nodesOf,bz,cS];exact(c.append d).cons _
 |set b g e c d=>intro l;simp only[c8,nodesOf,bz,cS];exact(c.append d).cons _
 |add b g e c d=>intro l;simp only[c8,nodesOf,bz,cS];exact(c.append d).cons _
 |ifz b g e o c d m=>intro l;simp only[c8,nodesOf,bz,cS];exact(c.append (d.append m)).cons _
def R2{n:List (Nat×Option Nat)}(d:(n.map λb=>b.1).Nodup){b:Nat×Option Nat}(c:b∈n):(n.find? λD=>D.1==b.1)=j b:=by
 induction n with
 |nil=>cases c
 |cons f h g=>rw[bz]at d;have e:=e9.mp d;rw[ez];obtain rfl|c:=bm.mp c;simp;have:(f.1==b.1)=am:=fl.mpr λD=>e.1 (by rw[D];exact i8 c);rw[this];exact g e.2 c
def HM(b:Y.cY h):cC lN h=aE h:=by have c:lN=fu []:=rfl;rw[c,R1 (bD:=dH h)];delta aE;apply nc;intro d _;cases d<;>rfl;intro f e;unfold dH rn;rw[R2 (t8 HL b.qq) e];rfl
end e2
namespace Y
open Vacfaa
def AN(i:dT):∃s,aO i=i::s:=by cases i<;>exact⟨_,a⟩
structure dN (m:dT) (l:List (kr×Nat)) (i:dT):Prop where
 HN:∃pre post,aO m=pre++(aO i++post)
 HO:∃pre post,rn m=pre++(c8 l i++post)
 low:∀tn∈l,tn.2<aS i
 cls:et (l.map (λtn=>tn.1)++[d9]) i=H
 len:l.length<=aS i
def dN.R3{m:dT}(d:iG m):dN m [] m:=⟨⟨[],[],by simp⟩,⟨[],[],by simp[rn]⟩,λc b=>(by cases b),d.qt,dC _⟩
variable{D:kr}
section
variable{m i y:dT}{l aM:List (kr×Nat)}
def dN.at_(d:dN m l i)(c:cY m):(aO m)[aS i]?=j i:=by
 obtain⟨pre,post,e⟩:=d.HN;obtain⟨g,f⟩:=AN i;have b:(aO m)[pre.length]?=j i:=by rw[e,f];simp
 have:=c.get b;rw[this];exact b
def dN.nP(d:dN m l i)(e:cY m)(k:∃c ax,aO i=i::(c++(aO y++ax)))(n:∃pre post,c8 l i=pre++(c8 aM y++post))(o:∀b∈aM,b∈l\/b.2=aS i)(p:et (aM.map (λb=>b.1)++[d9]) y=H)(A:aM.length<=l.length+1:=by simp):dN m aM y:=by
 obtain⟨pre,post,f⟩:=d.HN;obtain⟨c,ax,g⟩:=k;obtain⟨B,q⟩:=AN y;have C:=d.at_ e;have D:aS i=pre.length:=e.get (by rw[f,g];simp);have F:aS y=pre.length+1+c.length:=e.get (by rw[f,g,q];simp only[hJ,eW];rw[pr (by omega),show pre.length+1+c.length-pre.length=c.length+1 by omega,N5,pr (bC _),Nat.sub_self];rfl)
 have G:=d.len;refine⟨⟨pre++i::c,ax++post,by rw[f,g];simp[eW]⟩,?_,λb r=>?_,p,by omega⟩;obtain⟨s,u,v⟩:=d.HO;obtain⟨w,x,z⟩:=n;exact⟨s++w,x++u,by rw[v,z];simp[eW]⟩;obtain h|h:=o b r;have:=d.low b h;omega;omega
def R4(e:cY m){n:Nat}{q:Option Nat}(d:(n,q)∈rn m):dH m n=q:=by
 have b:((rn m).map λc=>c.1).Nodup:=t8 e2.HL e.qq;unfold dH;have:(rn m).find? (λc=>c.1==n)=j (n,q):=by
  revert b d;generalize rn m=f;intro d b;induction f with
  |nil=>cases d
  |cons g k h=>rw[bz,e9]at b;obtain i|d:=bm.mp d;subst i;rw[ez,le];have:g.1≠n:=λc=>b.1 (by rw[c];exact cx.mpr ⟨_,d,a⟩);rw[ez,fl.mpr this];exact h d b.2
 rw[this];rfl
theorem dN.var{n:Nat}(d:dN m l (.var n D))(c:cY m):dH m n=(l.find? λb=>b.1==D).map λb=>b.2:=by obtain⟨f,g,e⟩:=d.HO;refine R4 c ?_;rw[e];exact gH _ (g5 _ (y2.mpr a))
end
section
variable{m:dT}{l:List (kr×Nat)}{n:Nat}
theorem dN.fn{b:dT}(d:dN m l (.fn n D b))(f:cY m):dN m ((D,n)::l) b:=by have e:=d.cls;simp only[et,dQ]at e;exact d.nP f ⟨[],[],by simp[aO]⟩ ⟨[],[],by simp[c8]⟩ (λg c=>by obtain rfl|c:=bm.mp c;exact .inr a;exact .inl c) e.2.2
def dN.ll{i e b:dT}(d:dN m l i)(h:cY m)(k:aO i=i::(aO e++aO b))(n:c8 l i=c8 l e++c8 l b)(o:et (l.map (λc=>c.1)++[d9]) i=(et (l.map (λc=>c.1)++[d9]) e&&et (l.map (λc=>c.1)++[d9]) b)):dN m l e/\dN m l b:=by have f:=d.cls;rw[o,dQ]at f;exact⟨d.nP h ⟨[],aO b,by simp[k]⟩ ⟨[],c8 l b,by simp[n]⟩ (λc g=>.inl g) f.1,d.nP h ⟨aO e,[],by simp[k]⟩ ⟨c8 l e,[],by simp[n]⟩ (λc g=>.inl g) f.2⟩
def dN.i'{i e:dT}(d:dN m l i)(c:cY m)(f:aO i=i::aO e)(g:c8 l i=c8 l e)(h:et (l.map (λb=>b.1)++[d9]) i=et (l.map (λb=>b.1)++[d9]) e):dN m l e:=
 d.nP c ⟨[],[],by simp[f]⟩ ⟨[],[],by simp[g]⟩ (λb k=>.inl k) (by rw[<-h];exact d.cls)
def dN.vH{aa b:dT}(d:dN m l (.letE n D aa b))(f:cY m):dN m l aa/\dN m ((D,n)::l) b:=by have e:=d.cls;simp only[et,dQ]at e;exact⟨d.nP f ⟨[],aO b,by simp[aO]⟩ ⟨[],c8 ((D,n)::l) b,by simp[c8]⟩ (λg c=>.inl c) e.2.2.1,d.nP f ⟨aO aa,[],by simp[aO]⟩ ⟨c8 l aa,[],by simp[c8]⟩ (λg c=>by obtain rfl|c:=bm.mp c;exact .inr a;exact .inl c) e.2.2.2⟩
def dN.s1{y p aa:dT}(d:dN m l (.ifz n y p aa))(e:cY m):dN m l y/\dN m l p/\dN m l aa:=by have c:=d.cls;simp only[et,dQ]at c;exact⟨d.nP e ⟨[],aO p++aO aa,by simp[aO]⟩ ⟨[],c8 l p++c8 l aa,by simp[c8]⟩ (λf b=>.inl b) c.1,d.nP e ⟨aO y,aO aa,by simp[aO]⟩ ⟨c8 l y,c8 l aa,by simp[c8]⟩ (λf b=>.inl b) c.2.1,d.nP e ⟨aO y++aO p,[],by simp[aO]⟩ ⟨c8 l y++c8 l p,[],by simp[c8]⟩ (λf b=>.inl b) c.2.2⟩
def dN.ro(d:dN m l (.var n D))(e:l.find? (λb=>b.1==D)=E):D=d9:=by have c:=d.cls;simp only[et,dQ]at c;have:=d1.mp c.2;obtain b|b:=bE.mp this;obtain⟨f,g,h⟩:=cx.mp b;have:=n6.mp e f g;simp[h]at this;simpa using b
structure kj (o:Nat) (l:List (kr×Nat)) (env:Env):Prop where
 v8:env.map (λb=>b.name)=l.map (λtn=>tn.1)++[d9]
 ro:env[l.length]?=j ⟨d9,.num o⟩
def kj.cons{o:Nat}{env:Env}{u:qy}{r:Nat}(d:kj o l env):kj o ((D,r)::l) (⟨D,u⟩::env):=⟨by rw[bz,d.v8,bz,hJ],by simpa using d.ro⟩
def kj.len{o:Nat}{env:Env}(d:kj o l env):env.length=l.length+1:=by have:=dZ nv d.v8;simpa using this
theorem HP{o:Nat}:∀{l:List (kr×Nat)} {env:Env},kj o l env->∀{c:kr×Nat},l.find? (λc=>c.1==D)=j c->∃(af:Nat) (b:Bind),l[af]?=j c/\env[af]?=j b/\lookup env D=b.value
 |[],env,e,c,d=>by cases d
 |f::l,[],e,c,d=>by have:=e.len;simp at this
 |f::l,b::env,e,c,d=>by have i:=e.v8;rw[bz,bz,hJ]at i;have h:=m_ i;by_cases g:f.1=D;rw[ez,show(f.1==D)=H from fz.mpr g]at d;cases d;refine⟨0,b,a,a,?_⟩;unfold lookup;rw[ez,show(b.name==D)=H from fz.mpr (h.1.trans g)];rfl;rw[ez,show(f.1==D)=am from fl.mpr g]at d;obtain⟨af,k,m,n,p⟩:=HP (l:=l) (env:=env) ⟨h.2,by have:=e.ro;simpa using this⟩ d;refine⟨af+1,k,by simpa using m,by simpa using n,?_⟩;rw[<-p];unfold lookup;rw[ez,show(b.name==D)=am from fl.mpr λc=>g (h.1.symm.trans c)]
theorem HQ{o:Nat}:∀{l:List (kr×Nat)} {env:Env},kj o l env->l.find? (λc=>c.1==d9)=E->lookup env d9= .num o
 |[],[],b,_=>by have:=b.len;simp at this
 |[],f::env,b,_=>by have:=b.ro;simp at this;subst this;unfold lookup;rw[ez,show((⟨d9,.num o⟩:Bind).name==d9)=H from fz.mpr a];rfl
 |d::l,[],b,_=>by have:=b.len;simp at this
 |d::l,f::env,b,e=>by
  have g:=b.v8;rw[bz,bz,hJ]at g;have h:=m_ g;have i:d.1≠d9:=λc=>by rw[ez,show(d.1==d9)=H from fz.mpr c]at e;cases e
  rw[ez,show(d.1==d9)=am from fl.mpr i]at e;rw[<-HQ (l:=l) (env:=env) ⟨h.2,by have:=b.ro;simpa using this⟩ e];unfold lookup;rw[ez,show(f.name==d9)=am from fl.mpr λc=>i (h.1.symm.trans c)]
end
end Y
namespace PySem
open Sem (wp)
variable{e:Addr}{bc:Bool->Shared->Prop}
section
variable{prog:Program}{w:World}{K:Type}[DecidableEq K](eT:KeyKind prog w K)
inductive jv (d:Heap):List (List K)->List Value->Prop
 |nil:jv d [] []
 |cons {r:List K} {e:Addr} {aK:List (List K)} {G:List Value}:IsTupleKey eT d r e->jv d aK G->jv d (r::aK) (.ref e::G)
def jw(d:Heap)(aK:List (List K))(e:Addr):Prop:=∃b c f,d.get? e=j b/\b.cls= .type "tuple"/\b.data= .seq c f/\jv eT d aK c.toList
variable{eT}
theorem jv.inj{d:Heap}{i D:List (List K)}{G:List Value}(c:jv eT d i G)(b:jv eT d D G):i=D:=by
 induction c generalizing D with
 |nil=>cases b;rfl
 |cons e _ f=>
  cases b with
  |cons g h=>rw[e.inj g,f h]
theorem jv.keeps{d aY:Heap}{aK:List (List K)}{G:List Value}{aa:Addr}{q:Obj}{ap b}(i:jv eT d aK G)(c:d.get? aa=j q)(e:q.data= .dict ap b)(f:Heap.SameBut aa d aY):jv eT aY aK G:=by
 induction i with
 |nil=>exact .nil
 |cons g _ h=>exact .cons (g.keeps c e f) h
def jw.typeIs{l:Shared}{aK:List (List K)}(i:jw eT l.heap aK e):l.TypeIs (.ref e) "tuple":=let⟨b,_,_,c,d,_⟩:=i;⟨b,c,d⟩
theorem jw.inj{d:Heap}{i D:List (List K)}(c:jw eT d i e)(f:jw eT d D e):i=D:=by obtain⟨g,q,r,h,_,k,l⟩:=c;obtain⟨m,s,u,n,_,b,o⟩:=f;obtain rfl:g=m:=dP (h.symm.trans n);rw[k]at b;injection b with p _;subst p;exact l.inj o
theorem jw.keeps{d aY:Heap}{aK:List (List K)}{aa:Addr}{q:Obj}{ap l}(i:jw eT d aK e)(c:d.get? aa=j q)(f:q.data= .dict ap l)(g:Heap.SameBut aa d aY):jw eT aY aK e:=by
 obtain⟨h,m,n,k,o,b,p⟩:=i;have r:e≠aa:=by rintro rfl;obtain rfl:h=q:=dP (k.symm.trans c);rw[f]at b;exact nomatch b
 exact⟨h,m,n,(g.2 e r).trans k,o,b,p.keeps c f g⟩
def AO(b:KeyKind prog w K)(aK:List (List K)):Int:=reduceHash (Builtin.Tuple.tupleHashOf (aK.map (tupleKeyHash b)))
def rp(aK:List (List K)):Nat:=(aK.map λb=>b.length+1).sum
def HR(aK:List (List K))(r:List K):rp (aK++[r])=rp aK+(r.length+1):=by delta rp;simp
variable{A:Around}{B:Value->Shared->Prop}{l:Shared}
def R5{aK:List (List K)}{b:Int->Shared->Prop}(i:A.units+1<cLine)(o:jw eT l.heap aK e)(d:b (AO eT aK) {l with toks:=l.toks+(rp aK+1)}):
  wpAny (model prog w) A (pyHash (.ref e)) b B l:=by
 have c:=o.typeIs;obtain⟨z,C,D,u,_,v,x⟩:=o;unfold pyHash
 first|unfold pyHashByItsType|skip
 first|refine wpAny_bind (wpAny_cRoomFor_or (.inr (by omega)) ?_)|skip
 refine wpAny_bind (wpAny_specialOf c F.slot_tuple_hash.lookup ?_);show wpAny _ _ (if(j (Value.builtin "tuple.__hash__")==j Value.none)=H then _ else _) b B l;rw[ag (by rw[beq_builtin_none];exact dA)];refine wpAny_bind (wpAny_specialOf c F.slot_tuple_hash.lookup ?_);show wpAny _ _ (callSpecialIfBoundUnlessNone? (.ref e) "__hash__" _>>=_) b B l;refine wpAny_bind (wpAny_callSpecialIfBoundUnlessNone?_slot c F.slot_tuple_hash (wpAny_call_entry F.slot_tuple_hash c F.entry_tuple_hash ?_ (F.args_tuple_hash_1 _)));refine wpAny_bind (m:=Builtin.Tuple.tupleItemsOf (.ref e)) (wpAny_tupleItemsOf u v ?_);refine wpAny_bind ?_;rw[<-HS];refine wpAny_forIn_list _
  (λp (f:Array Int) k=>∃seen g,aK=seen++g/\jv eT l.heap g p/\f.toList=seen.map (tupleKeyHash eT)/\k={l with toks:=l.toks+rp seen})
  _ ?_ ?_ _ _ ⟨[],aK,rfl,x,rfl,rfl⟩
 rintro G p f k ⟨seen,g,rfl,n,h,rfl⟩;cases n with
 | @cons q I r _ y s=>
  refine wpAny_bind (wpAny_pyHash_tuple (knd:=eT) (by first|exact i|exact Nat.lt_of_succ_lt i|(show _+1<cLine;exact i)) y ?_)
  first
   |exact wpAny_pure ⟨seen++[q],r,by simp,s,by simp[h],by simp[HR,v2]⟩
   |exact wpAny_bind (wpAny_pure (wpAny_pure ⟨seen++[q],r,by simp,s,by simp[h],by simp[HR,v2]⟩))
 rintro f k ⟨seen,g,rfl,n,h,rfl⟩;cases n;rw[fT]at d;show wpAny _ _ (retInt (Builtin.Tuple.tupleHashOf f.toList)) _ _ _;rw[h];refine wpAny_ret_mkInt ?_;show wpAny _ _ (if(decide (-(2:Int)^63<=Builtin.Tuple.tupleHashOf (seen.map (tupleKeyHash eT)))&&decide (Builtin.Tuple.tupleHashOf (seen.map (tupleKeyHash eT))<2^63))=H then _ else _) b B _;unfold AO reduceHash at d;by_cases gf:(decide (-(2:Int)^63<=Builtin.Tuple.tupleHashOf (seen.map (tupleKeyHash eT)))&&decide (Builtin.Tuple.tupleHashOf (seen.map (tupleKeyHash eT))<2^63))=H;rw[as gf];rw[as gf]at d;exact wpAny_pure (by simpa[v2]using d);rw[ag gf];rw[ag gf]at d;exact wpAny_bind (wpAny_rule (wpAny_pure (by simpa[v2]using d)))
def R6{i D:List (List K)}{b:Addr}{P:Fin->Shared->Prop}(L:A.units<cLine)(M:jw eT l.heap i e)(u:jw eT l.heap D b)(d:P (.done (.ret (.bool (decide (i=D))))) l):
  wpAny (model prog w) A (Builtin.«tuple.__eq__» ⟨[.ref e,.ref b],[]⟩) P B l:=by
 have N:=u.typeIs;obtain⟨af,h,ah,O,_,Q,R⟩:=M;obtain⟨ai,k,aj,S,_,T,U⟩:=u;show wpAny _ _ (isInstance (.ref b) (.type "tuple")>>=_) _ _ l;refine wpAny_bind (wpAny_isInstance N isSubtype_tuple_tuple ?_);simp only[pY,ig,kK];refine wpAny_bind (wpAny_tupleItemsOf O Q ?_);refine wpAny_bind (wpAny_tupleItemsOf S T ?_);refine wpAny_bind ?_;refine wpAny_forIn_list _
  (λv z m=>z.1=E/\m=l/\∃n o f g,v=List.zip f g/\jv eT l.heap n f/\jv eT l.heap o g/\decide (n=o)=decide (i=D)/\(f.length==g.length)=(h.size==k.size))
  _ ?_ ?_ _ _ ⟨a,a,i,D,h.toList,k.toList,a,R,U,a,by simp⟩
 rintro⟨ak,al⟩ v z m ⟨gf,rfl,n,o,f,g,c,q,p,decEq,r⟩;cases q with
 |nil=>simp at c
 | @cons C an F V W X=>
  cases p with
  |nil=>simp at c
  | @cons G ao I Y Z aa=>
   simp only[List.zip_cons_cons,HT,QE]at c;obtain⟨⟨rfl,rfl⟩,rfl⟩:=c;refine wpAny_bind (wpAny_eqBool_tuple (x:=C) (y:=G) L W Z ?_);by_cases s:C=G;subst s;rw[bw a];simp only[pY,ig,kK];refine wpAny_pure ⟨a,a,F,I,V,Y,a,X,aa,?_,by simpa using r⟩;rw[<-decEq];by_cases J:F=I;simp[J];simp[J];rw[bq s];simp only[HU,kH];have ad:decide (i=D)=am:=by rw[<-decEq];simp[s]
   rw[ad]at d;exact wpAny_bind (wpAny_pure (wpAny_pure (wpAny_pure d)))
 rintro⟨ap,ar⟩ m ⟨gf,rfl,n,o,f,g,c,q,p,decEq,r⟩;simp only at gf;subst gf;refine wpAny_pure ?_;have ae:(h.size==k.size)=decide (i=D):=by
  rw[<-decEq,<-r];cases q with
  |nil=>
   cases p with
   |nil=>simp
   |cons _ _=>simp
  |cons _ _=>
   cases p with
   |nil=>simp
   |cons _ _=>simp at c
 show P (.done (.ret (.bool (h.size==k.size)))) m;rw[ae];exact d
def R7{i D:List (List K)}{b:Addr}(h:A.units+1<cLine)(c:jw eT l.heap i e)(f:jw eT l.heap D b)(d:bc (decide (i=D)) l):
  wpAny (model prog w) A (eqBool (.ref e) (.ref b)) bc B l:=by
 unfold eqBool
 try with_reducible refine wpAny_holding ?_
 show wpAny _ _ (if(Value.ref e==Value.ref b)=H then _ else _) bc B l;by_cases same:(Value.ref e==Value.ref b)=H;rw[as same];have g:e=b:=by have:=eq_of_beq same;injection this
 subst g;obtain rfl:=c.inj f;exact wpAny_bind (wpAny_rule (wpAny_pure (by simpa using d)));rw[ag same];exact wpAny_bind (wpAny_richCompare_same_room (op:=.Eq) c.typeIs f.typeIs F.slot_tuple_eq (wpAny_call_entry F.slot_tuple_eq c.typeIs F.entry_tuple_eq (R6 h c f ⟨_,a,⋯,wpAny_truthy_bool d⟩) (F.args_tuple_eq_2 _ _)) (by omega))
def R8{v:Nat}{aK:List K}(f:IsTupleKey eT l.heap aK e)(d:bc H l):wpAny (model prog w) A (eqIsQuiet (v+1) (.ref e)) bc B l:=by have g:=f.typeIs;obtain⟨s,m,u,n,_,o,p⟩:=f;unfold eqIsQuiet;refine wpAny_bind (wpAny_specialOf g F.slot_tuple_eq.lookup ?_);show wpAny _ _ (isInstance (.ref e) (.type "tuple")>>=_) _ _ l;refine wpAny_bind (wpAny_isInstance g isSubtype_tuple_tuple ?_);simp only[pY,ig,kK];refine wpAny_bind (wpAny_seqItems n o ?_);refine wpAny_bind ?_;show wpAny _ _ (forIn m _ _) _ _ l;rw[<-HS];refine wpAny_forIn_list _ (λh i b=>i.1=E/\b=l/\∀c∈h,carriedByValue c=H) _ ?_ ?_ _ _ ⟨a,a,p.byValue⟩;rintro c h i b ⟨gf,rfl,k⟩;rw[eqIsQuiet_byValue _ (k c b8)];refine wpAny_bind (wpAny_pure ?_);simp only[pY,ig,kK];exact wpAny_pure ⟨a,a,λq r=>k q (cv _ r)⟩;rintro⟨x,y⟩ b ⟨gf,rfl,_⟩;simp only at gf;subst gf;exact wpAny_pure d
def R9{aK:List (List K)}(c:jw eT l.heap aK e)(d:bc H l):wpAny (model prog w) A (eqIsQuiet 8 (.ref e)) bc B l:=by
 have f:=c.typeIs;obtain⟨s,k,u,m,_,n,o⟩:=c;unfold eqIsQuiet;refine wpAny_bind (wpAny_specialOf f F.slot_tuple_eq.lookup ?_);show wpAny _ _ (isInstance (.ref e) (.type "tuple")>>=_) _ _ l;refine wpAny_bind (wpAny_isInstance f isSubtype_tuple_tuple ?_);simp only[pY,ig,kK];refine wpAny_bind (wpAny_seqItems m n ?_);refine wpAny_bind ?_;show wpAny _ _ (forIn k _ _) _ _ l;rw[<-HS];refine wpAny_forIn_list _ (λg h b=>h.1=E/\b=l/\∃i,jv eT l.heap i g) _ ?_ ?_ _ _ ⟨a,a,aK,o⟩;rintro v g h b ⟨gf,rfl,i,p⟩;cases p with
 |cons q r=>refine wpAny_bind (R8 q ?_);simp only[pY,ig,kK];exact wpAny_pure ⟨a,a,_,r⟩
 rintro⟨x,y⟩ b ⟨gf,rfl,_⟩;simp only at gf;subst gf;exact wpAny_pure d
end
def to{g:Program}{w:World}{K:Type}[DecidableEq K](h:KeyKind g w K):HeapKind g w (List (List K))where
 is:=jw h
 hash:=AO h
 draws:=λi=>rp i+1
 room:=λk=>k.units+1<cLine
 inj:=λc d=>c.inj d
 keeps:=λl m n o=>l.keeps m n o
 pyHash:=λe f b=>R5 e f b
 eqBool:=λe c d b=>R7 e c d b
 quiet:=λf b=>R9 f b
end PySem
namespace bT
open PySem PySem.Spec PyProof.Rows
abbrev eU:=List (List bY)
instance YG(r:eU)(n:List eU):Decidable (r∈n):=decidable_of_iff (n.any (λb=>decide (b=r))=H) (by simp)
def gW(aK:List (eU×t)):List eU:=aK.map Prod.fst
noncomputable def iy(aK:List (eU×t)):List (eU×t×ab):=aK.map λb=>(b.1,b.2,r8 H)
def fv(P:cN)(w:cr)(aa:t)(aK:List (eU×t)):aC:=.ext λd=>aK.length<=aD/\(aa==g7)=am/\∃b c e,d.get? aa=j b/\b.ExactDict/\b.data= .dict c e/\c.toList=(iy aK).map (entryOfKey (to (ge P w)))/\(gW aK).Nodup
inductive HV(c:z)(r:eU)(b:t):Prop|mk:∀(d:List t),bA c b (.aF (d.map V.ref))->br (λ(e:List bY) f=>bA c f (.aF (e.map c9))) r d->HV c r b
def jx(c:z)(r:eU)(b:t):Prop:=HV c r b
structure pZ (P:cN) (w:cr) (c:z) (aa:t) (aK:List (eU×t)):Prop where
 at_:bA c aa (fv P w aa aK)
 R_:∀i∈aK,jx c i.1 i.2
noncomputable def putN(aK:List (eU×t))(r:eU)(b:t):List (eU×t):=if r∈gW aK then aK else aK++[(r,b)]
variable{c:z}
def jx.keep{f:z}{r:eU}{b:t}(d:jx c r b)(h:∀e M,bA c e (.aF M)->bA f e (.aF M)):jx f r b:=
 let⟨g,i,k⟩:=d
 ⟨g,h _ _ i,k.aG λ_ _ l=>h _ _ l⟩
variable{P:cN}{w:cr}
theorem HW{d:bM}(b:dK P w c d):∀{r:eU} {f:List t},br (λ(g:List bY) e=>bA c e (.aF (g.map c9))) r f->jv (ge P w) d r (f.map dt)
 |_,_,.nil=>.nil
 |_,_,.cons h i=>.cons (pE b h) (HW b i)
def AP{d:bM}{r:eU}{b:t}(e:dK P w c d)(h:jx c r b):(to (ge P w)).is d r b:=by obtain⟨f,g,i⟩:=h;obtain⟨_,q,k,l,m,n,o,p⟩:=(show ei P w c d b (.aF (f.map V.ref))from g.ok e);have h:=Fd k;subst h;exact⟨l,_,o,m,n,p,by simpa using HW e i⟩
variable{aK:List (eU×t)}
def AQ{d:bM}{aa:t}(b:dK P w c d)(h:pZ P w c aa aK):aK.length<=aD/\(aa==g7)=am/\d.DictOfH (to (ge P w)) aa (iy aK):=by obtain⟨⟨f,g,i,k,l,m,n,o,p,q⟩,_⟩:=(show ei P w c d aa (fv P w aa aK)from h.at_.ok b);refine⟨f,g,i,k,l,m,n,o,p,λe r=>?_,by rw[show(iy aK).map (λe=>e.1)=gW aK by delta iy gW;rw[fU];rfl];exact q⟩;obtain⟨s,u,rfl⟩:=cx.mp r;exact AP b (h.R_ s u)
def R'(aK:List (eU×t)):(iy aK).map (λi=>i.1)=gW aK:=by delta iy gW;rw[fU];rfl
def HX(aK:List (eU×t))(r:eU):(mj (iy aK) r).isSome=decide (r∈gW aK):=by
 unfold mj iy gW;rw[uS];induction aK with
 |nil=>rfl
 |cons c g d=>rw[bz,ez,bz];by_cases b:c.1=r;simp[b];have e:¬r=c.1:=λf=>b f.symm;simp only[bq b];rw[d];simp[e]
def Sa(aK:List (eU×t))(r:eU)(b:t):yH (iy aK) r b (.bool H)=iy (putN aK r b):=by unfold yH putN;rw[HX];by_cases c:r∈gW aK;rw[as (bw c),as c];delta iy;rw[fU];apply nc;intro d _;show putAt r (.bool H) (d.1,d.2,r8 H)=_;unfold putAt;split<;>rfl;rw[ag (by simpa using c),ag c];delta iy;rw[cS];rfl
def Sb(aK:List (eU×t))(r:eU)(b:t):(putN aK r b).length<=aK.length+1:=by delta putN;split;omega;rw[b4,fS];exact bC _
variable{X:bJ}
section
variable{q k h j7:ce}{aT op:Pos}{hU gJ me:bu}
def Sc:a8 X (.Dict [] [] aT) (λ_ c f=>∀m,c m=E->f (.ref m) (U c m (fv X.prog X.w m []))):=λs b u c f d g=>E9 ⟨.ref b.heap.objs.size,_,d.hr (e:=b.heap.objs.size) (q:=fv X.prog X.w b.heap.objs.size []) (cX:=b.toks) (λ_ _ h=>gs _ h) (bC _) ⟨⟨dC _,fl.mpr (cU (gL d.o8)),_,#[],0,hv _ a,⟨a,a,a⟩,a,a,rV⟩,⟨_,hv _ a⟩,λv x ⟨i,k,l,n,o,p,r⟩ st=>⟨i,k,l,n,o,st _ p,r⟩⟩,a,g _ (d.hok.fresh (bC _))⟩
def Sd(P:cN)(w:cr)(h i k:bu):dz:=λl d c=>k d c λm n=>h d n λo p=>i d p λq e=>∃b f aK g,o= .ref b/\q= .ref f/\m= .bl H/\e b=j (fv P w b aK)/\pZ P w e b aK/\jx e g f/\aK.length<aD/\l.bb d (U e b (fv P w b (putN aK g f)))
def Se(r:X.A.units+2<e0)(s:a8 X q hU)(u:a8 X k gJ)(v:a8 X j7 me)(x:pe j7 (j (.Subscript q k op)) aT.line X.env=pure am):fY X (.Assign [.Subscript q k op] j7 aT) (Sd X.prog X.w hU gJ me):=by intro e y b z av B C;refine NH (bB (v e y b z _ B C) λf D ⟨aw,F,G,I,J⟩=>bB (s e D b F _ G J) λK L ⟨ax,M,N,O,P⟩=>bB (u e L b M _ N P) λQ ay ⟨az,R,g,S,c,d,h,i,T,V,W,Y,Z,aa,aA,ad⟩=>?_) x;subst T V W;obtain rfl:K=dt c:=O;obtain rfl:Q=dt d:=S;obtain rfl:f=r8 H:=I;obtain⟨ae,af,ah⟩:=AQ g.hok Z;refine NC (knd:=to (ge X.prog X.w)) (hsz:=by delta iy;rw[aV];exact ae) (show X.A.in1.units+1<e0 from r) (AP g.hok aa) ah λaB p ai=>?_;rw[Sa]at p;obtain⟨l,m,n,o,aj,ak,al,_,an⟩:=p;have aC:=Sb h i d;exact⟨b,U R c (fv X.prog X.w c (putN h i d)),yI g (by rw[Y];exact d5) ai ⟨l,o⟩ (show ei X.prog X.w _ _ _ (fv X.prog X.w c (putN h i d))from⟨⟨by omega,af,l,m,n,o,aj,ak,al,by rw[<-R'];exact an⟩,⟨l,o⟩,λaE aF ⟨ao,ap,ar,m,n,au,f⟩ st=>⟨ao,ap,ar,m,n,st _ au,f⟩⟩),ad⟩
def Sf(n:X.A.units+2<e0)(o:a8 X k gJ)(p:a8 X q hU):r_ X .NotIn k q (λd c l=>gJ d c λD g=>hU d g λi f=>∃e b aK r,i= .ref e/\D= .ref b/\pZ X.prog X.w f e aK/\jx f r b/\l (.bl (!decide (r∈gW aK))) f):=by intro m s d c l u v;refine bB (o m s d c _ u v) λx y ⟨D,g,z,B,C⟩=>bB (p m y d g _ z C) λF P ⟨i,f,h,G,e,b,aK,r,I,J,K,L,M⟩=>?_;subst I J;obtain rfl:F=dt e:=G;obtain rfl:x=dt b:=B;obtain⟨Q,N,O⟩:=AQ h.hok K;refine wpAny_notIn_heap (knd:=to (ge X.prog X.w)) (show X.A.in1.units+1<e0 from n) (AP h.hok L) N O ?_;rw[HX];exact⟨V.bl (!decide (r∈gW aK)),f,h.eM _,a,M⟩
def Sg:j6 X (.builtin "len") (λM c b=>∃e aK,M=[V.ref e]/\pZ X.prog X.w c e aK/\b (.int aK.length) c):=by
 intro v x y c M z b d g h;obtain⟨e,aK,rfl,i,k⟩:=h;obtain⟨A,rfl,l⟩:=vals1 g;cases l;obtain⟨m,n,B,o,C,p,q,r,s,_⟩:=AQ d.hok i;have f:o.size=aK.length:=by rw[uX s];delta iy;rw[aV]
 refine Ga n p q.1 r (by rw[f];rw[ut]at m;omega) λu=>?_;rw[f];exact⟨.int aK.length,c,d.eM _,⟨u,a⟩,k⟩
def Inv.AR{al:List (t×Obj)}{o:St}{l:aJ}{aa:t}{e:Obj}(p:Inv X al o c l)(d:c aa=j (.ci e (fv X.prog X.w aa aK))):
  (aa==g7)=am/\l.heap.get? aa=j e/\e.ExactDict/\∃(ap:Array iL) (f:Nat),e.data= .dict ap f/\ap.size=aK.length/\∀(k:Nat) (r:eU) (b:t),aK[k]?=j (r,b)->∃g:iL,ap[k]?=j g/\g.key= .ref b:=by
 obtain⟨h,⟨y,q,z,ap,f,i,s,u,m,_⟩,_⟩:=p.hok aa _ d;rw[h]at i;cases i;refine⟨q,h,s,ap,f,u,?_,λk r b v=>?_⟩;rw[uX m];delta iy;rw[aV];have n:=entry_at m k;have x:(iy aK)[k]?=j (r,b,r8 H):=by delta iy;rw[d2,v];rfl
 rw[x]at n;exact⟨_,n,a⟩
def tp(P:cN)(w:cr)(aa:t)(b:Obj)(aK:List (eU×t)):jg:=
 ⟨λk c=>c aa=j (.ci b (fv P w aa aK))/\k<aK.length,λk c e f=>f=c/\∃g d,aK[k]?=j (g,d)/\e= .ref d,λk c=>c aa=j (.ci b (fv P w aa aK))/\aK.length<=k⟩
def Sh{K:bG}{cE:ce}{aa:t}{f:Obj}{ap:Array iL}{L:Nat}(aQ:t)(p:f.data= .dict ap L):oj P w K cE (tp P w aa f aK) [aQ] aQ (λk d=>d.IsKeyIter aQ aa k aK.length L)where
 mem:=by simp
 obj:=λk d st b e=>by
  obtain rfl:b=aQ:=by simpa using e
  obtain⟨i,c,M,r⟩:=st;exact⟨i,c,λaw N=>by rw[r]at N;cases N⟩
 keep:=λk d m st n=>st.at λi c=>n aQ (by simp) i c
 item:=by intro X s hw u O k Q l R v x g o st y;subst s hw u;obtain⟨z,A⟩:=y;obtain⟨B,C,W,D,F,G⟩:=o aQ (by simp);obtain⟨Y,I,Z,ad,ae,h,J,S⟩:=g.AR z;obtain⟨rfl,rfl⟩:=uY p h;obtain⟨⟨n,b⟩,T⟩:∃af,aK[k]?=j af:=⟨_,gE A⟩;obtain⟨ah,ai,aj⟩:=S k n b T;refine yR st I h J ai λm U ak=>?_;have al:Inv X Q R v {l with heap:=m}:=g.je (cX:=l.toks) (λb f e c=>(ak.2 b e).trans c) B C D F G;obtain⟨i,c,M,r⟩:=id U;exact⟨ah.key,a,sh (l:={l with heap:=m}) c M r nofun ⟨.ref b,v,al,aj,⟨a,n,b,T,a⟩,U,λb e=>(o b e).1⟩⟩
 done:=by intro X s hw u O k Q l R v x g o st y;subst s hw u;obtain⟨z,A⟩:=y;obtain⟨B,C,W,D,F,G⟩:=o aQ (by simp);obtain⟨Y,I,Z,ad,ae,h,J,S⟩:=g.AR z;obtain⟨rfl,rfl⟩:=uY p h;exact yZ (g.ok.du O) st I h J A λm an=>⟨a,g.je (cX:=l.toks) (λb f e c=>an b f e c) B C D F G⟩
 self:=(N7 (P:=P) (w:=w) (K:=K) (cE:=cE) (aa:=aa) (q:=f) (ap:=ap) (aB:=aK.map λao=>(([]:List bY),V.ref ao.2)) aQ p).self|>λar au k l av x st d=>ar au k l av x (by rw[aV];exact st) d
def Si(P:cN)(w:cr)(f:bu):TI:=λg c R=>f g c λh d=>∃b e aK,h= .ref b/\d b=j (.ci e (fv P w b aK))/\R (tp P w b e aK) d
def Sj{cE:ce}(d:a8 X h hU):lv X cE h (Si X.prog X.w hU):=by intro e f g i R k l;refine bB (d e f g i _ k l) λm n ⟨z,A,b,o,p,B,C,q,r,s⟩=>?_;subst q;obtain rfl:m=dt p:=o;obtain⟨u,v,x,D,F,c,y,G⟩:=b.AR r;refine Fh u v x c (yM (bR:=n.toks) b _ (Sh _ c) ⟨_,hv _ a,a,?_⟩ s);rw[y]<;>rfl
end
inductive HY(K:bG)(i:V)(G:List V)(c:z)(f:aW):Prop|mk:∀b g d e,i= .ref b->G=[.ref g]->c b=j (.L d)->ej K c g e->d.length+e.length<=aD->f .aL (U c b (.L (d++e)))->HY K i G c f
def Sk:uK X "list.extend" (HY X.K):=by
 intro A g B C D F G I J e n o p;obtain⟨f,h,L,M,rfl,rfl,i,q,YH,r⟩:=p;cases n;obtain⟨N,rfl,s⟩:=o.i';cases s;obtain⟨O,b,P,u,Q,d⟩:=e.ps i;obtain⟨c,k,⟨v,l,w,R,x⟩,S⟩:=e.tuple q;have T:=k.length;have y:b.toArray.size+c.toArray.size<=aD:=by rw[eO,eO];omega
 have z:¬(!b.toArray.isEmpty&&uM (b.toArray.size+c.toArray.size))=H:=by rw[EM y,uO];exact dA
 refine sI ov ⟨_,d,a⟩ Nc ?_ (Nd _ _);show a5 _ _ (Sl (.ref f) (.ref h) .none) _ _ g;unfold Sl;refine bv (wpAny_typeOf ⟨v,l,w⟩ ?_);simp only[show(Builtin.List.listSameRef (.ref f) (.ref h)||jb "tuple"==jb "list"||jb "tuple"==jb "tuple")=H by simp,kH];refine bv ?_;unfold Builtin.List.listItems;refine bv (wpAny_seqItems l x (c2 ?_));refine bv ?_;refine bv (wpAny_seqItems d a (c2 ?_));show a5 _ _ (if(!b.toArray.isEmpty&&uM (b.toArray.size+c.toArray.size))=H then _ else _) _ _ g;rw[ag z];refine bv (m:=updateSeq f (·++c.toArray)) (wpAny_updateSeq (hz:=by rw[eO];omega) (_hz':=by rw[Array.size_append];omega) d a ?_);refine c2 ⟨_,a,.aL,_,e.uL (kG:=b++c) i d (by simp) (u.append k) ?_,a,r⟩;rw[b4];omega
section
variable{cc:hz}{r:Nat}{aZ:List Str}{B:bn}{i:Str}{m aT:Pos}{h:ce}{ap:List ce}{p:ba}{k:Nat}
inductive HZ(k:Nat)(e_:t->f2->Prop)(B:bn)(p:ba)(b:bT.St)(c:z)(d:aW):Prop|mk:∀e f,b[k]?=j (j (.ref e))->e_ e f->(p b c λg h=>f g h d B)->HZ k e_ B p b c d
end
section
variable{cc:hz}{r:Nat}{f:t}{ai:hQ}{aZ:List Str}{b0:f2}{B:bn}{i:Str}{m aT:Pos}{h:ce}{ap:List ce}{p:ba}
def tq(f:St->Prop)(cc:hz)(X:bJ)(B:bn):Prop:=∀(g:List (t×Obj)) (b:St) (c:z) (d:aJ) (h:ab) (e:aJ),f b->Inv X g b c d->cc X.stack c d B h e->X.xe h e
def H0{q:St->Prop}(y:bI X.prog X.w X.K X.mg X.base cc r i aZ b0)(C:cV r X.A)(D:gN X i)(G:tq q cc X B)(I:hO X (h::ap) p)(J:(i==("__debug__":Str))=am:=by decide)(L:da (h::ap) X.env=(am,cb h X.env)::da ap X.env:=by rfl)(M:(gq aT (da ap X.env)).any (λN=>N.1)=am:=by rfl):a8 X (.Call (.Name i m) (h::ap) [] aT) (λb c g=>q b/\sr b0 [] B p b c g):=by
 obtain⟨W,Y,F,O,P,Q⟩:=y.ex;intro s R b c g k l;obtain⟨S,l⟩:=l;refine qM (pc k D O ?_ J);refine uy (h₀:=X.base) k.ok.fm.pa P (bB (I aT s R b c _ k l) λd n ⟨u,v,e,o,x⟩=>⟨e.gM,?_⟩) L M;have z:bW (u++[]) (d++[]):=o.append .nil;have T:(d++[]).length=aZ.length:=by rw[<-z.length];exact F.len _ _ _ _ x
 refine Eh (ux (F.run X.A X.stack n v ⟨d,[]⟩ (d++[]) (u++[]) g B C e.yg (Q n d e.gM T) z x) λo U f=>?_);cases o with
 |error h=>exact G s b v n h U S e f
 |ok V=>
  cases V with
  |ret Z=>exact e.yh f
  |next=>exact hu f
  |brk=>exact hu f
  |cont=>exact hu f
end
def H1(f:St->Prop)(cl:bn->dz)(g:t->dz):dz:=λb h c=>cl (λi _ k=>∃d,i= .ref d/\∀e:St,f e->g d b e k) b h c
def Sm{f:St->Prop}{u:List be}{m:pG}{n:List pG}{y:Pos}{cl:bn->dz}{o:t->dz}(z:∀(B:bn) (pn:List (t×Obj)) (p:ab->aJ->Prop),tq f (bh X.prog X.w X.K X.mg) (X.tri pn p) B->sf (a' X.prog X.w) X.A X.env p->fZ (X.tri pn p) u (cl B))(C:q0 X (m::n) o)(q:X.stack=X.env::X.outer)(cA:X.env.frame=j X.env.locals):fY X (.Try u (m::n) [] [] y) (H1 f cl o):=by
 intro g D G I h v J;refine wpAny_Try_except ?_;have L:tq f (bh X.prog X.w X.K X.mg) (X.tri (X.pn++g) (λi M=>a5 (a' X.prog X.w) X.A (pA i X.env) (λ_ N=>a5 (a' X.prog X.w) X.A (u9 i E) (λ_ O=>a5 (a' X.prog X.w) X.A (handleBy i X.env (m::n)) (jJ X g h) X.xe O) X.xe N) X.xe M))
   (λP _ e=>∃b,P= .ref b/\∀c:St,f c->o b h c e):=by
  intro aj c k l i x Q R ⟨r,b,e,s,S,T,⟨ak,U,V⟩,os,W,F⟩;cases U;subst S;have F:gR X.prog X.w X.stack k e l.heap s x r (.ref b):=F;obtain⟨fG,Y⟩:=F.fly;refine FT (env:=X.env) (outer:=X.outer) (by rw[<-q];exact v.ok.frames) cA (by rw[<-q];exact Y) λal Z aa=>?_;refine FU Z λd ad ae=>?_;have af:gR X.prog X.w X.stack k e l.heap s {x with heap:=d} r (.ref b):=F.move (fG:=fG) (by rw[q];exact ad) (aa.trans ae);exact C g l c k h e s _ r b (R.im:Inv X g c k l) af os W T (V c Q)
 refine h_ (z _ _ _ L Pq [] D G I h v.tri J) (λah an d=>?_) λ_ _ ai=>ai;cases ah with
 |next=>exact sc d.im
 |brk=>exact d.im
 |cont=>exact d.im
 |ret ao=>exact d.im
def Sn:kF X "str.splitlines" (λi M c f=>∃e,i= .str e/\M=[]/\e.length<=aD/\(tr e).length<=aD/\u3 (mL e) c f):=by
 intro o b p c i M v w f h q s d;obtain⟨e,rfl,rfl,u,k,d⟩:=d;obtain⟨l,rfl⟩:=q;cases s;refine qR So (qQ _ _ _) F.entry_str_splitlines (F.args_str_splitlines_1 _) (meets_str_splitlines e l u k) ?_;show if _ then _ else _
 by_cases g:(tr e==[(0,e.length)])=H;rw[as g];have m:mL e=[e]:=by unfold mL;rw[(eq_of_beq g:tr e=[(0,e.length)])];show[oB e 0 e.length]=[e];rw[PyProof.Rows.strSub_whole]
 exact sL (n:=[(e,l)]) (r:=b.toks) h m.symm (by rw[m];show 1<=aD;decide) d;rw[ag g];show fC X o p f (.ref b.heap.objs.size) {b with toks:=_,heap:=b.heap.push {cls:=.type "list",data:=.seq (strsFrom b.toks (mL e)).toArray}};rw[strsFrom_eq];exact sL h (numbered_texts _ _) (by unfold mL;rw[aV];exact k) d
end bT
namespace e2
open PySem PySem.Spec PyProof.Rows bT
abbrev rq:t:=310
abbrev oR:t:=371
abbrev AS:t:=522
abbrev v9:t:=535
abbrev AT:t:=548
abbrev AU:t:=561
abbrev e6:t:=581
structure hl (K:bG) (mg:Str->Option ab):Prop where
 H2:ij K mg "NoNode" v9
 H3:ij K mg "NoInput" AS
 ns:ij K mg "NoSort" AT
 ok:ij K mg "OtherKind" AU
 hF:ha K e6
 fQ:eN K e6 "table"
 Sp:∃p,mg "LARGEST_INPUT"=j (.int 9 p)
 Sq:∃p,mg "FIRST_PROGRAM"=j (.str "0" p)
 AV:∃p,mg "NUMBER"=j (.int 0 p)
 v_:mg "list"=E
structure gj (c:z) (df:t) (h:a0) (p:t) (A:c4) (ir:av->List aI):Prop where
 az:∃a4,c df=j (.az e6 a4 [("table",.ref p)])
 tab:fN c p (aE h) A ir
 L:kT (aE h) ir
 dn:Y.iG h
variable{c O:z}{h:a0}{aj:av->List aI}
theorem gj.same{df:t}{p:t}{b:c4}(d:gj c df h p b aj)(l:Q c O):gj O df h p b aj:=
 ⟨let⟨e,f⟩:=d.az;⟨e,l _ _ f⟩,d.tab.same l,d.L,d.dn⟩
def bS(n:List Int):List V:=n.map V.int
def p0(n:List Int):(bS n).length=n.length:=aV _
abbrev AW:be:=b3 94
inductive ts(G:List V)(c:z)(d:aW)(B:bn):Prop|mk:∀(e i:t) (b:Int) (h:a0) (k:c4) (l:av->List aI),G=[.ref e,.int b]->gj c e h i k l->(∀(f:t) (g:a2),0<=b->(aE h)[b.toNat]?=j g->q5 c f g->d (.ref f) c)->((b<0\/(aE h)[b.toNat]?=E)->B (.ref v9) E c)->ts G c d B
abbrev AX:be:=b3 95
inductive rr(K:bG)(G:List V)(c:z)(f:aW)(B:bn):Prop|mk:∀(g k i:t) (b:Int) (h:a0) (l:c4) (m:av->List aI) (e:List Str),G=[.ref g,.int b,.ref i]->gj c g h k l m->ej K c i (e.map V.str)->(∀d,0<=b->(aE h)[b.toNat]?=j d->d.kind∈e->f .aL c)->(∀d,0<=b->(aE h)[b.toNat]?=j d->d.kind∉e->B (.ref AU) E c)->((b<0\/(aE h)[b.toNat]?=E)->B (.ref v9) E c)->rr K G c f B
inductive H4(c:z)(b:List Int)(u:V):Prop|mk:∀d,u= .ref d->bA c d (.aF (b.map V.int))->H4 c b u
def gX(c:z)(b:List Int)(u:V):Prop:=H4 c b u
theorem gX.same{b:List Int}{u:V}(l:Q c O)(d:gX c b u):gX O b u:=let⟨e,f,g⟩:=d;⟨e,f,g.same l⟩
abbrev AY:be:=b3 98
def kY(f4:List (List Int)):List Int:=(f4.length:Int)::f4.flatten
inductive rs(G:List V)(c:z)(e:aW)(h:bn):Prop|mk:∀(f:t) (g:List V) (b:List (List Int)),G=[.ref f]->c f=j (.L g)->br (gX c) b g->b.length<=4000->(∀i∈b,i.length<=4)->(∀(O:z) (d:t),Q c O->c d=E->O d=j (.L (bS (kY b)))->e (.ref d) O)->rs G c e h
abbrev AZ:be:=b3 99
def rt(e:aI):List Int:=[ep e,(ck e:Nat)]
inductive ru(G:List V)(c:z)(e:aW)(i:bn):Prop|mk:∀(f k:t) (x:V) (h:a0) (l:c4) (g:av->List aI) (b:av),G=[.ref f,x]->gj c f h k l g->b1 c b x->b∈a_ (aE h)->(∀(O:z) (d:t),Q c O->c d=E->O d=j (.L (bS (kY ((b6 (bp (aE h)) (g b)).map rt))))->e (.ref d) O)->ru G c e i
abbrev A0:be:=b3 100
def jy(b:List a2)(aj:av->List aI):List (Nat×Nat):=(dS b "call").flatMap λc=>match b[c]? with
 |some d=>((b6 (bp b) (aj (.node (dv d 0)))).filterMap (fM 1)).map λe=>(c,e)
 |none=>[]
def nQ(m:Nat×Nat):List Int:=[(m.1:Nat),(m.2:Nat)]
inductive tt(G:List V)(c:z)(e:aW)(i:bn):Prop|mk:∀(f:t) (b:List a2) (k:c4) (g:av->List aI),G=[.ref f]->fN c f b k g->Good b->(∀(O:z) (d:t) (h:List V),Q c O->c d=E->O d=j (.L h)->br (gX O) ((jy b g).map nQ) h->e (.ref d) O)->tt G c e i
def Sr{f4:List (List Int)}(d:∀b∈f4,b.length<=4):f4.flatten.length<=4*f4.length:=by
 induction f4 with
 |nil=>simp
 |cons c g e=>rw[pQ,b4,cy];have h:=d c b8;have i:=e λb f=>d b (cv _ f);omega
variable{P:cN}{w:cr}{K:bG}{mg:Str->Option ab}{base:bM}{f:t}{ai:hQ}
def H5:b2 ["flows","label","nodes"] Zl (bo AW):=⟨a,a,a,∅,a,∅,∅⟩
def Ss(F:bO K "look_up" "look_up" AW f ai)(T:cT K mg)(ba:hl K mg):bd P w K mg base (bh P w K mg) 1 f ai Zl ts:=by refine F.okE H5 (λq r s B c=>?_) (λO u Q R r q s B v c=>?_);obtain⟨l,m,b,e,u,y,rfl,_⟩:=c;rfl;obtain⟨l,m,b,e,g,y,rfl,h,z,n⟩:=c;refine⟨_,ay (bZ (k:=2) H5.nd a (aU a) (a1 (a1 (x 0) a) a)) (ay (cp (ht.lq (og (b7 qI (x 1) bt (cf _)) (pd (b7 Ma (x 1) (en fE a T.eP e3 (I (x 2) ae)) (cf _))))) (aA (ik (B:=B) ba.H2 (il (λ_ _ _ c=>c)) v.du a)) cO) (aA (bx (bU cj (x 2) (x 1) (λ_ _=>rfl))))),?_⟩;obtain⟨A,C⟩:=h.az;obtain⟨S,o,D,G⟩:=h.tab.eX;refine⟨_,a,l,e6,A,_,_,a,C,ba.hF,ba.fQ,a,m,b_,g.a4,_,_,a,h.tab.az,T.dV,T.iO,a,?_⟩;refine⟨_,a,_,_,a,a,_,a,?_⟩;dsimp only;by_cases i:b<0;rw[bw i];exact cm (cm (n (.inl i)));rw[bq i];refine cq ⟨_,a,_,a,g.cs,_,a,.inl (an.au o),_,_,a,a,_,a,?_⟩;rw[aV,D];by_cases J:(aE e).length<=b.toNat;rw[bw (by omega)];exact cm (n (.inr (yE J)));rw[bq (by omega)];obtain⟨d,p⟩:∃d,(aE e)[b.toNat]?=j d:=⟨_,gE (by omega)⟩;obtain⟨L,M,N⟩:=G _ d p;refine cq ⟨_,a,_,a,g.cs,_,_,_,a,a,an.au o,?_,z L d (by omega) p N⟩;rw[(by omega:b=((b.toNat:Nat):Int))];exact dj (by rw[d2,M];rfl)
def Su:b2 Y3 Y3 (bo AX):=⟨a,a,a,∅,a,∅,∅⟩
theorem H6(r:Str):∀aK:List Str,kI (.str r) (aK.map V.str)=decide (r∈aK)
 |[]=>by simp[kI]
 |d::e=>by have b:=H6 r e;unfold kI at b|-;rw[bz,mh,b,q9];by_cases c:r=d;simp[c];simp[c]
def Sv(F:bO K "require_kind" "require_kind" AX f ai)(T:cT K mg)(ba:hl K mg)(q:bI P w K mg base (bh P w K mg) 1 "look_up" Zl ts):bd P w K mg base (bh P w K mg) 2 f ai Y3 (rr K):=by refine F.okE Su (λr s u B b=>?_) (λR v S U s r u B e b=>?_);obtain⟨g,h,i,k,l,v,m,n,rfl,_⟩:=b;rfl;obtain⟨g,h,i,k,l,y,m,n,rfl,z,A,C,D,G⟩:=b;refine⟨_,aA (cp (b7 M8 (a1 (bP (B:=B) q e a (dF (λ_ _ _ b=>b)) (I (x 0) (I (x 1) ae))) a) (x 2) a) (aA (ik (B:=B) ba.ok (il (λ_ _ _ b=>b)) e.du a)) cO),?_⟩;refine⟨_,a,_,a,g,h,k,l,y,m,a,z,λJ d o p L=>?_,λb=>G b⟩;obtain⟨M,V,N,O,Q,W,X,Y⟩:=L;refine⟨J,cW,M,N,_,a,O,T.dB,T.fh,Q,_,a,i,_,a,.inr A,a,(by rw[Q_];exact l4.mpr λ_ _=>rfl),_,a,?_⟩;rw[as a,H6];by_cases c:d.kind∈n;rw[bw c];exact cq (C d o p c);rw[bq c];exact cm (D d o p c)
def A1:b2 ["things","told","thing"] Zv (bo AY):=⟨a,a,a,∅,a,∅,∅⟩
inductive H7(c:z)(n:t)(f4:List (List Int))(b:t)(k:Nat)(e:bT.St)(d:z):Prop|mk:∀f,e=[j (.ref n),j (.ref b),f]->Q c d->d b=j (.L (bS ((f4.length:Int)::(f4.take k).flatten)))->H7 c n f4 b k e d
def Sw(F:bO K "tell_each" "tell_each" AY f ai)(T:cT K mg):bd P w K mg base a7 1 f ai Zv rs:=by refine F.ok A1 (λz r A B h=>?_) (λU W X Y r z A B Z h=>?_);obtain⟨b,i,f4,rfl,_⟩:=h;rfl;obtain⟨b,i,f4,rfl,l,m,aa,s,C⟩:=h;refine⟨_,ay (bZ (k:=1) A1.nd a (aU a) (dR (I (en fE a T.eP e3 (I (x 0) ae)) ae))) (ay (fg gx a (dU (x 0)) (cF (k:=2) A1.nd a (aU a)) (aA (c' (fF fK ov ra Sk (x 1) (I (x 2) ae))))) (aA (bx (x 1)))),?_⟩;refine⟨_,a,b,_,a,.inl (an.au l),YS,λn o=>?_⟩;have u:=Q.fresh (q:=aC.L [.int (i.length:Nat)]) o;refine⟨_,a,b,a,⟨_,an.au (u _ _ l)⟩,?_⟩;refine g' (K:=K) (e:=b) (M:=i) (H7 r b f4 n) ⟨E,a,u,?_⟩ (λk v p _ ⟨_,_,d,_⟩=>an.au (d _ _ l)) ?_ ?_;rw[aw,<-m.length];rfl;rintro k ad v p D ⟨G,rfl,g,c⟩;obtain⟨d,y,J,rfl,N⟩:=m.fq D;have O:=Sr (f4:=f4.take k) λR S=>s R (H8 S);rw[ic]at O;refine⟨_,a,.inl ⟨a,_,an.au c⟩,_,a,n,J,_,d.map V.int,a,a,c,.inl (N.same g),?_,?_⟩;rw[p0,cy,aV];have:=s d (ev y);exact fX (jo (show _<=17000 by omega) nofun);refine⟨_,a,g.bK o,?_⟩;rw[aw,eF y,v3];delta bS;simp;rintro v p ⟨G,rfl,g,c⟩;rw[<-m.length,f8]at c;exact⟨_,a,C p n g o c⟩
def Sx:b2 Zm Zm (bo AZ):=⟨a,a,a,∅,a,∅,∅⟩
def Sy{n:List aI}{aN:List V}(d:br (d' c) n aN):br (gX c) (n.map rt) aN:=by
 induction d with
 |nil=>exact .nil
 |cons e _ f=>obtain⟨g,h,b⟩:=e;rw[rc]at b;exact .cons ⟨g,h,b⟩ f
def Sz(F:bO K "tell_set" "tell_set" AZ f ai)(T:cT K mg)(ba:hl K mg)(o:bI P w K mg base a7 1 "tell_each" Zv rs)(p:eE P w K mg base a7 2 b_ "sorts_at" Zp oJ):bd P w K mg base a7 3 f ai Zm ru:=by refine F.ok Sx (λq r s B c=>?_) (λU u V W r q s B i c=>?_);obtain⟨k,d,x,e,u,g,h,rfl,_⟩:=c;rfl;obtain⟨k,d,X,e,l,g,h,rfl,b,v,y,z⟩:=c;refine⟨_,aA (bx (bP (B:=b9) o (i.aG nofun) a bN (I (fI (B:=b9) p (a1 (x 0) a) i bN (I (x 1) ae)) ae))),?_⟩;obtain⟨A,C⟩:=b.az;have m:=jV b.dn;refine⟨_,a,k,e6,A,_,_,a,C,ba.hF,ba.fQ,a,d,l.a4,_,a,b.tab.az,a,_,a,d,_,aE e,_,_,l,g,h,a,b.tab,v,y,f_ m.len,λY D G n Z J L=>?_⟩;have aa:(b6 (bp (aE e)) (g h)).length<=31:=b5 (hW _ _) (f_ m.len);refine⟨D,G,_,a,J,Sy L,by rw[aV];omega,λad M=>?_,λN O Q R S=>z N O (n.trans Q) (n.free R) S⟩;obtain⟨af,_,rfl⟩:=cx.mp M;exact(by decide:2<=4)
def rv:b2 ["table","arrows","label","called","made"] Zx (bo A0):=⟨a,a,a,∅,a,∅,∅⟩
inductive H9(c:z)(p:t)(d:List a2)(e f:t)(g:Nat->List (Nat×Nat))(k:Nat)(h:bT.St)(b:z):Prop|mk:∀l m n i,h=[j (.ref p),j (.ref e),l,m,n]->Q c b->b f=j (.L (b' (dS d "call")))->(b e=j (.L i)/\br (gX b) ((((dS d "call").take k).flatMap g).map nQ) i)->H9 c p d e f g k h b
def SA(F:bO K "list_arrows" "list_arrows" A0 f ai)(T:cT K mg)(a9:bI P w K mg base a7 2 "labels_of_kind" Zo vx)(a_:eE P w K mg base a7 3 b_ "labels_at" Y_ sZ):bd P w K mg base a7 4 f ai Zx tt:=by
 refine F.ok rv (λba n bb B o=>?_) (λcq bc ct z n ba bb B ax o=>?_);obtain⟨r,b,bc,l,rfl,_⟩:=o;rfl;obtain⟨r,b,s,l,rfl,aB,p,bf⟩:=o;obtain⟨cu,bg⟩:=T.lE;obtain⟨cw,bh⟩:=T.vt;refine⟨_,ay (bZ (k:=1) rv.nd a (aU a) (dR ae)) (ay (fg gx a (dU (bP (B:=b9) a9 (ax.aG nofun:cV 2 _) a bN (I (a1 (x 0) a) (I c_ ae)))) (cF (k:=2) rv.nd a (lA a)) (ay (bZ (k:=3) rv.nd a (aU a) (cP (I (bQ a bg (u:=.int 0) ⟨_,a⟩) (I (bU cj (a1 (bU cj (a1 (x 0) a) (x 2) (λ_ _=>rfl)) a) bt (λ_ _=>rfl)) ae)))) (aA (c' (fF fK ov ra qS (x 1) (I (hV (own:=[("made",4)]) (g:=d0 4) (cK:=hd) (bj:=hP (dx (cD 2) (dx (cD 4) e1))) a rv.nd (dU (fI (B:=b9) a_ (x 0) ax bN (I (x 3) (I (bQ a bh (u:=.int 1) ⟨_,a⟩) ae)))) (f6 a) (λz n aE aI aK=>cF (k:=4) rv.nd a (aU a)) (λz n aE aI aK=>jk) (λz n aE aI aK=>cP (I (x 2) (I (x 4) ae)))) ae)))))) (aA (bx (x 1)))),?_⟩;refine⟨YR,λA Z=>?_⟩;have aL:=Q.fresh (q:=aC.L []) Z;have aM:=aB.same aL;refine⟨_,a,r,b_,s.a4,_,_,a,aM.az,T.dV,T.iO,a,s.cs,"call",b,a,aM.eX,p.len,λbi O aN aa aP=>⟨O,a,⟨_,an.au aP⟩,?_⟩⟩;have lk:(dS b "call").length<=30:=b5 (ip _ _) p.len
 let v:Nat->List (Nat×Nat):=λm=>match b[m]? with
  |some i=>((b6 (bp b) (l (.node (dv i 0)))).filterMap (fM 1)).map λh=>(m,h)
  |none=>[]
 have bk:∀m,(v m).length<=31:=λm=>by
  show(match b[m]? with|some i=>((b6 (bp b) (l (.node (dv i 0)))).filterMap (fM 1)).map λh=>(m,h)|none=>[]).length<=31;cases b[m]? with
  |none=>exact dC _
  |some i=>rw[aV];exact b5 (hW _ _) (b5 (hW _ _) (f_ p.len))
 have bl:∀S:List Nat,(S.flatMap v).length<=31*S.length:=λS=>by
  induction S with
  |nil=>simp
  |cons e W cA=>rw[ds,b4,cy];have:=bk e;omega
 refine g' (K:=K) (e:=O) (M:=b' (dS b "call")) (H9 n r b A O v)
  ⟨E,E,E,[],a,(aL.trans aN:Q n bi),aP,aN _ _ aw,by simpa using br.nil⟩ (λk aR C _ ⟨_,_,_,_,_,_,c,_⟩=>an.au c) ?_ ?_
 rintro k cB aR C bn ⟨bo,bs,bu,D,rfl,y,aT,ad,G⟩;obtain⟨m,X,rfl⟩:=jR bn;have ah:=aB.same y;obtain⟨af,bB,Y⟩:=eV.mp (ev X);have bD:lF b "call" af=H/\af=m:=by by_cases c:lF b "call" af=H;rw[as c]at Y;exact⟨c,dP Y⟩;rw[ag c]at Y;cases Y
 obtain⟨aj,rfl⟩:=bD;obtain⟨i,J⟩:∃i,b[af]?=j i:=⟨_,gE (jH.mp bB)⟩;have bF:i.kind="call":=by unfold lF at aj;rw[J]at aj;simpa using aj
 obtain⟨d,bH,ak⟩:=(p.ok af i J).call bF;have bJ:dv i 0=d:=by delta dv;rw[ak];rfl
 have bL:d<b.length:=p.GC af i J d (by rw[ak];simp);obtain⟨cC,bR,cE,bS⟩:=ah.eX;obtain⟨e,bT,bV,bW,bX,bY,cG,cH,b0,b2⟩:=bS af i J;refine⟨_,a,r,b_,s.a4,_,_,a,ah.az,T.dV,T.iO,a,_,a,s.cs,_,_,_,a,a,an.au bR,dj (by rw[d2,bT];rfl),e,cW,bV,bX,_,a,bY,T.dB,T.lD,b0,bW,_,_,_,a,a,an.au b2,(by rw[ak];exact dj (af:=0) (M:=b' [d,bH]) (u:=V.int (d:Nat)) a),YT,λaW b3=>?_⟩;have al:=Q.fresh (q:=aC.aF [.int 0,.int (d:Nat)]) b3;have aX:=ah.same al;have aY:=al _ _ ad;refine⟨_,a,.inl ⟨a,_,an.au aY⟩,_,a,r,s.a4,_,a,aX.az,a,_,a,r,_,1,b,_,_,s,l,.node d,a,aX,(eQ a:b1 (U C aW (.aF [.int 0,.int (d:Nat)])) (.node d) (.ref aW)),iS bL,f_ p.len,λcI aZ a0 cJ a2=>⟨aZ,a,⟨_,an.au a2⟩,?_⟩⟩;intro b7 ca;have cc:((b6 (bp b) (l (.node d))).filterMap (fM 1)).length<=31:=b5 (hW _ _) (b5 (hW _ _) (f_ p.len));refine iN (K:=K) (e:=aZ) (M:=b' ((b6 (bp b) (l (.node d))).filterMap (fM 1))) (R:=gX) (aQ:=λk=>(((b6 (bp b) (l (.node d))).filterMap (fM 1))[k]?).map λh=>nQ (af,h)) (λ_ _ _ _ z o=>gX.same z o)
  (λn a3 u q o X W D=>by obtain⟨cL,rfl⟩:=X;obtain⟨ao,ap,N⟩:=W;exact⟨ao,ap,N.other (e2.bA.eJ N o ⋯ (λ_=>⋯))⟩) (λC y=>an.au (y _ _ a2)) (by delta b';rw[aV];exact c1 (by omega)) ca ?_ ?_
 intro cM cO cQ cX cY cd cZ cf _;obtain⟨h,cg,rfl⟩:=jR cd;refine⟨a,mu ?_⟩;refine⟨_,a,_,a,YT,λa3 ci=>cf _ _ (nQ (af,h)) (Q.fresh ci) (by rw[cg];rfl) ⟨a3,a,.inl aw⟩⟩;intro ck cl a6 cm ar;have cn:(er (b' ((b6 (bp b) (l (.node d))).filterMap (fM 1))).length).filterMap (λk=>(((b6 (bp b) (l (.node d))).filterMap (fM 1))[k]?).map λh=>nQ (af,h))=((b6 (bp b) (l (.node d))).filterMap (fM 1)).map λh=>nQ (af,h):=by delta b';rw[aV];exact ms _ _
 rw[cn]at ar;have co:(v af).map nQ=((b6 (bp b) (l (.node d))).filterMap (fM 1)).map λh=>nQ (af,h):=by show((match b[af]? with|some i=>((b6 (bp b) (l (.node (dv i 0)))).filterMap (fM 1)).map λh=>(af,h)|none=>[]).map nQ)=_;rw[J];dsimp only;rw[bJ,fU];rfl
 have a8:ck A=j (.L D):=a6 _ _ (a0 _ _ aY);have c0:D.length<=930:=by rw[<-G.length,aV];have:=bl ((dS b "call").take k);rw[ic]at this;omega
 have c3:cl.length<=31:=by rw[<-ar.length,aV];exact cc
 refine⟨A,b7,_,_,a,a,a8,cm,fX (c1 (by omega)),?_⟩;have av:=(al.trans a0).trans a6;have cp:O≠A:=λc=>by rw[c]at aa;rw[aw]at aa;cases aa
 refine⟨_,_,_,_,a,(y.trans av).bK Z,by rw[aH cp];exact av _ _ aT,aw,?_⟩;rw[eF X,lG,cS];rw[(by simp:([af].flatMap v)=v af),co];refine((G.aG λ_ _ c=>gX.same av c).append ar).aG λc u W=>?_;obtain⟨ao,ap,N⟩:=W;exact⟨ao,ap,N.other (e2.bA.eJ N a8 ⋯ (λ_=>⋯))⟩;rintro aR C ⟨bo,bs,bu,D,rfl,y,aT,ad,G⟩;have c:(b' (dS b "call")).length=(dS b "call").length:=aV _;rw[c,f8]at G;exact⟨_,a,bf C A D y Z ad G⟩
abbrev Cl:=Vacfab.Call
def cQ(h:a0):Vacfab.State:=⟨h,cz h⟩
noncomputable def A2(o:Nat):t:=if o=2 then AS else if o=3 then v9 else if o=4 then AT else if o=5 then AU else kc
variable{bf:List a2}{n:Nat}
def A3:h7 n∈a_ bf↔∃o,bf[n]?=j o/\(o.kind="fun"\/o.kind="let"):=by delta a_ iP iQ;simp only[bE,eV,cR,cx,jH];constructor;rintro(((⟨e,_,b⟩|⟨e,f,b⟩)|⟨e,_,b⟩)|⟨e,_,b⟩);cases b;split at b;rename_i c;cases b;unfold oI at c;have c:=iF c;obtain⟨o,d⟩:∃o,bf[n]?=j o:=⟨_,gE f⟩;rw[d]at c;exact⟨o,d,by simpa using c⟩;cases b;simp at b;cases b;rintro⟨o,d,g⟩;refine .inl (.inl (.inr ⟨n,(es.mp d).1,?_⟩));rw[as];delta oI;rw[d];exact bw (by simpa using g)
def tu{r:Str}:n∈dS bf r↔∃o,bf[n]?=j o/\o.kind=r:=by delta dS;simp only[eV,jH];constructor;rintro⟨g,e,d⟩;split at d;rename_i b;cases d;unfold lF at b;have b:=iF b;obtain⟨o,c⟩:∃o,bf[n]?=j o:=⟨_,gE e⟩;rw[c]at b;exact⟨o,c,by simpa using b⟩;cases d;rintro⟨o,c,f⟩;refine⟨n,(es.mp c).1,?_⟩;rw[as];delta lF;rw[c];exact bw (by simpa using f)
def rx:k' n∈a_ bf↔n∈dS bf "pair":=by
 delta a_ iP iQ;simp only[bE,eV,cR,cx,jH];constructor;rintro(((⟨c,_,b⟩|⟨c,d,b⟩)|⟨c,d,b⟩)|⟨c,_,b⟩);cases b;split at b<;>cases b;have:n=c:=by simpa using b
 rw[this];exact d;cases b;intro b;exact .inl (.inr ⟨n,b,by simp⟩)
def v':tO n∈a_ bf↔n∈dS bf "pair":=by
 delta a_ iP iQ;simp only[bE,eV,cR,cx,jH];constructor;rintro(((⟨c,_,b⟩|⟨c,d,b⟩)|⟨c,d,b⟩)|⟨c,_,b⟩);cases b;split at b<;>cases b;have:n=c:=by simpa using b
 rw[this];exact d;cases b;intro b;exact .inl (.inr ⟨n,b,by simp⟩)
def A4:la n∈a_ bf↔n∈dS bf "new":=by delta a_ iP iQ;simp only[bE,eV,cR,cx,jH];constructor;rintro(((⟨c,_,b⟩|⟨c,d,b⟩)|⟨c,d,b⟩)|⟨c,d,b⟩);cases b;split at b<;>cases b;simp at b;cases b;exact d;intro b;exact .inr ⟨n,b,a⟩
theorem H_(b:Y.cY h)(n:Int)(f:a0->wa):nR (cQ h) n f=if n<0 then .error 3 else match(aO h)[n.toNat]? with
  |some c=>f c
  |none=>.error 3:=by
 unfold nR;show(if n<0 then _ else nS (xh h n.toNat) 3 f)=_;rw[b.nodeAt];split;rfl;cases(aO h)[n.toNat]?<;>rfl
def ry(m:av)(f:Unit->wa):oS (cQ h) m f=if m∈ch h then f ()else .error 5:=by
 unfold oS;show(if(ch h).contains m=am then _ else _)=_;by_cases b:m∈ch h;rw[as b,ag (by rw[d1.mpr b];decide)];rw[ag b,as];cases c:(ch h).contains m with
 |false=>rfl
 |true=>exact aq (d1.mp c) b
def told_set(n:List aI):bS (kY (n.map rt))=b' (iX n):=by
 unfold kY iX bS b';rw[aV,bz,bz];congr 1;induction n with
 |nil=>rfl
 |cons b d c=>rw[bz,pQ,cS,ds,cS,c];congr 1;cases b<;>rfl
variable{m:av}
def rz(b:Y.cY h)(c:∀m∈a_ (aE h),∀e∈aj m,e∈bp (aE h))(d:kT (aE h) aj)(f:m∈a_ (aE h)):bS (kY ((b6 (bp (aE h)) (aj m)).map rt))=b' (iX (ee (cz h) m)):=by rw[GS b c d (by rw[<-e4 b];exact f),told_set]
def A5(c:Y.cY h)(l:∀m∈a_ (aE h),∀e∈aj m,e∈bp (aE h))(d:kT (aE h) aj):jy (aE h) aj=(lR h (cz h)).map λe=>(e.site,e.fn):=by
 unfold jy lR;rw[zX c,nE,mE];apply jr;intro f i;have k:=c.at_ i;have n:jU "call" h f=(match f with| .app _ _ _=>H|_=>am):=by
  cases f with
  |var g r=>exact s5 _ ∅ ∅
  |_=>rfl
 rw[n];cases f with
 |app g b e=>
  simp only[kH];rw[show aS (.app g b e)=g from rfl]at k|-;rw[jq k];have o:e5 b∈ch h:=by rw[<-e4 c];have:=c.at_ (zY i (by simp[aO,mC]):b∈aO h);exact iS (by rw[pO];exact(es.mp this).1)
  show(((b6 (bp (aE h)) (aj (.node (aS b)))).filterMap (fM 1)).map λp=>(g,p))=((ee (cz h) (e5 b)).filterMap _).map _;rw[GS c l d o];show _=((b6 (bp (aE h)) (aj (e5 b))).filterMap _).map _;rw[A6,A6];apply vM;intro q _;cases q<;>rfl
 |_=>rfl
abbrev hG(h:a0)(y:Cl):wa:=wb (cQ h) y
inductive lS(K:bG)(o:Nat)(mk:List Int->Cl)(G:List V)(c:z)(b:aW)(B:bn):Prop|mk:∀(d g e:t) (args:List Int) (h:a0) (i:c4) (k:av->List aI),G=[.ref d,.ref e]->gj c d h g i k->an K c e (bS args)->args.length=o->fJ c->(∀f,hG h (mk args)= .ok (cQ h,f)->∀(O:z) (m:t),Q c O->c m=E->O m=j (.L (b' f))->b (.ref m) O)->(∀o,hG h (mk args)= .error o->∀O,Q c O->B (.ref (A2 o)) E O)->lS K o mk G c b B
def hk(f:Int->Cl)(n:List Int):Cl:=f (n.getD 0 0)
def oT{args:List Int}(d:args.length=1):∃n,args=[n]:=by
 match args,d with
 |[n],_=>exact⟨n,a⟩
def SD:(aE h)[n]?=E↔(aO h)[n]?=E:=by delta aE;rw[d2];cases(aO h)[n]?<;>simp
def rA(b:Y.cY h){n:Int}{f:a0->wa}(d:n<0\/(aE h)[n.toNat]?=E):nR (cQ h) n f= .error 3:=by rw[H_ b];obtain d|d:=d;rw[as d];rw[SD]at d;split;rfl;rw[d]
def oU{i:a0}(b:Y.cY h){n:Int}{f:a0->wa}(c:0<=n)(d:(aO h)[n.toNat]?=j i):nR (cQ h) n f=f i/\aS i=n.toNat:=by rw[H_ b,ag (by omega),d];exact⟨a,b.get d⟩
abbrev A7:be:=b3 102
abbrev A8:be:=b3 103
abbrev A9:be:=b3 104
abbrev A_:be:=b3 105
abbrev A':be:=b3 106
abbrev Ba:be:=b3 107
abbrev Bb:be:=b3 113
def SE:b2 Zd Zd (bo A7):=⟨a,a,a,∅,a,∅,∅⟩
def SF(F:bO K "answer_node" "answer_node" A7 f ai)(T:cT K mg)(D:bI P w K mg base (bh P w K mg) 1 "look_up" Zl ts)(G:bI P w K mg base a7 3 "tell_set" Zm ru):bd P w K mg base (bh P w K mg) 4 f ai Zd (lS K 1 (hk .node)):=by refine F.okE SE (λJ g M B c=>?_) (λao N ap ar g J M B o c=>?_);obtain⟨h,i,k,args,d,N,l,rfl,_⟩:=c;rfl;obtain⟨h,i,k,args,d,p,l,rfl,e,r,O,au,R,S⟩:=c;obtain⟨b,rfl⟩:=oT O;obtain⟨av,W⟩:=T.lE;have m:=e.dn.ck;have s:gv (bS [b]) 0=j (V.int b):=dj (af:=0) a;refine⟨_,ay (c' (bP (B:=B) D (o.aG nofun) a (dF (λ_ _ _ c=>c)) (I (x 0) (I (bU cj (x 1) bt (λ_ _=>rfl)) ae)))) (aA (bx (bP (B:=b9) G o a bN (I (x 0) (I (cP (I (bQ a W (u:=.int 0) ⟨_,a⟩) (I (bU cj (x 1) bt (λ_ _=>rfl)) ae))) ae))))),?_⟩;refine⟨_,a,_,a,k,_,_,_,a,a,r,s,h,i,b,d,p,l,a,e,λaw ax X v az=>?_,λc=>S 3 (rA m c) g (Q.id _)⟩;obtain⟨y,Y,rfl⟩:=jT v;refine⟨_,a,_,a,k,_,_,_,a,a,r,s,YT,λz Z=>?_⟩;have n:=Q.fresh (q:=aC.aF [.int 0,.int b]) Z;have aa:b1 (U g z (.aF [.int 0,.int b])) (.node b.toNat) (.ref z):=eQ (by show[V.int 0,V.int ((b.toNat:Nat):Int)]=_;rw[show((b.toNat:Nat):Int)=b by omega]);have A:ef b.toNat∈a_ (aE d):=iS (es.mp v).1;refine⟨h,i,_,d,p,l,.node b.toNat,a,e.same n,aa,A,λad ah aj ak C=>?_⟩;rw[rz m e.tab.sub e.L A]at C;obtain⟨al,an⟩:=oU (f:=λy=>iY (cQ d) (iX (ee (cz d) (e5 y)))) m X Y;refine R _ ?_ ad ah (n.trans aj) (n.free ak) C;show nR (cQ d) b _=_;refine al.trans ?_;unfold e5;rw[an];rfl
def SG:b2 Zd Zd (bo A8):=⟨a,a,a,∅,a,∅,∅⟩
def SH(F:bO K "answer_name" "answer_name" A8 f ai)(T:cT K mg)(S:bI P w K mg base (bh P w K mg) 2 "require_kind" Y3 (rr K))(W:bI P w K mg base a7 3 "tell_set" Zm ru):bd P w K mg base (bh P w K mg) 4 f ai Zd (lS K 1 (hk .name)):=by refine F.okE SG (λX l Y B d=>?_) (λav Z aw ax l X Y B C d=>?_);obtain⟨m,n,o,args,c,Z,p,rfl,_⟩:=d;rfl;obtain⟨m,n,o,args,c,D,p,rfl,h,G,aa,az,ad,J⟩:=d;obtain⟨b,rfl⟩:=oT aa;obtain⟨aB,ah⟩:=T.vp;have g:=h.dn.ck;have M:gv (bS [b]) 0=j (V.int b):=dj (af:=0) a;refine⟨_,ay (c' (bP (B:=B) S (C.aG nofun) a (dF (λ_ _ _ d=>d)) (I (x 0) (I (bU cj (x 1) bt (λ_ _=>rfl)) (I (bQ a T.zm (u:=.ref oF) a) ae))))) (aA (bx (bP (B:=b9) W C a bN (I (x 0) (I (cP (I (bQ a ah (u:=.int 1) ⟨_,a⟩) (I (bU cj (x 1) bt (λ_ _=>rfl)) ae))) ae))))),?_⟩;refine⟨_,a,_,a,o,_,_,_,a,a,G,M,m,n,oF,b,c,D,p,["fun","let"],a,h,T.bind _,λaj r i s=>?_,λaj r i s=>?_,λd=>J 3 (rA g d) l (Q.id _)⟩;obtain⟨e,v,rfl⟩:=jT i;refine⟨_,a,_,a,o,_,_,_,a,a,G,M,YT,λN ak=>?_⟩;have y:=Q.fresh (q:=aC.aF [.int 1,.int b]) ak;have al:b1 (U l N (.aF [.int 1,.int b])) (.name b.toNat) (.ref N):=eQ (by show[V.int 1,V.int ((b.toNat:Nat):Int)]=_;rw[show((b.toNat:Nat):Int)=b by omega]);have k:h7 b.toNat∈a_ (aE c):=A3.mpr ⟨_,i,by simpa using s⟩;refine⟨m,n,_,c,D,p,.name b.toNat,a,h.same y,al,k,λan ao ap ar O=>?_⟩;rw[rz g h.tab.sub h.L k]at O;refine ad _ ?_ an ao (y.trans ap) (y.free ar) O;show nR (cQ c) b _=_;obtain⟨z,A⟩:=oU (f:=λe=>oS (cQ c) (.name (aS e)) λ_=>iY (cQ c) (iX (ee (cz c) (.name (aS e))))) g r v;refine z.trans ?_;rw[ry,A,as (by rw[<-e4 g];exact k)];rfl;obtain⟨e,v,rfl⟩:=jT i;refine J 5 ?_ l (Q.id _);show nR (cQ c) b _=_;obtain⟨z,A⟩:=oU (f:=λe=>oS (cQ c) (.name (aS e)) λ_=>iY (cQ c) (iX (ee (cz c) (.name (aS e))))) g r v;refine z.trans ?_;rw[ry,A,ag];rw[<-e4 g];intro k;obtain⟨aH,R,au⟩:=A3.mp k;rw[i]at R;cases R;exact s (by simpa using au)
def SI:b2 Zd Zd (bo A_):=⟨a,a,a,∅,a,∅,∅⟩
def SJ(F:bO K "answer_inside" "answer_inside" A_ f ai)(T:cT K mg)(X:bI P w K mg base (bh P w K mg) 2 "require_kind" Y3 (rr K))(Y:bI P w K mg base a7 3 "tell_set" Zm ru):bd P w K mg base (bh P w K mg) 4 f ai Zd (lS K 1 (hk .inside)):=by refine F.okE SI (λZ C aa B d=>?_) (λaB ad aH aI C Z aa B D d=>?_);obtain⟨m,n,o,args,c,ad,p,rfl,_⟩:=d;rfl;obtain⟨m,n,o,args,c,G,p,rfl,i,J,ah,aK,aj,M⟩:=d;obtain⟨b,rfl⟩:=oT ah;obtain⟨aL,ak⟩:=T.vs;have h:=i.dn.ck;have N:gv (bS [b]) 0=j (V.int b):=dj (af:=0) a;refine⟨_,ay (c' (bP (B:=B) X (D.aG nofun) a (dF (λ_ _ _ d=>d)) (I (x 0) (I (bU cj (x 1) bt (λ_ _=>rfl)) (I (cP (I c_ ae)) ae))))) (aA (bx (bP (B:=b9) Y D a bN (I (x 0) (I (cP (I (bQ a ak (u:=.int 4) ⟨_,a⟩) (I (bU cj (x 1) bt (λ_ _=>rfl)) ae))) ae))))),?_⟩;refine⟨_,a,_,a,o,_,_,_,a,a,J,N,YS,λO al=>?_⟩;have e:=Q.fresh (q:=aC.aF [.str "new"]) al;refine⟨m,n,O,b,c,G,p,["new"],a,i.same e,.inl (.inl aw),λan r k s=>?_,λan r k s=>?_,λd=>M 3 (rA h d) _ e⟩;obtain⟨g,v,rfl⟩:=jT k;refine⟨_,a,_,a,o,_,_,_,a,a,e.seq J,N,YT,λR ao=>?_⟩;have y:=Q.fresh (q:=aC.aF [.int 4,.int b]) ao;have ap:b1 (U (U C O (.aF [.str "new"])) R (.aF [.int 4,.int b])) (.inside b.toNat) (.ref R):=eQ (by show[V.int 4,V.int ((b.toNat:Nat):Int)]=_;rw[show((b.toNat:Nat):Int)=b by omega]);have l:la b.toNat∈a_ (aE c):=A4.mpr (tu.mpr ⟨_,k,by simpa using s⟩);refine⟨m,n,_,c,G,p,.inside b.toNat,a,(i.same e).same y,ap,l,λar au av ax S=>?_⟩;rw[rz h i.tab.sub i.L l]at S;refine aj _ ?_ ar au ((e.trans y).trans av) ((e.trans y).free ax) S;show nR (cQ c) b _=_;obtain⟨z,A⟩:=oU (f:=λg=>oS (cQ c) (.inside (aS g)) λ_=>iY (cQ c) (iX (ee (cz c) (.inside (aS g))))) h r v;refine z.trans ?_;rw[ry,A,as (by rw[<-e4 h];exact l)];rfl;obtain⟨g,v,rfl⟩:=jT k;refine M 5 ?_ _ e;show nR (cQ c) b _=_;obtain⟨z,A⟩:=oU (f:=λg=>oS (cQ c) (.inside (aS g)) λ_=>iY (cQ c) (iX (ee (cz c) (.inside (aS g))))) h r v;refine z.trans ?_;rw[ry,A,ag];rw[<-e4 h];intro l;obtain⟨aM,W,az⟩:=tu.mp (A4.mp l);rw[k]at W;cases W;exact s (by simpa using az)
def SK:b2 Zd Zd (bo A9):=⟨a,a,a,∅,a,∅,∅⟩
def SM(F:bO K "answer_parts" "answer_parts" A9 f ai)(T:cT K mg)(ar:bI P w K mg base (bh P w K mg) 2 "require_kind" Y3 (rr K))(O:bI P w K mg base a7 3 "tell_set" Zm ru):bd P w K mg base (bh P w K mg) 4 f ai Zd (lS K 1 (hk .parts)):=by
 refine F.okE SK (λau R av B g=>?_) (λa6 ax a8 a9 R au av B z g=>?_);obtain⟨p,r,s,args,c,ax,l,rfl,_⟩:=g;rfl;obtain⟨p,r,s,args,c,A,l,rfl,d,C,az,ba,aB,S⟩:=g;obtain⟨b,rfl⟩:=oT az;obtain⟨bb,aH⟩:=T.vq;obtain⟨bc,aK⟩:=T.vr;have h:=d.dn.ck;have D:gv (bS [b]) 0=j (V.int b):=dj (af:=0) a;refine⟨_,ay (c' (bP (B:=B) ar (z.aG nofun) a (dF (λ_ _ _ g=>g)) (I (x 0) (I (bU cj (x 1) bt (λ_ _=>rfl)) (I (cP (I c_ ae)) ae))))) (aA (bx (fD nx (bP (B:=b9) O z a bN (I (x 0) (I (cP (I (bQ a aH (u:=.int 2) ⟨_,a⟩) (I (bU cj (x 1) bt (λ_ _=>rfl)) ae))) ae))) (bP (B:=b9) O z a bN (I (x 0) (I (cP (I (bQ a aK (u:=.int 3) ⟨_,a⟩) (I (bU cj (x 1) bt (λ_ _=>rfl)) ae))) ae)))))),?_⟩;refine⟨_,a,_,a,s,_,_,_,a,a,C,D,YS,λW aL=>?_⟩;have k:=Q.fresh (q:=aC.aF [.str "pair"]) aL;have X:∀e,(aO c)[b.toNat]?=j e->0<=b->hG c (hk .parts [b])=oS (cQ c) (.first b.toNat) λ_=>iY (cQ c) (iX (ee (cz c) (.first b.toNat))++iX (ee (cz c) (.second b.toNat))):=λe m n=>by obtain⟨Y,aM⟩:=oU (f:=λe=>oS (cQ c) (.first (aS e)) λ_=>iY (cQ c) (iX (ee (cz c) (.first (aS e)))++iX (ee (cz c) (.second (aS e))))) h n m;rw[aM]at Y;exact Y
 refine⟨p,r,W,b,c,A,l,["pair"],a,d.same k,.inl (.inl aw),λaN n o G=>?_,λaN n o G=>?_,λg=>S 3 (rA h g) _ k⟩;obtain⟨e,m,rfl⟩:=jT o;have i:b.toNat∈dS (aE c) "pair":=tu.mpr ⟨_,o,by simpa using G⟩;refine⟨_,a,_,a,s,_,_,_,a,a,k.seq C,D,YT,λZ aP=>?_⟩;have aa:=Q.fresh (q:=aC.aF [.int 2,.int b]) aP;have J:b1 (U (U R W (.aF [.str "pair"])) Z (.aF [.int 2,.int b])) (.first b.toNat) (.ref Z):=eQ (by show[V.int 2,V.int ((b.toNat:Nat):Int)]=_;rw[show((b.toNat:Nat):Int)=b by omega]);refine⟨p,r,_,c,A,l,.first b.toNat,a,(d.same k).same aa,J,rx.mpr i,λaQ aR aT bf ad=>?_⟩;have v:=(k.trans aa).trans aT;refine⟨_,a,_,a,s,_,_,_,a,a,v.seq C,D,YT,λah aW=>?_⟩;have aj:=Q.fresh (q:=aC.aF [.int 3,.int b]) aW;have aX:b1 (U aQ ah (.aF [.int 3,.int b])) (.second b.toNat) (.ref ah):=eQ (by show[V.int 3,V.int ((b.toNat:Nat):Int)]=_;rw[show((b.toNat:Nat):Int)=b by omega]);refine⟨p,r,_,c,A,l,.second b.toNat,a,(d.same v).same aj,aX,v'.mpr i,λbg aY aZ bi ak=>?_⟩;rw[rz h d.tab.sub d.L (rx.mpr i)]at ad;rw[rz h d.tab.sub d.L (v'.mpr i)]at ak;have al:∀M∈a_ (aE c),(b' (iX (ee (cz c) M))).length<=100:=λM J=>by
  rw[<-rz h d.tab.sub d.L J,p0];delta kY;have a0:((b6 (bp (aE c)) (l M)).map rt).length<=31:=by rw[aV];exact b5 (hW _ _) (f_ (jV d.dn).len)
  have a1:∀y:List aI,(y.map rt).flatten.length=2*y.length:=λy=>by
   induction y with
   |nil=>rfl
   |cons bj an a2=>rw[bz,pQ,b4,a2,cy];show 2+_=_;omega
  rw[cy,a1];rw[aV]at a0;omega
 have bk:=al _ (rx.mpr i);have bl:=al _ (v'.mpr i);have N:=aj.trans aZ;refine⟨aR,aY,_,_,a,a,N _ _ ad,ak,fX (c1 (by omega)),λan ao=>?_⟩;refine aB (iX (ee (cz c) (.first b.toNat))++iX (ee (cz c) (.second b.toNat))) ?_ _ an ((v.trans N).trans (Q.fresh (q:=aC.L (b' (iX (ee (cz c) (.first b.toNat)))++b' (iX (ee (cz c) (.second b.toNat))))) ao)) ((v.trans N).free ao) (by rw[aw];delta b';rw[cS]);rw[X e m n,ry,as (by rw[<-e4 h];exact rx.mpr i)];rfl;obtain⟨e,m,rfl⟩:=jT o;refine S 5 ?_ _ k;rw[X e m n,ry,ag];rw[<-e4 h];intro a3;obtain⟨bn,ap,a4⟩:=tu.mp (rx.mp a3);rw[o]at ap;cases ap;exact G (by simpa using a4)
def SN{w:Type}{R:z->w->V->Prop}{aQ:Nat->Option w}{g:f0}{cK:TT}{bj:bu}{G:List Nat}{m:bT.St}{h:z}{d:t}{x:z->Prop}{i:Str}(I:∀c O b u,Q c O->R c b u->R O b u)(own:∀c b u q,c d=j q->(∃aN,q= .L aN)->R c b u->∀aN,R (U c d (.L aN)) b u)(J:i.cps.size<aD)(A:h d=E)(K:∀k y O (B:V->z->Prop) (C:z->Prop),i.cps[k]?=j y->Q h O->(∀D l F,Q O l->aQ k=j F->R l F D->B D l)->(aQ k=E->∀e,Q O e->C e)->g (.str ⟨#[y]⟩) (cB m G) O λf n=>cB f G=cB m G/\cK f n λb e=>if b=H then bj f e B else C e)(M:∀O aN,Q h O->O d=j (.L aN)->br (R O) ((er i.cps.size).filterMap aQ) aN->x O):
  ∃W:Nat->Nat->z->Prop,(∃v,W 0 v (U h d (.L [])))/\∀k v c,W k v c->((oz i).stop k c/\x c)\/((oz i).go k c/\∃o:z->Prop,(∀O,o O->∃bH,bH<v/\W (k+1) bH O)/\∀u O,(oz i).jh k c u O->g u (cB m G) O λf n=>cB f G=cB m G/\cK f n λb e=>if b=H then bj f e λD l=>∃a9,l d=j (.L a9)/\a9.length<aD/\o (U l d (.L (a9++[D])))else o e):=by
 refine⟨λk v c=>v=i.cps.size-k/\k<=i.cps.size/\hA R aQ h d k c,⟨i.cps.size,by simp,dC _,hA.zero A⟩,?_⟩;rintro k v c ⟨rfl,aa,p⟩;by_cases r:k<i.cps.size;refine .inr ⟨r,hA R aQ h d (k+1),λO N=>⟨i.cps.size-(k+1),by omega,a,r,N⟩,λu O D=>?_⟩;obtain⟨s,y,P,rfl⟩:=D;subst s;obtain⟨S,T⟩:=p.sU I own r J A;exact K k y _ _ _ P p.1 S T;have s:k=i.cps.size:=by omega
 subst s;obtain⟨X,aN,Y,Z⟩:=p;exact .inl ⟨bC _,M c aN X Y Z⟩
def SO{p:ak}{k y:Nat}(d:(aX p).cps[k]?=j y):∃b,p[k]?=j b/\y=b.toNat:=by
 have c:(p.map fP)[k]?=j y:=by have:(p.map fP).toArray[k]?=j y:=d;simpa using this
 rw[d2]at c;cases e:p[k]? with
 |none=>rw[e]at c;cases c
 |some b=>rw[e]at c;exact⟨b,a,(dP c).symm⟩
abbrev Bc:be:=b3 1
inductive wc(G:List V)(c:z)(d:aW)(e:bn):Prop|mk:∀(b:ak),G=[.str (aX b)]->b.length<1000000->(∀(O:z) (m:t),Q c O->c m=E->O m=j (.L (gh b))->d (.ref m) O)->wc G c d e
abbrev Bd:be:=b3 101
inductive Be(K:bG)(G:List V)(c:z)(e:aW)(B:bn):Prop|mk:∀(b k f:t) (d:ak) (h:a0) (l:c4) (n:av->List aI),G=[.ref b,.ref f]->gj c b h k l n->an K c f (gh d)->d.length<=4000->fJ c->js c->(∀g i,hG h (.program d)= .ok (cQ g,i)->∀(O:z) (o m:t) (p:c4) (q:av->List aI),dM b c O->gj O b g o p q->c m=E->O m=j (.L (b' i))->e (.ref m) O)->(∀r,hG h (.program d)= .error r->∀O,Q c O->B (.ref kc) E O)->Be K G c e B
abbrev Bf:be:=jn (b3 93) 0
inductive Bg(G:List V)(c:z)(d:aW)(e:bn):Prop|mk:∀(b f:t),G=[.ref b]->c b=j (.az e6 f [])->fJ c->js c->(∀(O:z) (g:t) (h:c4) (i:av->List aI),dM b c O->gj O b (.num 0 0) g h i->d .aL O)->Bg G c d e
def H':Y.iG (.num 0 0):=Y.xo.mp ∅
def read0:m' [48]=j (.num 0 0):=Y.t2.mpr ⟨H',∅⟩
def bA.kp{p:t}{ah i:t}{b:List (Str×V)}{e:t}{C:aC}(d:bA c e C)(k:c p=j (.az ah i b))(l:∀ah aa b,C≠.az ah aa b)(r:dM p c O):bA O e C:=by have h:e≠p:=e2.bA.eJ d k (λf=>l _ _ _ f.symm) (λ_=>⋯);obtain g|⟨m,g⟩:=d;exact .inl (r _ _ g h);exact .inr ⟨m,r _ _ g h⟩
theorem TabAt.kp{p df ah n:t}{f:List (Str×V)}{i:List av}{k:List aI}{l:c4}(d:TabAt c p bf i k l aj)(cA:c df=j (.az ah n f))(o:ah≠cW)(q:ah≠b_)(r:dM df c O):TabAt O p bf i k l aj:=by have cJ:∀{g e},c g=j e->(∀ah s f,e≠.az ah s f)->O g=j e:=λ{g e} m u=>r _ _ m (ct m cA (u _ _ _));obtain⟨x,v,w⟩:=d.bi;obtain⟨y,z,A⟩:=d.rb;exact⟨r _ _ d.az (ct d.az cA (λb=>by cases b;exact q a)),d.eX.kp cA o r,⟨x,cJ v (λ_ _ _=>⋯),w.aG λ_ _ h=>h.kp cA r⟩,⟨y,cJ z (λ_ _ _=>⋯),A.aG λ_ _ h=>h.kp cA r⟩,cJ d.iR (λ_ _ _=>⋯),λB C=>cJ (d.kb B C) (λ_ _ _=>⋯),d.inj,d.vD,d.nd,d.sub,d.num.kp cA r⟩
def Bh:b2 ["signs","sign"] ["signs"] (bo Bc):=⟨a,a,a,∅,a,∅,∅⟩
def SP(F:bO K "bytes_of" "bytes_of" Bc f ai)(bF:iu K mg):bd P w K mg base a7 1 f ai ["signs"] wc:=by
 refine F.ok Bh (λu d h v b=>?_) (λN O S l d u h v T b=>?_);obtain⟨c,rfl,_⟩:=b;rfl;obtain⟨c,rfl,y,z⟩:=b;refine⟨_,aA (bx (hV (own:=[("sign",1)]) (g:=d0 1) (cK:=hd) (bj:=uB (λA d h=>∃i,A=[.str i]/\i.length=1/\h (.int (i.cps.getD 0 0:Nat)) d) (dx (cD 1) e1)) a Bh.nd (yO (x 0)) (f6 a) (λl d m n o=>cF (k:=1) Bh.nd a (aU a)) (λl d m n o=>jk) (λl d m n o=>en DX a bF.G2 (by rfl) (I (x 1) ae)))),?_⟩;refine⟨_,a,_,a,?_⟩;intro B p;have q:(aX c).cps.size=c.length:=gT c;refine SN (i:=aX c) (R:=λ_ (e:UInt8) C=>C=V.int (e.toNat:Nat)) (aQ:=λk=>c[k]?) (λ_ _ _ _ _ b=>b) (λ_ _ _ _ _ _ b _=>b) (by rw[q];exact gK y nofun) p ?_ ?_;intro k U r W X D s G _;obtain⟨e,J,rfl⟩:=SO D;refine⟨a,mu ⟨_,a,_,a,a,G _ _ e (Q.id _) J a⟩⟩;intro r Y s L b;rw[q]at b;have M:(er c.length).filterMap (λk=>c[k]?)=c:=by have:=ms (λe:UInt8=>e) c;simpa using this
 rw[M]at b;refine z r B s p ?_;rw[L,b.map];rfl
def SQ:b2 Zd Zd (bo A'):=⟨a,a,a,∅,a,∅,∅⟩
def wd(d:bf.length<=30)(aj:av->List aI):(jy bf aj).length<=930:=by
 unfold jy;have lk:(dS bf "call").length<=30:=b5 (ip _ _) d;have:∀b:List Nat,(b.flatMap λg=>match bf[g]? with|some c=>((b6 (bp bf) (aj (.node (dv c 0)))).filterMap (fM 1)).map λe=>(g,e)|none=>[]).length<=31*b.length:=λb=>by
  induction b with
  |nil=>simp
  |cons f h i=>
   rw[ds,b4,cy];have k:(match bf[f]? with|some c=>((b6 (bp bf) (aj (.node (dv c 0)))).filterMap (fM 1)).map λe=>(f,e)|none=>[]).length<=31:=by
    cases bf[f]? with
    |none=>exact dC _
    |some c=>rw[aV];exact b5 (hW _ _) (b5 (hW _ _) (f_ d))
   omega
 refine b5 (this (dS bf "call")) ?_;omega
def SR(F:bO K "answer_arrows" "answer_arrows" A' f ai)(T:cT K mg)(ba:hl K mg)(n:bI P w K mg base a7 1 "tell_each" Zv rs)(o:bI P w K mg base a7 4 "list_arrows" Zx tt):bd P w K mg base (bh P w K mg) 5 f ai Zd (lS K 0 λ_=>.arrows):=by
 refine F.okE SQ (λp q r B e=>?_) (λW s X Y q p r B h e=>?_);obtain⟨i,k,u,args,b,s,g,rfl,_⟩:=e;rfl;obtain⟨i,k,u,args,b,v,g,rfl,c,Z,aa,ad,y,af⟩:=e;have l:=jV c.dn;refine⟨_,aA (bx (bP (B:=b9) n (h.aG nofun) a bN (I (bP (B:=b9) o h a bN (I (a1 (x 0) a) ae)) ae))),?_⟩;obtain⟨z,A⟩:=c.az;refine⟨_,a,i,e6,z,_,_,a,A,ba.hF,ba.fQ,a,k,aE b,v,g,a,c.tab,l,λah C D m aj G J=>?_⟩;refine⟨C,D,_,a,G,J,by rw[aV];have:=wd l.len g;omega,λak M=>?_,λN O Q R S=>?_⟩;obtain⟨d,_,rfl⟩:=cx.mp M;exact(by decide:2<=4);refine y _ a N O (m.trans Q) (m.free R) ?_;rw[S,A5 c.dn.ck c.tab.sub c.L];show j (aC.L (bS (kY _)))=j (aC.L (b' _));congr 2;delta kY bS b';rw[aV,aV,bz,bz];congr 1;show _=((lR b (cz b)).flatMap λd=>[d.site,d.fn]).map _;generalize lR b (cz b)=U;induction U with
 |nil=>rfl
 |cons d al V=>rw[bz,bz,pQ,cS,V,ds,cS];rfl
def Ia:b2 ["flows","handed","table"] Zd (bo Bb):=⟨a,a,a,∅,a,∅,∅⟩
def SS(F:bO K "answer_size" "answer_size" Bb f ai)(T:cT K mg)(ba:hl K mg)(s:eE P w K mg base a7 2 b_ "fact_count" ZB s0):bd P w K mg base (bh P w K mg) 3 f ai Zd (lS K 0 λ_=>.size):=by
 refine F.okE Ia (λu v y B g=>?_) (λY z Z aa v u y B A g=>?_);obtain⟨l,d,C,args,e,z,h,rfl,_⟩:=g;rfl;obtain⟨l,d,C,args,e,c,h,rfl,b,ad,af,ah,D,aj⟩:=g;have i:=b.dn.ck;refine⟨_,ay (bZ (k:=2) Ia.nd a (aU a) (a1 (x 0) a)) (aA (bx (dR (I (en fE a T.eP e3 (I (a1 (x 2) a) ae)) (I (en fE a T.eP e3 (I (a1 (x 2) a) ae)) (I (en fE a T.eP e3 (I (a1 (x 2) a) ae)) (I (oE (B:=b9) s (x 2) A bN) ae))))))),?_⟩;obtain⟨G,J⟩:=b.az;obtain⟨m,M,N,ak⟩:=b.tab.eX;obtain⟨n,O,R⟩:=b.tab.bi;obtain⟨o,S,U⟩:=b.tab.rb;refine⟨_,a,l,e6,G,_,_,a,J,ba.hF,ba.fQ,a,?_⟩;refine⟨_,a,d,b_,c.a4,_,_,a,b.tab.az,T.dV,T.iO,a,c.cs,_,a,.inl (an.au M),?_⟩;refine⟨_,a,d,b_,c.a4,_,_,a,b.tab.az,T.dV,T.q6,a,c.gP,_,a,.inl (an.au O),?_⟩;refine⟨_,a,d,b_,c.a4,_,_,a,b.tab.az,T.dV,T.vo,a,c.iJ,_,a,.inl (an.au S),?_⟩;refine⟨_,a,d,c.a4,_,a,b.tab.az,a,d,aE e,_,_,c,h,a,b.tab,oK _ (jV b.dn).len,λal p=>⟨(by show 4<=aD;decide),λW r=>?_⟩⟩;refine D _ a _ W (p.trans (Q.fresh (q:=aC.L [.int ((m.map V.ref).length:Nat),.int (n.length:Nat),.int (o.length:Nat),.int (gy (a_ (aE e)) h:Nat)]) r)) (p.free r) ?_;rw[aw];have X:(m.map V.ref).length=(dO e).length:=by rw[aV,N,pO];exact(aV _).symm
 rw[X,(by rw[<-R.length,e4 i]:n.length=(ch e).length),(by rw[<-U.length,it i]:o.length=(d8 e).length),<-GV i b.tab.nd b.tab.sub b.L];rfl
def Bi:b2 ["flows","handed","callers","arrow"] Zd (bo Ba):=⟨a,a,a,∅,a,∅,∅⟩
def SU(F:bO K "answer_callers" "answer_callers" Ba f ai)(T:cT K mg)(ba:hl K mg)(aT:bI P w K mg base (bh P w K mg) 2 "require_kind" Y3 (rr K))(aW:bI P w K mg base a7 4 "list_arrows" Zx tt):bd P w K mg base (bh P w K mg) 5 f ai Zd (lS K 1 (hk .callers)):=by
 refine F.okE Bi (λaX s aY B i=>?_) (λbH aZ bJ y s aX aY B W i=>?_);obtain⟨z,A,C,args,b,aZ,l,rfl,_⟩:=i;rfl;obtain⟨z,A,C,args,b,X,l,rfl,m,Y,a2,bK,a3,Z⟩:=i;obtain⟨c,rfl⟩:=oT a2;have D:=m.dn.ck;have G:=jV m.dn;have aa:gv (bS [c]) 0=j (V.int c):=dj (af:=0) a;refine⟨_,ay (c' (bP (B:=B) aT (W.aG nofun) a (dF (λ_ _ _ i=>i)) (I (x 0) (I (bU cj (x 1) bt (λ_ _=>rfl)) (I (cP (I c_ ae)) ae))))) (ay (sS (k:=2) (own:=[("arrow",3)]) (g:=d0 3) (cK:=ol (hx gf (hx (qO K) (cD 3) (ff (.int 1))) (hx (uF K) (cD 1) (ff (.int 0))))) (bj:=hx (qO K) (cD 3) (ff (.int 0))) a Bi.nd a a (qU a a a a) (dU (bP (B:=b9) aW W a bN (I (a1 (x 0) a) ae))) (f6 a) (λy s ad ah aj=>cF (k:=3) Bi.nd a (aU a)) (λy s ad ah aj=>nz (b7 dL (bU ji (x 3) bt (λ_ _=>rfl)) (bU cj (x 1) bt (λ_ _=>rfl)) (cf _))) (λy s ad ah aj=>bU ji (x 3) bt (λ_ _=>rfl))) (aA (bx (fD nx (dR (I (en fE a T.eP e3 (I (x 2) ae)) ae)) (x 2))))),?_⟩;refine⟨_,a,_,a,C,_,_,_,a,a,Y,aa,YS,λa4 a6=>?_⟩;have o:=Q.fresh (q:=aC.aF [.str "fun"]) a6;have ak:∀d,(aO b)[c.toNat]?=j d->0<=c->hG b (hk .callers [c])=if Ib d=am then .error 5 else iY (cQ b) (Ic (((lR b (cz b)).filter λe=>e.fn==c.toNat).map λe=>e.site)):=λd p r=>by obtain⟨al,a8⟩:=oU (f:=λd=>if Ib d=am then .error 5 else iY (cQ b) (Ic (((lR b (cz b)).filter λe=>e.fn==aS d).map λe=>e.site))) D r p;rw[a8]at al;exact al
 have ao:∀d:a0,Ib d=decide ((pn b d).kind="fun"):=λd=>by have:=GP b d;unfold jU at this;rw[this];cases d<;>rfl
 refine⟨z,A,a4,c,b,X,l,["fun"],a,m.same o,.inl (.inl aw),λa9 r J N=>?_,λa9 r J N=>?_,λi=>Z 3 (rA D i) _ o⟩;obtain⟨d,p,rfl⟩:=jT J;obtain⟨a_,bb⟩:=(m.same o).az;refine⟨_,a,z,e6,a_,_,_,a,bb,ba.hF,ba.fQ,a,A,aE b,X,l,a,(m.same o).tab,G,λbL ap O bc bQ ar S=>⟨ap,a,⟨_,an.au ar⟩,?_⟩⟩;intro av bf;have ax:=o.trans bc;have bR:O.length<=930:=by rw[<-S.length,aV];exact wd G.len l
 refine iN (K:=K) (e:=ap) (M:=O) (R:=λ_ (k:Nat) bg=>bg=V.int (k:Nat)) (aQ:=λk=>((jy (aE b) l)[k]?).bind λe=>if e.2=c.toNat then j e.1 else E) (λ_ _ _ _ _ i=>i) (λ_ _ _ _ _ _ i _=>i) (λbi b=>an.au (b _ _ ar)) (c1 (by omega)) bf ?_ ?_;intro k bT bi bV bW bk aB bl bn;obtain⟨h,n,aH,rfl,bo⟩:=S.fq bk;rw[d2]at n;cases u:(jy (aE b) l)[k]? with
 |none=>rw[u]at n;cases n
 |some e=>
  rw[u]at n;have n:=(dP n).symm;subst n;have aI:=bo.same aB;refine⟨a,_,a,aH,_,_,_,a,a,.inl aI,a,_,a,C,_,_,_,a,a,(ax.trans aB).seq Y,aa,a,_,a,?_⟩;have bp:decide (V.int (e.2:Nat)=V.int c)=decide (e.2=c.toNat):=by by_cases h:e.2=c.toNat;rw[bw h];exact bw (by congr 1;omega);rw[bq h];exact bq λbr=>h (by have:=V.int.inj br;omega)
  rw[bp];by_cases h:e.2=c.toNat;rw[bw h,as a];exact⟨_,a,aH,_,_,_,a,a,.inl aI,a,bl _ _ e.1 (Q.id _) (by rw[u];show(if e.2=c.toNat then j e.1 else E)=_;rw[as h]) a⟩;rw[bq h,ag dA];exact bn (by rw[u];show(if e.2=c.toNat then j e.1 else E)=_;rw[ag h]) _ (Q.id _)
 intro bX v bs aK U;rw[(by rw[<-S.length,aV]:O.length=(jy (aE b) l).length),mr]at U;have aL:=U.map;have bY:v.length<=930:=by rw[<-U.length];exact b5 (hW _ _) (wd G.len l)
 refine⟨_,a,av,_,a,.inl (an.au aK),YS,λbu bA=>?_⟩;have aM:=Q.fresh (q:=aC.L [.int (v.length:Nat)]) bA;refine⟨_,a,bu,av,_,_,a,a,aw,aM _ _ aK,fX (c1 (by rw[fS];omega)),λbB aN=>?_⟩;have aP:=((ax.trans bs).trans aM);refine a3 (Ic (((lR b (cz b)).filter λe=>e.fn==c.toNat).map λe=>e.site)) ?_ _ bB (aP.trans (Q.fresh (q:=aC.L ([.int (v.length:Nat)]++v)) aN)) (aP.free aN) ?_;rw[ak d p r,ao,bw (by simpa using N),ag nofun];rfl;rw[aw];have bD:(jy (aE b) l).filterMap (λe=>if e.2=c.toNat then j e.1 else E)=((lR b (cz b)).filter λe=>e.fn==c.toNat).map λe=>e.site:=by
  rw[A5 D m.tab.sub m.L];generalize lR b (cz b)=bF;induction bF with
  |nil=>rfl
  |cons e bZ aR=>rw[bz,hn,lc];by_cases h:e.fn=c.toNat;rw[as h,fz.mpr h,as a,bz,<-aR];rw[ag h,fl.mpr h,ag nofun,<-aR]
 rw[bD]at aL;rw[aL];show j (aC.L _)=j (aC.L (b' (_::_)));delta b';rw[bz];congr 2;rw[aV];rfl;obtain⟨d,p,rfl⟩:=jT J;refine Z 5 ?_ _ o;rw[ak d p r,ao,bq (by simpa using N),as a]
def SV:b2 Zs Zs (bo Bd):=⟨a,a,a,∅,a,∅,∅⟩
def SW(F:bO K "answer_program" "answer_program" Bd f ai)(T:cT K mg)(ba:hl K mg)(af:bI P w K mg base a7 8 "least_table" Zw vK)(ah:bI P w K mg base (bh P w K mg) 24 "read_program" ZC (v4 K))(aj:eE P w K mg base a7 2 b_ "fact_count" ZB s0):bd P w K mg base (bh P w K mg) 25 f ai Zs (Be K):=by
 refine F.okE SV (λak c al B m=>?_) (λaZ ao a0 a2 c ak al B z m=>?_);obtain⟨d,o,J,p,M,ao,ap,rfl,_⟩:=m;rfl;obtain⟨d,o,J,p,M,a3,ap,rfl,ar,av,ax,aB,aF,aH,aI⟩:=m;refine⟨_,ay (f1 (x 0) (bP (B:=b9) af (z.aG nofun) a bN (I (bP (B:=B) ah z a (dF (λ_ _ _ m=>m)) (I (x 1) ae)) ae)) a) (aA (bx (dR (I (en fE a T.eP e3 (I (a1 (a1 (x 0) a) a) ae)) (I (oE (B:=b9) aj (a1 (x 0) a) (z.aG nofun) bN) ae))))),?_⟩;have N:∀A,m' p=A->hG M (.program p)=nS A 1 λb=>.ok (cQ b,[(dO b).length,(cz b).length]):=λA aK=>by rw[<-aK];rfl
 refine⟨_,a,J,p,a,av,ax,aF,λb k O aL r a6 R=>?_,λk O r=>aI 1 (by rw[v7]at k;rw[N _ k];rfl) O r⟩;rw[v7]at k;have n:=(Y.t2.mp k).1;rw[HM n.ck]at R;have S:=jV n;refine⟨aL,aE b,a,R,S,re n,aB.same r,λs g l u aM a8 a9 aN W=>?_⟩;have C:=r.trans aM;obtain⟨h,X⟩:=(ar.same C).az;refine⟨_,a,d,e6,h,_,a,X,ba.hF,ba.fQ,(by show 1<1000;decide),?_⟩;have D:dM d s (U s d (.az e6 h (c0 "table" (.ref g) [("table",.ref o)]))):=dM.U _ _ _;have i:=aN.kp X nofun nofun D;have aP:gj (U s d (.az e6 h (c0 "table" (.ref g) [("table",.ref o)]))) d b g l u:=⟨⟨h,by rw[aw];rfl⟩,i,W,n⟩;obtain⟨Z,aQ,aR,bb⟩:=i.eX;refine⟨_,a,d,e6,h,_,_,a,aw,ba.hF,ba.fQ,a,g,b_,l.a4,_,_,a,i.az,T.dV,T.iO,a,l.cs,_,a,.inl (an.au aQ),?_⟩;refine⟨_,a,d,e6,h,_,_,a,aw,ba.hF,ba.fQ,a,g,l.a4,_,a,i.az,a,g,aE b,_,_,l,u,a,i,oK _ S.len,λbc v=>⟨YT,λG y=>?_⟩⟩;have aa:=Q.fresh (q:=aC.L [.int ((Z.map V.ref).length:Nat),.int (gy (a_ (aE b)) u:Nat)]) y;refine aH b [(dO b).length,(cz b).length] (by rw[N _ k];rfl) _ g G l u (λbf q aT aW=>aa _ _ (v _ _ (D _ _ (C _ _ aT) aW))) ((aP.same v).same aa) ?_ ?_;cases aX:c G with
 |none=>rfl
 |some q=>by_cases ad:G=d;have:=v _ _ (aw (c:=s) (e:=d) (q:=.az e6 h (c0 "table" (.ref g) [("table",.ref o)])));rw[ad,this]at y;cases y;have:=v _ _ (D _ _ (C _ _ aX) ad);rw[y]at this;cases this
 rw[aw];have aY:(Z.map V.ref).length=(dO b).length:=by rw[aV,aR,pO];exact(aV _).symm
 rw[aY,<-GV n.ck i.nd i.sub W];rfl
def SX:b2 ZB ZB (bo Bf):=⟨a,a,a,∅,a,∅,∅⟩
def SY(F:bO K "__init__" "Flows.__init__" Bf f ai)(ba:hl K mg)(r:bI P w K mg base a7 8 "least_table" Zw vK)(s:bI P w K mg base (bh P w K mg) 24 "read_program" ZC (v4 K))(v:bI P w K mg base a7 1 "bytes_of" ["signs"] wc):bd P w K mg base (bh P w K mg) 25 f ai ZB Bg:=by refine F.okE SX (λy z A B b=>?_) (λZ aa ad af z y A B h b=>?_);obtain⟨d,e,rfl,_⟩:=b;rfl;obtain⟨d,e,rfl,C,D,G,J⟩:=b;obtain⟨ah,L⟩:=ba.Sq;refine⟨_,aA (f1 (x 0) (bP (B:=b9) r (h.aG nofun) a bN (I (bP (B:=B) s h a (dF (λ_ _ _ b=>b)) (I (bP (B:=b9) v (h.aG nofun) a bN (I (bQ a L (u:=.str "0") ⟨_,a⟩) ae)) ae)) ae)) a),?_⟩;refine⟨[48],a,nofun,λaj M i ak N=>?_⟩;refine⟨M,[48],a,an.au N,nofun,G.same i,λal c O Q k ao l=>?_,λc O k=>?_⟩;rw[v7,read0]at c;cases c;have g:=H';rw[HM g.ck]at l;refine⟨Q,aE (.num 0 0),a,l,jV g,re g,(D.same i).same k,λm n R S T ap ar V W=>?_⟩;have o:=(i.trans k).trans T;have p:=o _ _ C;refine⟨_,a,d,e6,e,_,a,p,ba.hF,ba.fQ,(by show 0<1000;decide),?_⟩;have q:dM d m (U m d (.az e6 e (c0 "table" (.ref n) []))):=dM.U _ _ _;exact J _ n R S (λav ax X Y=>q _ _ (o _ _ X) Y) ⟨⟨e,by rw[aw];rfl⟩,V.kp p nofun nofun q,W,g⟩;rw[v7,read0]at c;cases c
open Y (ek l6 iH)
abbrev we:t:=299
abbrev rB:t:=300
structure tv (K:bG) (mg:Str->Option ab):Prop where
 rC:ij K mg "NotTable" rq
 S0:mg "PLACE_SIGNS"=j (.ref we)
 Ie:mg "SORT_SIGNS"=j (.ref rB)
 aZ:∀c,ej K c we [.str "n",.str "x",.str "a",.str "b",.str "c"]
 Ig:∀c,ej K c rB [.str "num",.str "f",.str "p",.str "r"]
 S1:∃p,mg "ALLOWED_SIGNS"=j (.str "abcfmnprux0123456789 \n" p)
 Ih:mg "str"=E
def ur:∀o:Fin 100,(eD (toString ((o.val:Nat):Int)))=aX (gG o.val):=∅
def wg:∀o:Fin 100,(gG o.val).length<=2:=∅
def Bj(e b:ak):aX e++aX b=aX (e++b):=by show(⟨(e.map fP).toArray++(b.map fP).toArray⟩:Str)=⟨((e++b).map fP).toArray⟩;rw[cS];simp
def wh(d:n<=99):(toString ((n:Nat):Int):String)=(toString ((n:Nat):Int):String)/\eD (toString ((n:Nat):Int))=aX (gG n):=⟨a,ur ⟨n,by omega⟩⟩
def Ii(d:n<=99):(((n:Nat):Int)).natAbs.log2<1920:=by have:∀b:Fin 100,((b.val:Nat):Int).natAbs.log2<1920:=∅;exact this ⟨n,by omega⟩
def Ij(p:ak):iM.ax (aX p)=p.map fP:=rfl
theorem Ik:∀cG:List ak,iM.mo [32] (cG.map λp=>p.map fP)=(fA cG).map fP
 |[]=>rfl
 |[w]=>rfl
 |w::b::c=>by show w.map fP++([32]++iM.mo [32] ((b::c).map λp=>p.map fP))=(w++([32]++fA (b::c))).map fP;rw[Ik (b::c),cS,cS];rfl
def Il(cG:List ak):pF (eD " ") (cG.map aX)=aX (fA cG):=by refine iM.uZ ?_;rw[iM.y3,iM.u2,Ij,<-Ik,fU];rfl
def S2(b:List ak):pF (eD "") (b.map aX)=aX b.flatten:=by
 rw[GZ];delta aX;congr 1;congr 1;rw[fU];induction b with
 |nil=>rfl
 |cons d e c=>rw[bz,pQ,pQ,cS,c];rfl
def kZ(d:bf.length<=30)(e:m∈a_ bf):ek m<=99:=by
 have f:∀{k:Str} {b:Nat},b∈dS bf k->b<=99:=λl=>by obtain⟨n,g,_⟩:=tu.mp l;have:=(es.mp g).1;omega
 cases m with
 |node b=>
  unfold a_ iP iQ at e;simp only[bE,eV,cR,cx,jH]at e;obtain((⟨h,i,c⟩|⟨h,i,c⟩)|⟨h,i,c⟩)|⟨h,i,c⟩:=e;cases c;show b<=99;omega
  split at c<;>cases c;simp at c;cases c
 |name b=>obtain⟨n,g,_⟩:=A3.mp e;have:=(es.mp g).1;show b<=99;omega
 |first b=>exact f (rx.mp e)
 |second b=>exact f (v'.mp e)
 |inside b=>exact f (A4.mp e)
def k0(d:bf.length<=30){e:aI}(g:e∈bp bf):l6 e<=99:=by
 unfold bp at g;obtain rfl|g:=bm.mp g;decide;obtain⟨f,i,c⟩:=eV.mp g;have i:=jH.mp i;unfold pK at c;cases h:(bf[f]?).bind λk=>ea k.kind f with
 |none=>rw[h]at c;cases c
 |some l=>
  rw[h]at c;obtain⟨k,m,b⟩:=CT.mp h;have:e=l:=by cases l<;>simp at c<;>exact c.symm
  subst this;unfold ea at b;split at b;cases b;decide;split at b;cases b;show f<=99;omega
  split at b;cases b;show f<=99;omega
  split at b;cases b;show f<=99;omega
  cases b
def Im(d:ek m<=99):(eC m).length<=3:=by obtain⟨c,b,_⟩:=Y.CV m;rw[b,cy];have:=wg ⟨ek m,by omega⟩;have:(gG (ek m)).length<=2:=this;omega
def Io{e:aI}(d:l6 e<=99):(eK e).length<=3:=by
 have c:∀b,b<=99->(gG b).length<=2:=λb f=>wg ⟨b,by omega⟩;cases e with
 |num=>decide
 |fn b=>have:=c b d;show(dI "f"++gG b).length<=3;rw[b4];show 1+_<=3;omega
 |pair b=>have:=c b d;show(dI "p"++gG b).length<=3;rw[b4];show 1+_<=3;omega
 |ref b=>have:=c b d;show(dI "r"++gG b).length<=3;rw[b4];show 1+_<=3;omega
theorem Ip:∀{cG:List ak},(∀w∈cG,w.length<=3)->(fA cG).length<=4*cG.length
 |[],_=>dC _
 |[w],b=>by have:=b w b8;show w.length<=4;omega
 |w::c::d,b=>by have g:=b w b8;have h:=Ip (cG:=c::d) λe f=>b e (cv _ f);show(w++([32]++fA (c::d))).length<=_;rw[b4,b4,fS,cy];omega
def Iq(d:bf.length<=30)(b:m∈a_ bf)(s:List aI):(iH m (b6 (bp bf) s)).length<=128:=by delta Y.iH;have e:(b6 (bp bf) s).length<=31:=b5 (hW _ _) (f_ d);refine b5 (Ip λf hw=>?_) ?_;obtain rfl|hw:=bm.mp hw;exact Im (kZ d b);obtain⟨g,c,rfl⟩:=cx.mp hw;exact Io (k0 d (mB c).1);rw[cy,aV];omega
def rD(b:List a2)(aj:av->List aI)(m:av):ak:=if b6 (bp b) (aj m)=[]then[]else iH m (b6 (bp b) (aj m))++[10]
def fb(b:List a2)(aj:av->List aI):ak:=(a_ b).flatMap (rD b aj)
abbrev Bk:be:=b3 59
inductive wi(G:List V)(c:z)(b:aW)(d:bn):Prop|mk:∀(x:V) (m:av),G=[x]->b1 c m x->ek m<=99->b (.str (aX (eC m))) c->wi G c b d
abbrev Bl:be:=b3 60
inductive tw(G:List V)(c:z)(d:aW)(f:bn):Prop|mk:∀(e:V) (b:aI),G=[e]->d' c b e->l6 b<=99->fJ c->d (.str (aX (eK b))) c->tw G c d f
abbrev Bm:be:=b3 61
inductive wj(G:List V)(c:z)(d:aW)(g:bn):Prop|mk:∀(e:t) (b:List a2) (h:c4) (f:av->List aI),G=[.ref e]->fN c e b h f->b.length<=30->(∀(O:z) (m:t),Q c O->c m=E->O m=j (.L (gh (fb b f)))->d (.ref m) O)->wj G c d g
def iZ:av->Nat
 | .node _=>0
 | .name _=>1
 | .first _=>2
 | .second _=>3
 | .inside _=>4
def tx(m:av):(c3 m).map c9=[.int (iZ m:Nat),.int (ek m:Nat)]:=by cases m<;>rfl
def S3(m:av):∃y:ak,gv [V.str "n",V.str "x",V.str "a",V.str "b",V.str "c"] ((iZ m:Nat):Int)=j (.str (aX y))/\eC m=y++gG (ek m)/\y.length=1:=by
 cases m with
 |node b=>exact⟨dI "n",a,a,a⟩
 |name b=>exact⟨dI "x",a,a,a⟩
 |first b=>exact⟨dI "a",a,a,a⟩
 |second b=>exact⟨dI "b",a,a,a⟩
 |inside b=>exact⟨dI "c",a,a,a⟩
def S4{e:aI}(d:e≠.num):∃y:ak,gv [V.str "num",V.str "f",V.str "p",V.str "r"] (ep e)=j (.str (aX y))/\eK e=y++gG (ck e)/\y.length=1/\ck e=l6 e:=by
 cases e with
 |num=>exact aq a d
 |fn b=>exact⟨dI "f",a,a,a,a⟩
 |pair b=>exact⟨dI "p",a,a,a,a⟩
 |ref b=>exact⟨dI "r",a,a,a,a⟩
def S5:b2 Zz Zz (bo Bk):=⟨a,a,a,∅,a,∅,∅⟩
def S6(F:bO K "place_word" "place_word" Bk f ai)(c:tv K mg):bd P w K mg base a7 1 f ai Zz wi:=by refine F.ok S5 (λi k l m d=>?_) (λr s v y k i l m z d=>?_);obtain⟨x,b,rfl,_⟩:=d;rfl;obtain⟨A,b,rfl,⟨h,rfl,e⟩,g,n⟩:=d;rw[tx]at e;obtain⟨B,o,p,q⟩:=S3 b;refine⟨_,aA (bx (fD so (bU ji (bQ a c.S0 (u:=.ref we) a) (bU ji (x 0) bt (λ_ _=>rfl)) (λ_ _=>rfl)) (nw DW a c.Ih (by rfl) (I (bU ji (x 0) bt (λ_ _=>rfl)) ae)))),?_⟩;refine⟨_,a,h,_,_,_,a,a,.inl e,a,we,_,_,_,a,a,c.aZ _,o,_,a,h,_,_,_,a,a,.inl e,a,_,a,Ii g,_,_,a,a,?_,?_⟩;rw[(wh g).2,gT,gT,q];have:(gG (ek b)).length<=2:=wg ⟨ek b,by omega⟩;exact fX (c1 (by omega));rw[(wh g).2,Bj,<-p];exact n
def S7:b2 ["sort"] ["sort"] (bo Bl):=⟨a,a,a,∅,a,∅,∅⟩
def S8(F:bO K "sort_word" "sort_word" Bl f ai)(T:cT K mg)(b:tv K mg):bd P w K mg base a7 1 f ai ["sort"] tw:=by refine F.ok S7 (λn o p q h=>?_) (λG J L M o n p q r h=>?_);obtain⟨x,N,rfl,_⟩:=h;rfl;obtain⟨O,c,rfl,⟨i,rfl,d⟩,e,v,k⟩:=h;have l:=d;rw[rc]at d;refine⟨_,ay (cp (b7 (s:=sz K) (by exact yt r.units) (x 0) (bQ a T.sV (u:=.ref hX) a) (cf _)) (aA (bx (bU ji (bQ a b.Ie (u:=.ref rB) a) bt (λ_ _=>rfl)))) cO) (aA (bx (fD so (bU ji (bQ a b.Ie (u:=.ref rB) a) (bU ji (x 0) bt (λ_ _=>rfl)) (λ_ _=>rfl)) (nw DW a b.Ih (by rfl) (I (bU ji (x 0) bt (λ_ _=>rfl)) ae))))),?_⟩;obtain⟨Q,R,y,m⟩:=Gp c;rw[y]at l;refine⟨_,a,_,_,oH l,oH v,oG _ _,oG _ _,_,a,?_⟩;dsimp only;rw[vw];by_cases g:c= .num;rw[bw (m.mpr g)];subst g;exact cm ⟨rB,_,_,_,a,a,b.Ig _,a,k⟩;rw[bq λz=>g (m.mp z)];obtain⟨S,A,B,C,D⟩:=S4 g;rw[<-D]at e;refine cq ⟨_,a,i,_,_,_,a,a,.inl d,a,rB,_,_,_,a,a,b.Ig _,A,_,a,i,_,_,_,a,a,.inl d,a,_,a,Ii e,_,_,a,a,?_,?_⟩;rw[(wh e).2,gT,gT,C];have:(gG (ck c)).length<=2:=wg ⟨ck c,by omega⟩;exact fX (c1 (by omega));rw[(wh e).2,Bj,<-B];exact k
def Bn{n:List Nat}{y:Nat}(d:∀i∈n,i<=y):n.sum<=y*n.length:=by
 induction n with
 |nil=>simp
 |cons b f c=>rw[l1,cy,Nat.mul_succ];have g:=d b b8;have h:=c λi e=>d i (cv _ e);omega
def Ir{n:List ak}{y:Nat}(d:∀i∈n,i.length<=y):n.flatten.length<=y*n.length:=by
 rw[List.length_flatten];have:=Bn (n:=n.map nv) (y:=y) λi b=>by obtain⟨c,e,rfl⟩:=cx.mp b;exact d c e
 rw[aV]at this;exact this
noncomputable def linesAt(b:List a2)(aj:av->List aI)(m:av):List ak:=if b6 (bp b) (aj m)=[]then[]else[iH m (b6 (bp b) (aj m))++[10]]
def It(b:List a2)(aj:av->List aI)(aZ:List av):(aZ.flatMap (linesAt b aj)).flatten=aZ.flatMap (rD b aj):=by
 induction aZ with
 |nil=>rfl
 |cons d e c=>rw[ds,v3,c,ds];congr 1;delta linesAt rD;split;rfl;simp
def Bo(b:List a2)(aj:av->List aI)(aZ:List av):(aZ.flatMap (linesAt b aj)).length<=aZ.length:=by
 induction aZ with
 |nil=>exact bC _
 |cons c d e=>
  rw[ds,b4,cy];have:(linesAt b aj c).length<=1:=by delta linesAt;split;exact dC _;exact bC _
  omega
def Iu(d:bf.length<=30){aZ:List av}(c:∀m∈aZ,m∈a_ bf):∀p∈aZ.flatMap (linesAt bf aj),p.length<=129:=λp b=>by
 obtain⟨m,e,b⟩:=cR.mp b;unfold linesAt at b;split at b;cases b;have:p=iH m (b6 (bp bf) (aj m))++[10]:=by simpa using b
 rw[this,b4,fS];have:=Iq d (c m e) (aj m);omega
def p1:b2 ["table","lines","place","sorts","words","sort"] Zx (bo Bm):=⟨a,a,a,∅,a,∅,∅⟩
inductive Iv(c:z)(p:t)(b:List a2)(f:av->List aI)(d:t)(k:Nat)(g:bT.St)(e:z):Prop|mk:∀h i l m,g=[j (.ref p),j (.ref d),h,i,l,m]->Q c e->e d=j (.L (hD (((a_ b).take k).flatMap (linesAt b f))))->Iv c p b f d k g e
def S9(F:bO K "write_table" "write_table" Bm f ai)(T:cT K mg)(aW:eE P w K mg base a7 2 b_ "sorts_at" Zp oJ)(aY:bI P w K mg base a7 1 "place_word" Zz wi)(a0:bI P w K mg base a7 1 "sort_word" ["sort"] tw)(a2:bI P w K mg base a7 1 "bytes_of" ["signs"] wc):bd P w K mg base a7 3 f ai Zx wj:=by
 refine F.ok p1 (λa3 o a6 B i=>?_) (λb2 a8 b3 O o a3 a6 B ao i=>?_);obtain⟨p,b,a8,aj,rfl,_⟩:=i;rfl;obtain⟨p,b,r,aj,rfl,S,d,a9⟩:=i;have W:cV 1 _:=ao.aG nofun;refine⟨_,ay (bZ (k:=1) p1.nd a (aU a) (dR ae)) (ay (fg gx a (dU (a1 (x 0) a)) (cF (k:=2) p1.nd a (aU a)) (ay (bZ (k:=3) p1.nd a (aU a) (fI (B:=b9) aW (x 0) ao bN (I (x 2) ae))) (aA (cp (b7 nr (en fE a T.eP e3 (I (x 3) ae)) bt (cf _)) (ay (bZ (k:=4) p1.nd a (aU a) (fD nx (dR (I (bP (B:=b9) aY W a bN (I (x 2) ae)) ae)) (hV (own:=[("sort",5)]) (g:=d0 5) (cK:=hd) (bj:=sr tw [] b9 (dx (cD 5) e1)) a p1.nd (dU (x 3)) (f6 a) (λO o ap ar av=>cF (k:=5) p1.nd a (aU a)) (λO o ap ar av=>jk) (λO o ap ar av=>bP (B:=b9) a0 W a bN (I (x 5) ae))))) (aA (c' (fF fK hT iq hS (x 1) (I (fD so (zb c_ (x 4)) c_) ae))))) cO)))) (aA (bx (bP (B:=b9) a2 W a bN (I (zb c_ (x 1)) ae))))),?_⟩;refine⟨YR,λX ax=>?_⟩;have Y:=Q.fresh (q:=aC.L []) ax;obtain⟨ba,aB,aE⟩:=S.bi;have bb:=oK b d;refine⟨_,a,p,b_,r.a4,_,_,a,(S.same Y).az,T.dV,T.q6,a,r.gP,a,⟨_,an.au (Y _ _ aB)⟩,?_⟩;refine g' (K:=K) (e:=r.gP) (M:=ba) (Iv o p b aj X)
  ⟨E,E,E,E,a,Y,by rw[aw];rfl⟩ (λk aF s _ ⟨_,_,_,_,_,bc,_⟩=>an.au (bc _ _ aB)) ?_ ?_
 rintro k l aF s u ⟨bf,bg,bh,bk,rfl,h,v⟩;obtain⟨c,z,bl⟩:=aE.fq u;have D:c∈a_ b:=ev z;have Z:=S.same h;have aH:b1 s c l:=TupAt.same h bl;refine⟨_,a,p,r.a4,_,a,Z.az,a,_,a,p,_,b,_,_,r,aj,c,a,Z,aH,D,f_ d,λb' aa aI A ca ad m=>?_⟩;refine⟨_,a,aa,_,a,.inl (an.au ad),_,_,a,a,_,a,?_⟩;dsimp only;rw[<-m.length];have af:=Bo b aj ((a_ b).take k);rw[ic]at af;by_cases G:b6 (bp b) (aj c)=[];rw[bq (by rw[G];decide)];refine cq ⟨_,_,_,_,a,h.trans A,?_⟩;rw[eF z,lG];have:([c].flatMap (linesAt b aj))=[]:=by show linesAt b aj c++[]=[];delta linesAt;rw[as G];rfl
 rw[this,fT];exact A _ _ v;have cc:0<(b6 (bp b) (aj c)).length:=xA.mpr G;rw[bw (by omega)];refine cm ⟨_,a,_,c,a,TupAt.same A aH,kZ d D,YS,λbn bo=>?_⟩;have J:=Q.fresh (q:=aC.L [.str (aX (eC c))]) bo;refine⟨_,a,aa,a,⟨_,an.au (J _ _ ad)⟩,?_⟩;intro br bs;have bu:aI.length<=31:=by rw[<-m.length];exact b5 (hW _ _) (f_ d)
 refine iN (K:=K) (e:=aa) (M:=aI) (R:=λ_ (w:ak) bA=>bA=V.str (aX w)) (aQ:=λk=>((b6 (bp b) (aj c))[k]?).map eK) (λ_ _ _ _ _ i=>i) (λ_ _ _ _ _ _ i _=>i) (λs h=>an.au (h _ _ (J _ _ ad))) (c1 (by omega)) bs ?_ ?_;intro cd bB cg ci cj bD bF bH _;obtain⟨e,N,bJ⟩:=m.fq bD;have aK:=J.trans bF;refine⟨a,mu ⟨_,a,bB,e,a,TupAt.same aK bJ,k0 d ((mB (ev N)).1),(((Z.same A).same aK).num),?_⟩⟩;exact bH _ _ (eK e) (Q.id _) (by rw[N];rfl) a;intro bL bQ aL bR ah;rw[<-m.length,ms]at ah;refine⟨bn,br,_,_,a,a,aL _ _ aw,bR,fX (c1 (by rw[fS,<-ah.length,aV,m.length];omega)),λaM bS=>?_⟩;have bT:[V.str (aX (eC c))]++bQ=((eC c::(b6 (bp b) (aj c)).map eK).map aX).map V.str:=by rw[ah.map];simp[Function.comp_def]
 rw[bT];have aN:Q s (U bL aM (.L (((eC c::(b6 (bp b) (aj c)).map eK).map aX).map V.str))):=(A.trans (J.trans aL)).trans (Q.fresh (q:=aC.L (((eC c::(b6 (bp b) (aj c)).map eK).map aX).map V.str)) bS);have aP:=aN _ _ v;have bU:∀w∈(eC c::(b6 (bp b) (aj c)).map eK),w.length<=3:=λw hw=>by obtain rfl|hw:=bm.mp hw;exact Im (kZ d D);obtain⟨e,N,rfl⟩:=cx.mp hw;exact Io (k0 d (mB N).1)
 have ck:(b6 (bp b) (aj c)).length<=31:=by rw[m.length];exact bu
 refine⟨_,a,.inl ⟨a,_,an.au aP⟩,⟨_,a⟩,_,a,_,aM,_,a,a,.inl (an.au aw),?_,?_⟩;rw[fU,aV,cy,aV];have al:=Bn (n:=(eC c::(b6 (bp b) (aj c)).map eK).map ((λl=>l.length)∘aX)) (y:=3) λl u=>by obtain⟨w,hw,rfl⟩:=cx.mp u;show(aX w).length<=3;rw[gT];exact bU w hw
 rw[aV,cy,aV]at al;have C:(eD " ").length=1:=rfl;rw[C];omega;rw[Il];have cl:=Iq d D (aj c);refine⟨_,_,a,a,?_,?_⟩;show(aX (iH c (b6 (bp b) (aj c)))).length+(eD "\n").length<=aD;rw[gT];have C:(eD "\n").length=1:=rfl;rw[C];exact fX (c1 (by omega));have bV:(eD "\n")=aX [10]:=rfl;rw[bV,Bj];refine⟨X,_,_,a,a,aP,?_,?_⟩;delta hD;rw[aV];exact c1 (by omega);refine⟨_,_,_,_,a,(h.trans aN).bK ax,?_⟩;rw[aw,eF z,lG];have:([c].flatMap (linesAt b aj))=[iH c (b6 (bp b) (aj c))++[10]]:=by show linesAt b aj c++[]=_;delta linesAt;rw[ag G];rfl
 rw[this];delta hD;rw[cS];rfl;rintro aF s ⟨bf,bg,bh,bk,rfl,h,v⟩;rw[<-aE.length,f8]at v;have af:=Bo b aj (a_ b);have aR:=Iu d (aj:=aj) (aZ:=a_ b) (λc z=>z);have cn:((a_ b).flatMap (linesAt b aj)).flatten.length<=129*900:=b5 (Ir aR) (S_ _ (b5 af bb));refine⟨⟨_,a⟩,_,a,_,X,((a_ b).flatMap (linesAt b aj)).map aX,a,a,.inl (an.au (by rw[v,fU];rfl)),?_,?_⟩;rw[fU,aV];have al:=Bn (n:=((a_ b).flatMap (linesAt b aj)).map ((λl=>l.length)∘aX)) (y:=129) λl u=>by obtain⟨w,hw,rfl⟩:=cx.mp u;show(aX w).length<=129;rw[gT];exact aR w hw
 rw[aV]at al;have C:(eD "").length=0:=rfl;rw[C];omega;rw[S2];refine⟨((a_ b).flatMap (linesAt b aj)).flatten,a,by omega,λbW bX bY b0 aT=>?_⟩;rw[It]at aT;exact a9 bW bX (h.trans bY) (h.free b0) aT
def Bp(c:Y.cY h)(aj:av->List aI):fb (aE h) aj=nb h (dX h aj):=by delta fb;rw[Y.t6,e4 c];apply jr;intro d e;delta rD Y.na;rw[s6 e,it c];by_cases b:b6 (d8 h) (aj d)=[];rw[as b,as (by rw[b];rfl)];rw[ag b,ag (λf=>b (xs.mp f))]
def S'(b:Y.cY h)(c:∀m∈a_ (aE h),∀e∈aj m,e∈bp (aE h))(d:kT (aE h) aj):fb (aE h) aj=nb h (cz h):=by rw[Bp b,oL b c d,Y.xv]
abbrev mM:=(av×av)×Nat
def jY(b:List a2)(aj:av->List aI):List mM:=(er b.length).flatMap λn=>match b[n]? with
 |some c=>(fr b aj c n).map λw=>(w,n)
 |none=>[]
inductive Iw(c:z)(w:mM)(u:V):Prop|mk:∀b d e,u= .ref b->c b=j (.aF [d,e,.int (w.2:Nat)])->b1 c w.1.1 d->b1 c w.1.2 e->Iw c w u
def iz(c:z)(w:mM)(u:V):Prop:=Iw c w u
def iz.aG(c b:z)(w:mM)(u:V)(h:Q c b)(d:iz c w u):iz b w u:=
 let⟨e,f,g,i,k,l,m⟩:=d
 ⟨e,f,g,i,h _ _ k,l.same h,m.same h⟩
def iz.own{e:t}(c:z)(w:mM)(u:V)(q:aC)(d:c e=j q)(g:∃aN,q= .L aN)(s:iz c w u)(aN:List V):iz (U c e (.L aN)) w u:=by obtain⟨o,rfl⟩:=g;obtain⟨h,i,k,l,f,m,n⟩:=s;exact⟨h,i,k,l,by rw[aH (ct f d ⋯)];exact f,TupAt.bK m d (λ_=>⋯) (λ_ _=>⋯),TupAt.bK n d (λ_=>⋯) (λ_ _=>⋯)⟩
def Ix(d:bf.length<=30)(aj:av->List aI)(o:a2)(n:Nat):(fr bf aj o n).length<=64:=by delta fr;rw[b4];have:=GF o n;have:=GG d aj o n;omega
abbrev Bq:be:=b3 49
inductive wk(G:List V)(c:z)(e:aW)(i:bn):Prop|mk:∀(f:t) (b:List a2) (k:c4) (g:av->List aI),G=[.ref f]->fN c f b k g->Good b->(∀(O:z) (d:t) (h:List V),Q c O->c d=E->O d=j (.L h)->br (iz O) (jY b g) h->e (.ref d) O)->wk G c e i
def wl(b:List a2)(aj:av->List aI):Option (av×aI):=(f9 b).find? λw=>decide (w.2∉aj w.1)
def nT(b:List a2)(aj:av->List aI)(w:mM):List (av×aI):=(b6 (bp b) (aj w.1.1)).map λc=>(w.1.2,c)
def wm(b:List a2)(aj:av->List aI):Option (av×aI):=((jY b aj).flatMap (nT b aj)).find? λw=>decide (w.2∉aj w.1)
def p2(b:List a2)(aj:av->List aI):Option (av×aI):=(wl b aj).or (wm b aj)
abbrev Br:be:=b3 48
inductive Bs(G:List V)(c:z)(d:aW)(h:bn):Prop|mk:∀(f:t) (b:List a2) (i:c4) (e:av->List aI),G=[.ref f]->fN c f b i e->Good b->GoodW b->(p2 b e=E->∀O,Q c O->d .aL O)->(∀w,p2 b e=j w->∀(O:z) (g:V),Q c O->ka O w g->d g O)->Bs G c d h
abbrev Bt:be:=b3 108
variable{a3:Type}
def Iy{m:a3->Bool}{n:List a3}{k:Nat}{i:a3}(d:n[k]?=j i)(b:∀D∈n.take k,m D=am)(c:m i=H):n.find? m=j i:=by
 induction n generalizing k with
 |nil=>simp at d
 |cons e h f=>
  cases k with
  |zero=>simp at d;subst d;rw[ez,c]
  |succ k=>rw[ez,b e (by simp)];exact f (k:=k) (by simpa using d) λD g=>b D (by simp[g])
def Bu{m:a3->Bool}{n:List a3}(c:∀D∈n,m D=am):n.find? m=E:=by rw[n6];intro d e b;rw[c d e]at b;cases b
def rE:b2 ["table","ways","label","begin","end"] Zx (bo Bq):=⟨a,a,a,∅,a,∅,∅⟩
inductive Iz(c:z)(p d:t)(e:Nat->List mM)(k:Nat)(f:bT.St)(b:z):Prop|mk:∀h i l g,f=[j (.ref p),j (.ref d),h,i,l]->Q c b->b d=j (.L g)->br (iz b) ((er k).flatMap e) g->Iz c p d e k f b
def Ta(F:bO K "list_ways" "list_ways" Bq f ai)(T:cT K mg)(aE:bI P w K mg base a7 6 "ways_of" Zi vI):bd P w K mg base a7 7 f ai Zx wk:=by
 refine F.ok rE (λaH m aI B z=>?_) (λbn aK bo A m aH aI B aL z=>?_);obtain⟨h,b,aK,d,rfl,_⟩:=z;rfl;obtain⟨h,b,C,d,rfl,X,n,aM⟩:=z;refine⟨_,ay (bZ (k:=1) rE.nd a (aU a) (dR ae)) (ay (fg gx a (qH a T.q8 (I (en fE a T.eP e3 (I (a1 (x 0) a) ae)) ae)) (cF (k:=2) rE.nd a (lA a)) (aA (c' (fF fK ov ra qS (x 1) (I (hV (own:=[("begin",3),("end",4)]) (g:=oi K 2 (jL (d0 3) (jL (d0 4) pf))) (cK:=hd) (bj:=hP (dx (cD 3) (dx (cD 4) (dx (cD 2) e1)))) a rE.nd (dU (bP (B:=b9) aE aL a bN (I (x 0) (I (x 2) ae)))) (f6 a) (λA m Y Z aa=>kz a (fo (cF (k:=3) rE.nd a (aU a)) (fo (cF (k:=4) rE.nd a (aU a)) ky))) (λA m Y Z aa=>jk) (λA m Y Z aa=>cP (I (x 3) (I (x 4) (I (x 2) ae))))) ae))))) (aA (bx (x 1)))),?_⟩;refine⟨YR,λD G=>?_⟩;have ad:=Q.fresh (q:=aC.L []) G;have af:=X.same ad;obtain⟨aN,aP,ah,bp⟩:=af.eX;have aR:((aN.map V.ref).length:Int).toNat=b.length:=by rw[aV,ah];omega
 refine⟨_,a,h,b_,C.a4,_,_,a,af.az,T.dV,T.iO,a,C.cs,_,a,.inl (an.au aP),_,a,?_,?_,?_⟩;omega;rw[aV,ah];have:=n.len;omega;rw[aR]
 let i:Nat->List mM:=λc=>match b[c]? with
  |some o=>(fr b d o c).map λw=>(w,c)
  |none=>[]
 have aj:∀c,(i c).length<=64:=λc=>by
  show(match b[c]? with|some o=>(fr b d o c).map λw=>(w,c)|none=>[]).length<=64;cases b[c]? with
  |none=>exact dC _
  |some o=>rw[aV];exact Ix n.len d o c
 have aT:∀r:List Nat,(r.flatMap i).length<=64*r.length:=λr=>by
  induction r with
  |nil=>simp
  |cons e br bs=>rw[ds,b4,cy];have:=aj e;omega
 refine sk (lo:=0) (o:=b.length) (Iz m h D i)
  ⟨E,E,E,[],a,ad,aw,.nil⟩ ?_ ?_
 rintro k aW J aX ⟨aY,aZ,a0,N,rfl,l,s,u⟩;obtain⟨o,ak⟩:∃o,b[k]?=j o:=⟨_,gE aX⟩;refine⟨_,a,.inl ⟨a,_,an.au s⟩,_,a,_,a,h,k,b,C,d,o,(by simp),(X.same l),n,ak,λbt al ao a2 ap O=>⟨al,a,⟨_,an.au ap⟩,?_⟩⟩;intro a3 a6;have bu:ao.length<=64:=by rw[<-O.length];exact Ix n.len d o k
 refine iN (K:=K) (e:=al) (M:=ao) (R:=iz) (aQ:=λar=>((fr b d o k)[ar]?).map λw=>(w,k)) iz.aG iz.own (λJ l=>an.au (l _ _ ap)) (c1 (by omega)) a6 ?_ ?_;intro ar v bA bB bD a8 S a9 _;obtain⟨a_,hw,ba,av,ax,rfl,bb,bc,bf⟩:=O.fq a8;refine⟨ba,_,a,ej.au (S _ _ bb),a,_,_,a,_,_,a,a,a,mu ?_⟩;refine⟨_,a,_,a,_,a,YU,λbg bh=>?_⟩;have p:=Q.fresh (q:=aC.aF [av,ax,.int (0+(k:Nat))]) bh;exact a9 _ _ (a_,k) p (by rw[hw];rfl) ⟨bg,av,ax,a,by rw[aw];simp,(bc.same S).same p,(bf.same S).same p⟩;intro bF bi p bk y;rw[<-O.length,ms]at y;have bl:i k=(fr b d o k).map λw=>(w,k):=by show(match b[k]? with|some o=>(fr b d o k).map λw=>(w,k)|none=>[])=_;rw[ak]
 rw[<-bl]at y;have U:=a2.trans p;have aB:=U _ _ s;have bH:N.length<=1920:=by rw[<-u.length];have:=aT (er k);rw[zj]at this;have:=n.len;omega
 have bJ:bi.length<=64:=by rw[<-y.length];exact aj k
 refine⟨D,a3,_,_,a,a,aB,bk,fX (jo (show _<=9000 by omega) kU),?_⟩;refine⟨_,_,_,_,a,(l.trans U).bK G,aw,?_⟩;rw[F9,lG];rw[(by simp:([k].flatMap i)=i k)];exact((u.aG λv W h=>iz.aG _ _ v W U h).append y).aG λv W h=>iz.own _ v W _ aB ⟨_,a⟩ h _;rintro aW J ⟨aY,aZ,a0,N,rfl,l,s,u⟩;exact⟨_,a,aM J D N l G s u⟩
def p3:b2 ["table","place","sort","begin","end","maker"] Zx (bo Br):=⟨a,a,a,∅,a,∅,∅⟩
inductive IA(p:t)(b:List a2)(c:av->List aI)(d:z)(k:Nat)(e:bT.St)(f:z):Prop|mk:∀g h i l m,e=[j (.ref p),g,h,i,l,m]->Q d f->(∀w∈(f9 b).take k,decide (w.2∉c w.1)=am)->IA p b c d k e f
inductive IB(p:t)(c:List a2)(b:av->List aI)(d:z)(k:Nat)(e:bT.St)(f:z):Prop|mk:∀g h i l m,e=[j (.ref p),g,h,i,l,m]->Q d f->(∀w∈((jY c b).take k).flatMap (nT c b),decide (w.2∉b w.1)=am)->IB p c b d k e f
inductive IC(p:t)(d:List a2)(c:av->List aI)(e:Option V)(b:mM)(f g:V)(h:z)(r:Nat)(i:bT.St)(k:z):Prop|mk:∀l,i=[j (.ref p),e,l,j f,j g,j (.int (b.2:Nat))]->Q h k->(∀m∈(b6 (bp d) (c b.1.1)).take r,decide (m∉c b.1.2)=am)->IC p d c e b f g h r i k
def Tb(F:bO K "first_lacking" "first_lacking" Br f ai)(T:cT K mg)(bi:bI P w K mg base a7 3 "list_own_needs" Zw q_)(aH:eE P w K mg base a7 2 b_ "has" Y9 pL)(bj:bI P w K mg base a7 7 "list_ways" Zx wk)(bk:eE P w K mg base a7 2 b_ "sorts_at" Zp oJ):bd P w K mg base a7 8 f ai Zx Bs:=by
 refine F.ok p3 (λbl bn bo B O=>?_) (λb3 bp b6 b7 bn bl bo B R O=>?_);obtain⟨h,b,bp,c,rfl,_⟩:=O;rfl;obtain⟨h,b,l,c,rfl,o,S,br,aI,U⟩:=O;have V:cV 2 _:=R.aG nofun;refine⟨_,ay (fg gx a (dU (bP (B:=b9) bi (R.aG nofun:cV 3 _) a bN (I (a1 (x 0) a) ae))) (kz a (fo (cF (k:=1) p3.nd a (aU a)) (fo (cF (k:=2) p3.nd a (aU a)) ky))) (aA (cp (sb (mc (fI (B:=b9) aH (x 0) V bN (I (x 1) (I (x 2) ae))))) (aA (bx (cP (I (x 1) (I (x 2) ae))))) cO))) (ay (fg gx a (dU (bP (B:=b9) bj R a bN (I (x 0) ae))) (kz a (fo (cF (k:=3) p3.nd a (aU a)) (fo (cF (k:=4) p3.nd a (aU a)) (fo (cF (k:=5) p3.nd a (aU a)) ky)))) (aA (fg gx a (dU (fI (B:=b9) bk (x 0) V bN (I (x 3) ae))) (cF (k:=2) p3.nd a (aU a)) (aA (cp (sb (mc (fI (B:=b9) aH (x 0) V bN (I (x 4) (I (x 2) ae))))) (aA (bx (cP (I (x 4) (I (x 2) ae))))) cO))))) (aA (bx jK))),?_⟩;refine⟨_,a,h,b_,l.a4,_,_,a,o.az,T.dV,T.iO,a,l.cs,b,a,o.eX,S.len,o.num,λbs aK bt aL b' aM aN=>⟨aK,a,⟨_,an.au aM⟩,?_⟩⟩;refine g' (K:=K) (e:=aK) (M:=bt) (IA h b c bs)
  ⟨E,E,E,E,E,a,Q.id _,by simp⟩ (λk p r _ ⟨_,_,_,_,_,_,i,_⟩=>an.au (i _ _ aM)) ?_ ?_
 rintro k bu p r W ⟨L,X,Y,Z,aa,rfl,d,y⟩;obtain⟨m,ad,af,z,s,rfl,ah,bA,bB⟩:=aN.fq W;obtain⟨aj,aP,A,ca,bD⟩:=GN ad;have bF:m.1∈a_ b:=by rw[bD];exact iS (es.mp A).1
 have aQ:=aL.trans d;have C:=o.same aQ;have pp:b1 r m.1 z:=bA.same d;have aR:d' r m.2 s:=bB.same d;refine⟨af,_,a,ej.au (d _ _ ah),a,_,_,a,_,_,a,a,?_⟩;refine⟨_,a,h,l.a4,_,a,C.az,a,_,a,_,a,h,_,_,b,_,_,l,c,m.1,m.2,a,C,pp,aR,bF,_,a,?_⟩;dsimp only;by_cases n:m.2∈c m.1;rw[bw n];refine cq ⟨_,_,_,_,_,a,d,λw hw=>?_⟩;rw[eF ad]at hw;obtain hw|hw:=bE.mp hw;exact y w hw;have:w=m:=by simpa using hw
 subst this;exact bq (λi=>i n);rw[bq n];refine cm ⟨_,a,_,a,YT,λak al=>?_⟩;have D:=Q.fresh (q:=aC.aF [z,s]) al;refine U m ?_ _ _ (aQ.trans D) ⟨ak,z,s,a,aw,pp.same D,aR.same D⟩;delta p2 wl;rw[Iy ad y (bw n)];rfl;rintro p cc ⟨L,X,Y,Z,aa,rfl,bH,y⟩;rw[<-aN.length,f8]at y;have bJ:wl b c=E:=Bu y;have bK:p2 b c=wm b c:=by delta p2;rw[bJ];rfl
 rw[bK]at aI U;have aT:=aL.trans bH;refine⟨_,a,h,b,l,c,a,o.same aT,S,λbL aW bQ D cd aX aY=>⟨aW,a,⟨_,an.au aX⟩,?_⟩⟩;have aZ:=aT.trans D;refine g' (K:=K) (e:=aW) (M:=bQ) (IB h b c bL)
  ⟨_,_,_,_,_,a,Q.id _,by simp⟩ (λk p r _ ⟨_,_,_,_,_,_,i,_⟩=>an.au (i _ _ aX)) ?_ ?_
 rintro k bu p r W ⟨L,X,Y,Z,aa,rfl,d,G⟩;obtain⟨g,hw,af,z,s,rfl,ah,bR,bS⟩:=aY.fq W;have a0:=aZ.trans d;have C:=o.same a0;have a2:g∈jY b c:=ev hw;have a3:g.1.1∈a_ b/\g.1.2∈a_ b:=by
  unfold jY at a2;obtain⟨aj,cf,N⟩:=cR.mp a2;cases A:b[aj]? with
  |none=>rw[A]at N;cases N
  |some aP=>rw[A]at N;obtain⟨bT,bU,rfl⟩:=cx.mp N;exact br aj aP c A o.sub bT bU
 refine⟨af,_,a,ej.au (d _ _ ah),a,_,_,a,_,_,a,_,_,a,a,?_⟩;refine⟨_,a,h,l.a4,_,a,C.az,a,_,a,h,_,b,_,_,l,c,g.1.1,a,C,bR.same d,a3.1,f_ S.len,λbV a6 bW ao cg a8 a9=>⟨a6,a,⟨_,an.au a8⟩,?_⟩⟩;refine g' (K:=K) (e:=a6) (M:=bW) (IC h b c L g z s bV)
  ⟨_,a,Q.id _,by simp⟩ (λba p r _ ⟨_,_,i,_⟩=>an.au (i _ _ a8)) ?_ ?_
 rintro ba ap p ar bX ⟨bY,rfl,v,J⟩;obtain⟨e,bb,bZ⟩:=a9.fq bX;have bc:=(a0.trans ao).trans v;have bf:=o.same bc;have bg:b1 ar g.1.2 s:=((bS.same d).same ao).same v;have bh:d' ar e ap:=bZ.same v;refine⟨_,a,h,l.a4,_,a,bf.az,a,_,a,_,a,h,_,_,b,_,_,l,c,g.1.2,e,a,bf,bg,bh,a3.2,_,a,?_⟩;dsimp only;by_cases n:e∈c g.1.2;rw[bw n];refine cq ⟨_,a,v,λw hw=>?_⟩;rw[eF bb]at hw;obtain hw|hw:=bE.mp hw;exact J w hw;have:w=e:=by simpa using hw
 subst this;exact bq (λi=>i n);rw[bq n];refine cm ⟨_,a,_,a,YT,λak al=>?_⟩;have av:=Q.fresh (q:=aC.aF [s,ap]) al;refine U (g.1.2,e) ?_ _ _ (bc.trans av) ⟨ak,s,ap,a,aw,bg.same av,bh.same av⟩;delta wm;have b0:jY b c=(jY b c).take k++g::(jY b c).drop (k+1):=by rw[<-Hn hw,ID]
 rw[b0,lG,mN,Bu G,ds,mN];have b2:(nT b c g).find? (λw=>decide (w.2∉c w.1))=j (g.1.2,e):=by refine Iy (k:=ba) (by delta nT;rw[d2,bb];rfl) (λi ax=>?_) (bw n);unfold nT at ax;rw[<-IE]at ax;obtain⟨aB,aE,rfl⟩:=cx.mp ax;exact J aB aE
 rw[b2];rfl;rintro p ar ⟨bY,rfl,v,J⟩;rw[<-a9.length,f8]at J;refine⟨_,_,_,_,_,a,(d.trans ao).trans v,λw u=>?_⟩;rw[eF hw,lG]at u;obtain u|u:=bE.mp u;exact G w u;have u:w∈nT b c g:=by simpa using u
 obtain⟨aB,aE,rfl⟩:=cx.mp u;exact J aB aE;rintro p r ⟨L,X,Y,Z,aa,rfl,d,G⟩;rw[<-aY.length,f8]at G;exact aI (Bu G) r (aZ.trans d)
def IF:b2 ["flows","handed","text"] Zd (bo Bt):=⟨a,a,a,∅,a,∅,∅⟩
def Tc(F:bO K "answer_table" "answer_table" Bt f ai)(T:cT K mg)(ba:hl K mg)(s:bI P w K mg base a7 3 "write_table" Zx wj):bd P w K mg base (bh P w K mg) 4 f ai Zd (lS K 0 λ_=>.table):=by
 refine F.okE IF (λu v y B e=>?_) (λU z V W v u y B A e=>?_);obtain⟨l,m,C,args,b,z,c,rfl,_⟩:=e;rfl;obtain⟨l,m,C,args,b,D,c,rfl,d,X,Y,Z,G,aa⟩:=e;have g:=jV d.dn;refine⟨_,ay (bZ (k:=2) IF.nd a (aU a) (bP (B:=b9) s A a bN (I (a1 (x 0) a) ae))) (aA (bx (fD nx (dR (I (en fE a T.eP e3 (I (x 2) ae)) ae)) (x 2)))),?_⟩;obtain⟨J,M⟩:=d.az;refine⟨_,a,l,e6,J,_,_,a,M,ba.hF,ba.fQ,a,m,aE b,D,c,a,d.tab,g.len,λad h n o p=>?_⟩;refine⟨_,a,h,_,a,.inl (an.au p),YS,λN O=>?_⟩;have i:=Q.fresh (q:=aC.L [.int ((gh (fb (aE b) c)).length:Nat)]) O;have af:(gh (fb (aE b) c)).length<=129*900:=by delta gh;rw[aV];delta fb;rw[<-It];exact b5 (Ir (Iu g.len λh o=>o)) (S_ _ (b5 (Bo _ _ _) (oK _ g.len)))
 refine⟨_,a,N,h,_,_,a,a,aw,i _ _ p,?_,λR r=>?_⟩;rw[fS];exact fX (jo (show _<=129*900+1 by omega) nofun);have S:=Q.fresh (q:=aC.L ([.int ((gh (fb (aE b) c)).length:Nat)]++gh (fb (aE b) c))) r;refine G _ a _ R ((n.trans i).trans S) ((n.trans i).free r) ?_;rw[aw];show j (aC.L _)=j (aC.L (b' (Td (nb b (cz b)))));rw[<-S' d.dn.ck d.tab.sub d.L];unfold b' Td gh;rw[bz,fU,aV];rfl
def kk:ak:=dI "abcfmnprux0123456789 \n"
def Te:kk.Nodup:=∅
def Tf:eD "abcfmnprux0123456789 \n"=aX kk:=∅
def Tg:∀b∈kk,Bv b.toNat=decide (b=10):=∅
noncomputable def rF:Nat->List ak->List (Nat×Nat×Nat)
 |_,[]=>[]
 |y,n::b=>(y,y+n.length,y+n.length+1)::rF (y+n.length+1) b
noncomputable def fR(b:List ak):ak:=(b.map λn=>n++[10]).flatten
def p4(n:ak)(s:List ak):fR (n::s)=n++10::fR s:=by delta fR;simp
def Bw(p:ak)(k:Nat):(aX p).cps.getD k 0=((p[k]?).map fP).getD 0:=by show((p.map fP).toArray).getD k 0=_;rw[Array.getD_eq_getD_getElem?];simp
theorem IG(p:ak)(st:IH)(c:List Nat):∀(v b:Nat),(∀k,b<=k->k<b+v->Bv ((aX p).cps.getD k 0)=am)->Id.run (forIn (m:=Id) (h8 b v++c) st (wn (aX p)))=Id.run (forIn (m:=Id) c st (wn (aX p)))
 |0,b,_=>rfl
 |v+1,b,d=>by rw[r2,hJ,EW];unfold wn;rw[d b (bC _) (by omega),uO];simp only[kK,ig];exact IG p st c v (b+1) λk e f=>d k (by omega) (by omega)
theorem II(p:ak):∀(g:List ak) (c:Nat) (f:Array (Nat×Nat×Nat)),p.drop c=fR g->(∀n∈g,∀b∈n,b∈kk/\b≠10)->Id.run (forIn (m:=Id) (h8 c (fR g).length) ((f,c):IH) (wn (aX p)))=((f.toList++rF c g).toArray,c+(fR g).length)
 |[],c,f,_,_=>by simp[fR,rF]
 |n::d,c,f,i,k=>by
  have r:(fR (n::d)).length=n.length+(1+(fR d).length):=by rw[p4];simp;omega
  have u:∀e,c<=e->e<c+n.length->(∃b∈n,p[e]?=j b):=λe l o=>by
   have:(p.drop c)[e-c]?=p[e]?:=by rw[Th];congr 1;omega
   rw[i,p4,uz (by omega)]at this;exact⟨_,Op (by omega:e-c<n.length),by rw[<-this,gE (by omega)]⟩
  have q:p[c+n.length]?=j 10:=by have:(p.drop c)[n.length]?=p[c+n.length]?:=Th;rw[i,p4,pr (bC _)]at this;rw[<-this];simp
  have h2:p.drop (c+n.length+1)=fR d:=by
   have:p.drop (c+n.length+1)=(p.drop c).drop (n.length+1):=by rw[sK];congr 1
   rw[this,i,p4,Ti];simp
  rw[r,show h8 c (n.length+(1+(fR d).length))=h8 c n.length++h8 (c+n.length) (1+(fR d).length)by have:=RH (s:=c) (m:=n.length) (n:=1+(fR d).length) (step:=1);simpa using this.symm]
  have v:=IG p ((f,c):IH) (h8 (c+n.length) (1+(fR d).length)) n.length c λe l o=>by obtain⟨b,h,w⟩:=u e l o;rw[Bw,w];show Bv b.toNat=am;rw[Tg b (k n b8 b h).1];exact bq (k n b8 b h).2
  rw[v,Nat.add_comm 1,r2,EW];have h:(decide (c<=c+n.length)&&Bv ((aX p).cps.getD (c+n.length) 0))=H:=by rw[Bw,q];rw[bw (by omega)];decide +kernel
  have x:Tj (aX p) (c+n.length)=c+n.length+1:=by unfold Tj;rw[Bw,q];rfl
  unfold wn;simp only[h,kH];rw[x];refine IJ ?_ ((II p d (c+n.length+1) (f.push (c,c+n.length,c+n.length+1)) h2 λy z=>k y (cv _ z)).trans ?_);rfl;rw[Array.toList_push,eW];show((f.toList++([(c,c+n.length,c+n.length+1)]++rF (c+n.length+1) d)).toArray,_)=((f.toList++_).toArray,_);congr 1;omega
def Tk(p:ak)(k af:Nat):oB (aX p) k af=aX ((p.drop k).take (af-k)):=by refine iM.uZ ?_;show((p.map fP).toArray.extract k af).toList=((p.drop k).take (af-k)).map fP;simp[IE,Tl]
theorem IK(p:ak):∀(d:List ak) (b:Nat),p.drop b=fR d->(rF b d).map (λm=>oB (aX p) m.1 m.2.1)=d.map aX
 |[],b,_=>rfl
 |c::e,b,f=>by
  have h2:p.drop (b+c.length+1)=fR e:=by
   have:p.drop (b+c.length+1)=(p.drop b).drop (c.length+1):=by rw[sK];congr 1
   rw[this,f,p4,Ti];simp
  show oB (aX p) b (b+c.length)::_=aX c::_;rw[Tk,f,p4,IK p e (b+c.length+1) h2];congr 2;rw[Tn,List.take_append_of_le_length (bC _),f8]
def To{c:List ak}(d:∀n∈c,∀b∈n,b∈kk/\b≠10):mL (aX (fR c))=c.map aX:=by
 have f:Builtin.Str.lineSpans (aX (fR c))=rF 0 c:=by rw[StrLaws.ls_eq];have:=II (fR c) c 0 #[] rfl d;have e:(aX (fR c)).length=(fR c).length:=gT _;rw[e,this];unfold StrLaws.lsEnd;rw[e,ag (by simp)];simp
 unfold mL tr;rw[f,<-IK (fR c) c 0 a,fU];rfl
def Tp(i:Str):(tr i).length<=i.length+1:=by
 unfold tr;rw[aV];have:∀b:List (Nat×Nat×Nat),b.length<=Tq b:=λb=>by
  induction b with
  |nil=>exact bC _
  |cons c d e=>show d.length+1<=(c.2.1-c.1+1)+Tq d;omega
 exact b5 (this _) ((StrLaws.ls_weight i).1)
def Tr(i:Str):∀n∈mL i,n.length<=i.length:=λn b=>by unfold mL at b;obtain⟨c,_,rfl⟩:=cx.mp b;exact strSub_length_le _ _ _
def Ts{cG:List ak}(c:cG≠[])(d:∀w∈cG,∀b∈w,b≠32):j8 (aX (fA cG)) (eD " ")=cG.map aX:=by rw[<-Il];refine iM.Ou (l:=32) (S:=[]) a ∅ (by simpa using c) λi e=>?_;obtain⟨w,hw,rfl⟩:=cx.mp e;rw[Ij];intro f;obtain⟨b,g,h⟩:=cx.mp f;exact d w hw b g (z2.mp h)
def Tt(i:Str):j8 i (eD " ")≠[]:=by unfold j8;split;simp;split;simp;intro b;have:=Ox i (sm i (eD " ") 0 i.length (i.length+1)) (eD " ").length;rw[b]at this;simp at this
inductive IL(d:Type)(f:d->ak)(R:z->d->V->Prop)(c:z)(aa:t)(n:List d):Prop|mk:∀e,c aa=j (.cH e)->e.length<=n.length->((∀m∈n,∃b,cg e (dJ (aX (f m)))=j b/\R c m b))->(∀w b,cg e (dJ w)=j b->∃m∈n,w=aX (f m)/\R c m b)->IL d f R c aa n
structure kl {a3:Type} (Bx:a3->ak) (R:z->a3->V->Prop) (c:z) (aa:t) (n:List a3):Prop where
 ex:IL a3 Bx R c aa n
def kl.keep{f:a3->ak}{R:z->a3->V->Prop}{aa:t}{n:List a3}(d:kl f R c aa n)(r:∀q,c aa=j q->O aa=j q)(s:∀m u,R c m u->R O m u):kl f R O aa n:=
 let⟨g,h,i,k,l⟩:=d.ex
 ⟨g,r _ h,i,λm o=>let⟨u,b,e⟩:=k m o;⟨u,b,s _ _ e⟩,λp u v=>let⟨m,b,e,w⟩:=l p u v;⟨m,b,e,s _ _ w⟩⟩
def kl.get{e:a3->ak}{R:z->a3->V->Prop}{aa:t}{n:List a3}(d:kl e R c aa n)(w:Str):∃q,eo c aa (.str w) q/\(∀u,q=j u->∃m∈n,w=aX (e m)/\R c m u)/\(q=E->∀m∈n,w≠aX (e m)):=by obtain⟨o,f,p,g,h⟩:=d.ex;refine⟨_,eo.r (r:=dJ w) f,λu b=>h w u b,λi m k l=>?_⟩;obtain⟨u,b,_⟩:=g m k;rw[<-l,i]at b;cases b
def kl.bK{b:a3->ak}{R:z->a3->V->Prop}{aa:t}{aB:List (bY×V)}{n:List a3}{i:a3}{u:V}(p:∀m∈n,b m=b i->m=i)(d:kl b R c aa n)(q:c aa=j (.cH aB))(g:R O i u)(r:O aa=j (.cH (ey aB (dJ (aX (b i))) u)))(s:∀m u,R c m u->R O m u):kl b R O aa (n++[i]):=by
 obtain⟨B,o,C,v,w⟩:=d.ex;rw[q]at o;cases o;refine⟨_,r,?_,λm bg=>?_,λx h e=>?_⟩;have:=sF aB (dJ (aX (b i)):bY) u;rw[b4,fS];omega;rw[sE];obtain bg|bg:=bE.mp bg;by_cases f:b m=b i;have:=p m bg f;subst this;rw[as a];exact⟨u,a,g⟩;rw[ag λy=>f (iT (t' y))];obtain⟨h,k,l⟩:=v m bg;exact⟨h,k,s _ _ l⟩;have:m=i:=by simpa using bg
 subst this;rw[as a];exact⟨u,a,g⟩;rw[sE]at e;split at e;rename_i f;cases e;exact⟨i,by simp,t' f,g⟩;obtain⟨m,k,l,A⟩:=w x h e;exact⟨m,g5 _ k,l,s _ _ A⟩
def mO(b:List a2)(aj:av->List aI):Prop:=∀m∈a_ b,∀c∈aj m,c∈bp b
def lT(b:List a2)(aj:av->List aI):List av:=(a_ b).filter λm=>decide (b6 (bp b) (aj m)≠[])
def nU(b:List a2)(aj:av->List aI)(m:av):ak:=iH m (b6 (bp b) (aj m))
def IM(b:List a2)(aj:av->List aI):fb b aj=fR ((lT b aj).map (nU b aj)):=by
 delta fb lT;generalize a_ b=d;induction d with
 |nil=>rfl
 |cons e g f=>rw[ds,f,lc];delta rD;by_cases c:b6 (bp b) (aj e)=[];rw[as c,ag (by simpa using c)];rfl;rw[ag c,as (by simpa using c),bz,p4];delta nU;simp
def Tu{b:UInt8}(d:g3 b=H):b∈kk/\b≠10:=by have:=(by decide +kernel:∀c:Fin 256,g3 (mK c.val)=H->mK c.val∈kk/\mK c.val≠10) ⟨b.toNat,b.toNat_lt⟩;rw[show mK (⟨b.toNat,b.toNat_lt⟩:Fin 256).val=b from HI]at this;exact this d
def eG(p:ak):Prop:=∀b∈p,b∈kk/\b≠10
def eG.app{e b:ak}(d:eG e)(f:eG b):eG (e++b):=λc g=>(bE.mp g).elim (d c) (f c)
def eG.j0(d:n<=99):eG (gG n):=λb c=>Tu (Y.lj d b c)
def Tv(d:ek m<=99):eG (eC m):=by
 have b:∀f∈(["n","x","a","b","c"]:List String),∀e∈dI f,e∈kk/\e≠10:=∅;cases m with
 |node c=>exact eG.app (b "n" (by simp)) (eG.j0 d)
 |name c=>exact eG.app (b "x" (by simp)) (eG.j0 d)
 |first c=>exact eG.app (b "a" (by simp)) (eG.j0 d)
 |second c=>exact eG.app (b "b" (by simp)) (eG.j0 d)
 |inside c=>exact eG.app (b "c" (by simp)) (eG.j0 d)
def Tw{e:aI}(d:l6 e<=99):eG (eK e):=by
 have b:∀g∈(["num","f","p","r"]:List String),∀c∈dI g,c∈kk/\c≠10:=∅;cases e with
 |num=>exact b "num" (by simp)
 |fn f=>exact eG.app (b "f" (by simp)) (eG.j0 d)
 |pair f=>exact eG.app (b "p" (by simp)) (eG.j0 d)
 |ref f=>exact eG.app (b "r" (by simp)) (eG.j0 d)
theorem IN:∀{cG:List ak},(∀w∈cG,eG w)->eG (fA cG)
 |[],_=>λd c=>by cases c
 |[w],b=>b w b8
 |w::h::i,b=>by
  have e:eG [32]:=λd c=>by
   have:d=32:=by simpa using c
   subst this;decide +kernel
  exact eG.app (b w b8) (eG.app e (IN λf g=>b f (cv _ g)))
section
variable(rG:bf.length<=30)
include rG
theorem IP(b:m∈a_ bf):eG (nU bf aj m):=by delta nU Y.iH;refine IN λd hw=>?_;obtain rfl|hw:=bm.mp hw;exact Tv (kZ rG b);obtain⟨e,c,rfl⟩:=cx.mp hw;exact Tw (k0 rG (mB c).1)
theorem Tx:mL (aX (fb bf aj))=((lT bf aj).map (nU bf aj)).map aX:=by rw[IM];refine To λf b c d=>?_;obtain⟨g,e,rfl⟩:=cx.mp b;exact IP rG (eI.mp e).1 c d
theorem Tz(d:m∈a_ bf):j8 (aX (nU bf aj m)) (eD " ")=(eC m::(b6 (bp bf) (aj m)).map eK).map aX:=by delta nU Y.iH;refine Ts (by simp) λf hw b c=>?_;obtain rfl|hw:=bm.mp hw;exact(Y.xp (kZ rG d) b c).1;obtain⟨g,e,rfl⟩:=cx.mp hw;exact(Y.xq (k0 rG (mB e).1) b c).1
end
def TA{c:List ak}(d:∀n∈c,eG n):lJ kk (fR c)=H:=rf.mpr λe f=>by
 unfold fR at f;obtain⟨n,g,h⟩:=RE.mp f;obtain⟨i,k,rfl⟩:=cx.mp g;obtain b|b:=bE.mp h;exact(d i k e b).1;have:e=10:=by simpa using b
 subst this;decide +kernel
abbrev By:be:=b3 63
inductive Bz(K:bG)(G:List V)(c:z)(h:aW)(B:bn):Prop|mk:∀(g i:t) (b:List a2) (e:c4) (f:ak),G=[.ref g,.ref i]->fN c g b e (λ_=>[])->b.length<=30->(a_ b).Nodup->an K c i (gh f)->f.length<=4000->(∀(O:z) (k:av->List aI),dW b e c O->fN O g b e k->(∀d,mO b d->f=fb b d->∀m∈a_ b,∀l,l∈k m↔l∈d m)->h .aL O)->((∀d,mO b d->f≠fb b d)->∀O,dW b e c O->B (.ref rq) E O)->Bz K G c h B
def nV:b2 ["table","text","signs","places","place","sorts","sort","line","words","word"] Zt (bo By):=⟨a,a,a,∅,a,∅,∅⟩
inductive IQ(c:z)(p e:t)(f:List a2)(g:ak)(b:t)(k:Nat)(h:bT.St)(d:z):Prop|mk:∀i,h=[j (.ref p),j (.ref e),j (.str (aX g)),j (.ref b),i,E,E,E,E,E]->Q c d->kl eC b1 d b ((a_ f).take k)->IQ c p e f g b k h d
inductive IS(p d:t)(e:List a2)(f:ak)(g:t)(h:z)(i:Option V)(b:t)(k:Nat)(l:bT.St)(c:z):Prop|mk:∀m,l=[j (.ref p),j (.ref d),j (.str (aX f)),j (.ref g),i,j (.ref b),m,E,E,E]->Q h c->kl eK d' c b ((bp e).take k)->IS p d e f g h i b k l c
inductive IT(p f:t)(b:List a2)(bD:c4)(d:ak)(g:t)(h:Option V)(i:t)(l:z)(n:Option V)(o:t)(q:List Str)(k:Nat)(r:bT.St)(e:z):Prop|mk:∀v w x s,r=[j (.ref p),j (.ref f),j (.str (aX d)),j (.ref g),h,j (.ref i),n,v,w,x]->dW b bD (U l o (.L (q.map V.str))) e->(fN e p b bD s/\∀c,mO b c->d=fb b c->∀m∈a_ b,∀u,u∈s m↔(m∈(lT b c).take k/\u∈b6 (bp b) (c m)))->IT p f b bD d g h i l n o q k r e
inductive IU(p l:t)(b:List a2)(bD:c4)(d:ak)(o:t)(q:Option V)(r:t)(s:Option V)(k:Nat)(u:z)(n:Str)(e:t)(v:Str)(f:List Str)(g:d7)(w:t)(af:Nat)(x:bT.St)(h:z):Prop|mk:∀A y,x=[j (.ref p),j (.ref l),j (.str (aX d)),j (.ref o),q,j (.ref r),s,j (.str n),j (.ref e),A]->dW b bD (U (U u e (.L ((v::f).map V.str))) w (.L (f.map V.str))) h->(fN h p b bD y/\∀c,mO b c->d=fb b c->∀m∈a_ b,∀i,i∈y m↔((m∈(lT b c).take k/\i∈b6 (bp b) (c m))\/(m=g/\i∈(b6 (bp b) (c g)).take af)))->IU p l b bD d o q r s k u n e v f g w af x h
def TB(F:bO K "put_words" "put_words" By f ai)(T:cT K mg)(a6:tv K mg)(c0:bI P w K mg base a7 2 "signs_of" Zc (vT K))(c3:bI P w K mg base a7 1 "place_word" Zz wi)(c4:bI P w K mg base a7 1 "sort_word" ["sort"] tw)(c7:eE P w K mg base a7 3 b_ "put" Y9 sY):bd P w K mg base (bh P w K mg) 4 f ai Zt (Bz K):=by
 refine F.okE nV (λc9 aQ db B h=>?_) (λeA dc eB eG aQ c9 db B aa h=>?_);obtain⟨S,al,g,dc,s,rfl,_⟩:=h;rfl;obtain⟨S,al,g,y,s,rfl,ao,o,eH,dd,bg,de,bj⟩:=h;have ap:=kM aa;have b':cV 1 _:=aa.aG nofun;obtain⟨eJ,df⟩:=a6.S1;refine⟨_,ay (bZ (k:=2) nV.nd a (aU a) (bP (B:=b9) c0 (aa.aG nofun:cV 2 _) a bN (I (x 1) (I (bQ a df (u:=.str "abcfmnprux0123456789 \n") ⟨_,a⟩) ae)))) (ay (cp (b7 us (x 2) jK (cf _)) (aA (ik (B:=B) a6.rC (il (λ_ _ _ h=>h)) aa.du a)) cO) (ay (bZ (k:=3) nV.nd a (aU a) sH) (ay (fg rg a (dU (a1 (x 0) a)) (cF (k:=4) nV.nd a (aU a)) (aA (ml ap (x 3) (bP (B:=b9) c3 b' a bN (I (x 4) ae)) (x 4) a))) (ay (bZ (k:=5) nV.nd a (aU a) sH) (ay (fg rg a (dU (a1 (x 0) a)) (cF (k:=6) nV.nd a (aU a)) (aA (ml ap (x 5) (bP (B:=b9) c4 b' a bN (I (x 6) ae)) (x 6) a))) (aA (fg rg a (dU (y' So PySem.F.type_str_splitlines Sn (x 2))) (cF (k:=7) nV.nd a (aU a)) (ay (bZ (k:=8) nV.nd a (aU a) (OH (x 7) c_)) (ay (cp (mb (by exact oy ap (bU cj (x 8) bt (λ_ _=>rfl)) (x 3))) (aA (ik (B:=B) a6.rC (il (λ_ _ _ h=>h)) aa.du a)) cO) (aA (fg rg a (dU (Ev EH (x 8) (yl bt) MV)) (cF (k:=9) nV.nd a (aU a)) (ay (cp (mb (by exact oy ap (x 9) (x 5))) (aA (ik (B:=B) a6.rC (il (λ_ _ _ h=>h)) aa.du a)) cO) (aA (c' (fI (B:=b9) c7 (x 0) aa bN (I (jP ap (x 3) (bU cj (x 8) bt (λ_ _=>rfl)) (λ_ _=>rfl)) (I (jP ap (x 5) (x 9) (λ_ _=>rfl)) ae))))))))))))))))),?_⟩;have dg:lJ kk s=am->∀c,mO g c->s≠fb g c:=λaR c _ bg=>by rw[bg,IM,TA]at aR;cases aR;intro G J;obtain⟨d,l,rfl⟩:=cx.mp J;exact IP o (eI.mp l).1
 refine⟨_,a,al,s,kk,(by rw[Tf];rfl),dd,bg,Te,nofun,λaR ca a8=>?_,λaR ca a8=>⟨_,a,a,_,a,cm (bj (dg aR) ca (dW.au a8))⟩⟩;refine⟨_,a,a,_,a,cq λC cc=>?_⟩;have bk:=a8.trans (Q.fresh (q:=aC.cH []) cc);obtain⟨dh,cd,cg⟩:=ao.bi;obtain⟨di,ci,ck⟩:=ao.rb;have eL:=oK g o;have dk:=f_ o;refine⟨_,a,S,b_,y.a4,_,_,a,(ao.same bk).az,T.dV,T.q6,a,y.gP,a,⟨_,an.au (bk _ _ cd)⟩,?_⟩;refine g' (K:=K) (e:=y.gP) (M:=dh) (IQ aQ S al g s C)
  ⟨E,a,bk,⟨[],aw,dC _,(by simp),λw u h=>by cases h⟩⟩ (λk D m _ ⟨_,_,b,_⟩=>an.au (b _ _ cd)) ?_ ?_
 rintro k ad D m aT ⟨a9,rfl,ar,aW⟩;obtain⟨d,l,dl⟩:=cg.fq aT;have cl:d∈a_ g:=ev l;have cn:b1 m d ad:=TupAt.same ar dl;obtain⟨ba,N,bl,_⟩:=id aW.ex;refine⟨_,a,_,a,_,a,ad,d,a,cn,kZ o cl,C,_,a,kJ.r (r:=dJ (aX (eC d))) N (by rw[ic]at bl;exact c1 (by omega)),_,a,ar.bK (a8.free cc:aQ C=E),?_⟩;rw[eF l];have eM:∀d u,b1 m d u->b1 (U m C (.cH (ey ba (dJ (aX (eC ‹av›))) ad))) d u:=λd u v=>TupAt.bK v N (λ_=>⋯) (λ_ _=>⋯);exact aW.bK (λdm bn b=>Y.t3 (kZ o (H8 bn)) (kZ o cl) b) N (TupAt.bK cn N (λ_=>⋯) (λ_ _=>⋯)) aw (λd u v=>TupAt.bK v N (λ_=>⋯) (λ_ _=>⋯));rintro D dn ⟨a9,rfl,ax,co⟩;rw[<-cg.length,f8]at co;intro Z bo;have cs:=Q.fresh (q:=aC.cH []) bo;have ct:=ax.trans cs;have eN:aQ Z=E:=ax.free bo;refine⟨_,a,S,b_,y.a4,_,_,a,(ao.same ct).az,T.dV,T.vo,a,y.iJ,a,⟨_,an.au (ct _ _ ci)⟩,?_⟩;refine g' (K:=K) (e:=y.iJ) (M:=di) (IS S al g s C dn a9 Z)
  ⟨E,a,cs,⟨[],aw,dC _,(by simp),λw u h=>by cases h⟩⟩ (λk D m _ ⟨_,_,b,_⟩=>an.au (b _ _ (ax _ _ ci))) ?_ ?_
 rintro k ad D m aT ⟨br,rfl,ar,aW⟩;obtain⟨e,ah,dp⟩:=ck.fq aT;have cu:e∈bp g:=ev ah;have cw:d' m e ad:=TupAt.same (ax.trans ar) dp;obtain⟨ba,N,bl,_⟩:=id aW.ex;refine⟨_,a,_,a,_,a,ad,e,a,cw,k0 o cu,(ao.same (ax.trans ar)).num,Z,_,a,kJ.r (r:=dJ (aX (eK e))) N (by rw[ic]at bl;exact c1 (by omega)),_,a,ar.bK bo,?_⟩;rw[eF ah];exact aW.bK (λdm bn b=>Y.t4 (k0 o (H8 bn)) (k0 o cu) b) N (TupAt.bK cw N (λ_=>⋯) (λ_ _=>⋯)) aw (λd u v=>TupAt.bK v N (λ_=>⋯) (λ_ _=>⋯));rintro D aY ⟨br,rfl,bs,bu⟩;rw[<-ck.length,f8]at bu;have cA:kl eC b1 aY C (a_ g):=co.keep (λq=>bs _ q) (λ_ _ v=>TupAt.same bs v);refine⟨_,a,⟨_,a⟩,_,a,a,by rw[gT];exact fX (jo (by omega) kU),?_,λaB dq=>⟨aB,a,⟨_,an.au aw⟩,?_⟩⟩;have:=Tp (aX s);rw[gT]at this;exact fX (jo (by omega) kU);generalize cB:mL (aX s)=W;have dv:∀G∈W,G.length<=4000:=λG J=>by have:=Tr (aX s) G (by rw[cB];exact J);rw[gT]at this;omega
 have aj:=Q.fresh (q:=aC.L (W.map V.str)) dq;have cC:=(ax.trans bs).trans aj;have aE:=ao.same cC;have cD:∀c,s=fb g c->W=((lT g c).map (nU g c)).map aX:=λc h=>by rw[<-cB,h];exact Tx o
 have cE:∀{m},dW g y (U aY aB (.L (W.map V.str))) m->kl eC b1 m C (a_ g):=λ{m} X=>(cA.keep (λq=>aj _ q) (λ_ _ v=>TupAt.same aj v)).keep
  (λq aZ=>by obtain⟨ba,b,_⟩:=cA.ex;have:=aj _ _ b;rw[this]at aZ;cases aZ;exact X.nd aE this (λ_=>⋯)) (λ_ _ v=>TupAt.mz v aE X)
 have dw:∀{m},dW g y (U aY aB (.L (W.map V.str))) m->kl eK d' m Z (bp g):=λ{m} X=>(bu.keep (λq=>aj _ q) (λ_ _ v=>TupAt.same aj v)).keep
  (λq aZ=>by obtain⟨ba,b,_⟩:=bu.ex;have:=aj _ _ b;rw[this]at aZ;cases aZ;exact X.nd aE this (λ_=>⋯)) (λ_ _ v=>TupAt.mz v aE X)
 have bx:∀{m},dW g y (U aY aB (.L (W.map V.str))) m->dW g y aQ m:=λ{m} X=>(dW.au cC).trans X;refine g' (K:=K) (e:=aB) (M:=W.map V.str) (IT S al g y s C a9 Z aY br aB W)
  ⟨E,E,E,_,a,dW.au (Q.id _),aE,λc _ _ d _ e=>by simp⟩ (λk D m _ ⟨_,_,_,_,_,b,_⟩=>an.au (b.nd aE aw (λ_=>⋯))) ?_ ?_
 rintro k ad D bA aT ⟨dx,dy,dz,bB,rfl,bD,bF,bH⟩;obtain⟨G,J,rfl⟩:=jR aT;have eP:=dv G (ev J);have dB:∀c,s=fb g c->∃d,(lT g c)[k]?=j d/\d∈a_ g/\G=aX (nU g c d):=λc h=>by
  have p:=cD c h;rw[p,d2,d2]at J;cases l:(lT g c)[k]? with
  |none=>rw[l]at J;cases J
  |some d=>rw[l]at J;exact⟨d,a,(eI.mp (ev l)).1,(dP J).symm⟩
 refine⟨_,a,⟨_,a⟩,_,_,a,a,a,(by exact fX (jo (by omega) kU)),λa0 dD=>?_⟩;generalize bJ:j8 G (eD " ")=bL;have dE:bL≠[]:=by rw[<-bJ];exact Tt G
 obtain⟨O,A,rfl⟩:∃O A,bL=O::A:=by
  cases bL with
  |nil=>exact aq a dE
  |cons e X=>exact⟨e,X,a⟩
 have cG:∀c,s=fb g c->∃d,(lT g c)[k]?=j d/\d∈a_ g/\O=aX (eC d)/\A=((b6 (bp g) (c d)).map eK).map aX:=λc h=>by obtain⟨d,p,n,bR⟩:=dB c h;rw[bR,Tz o n,bz]at bJ;obtain⟨z,i⟩:=m_ bJ;exact⟨d,p,n,z.symm,i.symm⟩
 have cI:=Q.fresh (q:=aC.L ((O::A).map V.str)) dD;have bS:=bD.trans (dW.au cI);obtain⟨cJ,dF,dG,dK⟩:=(cE bS).get O;refine⟨_,a,a0,_,_,_,a,a,an.au aw,dj (af:=0) a,_,a,C,cJ,a,dF,_,a,?_⟩;cases cJ with
 |none=>refine cm (bj (λc _ h=>?_) _ (bx bS));obtain⟨d,_,l,hw,_⟩:=cG c h;exact dK a d l hw
 |some dL=>
  obtain⟨R,aF,bT,eQ⟩:=dG dL a;refine cq ⟨_,a,_,a,a0,_,a,an.au aw,λbV dM=>⟨bV,a,⟨_,an.au aw⟩,?_⟩⟩;have dN:oq ((O::A).map V.str) (j 1) E=A.map V.str:=by
   delta oq;have dR:gu.hR ((O::A).map V.str).length 0 (j 1)=1:=by rw[show(j (1:Int))=j ((1:Nat):Int)from rfl,gu.yk,aV,cy];omega
   rw[dR,gu.MS,bz,List.drop_succ_cons,qZ,cy,Nat.add_sub_cancel,f8]
  rw[dN];have bW:=Q.fresh (q:=aC.L (A.map V.str)) dM;have cK:=bS.trans (dW.au bW);have bX:=(bF.same cI).same bW;have cL:∀c,s=fb g c->(lT g c)[k]?=j R/\A=((b6 (bp g) (c R)).map eK).map aX:=λc h=>by obtain⟨d,p,n,bR,dS⟩:=cG c h;have:d=R:=Y.t3 (kZ o n) (kZ o aF) (iT (bR.symm.trans bT));subst this;exact⟨p,dS⟩
  refine g' (K:=K) (e:=bV) (M:=A.map V.str) (IU S al g y s C a9 Z br k bA G a0 O A R bV)
   ⟨_,bB,a,dW.au (Q.id _),bX,λc p n d l e=>by rw[bH c p n d l e];simp⟩ (λaf D m _ ⟨_,_,_,b,_⟩=>an.au (b.nd bX aw (λ_=>⋯))) ?_ ?_
  rintro af aI D cM dX ⟨dY,aK,rfl,aL,aM,aN⟩;obtain⟨cP,a2,rfl⟩:=jR dX;have bY:=cK.trans aL;obtain⟨cQ,cW,d0,d4⟩:=(dw bY).get cP;refine⟨_,a,_,a,Z,cQ,a,cW,_,a,?_⟩;have b0:∀c,s=fb g c->∃e,(b6 (bp g) (c R))[af]?=j e/\cP=aX (eK e):=λc h=>by
   rw[((cL c h).2),d2,d2]at a2;cases ah:(b6 (bp g) (c R))[af]? with
   |none=>rw[ah]at a2;cases a2
   |some e=>rw[ah]at a2;exact⟨e,a,(dP a2).symm⟩
  cases cQ with
  |none=>refine cm (bj (λc _ h=>?_) _ (bx bY));obtain⟨e,ah,ea⟩:=b0 c h;exact d4 a e (mB (ev ah)).1 ea
  |some cX=>
   obtain⟨bb,bc,cY,eb⟩:=d0 cX a;obtain⟨ec,ed,eh,ei⟩:=(cE bY).get O;cases ec with
   |none=>exact aq bT (ei a R aF)
   |some cZ=>
    obtain⟨aP,ej,ek,en⟩:=eh cZ a;have:aP=R:=Y.t3 (kZ o ej) (kZ o aF) (iT (ek.symm.trans bT));subst this;refine cq ⟨_,a,S,y.a4,_,a,aM.az,a,_,a,_,a,a0,_,_,_,a,a,an.au (aL.nd bX (bW _ _ aw) (λ_=>⋯):cM a0=j (.L ((O::A).map V.str))),dj (af:=0) a,C,cZ,a,ed,_,a,_,a,Z,cX,a,cW,S,_,_,g,_,_,y,aK,aP,bb,a,aM,en,eb,aF,bc,dk,λak=>?_,λak=>?_⟩;refine⟨_,aK,a,aL,aM,λc p n d l e=>?_⟩;obtain⟨bf,a3,b2⟩:=b0 c n;have:bf=bb:=Y.t4 (k0 o (mB (ev a3)).1) (k0 o bc) (iT (b2.symm.trans cY));subst this;rw[aN c p n d l e,eF a3];constructor;rintro(b|⟨z,i⟩);exact .inl b;exact .inr ⟨z,g5 _ i⟩;rintro(b|⟨z,i⟩);exact .inl b;obtain i|i:=bE.mp i;exact .inr ⟨z,i⟩;have:e=bf:=by simpa using i
    subst this z;exact(aN c p n d l e).mp ak;refine⟨_,mw aK aP (aK aP++[bb]),a,aL.trans (λeR q eo ep=>by rw[aH λb=>ep ⟨aP,aF,b⟩];exact eo),aM.bK aF bc ak,λc p n d l e=>?_⟩;obtain⟨bf,a3,b2⟩:=b0 c n;have:bf=bb:=Y.t4 (k0 o (mB (ev a3)).1) (k0 o bc) (iT (b2.symm.trans cY));subst this;rw[eF a3];by_cases b:d=aP;subst b;rw[mx,bE,aN c p n d l e];constructor;rintro((b|⟨_,i⟩)|b);exact .inl b;exact .inr ⟨a,g5 _ i⟩;exact .inr ⟨a,gH _ b⟩;rintro(b|⟨_,i⟩);exact .inl (.inl b);obtain i|i:=bE.mp i;exact .inl (.inr ⟨a,i⟩);exact .inr i;rw[lH b,aN c p n d l e];constructor;rintro(aI|⟨b3,_⟩);exact .inl aI;exact aq b3 b;rintro(aI|⟨b3,_⟩);exact .inl aI;exact aq b3 b
  rintro D cM ⟨dY,aK,rfl,aL,aM,aN⟩;refine⟨_,_,_,aK,a,cK.trans aL,aM,λc p n d l e=>?_⟩;obtain⟨eq,eu⟩:=cL c n;have ew:(A.map V.str).length=(b6 (bp g) (c R)).length:=by rw[aV,eu,aV,aV]
  rw[aN c p n d l e,ew,f8,eF eq];constructor;rintro(⟨z,i⟩|⟨rfl,i⟩);exact⟨g5 _ z,i⟩;exact⟨gH _ (by simp),i⟩;rintro⟨z,i⟩;obtain z|z:=bE.mp z;exact .inl ⟨z,i⟩;have:d=R:=by simpa using z
  subst this;exact .inr ⟨a,i⟩
 rintro D bA ⟨dx,dy,dz,bB,rfl,bD,bF,bH⟩;refine de bA bB (bx bD) bF λc p n d l e=>?_;rw[bH c p n d l e,(by rw[aV,cD c n,aV,aV]:(W.map V.str).length=(lT g c).length),f8];constructor;rintro⟨_,i⟩;exact(mB i).2;intro b;have ak:=GH (p d l e b) b;exact⟨eI.mpr ⟨l,bw (λaI=>by rw[aI]at ak;cases ak)⟩,ak⟩
def h3(f:dr):av×aI:=(f.place,f.abs)
def nW(w:TC):mM:=((w.src,w.dst),w.by_)
def IV(d:Y.cY h):f9 (aE h)=(l0 h).map h3:=by
 unfold f9 l0;rw[rd h _ (λb=>(ea (pn h b).kind (aS b)).map λe=>(ef (aS b),e)) (λk b c=>by delta kQ;rw[jq c,d.get c];rfl),mE];generalize aO h=f;induction f with
 |nil=>rfl
 |cons b l g=>
  rw[hn,ds,<-g,zW h b _ a];cases b with
  |var i m=>
   simp only[fy];cases n:dH h i with
   |none=>rfl
   |some o=>rfl
  |_=>rfl
def TD{T:d6}{i:a0}:∀w∈c5 h T i,w.by_=aS i:=by
 intro w hw;cases i with
 |num=>cases hw
 |fn=>cases hw
 |add=>cases hw
 |var b k=>
  simp only[c5]at hw;cases g:dH h b with
  |none=>rw[g]at hw;cases hw
  |some d=>rw[g]at hw;simp at hw;subst hw;rfl
 |letE b k e d=>simp[c5]at hw;obtain rfl|rfl:=hw<;>rfl
 |ifz b f d l=>simp[c5]at hw;obtain rfl|rfl:=hw<;>rfl
 |pair b f d=>simp[c5]at hw;obtain rfl|rfl:=hw<;>rfl
 |new b f=>simp[c5]at hw;subst hw;rfl
 |app b m f=>simp only[c5,cR]at hw;obtain⟨c,_,hw⟩:=hw;cases c<;>simp at hw;obtain rfl|⟨d,_,rfl⟩:=hw<;>rfl
 |fst b e=>simp only[c5,cR]at hw;obtain⟨c,_,hw⟩:=hw;cases c<;>simp at hw;subst hw;rfl
 |snd b e=>simp only[c5,cR]at hw;obtain⟨c,_,hw⟩:=hw;cases c<;>simp at hw;subst hw;rfl
 |get b e=>simp only[c5,cR]at hw;obtain⟨c,_,hw⟩:=hw;cases c<;>simp at hw;subst hw;rfl
 |set b n e=>simp only[c5,bm,cR]at hw;obtain rfl|⟨c,_,hw⟩:=hw;rfl;cases c<;>simp at hw;subst hw;rfl
section
variable(wo:Y.cY h)
include wo
theorem IW:jY (aE h) aj=((aO h).flatMap (c5 h (c6 h (dX h aj)))).map nW:=by
 have g:jY (aE h) aj=(aO h).flatMap λc=>(fr (aE h) aj (pn h c) (aS c)).map λd=>(d,aS c):=by
  unfold jY;refine IJ (b:=((er (aE h).length).filterMap λf=>(aO h)[f]?).flatMap λc=>(fr (aE h) aj (pn h c) (aS c)).map λd=>(d,aS c)) ?_ ?_;rw[nE];apply jr;intro f i;have k:f<(aO h).length:=by rw[<-pO];exact jH.mp i
  have e:=gE k;rw[e,jq e];show(fr (aE h) aj (pn h _) f).map _=(fr (aE h) aj (pn h _) (aS _)).map _;rw[(wo.get e)];rw[rd h _ (λc=>j c) (λm c e=>e)];congr 1;simp
 rw[g,mE];apply jr;intro c e;rw[<-zZ wo e (T:=c6 h (dX h aj)) λn l=>s7 wo (Y.qn l),fU];apply nc;intro d hw;show(mD d,aS c)=nW d;delta nW mD;rw[TD d hw]
end
theorem BA{b:Type}(g:a3->b)(m:b->Bool):∀n:List a3,(n.map g).find? m=(n.find? λe=>m (g e)).map g
 |[]=>rfl
 |e::c=>by
  rw[bz,ez,ez];cases m (g e)with
  |true=>rfl
  |false=>exact BA g m c
theorem BB{m ao:a3->Bool}:∀{n:List a3},(∀e∈n,m e=ao e)->n.find? m=n.find? ao
 |[],_=>rfl
 |e::f,b=>by rw[ez,ez,b e b8,BB λc d=>b c (cv _ d)]
theorem BC{c:Type}[BEq a3][LawfulBEq a3]{f:a3->List c}{m:c->Bool}{e:a3}(d:(f e).find? m=E):∀n:List a3,((n.filter λb=> !(b==e)).flatMap f).find? m=(n.flatMap f).find? m
 |[]=>rfl
 |b::g=>by rw[lc];by_cases h:b=e;subst h;rw[le];simp only[pY,kK,ig];rw[ds,mN,d,BC d g];rfl;rw[fl.mpr h];simp only[HU,kH];rw[ds,ds,mN,mN,BC d g]
theorem IX{b:Type}[BEq a3][LawfulBEq a3](f:a3->List b)(m:b->Bool):∀(o:Nat) (n:List a3),n.length<=o->(n.eraseDups.flatMap f).find? m=(n.flatMap f).find? m
 |0,n,c=>by have:n=[]:=BD.mp (by omega);subst this;rfl
 |o+1,[],_=>rfl
 |o+1,d::e,c=>by
  rw[ty,ds,ds,mN,mN];rw[IX f m o _ (b5 (tz _ _) (by simpa using c):(e.filter λg=> !(g==d)).length<=o)];cases h:(f d).find? m with
  |some g=>rfl
  |none=>rw[BC h e]
section
variable(jz:Y.iG h)(mP:mO (aE h) aj)
include jz mP
theorem TE:p2 (aE h) aj=(p5 h (c6 h (dX h aj))).map h3:=by
 have c:=jz.ck;have r:∀v∈ch h,∀s∈aj v,s∈d8 h:=by have:=mP;unfold mO at this;rw[e4 c,it c]at this;exact this
 have u:∀b:dr,b.place∈ch h->(decide ((h3 b).2∉aj (h3 b).1))= !(c6 h (dX h aj)).contains b:=λb w=>by
  by_cases f:b.abs∈aj b.place;rw[show decide ((h3 b).2∉aj (h3 b).1)=am from bq (λg=>g f),d1.mpr ((pP r).mpr ⟨w,f⟩)];rfl;rw[show decide ((h3 b).2∉aj (h3 b).1)=H from bw f];cases g:(c6 h (dX h aj)).contains b with
  |false=>rfl
  |true=>exact aq ((pP r).mp (d1.mp g)).2 f
 unfold p2 wl wm p5 o4;rw[mN];have x:(f9 (aE h)).find? (λe=>decide (e.2∉aj e.1))=((l0 h).find? λb=> !(c6 h (dX h aj)).contains b).map h3:=by rw[IV c,BA];congr 1;exact BB λb d=>u b (Y.tR b d).1
 have y:((jY (aE h) aj).flatMap (nT (aE h) aj)).find? (λe=>decide (e.2∉aj e.1))=(((i6 h (c6 h (dX h aj))).flatMap (qm (c6 h (dX h aj)))).find? λb=> !(c6 h (dX h aj)).contains b).map h3:=by
  unfold i6;rw[IX _ _ _ _ (bC _),IW c];have z:(((aO h).flatMap (c5 h (c6 h (dX h aj)))).map nW).flatMap (nT (aE h) aj)=(((aO h).flatMap (c5 h (c6 h (dX h aj)))).flatMap (qm (c6 h (dX h aj)))).map h3:=by
   rw[TF,mE (qm (c6 h (dX h aj))) h3];apply jr;intro i k;obtain⟨l,m,n⟩:=cR.mp k;have A:i.src∈ch h:=by obtain⟨o,p,q,hw⟩:=vS c (aj:=aj) (Y.n5.mpr ⟨l,m,n⟩);rw[<-e4 c];exact(re jz o p aj q mP _ hw).1
   unfold nT qm;rw[s7 c A,fU,it c];rfl
  rw[z,BA];congr 1;refine BB λb d=>u b ?_;obtain⟨i,k,d⟩:=cR.mp d;obtain⟨l,m,n⟩:=cR.mp k;obtain⟨o,p,q,hw⟩:=vS c (aj:=aj) (Y.n5.mpr ⟨l,m,n⟩);unfold qm at d;obtain⟨s,_,rfl⟩:=cx.mp d;show i.dst∈_;rw[<-e4 c];exact(re jz o p aj q mP _ hw).2
 rw[x,y];cases(l0 h).find? λb=> !(c6 h (dX h aj)).contains b<;>rfl
theorem TG:o7 h (fb (aE h) aj)=j (c6 h (dX h aj)):=by refine(Y.C2 jz.low).mpr ⟨Y.xu _ _,?_⟩;rw[Y.xv,<-Bp jz.ck]
end
def TH(f:Y.iG h){b:ak}(d:∀g,mO (aE h) g->b≠fb (aE h) g):o7 h b=E:=by
 have i:=f.ck;cases m:o7 h b with
 |none=>rfl
 |some n=>obtain⟨p,o⟩:=(Y.C2 f.low).mp m;refine aq ?_ (d (λk=>Y.gb h n k) λk l q c=>?_);rw[Bp i,<-o];refine Y.C0 λr l c=>?_;rw[vR];unfold Y.gb QH;rw[eI];constructor;intro e;exact⟨l,c,d1.mpr e⟩;rintro⟨_,_,e⟩;exact d1.mp e;rw[it i];exact(eI.mp c).1
def TJ(b:Y.cY h)(d:∀m∈a_ (aE h),(aj m).Nodup)(e:mO (aE h) aj):(c6 h (dX h aj)).length=gy (a_ (aE h)) aj:=by rw[Y.CK,<-e4 b];delta gy;congr 1;apply nc;intro m c;rw[s6 (by rw[<-e4 b];exact c),<-it b];exact GU (d m c) (e m c) (by rw[it b];exact b.i9)
def iA(p:ak):List ow:=p.map λb=>.int (b.toNat:Nat)
def IY(p:ak):pu (.list (iA p))=H:=by
 have c:Gm (iA p)=H:=by
  delta iA;induction p with
  |nil=>rfl
  |cons d e b=>rw[bz];simp[Gm,Gk,b]
 have f:Gn (iA p)=0:=by
  clear c;delta iA;induction p with
  |nil=>rfl
  |cons d e b=>rw[bz];simp[Gn,Gl,b]
 simp[pu,Gk,Gl,c,f]
def TK:∀e b:ak,pv (.list (iA e)) (.list (iA b))=decide (e=b):=by
 intro e b;show pv (.list (iA e)) (.list (iA b))=_;have:∀e b:ak,sW (iA e) (iA b)=decide (e=b):=by
  intro e;induction e with
  |nil=>intro b;cases b<;>simp[iA,sW]
  |cons c g h=>
   intro b;cases b with
   |nil=>simp[iA,sW]
   |cons d i=>show sW (.int (c.toNat:Nat)::iA g) (.int (d.toNat:Nat)::iA i)=_;simp only[sW,pv,h];by_cases f:c=d;subst f;simp;have:¬((c.toNat:Nat):Int)=((d.toNat:Nat):Int):=λk=>f (z2.mp (vC k));rw[fl.mpr this];simp[f]
 simp only[pv,this]
def IZ{e:t}{p:ak}(d:an K c e (gh p)):f5 K c (.ref e) (.list (iA p)):=by
 refine .L d ?_;delta gh iA;clear d;induction p with
 |nil=>exact .nil
 |cons f g b=>exact .cons (.int _) b
abbrev BE:be:=b3 62
inductive BF(K:bG)(G:List V)(c:z)(e:aW)(B:bn):Prop|mk:∀(f g:t) (b:List a2) (d:ak),G=[.ref f,.ref g]->hB c f b->Good b->fJ c->an K c g (gh d)->d.length<=4000->(∀(O:z) (h:t) (l:c4) (i:av->List aI),Q c O->fN O h b l i->fb b i=d->e (.ref h) O)->((∀k,mO b k->d≠fb b k)->∀O,Q c O->B (.ref rq) E O)->BF K G c e B
abbrev BG:be:=b3 109
inductive BH(K:bG)(G:List V)(c:z)(d:aW)(B:bn):Prop|mk:∀(e i f:t) (b:ak) (h:a0) (k:c4) (l:av->List aI),G=[.ref e,.ref f]->gj c e h i k l->an K c f (gh b)->b.length<=4000->fJ c->(∀g,hG h (.check b)= .ok (cQ h,g)->∀(O:z) (m:t),Q c O->c m=E->O m=j (.L (b' g))->d (.ref m) O)->(∀n,hG h (.check b)= .error n->∀O,Q c O->B (.ref rq) E O)->BH K G c d B
def I0:b2 ["nodes","text","table"] Zu (bo BE):=⟨a,a,a,∅,a,∅,∅⟩
def TL(F:bO K "read_table" "read_table" BE f ai)(aj:tv K mg)(ak:kP P w K mg base a7 5 b_ "Table" Zq vF)(al:bI P w K mg base (bh P w K mg) 4 "put_words" Zt (Bz K))(ao:bI P w K mg base a7 3 "write_table" Zx wj):bd P w K mg base (bh P w K mg) 7 f ai Zu (BF K):=by
 refine F.okE I0 (λap e ar B g=>?_) (λaW aX aY aZ e ap ar B n g=>?_);obtain⟨J,L,c,v,rfl,_⟩:=g;rfl;obtain⟨J,L,c,v,rfl,av,o,ax,M,aB,aC,N⟩:=g;refine⟨_,ay (bZ (k:=2) I0.nd a (aU a) (mq (B:=b9) ak n a bN (I (x 0) ae))) (ay (c' (bP (B:=B) al (n.aG nofun) a (dF (λ_ _ _ g=>g)) (I (x 2) (I (x 1) ae)))) (ay (cp (b7 (s:=sA K) (by exact ET n.units) (bP (B:=b9) ao (n.aG nofun) a bN (I (x 2) ae)) (x 1) (cf _)) (aA (ik (B:=B) aj.rC (il (λ_ _ _ g=>g)) n.du a)) cO) (aA (bx (x 2))))),?_⟩;refine⟨_,a,λh y O aE aF=>?_⟩;have q:Q e (U (U e y (.own h)) h (.az b_ y [])):=(Q.fresh aE).new (by rw[aH (cU aF)];exact O);refine⟨h,y,J,c,a,aw,av.same q,o.len,ax.same q,o.nd,λR i aI a0 aK aL=>⟨a,?_⟩⟩;have S:Q e R:=λr l T=>aI r l (q r l T) (ew T O);have aM:∀b∈a_ c,e (i.fL b)=E:=λb m=>by
  cases d:e (i.fL b)with
  |none=>rfl
  |some l=>have:=q _ _ d;rw[aK b m]at this;cases this
 have V:∀{z},dW c i R z->Q e z:=λ{z} r W l A=>r W l (S W l A) λ⟨b,m,d⟩=>by rw[d,aM b m]at A;cases A
 refine⟨_,a,_,a,h,L,c,i,v,a,aL,o.len,o.nd,S.seq M,aB,λX p C Y aN=>?_,λaP X C=>N aP X (V C)⟩;refine⟨_,a,h,c,i,p,a,Y,o.len,λZ a1 aa a2 aQ=>?_⟩;have D:=(V C).trans aa;refine⟨_,a,_,_,IZ (an.au aQ),IZ (D.seq M),IY _,IY _,_,a,?_⟩;dsimp only;rw[TK];by_cases d:fb c p=v;rw[bw d];exact cq ⟨_,a,aC Z h i p D (Y.same aa) d⟩;rw[bq d];refine cm (N (λad aR af=>d ?_) Z D);have ah:=aN ad aR af;rw[af];delta fb;apply jr;intro b m;have:b6 (bp c) (p b)=b6 (bp c) (ad b):=by delta b6;apply vM;intro G _;delta kS;by_cases u:G∈p b;rw[as u,as ((ah b m G).mp u)];rw[ag u,ag λaT=>u ((ah b m G).mpr aT)]
 delta rD;rw[this]
def BI:b2 ["flows","text","table","lacking"] Zs (bo BG):=⟨a,a,a,∅,a,∅,∅⟩
def TM(f:dr):j (aC.L ([V.int 0]++[.int (iZ f.place:Nat),.int (ek f.place:Nat)]++[.int (ep f.abs),.int (ck f.abs:Nat)]))=j (aC.L (b' (0::tA f))):=by obtain⟨b,c⟩:=f;cases b<;>cases c<;>rfl
def TN(F:bO K "answer_check" "answer_check" BG f ai)(T:cT K mg)(ba:hl K mg)(ah:bI P w K mg base (bh P w K mg) 7 "read_table" Zu (BF K))(ak:bI P w K mg base a7 8 "first_lacking" Zx Bs)(al:eE P w K mg base a7 2 b_ "fact_count" ZB s0):bd P w K mg base (bh P w K mg) 9 f ai Zs (BH K):=by
 refine F.okE BI (λan ao ap B i=>?_) (λbb ar bc bf ao an ap B v i=>?_);obtain⟨M,N,O,o,b,ar,aj,rfl,_⟩:=i;rfl;obtain⟨M,N,O,o,b,R,aj,rfl,e,au,av,ax,S,aB⟩:=i;have y:=jV e.dn;refine⟨_,ay (bZ (k:=2) BI.nd a (aU a) (bP (B:=B) ah (v.aG nofun) a (dF (λ_ _ _ i=>i)) (I (a1 (a1 (x 0) a) a) (I (x 1) ae)))) (ay (bZ (k:=3) BI.nd a (aU a) (bP (B:=b9) ak v a bN (I (x 2) ae))) (ay (cp (b7 us (x 3) jK (cf _)) (aA (bx (dR (I bt (I (oE (B:=b9) al (x 2) (v.aG nofun) bN) ae))))) cO) (aA (bx (fD nx (fD nx (dR (I bt ae)) (nw yp a ba.v_ (by rfl) (I (bU ji (x 3) bt (λ_ _=>rfl)) ae))) (nw yp a ba.v_ (by rfl) (I (bU ji (x 3) bt (λ_ _=>rfl)) ae))))))),?_⟩;obtain⟨aF,aH⟩:=e.az;have z:∀p,o7 b o=p->hG b (.check o)=nS p 1 λU=>iY (cQ b) (match p5 b U with|none=>[1,U.length]|some f=>0::tA f):=λp aI=>by rw[<-aI];rfl
 refine⟨_,a,M,e6,aF,_,_,a,aH,ba.hF,ba.fQ,a,N,b_,R.a4,_,_,a,e.tab.az,T.dV,T.iO,a,_,a,R.cs,O,aE b,o,a,e.tab.eX,y,ax,au,av,λV A C d r h aK=>?_,λD V r=>aB 1 (by rw[z _ (TH e.dn D)];rfl) V r⟩;have G:=TG e.dn (aj:=d) h.sub;rw[aK]at G;have g:=TE e.dn (aj:=d) h.sub;refine⟨_,a,A,aE b,C,d,a,h,y,re e.dn,λD aL l=>?_,λwf aM aL bg l aN=>?_⟩;rw[D]at g;have aP:p5 b (c6 b (dX b d))=E:=by
  cases s:p5 b (c6 b (dX b d))with
  |none=>rfl
  |some f=>rw[s]at g;cases g
 refine⟨_,a,a,_,a,cm ⟨_,a,A,C.a4,_,a,(h.same l).az,a,A,aE b,_,_,C,d,a,h.same l,oK _ y.len,λbi m=>⟨YT,λaQ W=>?_⟩⟩⟩;have u:=Q.fresh (q:=aC.L [.int 1,.int (gy (a_ (aE b)) d:Nat)]) W;have n:=(r.trans l).trans m;refine S [1,(c6 b (dX b d)).length] (by rw[z _ G];show iY _ _=_;rw[aP];rfl) _ aQ (n.trans u) (n.free W) ?_;rw[aw,TJ e.dn.ck h.nd h.sub];rfl;rw[aM]at g;obtain⟨c,aR,rfl⟩:∃f,p5 b (c6 b (dX b d))=j f/\h3 f=wf:=by
  cases s:p5 b (c6 b (dX b d))with
  |none=>rw[s]at g;cases g
  |some f=>rw[s]at g;exact⟨f,a,(dP g).symm⟩
 obtain⟨X,p,bj,rfl,Y,⟨aT,rfl,Z⟩,⟨aW,rfl,aa⟩⟩:=aN;rw[tx]at Z;rw[rc]at aa;refine⟨_,a,a,_,a,cq ⟨YS,λaX aY=>?_⟩⟩;have m:=Q.fresh (q:=aC.L [.int 0]) aY;refine⟨_,a,X,_,_,_,a,a,.inl (.inl (m _ _ Y)),a,aT,_,a,.inr (.inl (Z.same m)),λaZ a0=>?_⟩;have u:=Q.fresh (q:=aC.L [.int (iZ c.place:Nat),.int (ek c.place:Nat)]) a0;refine⟨aX,aZ,_,_,a,a,u _ _ aw,aw,YU,λa2 a3=>?_⟩;have J:=(m.trans u).trans (Q.fresh (q:=aC.L ([.int 0]++[.int (iZ c.place:Nat),.int (ek c.place:Nat)])) a3);refine⟨_,a,X,_,_,_,a,a,.inl (.inl (J _ _ Y)),a,aW,_,a,.inr (.inl (aa.same J)),λbT a6=>?_⟩;have ad:=Q.fresh (q:=aC.L [.int (ep c.abs),.int (ck c.abs:Nat)]) a6;refine⟨a2,bT,_,_,a,a,ad _ _ aw,aw,(by show 5<=aD;decide),λa8 af=>?_⟩;have a9:=Q.fresh (q:=aC.L ([.int 0]++[.int (iZ c.place:Nat),.int (ek c.place:Nat)]++[.int (ep c.abs),.int (ck c.abs:Nat)])) af;have n:=(r.trans l).trans (J.trans ad);refine S (0::tA c) (by rw[z _ G];show iY _ _=_;rw[aR];rfl) _ a8 (n.trans a9) (n.free af) ?_;rw[aw];exact TM c
end e2
namespace bT
open PySem PySem.Spec PyProof.Rows
theorem I1:∀n:List t,bW (n.map V.ref) (n.map dt)
 |[]=>.nil
 |_::b=>.cons a (I1 b)
def TO{A:cN}{w:cr}{aa:t}{c:Obj}{ap:Array iL}{s:Nat}(B:(aa==g7)=am)(p:c.ExactDict)(q:c.data= .dict ap s):
  PySem.W.KdlSrc A w "dict" aa aa ap.size (λk u=>∃v,ap[k]?=j v/\u=v.key) (λd=>d.get? aa=j c)where
 type:=λf d=>⟨c,d,p.1⟩
 there:=λd b=>⟨d_ b,d_ b⟩
 keep:=λd l b C=>C aa (.inl a) _ b
 notList:=nofun
 notTuple:=nofun
 hint:=λD m f n d r=>PySem.W.kdl_hint_dict ⟨c,d,p.1⟩ r
 iter:=λD f F b=>by
  refine⟨_,λk d=>d.IsKeyIter f.heap.objs.size aa k ap.size s/\d.get? aa=j c,λm n r=>Fh B b p q r,?_,⟨_,hv _ a,a,a⟩,gs _ b⟩;exact{sub:=λo e=>(by simp at e;simp[e]),frame:=λ_ _ _ st x=>⟨st.1.at λg b=>x _ (by simp) g b,x aa (by simp) _ st.2⟩,item:=λk h n m G st i=>(by
    have y:ap[k]?=j ap[k]:=yV G;refine yR st.1 st.2 q a y λl I z=>?_;exact i _ l h.toks ⟨_,y,a⟩ ⟨I,z.extBut aa _ (gL (d_ b):aa≠f.heap.objs.size) st.2⟩ λo g e b=>z.extBut o g (λd=>e (by simp[d])) b),done:=λh n m st i=>yZ F st.1 st.2 q a (bC _) λl J=>i l h.toks λo g e b=>J o g (λd=>e (by simp[d])) b,self:=λk h n m st i=>(by
    refine Fi st.1.typeIs y0 (sI y0 st.1.typeIs N8 ?_ (N9 _));show a5 _ _ (ret (.ref f.heap.objs.size)) _ _ h;exact c2 ⟨_,a,"dict_keyiterator",_,st.1.typeIs,qX.lookup,i⟩)}
def TP{X:bJ}(y:X.calm=H):j6 X (.type "list") (λM c p=>∃e aB,M=[V.ref e]/\bA c e (.cI aB)/\∀(n:t) (q:List t),c n=E->br (λ(ao:List bY×V) b=>bA c b (.aF (ao.1.map c9))) aB q->p (.ref n) (U c n (.L (q.map V.ref)))):=by
 intro ae z af c M ah p i A B;obtain⟨e,aB,rfl,C,ao⟩:=B;obtain⟨ai,rfl,D⟩:=vals1 A;cases D;obtain⟨r,F,M,k,aj,G,ak,I,J,K,s,al⟩:=nA i.hok C;have u:G.size=aB.length:=by rw[uX s];exact(Paired.length k).symm
 refine PySem.W.kdl_call (TO F J K) (i.ok.du y) I (by rw[u];exact r) λN bR l O P Q v=>?_;have R:∀{n:List (List bY×V)} {m:List (List bY×t×ab)},KT c n m->br (λ(ao:List bY×V) b=>bA c b (.aF (ao.1.map c9))) n (m.map λd=>d.2.1):=by
  intro n m ao;induction ao with
  |nil=>exact .nil
  | @cons an ao ap ar S au T=>exact .cons S.2.1 T
 have Y:l=((M.map λd=>dt d.2.1)).toArray:=by
  apply Array.ext_getElem?;intro h;by_cases x:h<l.size;obtain⟨av,Z,aa⟩:=v.2 h l[h] (yV x);have ao:=entry_at s h;rw[Z]at ao;cases o:M[h]? with
  |none=>rw[o]at ao;cases ao
  |some d=>rw[o]at ao;rw[yV x,aa,dP ao];simp[o];rfl
  rw[yN (by omega)];symm;apply yN;rw[eO,aV,<-Paired.length k,<-u,<-v.1];omega
 have ad:(M.map λd=>d.2.1).length=aB.length:=by rw[aV];exact(Paired.length k).symm
 subst Y;refine⟨.ref z.heap.objs.size,_,i.hr (cX:=bR) P (bC _) (show ei X.prog X.w _ N _ (.L ((M.map λd=>d.2.1).map V.ref))from⟨by rw[aV,ad];exact r,M.map λd=>dt d.2.1,O,?_,Q⟩),a,ao _ _ (i.hok.fresh (bC _)) (R k)⟩;have:=I1 (M.map λd=>d.2.1)
 rwa [fU (f:=λd:List bY×t×ab=>d.2.1) (g:=dt)]at this
end bT
namespace e2
open PySem PySem.Spec PyProof.Rows bT
abbrev dw:=eg
abbrev gY:=TC
def eH(s:t)(c e:z):Prop:=∀b d,c b=j d->b≠s->e b=j d
def eH.refl(s:t)(c:z):eH s c c:=λ_ _ b _=>b
variable{s:t}{c O:z}
def eH.same{b:z}(r:eH s c O)(h:Q O b):eH s c b:=λd e f g=>h _ _ (r d e f g)
def eH.trans{b:z}(r:eH s c O)(h:eH s O b):eH s c b:=λe f g d=>h _ _ (r e f g d) d
def eH.bK{q:aC}(r:eH s c O):eH s c (U O s q):=λd e f b=>by rw[aH b];exact r d e f b
variable{bs:t}
def eH.own{q:aC}(r:eH s c O)(d:c bs=E):eH s c (U O bs q):=λe f b g=>by rw[aH (ew b d)];exact r e f b g
variable{aB:List (List bY×V)}
def TupAt.fi{u:V}{aK:List bY}(d:TupAt c u aK)(i:c s=j (.cI aB))(r:eH s c O):TupAt O u aK:=by obtain⟨e,g,b⟩:=d;have h:e≠s:=e2.bA.eJ b i ⋯ (λ_=>⋯);obtain b|⟨k,b⟩:=b;exact⟨e,g,.inl (r _ _ b h)⟩;exact⟨e,g,.inr ⟨k,r _ _ b h⟩⟩
inductive I2(c:z)(w:gY)(u:V):Prop|mk:∀b d,u= .ref b->c b=j (.aF [d,.int (w.by_:Nat)])->b1 c w.src d->I2 c w u
def k1(c:z)(w:gY)(u:V):Prop:=I2 c w u
def k1.aG(c b:z)(w:gY)(u:V)(h:Q c b)(d:k1 c w u):k1 b w u:=let⟨e,f,g,i,k⟩:=d;⟨e,f,g,h _ _ i,k.same h⟩
theorem k1.bK{e:t}{q C:aC}{w:gY}{u:V}(d:k1 c w u)(b:c e=j q)(f:∀M,q≠.aF M)(h:∀ao C,q≠.ci ao C):k1 (U c e C) w u:=by obtain⟨i,k,l,g,m⟩:=d;exact⟨i,k,l,by rw[aH (ct g b λn=>f _ n.symm)];exact g,m.bK b f h⟩
def gZ(c:z)(f:t)(l:dw)(d:List bY×V):Prop:=d.1=c3 l.place/\∃b e,d.2= .ref b/\b≠f/\c b=j (.L e)/\br (k1 c) l.chain e
variable{l:dw}{oV:List bY×V}
theorem gZ.aG(h:Q c O)(d:gZ c bs l oV):gZ O bs l oV:=
 let⟨b,e,f,g,i,k,m⟩:=d
 ⟨b,e,f,g,i,h _ _ k,m.aG λ_ _=>k1.aG _ _ _ _ h⟩
def gZ.dict{C:aC}(d:gZ c bs l oV)(e:c s=j (.cI aB)):gZ (U c s C) bs l oV:=
 let⟨g,h,i,k,m,f,n⟩:=d
 ⟨g,h,i,k,m,by rw[aH (ct f e ⋯)];exact f,n.aG λ_ _ o=>o.bK e (λ_=>⋯) (λ_ _=>⋯)⟩
def gZ.list{f4 aN:List V}(d:gZ c bs l oV)(f:c bs=j (.L f4)):gZ (U c bs (.L aN)) bs l oV:=
 let⟨g,h,aN,i,e,k,m⟩:=d
 ⟨g,h,aN,i,e,by rw[aH e];exact k,m.aG λ_ _ n=>n.bK f (λ_=>⋯) (λ_ _=>⋯)⟩
def gZ.iK(d:gZ c bs l oV)(o:∀b aN,c b=j (.L aN)->b≠s):gZ c s l oV:=
 let⟨f,b,aN,g,i,e,h⟩:=d
 ⟨f,b,aN,g,o _ _ e,e,h⟩
inductive I3(c:z)(b s:t)(all:List dw):Prop|mk:∀aB,c s=j (.cI aB)->br (gZ c b) all aB->I3 c b s all
def tB(c:z)(b s:t)(all:List dw):Prop:=I3 c b s all
def rH{m:av}:∀{all:List dw} {aB:List (List bY×V)},br (gZ c bs) all aB->(∀l,all.find? (λao=>ao.place==m)=j l->∃d aN,cg aB (c3 m)=j (.ref d)/\d≠bs/\c d=j (.L aN)/\br (k1 c) l.chain aN)/\(m∉Y.bi all->cg aB (c3 m)=E):=by
 intro all aB o;induction o with
 |nil=>exact⟨λl b=>(by cases b),λ_=>rfl⟩
 | @cons l p x h q _ i=>
  obtain⟨k,d,aN,r,s,u,v⟩:=q;by_cases b:l.place=m;refine⟨λn e=>?_,λf=>aq (by delta Y.bi;rw[bz,b];exact b8) f⟩;rw[ez,show(l.place==m)=H from fz.mpr b]at e;cases e;exact⟨d,aN,by rw[jl (by rw[k,b]),r],s,u,v⟩;have w:cg (p::h) (c3 m)=cg h (c3 m):=jm λg=>b (zv (k.symm.trans g));rw[w];refine⟨λn e=>i.1 n ?_,λf=>i.2 λg=>f (cv _ g)⟩
  rwa [ez,show(l.place==m)=am from fl.mpr b]at e
variable{all:List dw}
def I4{m:av}(d:br (gZ c bs) all aB):(cg aB (c3 m)).isSome=decide (m∈Y.bi all):=by
 by_cases b:m∈Y.bi all;rw[bw b];cases f:all.find? (λg=>g.place==m)with
 |none=>obtain⟨e,h,rfl⟩:=cx.mp b;have:=n6.mp f e h;simp at this
 |some e=>obtain⟨k,l,i,_⟩:=(rH d).1 e f;rw[i];rfl
 rw[bq b,(rH d).2 b];rfl
def i0(seen:List av)(l:dw)(q:List dw)(w:gY):List dw:=if w.src==l.place then Y.j1 seen l q w else q
def wq(W:List gY)(seen:List av)(c:List dw)(l:dw):Y.kt W seen c l=W.foldl (i0 seen l) c:=by
 delta Y.kt;induction W generalizing c with
 |nil=>rfl
 |cons e f d=>rw[lc,gk];delta i0;by_cases b:(e.src==l.place)=H;rw[as b,as b,gk];exact d _;rw[ag b,ag b];exact d _
def TQ{b:List dw}(d:all.find? (λao=>ao.place==l.place)=j l):(all++b).find? (λao=>ao.place==l.place)=j l:=by rw[mN,d];rfl
def TR(b c:av):(((iZ b:Nat):Int)=((iZ c:Nat):Int)/\((Y.ek b:Nat):Int)=((Y.ek c:Nat):Int))↔b=c:=by constructor;intro d;cases b<;>cases c<;>simp_all [iZ,Y.ek]<;>omega;intro d;rw[d];exact⟨a,a⟩
structure rI (gc:List av) (all nC:List dw):Prop where
 lk:Y.cd (Y.bi all) nC
 sub:∀m∈Y.bi nC,m∈gc
 len:∀l∈nC,l.chain.length<=900
abbrev wr:be:=b3 66
inductive BJ(G:List V)(c:z)(g:aW)(o:bn):Prop|mk:∀(h s i:t) (k m:List V) (W:List gY) (all d:List dw) (e:List av),G=[.ref h,.ref s,.ref i]->c h=j (.L k)->br (λf b=>iz c (nW f) b) W k->tB c s s all->c i=j (.L m)->br (λ(l:dw) b=>b1 c l.place b) d m->(∀l∈d,all.find? (λp=>p.place==l.place)=j l)->(Y.bi all).Nodup->(∀q∈Y.bi all,q∈e)->(∀f∈W,f.dst∈e)->e.length<=900->(∀l∈all,l.chain.length<900)->(∀(O:z) (bs:t) (n:List V),eH s c O->tB O s s (all++g4 W (Y.bi all) d)->O bs=j (.L n)->br (λ(l:dw) b=>b1 O l.place b) (g4 W (Y.bi all) d) n->g (.ref bs) O)->BJ G c g o
structure BK (cw O:z) (bs s:t) (all nC:List dw) (gc:List av):Prop where
 fi:eH s cw O
 BL:∃f4,O bs=j (.L f4)/\br (λ(l:dw) u=>b1 O l.place u) nC f4
 kb:tB O bs s (all++nC)
 BM:rI gc all nC
def rI.size{gc:List av}{b:List dw}(d:rI gc all b)(f:(Y.bi all).Nodup)(g:∀m∈Y.bi all,m∈gc)(l:gc.length<=900):(all++b).length<=900:=by
 have:=Y.m6 (n:=Y.bi (all++b)) (v:=gc) (by rw[Y.j2];exact Y.n8 f d.lk.nd λh i k=>d.lk.new h k i) (λm e=>by rw[Y.j2]at e;obtain c|c:=bE.mp e;exact g m c;exact d.sub m c)
 unfold Y.bi at this;rw[aV]at this;omega
def rI.next{gc:List av}{e:List dw}{w:gY}(d:rI gc all e)(h:w.dst∈gc)(m:l.chain.length<900):rI gc all (i0 (Y.bi all) l e w):=by
 delta i0;split;refine⟨d.lk.j1 l w,λi k=>?_,λf c=>?_⟩;obtain b|⟨_,b⟩:=Y.t7.mp k;exact d.sub i b;rw[<-b];exact h;obtain⟨g,_⟩|⟨g,_⟩:=Y.qw (Y.bi all) l e w;rw[g]at c;exact d.len f c;rw[g]at c;obtain b|b:=bE.mp c;exact d.len f b;have:f=⟨w.dst,l.chain++[w]⟩:=by simpa using b
 subst this;show(l.chain++[w]).length<=900;rw[b4,fS];omega;exact d
variable{P:cN}{w:cr}{K:bG}{mg:Str->Option ab}{base:bM}{f:t}{ai:hQ}
def rJ:b2 ["ways","rows","last","found","place","begin","end","maker"] Za (bo wr):=⟨a,a,a,∅,a,∅,∅⟩
inductive I5(c:z)(d s e:t)(all:List dw)(gc:List av)(b:t)(f:List dw)(g:bT.St)(h:z):Prop|mk:∀i k l m,g=[j (.ref d),j (.ref s),j (.ref e),j (.ref b),i,k,l,m]->BK c h b s all f gc->I5 c d s e all gc b f g h
inductive I6(c:z)(d s e:t)(all:List dw)(gc:List av)(b f:t)(g:List dw)(h:bT.St)(i:z):Prop|mk:∀k l m,h=[j (.ref d),j (.ref s),j (.ref e),j (.ref b),j (.ref f),k,l,m]->BK c i b s all g gc->I6 c d s e all gc b f g h i
def TS(F:bO K "find_round" "find_round" wr f ai):bd P w K mg base a7 1 f ai Za BJ:=by
 refine F.ok rJ (λbP G bQ bR p=>?_) (λbS bT cn l G bP bQ bR a2 p=>?_);obtain⟨T,s,O,Z,a3,W,all,aI,al,rfl,_⟩:=p;rfl;obtain⟨T,s,O,Z,a3,W,all,aI,al,rfl,aK,a4,bU,ao,a6,bV,a8,a9,bW,a_,ba,bX⟩:=p;have aL:(bT.deeper (f3 "find_round" (bo wr) l.heap.objs.size f bS)).units+1<e0:=by have:=a2.units;omega
 refine⟨_,ay (bZ (k:=3) rJ.nd a (aU a) (dR ae)) (ay (fg gx a (dU (x 2)) (cF (k:=4) rJ.nd a (aU a)) (aA (fg gx a (dU (x 0)) (kz a (fo (cF (k:=5) rJ.nd a (aU a)) (fo (cF (k:=6) rJ.nd a (aU a)) (fo (cF (k:=7) rJ.nd a (aU a)) ky)))) (aA (cp (ht.lq (uj (b7 (s:=sz K) (by exact yt a2.units) (x 5) (x 4) (cf _)) (ui (mb (by exact oy aL (x 6) (x 1)))))) (ay (ml aL (x 1) (x 6) (fD nx (jP aL (x 1) (x 5) (λ_ _=>rfl)) (dR (I (cP (I (x 5) (I (x 7) ae))) ae))) a) (aA (c' (fF fK hT iq hS (x 3) (I (x 6) ae))))) cO))))) (aA (bx (x 3)))),?_⟩;obtain⟨bY,J,b0⟩:=bU;refine⟨YR,λu aa=>?_⟩;have ap:=Q.fresh (q:=aC.L []) aa;have bb:s≠u:=ew J aa;have co:O≠u:=ew ao aa;have bc:T≠s:=ct aK J ⋯;have b2:BK G (U G u (.L [])) u s all [] al:=⟨(eH.refl s G).same ap,⟨[],aw,.nil⟩,⟨bY,ap _ _ J,by rw[fT];exact b0.aG λl ar p=>(gZ.iK p λaM Z aN=>ew aN aa).aG ap⟩,⟨by simp[Y.bi],λm aP=>by simp[Y.bi]at aP⟩,λm aP=>by simp[Y.bi]at aP,λl b3=>by simp at b3⟩
 refine⟨_,a,O,a,⟨_,an.au (ap _ _ ao)⟩,?_⟩;refine g' (K:=K) (e:=O) (M:=a3) (λk=>I5 G T s O all al u ((aI.take k).foldl (Y.kt W (Y.bi all)) []))
  ⟨E,E,E,E,a,b2⟩ (λk ad g _ ⟨_,_,_,_,_,d⟩=>an.au (d.fi _ _ ao (ct ao J λd=>nomatch d:O≠s))) ?_ ?_
 rintro k aQ ad g b6 ⟨b9,af,ah,aj,rfl,h⟩;obtain⟨st,bf,bg,rfl,b_⟩:=a6.fq b6;have bh:=bV st (ev bf);have bj:st∈all:=n7 bh;refine⟨_,a,T,a,⟨_,an.au (h.fi _ _ aK bc)⟩,?_⟩;rw[eF bf,z8,gk,TU,wq];generalize(aI.take k).foldl (Y.kt W (Y.bi all)) []=bk at h;refine g' (K:=K) (e:=T) (M:=Z) (λaR=>I6 G T s O all al u bg ((W.take aR).foldl (i0 (Y.bi all) st) bk))
  ⟨af,ah,aj,a,h⟩ (λk ad g _ ⟨_,_,_,_,d⟩=>an.au (d.fi _ _ aK bc)) ?_ ?_
 clear af ah aj h g;rintro aR aQ ad g b' ⟨af,ah,aj,rfl,h⟩;obtain⟨b,bl,av,cs,cu,rfl,bn,⟨o,rfl,ax⟩,⟨V,rfl,az⟩⟩:=((λ{g} aT=>a4.aG λw R ⟨av,aQ,r,aB,aW,aX,aE⟩=>⟨av,aQ,r,aB,aT _ _ aW (ct aW J ⋯),aX.fi J aT,aE.fi J aT⟩:∀{g:z},eH s G g->br (λw R=>iz g (nW w) R) W Z) h.fi).fq b';change g av=j (.aF [.ref o,.ref V,.int (b.by_:Nat)])at bn;change bA g o (.aF ((c3 b.src).map c9))at ax;change bA g V (.aF ((c3 b.dst).map c9))at az;rw[eF bl,z8,gk,TU];generalize(W.take aR).foldl (i0 (Y.bi all) st) bk=N at h;have aY:=h.BM.next (l:=st) (bW b (ev bl)) (ba st bj);obtain⟨cw,ca,cc⟩:=TupAt.fi ⟨bg,a,b_⟩ J h.fi;cases ca;have bp:=ax;rw[tx]at bp;have bs:=cc;rw[tx]at bs;refine⟨av,_,a,ej.au bn,a,_,_,a,_,_,a,_,_,a,a,?_⟩;refine⟨_,a,_,a,_,_,oH bp,oH bs,oG _ _,oG _ _,_,a,?_⟩;dsimp only;rw[vw];have bt:=TR b.src st.place;by_cases d:b.src=st.place;have aZ:i0 (Y.bi all) st N b=Y.j1 (Y.bi all) st N b:=by delta i0;rw[as (fz.mpr d)]
 rw[aZ]at aY|-;obtain⟨n,C,S⟩:=h.kb;rw[show decide (((iZ b.src:Nat):Int)=((iZ st.place:Nat):Int)/\((Y.ek b.src:Nat):Int)=((Y.ek st.place:Nat):Int))=H from bw (bt.mpr d)];refine cm ⟨_,a,_,a,s,_,a,.inr ⟨n,_,V,.inl C,a,az,a⟩,_,a,?_⟩;rw[I4 S];obtain⟨a0,cd⟩|⟨a0,ci,cj⟩:=Y.qw (Y.bi all) st N b;rw[bw (by rw[Y.j2];exact bE.mpr cd)];rw[a0];exact cq ⟨_,_,_,a,h⟩;have bu:b.dst∉Y.bi (all++N):=by rw[Y.j2];intro r;obtain r|r:=bE.mp r;exact ci r;exact cj r
 rw[bq bu];rw[a0]at aY|-;obtain⟨aM,y,aB,aW,aX,aE⟩:=(rH S (m:=st.place)).1 st (TQ bh);rw[<-d]at aB;refine cm ⟨_,a,_,a,s,_,a,.inr ⟨n,_,o,.inl C,a,ax,aB.symm⟩,?_⟩;refine⟨_,a,_,a,YT,λc p6=>⟨YS,λA kE=>?_⟩⟩;have bB:=Q.fresh (q:=aC.L [.ref c]) kE;have a1:=(Q.fresh (q:=aC.aF [.ref o,.int (b.by_:Nat)]) p6).trans bB;have cA:y.length<900:=by rw[<-aE.length];exact ba st bj
 refine⟨aM,A,_,_,a,a,a1 _ _ aX,aw,fX (c1 (by rw[fS];omega)),λi pX=>?_⟩;have bD:=Q.fresh (q:=aC.L (y++[.ref c])) pX;have v:=a1.trans bD;have lk:n.length<=900:=by rw[<-S.length];exact h.BM.size a8 a9 a_
 refine⟨_,a,_,a,s,_,a,.inr ⟨n,_,V,v _ _ C,a,az.same v,c1 (by omega),a⟩,?_⟩;rw[uR _ ((rH S).2 bu:cg n (c3 b.dst)=E)];have ck:u≠i:=λr=>by obtain⟨D,B,_⟩:=h.BL;rw[<-r]at pX;have:=a1 _ _ B;rw[pX]at this;cases this
 have bF:∃D,(U (U (U (U g c (.aF [.ref o,.int (b.by_:Nat)])) A (.L [.ref c])) i (.L (y++[.ref c]))) s (.cI (n++[(c3 b.dst,.ref i)]))) u=j (.L D)/\br (λ(l:dw) R=>b1 (U (U (U (U g c (.aF [.ref o,.int (b.by_:Nat)])) A (.L [.ref c])) i (.L (y++[.ref c]))) s (.cI (n++[(c3 b.dst,.ref i)]))) l.place R) N D:=by obtain⟨D,B,X⟩:=h.BL;exact⟨D,by rw[aH (cU bb)];exact v _ _ B,X.aG λl R ak=>(ak.same v).bK (v _ _ C) (λ_=>⋯) (λ_ _=>⋯)⟩
 have cl:gZ (U (U (U g c (.aF [.ref o,.int (b.by_:Nat)])) A (.L [.ref c])) i (.L (y++[.ref c]))) u ⟨b.dst,st.chain++[b]⟩ (c3 b.dst,.ref i):=
  ⟨a,i,_,a,cU ck,aw,(aE.aG λw R ak=>k1.aG _ _ _ _ v ak).snoc (⟨c,.ref o,a,bD _ _ (bB _ _ aw),⟨o,a,ax.same v⟩⟩:k1 (U (U (U g c (.aF [.ref o,.int (b.by_:Nat)])) A (.L [.ref c])) i (.L (y++[.ref c]))) b (.ref c))⟩
 have bH:br (gZ (U (U (U (U g c (.aF [.ref o,.int (b.by_:Nat)])) A (.L [.ref c])) i (.L (y++[.ref c]))) s (.cI (n++[(c3 b.dst,.ref i)]))) u) (all++N++[⟨b.dst,st.chain++[b]⟩]) (n++[(c3 b.dst,.ref i)]):=
  ((S.aG λl ar p=>p.aG v).snoc cl).aG λl ar p=>p.dict (v _ _ C)
 have bI:eH s G (U (U (U (U g c (.aF [.ref o,.int (b.by_:Nat)])) A (.L [.ref c])) i (.L (y++[.ref c]))) s (.cI (n++[(c3 b.dst,.ref i)]))):=(h.fi.same v).bK;have bJ:b1 (U (U (U (U g c (.aF [.ref o,.int (b.by_:Nat)])) A (.L [.ref c])) i (.L (y++[.ref c]))) s (.cI (n++[(c3 b.dst,.ref i)]))) b.dst (.ref V):=(TupAt.same v ⟨V,a,az⟩).bK (v _ _ C) (λ_=>⋯) (λ_ _=>⋯);have bL:(U (U (U (U g c (.aF [.ref o,.int (b.by_:Nat)])) A (.L [.ref c])) i (.L (y++[.ref c]))) s (.cI (n++[(c3 b.dst,.ref i)]))) s=j (.cI (n++[(c3 b.dst,.ref i)])):=aw;generalize U (U (U (U g c (.aF [.ref o,.int (b.by_:Nat)])) A (.L [.ref c])) i (.L (y++[.ref c]))) s (.cI (n++[(c3 b.dst,.ref i)]))=cB at bF bH bI bJ bL;obtain⟨D,B,X⟩:=bF;have cC:D.length<=900:=by rw[<-X.length];have:=h.BM.size a8 a9 a_;rw[b4]at this;omega
 refine⟨_,a,.inl ⟨a,_,an.au B⟩,_,a,u,_,_,a,a,B,c1 (by omega),?_⟩;refine⟨_,_,_,a,bI.own aa,⟨_,aw,?_⟩,⟨_,by rw[aH bb];exact bL,?_⟩,aY⟩;exact(X.snoc bJ).aG λl R ak=>TupAt.bK ak B (λ_=>⋯) (λ_ _=>⋯);rw[<-eW];exact bH.aG λl ar p=>p.list B;have aZ:i0 (Y.bi all) st N b=N:=by delta i0;rw[ag (λr=>d (fz.mp r))]
 rw[aZ,show decide (((iZ b.src:Nat):Int)=((iZ st.place:Nat):Int)/\((Y.ek b.src:Nat):Int)=((Y.ek st.place:Nat):Int))=am from bq λr=>d (bt.mp r)];exact cq (cq ⟨_,_,_,a,h⟩);rintro ad cD ⟨af,ah,aj,rfl,bN⟩;rw[<-a4.length,f8]at bN;exact⟨_,_,_,_,a,bN⟩;rintro ad g ⟨b9,af,ah,aj,rfl,h⟩;rw[<-a6.length,f8,<-Y.xw]at h;obtain⟨D,B,X⟩:=h.BL;obtain⟨n,C,S⟩:=h.kb;exact⟨_,a,bX g u D h.fi ⟨n,C,S.aG λl ar p=>p.iK λaM Z aN=>ct aN C ⋯⟩ B X⟩
def I7(e b:aI):(ep e=ep b/\((ck e:Nat):Int)=((ck b:Nat):Int))↔e=b:=by constructor;intro c;cases e<;>cases b<;>simp_all [ep,ck]<;>omega;intro c;rw[c];exact⟨a,a⟩
def km(b:List a2)(e:aI):List av:=((f9 b).filter λw=>w.2==e).map λw=>w.1
def k2(n:List av):List dw:=n.map λb=>⟨b,[]⟩
def I8(e:List a2):((f9 e).map λw=>w.1).Nodup:=by
 delta f9;rw[A6];unfold I9;refine List.Pairwise.filterMap (R:=λf b=>f≠b) _ (λf o i b k p l=>?_) CL;have g:∀{c:Nat} {b:av},Option.map (λw:av×aI=>w.1) (kQ e c)=j b->b= .node c:=λ{c b} d=>by
  unfold kQ at d;cases h:(e[c]?).bind λm=>ea m.kind c with
  |none=>rw[h]at d;cases d
  |some f=>rw[h]at d;cases d;rfl
 rw[g k,g l];intro n;cases n;exact i a
def TV{b:List a2}{e:aI}{k:Nat}{w:av×aI}(d:(f9 b)[k]?=j w):w.1∉(((f9 b).take k).filter λw=>w.2==e).map λw=>w.1:=by intro f;obtain⟨i,g,h⟩:=cx.mp f;have c:(((f9 b).take (k+1)).map λw=>w.1).Nodup:=t8 (TW _ (MN _ _)) (I8 b);rw[(eF d:(f9 b).take (k+1)=(f9 b).take k++[w]),cS]at c;have:=(w9.mp c).2.2 _ (i8 ((eI.mp g).1)) w.1 (by simp);exact this h
def tC(n:List av):Y.bi (k2 n)=n:=by delta Y.bi k2;rw[fU];exact List.map_id' n
def TX{c:List a2}{w:av×aI}(d:w∈f9 c):w.1∈a_ c:=by
 unfold f9 at d;obtain⟨e,g,b⟩:=eV.mp d;unfold kQ at b;cases f:(c[e]?).bind λh=>ea h.kind e with
 |none=>rw[f]at b;cases b
 |some i=>rw[f]at b;cases b;exact iS (jH.mp g)
def TY{b:List a2}(d:b.length<=30):(f9 b).length<=30:=b5 (ip _ _) d
theorem I_{c d g:Type}{R:d->g->Prop}{f:c->d}:∀{n:List c} {v:List g},br R (n.map f) v->br (λe b=>R (f e) b) n v
 |[],_,.nil=>.nil
 |_::_,_,.cons e b=>.cons e (I_ b)
theorem I'(h:Q c O):∀{n:List dw} {aB:List (List bY×V)} {d:List t},br (gZ c s) n aB->br (λ(ao:List bY×V) b=>bA c b (.aF (ao.1.map c9))) aB d->br (λ(l:dw) u=>b1 O l.place u) n (d.map V.ref)
 |_,_,_,.nil,.nil=>.nil
 |_,_,_,.cons f g,.cons e i=>.cons ⟨_,a,by rw[f.1]at e;exact e.same h⟩ (I' h g i)
abbrev ws:be:=b3 65
inductive BN(G:List V)(c:z)(f:aW)(o:bn):Prop|mk:∀(g:t) (x h:V) (b:List a2) (p:c4) (i:av->List aI) (k:av) (d:aI) (W:List gY) (e:dw),G=[.ref g,x,h]->fN c g b p i->Good b->b1 c k x->d' c d h->jY b i=W.map nW->(∀w∈W,w.dst∈a_ b)->(k2 (km b d)++hK W (a_ b).length (km b d) (k2 (km b d))).find? (λl=>l.place==k)=j e->(∀(O:z) (m:t) (n:List V),Q c O->O m=j (.L n)->br (k1 O) e.chain n->e.chain.length<=900->f (.ref m) O)->BN G c f o
inductive Ja(b:z)(s e:t)(c:List a2)(W:List gY)(m:av)(g:dw)(f:Nat):Prop|mk:∀(all d:List dw) (h:List V),tB b s s all->b e=j (.L h)->br (λ(l:dw) i=>b1 b l.place i) d h->(∀l∈d,all.find? (λk=>k.place==l.place)=j l)->(Y.bi all).Nodup->(∀m∈Y.bi all,m∈a_ c)->(∀l∈all,l.chain.length+f<=(a_ c).length)->(all++hK W f (Y.bi all) d).find? (λl=>l.place==m)=j g->Ja b s e c W m g f
structure Jb (eY O:z) (s TZ:t) (ns:List a2) (W:List gY) (m:av) (T0:dw) (f:Nat):Prop where
 fi:eH s eY O
 ex:Ja O s TZ ns W m T0 f
def Jc{n:List dw}(d:(Y.bi n).Nodup)(b:l∈n):n.find? (λao=>ao.place==l.place)=j l:=by
 induction n with
 |nil=>cases b
 |cons c h e=>unfold Y.bi at d;rw[bz,e9]at d;obtain f|b:=bm.mp b;subst f;rw[ez,le];have:c.place≠l.place:=λg=>d.1 (by rw[g];exact i8 b);rw[ez,fl.mpr this];exact e d.2 b
def T1{o:List dw}(d:(Y.bi (all++o)).Nodup):∀l∈o,(all++o).find? (λao=>ao.place==l.place)=j l:=λl b=>Jc d (gH _ b)
def T2{v:List dw}{m:av}{b:dw}(d:(all++v).find? (λl=>l.place==m)=j b)(e:m∈Y.bi all):all.find? (λl=>l.place==m)=j b:=by
 rw[mN]at d;cases c:all.find? (λl=>l.place==m)with
 |some l=>rw[c]at d;exact d
 |none=>obtain⟨l,f,rfl⟩:=cx.mp e;have:=n6.mp c l f;simp at this
theorem Jd{W:List gY}{seen:List av}{o:Nat}:∀{n q:List dw},(∀l∈n,l.chain.length<=o)->(∀l∈q,l.chain.length<=o+1)->∀l∈n.foldl (Y.kt W seen) q,l.chain.length<=o+1
 |[],q,_,b=>b
 |l::n,q,e,b=>by
  rw[gk];refine Jd (λc f=>e c (cv _ f)) ?_;rw[wq];have k:=e l b8;clear e;induction W generalizing q with
  |nil=>exact b
  |cons d W i=>
   rw[gk];apply i;delta i0;split;obtain⟨g,_⟩|⟨g,_⟩:=Y.qw seen l q d;rw[g];exact b;rw[g];intro c f;obtain h|h:=bE.mp f;exact b c h;have:c=⟨d.dst,l.chain++[d]⟩:=by simpa using h
   subst this;show(l.chain++[d]).length<=o+1;rw[b4,fS];omega;exact b
def p7:b2 ["table","place","sort","ways","rows","begin","needed","last"] Y7 (bo ws):=⟨a,a,a,∅,a,∅,∅⟩
inductive Je(p c s:t)(d:z)(e f:t)(g:List dw)(h:bT.St)(b:z):Prop|mk:∀i k,h=[j (.ref p),j (.ref f),j (.ref e),j (.ref c),j (.ref s),i,k,E]->eH s d b->tB b s s g->Je p c s d e f g h b
inductive BO(p:t)(b:List a2)(m:av)(W:List gY)(c:dw)(d s:t)(e:z)(g h:t)(f:Nat)(i:bT.St)(k:z):Prop|mk:∀n o l,i=[j (.ref p),j (.ref h),j (.ref g),j (.ref d),j (.ref s),n,o,j (.ref l)]->Jb e k s l b W m c f->BO p b m W c d s e g h f i k
inductive Jf(W:List gY)(f:Nat)(all b:List dw):Prop|mk:∀c,f=c+1->(g4 W (Y.bi all) b).isEmpty=am->Jf W f all b
def T3(F:bO K "find_row" "find_row" ws f ai)(T:cT K mg)(ba:hl K mg)(bV:bI P w K mg base a7 7 "list_ways" Zx wk)(bW:bI P w K mg base a7 3 "list_own_needs" Zw q_)(bX:bI P w K mg base a7 1 "find_round" Za BJ):bd P w K mg base a7 8 f ai Y7 BN:=by
 refine F.ok p7 (λbY aF b0 B m=>?_) (λb2 a6 c0 c aF bY b0 B af m=>?_);obtain⟨u,x,a8,d,a6,a9,i,e,W,J,rfl,_⟩:=m;rfl;obtain⟨u,b3,a8,d,aH,a9,i,e,W,J,rfl,bb,ap,N,aI,b6,bc,b',bf⟩:=m;have aK:(a6.deeper (f3 "find_row" (bo ws) c.heap.objs.size f b2)).units+1<e0:=by have:=af.units;omega
 refine⟨_,ay (bZ (k:=3) p7.nd a (aU a) (bP (B:=b9) bV af a bN (I (x 0) ae))) (ay (bZ (k:=4) p7.nd a (aU a) uU) (ay (fg gx a (dU (bP (B:=b9) bW (af.aG nofun) a bN (I (a1 (x 0) a) ae))) (kz a (fo (cF (k:=5) p7.nd a (aU a)) (fo (cF (k:=6) p7.nd a (aU a)) ky))) (aA (cp (b7 (s:=sz K) (by exact yt af.units) (x 6) (x 2) (cf _)) (aA (ml aK (x 4) (x 5) (dR ae) a)) cO))) (ay (bZ (k:=7) p7.nd a (aU a) (nw (TP a) a ba.v_ (by rfl) (I (x 4) ae))) (ay (uo gx (mb (by exact oy aK (x 1) (x 4))) (aA (bZ (k:=7) p7.nd a (aU a) (bP (B:=b9) bX (af.aG nofun) a bN (I (x 3) (I (x 4) (I (x 7) ae))))))) (aA (bx (jP aK (x 4) (x 1) (λ_ _=>rfl)))))))),?_⟩;have ca:=oK d ap.len;refine⟨_,a,u,d,aH,a9,a,bb,ap,λc4 O aL ah c7 cc bg=>?_⟩;rw[b6]at bg;refineλs bh=>?_;have R:=Q.fresh (q:=aC.cI []) bh;have aM:=(bb.same ah).same R;refine⟨_,a,u,b_,aH.a4,_,_,a,aM.az,T.dV,T.iO,a,aH.cs,d,a,aM.eX,ap.len,aM.num,λn aN cd S bj bk bl=>⟨aN,a,⟨_,an.au bk⟩,?_⟩⟩;have ci:aN≠s:=λb=>(by rw[b,aw]at bj;cases bj);have p:n s=j (.cI []):=S _ _ aw;obtain⟨ar,rfl,cj⟩:=(((aI.same ah).same R).same S:d' n e a8);obtain⟨X,rfl,ck⟩:=(((N.same ah).same R).same S:b1 n i b3);have bn:n O=j (.L aL):=S _ _ (R _ _ cc);refine g' (K:=K) (e:=aN) (M:=cd) (λk=>Je u O s n ar X (k2 ((((f9 d).take k).filter λw=>w.2==e).map λw=>w.1)))
  ⟨E,E,a,eH.refl _ _,[],p,.nil⟩ (λk aP v _ ⟨_,_,_,b,_⟩=>an.au (b _ _ bk ci)) ?_ ?_
 rintro k bp aP v cl ⟨av,ax,rfl,y,l,z,g⟩;obtain⟨C,bs,Z,c9,c_,rfl,D,cn,co⟩:=bl.fq cl;obtain⟨cu,rfl,cw⟩:=cn.fi p y;obtain⟨c',rfl,bt⟩:=co.fi p y;obtain⟨db,cA,bu⟩:=TupAt.fi ⟨ar,a,cj⟩ p y;cases cA;rw[rc]at bt bu;refine⟨Z,_,a,ej.au (y _ _ D (ct D p ⋯)),a,_,_,a,_,_,a,a,?_⟩;refine⟨_,a,_,a,_,_,oH bt,oH bu,oG _ _,oG _ _,_,a,?_⟩;dsimp only;rw[vw,eF bs,tU];by_cases b:C.2=e;rw[bw ((I7 _ _).mpr b)];refine cm ⟨YR,λaQ aR=>?_⟩;have aj:=Q.fresh (q:=aC.L []) aR;have aT:cg l (c3 C.1)=E:=(rH g).2 (by rw[tC];exact TV bs);have lk:l.length<=30:=by rw[<-g.length];delta k2;rw[aV,aV];exact b5 (tz _ _) (by rw[ic];have:=TY ap.len;omega)
 refine⟨_,a,_,a,s,_,a,.inr ⟨l,_,cu,aj _ _ z,a,cw.same aj,c1 (by omega),a⟩,?_⟩;rw[uR _ aT];refine⟨_,_,a,(y.same aj).bK,_,aw,?_⟩;rw[show([C].filter λw=>w.2==e)=[C]by simp[b],cS];delta k2;rw[cS];have cB:gZ (U v aQ (.L [])) s ⟨C.1,[]⟩ (c3 C.1,.ref aQ):=⟨a,aQ,[],a,λak=>(by rw[ak,z]at aR;cases aR),aw,.nil⟩;exact((g.aG λc bA m=>m.aG aj).snoc cB).aG λc bA m=>m.dict (aj _ _ z);rw[bq λak=>b ((I7 _ _).mp ak)];refine cq ⟨_,_,a,y,l,z,?_⟩;rw[show([C].filter λw=>w.2==e)=[]by simp[b],fT];exact g;rintro aP bB ⟨av,ax,rfl,bD,l,aB,g⟩;rw[<-bl.length,f8]at g;change br (gZ bB s) (k2 (km d e)) l at g;have bF:(km d e).Nodup:=t8 (TW _ r6) (I8 d);have cC:∀i∈km d e,i∈a_ d:=λi N=>by obtain⟨w,hw,rfl⟩:=cx.mp N;exact TX (eI.mp hw).1
 refine⟨_,a,s,l,a,.inl aB,λaa aW ad has=>?_⟩;have al:=Q.fresh (q:=aC.L (aW.map V.ref)) ad;have cD:aa≠s:=λb=>(by rw[b,aB]at ad;cases ad);have bH:Jb n (U bB aa (.L (aW.map V.ref))) s aa d W i J (a_ d).length:=by refine⟨bD.same al,k2 (km d e),k2 (km d e),aW.map V.ref,⟨l,al _ _ aB,g.aG λc bA m=>m.aG al⟩,aw,?_,?_,by rw[tC];exact bF,by rw[tC];exact cC,?_,by rw[tC];exact b'⟩;exact I' al g has;intro c h;exact Jc (by rw[tC];exact bF) h;intro c h;obtain⟨bf,_,rfl⟩:=cx.mp h;show 0+_<=_;omega
 refine⟨(BO u d i W J O s n ar X),⟨_,av,ax,aa,a,bH⟩,?_⟩;clear bH ad al cD has g aB bD av ax;rintro f aP v ⟨av,ax,aa,rfl,A⟩;obtain⟨all,o,cE,⟨l,z,g⟩,ad,cG,aX,bJ,bL,ao,r⟩:=A.ex;obtain⟨dc,cH,bQ⟩:=TupAt.fi ⟨X,a,ck⟩ p A.fi;cases cH;refine⟨_,a,_,a,s,_,a,.inr ⟨l,_,X,.inl z,a,bQ,a⟩,_,a,?_⟩;rw[I4 g];by_cases aE:i∈Y.bi all;rw[bw aE];have bR:=T2 r aE;obtain⟨cJ,cK,aY,aZ,a0,a2⟩:=(rH g).1 J bR;refine cq ⟨_,a,_,a,s,_,a,.inr ⟨l,_,X,.inl z,a,bQ,aY.symm⟩,?_⟩;have:=ao J (n7 bR);exact bf v cJ cK ((λ{v} y Z q D=>y Z q (((ah.trans R).trans S:Q aF n) Z q D) (ew (ah _ _ D) bh):∀{v},eH s n v->Q aF v) A.fi) a0 a2 (by omega);rw[bq aE];obtain⟨G,rfl,cL⟩:Jf W f all o:=by
  rw[mN]at r;have aT:all.find? (λc=>c.place==i)=E:=n6.mpr λc h b=>aE (by rw[<-fz.mp b];exact i8 h);rw[aT]at r;cases f with
  |zero=>cases r
  |succ G=>
   refine⟨G,a,?_⟩;cases b:(g4 W (Y.bi all) o).isEmpty with
   |false=>rfl
   |true=>unfold hK at r;simp only[b,kH]at r;cases r
 have cM:hK W (G+1) (Y.bi all) o=g4 W (Y.bi all) o++hK W G (Y.bi (all++g4 W (Y.bi all) o)) (g4 W (Y.bi all) o):=by rw[hK];simp only[cL,kK,ig];rw[Y.j2];rfl
 rw[cM,<-eW]at r;have lk:=Y.C8 W (Y.bi all) o;have bS:(Y.bi (all++g4 W (Y.bi all) o)).Nodup:=by rw[Y.j2];exact Y.n8 bJ lk.nd λe aI D=>lk.new e D aI
 refine cm ⟨(BO u d i W J O s n ar X G),λdd de m=>⟨G,uu _,m⟩,?_⟩;refine⟨_,a,_,a,_,a,O,s,aa,aL,cE,W,all,o,a_ d,a,A.fi _ _ bn (ct bn p λb=>nomatch b:O≠s),((I_ bg).aG λw a3 u=>iz.aG _ _ _ _ (R.trans S) u:br (λw a3=>iz n (nW w) a3) W aL).aG λw a3 ⟨Z,bp,ak,aY,aZ,a0,a2⟩=>⟨Z,bp,ak,aY,A.fi _ _ aZ (ct aZ p ⋯),a0.fi p A.fi,a2.fi p A.fi⟩,⟨l,z,g⟩,ad,cG,aX,bJ,bL,bc,ca,λc h=>by have:=ao c h;omega,λdf cP cQ cV cW cX cY=>⟨_,_,cP,a,A.fi.trans cV,_,_,cQ,cW,cX,cY,T1 bS,bS,?_,?_,r⟩⟩;intro i N;rw[Y.j2]at N;obtain b|b:=bE.mp N;exact bL i b;obtain⟨_,c,_,w,hw,_,rfl⟩:=Y.r4.mp b;exact bc w hw;intro c h;obtain b|b:=bE.mp h;have:=ao c b;omega;rw[Y.xw]at b;have cZ:∀c∈o,c.chain.length<=(a_ d).length-(G+1):=λc h=>by have:=ao c (n7 (aX c h));omega
 have dg:=Jd (W:=W) (seen:=Y.bi all) cZ (λc h=>aq h (Qz)) c b;cases bT:o with
 |nil=>rw[bT]at b;cases b
 |cons bU dh=>have:=ao bU (n7 (aX bU (by rw[bT];exact b8)));omega
theorem BP{c d:Type}[BEq c][LawfulBEq c](f:d->c->d)(e:c)(st:∀q b,f q e=q->f (f q b) e=f q b):∀(n:List c) (q:d),f q e=q->(n.filter λb=> !(b==e)).foldl f q=n.foldl f q
 |[],_,_=>rfl
 |b::n,q,g=>by rw[lc];by_cases h:b=e;subst h;rw[le];simp only[pY,kK,ig];rw[gk,g];exact BP f b st n q g;rw[fl.mpr h];simp only[HU,kH];rw[gk,gk];exact BP f e st n _ (st q b g)
theorem Jg{c d:Type}[BEq c][LawfulBEq c](f:d->c->d)(g:∀q e,f (f q e) e=f q e)(st:∀e q b,f q e=q->f (f q b) e=f q b):∀(o:Nat) (n:List c) (q:d),n.length<=o->n.eraseDups.foldl f q=n.foldl f q
 |0,n,q,h=>by have:n=[]:=BD.mp (by omega);subst this;rfl
 |o+1,[],_,_=>rfl
 |o+1,e::i,q,h=>by rw[ty,gk,gk];rw[Jg f g st o _ _ (b5 (tz _ _) (by simpa using h):(i.filter λb=> !(b==e)).length<=o)];exact BP f e (st e) i _ (g q e)
def Jh{seen:List av}{q:List dw}{w:gY}:i0 seen l q w=q↔(w.src≠l.place\/w.dst∈seen\/w.dst∈Y.bi q):=by delta i0;by_cases c:w.src=l.place;rw[as (fz.mpr c)];obtain⟨d,e⟩|⟨d,f,g⟩:=Y.qw seen l q w;exact⟨λ_=>.inr e,λ_=>d⟩;constructor;intro b;rw[d]at b;have:=dZ nv b;simp at this;rintro(b|b|b);exact aq c b;exact aq b f;exact aq b g;rw[ag λb=>c (fz.mp b)];exact⟨λ_=>.inl c,λ_=>rfl⟩
def T4{seen:List av}{q:List dw}{w:gY}{m:av}(d:m∈Y.bi q):m∈Y.bi (i0 seen l q w):=by delta i0;split;exact Y.t7.mpr (.inl d);exact d
theorem Ji(W:List gY)(seen:List av):∀(n q:List dw),n.foldl (Y.kt W.eraseDups seen) q=n.foldl (Y.kt W seen) q
 |[],_=>rfl
 |f::n,q=>by rw[gk,gk,Ji W seen n];congr 1;rw[wq,wq];refine Jg _ (λq c=>?_) (λc q g b=>?_) _ W q (bC _);rw[Jh];by_cases d:c.src=f.place;by_cases e:c.dst∈seen;exact .inr (.inl e);refine .inr (.inr ?_);delta i0;rw[as (fz.mpr d)];exact Y.t7.mpr (.inr ⟨e,a⟩);exact .inl d;rw[Jh]at b|-;obtain b|b|b:=b;exact .inl b;exact .inr (.inl b);exact .inr (.inr (T4 b))
theorem Jj(W:List gY):∀(f:Nat) (seen:List av) (n:List dw),hK W.eraseDups f seen n=hK W f seen n
 |0,_,_=>rfl
 |f+1,seen,n=>by have b:g4 W.eraseDups seen n=g4 W seen n:=Ji W seen n [];unfold hK;simp only[b,Jj W f]
def T5{h:a0}(s:Y.cY h)(e:aI):km (aE h) e=Y.hq h e:=by
 delta km;rw[IV s];have u:∀{b:a0} {q:dr},q∈fy h b->q.place=e5 b:=λ{b q} d=>by cases b<;>simp only[fy]at d<;>first|(split at d<;>simp at d<;>subst d<;>rfl)|(simp at d;subst d;rfl)|simp at d
 have w:∀b,(((fy h b).map h3).filter λg=>g.2==e).map (λg=>g.1)=if(fy h b).contains ⟨e5 b,e⟩=H then[e5 b]else[]:=λb=>by
  have m:∀k:aI,((([(⟨e5 b,k⟩:dr)].map h3).filter λg=>g.2==e).map λg=>g.1)=if([(⟨e5 b,k⟩:dr)]).contains ⟨e5 b,e⟩=H then[e5 b]else[]:=λk=>by by_cases i:k=e;subst i;simp[h3];simp[h3,i,cU i]
  cases b with
  |num c C=>exact m _
  |var c f=>
   cases v:dH h c with
   |none=>
    have r:fy h (.var c f)=[⟨.node c,.num⟩]:=by simp only[fy];rw[v]
    rw[r];exact m _
   |some k=>
    have r:fy h (.var c f)=[]:=by simp only[fy];rw[v]
    rw[r];rfl
  |fn c f k=>exact m _
  |pair c f k=>exact m _
  |new c f=>exact m _
  |add c f k=>exact m _
  |_=>rfl
 have x:∀b∈aO h,qx h (e5 b) e=(fy h b).contains ⟨e5 b,e⟩:=λb n=>by rw[m8];unfold qx;rw[d1,d1];constructor;intro d;obtain⟨f,o,p⟩:=cR.mp d;have:b=f:=Y.xg s.qq n o (YI (u p):aS b=aS f);subst this;exact p;intro d;exact cR.mpr ⟨b,n,d⟩
 have y:∀l,(∀b,l≠e5 b)->qx h l e=am:=λl bg=>by
  cases i:qx h l e with
  |false=>rfl
  |true=>obtain⟨f,o,p⟩:=cR.mp (d1.mp i);exact aq (u p) (bg f)
 unfold Y.hq ch;simp only;rw[tU];refine IJ ?_ (dZ _ (Eq.symm (T6.mpr (λl bg=>?_))))
 rotate_left
 have z:∀b,l≠e5 b:=by unfold e5;obtain bg|bg:=bE.mp bg;obtain⟨b,_,bg⟩:=cR.mp bg;cases b<;>simp at bg<;>subst bg<;>exactλb=>⋯;obtain bg|bg:=bE.mp bg;obtain⟨b,_,bg⟩:=cR.mp bg;cases b<;>simp at bg<;>obtain rfl|rfl:=bg<;>exactλb=>⋯;obtain⟨b,_,bg⟩:=cR.mp bg;cases b<;>simp at bg<;>subst bg<;>exactλb=>⋯
 rw[y l z];exact dA;rw[fT];unfold l0;have:∀c:List a0,(∀b∈c,b∈aO h)->(((c.flatMap (fy h)).map h3).filter λg=>g.2==e).map (λg=>g.1)=(c.flatMap λb=>[e5 b]).filter λA=>qx h A e:=by
  intro c;induction c with
  |nil=>intro _;rfl
  |cons b D B=>intro d;rw[ds,cS,tU,cS,B λf o=>d f (cv _ o),w,ds,tU];congr 1;rw[lc,x b (d b b8),List.filter_nil]
 exact this _ λb n=>n
def rK(h:a0):List gY:=(aO h).flatMap (c5 h (cz h))
section
variable{h:a0}(jz:Y.iG h){aj:av->List aI}(mP:∀m∈a_ (aE h),∀e∈aj m,e∈bp (aE h))(d:kT (aE h) aj)
include jz mP d
theorem T7:jY (aE h) aj=(rK h).map nW:=by delta rK;rw[oL jz.ck mP d];exact IW jz.ck
theorem T8:∀w∈rK h,w.dst∈a_ (aE h):=λl b=>by unfold rK at b;rw[oL jz.ck mP d]at b;obtain⟨c,e,f⟩:=cR.mp b;obtain⟨g,i,k,hw⟩:=vS jz.ck (aj:=aj) (Y.n5.mpr ⟨c,e,f⟩);exact(re jz g i aj k mP _ hw).2
omit mP d in
theorem T9(m:av)(e:aI):oa h (cz h) m e=(k2 (km (aE h) e)++hK (rK h) (a_ (aE h)).length (km (aE h) e) (k2 (km (aE h) e))).find? (λl=>l.place==m):=by rw[Y.C'];unfold Y.r5 i6;rw[Jj,T5 jz.ck,e4 jz.ck];rfl
end
abbrev BQ:be:=b3 96
inductive BR(G:List V)(c:z)(h:aW)(B:bn):Prop|mk:∀(i m:t) (e f b:Int) (k:a0) (n:c4) (g:av->List aI),G=[.ref i,.int e,.int f,.int b]->gj c i k m n g->fJ c->0<=e->e.toNat<(aE k).length->(∀d,0<=b->p8 f b.toNat=j d->d∈g (.node e.toNat)->∀(O:z) (l:V),Q c O->d' O d l->h l O)->((b<0\/p8 f b.toNat=E\/∃d,p8 f b.toNat=j d/\d∉g (.node e.toNat))->∀O,Q c O->B (.ref AT) E O)->BR G c h B
def Jk{r:Int}{af:Nat}(d:r<0\/3<r):p8 r af=E:=by unfold p8;rw[ag (by omega),ag (by omega),ag (by omega),ag (by omega)]
def T_{r:Int}{af:Int}(d:0<r)(f:r<=3)(g:0<=af):∃e,p8 r af.toNat=j e/\(gS e).map c9=[.int r,.int af]:=by
 unfold p8;rw[ag (by omega)];have c:((af.toNat:Nat):Int)=af:=by omega
 by_cases b:r=1;subst b;rw[as a];exact⟨_,a,by show[V.int 1,V.int ((af.toNat:Nat):Int)]=_;rw[c]⟩;rw[ag b];by_cases b:r=2;subst b;rw[as a];exact⟨_,a,by show[V.int 2,V.int ((af.toNat:Nat):Int)]=_;rw[c]⟩;rw[ag b];have b:r=3:=by omega
 subst b;rw[as a];exact⟨_,a,by show[V.int 3,V.int ((af.toNat:Nat):Int)]=_;rw[c]⟩
def Jl:b2 ["flows","label","made","maker","sort"] YZ (bo BQ):=⟨a,a,a,∅,a,∅,∅⟩
def T'(F:bO K "require_sort" "require_sort" BQ f ai)(T:cT K mg)(ba:hl K mg)(aa:eE P w K mg base a7 2 b_ "has" Y9 pL):bd P w K mg base (bh P w K mg) 3 f ai YZ BR:=by refine F.okE Jl (λad c ah B g=>?_) (λau aj av aw c ad ah B A g=>?_);obtain⟨C,i,b,r,af,p,aj,l,rfl,_⟩:=g;rfl;obtain⟨C,i,b,r,af,p,s,l,rfl,v,ak,ax,al,R,m⟩:=g;obtain⟨aB,an⟩:=T.lE;obtain⟨aG,S⟩:=ba.AV;obtain⟨aH,ao⟩:=T.vu;refine⟨_,ay (cp (ht.lq (og (b7 qI (x 3) bt (cf _)) (og (b7 qI (x 2) (bQ a S (u:=.int 0) ⟨_,a⟩) (cf _)) (pd (b7 nr (x 2) (bQ a ao (u:=.int 3) ⟨_,a⟩) (cf _)))))) (aA (ik (B:=B) ba.ns (il (λ_ _ _ g=>g)) A.du a)) cO) (ay (bZ (k:=4) Jl.nd a (aU a) (xQ (b7 dL (x 2) (bQ a S (u:=.int 0) ⟨_,a⟩) (cf _)) (bQ a T.sV (u:=.ref hX) a) (cP (I (x 2) (I (x 3) ae))))) (ay (cp (sb (mc (fI (B:=b9) aa (a1 (x 0) a) A bN (I (cP (I (bQ a an (u:=.int 0) ⟨_,a⟩) (I (x 1) ae))) (I (x 4) ae))))) (aA (ik (B:=B) ba.ns (il (λ_ _ _ g=>g)) A.du a)) cO) (aA (bx (x 4))))),?_⟩;have aI:=v;obtain⟨y,z⟩:=v.az;refine⟨_,a,_,_,a,a,_,a,?_⟩;dsimp only;by_cases D:af<0;rw[bw D];exact cm (cm (m (.inl D) c (Q.id _)));rw[bq D];refine cq ⟨_,a,_,_,a,a,_,a,?_⟩;dsimp only;by_cases G:r<0;rw[bw G];exact cm (cm (m (.inr (.inl (Jk (.inl G)))) c (Q.id _)));rw[bq G];refine cq ⟨_,a,_,_,a,a,_,a,?_⟩;by_cases J:3<r;rw[bw J];exact cm (m (.inr (.inl (Jk (.inr J)))) c (Q.id _));rw[bq J];have W:ef b.toNat∈a_ (aE p):=iS al;refine cq ⟨_,a,a,_,a,?_⟩;dsimp only;by_cases X:r=0;subst X;refine cm ?_;have n:d' c .num (.ref hX):=⟨hX,a,ak⟩;have h:=v.same (Q.id c);obtain⟨y,z⟩:=h.az;refine⟨_,a,C,e6,y,_,_,a,z,ba.hF,ba.fQ,a,i,s.a4,_,a,h.tab.az,a,_,a,YT,λo L=>?_⟩;have d:=Q.fresh (q:=aC.aF [.int 0,.int b]) L;have M:b1 (U c o (.aF [.int 0,.int b])) (.node b.toNat) (.ref o):=eQ (by show[V.int 0,V.int ((b.toNat:Nat):Int)]=_;rw[show((b.toNat:Nat):Int)=b by omega]);refine⟨_,a,i,_,_,aE p,_,_,s,l,.node b.toNat,_,a,h.tab.same d,M,TupAt.same d n,W,_,a,?_⟩;by_cases e:Vacfaa.Abs.num∈l (.node b.toNat);rw[bw e];exact cq ⟨_,a,R _ (by omega) a e _ _ ((Q.id c).trans d) (TupAt.same d n)⟩;rw[bq e];exact cm (m (.inr (.inr ⟨_,a,e⟩)) _ ((Q.id c).trans d));rw[show decide (V.int r=V.int 0)=am from bq λe=>X (V.int.inj e)];obtain⟨Y,Z,ap⟩:=T_ (r:=r) (af:=af) (by omega) (by omega) (by omega);refine cq ⟨_,a,_,a,YT,λN ar=>?_⟩;have O:=Q.fresh (q:=aC.aF [.int r,.int af]) ar;have n:d' (U c N (.aF [.int r,.int af])) Y (.ref N):=eQ ap;have h:=v.same O;obtain⟨y,z⟩:=h.az;refine⟨_,a,C,e6,y,_,_,a,z,ba.hF,ba.fQ,a,i,s.a4,_,a,h.tab.az,a,_,a,YT,λo L=>?_⟩;have d:=Q.fresh (q:=aC.aF [.int 0,.int b]) L;have M:b1 (U (U c N (.aF [.int r,.int af])) o (.aF [.int 0,.int b])) (.node b.toNat) (.ref o):=eQ (by show[V.int 0,V.int ((b.toNat:Nat):Int)]=_;rw[show((b.toNat:Nat):Int)=b by omega]);refine⟨_,a,i,_,_,aE p,_,_,s,l,.node b.toNat,_,a,h.tab.same d,M,TupAt.same d n,W,_,a,?_⟩;by_cases e:Y∈l (.node b.toNat);rw[bw e];exact cq ⟨_,a,R _ (by omega) Z e _ _ ((O).trans d) (TupAt.same d n)⟩;rw[bq e];exact cm (m (.inr (.inr ⟨_,Z,e⟩)) _ ((O).trans d))
abbrev BS:be:=b3 110
def rl(n:List Int):Cl:=.why (n.getD 0 0) (n.getD 1 0) (n.getD 2 0)
def Jm{args:List Int}(d:args.length=3):∃n r af,args=[n,r,af]:=by
 match args,d with
 |[n,r,af],_=>exact⟨n,r,af,a⟩
noncomputable def wt(w:gY):List Int:=[(iZ w.src:Nat),(Y.ek w.src:Nat),(w.by_:Nat)]
def gX.own(c:z)(b:List Int)(u:V)(q:aC)(d:c bs=j q)(g:∃aN,q= .L aN)(s:gX c b u)(aN:List V):gX (U c bs (.L aN)) b u:=by obtain⟨k,rfl⟩:=g;obtain⟨h,i,f⟩:=s;exact⟨h,i,f.other (e2.bA.eJ f d ⋯ λ_=>⋯)⟩
def Ua(y:List gY):bS (kY (y.map wt))=b' (y.length::y.flatMap λw=>Ub w.src++[w.by_]):=by
 delta kY b' bS;rw[aV,bz,bz];congr 1;rw[<-Uc];induction y with
 |nil=>rfl
 |cons w d b=>rw[ds,ds,cS,cS,b];congr 1;obtain⟨c,e,f⟩:=w;cases c<;>rfl
def rL:b2 ["flows","handed","sort","row","begin","maker"] Zd (bo BS):=⟨a,a,a,∅,a,∅,∅⟩
def Ud(F:bO K "answer_why" "answer_why" BS f ai)(T:cT K mg)(ba:hl K mg)(W:bI P w K mg base (bh P w K mg) 1 "look_up" Zl ts)(a0:bI P w K mg base (bh P w K mg) 3 "require_sort" YZ BR)(a2:bI P w K mg base a7 8 "find_row" Y7 BN)(a3:bI P w K mg base a7 1 "tell_each" Zv rs):bd P w K mg base (bh P w K mg) 9 f ai Zd (lS K 3 rl):=by
 refine F.okE rL (λa4 n a6 B i=>?_) (λb' a8 ca X n a4 a6 B A i=>?_);obtain⟨C,D,o,args,b,a8,r,rfl,_⟩:=i;rfl;obtain⟨C,D,o,args,b,Z,r,rfl,d,s,a9,bb,v,p⟩:=i;obtain⟨c,l,af,rfl⟩:=Jm a9;obtain⟨cc,bc⟩:=T.lE;have m:=d.dn.ck;have aa:gv (bS [c,l,af]) 0=j (V.int c):=dj (af:=0) a;refine⟨_,ay (c' (bP (B:=B) W (A.aG nofun) a (dF (λ_ _ _ i=>i)) (I (x 0) (I (bU cj (x 1) bt (λ_ _=>rfl)) ae)))) (ay (bZ (k:=2) rL.nd a (aU a) (bP (B:=B) a0 (A.aG nofun) a (dF (λ_ _ _ i=>i)) (I (x 0) (I (bU cj (x 1) bt (λ_ _=>rfl)) (I (bU cj (x 1) bt (λ_ _=>rfl)) (I (bU cj (x 1) bt (λ_ _=>rfl)) ae)))))) (ay (bZ (k:=3) rL.nd a (aU a) (bP (B:=b9) a2 A a bN (I (a1 (x 0) a) (I (cP (I (bQ a bc (u:=.int 0) ⟨_,a⟩) (I (bU cj (x 1) bt (λ_ _=>rfl)) ae))) (I (x 2) ae))))) (aA (bx (bP (B:=b9) a3 (A.aG nofun) a bN (I (hV (own:=[("begin",4),("maker",5)]) (g:=oi K 2 (jL (d0 4) (jL (d0 5) pf))) (cK:=hd) (bj:=hx (uE K) (cD 4) (hP (dx (cD 5) e1))) a rL.nd (dU (x 3)) (f6 a) (λX n ap ar av=>kz a (fo (cF (k:=4) rL.nd a (aU a)) (fo (cF (k:=5) rL.nd a (aU a)) ky))) (λX n ap ar av=>jk) (λX n ap ar av=>fD Ey (x 4) (cP (I (x 5) ae)))) ae)))))),?_⟩;have bf:hG b (rl [c,l,af])=Jn (cQ b) c l af:=rfl;rw[bf]at v p;unfold Jn at v p;refine⟨_,a,_,a,o,_,_,_,a,a,s,aa,C,D,c,b,Z,r,a,d,λe cd ax aB cf=>?_,λi=>p 3 (rA m i) n (Q.id _)⟩;obtain⟨G,bg,rfl⟩:=jT aB;obtain⟨bi,bk⟩:=oU (f:=λG=>if af<0 then .error 4 else nS (p8 l af.toNat) 4 λe=>nS (oa (cQ b).prog (cQ b).table (e5 G) e) 4 λJ=>iY (cQ b) (J.chain.length::J.chain.flatMap λw=>Ub w.src++[w.by_])) m ax bg;rw[bi]at v p;have aH:c.toNat<(aE b).length:=(es.mp aB).1;have bl:e5 G= .node c.toNat:=by unfold e5;rw[bk]
 rw[bl]at v p;have aK:∀e:aI,(oa b (cz b) (.node c.toNat) e).isSome=H↔e∈r (.node c.toNat):=λe=>by rw[Y.K6 m,oL m d.tab.sub d.L,pP (by have:=d.tab.sub;rw[e4 m,it m]at this;exact this)];exact⟨λh=>h.2,λh=>⟨by rw[<-e4 m];exact(iS aH:ef c.toNat∈a_ (aE b)),h⟩⟩
 refine⟨_,a,_,a,o,_,_,_,a,a,s,aa,_,a,o,_,_,_,a,a,s,(dj (af:=1) a:gv (bS [c,l,af]) 1=j (V.int l)),_,a,o,_,_,_,a,a,s,(dj (af:=2) a:gv (bS [c,l,af]) 2=j (V.int af)),C,D,c,l,af,b,Z,r,a,d,bb,ax,aH,λe N ad bn ah u y bo=>?_,λbp ah y=>p 4 ?_ ah y⟩;obtain⟨aj,aL⟩:=yj.mp ((aK e).mpr bn);have aM:=d.same y;obtain⟨br,bs⟩:=aM.az;refine⟨_,a,C,e6,br,_,_,a,bs,ba.hF,ba.fQ,a,_,a,o,_,_,_,a,a,(y.seq s),aa,YT,λak bu=>?_⟩;have al:=Q.fresh (q:=aC.aF [.int 0,.int c]) bu;have bA:b1 (U ah ak (.aF [.int 0,.int c])) (.node c.toNat) (.ref ak):=eQ (by show[V.int 0,V.int ((c.toNat:Nat):Int)]=_;rw[show((c.toNat:Nat):Int)=c by omega]);refine⟨_,a,D,_,u,aE b,Z,r,.node c.toNat,e,rK b,aj,a,aM.tab.same al,jV d.dn,bA,bo.same al,T7 d.dn d.tab.sub d.L,T8 d.dn d.tab.sub d.L,by rw[<-T9 d.dn];exact aL,λcg aN aP bB aR ao bD=>?_⟩;refine⟨_,a,aN,a,⟨_,an.au aR⟩,?_⟩;intro bF bH;have ci:aP.length<=900:=by rw[<-ao.length];exact bD
 refine iN (K:=K) (e:=aN) (M:=aP) (R:=gX) (aQ:=λk=>(aj.chain[k]?).bind λw=>j (wt w)) (λn aT ak u b i=>i.same b) gX.own (λaT b=>an.au (b _ _ aR)) (c1 (by omega)) bH ?_ ?_;intro k G aT cl cm bJ O bK cn;obtain⟨z,bL,bR,co,rfl,bT,⟨W,rfl,aW⟩⟩:=ao.fq bJ;rw[tx]at aW;refine⟨bR,_,a,ej.au (O _ _ bT),a,_,_,a,_,_,a,a,a,?_⟩;dsimp only[hd];rw[as a];refine⟨_,a,_,a,YS,λbV bW=>?_⟩;have S:=Q.fresh (q:=aC.aF [.int (z.by_:Nat)]) bW;refine⟨W,bV,_,_,a,a,.inl ((aW.same O).same S),ej.au aw,Jo _ _,YU,λh=>aq h (Jo _ _),λ_ bX bY=>?_⟩;exact bK _ _ (wt z) (S.trans (Q.fresh (q:=aC.aF [.int (iZ z.src:Nat),.int (Y.ek z.src:Nat),.int (z.by_:Nat)]) bY)) (by rw[bL];rfl) ⟨bX,a,.inl aw⟩;intro cp b0 O b2 aX;rw[<-ao.length,mr (λw=>j (wt w)),vO]at aX;refine⟨bF,b0,_,a,b2,aX,by rw[aV];omega,λh b3=>?_,λb6 b7 S b_ aY=>?_⟩;obtain⟨w,_,rfl⟩:=cx.mp b3;exact(by decide:3<=4);have aZ:=((y.trans al).trans bB).trans O;rw[Ua]at aY;refine v _ ?_ b6 b7 (aZ.trans S) (aZ.free b_) aY;rw[ag (by omega),ad];show nS (oa b (cz b) _ e) 4 _=_;rw[aL];rfl;by_cases N:af<0;rw[as N];rw[ag N];obtain h|h|⟨e,ad,h⟩:=bp;exact aq h N;rw[h];rfl;rw[ad];show nS (oa b (cz b) _ e) 4 _=_;cases J:oa b (cz b) (.node c.toNat) e with
 |none=>rfl
 |some aj=>exact aq ((aK e).mp (by rw[J];rfl)) h
end e2
namespace bT
open PySem PySem.Spec PyProof.Rows
def p9(bD:bM)(n:List Env)(h:t)(b fG df:ab)(d:bM):Prop:=bD.StaysIn d/\bD.get? h=E/\d.FunFrames bD n/\d.TracedAtW bD h b fG df
section
variable{kw:qA}{A:g8}{B:ab->aJ->Prop}{l:aJ}{bD:bM}{n:List Env}{h ah:t}{cls fG df:ab}
def rM{d:bM}{T b:t}{c q:Obj}{e:Array ab}(g:d.get? T=j c)(h:c.data= .fields e)(f:d.get? b=j q)(o:∀G,q.data≠.fields G):b≠T:=λi=>by rw[i,g]at f;cases f;exact o e h
def Ue(R:p9 bD n h cls fG df l.heap)(f:Option t){o:Unit->aJ->Prop}(ao:∀aY,p9 bD n h cls fG (f.elim .none λf=>nl f) aY->l.heap.UpToSlots aY->o () {l with heap:=aY}):a5 kw A (u9 (.ref h) f) o B l:=by obtain⟨w,x,y,z,C,k,K,D,p,F,q,r,s,u,g,d,G⟩:=R;have i:∀b,b≠k->(l.heap.update k (yX (λI=>I.setIfInBounds 3 (f.elim ng λf=>nl f)))).get? b=l.heap.get? b:=λb c=>yo _ _ (cU c);have v:3<D.size:=(yU.mp G).1;unfold u9;refine bv (BU p q r ?_);rw[as (by simp)];refine yW g d v (ao _ ⟨λb e c=>?_,x,y.of_keeps λb e c m=>⟨e,(i b (rM g d c m)).trans c,a⟩,?_⟩ λb e c m=>⟨e.slots,(i b (rM g d c m)).trans c⟩);refine(i b λJ=>?_).trans (w b e c);rw[J,s]at c;cases c;refine⟨z,C,k,_,_,(i h (cU u)).trans p,F,q,r,s,u,ED _ g (N2 (yY d _)),yY d _,?_⟩;simp[v]
def Uf{env:Env}{outer:List Env}{BV:t}{m:Unit->aJ->Prop}(v:A.frames=j (env::outer))(cA:env.frame=j BV)(R:p9 bD (env::outer) h cls fG df l.heap)(ao:∀aY,u6 bD outer h cls fG aY->l.heap.UpToSlots aY->m () {l with heap:=aY}):a5 kw A (leaving env (.ref h)) m B l:=by by_cases n:df=nl BV;subst n;unfold leaving;refine bv (wpAny_noteFrame_againW cA R.2.2.2 (FU (L:=BV) R λaY d w=>ao aY ⟨d.1,d.2.1,d.2.2.1.2.2,d.2.2.2⟩ w));obtain⟨x,o,y,O,P,p,Q,S,q,⟨z,C⟩,r,s,D,F,f,g,u⟩:=R;subst z;have i:∀b,b≠p->(l.heap.update p (yX (λG=>G.setIfInBounds 3 ng))).get? b=l.heap.get? b:=λb c=>yo _ _ (cU c);unfold leaving pA;simp only[cA];refine bv (bv (BU q r s ?_));rw[as (by simp)];refine bv (BU f g u ?_);rw[ag (by rw[fz];exact n)];refine bv (yW f g (yU.mp u).1 ?_);refine wpAny_newEntryW v (y.of_keeps λb e c k=>⟨e,(i b (rM f g c k)).trans c,a⟩) cA ((i h (cU F)).trans q) (λb e c=>?_) o r (yU.mp s).1 C λaY d=>?_;refine(i b λI=>?_).trans (x b e c);rw[I,D]at c;cases c;obtain⟨J,⟨_,_,K⟩,M,N⟩:=d;exact ao aY ⟨J,o,K,M⟩ λb e c k=>N b e ((i b (rM f g c k)).trans c) k
theorem Jp{e aY:bM}(f:qB ah e aY):∀{n:List Env},e.FunFrames bD n->ah∉dh n->aY.FunFrames (bD.hide ah) n
 |[],_,_=>trivial
 |env::n,⟨h,⟨b,i,g,k,l,m⟩,o⟩,c=>by
  have c:¬(ah=b\/ah∈dh n):=by
   have p:dh (env::n)=b::dh n:=by delta dh;rw[hn,g]
   rw[p]at c;simpa using c
  refine⟨h,⟨b,i,g,?_,(f.2 b λd=>c (.inl d.symm)).trans l,m⟩,Jp f o λd=>c (.inr d)⟩;cases q:(bD.hide ah).get? b with
  |none=>rfl
  |some r=>have:=Jq q;rw[k]at this;cases this
def p9.vE{e aY:bM}{f:Obj}(R:p9 bD n h cls fG df e)(d:qB ah e aY)(g:e.get? ah=j f)(i:∀G,f.data≠.fields G)(cJ:ah∉dh n):p9 (bD.hide ah) n h cls fG df aY:=by
 obtain⟨r,s,u,v,G,k,w,x,l,y,m,z,A,B,o,p,C⟩:=R;have q:∀{b:t},bD.get? b=E->(bD.hide ah).get? b=E:=λ{b} c=>by
  cases D:(bD.hide ah).get? b with
  |none=>rfl
  |some K=>have:=Jq D;rw[c]at this;cases this
 refine⟨λb F c=>?_,q s,Jp d u cJ,v,G,k,w,x,(d.2 h (cU (rM l m g i))).trans l,y,m,z,q A,B,(d.2 k (cU (rM o p g i))).trans o,p,C⟩;have I:b≠ah:=λJ=>by rw[J,Heap.hide_self]at c;cases c
 exact(d.2 b I).trans (r b F (Jq c))
def Ug{b env:Env}{i:ab}(d:b.frame=env.frame):pA i b=pA i env:=by unfold pA PySem.frameOf;rw[d]
end
section
variable{X:bJ}{al:List (t×Obj)}{J:St}{c O:z}{l aM:aJ}{bD gn:bM}{jp ah:t}{cls fG:ab}
def gR.Uh(f:Inv X al J c l)(I:X.stack=X.env::X.outer)(cA:X.env.frame=j X.env.locals)(K:X.ex=[])(F:gR X.prog X.w X.stack c O l.heap bD aM jp cls)(L:X.s_0.heap.objs.size<=ah)(v:O ah=E)(df:u6 (bD.hide ah) X.outer jp cls fG gn)(M:∀b q,b≠ah->aM.heap.get? b=j q->(∀G,q.data≠.fields G)->∃k,gn.get? b=j {q with slots:=k}):gR X.prog X.w X.outer X.H_0 O X.s_0.heap (bD.hide ah) {aM with heap:=gn} jp cls:=by
 have x:=zd I cA;have bb:∀b,b∉X.ex:=λb g=>by rw[K]at g;cases g
 have s:∀{b:t} {q:Obj},X.s_0.heap.get? b=j q->b≠ah:=λ{b q} d g=>by have:=d_ d;rw[g]at this;exact aq L (Nat.not_le_of_lt this)
 have y:∀{b:t} {q:Obj},X.s_0.heap.get? b=j q->b∉dh X.outer->b∉dh X.stack:=λ{b q} d e g=>by rw[x]at g;obtain g|g:=bm.mp g;exact f.sO b q d g;exact e g
 have z:∀b q,X.s_0.heap.get? b=j q->X.H_0 b=E->b∉dh X.outer->(bD.hide ah).get? b=j q:=λb q d h e=>by rw[Jr _ (s d)];exact F.keep b q (f.base.keep b q d h e (bb b)) (f.base.free b q d h (bb b)) (y d e)
 have A:∀b q,X.s_0.heap.get? b=j q->b∉dh X.outer->∃m,(bD.hide ah).get? b=j m:=λb q d e=>by obtain⟨u,i⟩:=f.base.there b q d (bb b);obtain⟨N,n⟩:=F.there b u i (y d e);exact⟨N,by rw[Jr _ (s d)];exact n⟩
 have B:∀b∈dh X.outer,∃q,X.s_0.heap.get? b=j q/\∀G,q.data≠.fields G:=λb e=>(f.ok.g9.mem e).2;have C:∀b q,X.s_0.heap.get? b=j q->X.H_0 b=E->b∈dh X.outer->∃k,gn.get? b=j {q with slots:=k}:=λb q d h e=>by obtain⟨k,i⟩:=f.base.slot b q d h e (bb b);obtain⟨V,n⟩:=F.un.slot b _ i (f.base.free b q d h (bb b)) (by rw[x];exact cv _ e) (by simp);obtain⟨m,D,cJ⟩:=B b e;rw[d]at D;cases D;obtain⟨P,Q⟩:=M b _ (s d) n cJ;exact⟨P,Q⟩
 refine⟨⟨fG,df⟩,⟨λb q d h e _=>df.1 b q (z b q d h e),λb q d h e _=>C b q d h e,λb q d h _=>?_,λb q d _=>?_,λb o d=>F.un.tups b o (f.base.tups b o d),λb q o d=>F.un.frzs b q o (f.base.frzs b q o d),λb R d=>?_⟩,z,?_,A,f.ok.frf,B⟩;obtain⟨u,i⟩:=f.base.there b q d (bb b);exact F.un.free b u i (f.base.free b q d h (bb b)) (by simp);by_cases e:b∈dh X.outer;obtain⟨k,i⟩:=C b q d (f.ok.frf b e) e;exact⟨_,i⟩;obtain⟨m,i⟩:=A b q d e;exact⟨m,df.1 b m i⟩;obtain⟨S,i⟩:=f.base.tbls b R d;obtain⟨T,n⟩:=F.un.tbls b _ i;exact⟨S++T,by rw[n,Do]⟩;intro U q d;refine(F.hok U q d).ku (λb W e p=>?_) (λ_ p=>p) λ_ _ p=>p;rw[Jr _ λg=>?_];exact p;obtain r|r:=e;rw[<-r,g,v]at d;cases d;rw[g,v]at r;cases r
end
def Ui{P:cN}{w:cr}{K:bG}{k:Str->Option ab}{u:bM}{v:List Str}{e:Str}{g:hN}{f:t}{h:ab}{o:g8}{outer:List Env}{l:aJ}{c:z}{B x:bn}(R:∀y aa i,x y aa i->B y aa i):zf (jN (bh P w K k) P w K k u v e g f h o outer l c B) x:=by
 intro aE aF aG aH A C b S use aI aK m ⟨p,bJ,i,D,T,U,V,os,W,F⟩ G cJ X Y Z;subst T;obtain⟨aL,df⟩:=F.fly;obtain⟨ad,d,ae,af,I,J,ah⟩:=X;have ai:∀q,d.data≠.fields q:=λq L=>by rw[J]at L;cases L
 have M:D.get? b=j d:=F.keep b d I G cJ;show a5 _ _ (pA _ S) _ _ _;rw[Ug Z];refine FT (env:=f3 e g l.heap.objs.size f h) (outer:=outer) m.ok.frames a df λaN r aj=>?_;refine⟨ad,⟨d,ae,af,r.1 b d M,J,ah⟩,λak N al _=>?_⟩;have O:=p9.vE (df:=nl l.heap.objs.size) r N (r.1 b d M) ai cJ;unfold PySem.passOn;obtain⟨_,_,_,aP,q,aQ,aR,aT,an,_,ao,ap,_⟩:=id O;refine bv (BU an ao ap ?_);rw[ag (by simp)];have Q:a5 (a' P w) (o.deeper (f3 e g l.heap.objs.size f h)) (u9 (.ref p) al.frame>>=λ_=>(throw (.ref p):Sem ab)) (λ_ _=>False) (jN (bh P w K k) P w K k u v e g f h o outer l c B).xe {C with heap:=ak}:=by refine bv (Ue O _ λaW ar au=>wpAny_throw ?_);refine Uf (env:=f3 e g l.heap.objs.size f h) (outer:=outer) m.ok.frames a ar λaX av aw=>?_;refine⟨p,bJ,i,D.hide b,a,U,R _ _ _ V,os.trans m.os,W,gR.Uh (aM:=C) m a a a F Y (F.un.free b d I G (by simp):i b=E) av λn ax ay A s=>?_⟩;obtain⟨aY,az⟩:=aj n ax A s;obtain⟨aZ,aA⟩:=au n _ ((N.2 n ay).trans az) s;obtain⟨aB,aC⟩:=aw n _ aA s;exact⟨aB,aC⟩
 first
  |exact bv (c2 Q)
  |exact Q
section
variable{X:bJ}
def Uj{k:Nat}{D:Str}{f:Pos}{h cE iter:ce}{e:List ce}{b:hN}{own:List (Str×Nat)}{m r:Pos}{n:TI}{g:f0}{cK:TT}{bj:bu}(L:X.calm=H)(s:X.N.Nodup)(M:X.N[k]?=j D)(v:X.env.scope.names.lookup D=j .local)(O:pe (.ListComp h [⟨cE,iter,e,0⟩] b m) (j (.Name D f)) r.line X.env=pure H)(P:lv X cE iter n)(Q:px X.N X.env.scope b own)(R:∀(l:aJ) (c:z) (ah:t) (aR:List (Str×t)) (d:List t),lu (X.blk l c b (hc b aR ah X.env) d) cE g)(S:∀(l:aJ) (c:z) (ah:t) (aR:List (Str×t)) (d:List t),py (X.blk l c b (hc b aR ah X.env) d) e cK){B:bn}(T:zf X B)(U:∀(l:aJ) (c:z) (ah:t) (aR:List (Str×t)) (d:List t) (x:ab->aJ->Prop),gt (bh X.prog X.w X.K X.mg) ((X.blk l c b (hc b aR ah X.env) d).xes x) B->a8 ((X.blk l c b (hc b aR ah X.env) d).xes x) h bj)(W:∀i,sj iter X.env i=pure i:=by intro _;rfl):
  fY X (.Assign [.Name D f] (.ListComp h [⟨cE,iter,e,0⟩] b m) r) (se (pB n g cK bj (own.map (·.2))) (d0 k)):=by
 intro Y l y c C Z aa;rw[Pr _ _ _ _ O];refine bv (xW (bv ?_));show a5 _ X.A (do let _<-comprehension (.ListComp h [⟨cE,iter,e,0⟩] b m) b X.env (firstIterPos [⟨cE,iter,e,0⟩] m) (zg []) am (cb iter X.env) (j (assign (.Name D f) X.env))) _ _ l;refine bv (bB (FV (lB:=λ_ o=>jJ X Y C .next o) L s Z P Q R S T U W (aa:pB n g cK bj (own.map (·.2)) y c (λi ad=>d0 k i y ad C.bb)) λF ah o ae af ai aj ak al=>?_) λ_ o an=>c2 (c2 an));show a5 _ _ (assign (.Name D f) X.env (.ref F)) _ _ _;refine DH (xN (u:=V.ref F) ai s M (.inl v) a (λao ap ⟨G,ar,au⟩=>?_) (.inr v));obtain⟨av,I,aC,aw,J,ax⟩:=al;have ay:ah≠G:=by obtain p|p:=au;rw[p];exact I;exactλq=>J D G p q.symm
 refine⟨ae,ak.sameBut ar ay,λaE az=>?_⟩;exact⟨_,af,ap.je (cX:=ao.toks) (λaA aF aB q=>(az.2 aA aB).trans q) av I aw J ax,aj⟩
end
end bT
namespace e2
open PySem PySem.Spec PyProof.Rows bT
open Y (dN kj dp)
abbrev jA:t:=391
abbrev dY:t:=412
abbrev di:t:=433
abbrev oW:t:=361
abbrev hH:=qy
abbrev fw:=Vacfaa.Obj
structure h4 where
 s:t
 a4:t
 cs:t
 fj:t
 ai:t
 ad:t
 o:Nat
noncomputable def mQ(b:h4)(r:Nat):List (Str×V):=[("nodes",.ref b.cs),("number",.int (b.o:Nat)),("steps",.int (r:Nat)),("waiting",.ref b.fj),("facts",.ref b.ai),("arrows",.ref b.ad)]
def BW:aC->Bool
 | .L _=>H
 | .cI _=>H
 | .ext _=>H
 | .az b _ _=>b==di
 |_=>am
structure KM (bs:t->Prop) (c O:z):Prop where
 keep:∀b q,c b=j q->¬bs b->O b=j q
 Uk:∀b q,bs b->c b=j q->BW q=H
variable{c O:z}
def KM.same(h:Q c O):KM (λ_=>False) c O:=⟨λb d e _=>h b d e,λ_ _ f=>f.elim⟩
def KM.bK{i:t}{q C:aC}(d:c i=j q)(v:BW q=H):KM (λb=>b=i) c (U c i C):=⟨λb f e g=>by rw[aH g];exact e,λb f h e=>by rw[h,d]at e;cases e;exact v⟩
variable{bs:t->Prop}{b:t}
def KM.at_{q:aC}(r:KM bs c O)(d:c b=j q)(o:BW q=am):O b=j q:=r.keep b q d λe=>by rw[r.Uk b q e d]at o;cases o
def KM.aF{u:V}{aK:List bY}(r:KM bs c O)(d:TupAt c u aK):TupAt O u aK:=by obtain⟨e,f,b⟩:=d;obtain b|⟨g,b⟩:=b;exact⟨e,f,.inl (r.at_ b a)⟩;exact⟨e,f,.inr ⟨g,r.at_ b a⟩⟩
def KM.BX{ao:eU}(r:KM bs c O)(d:jx c ao b):jx O ao b:=d.keep λg h e=>by obtain e|⟨f,e⟩:=e;exact .inl (r.at_ e a);exact .inr ⟨f,r.at_ e a⟩
def jB:fw->Nat×Nat
 | .clo b _=>(0,b)
 | .pair b _ _=>(1,b)
 | .ref b _=>(2,b)
def p_(c:Nat->t):hH->V
 | .num d=>.int (d:Nat)
 | .clo b=>.ref (c b)
 | .pair b=>.ref (c b)
 | .ref b=>.ref (c b)
def oX(d:List fw):hH->Prop
 | .num _=>True
 | .clo c=>∃b,d[c]?=j b/\(jB b).1=0
 | .pair c=>∃b,d[c]?=j b/\(jB b).1=1
 | .ref c=>∃b,d[c]?=j b/\(jB b).1=2
structure mR (d aY:List fw) (a6 kn:Nat->t):Prop where
 at_:∀k q,d[k]?=j q->∃j4,aY[k]?=j j4/\jB j4=jB q/\kn k=a6 k
variable{q:fw}
def Ul{b:fw}(d:jB b=jB q):tD b=tD q:=by cases q<;>cases b<;>simp_all [jB,tD]
variable{d:List fw}{k:Nat}
def BY{aY:List fw}{b:fw}(c:d[k]?=j q)(e:aY[k]?=j b)(f:jB b=jB q):mS aY k=mS d k:=by unfold mS;rw[c,e];exact Ul f
def Js(b:Nat->t)(c:t)(u:hH):List (Str×V):=[("what",.ref c),("held",p_ b u)]
inductive Jt(c:z)(b:Nat->t)(d:List fw)(u:hH)(e:t):Prop|mk:∀g f,c e=j (.az jA g (Js b f u))->TupAt c (.ref f) (gS (fV d u))->oX d u->Jt c b d u e
def gC(c:z)(b:Nat->t)(d:List fw)(u:hH)(e:t):Prop:=Jt c b d u e
variable{a6:Nat->t}{u:hH}{e:t}
section
variable{kn:Nat->t}{aY:List fw}
def gC.db(s:gC c a6 d u e)(r:KM bs c O):gC O a6 d u e:=let⟨b,f,g,h,i⟩:=s;⟨b,f,r.at_ g a,r.aF h,i⟩
def oX.h5(g:mR d aY a6 kn)(s:oX d u):oX aY u/\fV aY u=fV d u/\p_ kn u=p_ a6 u:=by
 cases u with
 |num m=>exact⟨d5,a,a⟩
 |clo f=>obtain⟨h,b,i⟩:=s;obtain⟨k,c,e,l⟩:=g.at_ f h b;refine⟨⟨k,c,by rw[e];exact i⟩,?_,dZ V.ref l⟩;exact dZ _ (BY b c e)
 |pair f=>obtain⟨h,b,i⟩:=s;obtain⟨k,c,e,l⟩:=g.at_ f h b;refine⟨⟨k,c,by rw[e];exact i⟩,?_,dZ V.ref l⟩;exact dZ _ (BY b c e)
 |ref f=>obtain⟨h,b,i⟩:=s;obtain⟨k,c,e,l⟩:=g.at_ f h b;refine⟨⟨k,c,by rw[e];exact i⟩,?_,dZ V.ref l⟩;exact dZ _ (BY b c e)
theorem gC.h5(s:gC c a6 d u e)(g:mR d aY a6 kn):gC c kn aY u e:=by obtain⟨b,f,h,i,k⟩:=s;obtain⟨l,m,n⟩:=k.h5 g;refine⟨b,f,?_,by rw[m];exact i,l⟩;delta Js;rw[n];exact h
end
abbrev nX:=kr
inductive Ju(c:z)(g:Nat->t)(d:List fw)(h:t)(l:List (nX×Nat))(env:wu):Prop|mk:∀f,c h=j (.cH f)->f.length<=l.length->(∀(i:Nat) (k:nX×Nat) (b:Jv),l[i]?=j k->env[i]?=j b->∃e,cg f (gm ((k.2:Nat):Int))=j (.ref e)/\gC c g d b.value e)->Ju c g d h l env
def jC(c:z)(b:Nat->t)(d:List fw)(e:t)(l:List (nX×Nat))(env:wu):Prop:=Ju c b d e l env
def e7:a0->Nat
 | .num _ _=>0
 | .var _ _=>0
 | .fn _ _ _=>0
 | .app _ _ _=>3
 | .letE _ _ _ _=>2
 | .ifz _ _ _ _=>2
 | .pair _ _ _=>2
 | .fst _ _=>1
 | .snd _ _=>1
 | .new _ _=>1
 | .get _ _=>1
 | .set _ _ _=>2
 | .add _ _ _=>2
noncomputable def wv(n:Nat)(b c:t):List (Str×V):=[("label",.int (n:Nat)),("scope",.ref b),("given",.ref c)]
inductive Jw(c:z)(e:Nat->t)(d:List fw)(h:a0)(o:Nat)(b:dp)(m:t×t):Prop|mk:∀(l g:t) (f:List (nX×Nat)) (k:List t),c m.1=j (.az dY l (wv (aS b.i) g m.2))->dN h f b.i->kj o f b.env->jC c e d g f b.env->c m.2=j (.L (k.map V.ref))->br (gC c e d) b.ca k->Jw c e d h o b m
structure k3 (c:z) (a6:Nat->t) (d:List fw) (h:a0) (o:Nat) (ar:dp) (m:t×t):Prop where
 ex:Jw c a6 d h o ar m
 mm:ar.ca.length<=e7 ar.i
def jD:fw->Bool
 | .clo _ _=>am
 |_=>H
def lU(c:z)(g:Nat->t)(d:List fw)(h:a0)(o:Nat)(e:t):fw->Prop
 | .clo m l=>∃k i b,dN h k (.fn m i b)/\kj o k l/\jC c g d e k l
 | .pair _ u n=>∃f i,c e=j (.L [.ref f,.ref i])/\gC c g d u f/\gC c g d n i
 | .ref _ u=>∃f,c e=j (.L [.ref f])/\gC c g d u f
variable{h:a0}{o:Nat}{l:List (nX×Nat)}{env:wu}{ar:dp}{m:t×t}
section
variable{kn:Nat->t}{aY:List fw}
theorem jC.db(s:jC c a6 d e l env)(r:KM bs c O):jC O a6 d e l env:=
 let⟨b,f,g,h⟩:=s
 ⟨b,r.at_ f a,g,λi k m n o=>let⟨p,q,u⟩:=h i k m n o;⟨p,q,u.db r⟩⟩
theorem jC.h5(s:jC c a6 d e l env)(g:mR d aY a6 kn):jC c kn aY e l env:=
 let⟨b,f,h,i⟩:=s
 ⟨b,f,h,λk m n o p=>let⟨q,r,u⟩:=i k m n o p;⟨q,r,u.h5 g⟩⟩
theorem k3.db(s:k3 c a6 d h o ar m)(r:KM bs c O)(b:¬bs m.2):k3 O a6 d h o ar m:=
 let⟨e,f,g,i,k,l,n,p,q,u⟩:=s.ex
 ⟨⟨e,f,g,i,r.at_ k a,l,n,p.db r,r.keep _ _ q b,u.aG λ_ _ v=>v.db r⟩,s.mm⟩
theorem k3.h5(s:k3 c a6 d h o ar m)(g:mR d aY a6 kn):k3 c kn aY h o ar m:=
 let⟨b,e,f,i,k,l,n,p,q,r⟩:=s.ex
 ⟨⟨b,e,f,i,k,l,n,p.h5 g,q,r.aG λ_ _ u=>u.h5 g⟩,s.mm⟩
theorem lU.db(s:lU c a6 d h o e q)(r:KM bs c O)(l:jD q=H->¬bs e):lU O a6 d h o e q:=by
 cases q with
 |clo m v=>obtain⟨n,g,p,b,f,i⟩:=s;exact⟨n,g,p,b,f,i.db r⟩
 |pair m u w=>obtain⟨k,g,b,f,i⟩:=s;exact⟨k,g,r.keep _ _ b (l a),f.db r,i.db r⟩
 |ref m u=>obtain⟨k,b,f⟩:=s;exact⟨k,r.keep _ _ b (l a),f.db r⟩
theorem lU.h5(s:lU c a6 d h o e q)(g:mR d aY a6 kn):lU c kn aY h o e q:=by
 cases q with
 |clo m u=>obtain⟨n,i,p,b,f,k⟩:=s;exact⟨n,i,p,b,f,k.h5 g⟩
 |pair m r v=>obtain⟨l,i,b,f,k⟩:=s;exact⟨l,i,b,f.h5 g,k.h5 g⟩
 |ref m r=>obtain⟨l,b,f⟩:=s;exact⟨l,b,f.h5 g⟩
end
structure ww (cw c:z) (own:List t) (a6:Nat->t) (d:List fw) (h:a0) (o:Nat):Prop where
 obj:∀k q,d[k]?=j q->lU c a6 d h o (a6 k) q
 inj:∀k af q j4,d[k]?=j q->d[af]?=j j4->jD q=H->jD j4=H->a6 k=a6 af->k=af
 apart:∀k q,d[k]?=j q->jD q=H->a6 k∉own
 new:∀k q,d[k]?=j q->jD q=H->cw (a6 k)=E
def mT(n:List tE):List dr:=(n.map λb=>(⟨.node b.label,b.abs⟩:dr)).eraseDups
def jE(f:dr):eU:=[c3 f.place,gS f.abs]
def i1(n:List BZ):List i2:=(n.map λb=>(⟨b.site,b.fn⟩:i2)).eraseDups
def iB(e:i2):List bY:=[.inl ((e.site:Nat):Int),.inl ((e.fn:Nat):Int)]
abbrev iC(n:List i2):List (List bY×V):=n.map λe=>(iB e,V.bl H)
inductive wx(P:cN)(w:cr)(c:z)(b:h4)(v:List tE):Prop|mk:∀d,c b.ai=j (fv P w b.ai d)->(∀e∈d,jx c e.1 e.2)->gW d=(mT v).map jE->wx P w c b v
structure Told (P:cN) (w:cr) (cw c:z) (A:h4) (v:em):Prop where
 same:Q cw c
 iR:wx P w c A v.flows
 k4:c A.ad=j (.cI (iC (i1 v.calls)))
 obj:∃r,c A.s=j (.az di A.a4 (mQ A r))
noncomputable def fx:List (bY×V):=[(.inr "number",.int 0),(.inr "in",.int 0),(.inr "name",.int 0),(.inr "fun",.int 0),(.inr "call",.int 3),(.inr "let",.int 2),(.inr "if",.int 2),(.inr "pair",.int 2),(.inr "fst",.int 1),(.inr "snd",.int 1),(.inr "new",.int 1),(.inr "get",.int 1),(.inr "set",.int 2),(.inr "add",.int 2)]
structure Um (cw:z) (A:h4) (h:a0):Prop where
 eX:hB cw A.cs (aE h)
 num:fJ cw
 mU:bA cw oW (.cH fx)
 dn:Y.iG h
structure dc (P:cN) (w:cr) (cw c:z) (A:h4) (h:a0) (a6:Nat->t) (v:em) (st:List dp) (cn:List (t×t)):Prop where
 told:Told P w cw c A v
 eB:Um cw A h
 run:c A.s=j (.az di A.a4 (mQ A v.steps))
 e8:c A.fj=j (.L ((cn.map λm=>V.ref m.1).reverse))
 ar:br (k3 c a6 v.heap h A.o) st cn
 bg:ww cw c (A.fj::cn.map B0) a6 v.heap h A.o
 nd:(A.fj::cn.map B0).Nodup
 mV:cw A.s=E
 lV:cw A.fj=E
 k5:cw A.ai=E
 mW:cw A.ad=E
 mX:∀m∈cn,cw m.2=E
def B1(P:cN)(w:cr)(c:z)(d:h4)(h:a0)(e:z->Prop)(B:z->Prop):Y.gI->Prop
 | .run b st=>∀(O:z) (a6:Nat->t) (f:List (t×t)),dc P w c O d h a6 b st f->e O
 | .cM b=>∀O,Told P w c O d b->B O
variable{cw:z}
theorem ww.db{own b:List t}(s:ww cw c own a6 d h o)(r:KM bs c O)(f:∀k q,d[k]?=j q->jD q=H->¬bs (a6 k))(g:∀k q,d[k]?=j q->jD q=H->a6 k∉b):ww cw O b a6 d h o:=
 ⟨λk q e=>(s.obj k q e).db r (f k q e),s.inj,g,s.new⟩
variable{P:cN}{w:cr}{A:h4}{v:em}
def Told.Jx(p:Told P w cw c A v)(r:KM bs c O)(f:∀b,bs b->cw b=E)(cJ:¬bs A.ai)(g:¬bs A.ad):Q cw O/\wx P w O A v.flows/\O A.ad=j (.cI (iC (i1 v.calls))):=by obtain⟨h,i,k,l⟩:=p.iR;refine⟨λb e d=>r.keep b e (p.same b e d) λm=>?_,⟨h,r.keep _ _ i cJ,λn o=>r.BX (k n o),l⟩,r.keep _ _ p.k4 g⟩;rw[f b m]at d;cases d
def Told.db(p:Told P w cw c A v)(r:KM bs c O)(e:∀b,bs b->cw b=E)(cJ:¬bs A.ai)(f:¬bs A.ad)(g:¬bs A.s):Told P w cw O A v:=
 let⟨h,b,i⟩:=p.Jx r e cJ f
 ⟨h,b,i,let⟨k,d⟩:=p.obj;⟨k,r.keep _ _ d g⟩⟩
theorem nY(r:KM bs c O):∀{st:List dp} {b:List (t×t)},br (k3 c a6 d h o) st b->(∀m∈b,¬bs m.2)->br (k3 O a6 d h o) st b
 |_,_,.nil,_=>.nil
 |_,_,.cons f g,e=>.cons (f.db r (e _ b8)) (nY r g λi k=>e i (cv _ k))
variable{st:List dp}{cn:List (t×t)}
theorem dc.db(d:dc P w cw c A h a6 v st cn)(r:KM bs c O)(f:∀b,bs b->cw b=E)(cJ:¬bs A.ai)(g:¬bs A.ad)(e:¬bs A.s)(i:¬bs A.fj)(l:∀m∈cn,¬bs m.2)(n:∀k q,v.heap[k]?=j q->jD q=H->¬bs (a6 k)):dc P w cw O A h a6 v st cn:=
 ⟨d.told.db r f cJ g e,d.eB,r.keep _ _ d.run e,r.keep _ _ d.e8 i,nY r d.ar l,d.bg.db r n d.bg.apart,d.nd,d.mV,d.lV,d.k5,d.mW,d.mX⟩
theorem dc.same(d:dc P w cw c A h a6 v st cn)(l:Q c O):dc P w cw O A h a6 v st cn:=
 d.db (KM.same l) (λ_ b=>b.elim) (λb=>b) (λb=>b) (λb=>b) (λb=>b) (λ_ _ b=>b) (λ_ _ _ _ b=>b)
structure h6 (K:bG) (mg:Str->Option ab):Prop where
 st:ij K mg "StandsStill" oR
 Un:∃p,mg "MOST_STEPS"=j (.int 300 p)
 Uo:∃p,mg "NUMBERS_END"=j (.int 100 p)
 Up:mg "WAITED_COUNTS"=j (.ref oW)
 z6:mg "dict"=E
 rN:ha K jA
 wy:eN K jA "what"
 Jy:eN K jA "held"
 fc:ha K dY
 nZ:eN K dY "label"
 p':eN K dY "scope"
 k6:eN K dY "given"
 fd:ha K di
 hY:eN K di "nodes"
 Jz:eN K di "number"
 pR:eN K di "steps"
 qa:eN K di "waiting"
 fQ:eN K di "facts"
 nH:eN K di "arrows"
abbrev B2:be:=jn (b3 72) 0
abbrev B3:be:=jn (b3 73) 0
abbrev B4:be:=jn (b3 74) 0
inductive wz(G:List V)(c:z)(b:aW)(h:bn):Prop|mk:∀(e d:t) (f g:V),G=[.ref e,f,g]->c e=j (.az jA d [])->(∀O,eH e c O->O e=j (.az jA d [("what",f),("held",g)])->b .aL O)->wz G c b h
inductive B5(G:List V)(c:z)(d:aW)(i:bn):Prop|mk:∀(e f g:t) (h:Nat),G=[.ref e,.int (h:Nat),.ref g]->c e=j (.az dY f [])->(∀O b,eH e c O->c b=E->O e=j (.az dY f (wv h g b))->O b=j (.L [])->d .aL O)->B5 G c d i
inductive B6(P:cN)(w:cr)(G:List V)(c:z)(e:aW)(g:bn):Prop|mk:∀(b d f:t) (o:Nat),G=[.ref b,.ref f,.int (o:Nat)]->c b=j (.az di d [])->(∀(O:z) (A:h4),A.s=b->A.a4=d->A.cs=f->A.o=o->eH b c O->c A.fj=E->c A.ai=E->c A.ad=E->O b=j (.az di d (mQ A 0))->O A.fj=j (.L [])->O A.ai=j (fv P w A.ai [])->O A.ad=j (.cI [])->e .aL O)->B6 P w G c e g
abbrev wA:be:=b3 81
inductive wB(G:List V)(c:z)(d:aW)(g:bn):Prop|mk:∀(e:t) (f:Int) (u:V) (b:List (bY×V)),G=[.ref e,.int f,u]->c e=j (.cH b)->b.length<=100->(∀(O:z) (m:t),Q c O->c m=E->O m=j (.cH (ey b (gm f) u))->d (.ref m) O)->wB G c d g
abbrev B7:be:=b3 82
inductive qb(G:List V)(c:z)(f:aW)(B:bn):Prop|mk:∀(e:t) (b:Int) (a6:Nat->t) (d:List fw) (u:hH),G=[.ref e,.int b]->gC c a6 d u e->(ep (fV d u)=b->f (p_ a6 u) c)->(ep (fV d u)≠b->B (.ref oR) E c)->qb G c f B
abbrev B8:be:=b3 76
inductive rO(P:cN)(w:cr)(G:List V)(c:z)(d:aW)(B:bn):Prop|mk:∀(A:h4) (e:t) (cw:z) (h b:a0) (a6:Nat->t) (v:em) (st:List dp) (cn:List (t×t)) (l:List (nX×Nat)) (env:wu) (f:B9),G=[.ref A.s,.int (aS b:Nat),.ref e]->dc P w cw c A h a6 v st cn->st.length<=400->v.steps<=300->dN h l b->kj A.o l env->jC c a6 v.heap e l env->B1 P w cw A h (d .aL) (B (.ref oR) E) (Y.eL v st b f env)->rO P w G c d B
variable{K:bG}{mg:Str->Option ab}{base:bM}{f:t}{ai:hQ}
def Uq:b2 Zb Zb (bo B2):=⟨a,a,a,∅,a,∅,∅⟩
def Ur(F:bO K "__init__" "Value.__init__" B2 f ai)(T:h6 K mg):bd P w K mg base a7 1 f ai Zb wz:=by refine F.ok Uq (λe g h i d=>?_) (λo p q r g e h i s d=>?_);obtain⟨b,c,k,l,rfl,_⟩:=d;rfl;obtain⟨b,c,k,l,rfl,m,n⟩:=d;refine⟨_,ay (f1 (x 0) (x 1) a) (aA (f1 (x 0) (x 2) a)),?_⟩;refine⟨_,a,_,a,b,jA,c,_,a,m,T.rN,T.wy,(by show 0<1000;decide),?_⟩;refine⟨_,a,_,a,b,jA,c,_,a,aw,T.rN,T.Jy,(by show 1<1000;decide),?_⟩;exact n _ ((eH.refl _ _).bK.bK) (by rw[aw];rfl)
def Us:b2 Y8 Y8 (bo B3):=⟨a,a,a,∅,a,∅,∅⟩
def Ut(F:bO K "__init__" "Started.__init__" B3 f ai)(T:h6 K mg):bd P w K mg base a7 1 f ai Y8 B5:=by
 refine F.ok Us (λl i m n d=>?_) (λu v y z i l m n A d=>?_);obtain⟨b,c,o,p,rfl,_⟩:=d;rfl;obtain⟨b,c,o,p,rfl,q,r⟩:=d;refine⟨_,ay (f1 (x 0) (x 1) a) (ay (f1 (x 0) (x 2) a) (aA (f1 (x 0) (dR ae) a))),?_⟩;refine⟨_,a,_,a,b,dY,c,_,a,q,T.fc,T.nZ,(by show 0<1000;decide),?_⟩;refine⟨_,a,_,a,b,dY,c,_,a,aw,T.fc,T.p',(by show 1<1000;decide),?_⟩;refine⟨dC _,λh e=>?_⟩;have g:h≠b:=λs=>by rw[s,aw]at e;cases e
 have k:i h=E:=by rw[aH g,aH g]at e;exact e
 refine⟨_,a,b,dY,c,_,a,by rw[aH (cU g)];exact aw,T.fc,T.k6,(by show 2<1000;decide),?_⟩;exact r _ h (((eH.refl _ _).bK.bK.own k).bK) k (by rw[aw];rfl) (by rw[aH g,aw])
def Uu:b2 Y4 Y4 (bo B4):=⟨a,a,a,∅,a,∅,∅⟩
def Uv(F:bO K "__init__" "Run.__init__" B4 f ai)(T:h6 K mg):bd P w K mg base a7 1 f ai Y4 (B6 P w):=by
 refine F.ok Uu (λz n A B d=>?_) (λG I J L n z A B M d=>?_);obtain⟨b,g,p,q,rfl,_⟩:=d;rfl;obtain⟨b,g,p,q,rfl,C,D⟩:=d;refine⟨_,ay (f1 (x 0) (x 1) a) (ay (f1 (x 0) (x 2) a) (ay (f1 (x 0) bt a) (ay (f1 (x 0) (dR ae) a) (ay (f1 (x 0) Sc a) (aA (f1 (x 0) uU a)))))),?_⟩;refine⟨_,a,_,a,b,di,g,_,a,C,T.fd,T.hY,(by show 0<1000;decide),?_⟩;refine⟨_,a,_,a,b,di,g,_,a,aw,T.fd,T.Jz,(by show 1<1000;decide),?_⟩;refine⟨_,a,b,di,g,_,a,aw,T.fd,T.pR,(by show 2<1000;decide),?_⟩;refine⟨dC _,λm hw=>?_⟩;have e:m≠b:=λc=>by rw[c,aw]at hw;cases hw
 have r:n m=E:=by rw[aH e,aH e,aH e]at hw;exact hw
 refine⟨_,a,b,di,g,_,a,by rw[aH (cU e)];exact aw,T.fd,T.qa,(by show 3<1000;decide),?_⟩;refineλai l=>?_;have h:ai≠b:=λc=>by rw[c,aw]at l;cases l
 have o:ai≠m:=λc=>by rw[c,aH e,aw]at l;cases l
 have s:n ai=E:=by rw[aH h,aH o,aH h,aH h,aH h]at l;exact l
 refine⟨_,a,b,di,g,_,a,by rw[aH (cU h)];exact aw,T.fd,T.fQ,(by show 4<1000;decide),?_⟩;refineλad i=>?_;have k:ad≠b:=λc=>by rw[c,aw]at i;cases i
 have u:ad≠ai:=λc=>by rw[c,aH h,aw]at i;cases i
 have v:ad≠m:=λc=>by rw[c,aH e,aH (cU o),aH e,aw]at i;cases i
 have y:n ad=E:=by rw[aH k,aH u,aH k,aH v,aH k,aH k,aH k]at i;exact i
 refine⟨_,a,b,di,g,_,a,by rw[aH (cU k)];exact aw,T.fd,T.nH,(by show 5<1000;decide),?_⟩;refine D _ ⟨b,g,p,m,ai,ad,q⟩ a a a a ((((((eH.refl _ _).bK.bK.bK).own r).bK.own s).bK.own y).bK) r s y (by rw[aw];rfl) ?_ ?_ ?_;rw[aH e,aH (cU v),aH e,aH (cU o),aH e,aw];rw[aH h,aH (cU u),aH h,aw];rfl;rw[aH k,aw]
def JA:b2 ["scope","binder","value","inner"] Y2 (bo wA):=⟨a,a,a,∅,a,∅,∅⟩
def Uw(F:bO K "bind" "bind" wA f ai)(T:h6 K mg):bd P w K mg base a7 1 f ai Y2 wB:=by
 refine F.ok JA (λi l m n d=>?_) (λo p A r l i m n s d=>?_);obtain⟨e,g,u,b,rfl,_⟩:=d;rfl;obtain⟨e,g,u,b,rfl,v,B,y⟩:=d;have z:(p.deeper (f3 "bind" (bo wA) r.heap.objs.size f o)).units+1<e0:=by have:=s.units;omega
 refine⟨_,ay (bZ (k:=3) JA.nd a (aU a) (nw GW a T.z6 (by rfl) (I (x 0) ae))) (ay (ml z (x 3) (x 1) (x 2) a) (aA (bx (x 3)))),?_⟩;refine⟨_,a,e,b,a,v,λh c=>?_⟩;have C:=Q.fresh (q:=aC.cH b) c;refine⟨_,a,_,a,_,a,h,_,a,.inl ⟨b,gm g,aw,a,c1 (by omega),a⟩,_,a,?_⟩;refine y _ h ?_ c aw;rw[Ll];exact Q.fresh c
def Ux:b2 Ze Ze (bo B7):=⟨a,a,a,∅,a,∅,∅⟩
def Uy(F:bO K "held_by" "held_by" B7 f ai)(T:h6 K mg):bd P w K mg base (bh P w K mg) 1 f ai Ze qb:=by refine F.okE Ux (λm n o B d=>?_) (λz A C D n m o B p d=>?_);obtain⟨g,b,q,d,c,rfl,_⟩:=d;rfl;obtain⟨g,b,q,h,c,rfl,⟨i,r,k,⟨G,s,l⟩,I⟩,u,v⟩:=d;cases s;rw[rc]at l;refine⟨_,ay (cp (b7 sl (bU ji (a1 (x 0) a) bt (λ_ _=>rfl)) (x 1) (cf _)) (aA (ik (B:=B) T.st (il (λ_ _ _ d=>d)) p.du a)) cO) (aA (bx (a1 (x 0) a))),?_⟩;refine⟨_,a,g,jA,i,_,_,a,k,T.rN,T.wy,a,r,_,_,_,a,a,.inl l,a,_,a,a,_,a,?_⟩;by_cases e:ep (fV h c)=b;rw[show decide (V.int (ep (fV h c))=V.int b)=H from bw (by rw[e])];exact cq ⟨_,a,g,jA,i,_,_,a,k,T.rN,T.Jy,a,u e⟩;rw[show decide (V.int (ep (fV h c))=V.int b)=am from bq λy=>e (V.int.inj y)];exact cm (v e)
variable{i:a0}
theorem lU.L(s:lU c a6 d h o e q)(b:jD q=H):∃M,c e=j (.L M):=by
 cases q with
 |clo g l=>cases b
 |pair g i m=>obtain⟨k,n,f,_⟩:=s;exact⟨_,f⟩
 |ref g i=>obtain⟨k,f,_⟩:=s;exact⟨_,f⟩
theorem rP:∀{st:List dp} {cn:List (t×t)},br (k3 c a6 d h o) st cn->∀m∈cn,∃M,c m.2=j (.L M)
 |_,_,.cons e f,m,g=>by obtain b|b:=bm.mp g;subst b;obtain⟨_,_,_,k,_,_,_,_,i,_⟩:=e.ex;exact⟨_,i⟩;exact rP f m b
def dc.B_(b:dc P w cw c A h a6 v st cn):∀m∈cn,m.2≠A.fj:=λm d e=>by have:=(e9.mp b.nd).1;exact this (by rw[<-e];exact i8 d)
def dc.mY(e:dc P w cw c A h a6 v st cn){q:aC}(d:c b=j q)(o:∀f,q≠.ext f):b≠A.ai:=by obtain⟨i,g,_⟩:=e.told.iR;exact ct d g (o _)
def dc.lW(e:dc P w cw c A h a6 v st cn){q:aC}(d:c b=j q)(o:∀f,q≠.cI f):b≠A.ad:=ct d e.told.k4 (o _)
theorem dc.steps(b:dc P w cw c A h a6 v st cn)(r:Nat):dc P w cw (U c A.s (.az di A.a4 (mQ A r))) A h a6 {v with steps:=r} st cn:=by have e:KM (λi=>i=A.s) c (U c A.s (.az di A.a4 (mQ A r))):=KM.bK b.run a;have f:=b.told.Jx e (λi d=>by rw[d];exact b.mV) (cU (b.mY b.run λk=>⋯)) (cU (b.lW b.run λk=>⋯));exact⟨⟨f.1,f.2.1,f.2.2,⟨_,aw⟩⟩,b.eB,aw,by rw[aH (ct b.e8 b.run ⋯)];exact b.e8,nY e b.ar (λl m=>let⟨n,g⟩:=rP b.ar l m;ct g b.run ⋯),b.bg.db e (λo p q u=>let⟨n,g⟩:=(b.bg.obj o p q).L u;ct g b.run ⋯) b.bg.apart,b.nd,b.mV,b.lV,b.k5,b.mW,b.mX⟩
def dc.push(d:dc P w cw c A h a6 v st cn)(z:Q c O){p g x B:t}{eh:B9}(G:O p=j (.az dY B (wv (aS i) x g)))(k:c g=E)(I:O g=j (.L []))(J:dN h l i)(K:kj A.o l env)(M:jC c a6 v.heap x l env):
  dc P w cw (U O A.fj (.L ((cn.map λm=>V.ref m.1).reverse++[.ref p]))) A h a6 v (⟨i,eh,env,[]⟩::st) ((p,g)::cn):=by
 have e:=d.same z;have f:KM (λC=>C=A.fj) O (U O A.fj (.L ((cn.map λm=>V.ref m.1).reverse++[.ref p]))):=KM.bK e.e8 a;have D:g≠A.fj:=λb=>by rw[b,d.e8]at k;cases k
 refine⟨e.told.db f (λC b=>by rw[b];exact d.lV) (cU (e.mY e.e8 λN=>⋯)) (cU (e.lW e.e8 λN=>⋯)) (ct e.run e.e8 ⋯),d.eB,by rw[aH (ct e.run e.e8 ⋯)];exact e.run,?_,?_,?_,?_,d.mV,d.lV,d.k5,d.mW,?_⟩;rw[aw,bz,B'];exact .cons ⟨⟨B,x,l,[],f.at_ G a,J,K,(M.db (KM.same z)).db f,f.keep _ _ I D,.nil⟩,dC _⟩ (nY f e.ar e.B_);refine e.bg.db f (λn q r s b=>d.bg.apart n q r s (by rw[b];exact b8)) λn q r s b=>?_;rw[bz]at b;obtain b|b:=bm.mp b;exact d.bg.apart n q r s (by rw[b];exact b8);obtain b|b:=bm.mp b;obtain⟨R,u⟩:=(d.bg.obj n q r).L s;rw[b,k]at u;cases u;exact d.bg.apart n q r s (cv _ b);have F:=e9.mp d.nd;rw[bz,e9,e9];refine⟨λb=>?_,λb=>?_,F.2⟩;obtain b|b:=bm.mp b;exact D b.symm;exact F.1 b;obtain⟨m,y,h⟩:=cx.mp b;obtain⟨R,u⟩:=rP d.ar m y;rw[h,k]at u;cases u;intro m y;obtain b|b:=bm.mp y;subst b;exact d.told.same.free k;exact d.mX m b
def Uz:b2 Y' Y' (bo B8):=⟨a,a,a,∅,a,∅,∅⟩
def UA(F:bO K "come_to" "come_to" B8 f ai)(T:h6 K mg)(M:kP P w K mg base a7 1 dY "Started" Y8 B5):bd P w K mg base (bh P w K mg) 3 f ai Y' (rO P w):=by refine F.okE Uz (λN g O B d=>?_) (λaE R aF S g N O B r d=>?_);obtain⟨R,k,W,X,v,l,c,st,Z,S,y,eh,rfl,_⟩:=d;rfl;obtain⟨b,k,W,X,v,l,c,st,Z,aa,y,eh,rfl,e,aG,aI,ad,af,ah,h⟩:=d;obtain⟨aK,aj⟩:=T.Un;refine⟨_,ay (cp (b7 dL (a1 (x 0) a) (bQ a aj (u:=.int 300) ⟨_,a⟩) (cf _)) (aA (ik (B:=B) T.st (il (λ_ _ _ d=>d)) r.du a)) cO) (ay (D_ (x 0) bt Ea) (aA (c' (fF fK hT iq hS (a1 (x 0) a) (I (mq (B:=b9) M r a bN (I (x 1) (I (x 2) ae))) ae))))),?_⟩;refine⟨_,a,b.s,di,b.a4,_,_,a,e.run,T.fd,T.pR,a,a,_,a,?_⟩;dsimp only;unfold Y.eL at h;by_cases m:c.steps=300;rw[as (by rw[m];exact bC _)]at h;rw[show decide (V.int (c.steps:Nat)=V.int 300)=H from bw (by rw[m];rfl)];exact cm (h g e.told);rw[ag (by unfold qz;omega)]at h;rw[show decide (V.int (c.steps:Nat)=V.int 300)=am from bq λak=>m (by have:=V.int.inj ak;omega)];refine cq ⟨_,a,b.s,di,b.a4,_,_,a,e.run,T.fd,T.pR,a,_,_,a,a,b.a4,_,e.run,(by show 6<1000;decide),?_⟩;have i:=e.steps (c.steps+1);have al:(U g b.s (.az di b.a4 (mQ b (c.steps+1))))=U g b.s (.az di b.a4 (c0 "steps" (.int ((c.steps:Nat)+1)) (mQ b c.steps))):=rfl;rw[al]at i;refine⟨_,a,b.s,di,b.a4,_,_,a,aw,T.fd,T.qa,a,.inl ⟨a,_,an.au i.e8⟩,_,a,_,a,λn o p z ao=>?_⟩;have A:jC (U g b.s (.az di b.a4 (c0 "steps" (.int ((c.steps:Nat)+1)) (mQ b c.steps)))) l c.heap k aa y:=ah.db (KM.bK e.run a);generalize U g b.s (.az di b.a4 (c0 "steps" (.int ((c.steps:Nat)+1)) (mQ b c.steps)))=q at i p z A;have C:Q q (U (U q o (.own n)) n (.az dY o [])):=(Q.fresh z).new (by rw[aH (cU ao)];exact p);refine⟨n,o,k,aS v,a,aw,λap aL av ax aB aC=>⟨a,?_⟩⟩;have D:Q q ap:=λG J L=>av G J (C G J L) (ew L p);refine⟨b.fj,_,_,a,a,(i.same D).e8,c1 ?_,h _ l _ (i.push (eh:=eh) D aB (C.free ax) aC ad af A)⟩;rw[JB,aV,<-e.ar.length];omega
noncomputable def mZ(v:em)(c:dp):Option (hH×em):=match c.i with
 | .num _ o=>j (.num o,v)
 | .var _ i=>j (UB c.env i,v)
 | .fn d _ _=>j (.clo v.heap.length,{v with heap:=v.heap++[.clo d c.env]})
 | .app _ _ _=>(match c.ca with
  |[_,_,f]=>j (f,v)
  |_=>E)
 | .letE _ _ _ _=>(match c.ca with
  |[_,f]=>j (f,v)
  |_=>E)
 | .ifz _ _ _ _=>(match c.ca with
  |[_,f]=>j (f,v)
  |_=>E)
 | .pair d _ _=>(match c.ca with
  |[u,w]=>j (.pair v.heap.length,{v with heap:=v.heap++[.pair d u w]})
  |_=>E)
 | .fst _ _=>(match c.ca with
  |[.pair k]=>(match v.heap[k]? with
   |some (.pair _ e _)=>j (e,v)
   |_=>E)
  |_=>E)
 | .snd _ _=>(match c.ca with
  |[.pair k]=>(match v.heap[k]? with
   |some (.pair _ _ b)=>j (b,v)
   |_=>E)
  |_=>E)
 | .new d _=>(match c.ca with
  |[u]=>j (.ref v.heap.length,{v with heap:=v.heap++[.ref d u]})
  |_=>E)
 | .get _ _=>(match c.ca with
  |[.ref k]=>(match v.heap[k]? with
   |some (.ref _ w)=>j (w,v)
   |_=>E)
  |_=>E)
 | .set _ _ _=>(match c.ca with
  |[.ref k,w]=>(match v.heap[k]? with
   |some (.ref g _)=>j (w,{v with heap:=v.heap.set k (.ref g w)})
   |_=>E)
  |_=>E)
 | .add _ _ _=>(match c.ca with
  |[.num k,.num h]=>j (.num ((k+h)%Vacfaa.MOD),v)
  |_=>E)
def i3{b:List hH}(c:ar.i=i)(d:ar.ca=b):mZ v ar=mZ v ⟨i,ar.ctx,ar.env,b⟩:=by subst c;subst d;rfl
def step_at{b:List hH}(c:ar.i=i)(d:ar.ca=b):Y.gl h v ar st=Y.gl h v ⟨i,ar.ctx,ar.env,b⟩ st:=by subst c;subst d;rfl
variable{a3:Type}
def kL{n:List a3}(d:n.length=1):∃e,n=[e]:=by match n,d with|[e],_=>exact⟨e,a⟩
def lX{n:List a3}(d:n.length=2):∃e b,n=[e,b]:=by match n,d with|[e,b],_=>exact⟨e,b,a⟩
def JC{n:List a3}(d:n.length=3):∃e b y,n=[e,b,y]:=by match n,d with|[e,b,y],_=>exact⟨e,b,y,a⟩
def tF(b:dp)(v:em)(st:List dp):Option (hH×em)->Y.gI
 |some m=>Y.bL b m.1 m.2 st
 |none=>.cM v
def UC(d:ar.ca.length=e7 ar.i):Y.gl h v ar st=tF ar v st (mZ v ar):=by
 obtain⟨n,o,p,q⟩:=ar;cases n with
 |num f r=>rfl
 |var f m=>rfl
 |fn f m k=>rfl
 |app f b k=>obtain⟨e,l,s,rfl⟩:=JC d;rfl
 |letE f m b k=>obtain⟨e,l,rfl⟩:=lX d;rfl
 |ifz f u b k=>obtain⟨e,l,rfl⟩:=lX d;rfl
 |pair f b k=>obtain⟨e,l,rfl⟩:=lX d;rfl
 |fst f b=>
  obtain⟨e,rfl⟩:=kL d;cases e with
  |pair c=>
   show(match v.heap[c]? with|some (.pair _ b _)=>_|_=>_)=tF _ _ _ (match v.heap[c]? with|some (.pair _ b _)=>_|_=>_);cases v.heap[c]? with
   |none=>rfl
   |some g=>cases g<;>rfl
  |_=>rfl
 |snd f b=>
  obtain⟨e,rfl⟩:=kL d;cases e with
  |pair c=>
   show(match v.heap[c]? with|some (.pair _ _ b)=>_|_=>_)=tF _ _ _ (match v.heap[c]? with|some (.pair _ _ b)=>_|_=>_);cases v.heap[c]? with
   |none=>rfl
   |some g=>cases g<;>rfl
  |_=>rfl
 |new f b=>obtain⟨e,rfl⟩:=kL d;rfl
 |get f b=>
  obtain⟨e,rfl⟩:=kL d;cases e with
  |ref c=>
   show(match v.heap[c]? with|some (.ref _ b)=>_|_=>_)=tF _ _ _ (match v.heap[c]? with|some (.ref _ b)=>_|_=>_);cases v.heap[c]? with
   |none=>rfl
   |some g=>cases g<;>rfl
  |_=>rfl
 |set f b k=>
  obtain⟨e,l,rfl⟩:=lX d;cases e with
  |ref c=>
   show(match v.heap[c]? with|some (.ref _ b)=>_|_=>_)=tF _ _ _ (match v.heap[c]? with|some (.ref _ b)=>_|_=>_);cases v.heap[c]? with
   |none=>rfl
   |some g=>cases g<;>rfl
  |_=>rfl
 |add f b k=>obtain⟨e,l,rfl⟩:=lX d;cases e<;>cases l<;>rfl
abbrev Ca:be:=b3 84
def wC(h:a0):a0->Prop
 | .num _ _=>True
 | .var b _=>dH h b=E
 | .add _ _ _=>True
 | .fn _ _ _=>True
 | .pair _ _ _=>True
 | .new _ _=>True
 |_=>False
def JD:a0->Bool
 | .pair _ _ _=>H
 | .new _ _=>H
 |_=>am
inductive Cb(P:cN)(w:cr)(G:List V)(c:z)(f:aW)(B:bn):Prop|mk:∀(A:h4) (e g x q:t) (l:List t) (cw:z) (h:a0) (a6:Nat->t) (v:em) (ar:dp) (st:List dp) (cn:List (t×t)),G=[.ref A.s,.ref e]->dc P w cw c A h a6 v (ar::st) ((e,g)::cn)->c e=j (.az dY x (wv (aS ar.i) q g))->c g=j (.L (l.map V.ref))->br (gC c a6 v.heap) ar.ca l->(aE h)[aS ar.i]?=j (pn h ar.i)->wC h ar.i->ar.ca.length=e7 ar.i->(∀d o,ar.i= .num d o->f (.int (o:Nat)) c)->(∀d n,ar.i= .var d n->f (.int (A.o:Nat)) c)->(∀d b p k r,ar.i= .add d b p->ar.ca=[.num k,.num r]->∀O,Q c O->f (.int (((k+r)%100:Nat))) O)->(∀d b p,ar.i= .add d b p->(∃u∈ar.ca,∀k,u≠.num k)->∀O,Q c O->B (.ref oR) E O)->(∀d n b,ar.i= .fn d n b->f (.ref q) c)->(JD ar.i=H->∀m,c m=E->f (.ref m) (U c m (.L (l.map V.ref))))->Cb P w G c f B
def UD(d:wC h i):((pn h i).kind="number"↔∃n o,i= .num n o)/\((pn h i).kind="in"↔∃n D,i= .var n D)/\((pn h i).kind="add"↔∃n e b,i= .add n e b)/\((pn h i).kind="fun"↔∃n D b,i= .fn n D b):=by
 have c:∀{e b:Str},e≠b->(e=b↔False):=λd=>⟨λf=>d f,λf=>f.elim⟩;cases i with
 |var n D=>
  have:(pn h (.var n D)).kind="in":=by show(hh (dH h n)).kind=_;rw[(d:dH h n=E)];rfl
  rw[this];refine⟨?_,⟨λ_=>⟨n,D,a⟩,λ_=>rfl⟩,?_,?_⟩<;>exact(c ∅).trans (by simp)
 |num n o=>change(("number":Str)="number"↔_)/\(("number":Str)="in"↔_)/\(("number":Str)="add"↔_)/\(("number":Str)="fun"↔_);refine⟨⟨λ_=>⟨n,o,a⟩,λ_=>rfl⟩,?_,?_,?_⟩<;>exact(c ∅).trans (by simp)
 |add n e b=>change(("add":Str)="number"↔_)/\(("add":Str)="in"↔_)/\(("add":Str)="add"↔_)/\(("add":Str)="fun"↔_);refine⟨?_,?_,⟨λ_=>⟨n,e,b,a⟩,λ_=>rfl⟩,?_⟩<;>exact(c ∅).trans (by simp)
 |fn n D b=>change(("fun":Str)="number"↔_)/\(("fun":Str)="in"↔_)/\(("fun":Str)="add"↔_)/\(("fun":Str)="fun"↔_);refine⟨?_,?_,?_,⟨λ_=>⟨n,D,b,a⟩,λ_=>rfl⟩⟩<;>exact(c ∅).trans (by simp)
 |pair n e b=>change(("pair":Str)="number"↔_)/\(("pair":Str)="in"↔_)/\(("pair":Str)="add"↔_)/\(("pair":Str)="fun"↔_);refine⟨?_,?_,?_,?_⟩<;>exact(c ∅).trans (by simp)
 |new n e=>change(("new":Str)="number"↔_)/\(("new":Str)="in"↔_)/\(("new":Str)="add"↔_)/\(("new":Str)="fun"↔_);refine⟨?_,?_,?_,?_⟩<;>exact(c ∅).trans (by simp)
 |app n e b=>exact d.elim
 |letE n D e b=>exact d.elim
 |ifz n g e b=>exact d.elim
 |fst n e=>exact d.elim
 |snd n e=>exact d.elim
 |get n e=>exact d.elim
 |set n e b=>exact d.elim
def wD:ep (fV d u)=0↔∃k,u= .num k:=by cases u<;>simp[fV,ep]
def numOf:hH->Option Nat
 | .num o=>j o
 |_=>E
def JE{C:hH}(d:numOf C=j k):C= .num k:=by cases C<;>simp_all [numOf]
def wE:b2 ["run","started","node","addends","value"] Zn (bo Ca):=⟨a,a,a,∅,a,∅,∅⟩
def UE(F:bO K "make_held" "make_held" Ca f ai)(T:cT K mg)(ba:hl K mg)(b:h6 K mg)(aN:bI P w K mg base (bh P w K mg) 1 "held_by" Ze qb):bd P w K mg base (bh P w K mg) 2 f ai Zn (Cb P w):=by
 refine F.okE wE (λaP L aR B d=>?_) (λb1 aT b2 af L aP aR B aW d=>?_);obtain⟨aT,e,N,v,aX,ah,aY,h,av,aw,c,st,aZ,rfl,_⟩:=d;rfl;obtain⟨y,e,N,v,aX,ah,aY,h,av,aw,c,st,aZ,rfl,O,S,aj,ax,a0,U,a2,a3,a6,a7,a8,a9,a_⟩:=d;obtain⟨b3,bb⟩:=ba.AV;obtain⟨b6,bc⟩:=b.Uo;refine⟨_,ay (bZ (k:=2) wE.nd a (aU a) (bU cj (a1 (x 0) a) (a1 (x 1) a) (λ_ _=>rfl))) (ay (cp (b7 dL (a1 (x 2) a) c_ (cf _)) (aA (bx (a1 (x 2) a))) cO) (ay (cp (b7 dL (a1 (x 2) a) c_ (cf _)) (aA (bx (a1 (x 0) a))) cO) (ay (cp (b7 dL (a1 (x 2) a) c_ (cf _)) (ay (Uj (k:=3) (own:=[("value",4)]) (g:=d0 4) (cK:=hd) (bj:=sr qb [] B (dx (cD 4) (dx (ff (.int 0)) e1))) a wE.nd a a (qU a a a a) (dU (a1 (x 1) a)) (f6 a) (λaf L az aB aC=>cF (k:=4) wE.nd a (aU a)) (λaf L az aB aC=>jk) (B:=B) (Ui (λ_ _ _ d=>d)) (λaf L az aB aC b9 ak=>bP (B:=B) aN aW a ak (I (x 4) (I (bQ a bb (u:=.int 0) ⟨_,a⟩) ae)))) (aA (bx (fD L8 (en (ES a) a T.Gh (by rfl) (I (x 3) ae)) (bQ a bc (u:=.int 100) ⟨_,a⟩))))) cO) (ay (cp (b7 dL (a1 (x 2) a) c_ (cf _)) (aA (bx (a1 (x 1) a))) cO) (aA (bx (nw yp a ba.v_ (by rfl) (I (a1 (x 1) a) ae)))))))),?_⟩;obtain⟨b_,bf,b',bg⟩:=O.eB.eX.same O.told.same;obtain⟨z,bi,A,cc,C,D,W,bk,cd,cg⟩:=bg _ _ a0;obtain⟨X,Y,Z,aa⟩:=UD U;refine⟨_,a,y.s,di,y.a4,_,_,a,O.run,b.fd,b.hY,a,_,a,e,dY,v,_,_,a,S,b.fc,b.nZ,a,y.cs,_,_,_,a,a,an.au bf,dj (by rw[d2,bi];rfl),?_⟩;have ad:∀{al:Str},decide (V.str (pn h c.i).kind=V.str al)=decide ((pn h c.i).kind=al):=λ{al}=>by simp
 refine⟨_,a,z,cW,A,C,_,a,D,T.dB,T.fh,W,a,_,a,?_⟩;dsimp only;rw[ad];by_cases n:(pn h c.i).kind="number";rw[bw n];obtain⟨m,G,l⟩:=X.mp n;have bl:(pn h c.i).vm= .int (G:Nat):=by rw[l];rfl
 exact cm ⟨_,a,z,cW,A,C,_,a,D,T.dB,T.hY,bk.2,by rw[bl];exact a3 m G l⟩;rw[bq n];refine cq ⟨_,a,z,cW,A,C,_,a,D,T.dB,T.fh,W,a,_,a,?_⟩;dsimp only;rw[ad];by_cases o:(pn h c.i).kind="in";rw[bw o];obtain⟨m,ao,l⟩:=Y.mp o;exact cm ⟨_,a,y.s,di,y.a4,_,_,a,O.run,b.fd,b.Jz,a,a6 m ao l⟩;rw[bq o];refine cq ⟨_,a,z,cW,A,C,_,a,D,T.dB,T.fh,W,a,_,a,?_⟩;dsimp only;rw[ad];by_cases p:(pn h c.i).kind="add";rw[bw p];obtain⟨m,q,aE,l⟩:=Z.mp p;have aF:c.ca.length=2:=by rw[a2,l];rfl
 refine cm ⟨_,a,e,dY,v,_,_,a,S,b.fc,b.k6,a,N,a,⟨_,an.au aj⟩,?_⟩;intro bn bo;have aG:(ah.map V.ref).length=2:=by rw[aV,<-ax.length,aF]
 refine iN (K:=K) (e:=N) (M:=ah.map V.ref) (R:=λ_ (q:Option Nat) u=>∃k:Nat,q=j k/\u=V.int (k:Nat)) (aQ:=λk=>(c.ca[k]?).map numOf) (λ_ _ _ _ _ d=>d) (λ_ _ _ _ _ _ d _=>d) (λaH h=>an.au (h _ _ aj)) (by rw[aG];exact c1 (by omega)) bo ?_ ?_;intro k ci aH ck cl bp aI bs cn;obtain⟨bt,bu,rfl⟩:=jR bp;obtain⟨u,aK,bA⟩:=ax.fq bu;refine⟨a,?_⟩;dsimp only[hd];rw[as a];refine⟨_,a,bt,0,av,aw.heap,u,a,bA.db (KM.same aI),λap=>?_,λap=>?_⟩;obtain⟨G,rfl⟩:=wD.mp ap;exact bs _ _ (j G) (Q.id _) (by rw[aK];rfl) ⟨G,a,a⟩;exact a8 m q aE l ⟨u,ev aK,λk bB=>ap (wD.mpr ⟨k,bB⟩)⟩ aH aI;intro bD bF bH bJ ar;obtain⟨aL,u,aM⟩:=lX aF;rw[aG,aM]at ar;change br _ [numOf aL,numOf u] bF at ar;cases ar with
 |cons bK bL=>
  cases bL with
  |cons bN bR=>
   cases bR;obtain⟨k,bS,rfl⟩:=bK;obtain⟨J,bT,rfl⟩:=bN;have bV:aL= .num k:=JE bS;have bW:u= .num J:=JE bT;subst bV bW;refine⟨_,a,bn,[((k:Nat):Int),((J:Nat):Int)],a,an.au bJ,_,_,a,a,(by show(0:Int)<100;decide),?_⟩;have:=a7 m q aE k J l aM bD bH;have bX:([((k:Nat):Int),((J:Nat):Int)].sum%100:Int)=(((k+J)%100:Nat):Int):=by simp only[l1,List.sum_nil];omega
   rw[<-bX]at this;exact this
 rw[bq p];refine cq ⟨_,a,z,cW,A,C,_,a,D,T.dB,T.fh,W,a,_,a,?_⟩;dsimp only;rw[ad];by_cases r:(pn h c.i).kind="fun";rw[bw r];obtain⟨m,ao,q,l⟩:=aa.mp r;exact cm ⟨_,a,e,dY,v,_,_,a,S,b.fc,b.p',a,a9 m ao q l⟩;rw[bq r];have bY:JD c.i=H:=by revert U X Y Z aa n o p r;cases c.i<;>intro U X Y Z aa n o p r<;>first|rfl|exact U.elim|exact aq (X.mpr ⟨_,_,rfl⟩) n|exact aq (Y.mpr ⟨_,_,rfl⟩) o|exact aq (Z.mpr ⟨_,_,_,rfl⟩) p|exact aq (aa.mpr ⟨_,_,_,rfl⟩) r
 exact cq ⟨_,rfl,e,dY,v,_,_,rfl,S,b.fc,b.k6,rfl,N,_,rfl,.inl (an.au aj),λb0 ak=>a_ bY b0 ak⟩
def wF{b:fw}(d:jB b=jB q):jD b=jD q:=by cases q<;>cases b<;>simp_all [jB,jD]
def JF{af:Nat}{e:fw}(b:(d.set k e)[af]?=j q):(k=af/\q=e/\k<d.length)\/(k≠af/\d[af]?=j q):=by by_cases c:k=af;subst c;by_cases f:k<d.length;rw[ud f]at b;cases b;exact .inl ⟨a,a,f⟩;rw[yE (by rw[EF];omega)]at b;cases b;rw[ue c]at b;exact .inr ⟨c,b⟩
def JG{r:Nat}{f:hH}(c:d[k]?=j (.ref r f)):mR d (d.set k (.ref r u)) a6 a6:=⟨λg h b=>by by_cases e:k=g;subst e;rw[c]at b;cases b;exact⟨.ref r u,ud (es.mp c).1,a,a⟩;exact⟨h,by rw[ue e];exact b,a,a⟩⟩
theorem Cc{aY:List fw}{b:Nat->t}(g:mR d aY a6 b):∀{st:List dp} {cn:List (t×t)},br (k3 c a6 d h o) st cn->br (k3 c b aY h o) st cn
 |_,_,.nil=>.nil
 |_,_,.cons e f=>.cons (e.h5 g) (Cc g f)
def dc.UF(d:dc P w cw c A h a6 v st cn){r:Nat}{F:hH}(m:v.heap[k]?=j (.ref r F))(G:gC c a6 v.heap u b):dc P w cw (U c (a6 k) (.L [.ref b])) A h a6 {v with heap:=v.heap.set k (.ref r u)} st cn:=by
 obtain⟨T,n,_⟩:=d.bg.obj k _ m;have s:KM (λb=>b=a6 k) c (U c (a6 k) (.L [.ref b])):=KM.bK n a;have B:mR v.heap (v.heap.set k (.ref r u)) a6 a6:=JG m;have C:=d.bg.apart k _ m a;have x:=d.told.db s (λb e=>by rw[e];exact d.bg.new k _ m a) (cU (d.mY n λI=>⋯)) (cU (d.lW n λI=>⋯)) (ct d.run n ⋯);have y:∀f i,(v.heap.set k (.ref r u))[f]?=j i->∃z,v.heap[f]?=j z/\jB i=jB z:=λf i g=>by obtain⟨rfl,rfl,_⟩|⟨_,g⟩:=JF g;exact⟨_,m,a⟩;exact⟨i,g,a⟩
 refine⟨⟨x.same,x.iR,x.k4,x.obj⟩,d.eB,by rw[aH (ct d.run n ⋯)];exact d.run,by rw[aH λe=>C (by rw[e];exact b8)];exact d.e8,Cc B (nY s d.ar λV J e=>C (by rw[<-e];exact cv _ (i8 J))),⟨λf i g=>?_,λf D i z g K l M N=>?_,λf i g l=>?_,λf i g l=>?_⟩,d.nd,d.mV,d.lV,d.k5,d.mW,d.mX⟩;obtain⟨rfl,rfl,_⟩|⟨O,g⟩:=JF g;exact⟨b,aw,(G.db s).h5 B⟩;exact((d.bg.obj f i g).db s λl e=>O (d.bg.inj k f _ i m g a l e.symm)).h5 B;obtain⟨o,p,q⟩:=y f i g;obtain⟨Q,R,S⟩:=y D z K;exact d.bg.inj f D o Q p R (by rw[<-wF q];exact l) (by rw[<-wF S];exact M) N;obtain⟨o,p,q⟩:=y f i g;exact d.bg.apart f o p (by rw[<-wF q];exact l);obtain⟨o,p,q⟩:=y f i g;exact d.bg.new f o p (by rw[<-wF q];exact l)
abbrev wG:be:=b3 85
inductive tG(P:cN)(w:cr)(f:a0->a0->Prop)(G:List V)(c:z)(g:aW)(B:bn):Prop|mk:∀(A:h4) (e k:t) (cw:z) (h:a0) (a6:Nat->t) (v:em) (ar:dp) (st:List dp) (cn:List (t×t)),G=[.ref A.s,.ref e]->dc P w cw c A h a6 v (ar::st) ((e,k)::cn)->f h ar.i->ar.ca.length=e7 ar.i->(∀u d,mZ v ar=j (u,d)->∀(O:z) (l:Nat->t) (b:t),dc P w cw O A h l d (ar::st) ((e,k)::cn)->gC O l d.heap u b->g (.ref b) O)->(mZ v ar=E->∀O,Told P w cw O A v->B (.ref oR) E O)->tG P w f G c g B
def wH:ep (fV d u)=2↔∃k,u= .pair k:=by cases u<;>simp[fV,ep]
def wI:ep (fV d u)=3↔∃k,u= .ref k:=by cases u<;>simp[fV,ep]
def JH:ep (fV d u)=1↔∃k,u= .clo k:=by cases u<;>simp[fV,ep]
def JI(s:oX d (.pair k)):∃n e b,d[k]?=j (.pair n e b):=by
 obtain⟨f,g,c⟩:=s;cases f with
 |pair n e b=>exact⟨n,e,b,g⟩
 |clo n h=>cases c
 |ref n i=>cases c
def JJ(s:oX d (.ref k)):∃n u,d[k]?=j (.ref n u):=by
 obtain⟨c,e,b⟩:=s;cases c with
 |ref n u=>exact⟨n,u,e⟩
 |clo n f=>cases b
 |pair n g h=>cases b
def UG(s:oX d (.clo k)):∃n env,d[k]?=j (.clo n env):=by
 obtain⟨c,e,b⟩:=s;cases c with
 |clo n env=>exact⟨n,env,e⟩
 |pair n f g=>cases b
 |ref n h=>cases b
def tH(h:a0):a0->Prop
 | .var c _=>∃b,dH h c=j b
 | .app _ _ _=>True
 | .letE _ _ _ _=>True
 | .ifz _ _ _ _=>True
 | .fst _ _=>True
 | .snd _ _=>True
 | .get _ _=>True
 | .set _ _ _=>True
 |_=>False
def UH(d:tH h i):((pn h i).kind="name"↔∃n D,i= .var n D)/\((pn h i).kind="fst"↔∃n e,i= .fst n e)/\((pn h i).kind="snd"↔∃n e,i= .snd n e)/\((pn h i).kind="get"↔∃n e,i= .get n e)/\((pn h i).kind="set"↔∃n e b,i= .set n e b):=by
 have c:∀{e b:Str},e≠b->(e=b↔False):=λd=>⟨λf=>d f,λf=>f.elim⟩;cases i with
 |var n D=>
  obtain⟨b,g⟩:∃b,dH h n=j b:=d;have:(pn h (.var n D)).kind="name":=by show(hh (dH h n)).kind=_;rw[g];rfl
  rw[this];refine⟨⟨λ_=>⟨n,D,a⟩,λ_=>rfl⟩,?_,?_,?_,?_⟩<;>exact(c ∅).trans (by simp)
 |app n e b=>change(("call":Str)="name"↔_)/\(("call":Str)="fst"↔_)/\(("call":Str)="snd"↔_)/\(("call":Str)="get"↔_)/\(("call":Str)="set"↔_);refine⟨?_,?_,?_,?_,?_⟩<;>exact(c ∅).trans (by simp)
 |letE n D e b=>change(("let":Str)="name"↔_)/\(("let":Str)="fst"↔_)/\(("let":Str)="snd"↔_)/\(("let":Str)="get"↔_)/\(("let":Str)="set"↔_);refine⟨?_,?_,?_,?_,?_⟩<;>exact(c ∅).trans (by simp)
 |ifz n k e b=>change(("if":Str)="name"↔_)/\(("if":Str)="fst"↔_)/\(("if":Str)="snd"↔_)/\(("if":Str)="get"↔_)/\(("if":Str)="set"↔_);refine⟨?_,?_,?_,?_,?_⟩<;>exact(c ∅).trans (by simp)
 |fst n e=>change(("fst":Str)="name"↔_)/\(("fst":Str)="fst"↔_)/\(("fst":Str)="snd"↔_)/\(("fst":Str)="get"↔_)/\(("fst":Str)="set"↔_);refine⟨?_,⟨λ_=>⟨n,e,a⟩,λ_=>rfl⟩,?_,?_,?_⟩<;>exact(c ∅).trans (by simp)
 |snd n e=>change(("snd":Str)="name"↔_)/\(("snd":Str)="fst"↔_)/\(("snd":Str)="snd"↔_)/\(("snd":Str)="get"↔_)/\(("snd":Str)="set"↔_);refine⟨?_,?_,⟨λ_=>⟨n,e,a⟩,λ_=>rfl⟩,?_,?_⟩<;>exact(c ∅).trans (by simp)
 |get n e=>change(("get":Str)="name"↔_)/\(("get":Str)="fst"↔_)/\(("get":Str)="snd"↔_)/\(("get":Str)="get"↔_)/\(("get":Str)="set"↔_);refine⟨?_,?_,?_,⟨λ_=>⟨n,e,a⟩,λ_=>rfl⟩,?_⟩<;>exact(c ∅).trans (by simp)
 |set n e b=>change(("set":Str)="name"↔_)/\(("set":Str)="fst"↔_)/\(("set":Str)="snd"↔_)/\(("set":Str)="get"↔_)/\(("set":Str)="set"↔_);refine⟨?_,?_,?_,?_,⟨λ_=>⟨n,e,b,a⟩,λ_=>rfl⟩⟩<;>exact(c ∅).trans (by simp)
 |num n l=>exact d.elim
 |fn n D b=>exact d.elim
 |pair n e b=>exact d.elim
 |new n e=>exact d.elim
 |add n e b=>exact d.elim
def Cd{M:List V}{u:V}(d:M.length=o+1)(b:M[o]?=j u):gv M (-1)=j u:=by
 delta gv ot;rw[d,ag (by omega),as (by omega)];have:((-1:Int)+((o+1:Nat):Int)).toNat=o:=by omega
 first|(show M[((-1:Int)+((o+1:Nat):Int)).toNat]?=_;rw[this];exact b)|(show M[(((o+1:Nat):Int)+(-1:Int)).toNat]?=_;rw[show(((o+1:Nat):Int)+(-1:Int)).toNat=o by omega];exact b)
def wJ:b2 ["run","started","node","given","inside"] Zn (bo wG):=⟨a,a,a,∅,a,∅,∅⟩
def UI(F:bO K "hand_on" "hand_on" wG f ai)(T:cT K mg)(C:h6 K mg)(aG:bI P w K mg base (bh P w K mg) 1 "held_by" Ze qb):bd P w K mg base (bh P w K mg) 2 f ai Zn (tG P w tH):=by
 refine F.okE wJ (λbp y br B d=>?_) (λbs a8 ci bu y bp br B ao d=>?_);obtain⟨a8,e,aI,bA,n,l,m,h,st,bB,rfl,_⟩:=d;rfl;obtain⟨aT,e,aI,bA,n,l,m,h,st,bB,rfl,b,Q,D,R,aK⟩:=d;obtain⟨cl,a9⟩:=T.zl;obtain⟨cn,a_⟩:=T.vu;have bD:(a8.deeper (f3 "hand_on" (bo wG) bu.heap.objs.size f bs)).units+1<e0:=by have:=ao.units;omega
 refine⟨_,ay (bZ (k:=2) wJ.nd a (aU a) (bU cj (a1 (x 0) a) (a1 (x 1) a) (λ_ _=>rfl))) (ay (bZ (k:=3) wJ.nd a (aU a) (a1 (x 1) a)) (ay (cp (b7 dL (a1 (x 2) a) c_ (cf _)) (aA (bx (jP bD (a1 (x 1) a) (a1 (x 2) a) (λ_ _=>rfl)))) cO) (ay (cp (b7 dL (a1 (x 2) a) c_ (cf _)) (aA (bx (bU cj (bP (B:=B) aG ao a (dF (λ_ _ _ d=>d)) (I (bU cj (x 3) bt (λ_ _=>rfl)) (I (bQ a a9 (u:=.int 2) ⟨_,a⟩) ae))) bt (λ_ _=>rfl)))) cO) (ay (cp (b7 dL (a1 (x 2) a) c_ (cf _)) (aA (bx (bU cj (bP (B:=B) aG ao a (dF (λ_ _ _ d=>d)) (I (bU cj (x 3) bt (λ_ _=>rfl)) (I (bQ a a9 (u:=.int 2) ⟨_,a⟩) ae))) bt (λ_ _=>rfl)))) cO) (ay (cp (b7 dL (a1 (x 2) a) c_ (cf _)) (aA (bx (bU cj (bP (B:=B) aG ao a (dF (λ_ _ _ d=>d)) (I (bU cj (x 3) bt (λ_ _=>rfl)) (I (bQ a a_ (u:=.int 3) ⟨_,a⟩) ae))) bt (λ_ _=>rfl)))) cO) (ay (cp (b7 dL (a1 (x 2) a) c_ (cf _)) (ay (bZ (k:=4) wJ.nd a (aU a) (bP (B:=B) aG ao a (dF (λ_ _ _ d=>d)) (I (bU cj (x 3) bt (λ_ _=>rfl)) (I (bQ a a_ (u:=.int 3) ⟨_,a⟩) ae)))) (aA (LU (bU cj (x 3) bt (λ_ _=>rfl)) (LS (x 4) bt M3 (λ_=>rfl)) a a))) cO) (aA (bx (bU cj (x 3) (np nq bt) (λ_ _=>rfl)))))))))),?_⟩;cases b.ar with
 |cons bF co=>
 obtain⟨aW,bH,ba,bb,aX,aY,bJ,bL,J,z⟩:=bF.ex;obtain⟨ct,bN,cu,bR⟩:=b.eB.eX.same b.told.same;obtain⟨S,bS,W,cw,X,Z,ap,bT,cA,cB⟩:=bR _ _ (jq (aY.at_ b.eB.dn.ck));obtain⟨aL,aM,aN,aP,aQ⟩:=UH Q;refine⟨_,a,aT.s,di,aT.a4,_,_,a,b.run,C.fd,C.hY,a,_,a,e,dY,aW,_,_,a,aX,C.fc,C.nZ,a,aT.cs,_,_,_,a,a,an.au bN,dj (by rw[d2,bS];rfl),?_⟩;refine⟨_,a,e,dY,aW,_,_,a,aX,C.fc,C.k6,a,?_⟩;have av:∀{aR:Str},decide (V.str (pn n h.i).kind=V.str aR)=decide ((pn n h.i).kind=aR):=λ{aR}=>by simp
 refine⟨_,a,S,cW,W,X,_,a,Z,T.dB,T.fh,ap,a,_,a,?_⟩;dsimp only;rw[av];by_cases aa:(pn n h.i).kind="name";rw[bw aa];obtain⟨ad,aw,c⟩:=aL.mp aa;rw[c]at Q aY;obtain⟨aZ,bc⟩:∃ax,dH n ad=j ax:=Q;have bV:(pn n h.i).pJ= .int (aZ:Nat):=by rw[c];show(hh (dH n ad)).pJ=_;rw[bc];rfl
 have az:=aY.var b.eB.dn.ck;rw[bc]at az;obtain⟨v,bW,bX⟩:∃v,ba.find? (λv=>v.1==aw)=j v/\v.2=aZ:=by
  cases bf:ba.find? (λv=>v.1==aw)with
  |none=>rw[bf]at az;cases az
  |some v=>rw[bf]at az;exact⟨v,a,(dP az).symm⟩
 obtain⟨af,bi,bY,b0,b1⟩:=Y.HP bJ bW;obtain⟨b2,b3,cC,b6⟩:=bL;obtain⟨M,bj,p⟩:=b6 af v bi bY b0;rw[bX]at bj;refine cm ⟨_,a,e,dY,aW,_,_,a,aX,C.fc,C.p',a,_,a,S,cW,W,X,_,a,Z,T.dB,T.zk,bT.1,bH,_,a,.inl ⟨b2,gm ((aZ:Nat):Int),.inl b3,bV,bj.symm⟩,?_⟩;refine R bi.value m ?_ y l M b p;rw[<-b1];rw[i3 c a];rfl;rw[bq aa];refine cq ⟨_,a,S,cW,W,X,_,a,Z,T.dB,T.fh,ap,a,_,a,?_⟩;dsimp only;rw[av];by_cases ah:(pn n h.i).kind="fst"
 ·rw[bw ah];obtain⟨ad,a0,c⟩:=aM.mp ah;obtain⟨u,g⟩:=kL (show h.ca.length=1 by rw[D,c];rfl);rw[g]at z;cases z with
  | @cons _ G _ a2 p N=>
  cases N;refine cm ⟨_,a,_,_,_,_,a,a,an.au J,dj (af:=0) a,G,2,l,m.heap,u,a,p,λq=>?_,λq=>?_⟩;obtain⟨k,rfl⟩:=wH.mp q;obtain⟨_,_,_,_,O⟩:=id p;obtain⟨a3,M,bk,r⟩:=JI O;obtain⟨aB,aw,A,aC,bl⟩:=b.bg.obj k _ r;refine⟨l k,_,_,_,a,a,an.au A,dj (af:=0) a,R M m ?_ y l aB b aC⟩;rw[i3 c g];show(match m.heap[k]? with|some (.pair _ e _)=>_|_=>_)=_;rw[r];refine aK ?_ y b.told;rw[i3 c g];cases u with
  |pair k=>exact aq (wH.mpr ⟨k,a⟩) q
  |_=>rfl
 rw[bq ah];refine cq ⟨_,a,S,cW,W,X,_,a,Z,T.dB,T.fh,ap,a,_,a,?_⟩;dsimp only;rw[av];by_cases aj:(pn n h.i).kind="snd"
 ·rw[bw aj];obtain⟨ad,a0,c⟩:=aN.mp aj;obtain⟨u,g⟩:=kL (show h.ca.length=1 by rw[D,c];rfl);rw[g]at z;cases z with
  | @cons _ G _ a2 p N=>
  cases N;refine cm ⟨_,a,_,_,_,_,a,a,an.au J,dj (af:=0) a,G,2,l,m.heap,u,a,p,λq=>?_,λq=>?_⟩;obtain⟨k,rfl⟩:=wH.mp q;obtain⟨_,_,_,_,O⟩:=id p;obtain⟨a3,M,bk,r⟩:=JI O;obtain⟨aB,aw,A,aC,bl⟩:=b.bg.obj k _ r;refine⟨l k,_,_,_,a,a,an.au A,dj (af:=1) a,R bk m ?_ y l aw b bl⟩;rw[i3 c g];show(match m.heap[k]? with|some (.pair _ _ ax)=>_|_=>_)=_;rw[r];refine aK ?_ y b.told;rw[i3 c g];cases u with
  |pair k=>exact aq (wH.mpr ⟨k,a⟩) q
  |_=>rfl
 rw[bq aj];refine cq ⟨_,a,S,cW,W,X,_,a,Z,T.dB,T.fh,ap,a,_,a,?_⟩;dsimp only;rw[av];by_cases ak:(pn n h.i).kind="get"
 ·rw[bw ak];obtain⟨ad,a0,c⟩:=aP.mp ak;obtain⟨u,g⟩:=kL (show h.ca.length=1 by rw[D,c];rfl);rw[g]at z;cases z with
  | @cons _ G _ a2 p N=>
  cases N;refine cm ⟨_,a,_,_,_,_,a,a,an.au J,dj (af:=0) a,G,3,l,m.heap,u,a,p,λq=>?_,λq=>?_⟩;obtain⟨k,rfl⟩:=wI.mp q;obtain⟨_,_,_,_,O⟩:=id p;obtain⟨a3,M,r⟩:=JJ O;obtain⟨aB,A,aC⟩:=b.bg.obj k _ r;refine⟨l k,_,_,_,a,a,an.au A,dj (af:=0) a,R M m ?_ y l aB b aC⟩;rw[i3 c g];show(match m.heap[k]? with|some (.ref _ ax)=>_|_=>_)=_;rw[r];refine aK ?_ y b.told;rw[i3 c g];cases u with
  |ref k=>exact aq (wI.mpr ⟨k,a⟩) q
  |_=>rfl
 rw[bq ak];refine cq ⟨_,a,S,cW,W,X,_,a,Z,T.dB,T.fh,ap,a,_,a,?_⟩;dsimp only;rw[av];by_cases al:(pn n h.i).kind="set"
 ·rw[bw al];obtain⟨ad,a0,cD,c⟩:=aQ.mp al;obtain⟨u,b9,g⟩:=lX (show h.ca.length=2 by rw[D,c];rfl);rw[g]at z;cases z with
  | @cons _ G _ a2 p N=>
  cases N with
  | @cons _ a6 _ cE bn b_=>
  cases b_;refine cm ⟨_,a,_,_,_,_,a,a,an.au J,dj (af:=0) a,G,3,l,m.heap,u,a,p,λq=>?_,λq=>?_⟩;obtain⟨k,rfl⟩:=wI.mp q;obtain⟨_,_,_,_,O⟩:=id p;obtain⟨a3,M,r⟩:=JJ O;obtain⟨aB,A,aC⟩:=b.bg.obj k _ r;have b':(U y (l k) (.L [.ref a6])) aI=j (.L [.ref G,.ref a6]):=by rw[aH λv=>b.bg.apart k _ r a (by rw[<-v];exact cv _ b8)];exact J
  refine⟨_,a,_,_,_,_,a,a,an.au J,dj (af:=1) a,_,a,l k,_,0,0,a,a,A,a,?_⟩;refine⟨_,a,_,a,aI,_,_,_,a,a,an.au b',a,R b9 _ ?_ _ l a6 (b.UF r bn) ?_⟩;rw[i3 c g];show(match m.heap[k]? with|some (.ref aR _)=>_|_=>_)=_;rw[r];exact(bn.db (KM.bK A a)).h5 (JG r);refine aK ?_ y b.told;rw[i3 c g];cases u with
  |ref k=>exact aq (wI.mpr ⟨k,a⟩) q
  |_=>rfl
 rw[bq al];have cc:∃aE aF,h.ca=aE++[aF]/\mZ m h=j (aF,m):=by revert Q aL aM aN aP aQ aa ah aj ak al D;unfold mZ;cases h.i<;>intro Q D aL aM aN aP aQ aa ah aj ak al<;>first|exact Q.elim|exact aq (aL.mpr ⟨_,_,rfl⟩) aa|exact aq (aM.mpr ⟨_,_,rfl⟩) ah|exact aq (aN.mpr ⟨_,_,rfl⟩) aj|exact aq (aP.mpr ⟨_,_,rfl⟩) ak|exact aq (aQ.mpr ⟨_,_,_,rfl⟩) al|(obtain⟨a7,u,w,n⟩:=JC D;rw[n];exact⟨[a7,u],w,rfl,rfl⟩)|(obtain⟨a7,u,n⟩:=lX D;rw[n];exact⟨[a7],u,rfl,rfl⟩)
 obtain⟨aE,aF,g,cd⟩:=cc;obtain⟨ax,cg,p⟩:=z.get (k:=aE.length) (e:=aF) (by rw[g];simp);have A:bb.length=aE.length+1:=by rw[(z.length.symm:bb.length=h.ca.length),g];simp
 exact cq ⟨_,rfl,_,rfl,aI,_,_,_,rfl,rfl,an.au J,Cd (o:=aE.length) (by rw[aV,A]) (by rw[d2,cg];rfl),R aF m cd y l ax b p⟩
def iD(b:Nat->t)(o:Nat)(y:t):Nat->t:=λk=>if k=o then y else b k
def rQ{ao:fw}(b:(d++[q])[k]?=j ao):(k=d.length/\ao=q)\/d[k]?=j ao:=by by_cases c:k<d.length;rw[uz c]at b;exact .inr b;by_cases e:k=d.length;subst e;simp at b;exact .inl ⟨a,b.symm⟩;rw[yE (by simp;omega)]at b;cases b
def UJ{y:t}:mR d (d++[q]) a6 (iD a6 d.length y):=⟨λf c b=>by have e:=(es.mp b).1;refine⟨c,by rw[uz e];exact b,a,?_⟩;delta iD;rw[ag (by omega)]⟩
def dc.alloc(b:dc P w cw c A h a6 v st cn){y:t}(l:jD q=H->y∉A.fj::cn.map B0/\cw y=E/\∀k ao,v.heap[k]?=j ao->jD ao=H->a6 k≠y)(C:lU c a6 v.heap h A.o y q):
  dc P w cw c A h (iD a6 v.heap.length y) {v with heap:=v.heap++[q]} st cn:=by
 have n:mR v.heap (v.heap++[q]) a6 (iD a6 v.heap.length y):=UJ;have g:iD a6 v.heap.length y v.heap.length=y:=by delta iD;rw[as a]
 have e:∀{k:Nat} {ao:fw},v.heap[k]?=j ao->iD a6 v.heap.length y k=a6 k:=λ{k ao} d4=>by have f:=(es.mp d4).1;delta iD;rw[ag (by omega)]
 refine⟨⟨b.told.same,b.told.iR,b.told.k4,b.told.obj⟩,b.eB,b.run,b.e8,Cc n b.ar,⟨λk ao d4=>?_,λk s ao u d4 x d p f=>?_,λk ao d4 d=>?_,λk ao d4 d=>?_⟩,b.nd,b.mV,b.lV,b.k5,b.mW,b.mX⟩;obtain⟨rfl,rfl⟩|d4:=rQ d4;rw[g];exact C.h5 n;rw[e d4];exact(b.bg.obj k ao d4).h5 n;obtain⟨z,D⟩|m:=rQ d4;obtain⟨r,B⟩|i:=rQ x;rw[z,r];rw[z,g,e i]at f;exact aq f.symm ((l (by rw[<-D];exact d)).2.2 s u i p);obtain⟨r,B⟩|i:=rQ x;rw[r,g,e m]at f;exact aq f ((l (by rw[<-B];exact p)).2.2 k ao m d);rw[e m,e i]at f;exact b.bg.inj k s ao u m i d p f;obtain⟨rfl,rfl⟩|d4:=rQ d4;rw[g];exact(l d).1;rw[e d4];exact b.bg.apart k ao d4 d;obtain⟨rfl,rfl⟩|d4:=rQ d4;rw[g];exact(l d).2.1;rw[e d4];exact b.bg.new k ao d4 d
def dc.fresh(f:dc P w cw c A h a6 v st cn){y:t}(d:c y=E):y∉A.fj::cn.map B0/\cw y=E/\∀k ao,v.heap[k]?=j ao->jD ao=H->a6 k≠y:=by refine⟨λb=>?_,f.told.same.free d,λk ao g i b=>?_⟩;obtain b|b:=bm.mp b;rw[b,f.e8]at d;cases d;obtain⟨l,m,h⟩:=cx.mp b;obtain⟨n,e⟩:=rP f.ar l m;rw[h,d]at e;cases e;obtain⟨n,e⟩:=(f.bg.obj k ao g).L i;rw[b,d]at e;cases e
def Ce:a0->aI
 | .fn b _ _=>.fn b
 | .pair b _ _=>.pair b
 | .new b _=>.ref b
 |_=>.num
def UK(d:wC h i):ea (pn h i).kind (aS i)=j (Ce i):=by
 cases i with
 |var b f=>show ea (hh (dH h b)).kind b=_;rw[(d:dH h b=E)];rfl
 |num b g=>rfl
 |add b c e=>rfl
 |fn b f e=>rfl
 |pair b c e=>rfl
 |new b c=>rfl
 |app b c e=>exact d.elim
 |letE b f c e=>exact d.elim
 |ifz b k c e=>exact d.elim
 |fst b c=>exact d.elim
 |snd b c=>exact d.elim
 |get b c=>exact d.elim
 |set b c e=>exact d.elim
def UL(d:tH h i):ea (pn h i).kind (aS i)=E:=by
 cases i with
 |var b f=>obtain⟨c,g⟩:∃c,dH h b=j c:=d;show ea (hh (dH h b)).kind b=_;rw[g];rfl
 |num b k=>exact d.elim
 |add b e c=>exact d.elim
 |fn b f c=>exact d.elim
 |pair b e c=>exact d.elim
 |new b e=>exact d.elim
 |app b e c=>rfl
 |letE b f e c=>rfl
 |ifz b l e c=>rfl
 |fst b e=>rfl
 |snd b e=>rfl
 |get b e=>rfl
 |set b e c=>rfl
def UM(h i:a0):wC h i\/tH h i:=by
 cases i with
 |var b e=>
  cases f:dH h b with
  |none=>exact .inl f
  |some d=>exact .inr ⟨d,f⟩
 |num b g=>exact .inl d5
 |add b c d=>exact .inl d5
 |fn b e d=>exact .inl d5
 |pair b c d=>exact .inl d5
 |new b c=>exact .inl d5
 |app b c d=>exact .inr d5
 |letE b e c d=>exact .inr d5
 |ifz b k c d=>exact .inr d5
 |fst b c=>exact .inr d5
 |snd b c=>exact .inr d5
 |get b c=>exact .inr d5
 |set b c d=>exact .inr d5
abbrev Cf:be:=b3 83
def JK:b2 ["run","started","what"] Zn (bo Cf):=⟨a,a,a,∅,a,∅,∅⟩
def UN(F:bO K "give" "give" Cf f ai)(an:h6 K mg)(bk:bI P w K mg base a7 2 "own_sort" Zh vv)(bl:bI P w K mg base (bh P w K mg) 2 "hand_on" Zn (tG P w tH))(bn:kP P w K mg base a7 1 jA "Value" Zb wz)(bo:bI P w K mg base (bh P w K mg) 2 "make_held" Zn (Cb P w)):bd P w K mg base (bh P w K mg) 3 f ai Zn (tG P w λ_ _=>True):=by
 refine F.okE JK (λbp bs aX B d=>?_) (λb_ bt b' cc bs bp aX B ao d=>?_);obtain⟨bt,af,ap,au,J,h,b,g,st,av,rfl,_⟩:=d;rfl;obtain⟨M,af,ap,au,J,h,b,g,st,av,rfl,C,_,ah,aY,aZ⟩:=d;refine⟨_,ay (bZ (k:=2) JK.nd a (aU a) (bP (B:=b9) bk ao a bN (I (a1 (x 0) a) (I (a1 (x 1) a) ae)))) (ay (cp (b7 us (x 2) jK (cf _)) (aA (bx (bP (B:=B) bl ao a (dF (λ_ _ _ d=>d)) (I (x 0) (I (x 1) ae))))) cO) (aA (bx (mq (B:=b9) bn ao a bN (I (x 2) (I (bP (B:=B) bo ao a (dF (λ_ _ _ d=>d)) (I (x 0) (I (x 1) ae))) ae)))))),?_⟩;cases C.ar with
 |cons bu cd=>
 obtain⟨l,W,aK,ax,a0,X,a2,bA,aM,a3⟩:=bu.ex;have a6:=jq (X.at_ C.eB.dn.ck);refine⟨_,a,M.s,di,M.a4,_,_,a,C.run,an.fd,an.hY,a,_,a,af,dY,l,_,_,a,a0,an.fc,an.nZ,a,M.cs,_,aE J,_,a,C.eB.eX.same C.told.same,a6,C.eB.num.same C.told.same,λa8 O Z hw=>?_⟩;have D:=C.same Z;obtain R|R:=UM J g.i;rw[UK R]at hw;obtain⟨aN,rfl,bB⟩:=(show d' O (Ce g.i) a8 from hw);refine⟨_,a,a,_,a,cq ⟨_,a,_,a,_,a,?_⟩⟩;have bL:∀(m:z) (aj:V) (aa:Nat->t) (N:em) (n:hH),Q O m->dc P w au m M J aa N (g::st) ((af,ap)::av)->mZ b g=j (n,N)->aj=p_ aa n->fV N.heap n=Ce g.i->oX N.heap n->∀p l,m p=E->m l=E->l≠p->wz (.ref p::([.ref aN,aj]++[])) (U (U m l (.own p)) p (.az jA l [])) (λn m=>n= .aL/\aX (.ref p) m) b9:=by intro m aj aa N n bD ii bF bH bJ bK p l bb bQ bR;subst bH;have ad:Q m (U (U m l (.own p)) p (.az jA l [])):=(Q.fresh bQ).new (by rw[aH (cU bR)];exact bb);refine⟨p,l,_,_,a,aw,λa9 bS bT=>⟨a,?_⟩⟩;have a_:Q m a9:=λu q ba=>bS u q (ad u q ba) (ew ba bb);refine aY n N bF a9 aa p (ii.same a_) ⟨l,aN,bT,?_,bK⟩;rw[bJ];exact TupAt.same (bD.trans a_) ⟨aN,a,bB⟩
 refine⟨M,af,ap,l,W,ax,au,J,h,b,g,st,av,a,D,Z _ _ a0,Z _ _ aM,a3.aG λ_ _ ak=>ak.db (KM.same Z),a6,R,ah,λe bU c=>?_,λe aB c=>?_,λe u y k aP c v S aF=>?_,λe u y c ⟨n,bc,T⟩ S aF=>?_,λe aB u c=>?_,λbf r bg=>?_⟩;exact bL O _ h b (.num bU) (Q.id _) D (by rw[i3 c a];rfl) a (by rw[c];rfl) d5;rw[c]at R X;have aQ:=X.var C.eB.dn.ck;rw[(R:dH J e=E)]at aQ;have aI:aK.find? (λA=>A.1==aB)=E:=by
  cases aI:aK.find? (λA=>A.1==aB)with
  |none=>rfl
  |some A=>rw[aI]at aQ;cases aQ
 have bV:=X.ro aI;subst bV;exact bL O _ h b (.num M.o) (Q.id _) D (by rw[i3 c a];show j (UB g.env d9,b)=_;rw[Y.HQ a2 aI]) a (by rw[c];rfl) d5;exact bL S _ h b (.num ((k+aP)%100)) aF (D.same aF) (by rw[i3 c v];rfl) a (by rw[c];rfl) d5;refine aZ ?_ S (D.same aF).told;obtain⟨G,al,v⟩:=lX (show g.ca.length=2 by rw[ah,c];rfl);rw[i3 c v];rw[v]at bc;cases G with
 |num k=>
  cases al with
  |num aP=>exfalso;obtain A|A:=bm.mp bc;exact T k A;exact T aP (by simpa using A)
  |_=>rfl
 |_=>rfl
 have bW:lU O h b.heap J M.o W (.clo e g.env):=⟨aK,aB,u,by rw[c]at X;exact X,a2,bA.db (KM.same Z)⟩;have ii:=D.alloc (q:=.clo e g.env) (y:=W) ⋯ bW;refine bL O _ (iD h b.heap.length W) _ (.clo b.heap.length) (Q.id _) ii (by rw[i3 c a];rfl) ?_ ?_ ⟨.clo e g.env,by simp,a⟩;show V.ref W=V.ref (iD h b.heap.length W b.heap.length);delta iD;rw[as a];rw[c];show zI (mS (b.heap++[.clo e g.env]) b.heap.length)= .fn e;unfold mS;simp[tD];have ad:=Q.fresh (q:=aC.L (ax.map V.ref)) bg;have ii:=D.same ad;have bi:=D.fresh bg;have T:br (gC (U O r (.L (ax.map V.ref))) h b.heap) g.ca ax:=a3.aG λ_ _ ak=>(ak.db (KM.same Z)).db (KM.same ad);have bj:iD h b.heap.length r b.heap.length=r:=by delta iD;rw[as a]
 cases c:g.i with
 |pair e u y=>
  obtain⟨G,al,v⟩:=lX (show g.ca.length=2 by rw[ah,c];rfl);rw[v]at T;cases T with
  | @cons _ aR _ bX aT aW=>
  cases aW with
  | @cons _ bY _ cg b0 b1=>
  cases b1;have b2:=ii.alloc (q:=.pair e G al) (y:=r) (λ_=>bi) ⟨aR,bY,aw,aT,b0⟩;refine bL _ _ (iD h b.heap.length r) _ (.pair b.heap.length) ad b2 (by rw[i3 c v];rfl) ?_ ?_ ⟨.pair e G al,by simp,a⟩;show V.ref r=V.ref (iD h b.heap.length r b.heap.length);rw[bj];rw[c];show Vacfaa.Abs.pair (mS (b.heap++[.pair e G al]) b.heap.length)= .pair e;unfold mS;simp[tD]
 |new e u=>
  obtain⟨G,v⟩:=kL (show g.ca.length=1 by rw[ah,c];rfl);rw[v]at T;cases T with
  | @cons _ aR _ bX aT aW=>
  cases aW;refine bL _ _ (iD h b.heap.length r) _ (.ref b.heap.length) ad (ii.alloc (q:=.ref e G) (y:=r) (λ_=>bi) ⟨aR,aw,aT⟩) (by rw[i3 c v];rfl) ?_ ?_ ⟨.ref e G,by simp,a⟩;show V.ref r=V.ref (iD h b.heap.length r b.heap.length);rw[bj];rw[c];show Vacfaa.Abs.ref (mS (b.heap++[.ref e G]) b.heap.length)= .ref e;unfold mS;simp[tD]
 |_=>rw[c]at bf;cases bf
 rw[UL R]at hw;have hw:a8= .aL:=hw;subst hw;exact⟨_,a,a,_,a,cm ⟨_,a,_,a,M,af,ap,au,J,h,b,g,st,av,a,D,R,ah,λn N aM S aa u b3 aj=>aY n N aM S aa u b3 aj,λb6 S ak=>aZ b6 S ak⟩⟩
theorem wK[BEq a3][LawfulBEq a3]{e:a3}:∀(o:Nat) (n:List a3),n.length<=o->(e∈n.eraseDups↔e∈n)
 |0,n,d=>by have:n=[]:=BD.mp (by omega);subst this;simp
 |o+1,[],_=>by simp
 |o+1,c::f,d=>by rw[ty,bm,wK o _ (b5 (tz _ _) (by simpa using d)),bm,eI];constructor;rintro(d|d);exact .inl d;exact .inr d.1;rintro(d|d);exact .inl d;by_cases b:e=c;exact .inl b;exact .inr ⟨d,by simp[b]⟩
def UO[BEq a3][LawfulBEq a3][DecidableEq a3](n:List a3)(e:a3):(n++[e]).eraseDups=if e∈n.eraseDups then n.eraseDups else n.eraseDups++[e]:=by rw[List.eraseDups_append];by_cases d:e∈n;rw[as ((wK _ n (bC _)).mpr d),show([e].removeAll n)=[]by simp[UP,d]];simp;rw[ag λb=>d ((wK _ n (bC _)).mp b),show([e].removeAll n)=[e]by simp[UP,d]];simp[ty]
def JL{b:Type}[BEq a3][LawfulBEq a3][BEq b][LawfulBEq b][DecidableEq b](g:a3->b)(n:List a3)(i:a3):((h9 n i).map g).eraseDups=if g i∈(n.map g).eraseDups then(n.map g).eraseDups else(n.map g).eraseDups++[g i]:=by unfold h9;by_cases d:n.contains i=H;rw[as d,as ((wK _ _ (bC _)).mpr (i8 (d1.mp d)))];rw[ag d,cS];exact UO _ _
def UQ(n:List tE)(i:tE):mT (h9 n i)=if(⟨.node i.label,i.abs⟩:dr)∈mT n then mT n else mT n++[⟨.node i.label,i.abs⟩]:=JL _ _ _
def UR(n:List BZ)(i:BZ):i1 (h9 n i)=if(⟨i.site,i.fn⟩:i2)∈i1 n then i1 n else i1 n++[⟨i.site,i.fn⟩]:=JL _ _ _
def JM{f g:dr}(d:jE f=jE g):f=g:=by unfold jE at d;obtain⟨b,c⟩:=f;obtain⟨e,h⟩:=g;simp only[HT,and_true]at d;rw[zv d.1,Gs d.2]
def JN{f g:i2}(d:iB f=iB g):f=g:=by
 unfold iB at d;obtain⟨b,c⟩:=f;obtain⟨e,h⟩:=g;simp only[HT,and_true,Sum.inl.injEq]at d;have i:b=e:=by have:=d.1;omega
 have k:c=h:=by have:=d.2;omega
 rw[i,k]
def US{c:Type}{g:a3->c}(f:∀e b,g e=g b->e=b){n:List a3}{e:a3}:g e∈n.map g↔e∈n:=⟨λd=>by obtain⟨b,h,i⟩:=cx.mp d;rw[<-f _ _ i];exact h,i8⟩
theorem wL[BEq a3]:∀(o:Nat) (n:List a3),n.length<=o->n.eraseDups.length<=n.length
 |0,n,d=>by have:n=[]:=BD.mp (by omega);subst this;simp
 |o+1,[],_=>by simp
 |o+1,c::e,d=>by rw[ty,cy,cy];have f:=tz (λb=> !(b==c)) e;have g:=wL o (e.filter λb=> !(b==c)) (b5 f (by simpa using d));omega
def dc.UT(d:dc P w cw c A h a6 v st cn){aK:List (eU×t)}(q:c A.ai=j (fv P w A.ai aK))(r:∀i∈aK,jx c i.1 i.2)(f:gW aK=(mT v.flows).map jE){i:tE}(u:jx c (jE ⟨.node i.label,i.abs⟩) b):
  dc P w cw (U c A.ai (fv P w A.ai (putN aK (jE ⟨.node i.label,i.abs⟩) b))) A h a6 {v with flows:=h9 v.flows i} st cn:=by
 have l:KM (λm=>m=A.ai) c (U c A.ai (fv P w A.ai (putN aK (jE ⟨.node i.label,i.abs⟩) b))):=KM.bK q a;refine⟨⟨λm n s=>?_,⟨_,aw,λo g=>?_,?_⟩,?_,⟨_,by rw[aH (d.mY d.run λk=>⋯)];exact d.run⟩⟩,d.eB,?_,?_,nY l d.ar λx y=>?_,d.bg.db l (λz n B C=>?_) d.bg.apart,d.nd,d.mV,d.lV,d.k5,d.mW,d.mX⟩;rw[aH (ew s d.k5)];exact d.told.same m n s;refine l.BX ?_;unfold putN at g;split at g;exact r o g;obtain e|e:=bE.mp g;exact r o e;have:o=(jE ⟨.node i.label,i.abs⟩,b):=by simpa using e
 rw[this];exact u;rw[show({v with flows:=h9 v.flows i}:em).flows=h9 v.flows i from rfl,UQ];delta putN;by_cases e:(⟨.node i.label,i.abs⟩:dr)∈mT v.flows;rw[as e,as (by rw[f];exact i8 e)];exact f;rw[ag e,ag (by rw[f,US λ_ _=>JM];exact e)];unfold gW at f|-;rw[cS,cS,f];rfl;rw[aH (cU (ct q d.told.k4 ⋯))];exact d.told.k4;rw[aH (d.mY d.run λk=>⋯)];exact d.run;rw[aH (d.mY d.e8 λk=>⋯)];exact d.e8;obtain⟨D,p⟩:=rP d.ar x y;exact d.mY p λk=>⋯;obtain⟨D,p⟩:=(d.bg.obj z n B).L C;exact d.mY p λk=>⋯
def dc.UU(b:dc P w cw c A h a6 v (ar::st) (m::cn)):dc P w cw (U c A.fj (.L ((cn.map λm=>V.ref m.1).reverse))) A h a6 v st cn:=by
 have e:KM (λp=>p=A.fj) c (U c A.fj (.L ((cn.map λm=>V.ref m.1).reverse))):=KM.bK b.e8 a;have f:=b.nd;rw[bz,e9,e9]at f;cases b.ar with
 |cons s q=>
  exact⟨b.told.db e (λp d=>by rw[d];exact b.lV) (cU (b.mY b.e8 λr=>⋯)) (cU (b.lW b.e8 λr=>⋯)) (ct b.run b.e8 ⋯),b.eB,by rw[aH (ct b.run b.e8 ⋯)];exact b.run,aw,nY e q (λg i=>b.B_ g (cv _ i)),b.bg.db e (λk l n o d=>b.bg.apart k l n o (by rw[d];exact b8)) (λk l n o d=>b.bg.apart k l n o (by obtain d|d:=bm.mp d;rw[d];exact b8;exact cv _ (cv _ d))),e9.mpr ⟨λd=>f.1 (cv _ d),f.2.2⟩,b.mV,b.lV,b.k5,b.mW,λg i=>b.mX g (cv _ i)⟩
def dc.UV{g:t}(d:dc P w cw c A h a6 v (ar::st) ((e,g)::cn)){l:List t}(m:c g=j (.L (l.map V.ref)))(p:gC c a6 v.heap u b)(hw:ar.ca.length<e7 ar.i):
  dc P w cw (U c g (.L (l.map V.ref++[.ref b]))) A h a6 v ({ar with ca:=ar.ca++[u]}::st) ((e,g)::cn):=by
 have k:KM (λb=>b=g) c (U c g (.L (l.map V.ref++[.ref b]))):=KM.bK m a;have o:=d.nd;rw[bz,e9,e9]at o;cases d.ar with
 |cons q r=>
  obtain⟨s,x,y,n,z,B,C,D,F,G⟩:=q.ex;have:n=l:=by exact(QI λS T f=>V.ref.inj f).mp (aC.L.inj (dP (F.symm.trans m:j (aC.L (n.map V.ref))=j (aC.L (l.map V.ref)))):n.map V.ref=l.map V.ref)
  subst this;refine⟨d.told.db k (λb f=>by rw[f];exact d.mX (e,g) b8) (cU (d.mY m λI=>⋯)) (cU (d.lW m λI=>⋯)) (ct d.run m ⋯),d.eB,by rw[aH (ct d.run m ⋯)];exact d.run,by rw[aH (cU (d.B_ (e,g) b8:g≠A.fj))];exact d.e8,.cons ⟨⟨s,x,y,n++[b],k.at_ z a,B,C,D.db k,by rw[cS];exact aw,(G.aG λ_ _ J=>J.db k).snoc (p.db k)⟩,by rw[b4,fS];exact hw⟩ (nY k r (λK M f=>o.2.1 (cx.mpr ⟨K,M,f⟩))),d.bg.db k (λN O Q R f=>d.bg.apart N O Q R (by rw[f];exact cv _ b8)) d.bg.apart,d.nd,d.mV,d.lV,d.k5,d.mW,d.mX⟩
def dc.UW(b:dc P w cw c A h a6 v st cn):wx P w c A v.flows:=b.told.iR
def UX{bH:em}(d:mZ v ar=j (u,bH)):bH.flows=v.flows/\bH.calls=v.calls/\bH.steps=v.steps:=by obtain⟨b,c,e,f⟩:=ar;cases b<;>dsimp only[mZ]at d<;>(repeat' split at d)<;>first|(cases d;exact⟨rfl,rfl,rfl⟩)|cases d
inductive m0(P:cN)(w:cr)(b:dp->Prop)(G:List V)(c:z)(d:aW)(B:bn):Prop|mk:∀(A:h4) (e g:t) (cw:z) (h:a0) (a6:Nat->t) (v:em) (ar:dp) (st:List dp) (cn:List (t×t)),G=[.ref A.s,.ref e]->dc P w cw c A h a6 v (ar::st) ((e,g)::cn)->b ar->v.flows.length<=300->v.calls.length<=300->v.steps<=300->st.length<=300->(∀f∈st,f.ca.length<e7 f.i)->B1 P w cw A h (d .aL) (B (.ref oR) E) (Y.gl h v ar st)->m0 P w b G c d B
abbrev wM:be:=b3 78
def JO:b2 ["run","started","value"] Zn (bo wM):=⟨a,a,a,∅,a,∅,∅⟩
def UY(F:bO K "finish" "finish" wM f ai)(T:cT K mg)(c:h6 K mg)(e:bI P w K mg base (bh P w K mg) 3 "give" Zn (tG P w λ_ _=>True)):bd P w K mg base (bh P w K mg) 4 f ai Zn (m0 P w λar=>ar.ca.length=e7 ar.i):=by
 refine F.okE JO (λaL aM aN B d=>?_) (λaP W bk aQ aM aL aN B X d=>?_);obtain⟨W,v,Y,Z,aa,ad,af,ar,st,y,rfl,_⟩:=d;rfl;obtain⟨b,v,Y,Z,aa,ad,af,ar,st,y,rfl,aR,ah,bl,bn,bp,br,aT,m⟩:=d;obtain⟨bs,aW⟩:=T.lE;have aX:(W.deeper (f3 "finish" (bo wM) aQ.heap.objs.size f aP)).units+2<e0:=by have:=X.units;omega
 refine⟨_,ay (bZ (k:=2) JO.nd a (aU a) (bP (B:=B) e X a (dF (λ_ _ _ d=>d)) (I (x 0) (I (x 1) ae)))) (ay (Se aX (a1 (x 0) a) (cP (I (cP (I (bQ a aW (u:=.int 0) ⟨_,a⟩) (I (a1 (x 1) a) ae))) (I (a1 (x 2) a) ae))) of a) (ay (c' (M_ fK Ng PySem.F.type_list_pop Nf (a1 (x 0) a))) (aA (cp (b7 nr (en fE a T.eP e3 (I (a1 (x 0) a) ae)) bt (cf _)) (aA (c' (fF fK hT iq hS (a1 (bU cj (a1 (x 0) a) (np nq bt) (λ_ _=>rfl)) a) (I (x 2) ae)))) cO)))),?_⟩;rw[UC ah]at m;refine⟨_,a,_,a,b,v,Y,Z,aa,ad,af,ar,st,y,a,aR,d5,ah,λu h aj p z G J ak=>?_,λaY p aZ=>?_⟩
 ·rw[aj]at m;obtain⟨al,bu,bx⟩:=UX aj;cases J.ar with
  |cons a0 bA=>
  obtain⟨a2,bB,bD,bF,a3,bH,bJ,bL,bN,bR⟩:=a0.ex;obtain⟨a6,r,a7,⟨bS,a8,a9⟩,bT⟩:=id ak;cases a8;refine⟨_,a,b.s,di,b.a4,_,_,a,J.run,c.fd,c.fQ,a,_,a,v,dY,a2,_,_,a,a3,c.fc,c.nZ,a,YT,λe p6=>?_⟩;have ao:=Q.fresh (q:=aC.aF [.int 0,.int (aS ar.i:Nat)]) p6;refine⟨_,a,G,jA,a6,_,_,a,ao _ _ a7,c.rN,c.wy,a,YT,λl kE=>?_⟩;have ap:=Q.fresh (q:=aC.aF [.ref e,.ref r]) kE;have M:=ao.trans ap;have ii:=J.same M;obtain⟨n,A,av,ax⟩:=ii.UW;have az:jx (U (U p e (.aF [.int 0,.int (aS ar.i:Nat)])) l (.aF [.ref e,.ref r])) (jE ⟨.node (aS ar.i),fV h.heap u⟩) l:=
   ⟨[e,r],.inl aw,.cons (.inl (ap _ _ aw)) (.cons (a9.same M) .nil)⟩
  have bV:n.length<=300:=by
   have a_:n.length=(gW n).length:=by delta gW;rw[aV]
   rw[a_,ax,aV];delta mT;have:=wL _ (h.flows.map λi=>(⟨.node i.label,i.abs⟩:dr)) (bC _);rw[aV,al]at this;rw[al];omega
  refine⟨b.ai,l,n,_,a,a,a,A,⟨.inl A,av⟩,az,c1 (by omega),?_⟩;dsimp only[jN];have C:=ii.UT (i:=⟨aS ar.i,ar.ctx,fV h.heap u⟩) A av ax az;have aB:gC (U (U (U p e (.aF [.int 0,.int (aS ar.i:Nat)])) l (.aF [.ref e,.ref r])) b.ai (fv P w b.ai (putN n (jE ⟨.node (aS ar.i),fV h.heap u⟩) l))) z h.heap u G:=(ak.db (KM.same M)).db (KM.bK A a);generalize U (U (U p e (.aF [.int 0,.int (aS ar.i:Nat)])) l (.aF [.ref e,.ref r])) b.ai (fv P w b.ai (putN n (jE ⟨.node (aS ar.i),fV h.heap u⟩) l))=aE at C aB;have D:=C.e8;rw[bz,B']at D;refine⟨_,a,b.s,di,b.a4,_,_,a,C.run,c.fd,c.qa,a,.inl ⟨a,_,an.au D⟩,b.fj,_,.ref v,a,a,D,?_,?_⟩;simp;rw[List.dropLast_concat];have g:=C.UU;have aG:gC (U aE b.fj (.L ((y.map λN=>V.ref N.1).reverse))) z h.heap u G:=aB.db (KM.bK D a);generalize U aE b.fj (.L ((y.map λN=>V.ref N.1).reverse))=ba at g aG;refine⟨_,a,b.s,di,b.a4,_,_,a,g.run,c.fd,c.qa,a,b.fj,_,a,.inl (an.au g.e8),_,_,a,a,_,a,?_⟩;rw[JB,aV];cases g.ar with
  |nil=>rw[show decide ((0:Int)<((([]:List (t×t)).length:Nat):Int))=am from rfl];exact cq (m ba z [] g)
  | @cons O bb bW aH bc bX=>
   obtain⟨R,aI⟩:=bb;obtain⟨bf,bY,b0,b1,bg,b2,b3,b6,S,bi⟩:=bc.ex;have bj:=aT O b8;have aK:=g.e8;rw[bz,B']at aK;rw[show decide ((0:Int)<((((R,aI)::aH).length:Nat):Int))=H from bw (by rw[cy];omega)];refine cm ⟨_,a,b.s,di,b.a4,_,_,a,g.run,c.fd,c.qa,a,_,a,b.fj,_,_,_,a,a,an.au aK,Cd (o:=aH.length) (u:=.ref R) (by simp) (by rw[pr (by simp)];simp),?_⟩;refine⟨R,dY,bf,_,_,a,bg,c.fc,c.k6,a,.inl ⟨a,_,an.au S⟩,_,a,aI,_,_,a,a,S,?_,m _ z _ (g.UV S aG bj)⟩;rw[aV,<-bi.length];have:e7 O.i<=3:=by cases O.i<;>simp[e7]
   exact c1 (by omega)
 rw[aY]at m;exact m p aZ
def UZ(h i:a0):((pn h i).kind="call"↔∃n e b,i= .app n e b)/\((pn h i).kind="let"↔∃n D e b,i= .letE n D e b)/\((pn h i).kind="if"↔∃n y e b,i= .ifz n y e b):=by
 have c:∀{e b:Str},e≠b->(e=b↔False):=λd=>⟨λf=>d f,λf=>f.elim⟩;cases i with
 |var n D=>
  show((hh (dH h n)).kind=_↔_)/\((hh (dH h n)).kind=_↔_)/\((hh (dH h n)).kind=_↔_);cases dH h n with
  |none=>change(("in":Str)="call"↔_)/\(("in":Str)="let"↔_)/\(("in":Str)="if"↔_);refine⟨?_,?_,?_⟩<;>exact(c ∅).trans (by simp)
  |some b=>change(("name":Str)="call"↔_)/\(("name":Str)="let"↔_)/\(("name":Str)="if"↔_);refine⟨?_,?_,?_⟩<;>exact(c ∅).trans (by simp)
 |num n g=>change(("number":Str)="call"↔_)/\(("number":Str)="let"↔_)/\(("number":Str)="if"↔_);refine⟨?_,?_,?_⟩<;>exact(c ∅).trans (by simp)
 |fn n D b=>change(("fun":Str)="call"↔_)/\(("fun":Str)="let"↔_)/\(("fun":Str)="if"↔_);refine⟨?_,?_,?_⟩<;>exact(c ∅).trans (by simp)
 |app n e b=>change(("call":Str)="call"↔_)/\(("call":Str)="let"↔_)/\(("call":Str)="if"↔_);refine⟨⟨λ_=>⟨n,e,b,a⟩,λ_=>rfl⟩,?_,?_⟩<;>exact(c ∅).trans (by simp)
 |letE n D e b=>change(("let":Str)="call"↔_)/\(("let":Str)="let"↔_)/\(("let":Str)="if"↔_);refine⟨?_,⟨λ_=>⟨n,D,e,b,a⟩,λ_=>rfl⟩,?_⟩<;>exact(c ∅).trans (by simp)
 |ifz n y e b=>change(("if":Str)="call"↔_)/\(("if":Str)="let"↔_)/\(("if":Str)="if"↔_);refine⟨?_,?_,⟨λ_=>⟨n,y,e,b,a⟩,λ_=>rfl⟩⟩<;>exact(c ∅).trans (by simp)
 |pair n e b=>change(("pair":Str)="call"↔_)/\(("pair":Str)="let"↔_)/\(("pair":Str)="if"↔_);refine⟨?_,?_,?_⟩<;>exact(c ∅).trans (by simp)
 |fst n e=>change(("fst":Str)="call"↔_)/\(("fst":Str)="let"↔_)/\(("fst":Str)="if"↔_);refine⟨?_,?_,?_⟩<;>exact(c ∅).trans (by simp)
 |snd n e=>change(("snd":Str)="call"↔_)/\(("snd":Str)="let"↔_)/\(("snd":Str)="if"↔_);refine⟨?_,?_,?_⟩<;>exact(c ∅).trans (by simp)
 |new n e=>change(("new":Str)="call"↔_)/\(("new":Str)="let"↔_)/\(("new":Str)="if"↔_);refine⟨?_,?_,?_⟩<;>exact(c ∅).trans (by simp)
 |get n e=>change(("get":Str)="call"↔_)/\(("get":Str)="let"↔_)/\(("get":Str)="if"↔_);refine⟨?_,?_,?_⟩<;>exact(c ∅).trans (by simp)
 |set n e b=>change(("set":Str)="call"↔_)/\(("set":Str)="let"↔_)/\(("set":Str)="if"↔_);refine⟨?_,?_,?_⟩<;>exact(c ∅).trans (by simp)
 |add n e b=>change(("add":Str)="call"↔_)/\(("add":Str)="let"↔_)/\(("add":Str)="if"↔_);refine⟨?_,?_,?_⟩<;>exact(c ∅).trans (by simp)
def JP:a0->Nat->Prop
 | .app _ _ _,2=>True
 | .letE _ _ _ _,1=>True
 | .ifz _ _ _ _,1=>True
 |_,_=>False
def U0(m:Y.cY h)(g:dN h l ar.i)(hw:ar.ca.length<e7 ar.i)(n:¬JP ar.i ar.ca.length):
  ∃y,(pn h ar.i).parts[ar.ca.length]?=j (aS y)/\dN h l y/\Y.gl h v ar st=Y.eL v (ar::st) y ar.ctx ar.env:=by
 obtain⟨q,r,s,e⟩:=ar;dsimp only at g hw n|-;have u:∀{b k:a0},e.length<2->e.length=0\/e.length=1:=λ{_ _} d=>by omega
 cases q with
 |num f w=>exact aq hw (s4 _)
 |var f p=>exact aq hw (s4 _)
 |fn f p k=>exact aq hw (s4 _)
 |app f b k=>
  obtain⟨c,o⟩:=g.ll m a a a
  match e,hw,n with
  |[],_,_=>exact⟨b,a,c,a⟩
  |[_],_,_=>exact⟨k,a,o,a⟩
  |[_,_],_,n=>exact aq d5 n
  |_::_::_::_,hw,_=>exact aq hw (by simp[e7])
 |letE f p b k=>
  obtain⟨c,o⟩:=g.vH m
  match e,hw,n with
  |[],_,_=>exact⟨b,a,c,a⟩
  |[_],_,n=>exact aq d5 n
  |_::_::_,hw,_=>exact aq hw (by simp[e7])
 |ifz f y b k=>
  obtain⟨c,o,x⟩:=g.s1 m
  match e,hw,n with
  |[],_,_=>exact⟨y,a,c,a⟩
  |[_],_,n=>exact aq d5 n
  |_::_::_,hw,_=>exact aq hw (by simp[e7])
 |pair f b k=>
  obtain⟨c,o⟩:=g.ll m a a a
  match e,hw with
  |[],_=>exact⟨b,a,c,a⟩
  |[_],_=>exact⟨k,a,o,a⟩
  |_::_::_,hw=>exact aq hw (by simp[e7])
 |set f b k=>
  obtain⟨c,o⟩:=g.ll m a a a
  match e,hw with
  |[],_=>exact⟨b,a,c,a⟩
  |[_],_=>exact⟨k,a,o,a⟩
  |_::_::_,hw=>exact aq hw (by simp[e7])
 |add f b k=>
  obtain⟨c,o⟩:=g.ll m a a a
  match e,hw with
  |[],_=>exact⟨b,a,c,a⟩
  |[_],_=>exact⟨k,a,o,a⟩
  |_::_::_,hw=>exact aq hw (by simp[e7])
 |fst f b=>
  have c:=g.i' m a a a
  match e,hw with
  |[],_=>exact⟨b,a,c,a⟩
  |_::_,hw=>exact aq hw (by simp[e7])
 |snd f b=>
  have c:=g.i' m a a a
  match e,hw with
  |[],_=>exact⟨b,a,c,a⟩
  |_::_,hw=>exact aq hw (by simp[e7])
 |new f b=>
  have c:=g.i' m a a a
  match e,hw with
  |[],_=>exact⟨b,a,c,a⟩
  |_::_,hw=>exact aq hw (by simp[e7])
 |get f b=>
  match e,hw with
  |[],_=>exact⟨b,a,(g.i' m a a a),a⟩
  |_::_,hw=>exact aq hw (by simp[e7])
def jC.bind{m:t}{aB:List (bY×V)}{r:Nat}{D:nX}(v:aB.length<=l.length)(k:∀(af:Nat) (f:nX×Nat) (b:Jv),l[af]?=j f->env[af]?=j b->∃e,cg aB (gm ((f.2:Nat):Int))=j (.ref e)/\gC c a6 d b.value e)(h:Q c O)(n:O m=j (.cH (ey aB (gm ((r:Nat):Int)) (.ref e))))(o:gC c a6 d u e)(low:∀f∈l,f.2<r):jC O a6 d m ((D,r)::l) (⟨D,u⟩::env):=by
 refine⟨_,n,?_,λaf f b g i=>?_⟩;have:=sF aB (gm ((r:Nat):Int)) (.ref e);rw[cy];omega;cases af with
 |zero=>cases g;cases i;exact⟨e,by rw[sE,as a],o.db (KM.same h)⟩
 |succ af=>obtain⟨p,q,s⟩:=k af f b (by simpa using g) (by simpa using i);refine⟨p,?_,s.db (KM.same h)⟩;rw[sE,ag λD=>(gL (low f (ev (by simpa using g))):f.2≠r) (by have:=Dg D;omega)];exact q
def U1{n:List i2}{i:i2}:ey (iC n) (iB i) (V.bl H)=iC (if i∈n then n else n++[i]):=by
 have c:((iC n).any λe=>decide (e.1=iB i))=decide (i∈n):=by
  rw[List.any_map];by_cases b:i∈n;rw[bw b];exact C4.mpr ⟨i,b,by simp⟩;rw[bq b];exact Mf.mpr λf g=>by simp only[U2,l2];intro d;exact b (by rw[<-JN d];exact g)
 delta ey;rw[c];by_cases b:i∈n;rw[as (bw b),as b,fU];apply nc;intro f _;simp only[U2];split<;>rfl;rw[ag (by rw[bq b];exact dA),ag b];delta iC;rw[cS];rfl
def dc.U3(b:dc P w cw c A h a6 v st cn)(y:BZ):
  dc P w cw (U c A.ad (.cI (ey (iC (i1 v.calls)) (iB ⟨y.site,y.fn⟩) (V.bl H)))) A h a6 {v with calls:=h9 v.calls y} st cn:=by
 have f:KM (λg=>g=A.ad) c (U c A.ad (.cI (ey (iC (i1 v.calls)) (iB ⟨y.site,y.fn⟩) (V.bl H)))):=KM.bK b.told.k4 a;obtain⟨n,l,o,p⟩:=b.told.iR;refine⟨⟨λg i m=>?_,⟨n,?_,λq r=>f.BX (o q r),p⟩,?_,⟨_,by rw[aH (b.lW b.run λe=>⋯)];exact b.run⟩⟩,b.eB,?_,?_,nY f b.ar λs u=>?_,b.bg.db f (λx i z B=>?_) b.bg.apart,b.nd,b.mV,b.lV,b.k5,b.mW,b.mX⟩;rw[aH (ew m b.mW)];exact b.told.same g i m;rw[aH (ct l b.told.k4 ⋯)];exact l;rw[aw,U1];show _=j (aC.cI (iC (i1 (h9 v.calls y))));rw[UR];rw[aH (b.lW b.run λe=>⋯)];exact b.run;rw[aH (b.lW b.e8 λe=>⋯)];exact b.e8;obtain⟨C,k⟩:=rP b.ar s u;exact b.lW k λe=>⋯;obtain⟨C,k⟩:=(b.bg.obj x i z).L B;exact b.lW k λe=>⋯
abbrev wN:be:=b3 80
abbrev Cg:be:=b3 79
abbrev wO:be:=b3 77
def Ch:b2 ["run","started","scope","made"] Zn (bo wN):=⟨a,a,a,∅,a,∅,∅⟩
def U4(F:bO K "come_to_body" "come_to_body" wN f ai)(T:cT K mg)(h:h6 K mg)(p:bI P w K mg base (bh P w K mg) 1 "held_by" Ze qb)(a0:bI P w K mg base (bh P w K mg) 3 "come_to" Y' (rO P w))(a2:bI P w K mg base a7 1 "bind" Y2 wB):
  bd P w K mg base (bh P w K mg) 4 f ai Zn (m0 P w λar=>(∃n g e,ar.i= .app n g e)/\ar.ca.length=2):=by
 refine F.okE Ch (λa3 r a6 B d=>?_) (λa8 az b_ a9 r a3 a6 B J d=>?_);obtain⟨az,e,A,aB,y,C,c,ar,st,aE,rfl,_⟩:=d;rfl;obtain⟨l,e,A,aB,y,C,c,ar,st,aE,rfl,m,⟨⟨n,g,o,ah⟩,a_⟩,b',cc,ba,cd,cf,L⟩:=d;obtain⟨ci,bb⟩:=T.vt;have bc:(az.deeper (f3 "come_to_body" (bo wN) a9.heap.objs.size f a8)).units+1<e0:=by have:=J.units;omega
 refine⟨_,ay (bZ (k:=2) Ch.nd a (aU a) (bP (B:=B) p (J.aG nofun) a (dF (λ_ _ _ d=>d)) (I (bU cj (a1 (x 1) a) bt (λ_ _=>rfl)) (I (bQ a bb (u:=.int 1) ⟨_,a⟩) ae)))) (ay (bZ (k:=3) Ch.nd a (aU a) (bU ji (a1 (bU cj (a1 (x 1) a) bt (λ_ _=>rfl)) a) bt (λ_ _=>rfl))) (ay (ml bc (a1 (x 0) a) (cP (I (a1 (x 1) a) (I (x 3) ae))) of a) (aA (c' (bP (B:=B) a0 J a (dF (λ_ _ _ d=>d)) (I (x 0) (I (bU cj (a1 (bU cj (a1 (x 0) a) (x 3) (λ_ _=>rfl)) a) bt (λ_ _=>rfl)) (I (bP (B:=b9) a2 (J.aG nofun) a bN (I (x 2) (I (x 3) (I (bU cj (a1 (x 1) a) bt (λ_ _=>rfl)) ae)))) ae)))))))),?_⟩;cases m.ar with
 |cons bf cl=>
 obtain⟨M,cm,cn,co,N,cp,cq,ct,O,aH⟩:=bf.ex;obtain⟨u,aI,aj⟩:=lX a_;rw[aj]at aH;cases aH with
 | @cons _ aK _ cu aL bi=>
 cases bi with
 | @cons _ cw _ cA bj bk=>
 cases bk;refine⟨_,a,e,dY,M,_,_,a,N,h.fc,h.k6,a,A,_,_,_,a,a,an.au O,dj (af:=0) a,aK,1,C,c.heap,u,a,aL,λak=>?_,λak=>?_⟩;obtain⟨k,rfl⟩:=JH.mp ak;obtain⟨bn,aM,bp,⟨cB,br,R⟩,bs⟩:=id aL;cases br;obtain⟨b,S,al⟩:=UG bs;obtain⟨ao,W,ap,D,bu,X,bx,bB,bD⟩:=m.bg.obj k _ al;have bF:fV c.heap (.clo k)= .fn b:=by show zI (mS c.heap k)=_;unfold mS;rw[al];rfl
 rw[bF]at R;have R:bA r aM (.aF [.int 1,.int (b:Nat)]):=R;refine⟨_,a,e,dY,M,_,_,a,N,h.fc,h.k6,a,A,_,_,_,a,a,an.au O,dj (af:=0) a,aK,jA,bn,_,_,a,bp,h.rN,h.wy,a,aM,_,_,_,a,a,.inl R,dj (af:=1) a,?_⟩;refine⟨_,a,l.s,di,l.a4,_,_,a,m.run,h.fd,h.nH,a,_,a,e,dY,M,_,_,a,N,h.fc,h.nZ,a,_,a,YT,λp p6=>?_⟩;have v:=Q.fresh (q:=aC.aF [.int (aS ar.i:Nat),.int (b:Nat)]) p6;have Z:=m.same v;have cC:(iC (i1 c.calls)).length<=300:=by delta iC i1;rw[aV];have:=wL _ (c.calls.map λaa=>(⟨aa.site,aa.fn⟩:i2)) (bC _);rw[aV]at this;omega
 refine⟨l.ad,_,a,.inr ⟨iC (i1 c.calls),iB ⟨aS ar.i,b⟩,p,Z.told.k4,a,.inl aw,c1 (by omega),a⟩,?_⟩;have ii:=Z.U3 ⟨aS ar.i,b,ar.ctx⟩;have G:KM (λo=>o=l.ad) (U r p (.aF [.int (aS ar.i:Nat),.int (b:Nat)])) (U (U r p (.aF [.int (aS ar.i:Nat),.int (b:Nat)])) l.ad (.cI (ey (iC (i1 c.calls)) (iB ⟨aS ar.i,b⟩) (V.bl H)))):=KM.bK Z.told.k4 a;have aN:=G.at_ (v _ _ N) a;have aP:=G.keep _ _ (v _ _ O) (Z.lW (v _ _ O) λf=>⋯);have aQ:=G.at_ (v _ _ bx) a;have aR:=(bj.db (KM.same v)).db G;have aT:∀(af:Nat) (z:nX×Nat) (o:Jv),ao[af]?=j z->S[af]?=j o->∃e,cg X (gm ((z.2:Nat):Int))=j (V.ref e)/\gC (U (U r p (.aF [.int (aS ar.i:Nat),.int (b:Nat)])) l.ad (.cI (ey (iC (i1 c.calls)) (iB ⟨aS ar.i,b⟩) (V.bl H)))) C c.heap o.value e:=λaf z o av bH=>let⟨aa,bJ,bL⟩:=bD af z o av bH;⟨aa,bJ,(bL.db (KM.same v)).db G⟩
 generalize U (U r p (.aF [.int (aS ar.i:Nat),.int (b:Nat)])) l.ad (.cI (ey (iC (i1 c.calls)) (iB ⟨aS ar.i,b⟩) (V.bl H)))=cD at ii aN aP aQ aR aT;have aW:=jq (D.at_ m.eB.dn.ck);obtain⟨bR,bS,cE,bT⟩:=ii.eB.eX.same ii.told.same;obtain⟨aX,aY,bV,bW,bX,bY,cF,cG,b0,b1⟩:=bT _ _ aW;change bR[b]?=j aX at aY;have cH:b<30:=by have av:=(es.mp aW).1;exact gK av ((jV m.eB.dn).len)
 have b2:X.length<=100:=by have:=D.len;show X.length<=100;have cJ:ao.length<=b:=this;omega
 refine⟨_,a,_,a,l.s,di,l.a4,_,_,a,ii.run,h.fd,h.hY,a,_,a,l.cs,_,_,_,a,a,an.au bS,dj (by rw[d2,aY];rfl),aX,cW,bV,bX,_,a,bY,T.dB,T.lD,b0,bW,_,_,_,a,a,an.au b1,dj (af:=0) a,?_⟩;refine⟨_,a,_,a,_,a,e,dY,M,_,_,a,aN,h.fc,h.k6,a,A,_,_,_,a,a,an.au aP,dj (af:=1) a,C k,_,_,X,a,aQ,b2,λcK b3 aZ cL b6=>?_⟩;refine⟨l,b3,aB,y,ap,C,_,ar::st,(e,A)::aE,(W,b)::ao,⟨W,aI⟩::S,(n::ar.ctx).take Db,a,(ii.same aZ),by rw[cy];omega,ba,D.fn m.eB.dn.ck,bu.cons,jC.bind bB aT aZ b6 aR D.low,?_⟩;have ax:Y.gl y c ar st=Y.eL {c with calls:=h9 c.calls ⟨n,b,ar.ctx⟩} (ar::st) ap ((n::ar.ctx).take Db) (⟨W,aI⟩::S):=by unfold Y.gl;rw[ah,aj];show(match c.heap[k]? with|some (.clo b S)=>_|_=>_)=_;rw[al];show(match xh y b with|some (.fn _ cO o)=>_|_=>_)=_;rw[m.eB.dn.ck.nodeAt,show(aO y)[b]?=j (.fn b W ap)from D.at_ m.eB.dn.ck]
 rw[ax]at L;have b7:aS ar.i=n:=by rw[ah];rfl
 rw[b7];exact L;have ax:Y.gl y c ar st= .cM c:=by
  rw[step_at ah aj];cases u with
  |clo k=>exact aq (JH.mpr ⟨k,a⟩) ak
  |_=>rfl
 rw[ax]at L;exact L r m.told
def wP:b2 ["run","started","node","turn","chosen"] Zn (bo Cg):=⟨a,a,a,∅,a,∅,∅⟩
def U5(F:bO K "come_to_next" "come_to_next" Cg f ai)(T:cT K mg)(ba:hl K mg)(b:h6 K mg)(bk:bI P w K mg base (bh P w K mg) 1 "held_by" Ze qb)(aM:bI P w K mg base (bh P w K mg) 3 "come_to" Y' (rO P w))(bl:bI P w K mg base a7 1 "bind" Y2 wB)(bn:bI P w K mg base (bh P w K mg) 4 "come_to_body" Zn (m0 P w λar=>(∃n g e,ar.i= .app n g e)/\ar.ca.length=2)):bd P w K mg base (bh P w K mg) 5 f ai Zn (m0 P w λar=>ar.ca.length<e7 ar.i):=by
 refine F.okE wP (λbo W bp B d=>?_) (λcc br cd cg W bo bp B aN d=>?_);obtain⟨br,e,q,M,c,y,v,ar,st,N,rfl,_⟩:=d;rfl;obtain⟨A,e,q,M,c,y,v,ar,st,N,rfl,m,bs,bu,bx,X,bA,bB,p⟩:=d;obtain⟨ci,bD⟩:=ba.AV;have aP:cV 3 _:=aN.aG nofun;have a9:cV 1 _:=aN.aG nofun;refine⟨_,ay (bZ (k:=2) wP.nd a (aU a) (bU cj (a1 (x 0) a) (a1 (x 1) a) (λ_ _=>rfl))) (ay (bZ (k:=3) wP.nd a (aU a) (en fE a T.eP e3 (I (a1 (x 1) a) ae))) (aA (cp (ht.lq (uj (b7 dL (a1 (x 2) a) c_ (cf _)) (ui (b7 dL (x 3) bt (cf _))))) (aA (c' (bP (B:=B) bn aN a (dF (λ_ _ _ d=>d)) (I (x 0) (I (x 1) ae))))) (aA (cp (ht.lq (uj (b7 dL (a1 (x 2) a) c_ (cf _)) (ui (b7 dL (x 3) bt (cf _))))) (aA (c' (bP (B:=B) aM aP a (dF (λ_ _ _ d=>d)) (I (x 0) (I (bU cj (a1 (x 2) a) bt (λ_ _=>rfl)) (I (bP (B:=b9) bl a9 a bN (I (a1 (x 1) a) (I (a1 (x 1) a) (I (bU cj (a1 (x 1) a) bt (λ_ _=>rfl)) ae)))) ae)))))) (aA (cp (ht.lq (uj (b7 dL (a1 (x 2) a) c_ (cf _)) (ui (b7 dL (x 3) bt (cf _))))) (ay (bZ (k:=4) wP.nd a (aU a) (xQ (b7 dL (bP (B:=B) bk a9 a (dF (λ_ _ _ d=>d)) (I (bU cj (a1 (x 1) a) bt (λ_ _=>rfl)) (I (bQ a bD (u:=.int 0) ⟨_,a⟩) ae))) bt (cf _)) bt bt)) (aA (c' (bP (B:=B) aM aP a (dF (λ_ _ _ d=>d)) (I (x 0) (I (bU cj (a1 (x 2) a) (x 4) (λ_ _=>rfl)) (I (a1 (x 1) a) ae))))))) (aA (c' (bP (B:=B) aM aP a (dF (λ_ _ _ d=>d)) (I (x 0) (I (bU cj (a1 (x 2) a) (x 3) (λ_ _=>rfl)) (I (a1 (x 1) a) ae))))))))))))),?_⟩;cases m.ar with
 |cons bF cl=>
 obtain⟨C,ao,O,bH,D,Z,ap,av,aQ,aa⟩:=bF.ex;have ad:=m.eB.dn.ck;have a_:=jq (Z.at_ ad);obtain⟨cn,bJ,co,bK⟩:=m.eB.eX.same m.told.same;obtain⟨Q,bL,ah,aw,aj,ak,bR,ct,ax,az⟩:=bK _ _ a_;obtain⟨aB,aC,aE⟩:=UZ c ar.i;have bS:(bH.map V.ref).length=ar.ca.length:=by rw[aV];exact aa.length.symm
 refine⟨_,a,A.s,di,A.a4,_,_,a,m.run,b.fd,b.hY,a,_,a,e,dY,C,_,_,a,D,b.fc,b.nZ,a,A.cs,_,_,_,a,a,an.au bJ,dj (by rw[d2,bL];rfl),?_⟩;refine⟨_,a,e,dY,C,_,_,a,D,b.fc,b.k6,a,q,_,a,.inl (an.au aQ),?_⟩;rw[bS];have bT:∀{r:Nat},decide (V.int (ar.ca.length:Nat)=V.int (r:Nat))=decide (ar.ca.length=r):=λ{r}=>by by_cases h:ar.ca.length=r;rw[bw h,h];exact bw a;rw[bq h];exact bq λl=>h (by have:=V.int.inj l;omega)
 have aR:∀{r:Str} {o:Nat} {aT aW:z->Prop},(((pn c ar.i).kind=r/\ar.ca.length=o)->aT W)->(¬((pn c ar.i).kind=r/\ar.ca.length=o)->aW W)->Dv (ol (hx gf (nt K (cD 2) "kind") (ff (.str r)))) (ol (hx gf (cD 3) (ff (.int (o:Nat))))) [j (.ref A.s),j (.ref e),j (.ref Q),j (.int (ar.ca.length:Nat)),E] W (λR bb=>if R=H then aT bb else aW bb):=λ{r o aT aW} bc aX=>by refine⟨_,a,Q,cW,ah,aj,_,a,ak,T.dB,T.fh,bR,a,_,a,?_⟩;dsimp only;rw[(λ{r}=>by simp:∀{r:Str},decide (V.str (pn c ar.i).kind=V.str r)=decide ((pn c ar.i).kind=r))];by_cases h:(pn c ar.i).kind=r;rw[bw h];refine cm ⟨_,a,a,_,a,?_⟩;rw[bT];by_cases l:ar.ca.length=o;rw[bw l];exact cm (bc ⟨h,l⟩);rw[bq l];exact cq (aX λaY=>l aY.2);rw[bq h];exact cq (cq (aX λaY=>h aY.1))
 have aF:(ar::st).length<=400:=by rw[cy];omega
 refine aR (r:="call") (o:=2) (λh=>?_) (λaZ=>?_);exact⟨_,a,_,a,A,e,q,M,c,y,v,ar,st,N,a,m,⟨aB.mp h.1,h.2⟩,bu,bx,X,bA,bB,p⟩;refine aR (r:="let") (o:=1) (λh=>?_) (λa0=>?_)
 ·obtain⟨n,l,J,R,G⟩:=aC.mp h.1;obtain⟨u,S⟩:=kL h.2;rw[S]at aa;cases aa with
  | @cons _ bf _ bV a2 a3=>
  cases a3;obtain⟨bg,bW,bX,bY⟩:=av;have al:dN c O (.letE n l J R):=by rw[<-G];exact Z
  have b0:aS ar.i=n:=by rw[G];rfl
  have b1:bg.length<=100:=by have bc:=(es.mp a_).1;have aX:=(jV m.eB.dn).len;have cu:=Z.len;omega
  have aH:(pn c ar.i).parts=[aS J,aS R]:=by rw[G];rfl
  refine⟨_,a,_,a,Q,cW,ah,aj,_,a,ak,T.dB,T.lD,ax,aw,_,_,_,a,a,an.au az,(by rw[aH];exact dj (af:=1) a),?_⟩;refine⟨_,a,e,dY,C,_,_,a,D,b.fc,b.p',a,_,a,e,dY,C,_,_,a,D,b.fc,b.nZ,a,_,a,e,dY,C,_,_,a,D,b.fc,b.k6,a,q,_,_,_,a,a,an.au aQ,dj (af:=0) a,ao,_,_,bg,a,bW,b1,λcw b2 bi cA bj=>?_⟩;rw[b0]at bj;refine⟨A,b2,M,c,R,y,v,ar::st,(e,q)::N,(l,n)::O,⟨l,u⟩::ar.env,ar.ctx,a,m.same bi,aF,X,(al.vH ad).2,ap.cons,jC.bind bX bY bi bj a2 al.low,?_⟩;have L:Y.gl c v ar st=Y.eL v (ar::st) R ar.ctx (⟨l,u⟩::ar.env):=by unfold Y.gl;rw[G,S]
  rw[L]at p;exact p
 refine aR (r:="if") (o:=1) (λh=>?_) (λa6=>?_)
 ·obtain⟨n,aI,aK,J,G⟩:=aE.mp h.1;obtain⟨u,S⟩:=kL h.2;rw[S]at aa;cases aa with
  | @cons _ bf _ bV a2 a3=>
  cases a3;have al:dN c O (.ifz n aI aK J):=by rw[<-G];exact Z
  have aH:(pn c ar.i).parts=[aS aI,aS aK,aS J]:=by rw[G];rfl
  refine⟨_,a,e,dY,C,_,_,a,D,b.fc,b.k6,a,q,_,_,_,a,a,an.au aQ,dj (af:=0) a,bf,0,y,v.heap,u,a,a2,λa8=>?_,λa8=>?_⟩;obtain⟨o,rfl⟩:=wD.mp a8;have L:Y.gl c v ar st=Y.eL v (ar::st) (if o=0 then aK else J) ar.ctx ar.env:=by unfold Y.gl;rw[G,S]
  rw[L]at p;refine⟨a,_,a,?_⟩;dsimp only;by_cases aL:o=0;rw[as aL]at p;rw[show decide (p_ y (.num o)=V.int 0)=H from bw (by show V.int (o:Nat)=_;rw[aL];rfl)];exact cm ⟨_,a,_,a,Q,cW,ah,aj,_,a,ak,T.dB,T.lD,ax,_,a,aw,_,_,_,a,a,an.au az,(by rw[aH];exact dj (af:=1) a),_,a,e,dY,C,_,_,a,D,b.fc,b.p',a,A,ao,M,c,aK,y,v,ar::st,(e,q)::N,O,ar.env,ar.ctx,a,m,aF,X,(al.s1 ad).2.1,ap,av,p⟩;rw[ag aL]at p;rw[show decide (p_ y (.num o)=V.int 0)=am from bq λl=>aL (by have:=V.int.inj l;omega)];exact cq ⟨_,a,_,a,Q,cW,ah,aj,_,a,ak,T.dB,T.lD,ax,_,a,aw,_,_,_,a,a,an.au az,(by rw[aH];exact dj (af:=2) a),_,a,e,dY,C,_,_,a,D,b.fc,b.p',a,A,ao,M,c,J,y,v,ar::st,(e,q)::N,O,ar.env,ar.ctx,a,m,aF,X,(al.s1 ad).2.2,ap,av,p⟩;have L:Y.gl c v ar st= .cM v:=by
   rw[step_at G S];cases u with
   |num k=>exact aq (wD.mpr ⟨k,a⟩) a8
   |_=>rfl
  rw[L]at p;exact p W m.told
 have b3:¬JP ar.i ar.ca.length:=by
  intro U;revert U aZ a0 a6 aB aC aE;cases ar.i<;>intro aB aC aE aZ a0 a6 U<;>first
   |exact U.elim
   |(refine aZ ⟨aB.mpr ⟨_,_,_,rfl⟩,?_⟩;revert U;match ar.ca.length with|2=>exactλ_=>rfl|0=>exactλd=>d.elim|1=>exactλd=>d.elim|o+3=>exactλd=>d.elim)
   |(refine a0 ⟨aC.mpr ⟨_,_,_,_,rfl⟩,?_⟩;revert U;match ar.ca.length with|1=>exactλ_=>rfl|0=>exactλd=>d.elim|o+2=>exactλd=>d.elim)
   |(refine a6 ⟨aE.mpr ⟨_,_,_,_,rfl⟩,?_⟩;revert U;match ar.ca.length with|1=>exactλ_=>rfl|0=>exactλd=>d.elim|o+2=>exactλd=>d.elim)
 obtain⟨aI,b6,b_,L⟩:=U0 (v:=v) (st:=st) ad Z bs b3;rw[L]at p;refine⟨_,rfl,_,rfl,Q,cW,ah,aj,_,rfl,ak,T.dB,T.lD,ax,_,rfl,aw,_,_,_,rfl,rfl,an.au az,?_,_,rfl,e,dY,C,_,_,rfl,D,b.fc,b.p',rfl,A,ao,M,c,aI,y,v,ar::st,(e,q)::N,O,ar.env,ar.ctx,rfl,m,aF,X,b_,ap,av,p⟩;exact dj (by delta b';rw[d2,b6];rfl)
def JQ:b2 ["run","started","kind"] Zn (bo wO):=⟨a,a,a,∅,a,∅,∅⟩
def U6(h i:a0):cg fx (dJ (pn h i).kind)=j (.int (e7 i:Nat)):=by
 cases i with
 |var b e=>
  show cg fx (dJ (hh (dH h b)).kind)=_;cases dH h b with
  |none=>show cg fx (dJ "in")=j (.int 0);decide +kernel
  |some d=>show cg fx (dJ "name")=j (.int 0);decide +kernel
 |num b f=>show cg fx (dJ "number")=j (.int 0);decide +kernel
 |fn b e d=>show cg fx (dJ "fun")=j (.int 0);decide +kernel
 |app b c d=>show cg fx (dJ "call")=j (.int 3);decide +kernel
 |letE b e c d=>show cg fx (dJ "let")=j (.int 2);decide +kernel
 |ifz b g c d=>show cg fx (dJ "if")=j (.int 2);decide +kernel
 |pair b c d=>show cg fx (dJ "pair")=j (.int 2);decide +kernel
 |fst b c=>show cg fx (dJ "fst")=j (.int 1);decide +kernel
 |snd b c=>show cg fx (dJ "snd")=j (.int 1);decide +kernel
 |new b c=>show cg fx (dJ "new")=j (.int 1);decide +kernel
 |get b c=>show cg fx (dJ "get")=j (.int 1);decide +kernel
 |set b c d=>show cg fx (dJ "set")=j (.int 2);decide +kernel
 |add b c d=>show cg fx (dJ "add")=j (.int 2);decide +kernel
def U7(F:bO K "go_on" "go_on" wO f ai)(T:cT K mg)(c:h6 K mg)(M:bI P w K mg base (bh P w K mg) 5 "come_to_next" Zn (m0 P w λar=>ar.ca.length<e7 ar.i))(N:bI P w K mg base (bh P w K mg) 4 "finish" Zn (m0 P w λar=>ar.ca.length=e7 ar.i)):bd P w K mg base (bh P w K mg) 6 f ai Zn (m0 P w λ_=>True):=by
 refine F.okE JQ (λO Q R B d=>?_) (λS r ap U Q O R B m d=>?_);obtain⟨r,e,l,n,g,o,p,ar,st,q,rfl,_⟩:=d;rfl;obtain⟨h,e,l,n,g,o,p,ar,st,q,rfl,b,_,v,y,z,A,C,D⟩:=d;have V:(r.deeper (f3 "go_on" (bo wO) U.heap.objs.size f S)).units+1<e0:=by have:=m.units;omega
 refine⟨_,ay (bZ (k:=2) JQ.nd a (aU a) (a1 (bU cj (a1 (x 0) a) (a1 (x 1) a) (λ_ _=>rfl)) a)) (aA (cp (b7 qI (en fE a T.eP e3 (I (a1 (x 1) a) ae)) (jP V (bQ a c.Up (u:=.ref oW) a) (x 2) (λ_ _=>rfl)) (cf _)) (aA (c' (bP (B:=B) M m a (dF (λ_ _ _ d=>d)) (I (x 0) (I (x 1) ae))))) (aA (c' (bP (B:=B) N (m.aG nofun) a (dF (λ_ _ _ d=>d)) (I (x 0) (I (x 1) ae))))))),?_⟩;cases b.ar with
 |cons G av=>
 obtain⟨J,aw,ax,az,L,W,aB,aC,X,Y⟩:=G.ex;have aE:=G.mm;obtain⟨aF,Z,aH,aa⟩:=b.eB.eX.same b.told.same;obtain⟨ad,af,ah,aI,aj,ak,al,aK,aL,aM⟩:=aa _ _ (jq (W.at_ b.eB.dn.ck));refine⟨_,a,h.s,di,h.a4,_,_,a,b.run,c.fd,c.hY,a,_,a,e,dY,J,_,_,a,L,c.fc,c.nZ,a,h.cs,_,_,_,a,a,an.au Z,dj (by rw[d2,af];rfl),ad,cW,ah,aj,_,a,ak,T.dB,T.fh,al,?_⟩;refine⟨_,a,e,dY,J,_,_,a,L,c.fc,c.k6,a,l,_,a,.inl (an.au X),_,a,oW,_,a,.inl ⟨fx,dJ (pn g ar.i).kind,b.eB.mU.same b.told.same,a,(U6 g ar.i).symm⟩,_,_,a,a,_,a,?_⟩;rw[aV,<-Y.length];by_cases ao:ar.ca.length<e7 ar.i;rw[bw (by omega)];exact cm ⟨_,a,_,a,h,e,l,n,g,o,p,ar,st,q,a,b,ao,v,y,z,A,C,D⟩;rw[bq (by omega)];exact cq ⟨_,a,_,a,h,e,l,n,g,o,p,ar,st,q,a,b,by omega,v,y,z,A,C,D⟩
structure rR (v:em) (st:List dp):Prop where
 df:v.flows.length+st.length<=v.steps
 aR:v.calls.length<=v.steps
 d4:v.steps<=300
 low:∀f∈st.tail,f.ca.length<e7 f.i
def wQ:Y.gI->Prop
 | .run v st=>rR v st
 | .cM _=>True
def Ci[BEq a3](n:List a3)(i:a3):(h9 n i).length<=n.length+1:=by unfold h9;split;omega;rw[b4,fS];omega
def JR{bH:em}{eh:B9}(d:rR v (ar::st))(hw:ar.ca.length<e7 ar.i)(f:bH.flows=v.flows)(k:bH.calls.length<=v.calls.length+1)(g:bH.steps=v.steps):wQ (Y.eL bH (ar::st) i eh env):=by delta Y.eL;have l:=d.df;have m:=d.aR;have n:=d.d4;by_cases b:qz<=bH.steps;rw[as b];exact d5;rw[ag b];have b:¬300<=bH.steps:=b;refine⟨?_,?_,?_,λe h=>?_⟩;show bH.flows.length+(_::ar::st).length<=bH.steps+1;rw[f,g,cy];omega;show bH.calls.length<=bH.steps+1;omega;show bH.steps+1<=300;omega;obtain c|c:=bm.mp (show e∈ar::st from h);rw[c];exact hw;exact d.low e c
def U8(u:hH)(st:List dp):(Y.push u st).length=st.length:=by cases st<;>rfl
def U9(u:hH)(st:List dp):(Y.push u st).tail=st.tail:=by cases st<;>rfl
def U_{bH:em}{b:dp}(d:rR v (ar::st))(f:bH.flows=v.flows)(g:bH.calls=v.calls)(c:bH.steps=v.steps):wQ (Y.bL b u bH st):=by have h:=d.df;rw[cy]at h;refine⟨?_,?_,?_,λk e=>?_⟩;show(h9 bH.flows _).length+(Y.push u st).length<=bH.steps;have:=Ci bH.flows (⟨aS b.i,b.ctx,fV bH.heap u⟩:tE);rw[U8];rw[f]at this|-;omega;show bH.calls.length<=bH.steps;rw[g,c];exact d.aR;show bH.steps<=300;rw[c];exact d.d4;rw[U9]at e;exact d.low k (List.mem_of_mem_tail e)
def U'(d:rR v (ar::st)):wQ (Y.gl h v ar st):=by
 obtain⟨i,eh,env,e⟩:=ar;cases i<;>dsimp only[Y.gl]<;>(repeat' split)<;>first
  |exact d5
  |exact U_ d rfl rfl rfl
  |exact(λi b c hw=>JR (bH:=v) (i:=i) (eh:=b) (env:=c) d hw rfl (Df _) rfl) _ _ _ (by simp[e7])
  |exact JR d (by simp[e7]) rfl (Ci _ _) rfl
def Va{l:Y.gI}(d:Y.j3 h o (.run v (ar::st))=l)(b:∀bH c e,l≠.run bH (c::e)):∃r,o=r+1/\Y.j3 h r (Y.gl h v ar st)=l:=by
 cases o with
 |zero=>exact aq d.symm (b _ _ _)
 |succ r=>exact⟨r,a,d⟩
def Vb{q:Cj}:∀v f st,Y.ne q≠.run v (f::st):=λv f st b=>by cases(q)<;>(unfold Y.ne at b;cases(b))
def JS{q:Cj}(d:Y.ne q= .run v []\/Y.ne q= .cM v):ja q=v:=by cases q<;>obtain d|d:=d<;>(unfold Y.ne at d;first|(cases d;rfl)|cases d)
end e2
namespace bT
open PySem PySem.Spec PyProof.Rows
def Vc{X:bJ}{g:List be}{h:pG}{i:List pG}{l:Pos}{cl:(St->Prop)->bn->dz}{k:t->dz}(m:∀(b:bT.St->Prop) (B:bn) (pn:List (t×Obj)) (d:ab->aJ->Prop),tq b (bh X.prog X.w X.K X.mg) (X.tri pn d) B->sf (a' X.prog X.w) X.A X.env d->fZ (X.tri pn d) g (cl b B))(n:q0 X (h::i) k)(o:X.stack=X.env::X.outer)(cA:X.env.frame=j X.env.locals):fY X (.Try g (h::i) [] [] l) (λe f c=>∃b,H1 b (cl b) k e f c):=
 λp q f c e r ⟨b,s⟩=>Sm (m b) n o cA p q f c e r s
end bT
namespace e2
open PySem PySem.Spec PyProof.Rows bT
open Y (dN kj dp)
abbrev tI:be:=b3 75
def Vd:be->List be
 | .Try b _ _ _ _=>b
 |_=>[]
def JT:List be:=Vd ((ly tI).getD 1 (.Pass ⟨0,0,0,0⟩))
def k7(h:a0)(v:em):Prop:=(∀b∈v.flows,b.label<(aE h).length)/\v.flows.length<=300
def wR(h:a0):Y.gI->Prop
 | .run b _=>k7 h b
 | .cM b=>k7 h b
variable{h:a0}{v:em}
def JU{st:List dp}{i:a0}{eh:B9}{env:wu}(d:k7 h v):wR h (Y.eL v st i eh env):=by delta Y.eL;split;exact d;exact d
def Ve{st:List dp}{c:dp}{u:hH}(d:k7 h v)(g:aS c.i<(aE h).length)(k:v.flows.length<300):wR h (Y.bL c u v st):=by refine⟨?_,b5 (Ci _ _) k⟩;intro e b;have b:e∈h9 v.flows ⟨aS c.i,c.ctx,fV v.heap u⟩:=b;unfold h9 at b;split at b;exact d.1 e b;obtain f|f:=bE.mp b;exact d.1 e f;rw[y2.mp f];exact g
def Vf{b:dp}{st:List dp}(d:k7 h v)(c:aS b.i<(aE h).length)(e:v.flows.length<300):wR h (Y.gl h v b st):=by
 obtain⟨f,g,k,l⟩:=b;cases f<;>dsimp only[Y.gl]<;>(repeat' split)<;>first
  |exact d
  |exact Ve d c e
  |exact JU d
inductive Ck(P:cN)(w:cr)(G:List V)(c:z)(e:aW)(i:bn):Prop|mk:∀(f:t) (b:Nat) (h:a0),G=[.ref f,.int (b:Nat)]->hB c f (aE h)->fJ c->bA c oW (.cH fx)->Y.iG h->(∀(g:z) (d:h4),Told P w c g d (ja (hL h b))->k7 h (ja (hL h b))->c d.ai=E->e (.ref d.s) g)->Ck P w G c e i
inductive Cm(P:cN)(w:cr)(g:bT.St->Prop)(B:bn)(i:Ends)(e:bT.St)(c:z):Prop|mk:∀(b:h4) (f:z) (h:a0) (k:Nat->t),e=[j (.ref b.cs),j (.int (b.o:Nat)),j (.ref b.s)]->g e->dc P w f c b h k JV [] []->(∀d,Told P w f d b (ja (hL h b.o))->k7 h (ja (hL h b.o))->i.bb e d)->(∀d,Told P w f d b (ja (hL h b.o))->k7 h (ja (hL h b.o))->B (.ref oR) E d)->Cm P w g B i e c
variable{P:cN}{w:cr}{K:bG}{mg:Str->Option ab}{base:bM}{f:t}{ai:hQ}
def Vg(d:Y.iG h):aS h=0:=by obtain⟨c,b⟩:=Y.AN h;exact d.ck.get (k:=0) (by rw[b];rfl)
def JW{c:z}{d:h4}{r:Nat}{q:Cj}{f B:z->Prop}{l:Y.gI}(k:wQ l)(g:wR h l)(e:Y.j3 h r l=Y.ne q)(m:∀b,Told P w c b d (ja q)->k7 h (ja q)->B b)(n:∀v st,rR v st->k7 h v->Y.j3 h r (.run v st)=Y.ne q->∀(b:z) (o:Nat->t) (p:List (t×t)),dc P w c b d h o v st p->f b):B1 P w c d h f B l:=by
 cases l with
 |run v st=>exact n v st k g e
 |cM v=>rw[Y.t_]at e;intro b s;have i:=JS (.inr e.symm);exact m b (by rw[i];exact s) (by rw[i];exact g)
inductive Cn(X:bJ)(b:h4)(c:z)(h:a0)(r:Nat)(d:bT.St)(e:z):Prop|mk:∀v st f g,d=[j (.ref b.cs),j (.int (b.o:Nat)),j (.ref b.s)]->dc X.prog X.w c e b h f v st g->rR v st->k7 h v->Y.j3 h r (.run v st)=Y.ne (hL h b.o)->Cn X b c h r d e
def Vh{X:bJ}{D:bT.St->Prop}{B:bn}(V:X.N=(["nodes","number","run"]:List Str))(W:X.env.scope=bo tI)(h:tq D (bh X.prog X.w X.K X.mg) X B)(Z:sf (a' X.prog X.w) X.A X.env X.xe)(F:cV 6 X.A)(aa:gN X "come_to")(ad:gN X "go_on")(af:gN X "len")(T:cT X.K X.mg)(i:h6 X.K X.mg)(n:bI X.prog X.w X.K X.mg X.base (bh X.prog X.w X.K X.mg) 3 "come_to" Y' (rO X.prog X.w))(G:bI X.prog X.w X.K X.mg X.base (bh X.prog X.w X.K X.mg) 6 "go_on" Zn (m0 X.prog X.w λ_=>True)):
  fZ X JT (Cm X.prog X.w D B):=by
 intro ah ai J p aj ak g;have k:∀{L:Pos},a8 X (.Name "run" L) (cD 2):=λ{L}=>x 2 (by rw[V];rfl) (by rw[W];exact aU a);have al:fZ X JT _:=ay (c' (H0 (B:=B) n (F.aG nofun) aa h (I k (I bt (I sH ae)))))
  (aA (uo Z (b7 nr (en fE af T.eP e3 (I (a1 k a) ae)) bt (cf _)) (aA (c' (H0 (B:=B) G F ad h (I k (I (bU cj (a1 k a) (np nq bt) (λ_ _=>rfl)) ae)))))))
 refine al ah ai J p aj ak ?_;obtain⟨b,l,f,r,rfl,M,c,ao,O⟩:=g;obtain⟨P,d⟩:=Y.K8 f b.o;refine⟨M,_,a,λap h=>?_⟩;have av:=Q.fresh (q:=aC.cH []) h;refine⟨b,ap,l,f,f,r,JV,[],[],[],[⟨d9,.num b.o⟩],[],by rw[Vg c.eB.dn];rfl,c.same av,dC _,dC _,dN.R3 c.eB.dn,?_,?_,?_⟩;exact⟨a,a⟩;exact⟨[],aw,bC _,λa3 v a6 g=>by cases g⟩;refine JW ?_ (JU ⟨λa7 ax=>(by cases ax),dC _⟩) d O λy st e m d a9 az aB aE=>?_;exact⟨bC _,dC _,nofun,λa_ aF=>by cases aF⟩;refine⟨(Cn X b l f),⟨P,y,st,az,aB,a,aE,e,m,d⟩,?_⟩;rintro P J p ⟨y,st,r,ba,rfl,c,e,m,d⟩;refine⟨_,a,b.s,di,b.a4,_,_,a,c.run,i.fd,i.qa,a,b.fj,_,a,.inl (an.au c.e8),_,_,a,a,_,a,?_⟩;rw[JB,aV];cases c.ar with
 |nil=>rw[show decide ((0:Int)<((([]:List (t×t)).length:Nat):Int))=am from rfl];rw[Y.t9]at d;have v:=JS (.inl d.symm);exact cq (ao p (by rw[v];exact c.told) (by rw[v];exact m))
 | @cons aH aI st z aK bb=>obtain⟨C,R⟩:=aI;have S:=c.e8;rw[bz,B']at S;rw[show decide ((0:Int)<((((C,R)::z).length:Nat):Int))=H from bw (by rw[cy];omega)];obtain⟨U,rfl,aL⟩:=Va d Vb;refine cm ⟨(Cn X b l f U),λbc aM g=>⟨U,uu _,g⟩,?_⟩;have n:=e.df;have G:=e.aR;have aN:=e.d4;rw[cy]at n;refine⟨M,_,a,_,a,b.s,di,b.a4,_,_,a,c.run,i.fd,i.qa,a,_,a,b.fj,_,_,_,a,a,an.au S,Cd (o:=z.length) (u:=.ref C) (by simp) (by rw[pr (by simp)];simp),?_⟩;refine⟨b,C,R,l,f,r,y,aH,st,z,a,c,d5,by omega,by omega,aN,by omega,e.low,?_⟩;obtain⟨bd,bf,bg,bi,bj,aP,bk,bl,bp,br⟩:=aK.ex;exact JW (U' e) (Vf m (es.mp (jq (aP.at_ c.eB.dn.ck))).1 (by omega)) aL O λaQ aT aW aX aY aM aZ a0 a2=>⟨aQ,aT,aZ,a0,a,a2,aW,aX,aY⟩
def JX:b2 ["nodes","number","run"] Zf (bo tI):=⟨a,a,a,∅,a,∅,∅⟩
def Vi(F:bO K "run_program" "run_program" tI f ai)(T:cT K mg)(z:h6 K mg)(O:kP P w K mg base a7 1 di "Run" Y4 (B6 P w))(R:bI P w K mg base (bh P w K mg) 3 "come_to" Y' (rO P w))(S:bI P w K mg base (bh P w K mg) 6 "go_on" Zn (m0 P w λ_=>True)):
  bd P w K mg base a7 7 f ai Zf (Ck P w):=by
 refine F.ok JX (λV d W B h=>?_) (λaF aI aK aL d V W B A h=>?_);obtain⟨C,D,i,rfl,_⟩:=h;rfl;obtain⟨C,D,i,rfl,X,Y,Z,aa,G⟩:=h;refine⟨_,ay (bZ (k:=2) JX.nd a (aU a) (mq (B:=b9) O (A.aG nofun) a bN (I (x 0) (I (x 1) ae)))) (ay (Vc (cl:=Cm P w) (λaM aN pn aP l ad=>Vh a a l ad A a a a T z R S) (pH z.st a (λaQ=>aA DD) FR) a a) (aA (bx (x 2)))),?_⟩;refine⟨_,a,_,a,λm n p af q=>?_⟩;have g:Q d (U (U d n (.own m)) m (.az di n [])):=(Q.fresh af).new (by rw[aH (cU q)];exact p);refine⟨m,n,C,D,a,aw,λJ b ah aj ak al an hw ao ap L ar au av=>⟨a,?_⟩⟩;subst ah aj ak al;have ax:Q d J:=λM e N=>an M e (g M e N) (ew N p);have r:dc P w d J b i (λ_=>0) JV [] []:=⟨⟨ax,⟨[],au,λaR aB=>(by cases aB),a⟩,av,⟨0,L⟩⟩,⟨X,Y,Z,aa⟩,L,ar,.nil,⟨λk e c=>(by cases c),λk aT e aW c=>(by cases c),λk e c=>(by cases c),λk e c=>(by cases c)⟩,(by simp),p,g.free hw,g.free ao,g.free ap,λaX l=>by cases l⟩;refine⟨λaC=>aC=[j (.ref b.cs),j (.int (b.o:Nat)),j (.ref b.s)],b,d,i,λ_=>0,a,a,r,λu v y=>?_,λu v y=>⟨oR,a,λaY aE=>⟨λ_=>?_,λq=>aq a q⟩⟩⟩;exact⟨_,a,G u b v y r.k5⟩;subst aE;exact⟨_,a,G u b v y r.k5⟩
abbrev Co:be:=b3 97
inductive wS(P:cN)(w:cr)(G:List V)(c:z)(e:aW)(B:bn):Prop|mk:∀(f i:t) (b:Int) (h:a0) (k:c4) (l:av->List aI),G=[.ref f,.int b]->gj c f h i k l->fJ c->bA c oW (.cH fx)->(0<=b->b<=9->∀(g:z) (d:h4),Told P w c g d (ja (hL h b.toNat))->k7 h (ja (hL h b.toNat))->c d.ai=E->e (.ref d.s) g)->((b<0\/9<b)->B (.ref AS) E c)->wS P w G c e B
def Vj:b2 Zg Zg (bo Co):=⟨a,a,a,∅,a,∅,∅⟩
def Vk(F:bO K "run_on" "run_on" Co f ai)(T:cT K mg)(ba:hl K mg)(p:bI P w K mg base a7 7 "run_program" Zf (Ck P w)):bd P w K mg base (bh P w K mg) 8 f ai Zg (wS P w):=by refine F.okE Vj (λq r s B b=>?_) (λO v Q R r q s B k b=>?_);obtain⟨l,d,S,m,v,y,rfl,_⟩:=b;rfl;obtain⟨l,d,e,m,n,y,rfl,g,z,A,C,o⟩:=b;obtain⟨U,D⟩:=ba.Sp;refine⟨_,ay (cp (ht.lq (og (b7 qI (x 1) bt (cf _)) (pd (b7 nr (x 1) (bQ a D (u:=.int 9) ⟨_,a⟩) (cf _))))) (aA (ik (B:=B) ba.H3 (il (λ_ _ _ b=>b)) k.du a)) cO) (aA (bx (bP (B:=b9) p k a bN (I (a1 (a1 (x 0) a) a) (I (x 1) ae))))),?_⟩;obtain⟨G,J⟩:=g.az;refine⟨_,a,_,_,a,a,_,a,?_⟩;dsimp only;by_cases c:e<0;rw[bw c];exact cm (cm (o (.inl c)));rw[bq c];refine cq ⟨_,a,_,_,a,a,_,a,?_⟩;by_cases h:9<e;rw[bw h];exact cm (o (.inr h));rw[bq h];obtain⟨i,rfl⟩:∃i:Nat,e=(i:Nat):=⟨e.toNat,by omega⟩;exact cq ⟨_,a,l,e6,G,_,_,a,J,ba.hF,ba.fQ,a,d,b_,n.a4,_,_,a,g.tab.az,T.dV,T.iO,a,_,a,n.cs,i,m,a,g.tab.eX,z,A,g.dn,λL M d c N=>C (by omega) (by omega) L M d c N⟩
theorem JY{b:Type}[BEq b][LawfulBEq b]:∀(o:Nat) (n:List b),n.length<=o->n.eraseDups.Nodup
 |0,n,c=>by
  cases n with
  |nil=>simp
  |cons d e=>simp at c
 |o+1,n,c=>by
  cases n with
  |nil=>simp
  |cons d e=>rw[ty,e9];have f:(e.filter λg=> !g==d).length<=o:=b5 (tz _ _) (by simp at c;omega);refine⟨λh=>?_,JY o _ f⟩;have:=(eI.mp (w7.mp h)).2;simp at this
def Vl{b:Type}[BEq b][LawfulBEq b]{c bD:List b}(d:c.Nodup)(e:bD.Nodup):c.countP bD.contains=bD.countP c.contains:=by rw[Vm,Vm];apply List.Perm.length_eq;rw[List.perm_ext_iff_of_nodup (d.sublist r6) (e.sublist r6)];intro f;rw[eI,eI,d1,d1];exact And.comm
theorem Cp{d:Type}(m:d->Prop)[DecidablePred m](ao:d->Bool):∀n:List d,(∀e∈n,decide (m e)=ao e)->(n.filterMap λe=>if m e then j e else E).length=n.countP ao
 |[],_=>rfl
 |e::h,f=>by have g:=Cp m ao h λi k=>f i (cv _ k);have b:=f e b8;rw[hn,List.countP_cons];by_cases c:m e;rw[as c];rw[bw c]at b;rw[<-b,as a,cy,g];rw[ag c];rw[bq c]at b;rw[<-b,ag dA,g];rfl
theorem rS{g h:Type}{f:g->Option h}(d:∀e b y,f e=j y->f b=j y->e=b):∀{n:List g},n.Nodup->(n.filterMap f).Nodup
 |[],_=>by simp
 |e::o,c=>by
  rw[e9]at c;rw[hn];cases i:f e with
  |none=>exact rS d c.2
  |some y=>rw[e9];refine⟨λk=>?_,rS d c.2⟩;obtain⟨b,l,m⟩:=eV.mp k;rw[d _ _ _ i m]at c;exact c.1 l
def Vn(l:Y.cY h)(aj:av->List aI):(jy (aE h) aj).Nodup:=by
 unfold jy;rw[I9,List.pairwise_flatMap];have o:(bp (aE h)).Nodup:=by rw[it l];exact l.i9
 constructor;intro m _;show I9 _;cases(aE h)[m]? with
 |none=>simp
 |some i=>
  dsimp only;rw[z0];have b:(((bp (aE h)).filter λd=>decide (d∈aj (.node (dv i 0)))).filterMap (fM 1)).Nodup:=rS (λd g n b c=>by unfold fM at b c;cases(d)<;>cases(g)<;>simp_all [ep,ck]) (o.sublist r6)
  have:=rS (f:=λk=>j (m,k)) (λd g n b c=>by rw[<-c]at b;cases(b);rfl) b;rw[vO]at this;exact this
 have c:(dS (aE h) "call").Nodup:=rS (λd g n b c=>by split at b;split at c;cases(b);cases(c);rfl;cases(c);cases(b)) CL
 refine c.imp λ{d g} p q r s u v=>p ?_;have w:q.1=d:=by
  revert r;cases(aE h)[d]? with
  |none=>intro e;cases(e)
  |some i=>intro e;obtain⟨k,_,rfl⟩:=cx.mp e;rfl
 have x:s.1=g:=by
  revert u;cases(aE h)[g]? with
  |none=>intro e;cases(e)
  |some i=>intro e;obtain⟨k,_,rfl⟩:=cx.mp e;rfl
 rw[<-w,<-x,v]
theorem JZ(e:i2):∀n:List i2,(cg (iC n) (iB e)).isSome=decide (e∈n)
 |[]=>by rw[bq (by simp)];rfl
 |b::f=>by show(cg ((iB b,V.bl H)::iC f) (iB e)).isSome=_;by_cases d:b=e;rw[jl (dZ iB d),bw (by rw[d];exact b8)];rfl;rw[jm λc=>d (JN c),JZ e f];by_cases c:e∈f;rw[bw c,bw (cv _ c)];rw[bq c,bq λg=>(bm.mp g).elim (λh=>d h.symm) c]
variable{aj:av->List aI}
def Vo(c:Y.cY h)(k:∀m∈a_ (aE h),∀e∈aj m,e∈bp (aE h))(d:kT (aE h) aj)(q:Cj):
  ((jy (aE h) aj).filterMap λe=>if(⟨e.1,e.2⟩:i2)∈oY q then j e else E).length=(oY q).countP (lR h (cz h)).contains:=by
 rw[Cp _ (λe=>(oY q).contains ⟨e.1,e.2⟩) _ (λe _=>by rw[m8,z1,d1])]
 have g:=Vn c aj;rw[A5 c k d]at g|-;rw[List.countP_map];have l:(lR h (cz h)).Nodup:=by have:=rS (f:=λb:Nat×Nat=>j (⟨b.1,b.2⟩:i2)) (λe n r i o=>by rw[<-o]at i;cases e;cases n;cases i;rfl) g;rw[vO,fU]at this;have p:((λb:Nat×Nat=>(⟨b.1,b.2⟩:i2))∘λe:i2=>(e.site,e.fn))=id:=rfl;rw[p,List.map_id]at this;exact this
 exact Vl l (show(oY q).Nodup from JY _ _ (bC _))
def Vp(b:Y.cY h)(c:∀m∈a_ (aE h),∀e∈aj m,e∈bp (aE h))(d:kT (aE h) aj){f:dr}(i:f.place∈a_ (aE h)):decide (f.abs∈aj f.place)=(cz h).contains f:=by rw[m8,z1,d1,oL b c d];rw[e4 b,it b]at c;rw[pP c];rw[e4 b]at i;exact⟨λg=>⟨i,g⟩,λg=>g.2⟩
def Vq{A:Type}{R:z->A->V->Prop}{aQ:Nat->Option A}{g:f0}{cK:TT}{bj:bu}{G:List Nat}{m:bT.St}{h:z}{e:t}{B:z->Prop}{aa:t}{n:Obj}{aK:List (eU×t)}(N:∀c d b u,Q c d->R c b u->R d b u)(own:∀c b u q,c e=j q->(∃aN,q= .L aN)->R c b u->∀aN,R (U c e (.L aN)) b u)(C:h aa=j (.ci n (fv P w aa aK)))(O:aK.length<aD)(F:h e=E)(S:∀k r b d (I:V->z->Prop) (J:z->Prop),aK[k]?=j (r,b)->Q h d->(∀D l K,Q d l->aQ k=j K->R l K D->I D l)->(aQ k=E->∀f,Q d f->J f)->g (.ref b) (cB m G) d λi p=>cB i G=cB m G/\cK i p λb f=>if b=H then bj i f I else J f)(T:∀d aN,Q h d->d e=j (.L aN)->br (R d) ((er aK.length).filterMap aQ) aN->B d):
  ∃W:Nat->Nat->z->Prop,(∃v,W 0 v (U h e (.L [])))/\∀k v c,W k v c->((tp P w aa n aK).stop k c/\B c)\/((tp P w aa n aK).go k c/\∃s:z->Prop,(∀d,s d->∃bH,bH<v/\W (k+1) bH d)/\∀u d,(tp P w aa n aK).jh k c u d->g u (cB m G) d λi p=>cB i G=cB m G/\cK i p λb f=>if b=H then bj i f λD l=>∃a9,l e=j (.L a9)/\a9.length<aD/\s (U l e (.L (a9++[D])))else s f):=by
 refine⟨λk v c=>v=aK.length-k/\k<=aK.length/\hA R aQ h e k c,⟨aK.length,by simp,dC _,hA.zero F⟩,?_⟩;rintro k v c ⟨rfl,ah,o⟩;by_cases x:k<aK.length;refine .inr ⟨⟨o.1 _ _ C,x⟩,hA R aQ h e (k+1),λd X=>⟨aK.length-(k+1),by omega,a,x,X⟩,λu d D=>?_⟩;obtain⟨y,r,b,Y,rfl⟩:=D;subst y;obtain⟨Z,ad⟩:=o.sU N own x O F;exact S k r b _ _ _ Y o.1 Z ad;have y:k=aK.length:=by omega
 subst y;obtain⟨M,aN,ae,af⟩:=o;exact .inl ⟨⟨M _ _ C,bC _⟩,T c aN M ae af⟩
abbrev wT:be:=b3 111
inductive wU(K:bG)(mk:Int->Cl)(G:List V)(c:z)(f:aW)(B:bn):Prop|mk:∀(g m i:t) (d:Int) (h:a0) (n:c4) (o:av->List aI),G=[.ref g,.ref i]->gj c g h m n o->an K c i (bS [d])->fJ c->bA c oW (.cH fx)->(∀k,hG h (mk d)= .ok (cQ h,k)->∀(b:z) (e:t),Q c b->c e=E->b e=j (.L (b' k))->f (.ref e) b)->(∀l,hG h (mk d)= .error l->∀b,Q c b->B (.ref (A2 l)) E b)->wU K mk G c f B
def qc:b2 ["flows","handed","run","facts","arrows","place","sort","arrow"] Zd (bo wT):=⟨a,a,a,∅,a,∅,∅⟩
def Vr(F:bO K "answer_run" "answer_run" wT f ai)(T:cT K mg)(ba:hl K mg)(r:h6 K mg)(bF:bI P w K mg base (bh P w K mg) 8 "run_on" Zg (wS P w))(bH:eE P w K mg base a7 2 b_ "has" Y9 pL)(aC:bI P w K mg base a7 4 "list_arrows" Zx tt):bd P w K mg base (bh P w K mg) 9 f ai Zd (wU K .run):=by
 refine F.okE qc (λbJ o bK B J=>?_) (λbL a2 cC z o bJ bK B aj J=>?_);obtain⟨ak,N,a3,A,d,a2,l,rfl,_⟩:=J;rfl;obtain⟨ak,N,a3,A,d,al,l,rfl,p,bQ,bR,bT,u,ao⟩:=J;have a6:=p.dn.ck;have a8:=jV p.dn;have bV:(a2.deeper (f3 "answer_run" (bo wT) z.heap.objs.size f bL)).units+1<e0:=by have:=aj.units;omega
 refine⟨_,ay (bZ (k:=2) qc.nd a (lA a) (bP (B:=B) bF aj a (dF (λ_ _ _ J=>J)) (I (x 0) (I (bU cj (x 1) bt (λ_ _=>rfl)) ae)))) (ay (Ff (sS (k:=3) (own:=[("place",5),("sort",6)]) (g:=oi K 2 (jL (d0 5) (jL (d0 6) pf))) (cK:=lr (ss b_ "has" pL [] b9 (nt K (cD 0) "table") (dx (cD 5) (dx (cD 6) e1)))) (bj:=cD 5) a qc.nd a a (qU a a a a) (Sj (a1 (x 2) a)) (f6 a) (λz o b O S=>kz a (fo (cF (k:=5) qc.nd a (aU a)) (fo (cF (k:=6) qc.nd a (aU a)) ky))) (λz o b O S=>nz (mc (fI (B:=b9) bH (a1 (x 0) a) (aj.aG nofun) bN (I (x 5) (I (x 6) ae))))) (λz o b O S=>x 5))) (ay (sS (k:=4) (own:=[("arrow",7)]) (g:=d0 7) (cK:=lr (yK (cD 7) (nt K (cD 2) "arrows"))) (bj:=cD 7) a qc.nd a a (qU a a a a) (dU (bP (B:=b9) aC (aj.aG nofun) a bN (I (a1 (x 0) a) ae))) (f6 a) (λz o b O S=>cF (k:=7) qc.nd a (aU a)) (λz o b O S=>nz (mb (yL bV (x 7) (a1 (x 2) a)))) (λz o b O S=>x 7)) (aA (bx (dR (I (en Sg a T.eP e3 (I (a1 (x 2) a) ae)) (I (en fE a T.eP e3 (I (x 3) ae)) (I (en Gb a T.eP e3 (I (a1 (x 2) a) ae)) (I (en fE a T.eP e3 (I (x 4) ae)) ae))))))))),?_⟩;have W:hG d (.run A)=wV A λk=>iY (cQ d) [(k8 (hL d k)).length,(k8 (hL d k)).countP (cz d).contains,(oY (hL d k)).length,(oY (hL d k)).countP (lR d (cz d)).contains]:=rfl;rw[W]at u ao;unfold wV at u ao;have bW:(Vs:Int)=10:=rfl;rw[bW]at u ao;refine⟨_,a,_,a,a3,_,_,_,a,a,bQ,(dj (af:=0) a:gv (bS [A]) 0=j (V.int A)),ak,N,A,d,al,l,a,p,bR,bT,λcE cG ap b v ar bX=>?_,λJ=>ao 2 (by rw[as (by omega)]) o (Q.id _)⟩;rw[ag (by omega)]at u;have u:=u _ a;generalize hL d A.toNat=h at v ar u;obtain⟨i,X,a9,aF⟩:=v.iR;obtain⟨bY,Y⟩:=v.obj;have b0:mT (ja h).flows=k8 h:=rfl;have bb:i1 (ja h).calls=oY h:=rfl;rw[b0]at aF;have aI:i.length=(k8 h).length:=by have:=dZ nv aF;unfold gW at this;rw[aV,aV]at this;exact this
 refine⟨b.ai,_,X,d5,λav=>?_⟩;have cH:i.length<=300:=by rw[aI];unfold k8;refine b5 (wL _ _ (bC _)) ?_;rw[aV];exact ar.2
 have b1:Q o (U ap b.ai (.ci av (fv P w b.ai i))):=λy h C=>by rw[aH (λc=>by rw[c,bX]at C;cases C)];exact v.same y h C
 have b2:(U ap b.ai (.ci av (fv P w b.ai i))) b.s=j (.az di b.a4 (mQ b bY)):=by rw[aH (ct Y X ⋯)];exact Y
 have b3:∀m∈i,jx (U ap b.ai (.ci av (fv P w b.ai i))) m.1 m.2:=λm D=>(a9 m D).keep λe M n=>n.other λc=>(by subst c;obtain n|⟨_,n⟩:=n<;>(rw[X]at n;cases n))
 refine⟨_,a,b.s,di,b.a4,_,_,a,b2,r.fd,r.fQ,a,b.ai,av,i,a,aw,λaK W=>?_⟩;refine Vq (R:=λ_ (_:dr) _=>True) (aQ:=λk=>((k8 h)[k]?).bind λf=>if f.abs∈l f.place then j f else E) (λ_ _ _ _ _ _=>d5) (λ_ _ _ _ _ _ _ _=>d5) aw (c1 (by omega)) W ?_ ?_
 ·intro k bc y bf b6 b7 bg bi aL aM;have aN:∃f,(k8 h)[k]?=j f/\bc=jE f:=by
   have Z:(gW i)[k]?=j bc:=by delta gW;rw[d2,bg];rfl
   rw[aF,d2]at Z;cases c:(k8 h)[k]? with
   |none=>rw[c]at Z;cases Z
   |some f=>rw[c]at Z;exact⟨f,a,(dP Z).symm⟩
  obtain⟨f,aP,rfl⟩:=aN;obtain⟨cI,b',aa⟩:=(b3 _ (ev bg)).keep λe M n=>n.same bi;have ca:f.place∈a_ (aE d):=by obtain⟨m,D,rfl⟩:=cx.mp (w7.mp (ev aP));exact iS (ar.1 m D)
  cases aa with
  | @cons _ cc _ cJ cd aa=>
  cases aa with
  | @cons _ cf _ cL cg aa=>
  cases aa;have aR:=(p.same b1).same bi;obtain⟨aT,aW⟩:=aR.az;refine⟨y,_,a,.inl b',a,_,_,a,_,_,a,a,a,?_⟩;refine⟨_,a,ak,e6,aT,_,_,a,aW,ba.hF,ba.fQ,a,N,al.a4,_,a,aR.tab.az,a,_,a,_,a,N,_,_,aE d,_,_,al,l,f.place,f.abs,a,aR.tab,⟨cc,a,cd⟩,⟨cf,a,cg⟩,ca,_,a,?_⟩;by_cases c:f.abs∈l f.place;rw[bw c,as a];exact⟨_,a,aL _ _ f (Q.id _) (by rw[aP];show(if _ then _ else _)=_;rw[as c]) d5⟩;rw[bq c,ag dA];exact aM (by rw[aP];show(if _ then _ else _)=_;rw[ag c]) _ (Q.id _)
 intro aX bk bl cl bn;refine⟨bl _ _ aw,?_⟩;have ax:Q ap (U aX b.ai (fv P w b.ai i)):=λy cm C=>by by_cases c:y=b.ai;subst c;rw[X]at C;rw[aw];exact C;rw[aH c];exact bl y cm (by rw[aH c];exact C)
 have cn:aK≠b.ai:=λc=>by rw[c,aw]at W;cases W
 have bp:(U aX b.ai (fv P w b.ai i)) aK=j (.L bk):=by rw[aH cn];exact cl
 generalize U aX b.ai (fv P w b.ai i)=cM at ax bp;rw[aI,mr]at bn;have aC:bk.length=(k8 h).countP (cz d).contains:=by rw[<-bn.length];refine Cp _ _ _ λf aN=>Vp a6 p.tab.sub p.L ?_;obtain⟨m,D,rfl⟩:=cx.mp (w7.mp aN);exact iS (ar.1 m D)
 have br:=p.same (v.same.trans ax);obtain⟨aT,aW⟩:=br.az;refine⟨_,a,ak,e6,aT,_,_,a,aW,ba.hF,ba.fQ,a,N,aE d,al,l,a,br.tab,a8,λcO bs aY aZ cP bu a0=>⟨bs,a,⟨_,an.au bu⟩,?_⟩⟩;intro co cp;have cV:aY.length<=930:=by rw[<-a0.length,aV];exact wd a8.len l
 refine iN (K:=K) (e:=bs) (M:=aY) (R:=λ_ (_:Nat×Nat) _=>True) (aQ:=λk=>((jy (aE d) l)[k]?).bind λe=>if(⟨e.1,e.2⟩:i2)∈oY h then j e else E) (λ_ _ _ _ _ _=>d5) (λ_ _ _ _ _ _ _ _=>d5) (λbf d=>an.au (d _ _ bu)) (c1 (by omega)) cp ?_ ?_;intro k cW bf b6 b7 cq ah aL aM;obtain⟨c,G,y,rfl,cs⟩:=a0.fq cq;rw[d2]at G;cases aB:(jy (aE d) l)[k]? with
 |none=>rw[aB]at G;cases G
 |some e=>rw[aB]at G;have G:=(dP G).symm;subst G;have q:=(ax.trans aZ).trans ah;refine⟨a,_,a,_,a,b.s,di,b.a4,_,_,a,q _ _ Y,r.fd,r.nH,a,b.ad,_,a,.inr ⟨_,iB ⟨e.1,e.2⟩,y,.inl (q _ _ v.k4),a,cs.same ah,a⟩,_,a,?_⟩;rw[JZ,bb];by_cases c:(⟨e.1,e.2⟩:i2)∈oY h;rw[bw c,as a];exact⟨_,a,aL _ _ e (Q.id _) (by rw[aB];show(if _ then _ else _)=_;rw[as c]) d5⟩;rw[bq c,ag dA];exact aM (by rw[aB];show(if _ then _ else _)=_;rw[ag c]) _ (Q.id _)
 intro cu cw ah cA bA;rw[(by rw[<-a0.length,aV]:aY.length=(jy (aE d) l).length),mr]at bA;have q:=(ax.trans aZ).trans ah;refine⟨_,a,b.s,di,b.a4,_,_,a,q _ _ Y,r.fd,r.fQ,a,b.ai,i,a,(⟨.inl (q _ _ X),λm D=>(a9 m D).keep λe M n=>n.same q⟩:pZ P w cu b.ai i),?_⟩;refine⟨_,a,aK,_,a,.inl (an.au ((aZ.trans ah) _ _ bp)),?_⟩;refine⟨_,a,b.s,di,b.a4,_,_,a,q _ _ Y,r.fd,r.nH,a,b.ad,_,a,.inl (q _ _ v.k4),?_⟩;refine⟨_,a,co,_,a,.inl (an.au cA),(by show 4<=aD;decide),λcB bB=>?_⟩;have bD:=v.same.trans q;refine u _ cB (bD.trans (Q.fresh bB)) (bD.free bB) ?_;rw[aw,aI,aC,((bA.length.symm).trans (Vo a6 p.tab.sub p.L h):cw.length=_),aV,bb];rfl
abbrev hI:=dr
def lY(n:List hI)(k:Nat)(e:aI):Option hI:=if(⟨.node k,e⟩:hI)∈n then E else j ⟨.node k,e⟩
def oZ(n:List hI)(f:hI):Bool:=match f.place with
 | .node _=> !n.contains f
 |_=>am
noncomputable def n0(f:hI):List Int:=[(iZ f.place:Nat),(Y.ek f.place:Nat),ep f.abs,(ck f.abs:Nat)]
theorem J0(n:List hI)(k:Nat):∀c:List aI,(c.map λe=>(⟨.node k,e⟩:hI)).filter (oZ n)=c.filterMap (lY n k)
 |[]=>rfl
 |e::f=>by rw[bz,lc,hn,J0 n k f];have d:oZ n ⟨.node k,e⟩= !n.contains ⟨.node k,e⟩:=rfl;delta lY;by_cases b:(⟨.node k,e⟩:hI)∈n;rw[d,d1.mpr b,as b,ag nofun];have g:n.contains (⟨.node k,e⟩:hI)=am:=Bool.eq_false_iff.mpr λh=>b (d1.mp h);rw[d,g,ag b,as nofun]
def Vt(i:Y.cY h)(p:∀m∈a_ (aE h),∀e∈aj m,e∈bp (aE h))(d:kT (aE h) aj)(n:List hI):
  (cz h).filter (oZ n)=(er (aE h).length).flatMap λk=>(b6 (bp (aE h)) (aj (.node k))).filterMap (lY n k):=by
 rw[oL i p d,Y.qp,List.filter_flatMap];have q:∀c:List av,(∀m∈c,m∈ch h)->(c.flatMap λm=>((Y.gb h (dX h aj) m).map λe=>(⟨m,e⟩:hI)).filter (oZ n))=c.flatMap λm=>((b6 (bp (aE h)) (aj m)).map λe=>(⟨m,e⟩:hI)).filter (oZ n):=by
  intro c;induction c with
  |nil=>intro _;rfl
  |cons m x r=>intro b;rw[ds,ds,r λs u=>b s (cv _ u),s6 (b m b8),it i]
 have l:∀c:List av,(∀m∈c,∀k,m≠.node k)->(c.flatMap λm=>((b6 (bp (aE h)) (aj m)).map λe=>(⟨m,e⟩:hI)).filter (oZ n))=[]:=by
  intro c b;rw[List.flatMap_eq_nil_iff];intro m v;rw[T6];intro y w;obtain⟨e,_,rfl⟩:=cx.mp w;have:=b m v;cases m with
  |node k=>exact aq a (this k)
  |_=>exact dA
 rw[q _ λm b=>b,<-e4 i];delta a_;rw[lG,lG,lG,l (iQ (aE h)),l (List.flatMap _ _),l (List.map _ _),fT,fT,fT];delta iP;rw[vO,TF];congr 1;funext k;exact J0 n k _;intro m b k g;obtain⟨o,_,rfl⟩:=cx.mp b;cases g;intro m b k g;obtain⟨o,_,f⟩:=cR.mp b;rw[g]at f;simp at f;intro m b k g;unfold iQ at b;obtain⟨o,_,f⟩:=eV.mp b;split at f;rw[g]at f;cases f;cases f
def Vu(y:List hI):bS (kY (y.map n0))=b' (y.length::y.flatMap tA):=by
 delta kY b' bS;rw[aV,bz,bz];congr 1;rw[<-Uc];induction y with
 |nil=>rfl
 |cons b f c=>rw[ds,ds,cS,cS,c];congr 1;obtain⟨d,e⟩:=b;cases d<;>cases e<;>rfl
abbrev wW:be:=b3 112
def qd:b2 ["flows","handed","run","spare","label","place","sort"] Zd (bo wW):=⟨a,a,a,∅,a,∅,∅⟩
inductive J1(df d:t)(e:z)(ah:h4)(c:t)(f:Nat->List hI)(k:Nat)(g:bT.St)(b:z):Prop|mk:∀i l m h,g=[j (.ref df),j (.ref d),j (.ref ah.s),j (.ref c),i,l,m]->Q e b->b c=j (.L h)->br (gX b) (((er k).flatMap f).map n0) h->J1 df d e ah c f k g b
def Vv(F:bO K "answer_spare" "answer_spare" wW f ai)(T:cT K mg)(ba:hl K mg)(a0:h6 K mg)(bH:bI P w K mg base (bh P w K mg) 8 "run_on" Zg (wS P w))(W:eE P w K mg base a7 2 b_ "sorts_at" Zp oJ)(bJ:bI P w K mg base a7 1 "tell_each" Zv rs):bd P w K mg base (bh P w K mg) 9 f ai Zd (wU K .spare):=by
 refine F.okE qd (λbL p aB B c=>?_) (λbR a2 cZ C p bL aB B ah c=>?_);obtain⟨X,i,aH,d,b,a2,l,rfl,_⟩:=c;rfl;obtain⟨X,i,aH,d,b,Y,l,rfl,r,bT,bV,bW,h,aj⟩:=c;have D:=jV r.dn;obtain⟨c0,bX⟩:=T.lE;have aI:gv (bS [d]) 0=j (V.int d):=dj (af:=0) a;have bY:(a2.deeper (f3 "answer_spare" (bo wW) C.heap.objs.size f bR)).units+2<e0:=by have:=ah.units;omega
 refine⟨_,ay (bZ (k:=2) qd.nd a (lA a) (bP (B:=B) bH ah a (dF (λ_ _ _ c=>c)) (I (x 0) (I (bU cj (x 1) bt (λ_ _=>rfl)) ae)))) (ay (bZ (k:=3) qd.nd a (aU a) (dR ae)) (ay (fg rg a (qH a T.q8 (I (en fE a T.eP e3 (I (a1 (a1 (x 0) a) a) ae)) ae)) (cF (k:=4) qd.nd a (aU a)) (ay (bZ (k:=5) qd.nd a (lA a) (cP (I (bQ a bX (u:=.int 0) ⟨_,a⟩) (I (x 4) ae)))) (aA (c' (fF fK ov ra qS (x 3) (I (hV (own:=[("sort",6)]) (g:=d0 6) (cK:=lr (λak p aB=>(hP (dx (cD 5) (dx (cD 6) e1))) ak p λG aK=>(nt K (cD 2) "facts") ak aK λv Z=>∃e al J a3,v= .ref e/\G= .ref al/\pZ P w Z e J/\jx Z a3 al/\aB (.bl (!decide (a3∈gW J))) Z)) (bj:=hx (uE K) (cD 5) (cD 6)) a qd.nd (dU (fI (B:=b9) W (a1 (x 0) a) (ah.aG nofun) bN (I (x 5) ae))) (f6 a) (λC p m a6 a8=>cF (k:=6) qd.nd a (aU a)) (λC p m a6 a8=>nz (mb (Sf bY (cP (I (x 5) (I (x 6) ae))) (a1 (x 2) a)))) (λC p m a6 a8=>fD Ey (x 5) (x 6))) ae)))))) (aA (bx (bP (B:=b9) bJ (ah.aG nofun) a bN (I (x 3) ae)))))),?_⟩;have ao:hG b (.spare d)=wV d λk=>iY (cQ b) (((cz b).filter (oZ (k8 (hL b k)))).length::((cz b).filter (oZ (k8 (hL b k)))).flatMap tA):=rfl;rw[ao]at h aj;unfold wV at h aj;have b0:(Vs:Int)=10:=rfl;rw[b0]at h aj;refine⟨_,a,_,a,aH,_,_,_,a,a,bT,aI,X,i,d,b,Y,l,a,r,bV,bW,λc3 c4 aK m N b2 c7=>?_,λc=>aj 2 (by rw[as (by omega)]) p (Q.id _)⟩;rw[ag (by omega)]at h;have h:=h _ a;generalize hL b d.toNat=q at N b2 h;obtain⟨J,b3,b7,aL⟩:=N.iR;obtain⟨c9,b'⟩:=N.obj;have ca:mT (ja q).flows=k8 q:=rfl;rw[ca]at aL;rw[Vt r.dn.ck r.tab.sub r.L]at h;generalize k8 q=n at aL h;refine⟨YR,λaM ao=>?_⟩;have a9:=Q.fresh (q:=aC.L []) ao;have aN:=(r.same N.same).same a9;obtain⟨cc,cd⟩:=aN.az;obtain⟨cf,cg,a_,c_⟩:=aN.tab.eX;have ci:((cf.map V.ref).length:Int).toNat=(aE b).length:=by rw[aV,a_];omega
 refine⟨_,a,X,e6,cc,_,_,a,cd,ba.hF,ba.fQ,a,i,b_,Y.a4,_,_,a,aN.tab.az,T.dV,T.iO,a,Y.cs,_,a,.inl (an.au cg),_,a,?_,?_,?_⟩;omega;rw[aV,a_];have:=D.len;omega;rw[ci]
 let O:Nat->List hI:=λk=>(b6 (bp (aE b)) (l (.node k))).filterMap (lY n k)
 have bb:∀d,(O d).length<=31:=λd=>b5 (hW _ _) (b5 (hW _ _) (f_ D.len));have bc:∀ap:List Nat,(ap.flatMap O).length<=31*ap.length:=λap=>by
  induction ap with
  |nil=>simp
  |cons e bf db=>rw[ds,b4,cy];have:=bb e;omega
 refine sk (lo:=0) (o:=(aE b).length) (J1 X aH aK m aM O)
  ⟨E,E,E,[],a,a9,aw,.nil⟩ ?_ ?_
 rintro k ak aP aI ⟨cl,cm,cn,aR,rfl,aa,ar,av⟩;refine⟨_,a,YT,λad co=>?_⟩;have S:=Q.fresh (q:=aC.aF [.int 0,.int (0+(k:Nat))]) co;have aT:=((r.same N.same).same aa).same S;obtain⟨cp,cq⟩:=aT.az;have bg:b1 (U aP ad (.aF [.int 0,.int (0+(k:Nat))])) (.node k) (.ref ad):=eQ (by show[V.int 0,V.int ((k:Nat):Int)]=_;rw[Int.zero_add]);refine⟨_,a,.inl ⟨a,_,an.au (S _ _ ar)⟩,_,a,X,e6,cp,_,_,a,cq,ba.hF,ba.fQ,a,i,Y.a4,_,a,aT.tab.az,a,_,a,i,_,aE b,_,_,Y,l,.node k,a,aT.tab,bg,iS aI,f_ D.len,λdc bi bk aW dd bn aX=>⟨bi,a,⟨_,an.au bn⟩,?_⟩⟩;intro ct cu;have de:bk.length<=31:=by rw[<-aX.length];exact(b5 (hW _ _) (f_ D.len):(b6 (bp (aE b)) (l (.node k))).length<=31)
 refine iN (K:=K) (e:=bi) (M:=bk) (R:=gX) (aQ:=λaf=>((b6 (bp (aE b)) (l (.node k)))[af]?).bind λe=>(lY n k e).map n0) (λ_ _ _ _ C c=>gX.same C c) gX.own (λaP b=>an.au (b _ _ bn)) (c1 (by omega)) cu ?_ ?_;intro af v df dg dh aY aZ cw cA;obtain⟨e,br,W,rfl,cB⟩:=aX.fq aY;refine⟨a,_,a,_,a,YT,λal cC=>?_⟩;have y:=Q.fresh (q:=aC.aF [.ref ad,.ref W]) cC;have z:=(((aa.trans S).trans aW).trans aZ).trans y;obtain⟨dk,cE,cG⟩:=bg;cases cE;have bs:=((cG.same aW).same aZ).same y;have bu:=(cB.same aZ).same y;refine⟨_,a,m.s,di,m.a4,_,_,a,z _ _ b',a0.fd,a0.fQ,a,m.ai,al,J,jE ⟨.node k,e⟩,a,a,(⟨.inl (z _ _ b3),λv aY=>(b7 v aY).keep λe M bf=>bf.same z⟩:pZ P w _ m.ai J),⟨[ad,W],.inl aw,.cons bs (.cons bu .nil)⟩,_,a,?_⟩;have bA:jE ⟨.node k,e⟩∈gW J↔(⟨.node k,e⟩:hI)∈n:=by rw[aL,cx];exact⟨λ⟨f,cH,cI⟩=>by rw[<-JM cI];exact cH,λc=>⟨_,c,a⟩⟩
 by_cases A:(⟨.node k,e⟩:hI)∈n;rw[bw (bA.mpr A),ag nofun];exact cA (by rw[br];show(lY n k e).map n0=E;delta lY;rw[as A];rfl) _ y;rw[bq λG=>A (bA.mp G),as nofun];refine⟨_,a,_,a,ad,W,_,_,a,a,.inl bs,.inl bu,?_,?_,λA=>?_,λ_ cJ cL=>?_⟩;exact Jo _ _;cases e<;>(show 4<=aD;decide);cases e<;>cases A;refine cw _ _ (n0 ⟨.node k,e⟩) (y.trans (Q.fresh cL)) (by rw[br];show(lY n k e).map n0=_;delta lY;rw[ag A];rfl) ⟨cJ,a,.inl ?_⟩;rw[aw];cases e<;>rfl;intro dl cM y cO ax;rw[<-aX.length,mr]at ax;have cV:(b6 (bp (aE b)) (l (.node k))).filterMap (λe=>(lY n k e).map n0)=(O k).map n0:=by show _=((b6 (bp (aE b)) (l (.node k))).filterMap (lY n k)).map n0;rw[A6]
 rw[cV]at ax;have z:=(S.trans aW).trans y;have bB:=z _ _ ar;have dm:aR.length<=930:=by rw[<-av.length,aV];have:=bc (er k);rw[zj]at this;have:=D.len;omega
 have dp:cM.length<=31:=by rw[<-ax.length,aV];exact bb k
 refine⟨aM,ct,_,_,a,a,bB,cO,fX (c1 (by omega)),?_⟩;refine⟨_,_,_,_,a,(aa.trans z).bK ao,aw,?_⟩;rw[F9,lG,cS];rw[(by simp:([k].flatMap O)=O k)];exact((av.aG λv G i=>gX.same z i).append ax).aG λv G i=>gX.own _ v G _ bB ⟨_,a⟩ i _;rintro ak aP ⟨cl,cm,cn,aR,rfl,aa,ar,av⟩;refine⟨_,a,aM,aR,_,a,ar,av,?_,λA cW=>?_,λZ cX S cY bD=>?_⟩;rw[aV];have:=bc (er (aE b).length);rw[zj]at this;have:=D.len;omega;obtain⟨e,_,rfl⟩:=cx.mp cW;exact(by decide:4<=4);have bF:=N.same.trans aa;rw[Vu]at bD;exact h Z cX (bF.trans S) (bF.free cY) bD
end e2
namespace bT
open PySem PySem.Spec PyProof.Rows
def Vw{X:bJ}{cc:hz}{r:Nat}{B:bn}{i:Str}{m b:Pos}{h:ce}{ap:List ce}{p:ba}{k:Nat}{e_:t->f2->Prop}(u:∀f b0,e_ f b0->∃c aZ,bd X.prog X.w X.K X.mg X.base cc r f c aZ b0/\md X.K (.ref f)=H/\Binds X.K c aZ [])(v:cV r X.A)(x:a8 X (.Name i m) (cD k))(y:gt cc X B)(z:hO X (h::ap) p)(C:da (h::ap) X.env=(am,cb h X.env)::da ap X.env:=by rfl)(D:(gq b (da ap X.env)).any (λG=>G.1)=am:=by rfl):
  a8 X (.Call (.Name i m) (h::ap) [] b) (HZ k e_ B p):=by
 intro e I g l Y J d;obtain⟨f,b0,L,M,d⟩:=d;obtain⟨c,aZ,F,N,O⟩:=u f b0 M;refine qM (bB (x e I g l (λn o=>n= .ref f/\o=l) J ⟨_,L,a,a⟩) λP Q ⟨n,R,q,S,T,U⟩=>?_);subst T U;obtain rfl:P=dt f:=S;refine uy (h₀:=X.base) q.ok.fm.pa N (bB (z b e Q g R _ q d) λZ aa ⟨ad,o,s,V,W⟩=>⟨s.gM,?_⟩) C D;exact uw F v O .nil y s V (by rw[fT];exact W)
end bT
namespace e2
open PySem PySem.Spec PyProof.Rows bT
abbrev tJ:t:=716
abbrev wX:t:=717
abbrev wY:t:=718
noncomputable def ko:List (bY×V):=[(.inl 0,.ref 639),(.inl 1,.ref 646),(.inl 2,.ref 653),(.inl 3,.ref 660),(.inl 4,.ref 667),(.inl 5,.ref 674),(.inl 6,.ref 679),(.inl 7,.ref 686),(.inl 8,.ref 693),(.inl 9,.ref 698),(.inl 10,.ref 703),(.inl 11,.ref 708),(.inl 12,.ref 715)]
noncomputable def o0:List (bY×V):=[(.inl 1,.int 1),(.inl 2,.int 1),(.inl 3,.int 1),(.inl 4,.int 1),(.inl 5,.int 0),(.inl 6,.int 1),(.inl 7,.int 0),(.inl 9,.int 3),(.inl 10,.int 1),(.inl 11,.int 1),(.inl 12,.int 0)]
structure g0 (c:z):Prop where
 num:fJ c
 n1:js c
 mU:bA c oW (.cH fx)
 wZ:bA c wX (.cH ko)
 c7:bA c wY (.cH o0)
variable{c:z}
theorem g0.same{b:z}(d:g0 c)(l:Q c b):g0 b:=⟨d.num.same l,d.n1.same l,d.mU.same l,d.wZ.same l,d.c7.same l⟩
noncomputable def gD(y:Int)(args:List Int):Option Cl:=if y=0\/y=8 then qe [[y],args]else qe [y::args]
def Vx(o:Nat)(ah:t):Prop:=ah=A2 o\/(o=1/\ah=rq)
inductive m1(K:bG)(y:Int)(G:List V)(c:z)(h:aW)(B:bn):Prop|mk:∀(d o i:t) (args:List Int) (e:Cl) (f:a0) (p:c4) (q:av->List aI),G=[.ref d,.ref i]->gj c d f o p q->an K c i (bS args)->args.length<=4000->g0 c->gD y args=j e->(∀k l,hG f e= .ok (cQ k,l)->∀(b:z) (r g:t) (s:c4) (u:av->List aI),dM d c b->gj b d k r s u->c g=E->b g=j (.L (b' l))->h (.ref g) b)->(∀m n,hG f e= .error m->Vx m n->∀b,Q c b->B (.ref n) E b)->m1 K y G c h B
variable{P:cN}{w:cr}{K:bG}{mg:Str->Option ab}{base:bM}{f:t}{y:Int}{args:List Int}{aR:Cl}{o:Nat}
section
variable{r:Nat}{ai:hQ}{aZ:List Str}
def qf{b:Int->Cl}(e:∀n,qe [[y,n]]=j (b n))(f:∀args,args.length≠1->qe [y::args]=E)(d:qe [y::args]=j aR):args.length=1/\aR=hk b args:=by by_cases c:args.length=1;obtain⟨n,rfl⟩:=oT c;rw[e]at d;exact⟨a,(dP d).symm⟩;rw[f _ c]at d;cases d
def n2{e:List Int->Cl}(m:∀args aR,gD y args=j aR->args.length=o/\aR=e args)(d:bd P w K mg base (bh P w K mg) r f ai aZ (lS K o e)):bd P w K mg base (bh P w K mg) r f ai aZ (m1 K y):=
 d.imp λQ R S T ⟨n,g,p,args,aR,h,i,k,q,l,s,U,u,v,x,z⟩=>by obtain⟨A,B⟩:=m _ _ v;subst B;exact⟨n,g,p,args,h,i,k,q,l,s,A,u.num,λC D c F b G I=>x h C D c g F i k (λJ L M _=>b J L M) (l.same b) G I,λN O c b=>z N _ O (.inl a) c b⟩
def J2{e:Int->Cl}(n:∀args aR,gD y args=j aR->args.length=1/\aR=hk e args)(d:bd P w K mg base (bh P w K mg) r f ai aZ (wU K e)):bd P w K mg base (bh P w K mg) r f ai aZ (m1 K y):=
 d.imp λQ R S T ⟨o,g,p,args,aR,h,i,k,q,l,s,U,m,u,v,x⟩=>by obtain⟨z,A⟩:=n _ _ u;obtain⟨B,rfl⟩:=oT z;subst A;exact⟨o,g,p,B,h,i,k,q,l,s,m.num,m.mU,λC D c F b G I=>v h C D c g F i k (λJ L M _=>b J L M) (l.same b) G I,λN O c b=>x N _ O (.inl a) c b⟩
def J3{c:ak}(d:m2 args=j c):bS args=gh c:=by unfold m2 at d;split at d;rename_i e;cases d;unfold Vy at e;delta bS gh;rw[fU];apply nc;intro b f;have:=l4.mp e b f;simp at this;show V.int b=V.int (((mK b.toNat).toNat:Nat):Int);congr 1;rw[UInt8.toNat_ofNat'];omega;cases d
def Vz(d:bd P w K mg base (bh P w K mg) r f ai aZ (Be K)):bd P w K mg base (bh P w K mg) r f ai aZ (m1 K 0):=
 d.imp λG I J L ⟨n,o,p,args,q,s,u,v,x,y,g,M,h,z,A,B⟩=>by
  obtain⟨b,C,rfl⟩:=E4.mp (z:(m2 args).map Vacfab.Call.program=j q);have i:=J3 C;rw[i]at g;have N:b.length=args.length:=by have:=dZ nv i;unfold bS gh at this;rw[aV,aV]at this;exact this.symm
  refine⟨n,o,p,b,s,u,v,x,y,g,by omega,h.num,h.n1,A,λk l D F=>B k _ l (.inl ?_) D F⟩;have c:nS (m' b) 1 (λe=>.ok (cQ e,[(dO e).length,(cz e).length]))= .error k:=l;cases m:m' b with
  |none=>rw[m]at c;cases c;rfl
  |some e=>rw[m]at c;cases c
def VA(d:bd P w K mg base (bh P w K mg) r f ai aZ (BH K)):bd P w K mg base (bh P w K mg) r f ai aZ (m1 K 8):=
 d.imp λQ R S T ⟨v,k,x,args,y,b,l,m,z,n,o,U,A,B,C,D⟩=>by
  obtain⟨c,F,rfl⟩:=E4.mp (B:(m2 args).map Vacfab.Call.check=j y);have e:=J3 F;rw[e]at o;have V:c.length=args.length:=by have:=dZ nv e;unfold bS gh at this;rw[aV,aV]at this;exact this.symm
  refine⟨v,k,x,c,b,l,m,z,n,o,by omega,A.num,λG I i J g L M=>C b G I i k J l m (λN O e _=>g N O e) (n.same g) L M,λp q i g=>D p _ q (.inr ⟨?_,a⟩) i g⟩;have h:nS (o7 b c) 1 (λs=>iY (cQ b) (match p5 b s with|none=>[1,s.length]|some f=>0::tA f))= .error p:=q;cases u:o7 b c with
  |none=>rw[u]at h;cases h;rfl
  |some W=>rw[u]at h;cases h
end
def VB{h:a0}(d:hG h aR= .error o):o=1\/o=2\/o=3\/o=4\/o=5:=by unfold hG at d;cases aR<;>simp only[wb,Jn,nR,wV,oS,nS,iY]at d<;>(repeat' split at d)<;>first|(cases d;simp)|cases d
def VC(d:gD y args=j aR):∃o:Nat,o<=12/\y=(o:Int):=by
 unfold gD at d;split at d;rename_i b;obtain b|b:=b;exact⟨0,nofun,b⟩;exact⟨8,nofun,b⟩;cases y with
 |ofNat o=>
  obtain b|b:=Nat.lt_or_ge o 13;exact⟨o,Nat.le_of_lt_succ b,a⟩;obtain⟨c,rfl⟩:=Nat.exists_eq_add_of_le' b;exfalso;revert d
  match args with
  |[]=>exact⋯
  |[_]=>exact⋯
  |[_,_]=>exact⋯
  |[_,_,_]=>exact⋯
  |_::_::_::_::_=>exact⋯
 |negSucc c=>
  exfalso;revert d
  match args with
  |[]=>exact⋯
  |[_]=>exact⋯
  |[_,_]=>exact⋯
  |[_,_,_]=>exact⋯
  |_::_::_::_::_=>exact⋯
def VD(d:gD y args=j aR):∃f,cg ko (.inl y)=j (.ref f):=by
 obtain⟨o,b,rfl⟩:=VC d
 match o,b with
 |0,_=>exact⟨639,∅⟩
 |1,_=>exact⟨646,∅⟩
 |2,_=>exact⟨653,∅⟩
 |3,_=>exact⟨660,∅⟩
 |4,_=>exact⟨667,∅⟩
 |5,_=>exact⟨674,∅⟩
 |6,_=>exact⟨679,∅⟩
 |7,_=>exact⟨686,∅⟩
 |8,_=>exact⟨693,∅⟩
 |9,_=>exact⟨698,∅⟩
 |10,_=>exact⟨703,∅⟩
 |11,_=>exact⟨708,∅⟩
 |12,_=>exact⟨715,∅⟩
 |o+13,d=>exact aq d (by omega)
abbrev w0:be:=b3 117
def iE(h:a0)(aR:Cl):List Int:=VacfabNeutral.encode (n3 (cQ h) aR).2
inductive w1(K:bG)(G:List V)(c:z)(g:aW)(k:bn):Prop|mk:∀(b l h:t) (y:Int) (args:List Int) (aR:Cl) (e:a0) (m:c4) (n:av->List aI),G=[.ref b,.int y,.ref h]->gj c b e l m n->an K c h (bS args)->args.length<=4000->g0 c->gD y args=j aR->(∀(i:a0) (d:z) (o f:t) (p:c4) (q:av->List aI),dM b c d->gj d b i o p q->c f=E->d f=j (.L (bS (iE e aR)))->(n3 (cQ e) aR).1=cQ i->g (.ref f) d)->w1 K G c g k
structure Cq (K:bG) (mg:Str->Option ab):Prop where
 oM:ij K mg "NotProgram" kc
 rC:ij K mg "NotTable" rq
 gO:mg "ANSWERERS"=j (.ref wX)
 VE:mg "HANDED_COUNTS"=j (.ref wY)
 VF:mg "TEXT_CALLS"=j (.ref tJ)
def J4(P:cN)(w:cr)(K:bG)(b:Str->Option ab)(e:bM):Prop:=∀(y:Int) (f:t),cg ko (.inl y)=j (.ref f)->∃c d,bd P w K b e (bh P w K b) 25 f c d (m1 K y)/\md K (.ref f)=H/\Binds K c d []
def J5:b2 ["flows","call","handed","answerer"] Y5 (bo w0):=⟨a,a,a,∅,a,∅,∅⟩
def VG{A:hQ}(F:bO K "answer_call" "answer_call" w0 f A)(ba:hl K mg)(r:Cq K mg)(Y:J4 P w K mg base):bd P w K mg base a7 26 f A Y5 (w1 K):=by
 refine F.ok J5 (λZ aa C B b=>?_) (λad D aE m aa Z C B n b=>?_);obtain⟨G,s,J,d,args,e,c,D,v,rfl,_⟩:=b;rfl;obtain⟨G,s,J,d,args,e,c,M,v,rfl,N,af,ah,O,R,S⟩:=b;have ai:(D.deeper (f3 "answer_call" (bo w0) m.heap.objs.size f ad)).units+1<e0:=by have:=n.units;omega
 refine⟨_,ay (bZ (k:=3) J5.nd a (aU a) (jP ai (bQ a r.gO (u:=.ref wX) a) (x 1) (λ_ _=>rfl))) (aA (Pp (cl:=λT=>_) (λT pn aF g aG=>aA (bx (Vw (e_:=λf V=>∃d:Int,cg ko (.inl d)=j (.ref f)/\V=m1 K d) (B:=T) (λf V ⟨d,aj,ak⟩=>by subst ak;exact Y d f aj) n (x 3) g (I (x 0) (I (x 2) ae))))) (pH r.oM a (λu=>aA (bx (dR (I (np nq bt) ae)))) (pH r.rC a (λu=>aA (bx (dR (I (np nq bt) ae)))) (pH ba.H3 a (λu=>aA (bx (dR (I (np nq bt) ae)))) (pH ba.H2 a (λu=>aA (bx (dR (I (np nq bt) ae)))) (pH ba.ns a (λu=>aA (bx (dR (I (np nq bt) ae)))) (pH ba.ok a (λu=>aA (bx (dR (I (np nq bt) ae)))) FR)))))) a a)),?_⟩;obtain⟨al,W⟩:=VD R;refine⟨_,a,wX,_,a,.inl ⟨ko,.inl d,O.wZ,a,W.symm⟩,?_⟩;refine⟨al,m1 K d,a,⟨d,W,a⟩,_,a,_,a,G,s,J,args,e,c,M,v,a,N,af,ah,O,R,λo i n q an h ao ap ar au g av=>S o q an h ao ap ar au g ?_ ?_,λy ax X p q m=>⟨ax,a,λaH _=>?_⟩⟩;have l:n3 (cQ c) e=(cQ o,.told i):=by unfold n3;rw[show wb (cQ c) e= .ok (cQ o,i)from n]
 rw[av];delta iE;rw[l];show j (aC.L (b' i))=j (aC.L (bS (i.map Int.ofNat)));delta b' bS;rw[fU];rfl;have l:n3 (cQ c) e=(cQ o,.told i):=by unfold n3;rw[show wb (cQ c) e= .ok (cQ o,i)from n]
 rw[l];have l:n3 (cQ c) e=(cQ c,.refused y):=by unfold n3;rw[show wb (cQ c) e= .error y from X]
 have bL:∀z:Int,z= -(y:Int)->∀h,q h=E->C (.ref h) (U q h (.L [.int z])):=λz az h g=>by refine S c _ s h M v (λaI aK aB _=>(Q.fresh g) _ _ (m _ _ aB)) ((N.same m).same (Q.fresh g)) (m.free g) ?_ (by rw[l]);rw[aw,az];delta iE;rw[l];rfl
 obtain rfl|rfl|rfl|rfl|rfl:=VB X;obtain rfl|⟨_,rfl⟩:=p;exact⟨λ_=>⟨_,a,YS,bL _ a⟩,λb=>aq a b⟩;exact⟨λb=>aq b nofun,λ_=>⟨λ_=>⟨_,a,YS,bL _ a⟩,λb=>aq a b⟩⟩;obtain rfl|⟨b,_⟩:=p;exact⟨λb=>aq b nofun,λ_=>⟨λb=>aq b nofun,λ_=>⟨λ_=>⟨_,a,YS,bL _ a⟩,λb=>aq a b⟩⟩⟩;cases b;obtain rfl|⟨b,_⟩:=p;exact⟨λb=>aq b nofun,λ_=>⟨λb=>aq b nofun,λ_=>⟨λb=>aq b nofun,λ_=>⟨λ_=>⟨_,a,YS,bL _ a⟩,λb=>aq a b⟩⟩⟩⟩;cases b;obtain rfl|⟨b,_⟩:=p;exact⟨λb=>aq b nofun,λ_=>⟨λb=>aq b nofun,λ_=>⟨λb=>aq b nofun,λ_=>⟨λb=>aq b nofun,λ_=>⟨λ_=>⟨_,a,YS,bL _ a⟩,λb=>aq a b⟩⟩⟩⟩⟩;cases b;obtain rfl|⟨b,_⟩:=p;exact⟨λb=>aq b nofun,λ_=>⟨λb=>aq b nofun,λ_=>⟨λb=>aq b nofun,λ_=>⟨λb=>aq b nofun,λ_=>⟨λb=>aq b nofun,λ_=>⟨λ_=>⟨_,a,YS,bL _ a⟩,λb=>aq a b⟩⟩⟩⟩⟩⟩;cases b
abbrev o1:=List (List Int)
structure J6 (m:Int) (s:List Int) (i p:List Int) (y:o1):Prop where
 Bx:(m=0\/m=8)->s=(i.length:Int)::(i++p)
 VH:¬(m=0\/m=8)->s=i++p/\cg o0 (.inl m)=j (.int (i.length:Nat))
 mm:i.length<=4000
 aR:∃aR,gD m i=j aR/\qe (k9 y)=j aR
variable{s p:List Int}
def VI{i:List Int}(d:VJ s=j (i,p)):s=(i.length:Int)::(i++p):=by
 cases s with
 |nil=>cases d
 |cons b s=>
  have d:(if 0<=b/\b.toNat<=s.length then j (s.take b.toNat,s.drop b.toNat)else E)=j (i,p):=d;by_cases c:0<=b/\b.toNat<=s.length;rw[as c]at d;cases d;rw[ID,ic];have:b=((min b.toNat s.length:Nat):Int):=by omega
  rw[<-this];rw[ag c]at d;cases d
def J7(d:(p.all λb=>Cr b 8)=H):∃c,m2 p=j c:=by unfold m2;rw[as ?_];exact⟨_,a⟩;unfold Vy;rw[l4]at d|-;intro b e;have:=d b e;unfold Cr at this;simp at this|-;omega
def VK{m:Int}(c:m=0\/m=8){y:o1}(d:qg i4 (m::s)=j (y,p)):∃i,y=[[m],i]/\s=(i.length:Int)::(i++p):=by
 simp only[qg,(by obtain rfl|rfl:=c<;>decide:i4 m=j (0,1)),s4,ig,qZ,Oh,VL]at d;cases b:VJ s with
 |none=>rw[b]at d;cases d
 |some e=>rw[b]at d;cases d;exact⟨e.1,a,VI b⟩
def VM{m:Int}(b:i4 m=j (o,0)){y:o1}(d:qg i4 (m::s)=j (y,p)):∃i,y=[m::i]/\s=i++p/\i.length=o:=by simp only[qg,b,VL]at d;split at d;cases d;cases d;exact⟨s.take o,a,(ID _ _).symm,by rw[ic];omega⟩
def VN{m:Int}{y:o1}(d:qg i4 (m::s)=j (y,p))(c:J8 (k9 y)=H):∃i,J6 m s i p y:=by
 by_cases e:m=0\/m=8;obtain⟨i,rfl,r⟩:=VK e d;have hw:k9 [[m],i]=[[m],i]:=by obtain rfl|rfl:=e<;>rfl
 rw[hw]at c;have l:i.length<=4000/\∃n,m2 i=j n:=by obtain rfl|rfl:=e;have c:((i.all λg=>Cr g 8)&&decide (i.length<=4000))=H:=c;rw[dQ]at c;exact⟨iF c.2,J7 c.1⟩;have c:((i.all λg=>Cr g 8)&&decide (i.length<=4000))=H:=c;rw[dQ]at c;exact⟨iF c.2,J7 c.1⟩
 obtain⟨o,n,q⟩:=l;refine⟨i,λ_=>r,λh=>aq e h,o,?_⟩;delta gD;rw[as e,hw];obtain rfl|rfl:=e;exact⟨.program n,by show(m2 i).map _=_;rw[q];rfl,by show(m2 i).map _=_;rw[q];rfl⟩;exact⟨.check n,by show(m2 i).map _=_;rw[q];rfl,by show(m2 i).map _=_;rw[q];rfl⟩;have bL:∀h,i4 m=j (h,0)->h<=3->cg o0 (.inl m)=j (.int (h:Nat))->(∀i:List Int,i.length=h->∃u,qe [m::i]=j u/\k9 [m::i]=[m::i])->∃i,J6 m s i p y:=λh w B x b=>by obtain⟨i,rfl,r,o⟩:=VM w d;obtain⟨u,l,z⟩:=b i o;refine⟨i,λg=>aq g e,λ_=>⟨r,by rw[o];exact x⟩,by omega,u,?_,by rw[z];exact l⟩;delta gD;rw[ag e];exact l
 have k:∀{i:List Int},i.length=1->∃f,i=[f]:=λ{i} d=>oT d;have v:∀{i:List Int},i.length=0->i=[]:=λ{i} d=>VO d;have A:m=1\/m=2\/m=3\/m=4\/m=5\/m=6\/m=7\/m=9\/m=10\/m=11\/m=12:=by
  have:i4 m≠E:=λg=>by simp only[qg,g]at d;cases d
  unfold i4 at this;by_cases d:m=1\/m=2\/m=3\/m=4\/m=5\/m=6\/m=7\/m=9\/m=10\/m=11\/m=12;exact d;exfalso;simp only[not_or]at d e;apply this;simp[d,e]
 obtain rfl|rfl|rfl|rfl|rfl|rfl|rfl|rfl|rfl|rfl|rfl:=A;exact bL 1 nofun nofun ∅ λi b=>by obtain⟨f,rfl⟩:=k b;exact⟨_,a,a⟩
 exact bL 1 nofun nofun ∅ λi b=>by obtain⟨f,rfl⟩:=k b;exact⟨_,a,a⟩
 exact bL 1 nofun nofun ∅ λi b=>by obtain⟨f,rfl⟩:=k b;exact⟨_,a,a⟩
 exact bL 1 nofun nofun ∅ λi b=>by obtain⟨f,rfl⟩:=k b;exact⟨_,a,a⟩
 exact bL 0 nofun nofun ∅ λi b=>by rw[v b];exact⟨_,a,a⟩
 exact bL 1 nofun nofun ∅ λi b=>by obtain⟨f,rfl⟩:=k b;exact⟨_,a,a⟩
 exact bL 0 nofun nofun ∅ λi b=>by rw[v b];exact⟨_,a,a⟩
 exact bL 3 nofun nofun ∅ λi b=>by obtain⟨f,C,y,rfl⟩:=Jm b;exact⟨_,a,a⟩
 exact bL 1 nofun nofun ∅ λi b=>by obtain⟨f,rfl⟩:=k b;exact⟨_,a,a⟩
 exact bL 1 nofun nofun ∅ λi b=>by obtain⟨f,rfl⟩:=k b;exact⟨_,a,a⟩
 exact bL 0 nofun nofun ∅ λi b=>by rw[v b];exact⟨_,a,a⟩
def VP{y:o1}(d:qe y=j aR)(h:a0):qh (cQ h) y=((n3 (cQ h) aR).1,iE h aR):=by unfold qh;rw[d];rfl
abbrev qi:be:=b3 118
def VQ:be->List be
 | .While _ b _ _=>b
 |_=>[]
def VR:List be:=VQ ((ly qi).getD 3 (.Pass ⟨0,0,0,0⟩))
def J9:List be:=VR.drop 2
theorem g0.kp{p:t}{f:z}{ah g:t}{h:List (Str×V)}(d:g0 c)(e:c p=j (.az ah g h))(r:dM p c f):g0 f:=
 ⟨bA.kp d.num e (λ_ _ _=>⋯) r,bA.kp d.n1 e (λ_ _ _=>⋯) r,bA.kp d.mU e (λ_ _ _=>⋯) r,bA.kp d.wZ e (λ_ _ _=>⋯) r,bA.kp d.c7 e (λ_ _ _=>⋯) r⟩
variable{e:t}
def VS{p:t}{b:z}{ah f:t}{g:List (Str×V)}{M:List V}(d:an K c e M)(h:c p=j (.az ah f g))(r:dM p c b):an K b e M:=by obtain d|d:=d;exact .inl (bA.kp d h (λ_ _ _=>⋯) r);exact .inr d
def tK{b:t}{C g:aC}{aN:List V}(s:bA c e C)(h:c b=j (.L aN)\/∃d,c b=j (.ci d (.L aN)))(i:∀n,C≠.L n)(cA:∀e u,C≠.ci e u):bA (U c b g) e C:=s.other λk=>by subst k;obtain f|⟨d,f⟩:=h<;>obtain s|⟨l,s⟩:=s<;>(rw[f]at s;cases s)<;>first|exact i _ rfl|exact cA _ _ rfl
def g0.bK{f:t}{b:aC}{aN:List V}(d:g0 c)(e:c f=j (.L aN)\/∃g,c f=j (.ci g (.L aN))):g0 (U c f b):=
 ⟨tK d.num e (λ_=>⋯) (λ_ _=>⋯),tK d.n1 e (λ_=>⋯) (λ_ _=>⋯),tK d.mU e (λ_=>⋯) (λ_ _=>⋯),tK d.wZ e (λ_=>⋯) (λ_ _=>⋯),tK d.c7 e (λ_=>⋯) (λ_ _=>⋯)⟩
def w2{b:t}{M:List V}{f:aC}(d:an K c e M)(g:an K (λ_=>E) e M\/e≠b):an K (U c b f) e M:=by obtain d|d:=d;obtain o|o:=g;obtain o|o:=o;obtain o|⟨_,o⟩:=o<;>cases o;exact .inr o;exact .inl (d.other o);exact .inr d
def VT{n i:List Int}{r:Nat}(d:n.drop r=i++p):oq (bS n) (j (r:Int)) (j ((r+i.length:Nat):Int))=bS i:=by have b:=dZ nv d;rw[uD,b4]at b;delta oq;rw[gu.yk,gu.yk];delta bS;rw[aV,<-Tl,<-IE];congr 1;by_cases c:r<=n.length;rw[VU c,d,VU (by omega),Tn,Ft];have e:i=[]:=VO (by omega);subst e;rw[Nat.min_eq_right (by omega:n.length<=r),FA,List.take_nil]
theorem gj.ci{l:z}{df:t}{h:a0}{p:t}{q:c4}{aj:av->List aI}{s:t}{A:Obj}{aN:List V}(d:gj c df h p q aj)(u:c s=j (.ci A (.L aN)))(r:dM s c l):gj l df h p q aj:=by
 have cJ:∀{g k},c g=j k->(∀m i,k≠.ci m i)->l g=j k:=λ{g k} v B=>r _ _ v (ct v u (B _ _));have w:∀{g i},bA c g i->(∀m C,i≠.ci m C)->(∀D,i≠.L D)->bA l g i:=λ{g i} e F G=>by obtain e|⟨k,e⟩:=e;exact .inl (cJ e F);exact .inr ⟨k,r _ _ e (ct e u λb=>by cases b;exact G _ a)⟩
 have y:∀{n o},TupAt c n o->TupAt l n o:=λ{n o} ⟨g,h,e⟩=>⟨g,h,w e (λ_ _=>⋯) (λ_=>⋯)⟩;obtain⟨I,J⟩:=d.az;have f:=d.tab;obtain⟨K,M,N,O⟩:=f.eX;obtain⟨x,P,Q⟩:=f.bi;obtain⟨R,S,T⟩:=f.rb;refine⟨⟨I,cJ J (λ_ _=>⋯)⟩,⟨cJ f.az (λ_ _=>⋯),⟨K,cJ M (λ_ _=>⋯),N,λU W X=>?_⟩,⟨x,cJ P (λ_ _=>⋯),Q.aG λ_ _ e=>y e⟩,⟨R,cJ S (λ_ _=>⋯),T.aG λ_ _ e=>y e⟩,cJ f.iR (λ_ _=>⋯),λY Z=>cJ (f.kb Y Z) (λ_ _=>⋯),f.inj,f.vD,f.nd,f.sub,w f.num (λ_ _=>⋯) (λ_=>⋯)⟩,d.L,d.dn⟩;obtain⟨m,aa,ad,ae,af,ah,ai,ak,al,an⟩:=O U W X;exact⟨m,aa,ad,ae,af,cJ ah (λ_ _=>⋯),ai,ak,al,cJ an (λ_ _=>⋯)⟩
def n4(c:z)(b df:t)(h:a0)(p:t)(d:c4)(aj:av->List aI):Prop:=∀(e:Obj) (f:List V),gj (U c b (.ci e (.L f))) df h p d aj
def n4.bK{b df:t}{h:a0}{p:t}{f:c4}{aj:av->List aI}{f4:List V}(d:n4 c b df h p f aj):n4 (U c b (.L f4)) b df h p f aj:=λi k=>(d i k).ci aw λl m g e=>by rw[aH e,aH e];rw[aH e]at g;exact g
inductive Cs(K:bG)(n:Ends)(o:bT.St)(c:z):Prop|mk:∀(e i b p:t) (r d:Nat) (s:Option V) (l:Int) (k f ax m:List Int) (aR:Cl) (g:a0) (u:c4) (v:av->List aI),o=[j (.ref e),j (.ref i),j (.ref b),j (.int (r:Nat)),j (.int l),j (.int (d:Nat)),j (.int ((d+f.length:Nat):Int)),s]->k.drop d=f++ax->n4 c b i g p u v->g0 c->an K c e (bS k)->c b=j (.L (bS m))->(an K (λ_=>E) e (bS k)\/e≠b)->f.length<=4000->gD l f=j aR->m.length+1+(iE g aR).length<=10000000->(∀(q:a0) (w:t) (x:c4) (y:av->List aI) (h:z) (A:Option V),n4 h b i q w x y->g0 h->an K h e (bS k)->h b=j (.L (bS (m++(((iE g aR).length:Int)::iE g aR))))->(n3 (cQ g) aR).1=cQ q->n.bb [j (.ref e),j (.ref i),j (.ref b),j (.int ((d+f.length:Nat):Int)),j (.int l),j (.int (d:Nat)),j (.int ((d+f.length:Nat):Int)),A] h)->Cs K n o c
def VV{X:bJ}(G:X.N=(YX:List Str))(n:X.env.scope=bo qi)(aI:cV 26 X.A)(aK:gN X "answer_call")(aL:gN X "len")(af:X.N.Nodup)(r:gt a7 X b9)(aM:X.mg "len"=E)(aN:bI X.prog X.w X.K X.mg X.base a7 26 "answer_call" Y5 (w1 X.K)):fZ X J9 (Cs X.K):=by
 intro aP aQ aR o aT aW s;have d:∀(k:Nat) {g:Str} {ah:Pos} (s:(YX:List Str)[k]?=j g) (ai:pb (bo qi) g) (u:(g==("__debug__":Str))=am) (aj:(g==("__classdict__":Str))=am),a8 X (.Name g ah) (cD k):=λk {g ah} s ai u aj=>x k (by rw[G];exact s) (by rw[n];exact ai) u aj;have aX:fZ X J9 _:=ay (Ff (bZ (k:=7) af (by rw[G];rfl) (by rw[n];exact aU a) (cA:=by rw[n];exact lA a) (bP (B:=b9) aN aI aK r (I (d 1 a (aU a) nofun nofun) (I (d 4 a (aU a) nofun nofun) (I (Ev EH (d 0 a (aU a) nofun nofun) (yl (d 5 a (aU a) nofun nofun)) (yl (d 6 a (aU a) nofun nofun))) ae))))))
  (ay (c' (fF fK hT iq hS (d 2 a (aU a) nofun nofun) (I (en fE aL aM e3 (I (d 7 a (aU a) nofun nofun) ae)) ae))) (ay (c' (fF fK ov ra qS (d 2 a (aU a) nofun nofun) (I (d 7 a (aU a) nofun nofun) ae))) (aA (bZ (k:=3) af (by rw[G];rfl) (by rw[n];exact aU a) (cA:=by rw[n];exact lA a) (d 6 a (aU a) nofun nofun)))))
 refine aX aP aQ aR o aT aW ?_;obtain⟨v,J,b,aY,k,bh,bi,aZ,M,g,ax,c,e,f,a0,a1,rfl,u,a2,a3,a4,ak,y,a6,a9,bj,a_⟩:=s;refine⟨b,_,ak,d5,λh=>?_⟩;have O:=a2 h (bS c);obtain⟨bk,z⟩:=O.az;have P:g0 (U o b (.ci h (.L (bS c)))):=a3.bK (.inl ak);have R:an X.K (U o b (.ci h (.L (bS c)))) v (bS M):=w2 a4 y;have C:(U o b (.ci h (.L (bS c)))) b=j (.ci h (.L (bS c))):=aw;generalize U o b (.ci h (.L (bS c)))=bl at O z P R C;refine⟨_,a,_,a,_,a,_,a,_,a,_,a,_,a,v,_,a,R,λba bb=>?_⟩;rw[VT u]at*;have i:=Q.fresh (q:=aC.L (bS g)) bb;refine⟨J,aY,ba,aZ,g,e,f,a0,a1,a,O.same i,an.au aw,a6,P.same i,a9,λS l T p V W Y bc r bd bf=>?_⟩;have Z:l b=j (.ci h (.L (bS c))):=Y _ _ (i _ _ C) (ct C z ⋯);refine⟨Z,?_⟩;have al:p≠b:=λaa=>by rw[aa,i _ _ C]at r;cases r
 have ao:n4 (U l b (.L (bS c))) b J S T V W:=λbn bp=>bc.ci Z λbr q bg ap=>by rw[aH ap,aH ap];exact bg
 have ar:g0 (U l b (.L (bS c))):=g0.bK (g0.kp (P.same i) (i _ _ z) Y) (.inr ⟨h,Z⟩);have av:an X.K (U l b (.L (bS c))) v (bS M):=w2 (VS (i.seq R) (i _ _ z) Y) y;have ad:(U l b (.L (bS c))) p=j (.L (bS (iE f e))):=by rw[aH al];exact bd
 have D:(U l b (.L (bS c))) b=j (.L (bS c)):=aw;generalize U l b (.L (bS c))=m at ao ar av ad D;have bs:(10000000:Nat)<aD:=by rw[ut];decide
 refine⟨_,a,.inl ⟨a,_,an.au D⟩,_,a,p,_,a,.inl (an.au ad),b,_,_,a,a,D,(by rw[p0];omega),?_⟩;have aB:(U m b (.L (bS c++[.int ((bS (iE f e)).length:Nat)]))) p=j (.L (bS (iE f e))):=by rw[aH al];exact ad
 have aE:g0 (U m b (.L (bS c++[.int ((bS (iE f e)).length:Nat)]))):=ar.bK (.inl D);have aF:n4 (U m b (.L (bS c++[.int ((bS (iE f e)).length:Nat)]))) b J S T V W:=ao.bK;have aG:an X.K (U m b (.L (bS c++[.int ((bS (iE f e)).length:Nat)]))) v (bS M):=w2 av y;have F:(U m b (.L (bS c++[.int ((bS (iE f e)).length:Nat)]))) b=j (.L (bS c++[.int ((bS (iE f e)).length:Nat)])):=aw;generalize U m b (.L (bS c++[.int ((bS (iE f e)).length:Nat)]))=bt at aB aE aF aG F;refine⟨_,a,.inl ⟨a,_,an.au F⟩,_,a,b,p,_,_,a,a,F,aB,(by rw[b4,p0,p0,fS];omega),?_⟩;refine⟨_,a,a_ S T V W _ _ aF.bK (aE.bK (.inl F)) (w2 aG y) ?_ bf⟩;rw[aw,p0];delta bS;rw[cS,eW];rfl
def VW{X:bJ}:gt (bh X.prog X.w X.K X.mg) X b9:=λ_ _ _ _ _ _ _ ⟨_,_,_,_,_,_,b,_⟩=>b.elim
def VX{n:List Int}(d:J_ n=H):∃b,qj i4 n.length n=j b/\(∀y∈b,J8 (k9 y)=H)/\(tL n).length<=10000000/\tL n=w3 (Ct qh (cQ (.num 0 0)) (b.map k9)):=by
 unfold J_ at d;cases c:qj i4 n.length n with
 |none=>rw[c]at d;cases d
 |some b=>rw[c]at d;simp only[dQ]at d;refine⟨b,a,λy f=>?_,iF d.2,?_⟩;have e:=d.1.2;unfold VacfabNeutral.asked at e;rw[dQ]at e;exact l4.mp e.1 _ (i8 f);unfold tL PyVacfab.calls;rw[c];rfl
def VY{f:Nat}{m:Int}{e:List o1}(d:qj i4 f (m::s)=j e):∃h y p c,qg i4 (m::s)=j (y,p)/\qj i4 h p=j c/\e=y::c:=by
 cases f with
 |zero=>cases d
 |succ f=>
  unfold qj at d;cases g:qg i4 (m::s)with
  |none=>rw[g]at d;cases d
  |some b=>
   rw[g]at d;obtain⟨y,p⟩:=b;dsimp only at d;cases b:qj i4 f p with
   |none=>rw[b]at d;cases d
   |some c=>rw[b]at d;cases d;exact⟨f,y,p,c,a,b,a⟩
def VZ{f:Nat}{b:List o1}(d:qj i4 f []=j b):b=[]:=by cases f<;>(cases d;rfl)
inductive w4(K:bG)(G:List V)(c:z)(d:aW)(h:bn):Prop|mk:∀(e:t) (b:List Int),G=[.ref e]->an K c e (bS b)->b.length<=17000->J_ b=H->g0 c->(∀(f:z) (g:t),f g=j (.L (bS (tL b)))->d (.ref g) f)->w4 K G c d h
def V0(e:List Int)(s:List (List Int)):w3 (e::s)=(e.length:Int)::(e++w3 s):=by unfold w3;rw[ds];rfl
inductive J'(K:bG)(n:List Int)(e df c:t)(v:Nat)(h:bT.St)(b:z):Prop|mk:∀(d f:Nat) (i:a0) (p:t) (l:c4) (m:av->List aI) (k:List Int) (g:List o1) (o q r s:Option V),v=n.length-d->h=[j (.ref e),j (.ref df),j (.ref c),j (.int (d:Nat)),o,q,r,s]->n4 b c df i p l m->g0 b->an K b e (bS n)->b c=j (.L (bS k))->qj i4 f (n.drop d)=j g->(∀y∈g,J8 (k9 y)=H)->k++w3 (Ct qh (cQ i) (g.map k9))=tL n->J' K n e df c v h b
def Cu(K:bG)(n:List Int)(e df b:t)(v:Nat)(c:bT.St)(d:z):Prop:=J' K n e df b v c d
def m3:b2 YX ZA (bo qi):=⟨a,a,a,∅,a,∅,∅⟩
def V1{ak:hQ}(F:bO K "answers" "answers" qi f ak)(T:cT K mg)(al:Cq K mg)(aX:∀c,ej K c tJ [.int 0,.int 8])(aY:kP P w K mg base (bh P w K mg) 25 e6 "Flows" ZB Bg)(aZ:bI P w K mg base a7 26 "answer_call" Y5 (w1 K)):
  bd P w K mg base a7 27 f ak ZA (w4 K):=by
 refine F.ok m3 (λa0 c a1 B h=>?_) (λa2 a3 b3 a4 c a0 a1 B S h=>?_);obtain⟨g,b,rfl,_⟩:=h;rfl;obtain⟨g,b,rfl,ao,b6,a6,W,a8⟩:=h;have a9:(a3.deeper (f3 "answers" (bo qi) a4.heap.objs.size f a2)).units+1<e0:=by have:=S.units;omega
 refine⟨_,ay (bZ (k:=1) m3.nd a (aU a) (PP (B:=b9) aY S a VW)) (ay (bZ (k:=2) m3.nd a (aU a) (dR ae)) (ay (bZ (k:=3) m3.nd a (aU a) bt) (ay (uo gx (b7 qI (x 3) (en fE a T.eP e3 (I (x 0) ae)) (cf _)) (ay (bZ (k:=4) m3.nd a (aU a) (bU cj (x 0) (x 3) (λ_ _=>rfl))) (ay (cp (b7 uI (x 4) (bQ a al.VF (u:=.ref tJ) a) a) (ay (bZ (k:=5) m3.nd a (aU a) (fD pj (x 3) bt)) (aA (bZ (k:=6) m3.nd a (aU a) (fD pj (x 5) (bU cj (x 0) (fD pj (x 3) bt) (λ_ _=>rfl)))))) (ay (bZ (k:=5) m3.nd a (aU a) (fD pj (x 3) bt)) (aA (bZ (k:=6) m3.nd a (aU a) (fD pj (x 5) (jP a9 (bQ a al.VE (u:=.ref wY) a) (x 4) (λ_ _=>rfl))))))) (VV a a S a a m3.nd bN T.eP aZ)))) (aA (bx (x 2)))))),?_⟩;obtain⟨a_,ba,bc,b_,bf⟩:=VX a6;intro i X ap bg bi;have Y:Q c (U (U c X (.own i)) i (.az e6 X [])):=(Q.fresh bg).new (by rw[aH (cU bi)];exact ap);refine⟨i,X,a,aw,(W.same Y).num,(W.same Y).n1,λv ar au av bj bk=>⟨a,?_⟩⟩;have Z:Q c v:=λaa q o=>bj aa q (Y aa q o) (ew o ap);refine⟨YR,λe G=>?_⟩;have aB:=Q.fresh (q:=aC.L []) G;have aE:n4 (U v e (.L [])) e i (.num 0 0) ar au av:=λb' ca=>bk.same λaa q o=>by rw[aH (ew o G),aH (ew o G)];exact o
 have aF:an K (U v e (.L [])) g (bS b):=(Z.trans aB).seq ao;have aG:=W.same (Z.trans aB);have aI:(U v e (.L [])) e=j (.L []):=aw;have bl:an K (λ_=>E) g (bS b)\/g≠e:=by obtain p|p:=ao;obtain p|⟨_,p⟩:=p<;>exact .inr (ew (Z _ _ p) G);exact .inl (.inr p)
 generalize U v e (.L [])=cc at aE aF aG aI;refine⟨Cu K b g i e,⟨b.length,0,b.length,.num 0 0,ar,au,av,[],a_,E,E,E,E,a,a,aE,aG,aF,aI,ba,bc,bf.symm⟩,?_⟩;rintro cd cg aK ⟨k,ci,y,bn,bp,br,ad,ck,cl,cn,co,aL,rfl,rfl,bs,aM,J,aN,M,aP,l⟩;refine⟨_,a,_,a,g,_,a,.inl J,_,_,a,a,_,a,?_⟩;dsimp only;rw[p0];by_cases af:k<b.length;rw[bw (by omega)];obtain⟨d,aQ⟩:∃d,b[k]?=j d:=⟨_,gE af⟩;have h2:b.drop k=d::b.drop (k+1):=by rw[u1 af];congr 1;exact(dP ((gE af).symm.trans aQ))
 rw[h2]at M;obtain⟨bu,r,ax,ah,z,A,rfl⟩:=VY M;obtain⟨n,N⟩:=VN z (aP r b8);obtain⟨aT,bA,bB⟩:=N.aR;rw[bz,show Ct qh (cQ y) (k9 r::ah.map k9)=(qh (cQ y) (k9 r)).2::Ct qh (qh (cQ y) (k9 r)).1 (ah.map k9)from rfl,VP bB,V0]at l;dsimp only at l;have bD:ad.length+1+(iE y aT).length<=10000000:=by have:=dZ nv l;rw[b4,cy,b4]at this;omega
 refine cm ⟨λC s=>∃D,D<b.length-k/\Cu K b g i e D C s,λC s h=>h,?_⟩;have bL:∀(ai:Ends) (m:Nat),(∀C s,(∃D,D<b.length-k/\Cu K b g i e D C s)->ai.bb C s)->b.drop m=n++ax->k<m->Cs K ai [j (.ref g),j (.ref i),j (.ref e),j (.int (k:Nat)),j (.int d),j (.int (m:Nat)),j (.int ((m+n.length:Nat):Int)),aL] aK:=λai m bF aW cs=>by refine⟨g,i,e,bn,k,m,aL,d,b,n,ax,ad,aT,y,bp,br,a,aW,bs,aM,J,aN,bl,N.mm,bA,bD,λbH bJ bK bP s ct aj bR bT bV bW=>bF _ _ ?_⟩;refine⟨b.length-(m+n.length),by omega,m+n.length,bu,bH,bJ,bK,bP,_,ah,_,_,_,_,a,a,aj,bR,bT,bV,?_,λr bX=>aP r (cv _ bX),?_⟩;rw[<-sK,aW,FC];exact A;rw[<-bW,eW];exact l
 have bY:(bS b)[k]?=j (V.int d):=by delta bS;rw[d2,aQ];rfl
 refine⟨_,a,_,a,g,_,_,_,a,a,J,dj bY,?_⟩;refine⟨_,a,tJ,_,a,.inr (aX _),a,a,_,a,?_⟩;have b0:kI (V.int d) [V.int 0,V.int 8]=decide (d=0\/d=8):=by delta kI;by_cases z:d=0;subst z;rfl;by_cases A:d=8;subst A;rfl;simp[mf,z,A,cU z,cU A]
 dsimp only;rw[ag dA,b0];by_cases O:d=0\/d=8;rw[bw O];have R:=N.Bx O;have aj:(bS b)[k+1]?=j (V.int (n.length:Nat)):=by delta bS;rw[d2,<-List.head?_drop,R];rfl
 have b1:b.drop (k+2)=n++ax:=by
  have:b.drop (k+2)=(b.drop (k+1)).drop 1:=by rw[sK]
  rw[this,R];rfl
 refine cm ⟨_,a,_,_,a,a,?_⟩;refine⟨_,a,_,a,_,a,_,_,a,a,g,_,_,_,a,a,J,dj aj,_,_,a,a,?_⟩;exact bL _ (k+2) (λ_ _ h=>h) b1 (by omega);rw[bq O];obtain⟨R,b2⟩:=N.VH O;refine cq ⟨_,a,_,_,a,a,?_⟩;refine⟨_,a,_,a,wY,_,a,.inl ⟨o0,.inl d,aM.c7,a,b2.symm⟩,_,_,a,a,?_⟩;exact bL _ (k+1) (λ_ _ h=>h) R (by omega);rw[bq (by omega)];rw[RB (by omega)]at M;have:=VZ M;subst this;have l:ad++[]=tL b:=l;rw[fT]at l;subst l;exact cq ⟨_,a,a8 aK e aN⟩
structure bV (K:bG) (i ao:Str) (st:be) (f:t) (aZ:List Str):Prop where
 ex:∃ai,bO K i ao st f ai/\∀aP:List ab,aP.length=aZ.length->yi ai ⟨aP,[]⟩=pure (aZ.zip aP)
section
variable{cc:hz}{r:Nat}{i ao:Str}{st:be}{ah:t}{aZ:List Str}{b0:f2}
def bV.dd(P:cN)(w:cr)(c:bM)(e:bV K i ao st f aZ)(v:mg i=j (.ref f))(d:∀b,bO K i ao st f b->bd P w K mg c cc r f b aZ b0):bI P w K mg c cc r i aZ b0:=
 let⟨b,F,g⟩:=e.ex
 ⟨⟨f,b,d b F,v,F.kp,.all g⟩⟩
def bV.o2(P:cN)(w:cr)(c:bM)(e:bV K i ao st f aZ)(y:ha K ah)(v:ia K (.ref ah) i=j (j (.ref f))/\lw K (.ref f)=H)(d:∀b,bO K i ao st f b->bd P w K mg c cc r f b aZ b0):eE P w K mg c cc r ah i aZ b0:=
 let⟨b,F,g⟩:=e.ex
 ⟨⟨f,b,d b F,⟨v.1,v.2,F.kp⟩,.all g⟩,y⟩
def bV.qk(P:cN)(w:cr)(c:bM){D:Str}(e:bV K i ao st f aZ)(v:mg D=j (.ref ah))(k:kC K ah f)(d:∀b,bO K i ao st f b->bd P w K mg c cc r f b aZ b0):kP P w K mg c cc r ah D aZ b0:=
 let⟨b,F,g⟩:=e.ex
 ⟨⟨f,b,d b F,k,.all g⟩,v⟩
end
def V2(d:cg ko (.inl y)=j (.ref f)):y=0\/y=1\/y=2\/y=3\/y=4\/y=5\/y=6\/y=7\/y=8\/y=9\/y=10\/y=11\/y=12:=by have:=ON d;simp[ko]at this;exact this
def kq{g:t}(d:cg ko (.inl y)=j (.ref f))(b:cg ko (.inl y)=j (.ref g)):f=g:=by rw[d]at b;cases b;rfl
def p6:∀args aR,gD 1 args=j aR->args.length=1/\aR=hk .node args:=λargs aR b=>qf (λ_=>rfl) (λc d=>by
 match c,d with
 |[],_=>rfl
 |[e],f=>exact aq a f
 |e::g::h,_=>rfl) b
def kE:∀args aR,gD 2 args=j aR->args.length=1/\aR=hk .name args:=λargs aR b=>qf (λ_=>rfl) (λc d=>by
 match c,d with
 |[],_=>rfl
 |[e],f=>exact aq a f
 |e::g::h,_=>rfl) b
def pX:∀args aR,gD 3 args=j aR->args.length=1/\aR=hk .parts args:=λargs aR b=>qf (λ_=>rfl) (λc d=>by
 match c,d with
 |[],_=>rfl
 |[e],f=>exact aq a f
 |e::g::h,_=>rfl) b
def V3:∀args aR,gD 4 args=j aR->args.length=1/\aR=hk .inside args:=λargs aR b=>qf (λ_=>rfl) (λc d=>by
 match c,d with
 |[],_=>rfl
 |[e],f=>exact aq a f
 |e::g::h,_=>rfl) b
def V4:∀args aR,gD 6 args=j aR->args.length=1/\aR=hk .callers args:=λargs aR b=>qf (λ_=>rfl) (λc d=>by
 match c,d with
 |[],_=>rfl
 |[e],f=>exact aq a f
 |e::g::h,_=>rfl) b
def V5:∀args aR,gD 10 args=j aR->args.length=1/\aR=hk .run args:=λargs aR b=>qf (λ_=>rfl) (λc d=>by
 match c,d with
 |[],_=>rfl
 |[e],f=>exact aq a f
 |e::g::h,_=>rfl) b
def V6:∀args aR,gD 11 args=j aR->args.length=1/\aR=hk .spare args:=λargs aR b=>qf (λ_=>rfl) (λc d=>by
 match c,d with
 |[],_=>rfl
 |[e],f=>exact aq a f
 |e::g::h,_=>rfl) b
def V7:∀args aR,gD 5 args=j aR->args.length=0/\aR=(λ_:List Int=>Vacfab.Call.arrows) args:=λargs aR b=>by
 cases args with
 |nil=>cases b;exact⟨a,a⟩
 |cons c d=>cases b
def V8:∀args aR,gD 7 args=j aR->args.length=0/\aR=(λ_:List Int=>Vacfab.Call.table) args:=λargs aR b=>by
 cases args with
 |nil=>cases b;exact⟨a,a⟩
 |cons c d=>cases b
def V9:∀args aR,gD 12 args=j aR->args.length=0/\aR=(λ_:List Int=>Vacfab.Call.size) args:=λargs aR b=>by
 cases args with
 |nil=>cases b;exact⟨a,a⟩
 |cons c d=>cases b
def V_:∀args aR,gD 9 args=j aR->args.length=3/\aR=rl args:=λargs aR b=>by
 match args,b with
 |[],b=>cases b
 |[c],b=>cases b
 |[c,d],b=>cases b
 |[c,d,e],b=>cases b;exact⟨a,a⟩
 |c::d::e::f::g,b=>cases b
structure Ka (K:bG) (mg:Str->Option ab):Prop where
 T:cT K mg
 bF:iu K mg
 ba:hl K mg
 w5:tv K mg
 i5:h6 K mg
 Kb:Cq K mg
 V':∀c,ej K c tJ [.int 0,.int 8]
 Wa:bV K "own_sort" "own_sort" zn 243 Zh
 Wb:mg "own_sort"=j (.ref 243)
 Wc:bV K "labels_of_kind" "labels_of_kind" zp 248 Zo
 Wd:mg "labels_of_kind"=j (.ref 248)
 We:bV K "list_own_needs" "list_own_needs" zq 236 Zw
 Wf:mg "list_own_needs"=j (.ref 236)
 Wg:bV K "list_sorts" "list_sorts" zr 229 Zw
 Wh:mg "list_sorts"=j (.ref 229)
 Wi:bV K "list_places" "list_places" zt 224 Zw
 Wj:mg "list_places"=j (.ref 224)
 Wk:bV K "has" "Table.has" zy 197 Y9
 Wl:ia K (.ref 215) "has"=j (j (.ref 197))/\lw K (.ref 197)=H
 Wm:bV K "put" "Table.put" zx 190 Y9
 Wn:ia K (.ref 215) "put"=j (j (.ref 190))/\lw K (.ref 190)=H
 Wo:bV K "sorts_at" "Table.sorts_at" zz 202 Zp
 Wp:ia K (.ref 215) "sorts_at"=j (j (.ref 202))/\lw K (.ref 202)=H
 Wq:bV K "labels_at" "Table.labels_at" zA 207 Y_
 Wr:ia K (.ref 215) "labels_at"=j (j (.ref 207))/\lw K (.ref 207)=H
 Ws:bV K "fact_count" "Table.fact_count" zD 212 ZB
 Wt:ia K (.ref 215) "fact_count"=j (j (.ref 212))/\lw K (.ref 212)=H
 Wu:bV K "__init__" "Table.__init__" zE 183 Zq
 Wv:mg "Table"=j (.ref 215)
 Ww:kC K 215 183
 Wx:bV K "steady_ways" "steady_ways" zG 286 Zh
 Wy:mg "steady_ways"=j (.ref 286)
 Wz:bV K "call_ways" "call_ways" zK 298 Y6
 WA:mg "call_ways"=j (.ref 298)
 WB:bV K "asked_ways" "asked_ways" zN 291 Zi
 WC:mg "asked_ways"=j (.ref 291)
 WD:bV K "ways_of" "ways_of" zQ 281 Zi
 WE:mg "ways_of"=j (.ref 281)
 WF:bV K "carry_all" "carry_all" zT 262 Zx
 WG:mg "carry_all"=j (.ref 262)
 WH:bV K "least_table" "least_table" zV 255 Zw
 WI:mg "least_table"=j (.ref 255)
 WJ:bV K "signs_of" "signs_of" z7 26 Zc
 WK:mg "signs_of"=j (.ref 26)
 WL:bV K "split_tokens" "split_tokens" z_ 118 ZC
 WM:mg "split_tokens"=j (.ref 118)
 WN:bV K "__init__" "Reader.__init__" Ad 76 Zj
 WO:mg "Reader"=j (.ref 100)
 WP:kC K 100 76
 WQ:bV K "look" "Reader.look" Ae 83 ZB
 WR:ia K (.ref 100) "look"=j (j (.ref 83))/\lw K (.ref 83)=H
 WS:bV K "take" "Reader.take" Af 90 ZB
 WT:ia K (.ref 100) "take"=j (j (.ref 90))/\lw K (.ref 90)=H
 WU:bV K "expect" "Reader.expect" Ag 97 Zr
 WV:ia K (.ref 100) "expect"=j (j (.ref 97))/\lw K (.ref 97)=H
 WW:bV K "__init__" "Node.__init__" Am 55 YY
 WX:mg "Node"=j (.ref 58)
 WY:kC K 58 55
 WZ:bV K "is_number" "is_number" An 160 Zy
 W0:mg "is_number"=j (.ref 160)
 W1:bV K "is_name" "is_name" Ap 167 Zy
 W2:mg "is_name"=j (.ref 167)
 W3:bV K "plain_node" "plain_node" Ar 132 Zk
 W4:mg "plain_node"=j (.ref 132)
 W5:bV K "read_kind" "read_kind" Av 146 ["reader"]
 W6:mg "read_kind"=j (.ref 146)
 W7:bV K "read_bound_name" "read_bound_name" Ax 153 Y1
 W8:mg "read_bound_name"=j (.ref 153)
 Kc:bV K "read_expression" "read_expression" v1 125 Y0
 Kd:mg "read_expression"=j (.ref 125)
 W9:bV K "read_brackets" "read_brackets" pW 139 Y0
 W_:mg "read_brackets"=j (.ref 139)
 W':bV K "read_program" "read_program" AF 111 ZC
 Xa:mg "read_program"=j (.ref 111)
 Xb:bV K "look_up" "look_up" AW 592 Zl
 Xc:mg "look_up"=j (.ref 592)
 Xd:bV K "require_kind" "require_kind" AX 599 Y3
 Xe:mg "require_kind"=j (.ref 599)
 Xf:bV K "tell_each" "tell_each" AY 620 Zv
 Xg:mg "tell_each"=j (.ref 620)
 Xh:bV K "tell_set" "tell_set" AZ 627 Zm
 Xi:mg "tell_set"=j (.ref 627)
 Xj:bV K "list_arrows" "list_arrows" A0 632 Zx
 Xk:mg "list_arrows"=j (.ref 632)
 Xl:bV K "answer_node" "answer_node" A7 646 Zd
 Xm:bV K "answer_name" "answer_name" A8 653 Zd
 Xn:bV K "answer_inside" "answer_inside" A_ 667 Zd
 Xo:bV K "answer_parts" "answer_parts" A9 660 Zd
 Xp:bV K "bytes_of" "bytes_of" Bc 19 ["signs"]
 Xq:mg "bytes_of"=j (.ref 19)
 Xr:bV K "answer_arrows" "answer_arrows" A' 674 Zd
 Xs:bV K "answer_size" "answer_size" Bb 715 Zd
 Xt:bV K "answer_callers" "answer_callers" Ba 679 Zd
 Xu:bV K "answer_program" "answer_program" Bd 639 Zs
 Xv:bV K "__init__" "Flows.__init__" Bf 578 ZB
 Xw:mg "Flows"=j (.ref 581)
 Xx:kC K 581 578
 Xy:bV K "place_word" "place_word" Bk 320 Zz
 Xz:mg "place_word"=j (.ref 320)
 XA:bV K "sort_word" "sort_word" Bl 327 ["sort"]
 XB:mg "sort_word"=j (.ref 327)
 XC:bV K "write_table" "write_table" Bm 332 Zx
 XD:mg "write_table"=j (.ref 332)
 XE:bV K "list_ways" "list_ways" Bq 274 Zx
 XF:mg "list_ways"=j (.ref 274)
 XG:bV K "first_lacking" "first_lacking" Br 269 Zx
 XH:mg "first_lacking"=j (.ref 269)
 XI:bV K "answer_table" "answer_table" Bt 686 Zd
 XJ:bV K "put_words" "put_words" By 346 Zt
 XK:mg "put_words"=j (.ref 346)
 XM:bV K "read_table" "read_table" BE 339 Zu
 XN:mg "read_table"=j (.ref 339)
 XO:bV K "answer_check" "answer_check" BG 693 Zs
 XP:bV K "find_round" "find_round" wr 360 Za
 XQ:mg "find_round"=j (.ref 360)
 XR:bV K "find_row" "find_row" ws 353 Y7
 XS:mg "find_row"=j (.ref 353)
 XT:bV K "require_sort" "require_sort" BQ 606 YZ
 XU:mg "require_sort"=j (.ref 606)
 XV:bV K "answer_why" "answer_why" BS 698 Zd
 XW:bV K "__init__" "Value.__init__" B2 388 Zb
 XX:mg "Value"=j (.ref 391)
 XY:kC K 391 388
 XZ:bV K "__init__" "Started.__init__" B3 409 Y8
 X0:mg "Started"=j (.ref 412)
 X1:kC K 412 409
 X2:bV K "__init__" "Run.__init__" B4 430 Y4
 X3:mg "Run"=j (.ref 433)
 X4:kC K 433 430
 X5:bV K "bind" "bind" wA 486 Y2
 X6:mg "bind"=j (.ref 486)
 X7:bV K "held_by" "held_by" B7 493 Ze
 X8:mg "held_by"=j (.ref 493)
 X9:bV K "come_to" "come_to" B8 451 Y'
 X_:mg "come_to"=j (.ref 451)
 X':bV K "make_held" "make_held" Ca 505 Zn
 Ya:mg "make_held"=j (.ref 505)
 Yb:bV K "hand_on" "hand_on" wG 512 Zn
 Yc:mg "hand_on"=j (.ref 512)
 Yd:bV K "give" "give" Cf 500 Zn
 Ye:mg "give"=j (.ref 500)
 Yf:bV K "finish" "finish" wM 465 Zn
 Yg:mg "finish"=j (.ref 465)
 Yh:bV K "come_to_body" "come_to_body" wN 479 Zn
 Yi:mg "come_to_body"=j (.ref 479)
 Yj:bV K "come_to_next" "come_to_next" Cg 472 Zn
 Yk:mg "come_to_next"=j (.ref 472)
 Yl:bV K "go_on" "go_on" wO 458 Zn
 Ym:mg "go_on"=j (.ref 458)
 Yn:bV K "run_program" "run_program" tI 444 Zf
 Yo:mg "run_program"=j (.ref 444)
 Yp:bV K "run_on" "run_on" Co 613 Zg
 Yq:mg "run_on"=j (.ref 613)
 Yr:bV K "answer_run" "answer_run" wT 703 Zd
 Ys:bV K "answer_spare" "answer_spare" wW 708 Zd
 Yt:bV K "answer_call" "answer_call" w0 725 Y5
 Yu:mg "answer_call"=j (.ref 725)
 Yv:bV K "answers" "answers" qi 732 ZA
def Yw(c:Ka K mg):∃b:hQ,(∀aP:List ab,aP.length=(ZA:List Str).length->yi b ⟨aP,[]⟩=pure ((ZA:List Str).zip aP))/\∀base:bM,bd P w K mg base a7 27 732 b ZA (w4 K):=by
 obtain⟨b,F,k⟩:=c.Yv.ex;refine⟨b,k,λbase=>?_⟩;have D:=c.Wa.dd P w base c.Wb λb F=>PY F c.T;have G:=c.Wc.dd P w base c.Wd λb F=>P2 F c.T;have m:=c.We.dd P w base c.Wf λb F=>P4 F c.T D;have n:=c.Wk.o2 P w base c.T.dV c.Wl λb F=>P_ F c.T;have x:=c.Wm.o2 P w base c.T.dV c.Wn λb F=>Qa F c.T n;have i:=c.Wo.o2 P w base c.T.dV c.Wp λb F=>Qb F c.T;have y:=c.Wq.o2 P w base c.T.dV c.Wr λb F=>Qc F c.T i;have z:=c.Ws.o2 P w base c.T.dV c.Wt λb F=>Qe F c.T;have I:=c.Wu.qk P w base c.Wv c.Ww λb F=>Qf F c.T (c.Wi.dd P w base c.Wj λb F=>P6 F c.T G) (c.Wg.dd P w base c.Wh λb F=>P5 F c.T m);have Z:=c.Wz.dd P w base c.WA λb F=>Qk F c.T y;have J:=c.WD.dd P w base c.WE λb F=>Qp F c.T (c.Wx.dd P w base c.Wy λb F=>Qh F c.T) (c.WB.dd P w base c.WC λb F=>Ql F c.T y Z);have L:=c.WH.dd P w base c.WI λb F=>Qu F c.T I m x (c.WF.dd P w base c.WG λb F=>Qq F c.T J i x);have M:=c.WJ.dd P w base c.WK λb F=>QU F c.bF;have o:=c.WS.o2 P w base c.bF.iv c.WT λb F=>Q5 F c.bF;have p:=c.WU.o2 P w base c.bF.iv c.WV λb F=>Q7 F c.bF o;have N:=c.WW.qk P w base c.WX c.WY λb F=>Rf F c.T;have aa:∀r,bI P w K mg base (bh P w K mg) (2*r+5) "read_expression" Y0 (ta r):=by
  intro r;induction r with
  |zero=>exact c.Kc.dd P w base c.Kd λb F=>Rv F c.bF 4
  |succ r ad=>have k:=c.W9.dd P w base c.W_ λb F=>RA F c.T c.bF (c.W5.dd P w base c.W6 λb F=>Rt F c.bF (c.WQ.o2 P w base c.bF.iv c.WR λb F=>Q4 F c.bF) o p) N (c.W7.dd P w base c.W8 λb F=>Ru F c.bF o p (c.W1.dd P w base c.W2 λb F=>Rj F c.T c.bF)) p ad;exact c.Kc.dd P w base c.Kd λb F=>Rw F c.T c.bF o (c.W3.dd P w base c.W4 λb F=>Rl F c.T c.bF (c.WZ.dd P w base c.W0 λb F=>Rh F c.T c.bF) N) k
 have O:=c.W'.dd P w base c.Xa λb F=>RF F c.T c.bF (c.WN.qk P w base c.WO c.WP λb F=>Q2 F c.bF) (c.WL.dd P w base c.WM λb F=>QZ F c.bF M) (aa 9) p;have A:=c.Xb.dd P w base c.Xc λb F=>Ss F c.T c.ba;have q:=c.Xd.dd P w base c.Xe λb F=>Sv F c.T c.ba A;have s:=c.Xf.dd P w base c.Xg λb F=>Sw F c.T;have u:=c.Xh.dd P w base c.Xi λb F=>Sz F c.T c.ba s i;have B:=c.Xj.dd P w base c.Xk λb F=>SA F c.T G y;have Q:=c.Xp.dd P w base c.Xq λb F=>SP F c.bF;have R:=c.Xy.dd P w base c.Xz λb F=>S6 F c.w5;have S:=c.XA.dd P w base c.XB λb F=>S8 F c.T c.w5;have U:=c.XC.dd P w base c.XD λb F=>S9 F c.T i R S Q;have V:=c.XE.dd P w base c.XF λb F=>Ta F c.T J;have W:=c.X5.dd P w base c.X6 λb F=>Uw F c.i5;have v:=c.X7.dd P w base c.X8 λb F=>Uy F c.i5;have C:=c.X9.dd P w base c.X_ λb F=>UA F c.i5 (c.XZ.qk P w base c.X0 c.X1 λb F=>Ut F c.i5);have X:=c.Yp.dd P w base c.Yq λb F=>Vk F c.T c.ba (c.Yn.dd P w base c.Yo λb F=>Vi F c.T c.i5 (c.X2.qk P w base c.X3 c.X4 λb F=>Uv F c.i5) C (c.Yl.dd P w base c.Ym λb F=>U7 F c.T c.i5 (c.Yj.dd P w base c.Yk λb F=>U5 F c.T c.ba c.i5 v C W (c.Yh.dd P w base c.Yi λb F=>U4 F c.T c.i5 v C W)) (c.Yf.dd P w base c.Yg λb F=>UY F c.T c.i5 (c.Yd.dd P w base c.Ye λb F=>UN F c.i5 D (c.Yb.dd P w base c.Yc λb F=>UI F c.T c.i5 v) (c.XW.qk P w base c.XX c.XY λb F=>Ur F c.i5) (c.X'.dd P w base c.Ya λb F=>UE F c.T c.ba c.i5 v)))));have ae:J4 P w K mg base:=by
  have g:∀{l:Str} {st:be} {d:t} {h:List Str} {r:Nat} {e:Int} (Y:bV K l l st d h),r<=25->(∀b,bO K l l st d b->bd P w K mg base (bh P w K mg) r d b h (m1 K e))->∃b h,bd P w K mg base (bh P w K mg) 25 d b h (m1 K e)/\md K (.ref d)=H/\Binds K b h []:=λ{l st d h r e} Y af ah=>by obtain⟨b,F,k⟩:=Y.ex;exact⟨b,h,(ah b F).aG af,F.kp,.all k⟩
  intro e d f;have ai:e=0\/e=1\/e=2\/e=3\/e=4\/e=5\/e=6\/e=7\/e=8\/e=9\/e=10\/e=11\/e=12:=V2 f;obtain rfl|rfl|rfl|rfl|rfl|rfl|rfl|rfl|rfl|rfl|rfl|rfl|rfl:=ai;rw[show d=639 from kq f ∅];exact g c.Xu (r:=25) nofun λb F=>Vz (SW F c.T c.ba L O z);rw[show d=646 from kq f ∅];exact g c.Xl (r:=4) nofun λb F=>n2 p6 (SF F c.T A u);rw[show d=653 from kq f ∅];exact g c.Xm (r:=4) nofun λb F=>n2 kE (SH F c.T q u);rw[show d=660 from kq f ∅];exact g c.Xo (r:=4) nofun λb F=>n2 pX (SM F c.T q u);rw[show d=667 from kq f ∅];exact g c.Xn (r:=4) nofun λb F=>n2 V3 (SJ F c.T q u);rw[show d=674 from kq f ∅];exact g c.Xr (r:=5) nofun λb F=>n2 V7 (SR F c.T c.ba s B);rw[show d=679 from kq f ∅];exact g c.Xt (r:=5) nofun λb F=>n2 V4 (SU F c.T c.ba q B);rw[show d=686 from kq f ∅];exact g c.XI (r:=4) nofun λb F=>n2 V8 (Tc F c.T c.ba U);rw[show d=693 from kq f ∅];exact g c.XO (r:=9) nofun λb F=>VA (TN F c.T c.ba (c.XM.dd P w base c.XN λb F=>TL F c.w5 I (c.XJ.dd P w base c.XK λb F=>TB F c.T c.w5 M R S x) U) (c.XG.dd P w base c.XH λb F=>Tb F c.T m n V i) z);rw[show d=698 from kq f ∅];exact g c.XV (r:=9) nofun λb F=>n2 V_ (Ud F c.T c.ba A (c.XT.dd P w base c.XU λb F=>T' F c.T c.ba n) (c.XR.dd P w base c.XS λb F=>T3 F c.T c.ba V m (c.XP.dd P w base c.XQ λb F=>TS F)) s);rw[show d=703 from kq f ∅];exact g c.Yr (r:=9) nofun λb F=>J2 V5 (Vr F c.T c.ba c.i5 X n B);rw[show d=708 from kq f ∅];exact g c.Ys (r:=9) nofun λb F=>J2 V6 (Vv F c.T c.ba c.i5 X i s);rw[show d=715 from kq f ∅];exact g c.Xs (r:=3) nofun λb F=>n2 V9 (SS F c.T c.ba z)
 exact V1 F c.T c.Kb c.V' (c.Xv.qk P w base c.Xw c.Xx λb F=>SY F c.ba L O Q) (c.Yt.dd P w base c.Yu λb F=>VG F c.ba c.Kb ae)
def lZ(w:cr):List iL->List (bY×V)->Prop:=br λb c=>ob c.1 b.key=H/\b.hash=xB w c.1/\RelV c.2 b.val
variable{a3:Type}
theorem YJ{P:List a3->Prop}(d:∀e,P [e]):∀aP:List a3,aP.length=1->P aP
 |[e],_=>d e
theorem YK{P:List a3->Prop}(d:∀e b,P [e,b]):∀aP:List a3,aP.length=2->P aP
 |[e,b],_=>d e b
theorem YL{P:List a3->Prop}(d:∀e b y,P [e,b,y]):∀aP:List a3,aP.length=3->P aP
 |[e,b,y],_=>d e b y
theorem YM{P:List a3->Prop}(d:∀e b y aa,P [e,b,y,aa]):∀aP:List a3,aP.length=4->P aP
 |[e,b,y,aa],_=>d e b y aa
def Yx{ap:List iL}{aB:List (bY×V)}(y:lZ w ap aB):∀h∈ap,∃r,ob r h.key=H/\h.hash=xB w r:=by
 induction y with
 |nil=>intro h b;cases b
 |cons c f d=>
  intro h b;cases b with
  |head=>exact⟨_,c.1,c.2.1⟩
  |tail _ e=>exact d h e
theorem Ke{P:cN}:∀{ap:List iL} {aB:List (bY×V)},lZ w ap aB->∃G,g6 aB G/\PySem.Pairs (ge P w) ap G/\G.map (λi=>i.1)=aB.map (λi=>i.1)
 |_,_,.nil=>⟨[],.nil,.nil,a⟩
 |c::_,d::_,.cons b e=>by obtain⟨G,f,g,h⟩:=Ke (P:=P) e;exact⟨(d.1,c.val)::G,.cons ⟨a,b.2.2⟩ f,.cons b.1 a g,by rw[bz,bz,h]⟩
def w6{d:bM}{ap:Array iL}{b:Nat}{aB:List (bY×V)}(g:d.get? e=j ⟨.type "dict",E,.dict ap b,#[]⟩)(h:(e==g7)=am)(k:aB.length<=100)(f:lZ w ap.toList aB)(l:(aB.map λi=>i.1).Nodup):ei P w c d e (.cH aB):=by obtain⟨m,n,o,p⟩:=Ke (P:=P) f;refine⟨b5 k nofun,h,m,n,_,ap,b,g,⟨a,a,a⟩,a,λq r=>?_,o,by rw[p];exact l⟩;exact Yx f q (Mg.mpr r)
variable{aa:Option t}{iJ:Array (Option ab)}
def Yy{d:bM}{p C:Tok}(b:d.get? e=j ⟨.type "tuple",aa,.seq #[.int 0 p,.int 0 C] o,iJ⟩):ei P w c d e (.aF [.int 0,.int 0]):=
 ⟨by show 2<=aD;decide,[.int 0 p,.int 0 C],.cons ⟨_,a⟩ (.cons ⟨_,a⟩ .nil),_,b,a,o,a⟩
noncomputable def ql(e:t):Option aC:=if e=27 then j (.cH pU)else if e=168 then j (.aF [.int 0,.int 0])else if e=361 then j (.cH fx)else if e=717 then j (.cH ko)else if e=718 then j (.cH o0)else E
def g1(K:bG):z:=λe=>match ql e with
 |some b=>(K.lookup e).map λc=>.ci c b
 |none=>E
def Cv{C:aC}(d:g1 K e=j C):∃q u,C= .ci q u/\K.lookup e=j q/\ql e=j u:=by
 unfold g1 at d;cases b:ql e with
 |none=>rw[b]at d;cases d
 |some u=>
  rw[b]at d;cases c:K.lookup e with
  |none=>rw[c]at d;cases d
  |some q=>rw[c]at d;cases d;exact⟨q,u,a,a,a⟩
def Cw{u:aC}(d:ql e=j u):(e=27/\u= .cH pU)\/(e=168/\u= .aF [.int 0,.int 0])\/(e=361/\u= .cH fx)\/(e=717/\u= .cH ko)\/(e=718/\u= .cH o0):=by
 unfold ql at d
 repeat' split at d
 all_goals first|(cases d;simp_all)|cases d
structure k_ (K:bG) (w:cr):Prop where
 n1:∃ap f7,K.lookup 27=j ⟨.type "dict",E,.dict ap f7,#[]⟩/\lZ w ap.toList pU
 sP:∃p C aa o iJ,K.lookup 168=j ⟨.type "tuple",aa,.seq #[.int 0 p,.int 0 C] o,iJ⟩
 mU:∃ap f7,K.lookup 361=j ⟨.type "dict",E,.dict ap f7,#[]⟩/\lZ w ap.toList fx
 sN:∃ap f7,K.lookup 717=j ⟨.type "dict",E,.dict ap f7,#[]⟩/\lZ w ap.toList ko
 c7:∃ap f7,K.lookup 718=j ⟨.type "dict",E,.dict ap f7,#[]⟩/\lZ w ap.toList o0
def YN{iW oP b c:Array iL}{d e f g:Nat}{p C:Tok}(gU:K.lookup 27=j ⟨.type "dict",E,.dict iW d,#[]⟩)(gV:K.lookup 168=j ⟨.type "tuple",aa,.seq #[.int 0 p,.int 0 C] o,iJ⟩)(nM:K.lookup 361=j ⟨.type "dict",E,.dict oP e,#[]⟩)(h:K.lookup 717=j ⟨.type "dict",E,.dict b f,#[]⟩)(i:K.lookup 718=j ⟨.type "dict",E,.dict c g,#[]⟩)(k:lZ w iW.toList pU)(l:lZ w oP.toList fx)(m:lZ w b.toList ko)(n:lZ w c.toList o0):k_ K w:=⟨⟨_,_,gU,k⟩,⟨_,_,_,_,_,gV⟩,⟨_,_,nM,l⟩,⟨_,_,h,m⟩,⟨_,_,i,n⟩⟩
def k_.Kf(r:k_ K w)(P:cN):vg K (g1 K) P w:=by
 obtain⟨iW,y,e,n⟩:=r.n1;obtain⟨z,A,B,C,D,f⟩:=r.sP;obtain⟨oP,F,g,o⟩:=r.mU;obtain⟨G,I,h,p⟩:=r.sN;obtain⟨J,L,i,q⟩:=r.c7;refine⟨λs u k=>?_,λM k c N s u v=>?_,a,a,a⟩;obtain⟨l,m,x,b,d⟩:=Cv k;refine⟨l,m,x,b,?_⟩;obtain⟨rfl,_⟩|⟨rfl,_⟩|⟨rfl,_⟩|⟨rfl,_⟩|⟨rfl,_⟩:=Cw d;rw[e]at b;cases b;show jb "dict"≠_;decide
 rw[f]at b;cases b;show jb "tuple"≠_;decide
 rw[g]at b;cases b;show jb "dict"≠_;decide
 rw[h]at b;cases b;show jb "dict"≠_;decide
 rw[i]at b;cases b;show jb "dict"≠_;decide
 obtain⟨l,m,rfl,b,d⟩:=Cv v;refine⟨c _ _ b,?_⟩;obtain⟨rfl,rfl⟩|⟨rfl,rfl⟩|⟨rfl,rfl⟩|⟨rfl,rfl⟩|⟨rfl,rfl⟩:=Cw d;exact w6 (c _ _ e) nofun nofun n ∅;exact Yy (c _ _ f);exact w6 (c _ _ g) nofun nofun o ∅;exact w6 (c _ _ h) nofun nofun p ∅;exact w6 (c _ _ i) nofun nofun q ∅
def k_.hj(r:k_ K w)(c:z):g0 (hg (g1 K) c):=by
 obtain⟨iW,o,g,p⟩:=r.n1;obtain⟨q,s,u,v,x,h⟩:=r.sP;obtain⟨oP,y,i,A⟩:=r.mU;obtain⟨B,C,k,D⟩:=r.sN;obtain⟨F,G,l,I⟩:=r.c7;have b:∀{d e f},K.lookup d=j e->ql d=j f->bA (hg (g1 K) c) d f:=λ{d e f} m n=>by
  have:g1 K d=j (.ci e f):=by unfold g1;rw[n,m];rfl
  exact .inr ⟨e,vh this⟩
 exact⟨b h a,b g a,b i a,b k a,b l a⟩
def k_.free(r:k_ K w){q:Obj}(n:K.lookup e=j q)(d:(∃f,q.data= .func f)\/(∃u,q.data= .fields u)\/∃y,q.data= .cls y):(fH K (g1 K)).lookup e=j q:=by
 rw[q3];cases b:g1 K e with
 |none=>exact n
 |some c=>exfalso;obtain⟨o,u,_,p,g⟩:=Cv b;obtain⟨iW,s,h,v⟩:=r.n1;obtain⟨x,c,z,A,B,i⟩:=r.sP;obtain⟨oP,C,k,D⟩:=r.mU;obtain⟨F,G,l,I⟩:=r.sN;obtain⟨J,L,m,M⟩:=r.c7;obtain⟨rfl,_⟩|⟨rfl,_⟩|⟨rfl,_⟩|⟨rfl,_⟩|⟨rfl,_⟩:=Cw g;rw[h]at n;cases n;obtain⟨_,d⟩|⟨_,d⟩|⟨_,d⟩:=d<;>cases d;rw[i]at n;cases n;obtain⟨_,d⟩|⟨_,d⟩|⟨_,d⟩:=d<;>cases d;rw[k]at n;cases n;obtain⟨_,d⟩|⟨_,d⟩|⟨_,d⟩:=d<;>cases d;rw[l]at n;cases n;obtain⟨_,d⟩|⟨_,d⟩|⟨_,d⟩:=d<;>cases d;rw[m]at n;cases n;obtain⟨_,d⟩|⟨_,d⟩|⟨_,d⟩:=d<;>cases d
def k_.fn(r:k_ K w){i ao:Str}{st:be}{aZ:List Str}{k:ab}{l c:Option t}{m:Array (Option ab)}{c9 doc d b e:ab}(n:K.lookup f=j ⟨k,l,.func (qN i ao (sM st) (ly st) (bo st) .none c9 doc d c b e),m⟩)(y:su K b ao=H)(o:∀(c9 doc d:ab) (c:Option t) (b e:ab) (aP:List ab),aP.length=aZ.length->yi (qN i ao (sM st) (ly st) (bo st) .none c9 doc d c b e) ⟨aP,[]⟩=pure (aZ.zip aP)):bV (fH K (g1 K)) i ao st f aZ:=by
 have h:=r.free n (.inl ⟨_,a⟩);have p:su (fH K (g1 K)) b ao=H:=by
  unfold su at y|-;cases b with
  |ref q=>
   dsimp only at y|-;cases g:K.lookup q with
   |none=>rw[g]at y;cases y
   |some s=>
    rw[g]at y;obtain⟨x,z,u,A⟩:=s;cases u with
    |fields B=>rw[r.free g (.inr (.inl ⟨_,a⟩))];exact y
    |_=>cases y
  |_=>cases y
 have v:md (fH K (g1 K)) (.ref f)=H:=by unfold md;dsimp only;rw[h]
 exact⟨_,(OM (st:=st) h p v),o _ _ _ _ _ _⟩
open PySem.W (Codec)
def YO{M:List V}{b:Array ab}(n:K.lookup e=j ⟨.type "tuple",aa,.seq b o,iJ⟩)(d:ql e=E)(f:b.size<=100)(g:bW M b.toList)(c:z):ej (fH K (g1 K)) c e M:=by
 refine .inr ⟨⟨.type "tuple",aa,.seq b o,iJ⟩,b,o,?_,a,a,b5 f nofun,g⟩;rw[q3];have:g1 K e=E:=by unfold g1;rw[d]
 rw[this];exact n
def YP{i:Str}{ah:t}(r:k_ K w){c ao b d e f sub g h k l m o p q}(v:mg i=j (.ref ah))(n:K.lookup ah=j (zc c ao ah b d u5 e f sub g h k l m o p q "Exception.__new__"))(s:OP (fH K (g1 K)) b=H)(u:OQ (fH K (g1 K)) b "__init__"=j E):ij (fH K (g1 K)) mg i ah:=
 ⟨v,c,ao,b,d,e,f,sub,g,h,k,l,m,o,p,q,r.free n (.inr (.inr ⟨_,a⟩)),s,u⟩
def YQ{ao:cN}{k:List Str}{l:(Str->Option ab)->bM->Prop}{h:cr->bM->Prop}{aa:DefRec}{K:oD->bG}(m:aa.params.defaults=[])(n:aa.name="answers")(o:∀(w:cr) (d:bM),h w d->(K w.params).In d)(b:∀w:cr,k_ (K w.params) w)(p:∀(w:cr) (mg:Str->Option ab) (d:bM),k_ (K w.params) w->(K w.params).In d->d.Ns oe mg->Ka (fH (K w.params) (g1 (K w.params))) mg/\mg "answers"=j (.ref 732)):
  PM ao k l h Cx aa [] (λf G=>PySem.call f G):=by
 refine bT.PL (s:=Cx) (r:=27) (K:=K) (cL:=λw=>g1 (K w.params)) (cc:=λ_ _=>a7) (aZ:=ZA) (b0:=λw=>w4 (fH (K w.params) (g1 (K w.params)))) ∅ m a ⟨a,nofun,nofun⟩ o (λw=>(b w).Kf _) ?_ ?_ (λ_ _ _ _ _ _ q=>q);intro w mg S d T u v i;obtain⟨e,g⟩:=p w mg d (b w) u v;rw[n,g]at i;cases i;obtain⟨x,y,F⟩:=Yw (P:=Cx.prog) (w:=w) e;exact⟨x,λU z A=>.of_eq (y z A),λB _ _=>F B⟩;intro w e V c W C D I J;cases J with
 |cons M N=>
  cases N;cases M with
  |L O g=>have Q:=bT.FY c.1 _ g;subst Q;have ao:((Codec.inLen 0 17000 c.1&&c.1.all (Codec.inInt (-1000000000000000000) 1000000000000000000))&&H)=H:=D;rw[dQ,dQ]at ao;refine⟨_,c.1,a,PJ ((b w).Kf Cx.prog) C O,(Codec.inNat_iff.mp ao.1.1).2,I,(b w).hj e,λX Y R=>.L (bT.an.au R) (bT.FX _)⟩
end e2
end
structure PySem.W.Fast:Prop where(tw4874138024456998740 tw9170715301962762414 tw17993514299919282826 tw14152913885086640882 tw9247794082324996729 tw17343574153676779272 tw12457262762954956309 tw896466949669813412 tw1113878581769751815 tw4401457884080685945 tw12708158583719882537 tw8442809703491977773 tw8504064870441376666 tw10526826978780406517 tw10749999234674204783 tw18222392904948835530 tw14834889411955756029 tw6623356064675705442 tw11958758339399874016 tw11299214154758091602 tw7030967658686113570 tw17180908151730321671 tw11572460244139825648 tw16675544020961255958 tw8877598535233047300 tw11056945280287615523 tw11999503553384497837 tw755682230658031090 tw6349456780035929107 tw317323373334186574 tw15805082171174158482 tw2505316380435971711 tw10662740897436895139 tw2837485701308518173 tw13414399611208161283 tw1883233245145270977 tw10759485040885323349 tw4632272861926104438 tw15441399880513950478 tw4246002288079570702 tw15129891373004092157 tw4239671087664096526 tw11702662707448215682 tw16600126739770891181 tw8523812729749342318 tw3873189797600809570 tw11644937332506851566 tw2378132676904727045 tw11554430465337011350 tw14837429890169713051 tw17121485633818011087 tw4802500522784495486 tw11473778113922072380 tw8062750803763094530 tw4318738192166309768 tw17593193343483820325 tw3475270681195908357 tw9507572358114084320 tw17720864060869650343 tw8264907842850084781 tw1278205853510083054 tw18131334810023927136 tw1699540705137025265 tw182364642911871407 tw3383322002732860603 tw2664404042826856179 tw14087926168687262156 tw9864605930308213993 tw3440525247208454563 tw1317036190250317461 tw7951192180344626300 tw16248623393976188343 tw12277515756612807154 tw7319727417382647977 tw775654547091716576 tw4157113411916274364 tw15374962258412121688 tw16199085061991321178 tw6161292485479761759 tw7026929671079442409 tw2231377263819042820 tw8926228228930335875 tw10728652353449195881 tw6981908004220575056 tw17171874784984088907 tw1132604985211185968 tw9137846634006882067 tw11094595426464008624 tw785551193835005425 tw18248096489164500738 tw61189898505235182 tw9345167041889912737 tw6534252517104220938 tw12630557937137403875 tw703289021195426512 tw12945596258284041640 tw8579789439957548829 tw6745427519216385051 tw13247440742788175117 tw11320656504457543738 tw186663765665194833 tw5540569923836567850 tw16257907415423273594 tw4623864213859843497 tw17173893953610268317 tw16101075166307625814 tw10045184590489695552 tw16031840668050455624 tw10757887895478014928 tw6857816925142731041 tw14436392236230584487 tw11339434155404994778 tw410031922462224207 tw10277731632786364256 tw11890976730009192880 tw1910487876202987569 tw10546557311110660219 tw14704769229148385792 tw10383350362606233015 tw13989217898049218469 tw17005634885009939678 tw2384972468615207592 tw6920614863140306143 tw778159048409309999 tw2166701121963196070 tw11347890876503720966 tw963379427068409997 tw12847834294627482667 tw13485542517379295895 tw1020128334561750974 tw16446106927090875160 tw4740739049808273481 tw10098802211153196792 tw3372297121110649690 tw9814007488772102910 tw2733086059072303108 tw10915047530813005438 tw4593281488907496032 tw15712800623042369728 tw10277176437653853992 tw12750223943684820851 tw16046707650620777211 tw6717184452638123353 tw11316447005037715963 tw2444169327299010488 tw8574352800087003434 tw15055177749445988258 tw10580589967219588388 tw8361477260226385188 tw13738104191481343487 tw15913457433986474660 tw8654887018781156904 tw9061831442431164559 tw13488343702225770426 tw6148350997322487244 tw1829131544643502784 tw12939963102424798569 tw3862908778541398514 tw10617953502313496517 tw17163980695570155437 tw12905438369830104023 tw17777473676169966472 tw2346079720382988712 tw17081978549911567837 tw18123995185264444401 tw6805219827744877280 tw10370862667284069071 tw787580294762882374 tw17857108136785599142 tw5045303209860855603 tw14446006347992253376 tw5320800933709172389 tw1333953090983628636 tw246812423195432792 tw14056909417381299940 tw16039716830328561960 tw16606482524274589431 tw14773510109796461647 tw9520210710820143574 tw1628145470877303764 tw2945532304992954865 tw203492862851426661 tw471850480440400204 tw9820447598327362179 tw6945877716190154199 tw1594907861108331738 tw3636887810386226678 tw13277673233679792361 tw5704259738801812646 tw1914569756809033744 tw1830314151058887279 tw14713328350147855857 tw3096354569975801633 tw18445811803060712910 tw397161228640442998 tw2801700838876331982 tw8703193692545695331 tw4701234716887897763 tw11458867512914685590 tw17258336166820571692 tw7538526490908739782 tw14338238491551404712 tw3111604765682605787 tw16298478785555874442 tw15287888433518487680 tw11808617533573694926 tw11267882241081072313 tw4932709626776736685 tw2318388888641347147 tw4163456822189054564 tw14007020950481293816 tw11839304728206285809 tw12658090970764664431 tw6216073495821488322 tw11301557376134035455 tw7518519549092756028 tw10073014113189167540 tw18424637032175342370 tw9866014646029540348 tw16869442609803992397 tw6682175004334650707 tw4246496298518677417 tw6969061689343015933 tw14999605767620350875 tw11166448811869735199 tw17740468581388985164 tw11865135639078479184 tw6788460163192896116 tw6380260141073400617 tw4206596901296706806 tw3878522632603312098 tw6762192263490064079 tw5416006668659286200 tw10746219471604620017 tw9465103716890225035 tw1131693417103808463 tw14323954231264733921 tw5976652260756568887 tw6422508490244725378 tw13647269167124212220 tw10460346555610268681 tw3424142320826971762 tw12707813966686741566 tw3722405732281679751 tw12866834065398193469 tw3246590618021788085 tw12975783545737602806 tw15535593707096984692 tw5047886370266559456 tw567464960439547360 tw16630532092095142491 tw14462624345815783852 tw3541965316670571794 tw17339996068954156855 tw12783175053044134182 tw10971962996029958977 tw5439668914758620784 tw10916997996614334482 tw14214157979644827273 tw15127844247358574292 tw927602343163780936 tw887611096900021937 tw15919425472803283554 tw7796691994423899159 tw14963021231761730418 tw17710694097398770308 tw10611513235726872818 tw6953539419691852515 tw2376613618159355957 tw5870549344188865744 tw18022993621534534884 tw15938993582487741298 tw16843217950873617800 tw16380332827473802941 tw1263216073149661268 tw7351133499460394751 tw11285428396141476823 tw9389131015457486971 tw246263810873398281 tw8548449265867508200 tw18060491183700585745 tw16596881340969718749 tw8394060777710631593 tw14343323850044769381 tw12756675565427183542 tw7820229899311778819 tw1339394819809785462 tw1761887600780397883 tw10685531780202807847 tw9969798114093682387 tw9012302043443113759 tw2769743102903211948 tw2861986434257278325 tw1650386480980038156 tw14696613013638195055 tw14943671882543779112 tw15589443358949530989 tw12016528841737803544 tw4816453975694423657 tw11619272453166769749 tw3885629881000591245 tw14835560650598645042 tw13308602242921714975 tw804759038622951349 tw1896931462553772047 tw17280539657147631414 tw7793430295229636564 tw191880544615755573 tw16428369353480333423 tw13843051636058677978 tw3367863496592712198 tw7988202529851594397 tw3089361734549572283 tw15976941836510247373 tw13108474324389459929 tw6923243956318283454 tw14670902964756963809 tw531793485344234689 tw2425272213652911789 tw11668645915213722560 tw2321878931138247824 tw7968983632008616863 tw14195706994984134965 tw10407703196322341046 tw7531598392444253506 tw15782624565704784390 tw11268108502287929939 tw3880257779837938076 tw3894558985911893936 tw9513509888242648170 tw3928070004134171726 tw16079330828231754662 tw16930177471843968318 tw7946629581911418554 tw11610228967465627167 tw1076459149219612653:True)
open PySem PySem.W PyProof.Rows
set_option maxHeartbeats 0 in
theorem PySem.Challenge.cw_leastflows_s01_answers_holds : PySem.Challenge.rw_leastflows_s01_answers.Holds := by
  w_on; k_headS; (case hw => exact ⟨[.list [.int 12]], by decide +kernel, by decide +kernel⟩)
  k_fillS
  refine e2.YQ rfl rfl (fun w h Y => PySem.W.kIn_of Y) (fun w => ?_) (fun w mg h k X G => ?_)
  · refine' e2.YN ?taga ?tagb ?tagc ?tagd ?tage ?tagf ?tagg ?tagh ?tagi
    (case taga => k_is); (case tagb => k_is); (case tagc => k_is); (case tagd => k_is); (case tage => k_is)
    (case tagh => repeat (first | exact bT.br.nil | refine bT.br.cons ⟨rfl, rfl, rfl⟩ ?_))
    all_goals repeat (first | exact bT.br.nil | refine bT.br.cons ⟨rfl, rfl, ⟨_, rfl⟩⟩ ?_)
  · refine ⟨?_, PySem.W.mg_of X G (by k_is)⟩
    constructor
    (case' T => constructor); (case' bF => constructor); (case' ba => constructor); (case' w5 => constructor); (case' i5 => constructor); (case' Kb => constructor)
    all_goals first
      | exact PySem.W.mg_of X G (by k_is)
      | exact ⟨_, PySem.W.mg_of X G (by k_is)⟩
      | exact PySem.W.mg_none_of X G (by k_is)
      | (refine' k.fn ?tagl ?tagc ?tagb; (case tagl => k_is); (case tagc => k_is); (case tagb => intro _ _ _ _ _ _; first | exact e2.YJ λ_=>rfl | exact e2.YK λ_ _=>rfl | exact e2.YL λ_ _ _=>rfl | exact e2.YM λ_ _ _ _=>rfl))
      | exact ⟨by kernel_rfl, by kernel_rfl⟩
      | exact ⟨by kernel_rfl, by kernel_rfl, by kernel_rfl, by kernel_rfl⟩
      | (show PySem.W.findIn _ _ _ = _; kernel_rfl)
      | (refine' e2.YP k ?tagm ?tagl ?tagp ?tagq; (case tagm => exact PySem.W.mg_of X G (by k_is)); (case tagl => k_is); (case tagp => kernel_rfl); (case tagq => kernel_rfl))
      | (refine' e2.YO ?tagl ?tagt ?tagz ?tagv; (case tagl => k_is); (case tagt => rfl); (case tagz => decide); (case tagv => repeat (first | exact .nil | refine .cons ⟨_, rfl⟩ ?_)))
