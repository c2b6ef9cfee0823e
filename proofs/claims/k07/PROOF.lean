import PyProof.Rows.All
import Wide.All
import OpenK.AllK
import Wide.FinOn
import Lean
import PyProof.EqAt
import PyProof.EqKinds
import PyProof.TupleCall
import PyProof.TupleKey
import PyProof.DictFindH
import PyProof.ExcAttrAll.ValueError
import PyProof.EnumMake
import PyProof.EnumStmt
import PyProof.Rows.EnumRows
import KE.KDictOf
import KE.KEqDict
import PyProof.Draws
import KE.KDictSum
import PyProof.Rows.SortStr
import PyProof.Rows.SetFrom
import PyProof.WalksMore
import PyProof.TupleIter
import PyProof.NeKinds
import KE.KItemsList
import KE.KSortKey
import PyProof.Rows.SortRunsK
import PyProof.ReprRoads
import PyProof.Rows.CallKwBuiltin
import PySem.Challenge.RW_runrows_k07_one_step
set_option Elab.async false
set_option linter.all false
set_option maxRecDepth 100000
set_option maxHeartbeats 4000000
local macro_rules (kind:=Lean.Parser.Command.declaration)
 |s=>if s.getPos?.isSome then return s.rewriteBottomUp (·.setInfo .none) else Lean.Macro.throwUnsupported
open PySem.W renaming Frag->j',mg_none_of->QW,OpenLaw->R1,methodCall_KW->SF,cellsFrom_some->Tw,plainGet->UO,callWith_K->UP,specialIn->Ua,kitx_dict->Ub,handedIn->Uk,takesIn->Ur,hasDictIn->Us,binds_K->Ut,KeysLit->Uu,mroIn->U7,WalkO->U8,makesIn->Vt,plainOver->V8,takerIn->XY
open PySem.Heap renaming get?_push_of_some->y',get?_push_size->K',lt_size->N',SameBut->Pl,size_push->Py,get?_update_self->P4,get?_update_other->P9,ExtBut->Ud,DictOfH->Vy
open Bool renaming false_ne_true->A',false_eq_true->Po,and_eq_true->Pu,not_true->RV,eq_iff_iff->SO,not_eq_true'->U5,true_and->Vm,or_false->Vn,false_or->Vo,beq_comm->Vp
open List renaming mem_cons->B',not_mem_nil->C',mem_cons_self->D',length_map->G',map_cons->O1,mem_append->O3,length_append->O4,mem_cons_of_mem->O5,mem_singleton->O6,getElem?_map->O7,mem_append_right->O8,getElem?_eq_getElem->O9,mem_map->O_,getElem?_eq_some_iff->PJ,size_toArray->PQ,lookup_cons->PV,mem_of_getElem?->PY,length_cons->Pb,map_map->Pe,append_nil->Pf,append_assoc->Ph,mem_append_left->Pn,length_singleton->P5,find?_cons->P7,getElem?_eq_none_iff->P8,getD_eq_getElem?_getD->QA,map_append->QB,map_nil->QC,any_cons->QJ,nodup_cons->QK,nodup_append->QP,map_congr_left->QR,lookup->QV,getElem?_append_left->Qf,range->Qj,prefix_refl->Qn,length_replicate->Qv,getElem?_append_right->Q0,zipWith->Q3,cons_append->Q4,filterMap_cons->Q_,all_cons->RE,mem_filterMap->RH,replicate->RJ,nodup_nil->RK,filterMap_append->RP,any_eq_true->RS,all_eq_true->RT,not_lt->RX,of_mem_zip->Ra,nil_append->Rb,forIn_cons->Rc,pairwise_cons->Rj,mem_range->Rk,filterMap_map->Rl,mem_of_find?_eq_some->Ru,pairwise_map->R0,length_filterMap_le->R5,length_take->R_,getElem?_replicate->R',getElem?_cons_succ->SA,mem_iff_getElem?->SS,getElem?_toArray->SU,forIn_nil->Sb,getElem?_range->Sl,prefix_append->So,find?_toArray->Sr,getElem?_inj->Sz,range'_succ->TH,getElem_mem->TJ,range'->TM,length->TN,mem_filter->TX,length_nil->TY,find?_some->TZ,isPrefixOf_iff_prefix->Tu,drop_eq_getElem_cons->T3,append_cancel_left->UG,take_of_length_le->UJ,getElem?_set_self->UK,perm_append_comm->UT,getElem?_zipWith->UU,length_take_le'->Ug,getElem?_set_ne->Uh,replicate_succ->Um,length_zipWith->Uo,mem_replicate->Uw,getElem?_set->U1,ext_getElem?->U2,any_eq_false->U3,zipIdx_cons->VA,take_length->VB,nodup_range->VC,length_drop->VD,drop_length->VE,zipIdx_nil->VL,length_set->VM,foldl_cons->VN,take_succ->VW,filterMap->VX,sum_cons->Vl,any_map->V1,all_map->V2
open PySem.Value renaming ref->F',none->QM,bool->Qh,str->Ql,isStrOf->RA,type->RG,int->Rf,isInt->S',float->Vv,bytes->Vw
open PySem renaming Program->O0,mainGlobals->PH,DictEntry->Pj,sysModules->Pm,FuncData->Pw,bootBuiltins->Px,swapsWith->QL,attributeBase->Qe,sizeLine_eq->Qk,wpAny_Call_Name_kw->Qw,mem_of_lookup->Q5,codeAny->RF,wpAny_passesOwn->Rm,typeIs_bool->Rq,standAt->Rw,Within->SE,wpAny_pyIter_enum->SH,wpAny_Call_method->SI,slot_dict_setitem->SJ,Keyword->SK,callWith->SV,wpAny_Assign_Subscript->Sd,firstArgMember->Su,concat_meets->Tc,callerA->Td,ZipApart->Te,NameKind->Tg,noFill_tuple_add->Tv,wpAny_execs_nil->UC,placesWithHash->UL,carriedByValue->UM,call_meets->UN,seq_tuple_add->Ui,call->Uj,wpAny_isTrue_Compare1->U6,dictEntries->VG,isSubtype_dict_dict->VO,wpAny_getItem_heap->VZ,wpAny_call->Va,wpAny_Name->Vb,entry_dict_setitem->Vc,closureFor->Vd,builtinsNs->Ve,slot_list_getitem->Vr,richCompare_gives->Vs,wpAny_pyIter_zip->V3,wpAny_execs_cons->V4,wpAny_Dict_empty->V5,dictEpoch->V6,PassesOwn->WA,wpAny_ite_split->WX,wpAny_Compare1->Wz,isSubtype_stop->W0,bindArgs->W2,IntMulOk->W3,GenState->W6,wpAny_in_heap->W_,evalPart_none->W',ExceptHandler->XS,operate->XW,callType_new->XX
open Nat renaming le_refl->O2,le_trans->PB,ne_of_lt->PR,le_of_ble_eq_true->PU,lt_of_lt_of_le->Pa,lt_of_le_of_lt->Pg,ne_of_gt->Pz,zero_le->P6,lt_succ_of_lt->QQ,lt_irrefl->Qa,le_add_right->Qo,add_le_add_right->Q1,le_of_lt->Q7,succ->RZ,succ_ne_self->SG,zero_add->SM,le_of_eq->SN,le_succ->Sf,add_le_add->Sg,succ_le_succ->TL,sub_zero->UQ,lt_trans->UR,lt_or_ge->US,ble_eq_true_of_le->Ue,add_sub_cancel->U0,le_succ_of_le->U',lt_succ_self->VJ,min_self->WS,beq->WT,div_one->Wy
open Option renaming getD_some->PM,isSome_iff_exists->Q9,map->R9,none->UI,isSome_map->Ul,getD_none->Uv,map_some->Uz
open Or renaming inl->PN,inr->Sk
open Array renaming length_toList->PZ,getElem?_eq_getElem->QF,getElem?_toList->QH,getElem?_eq_some_iff->Qz,eq_empty_of_size_eq_zero->RQ,mem_toList_iff->RW,toList_push->Rv,mem_of_getElem?->SQ,all_toList->S_,toArray_toList->UX,getElem_toList->UY,size_push->VF,toList->Vq
open PySem.Heap.SameBut renaming update->Pd,refl->RY
open PySem.Builtin.SmallTypes renaming nextOf->Pk,ownedTupleIsFree->QT,ownedTupleHandOut->Ri
open PySem.Txt renaming slice->Pp,split->QD,slice_le->V_
open Option.some renaming inj->Pq,injEq->UA
open ForInStep renaming yield->P0,done->Xf
open PySem.Around renaming under_plainId->P_,under->Sn
open PySem.Str renaming ofString->QE,join->RM,empty->XA
open PySem.F renaming slot_dict_itemiterator_next->QG,plain_extend_loop->Qd,plain_max_loop->Qq,slot_dict_get->Qs,slot_tuple_iterator_next->Q6,plainAttrs_dict->RC,args_tuple_add_2->Rn,slot_str_split->Ry,entry_tuple_add->Rz,slot_tuple_add->R6,entry_dict_get->R7,args_dict_itemiterator_next_1->SR,entry_dict_itemiterator_next->SX,slot_zip_next->Sa,slot_dict_items_iter->S3,args_str_split_2->S5,entry_str_split->TK,slot_dict_getitem->TU,entry_extend_loop->TV,slot_tuple_index->Th,slot_dict_update->Ti,entry_max_loop->Tj,slot_dict_items->Tp,plain_list_iadd->Tr,args_dict_get_2->Ts,slot_dict_iter->Tx,args_tuple_iterator_next_1->Tz,type_dict_get->T_,entry_tuple_iterator_next->T',slot_list_ne->UD,slot_dict_eq->UE,args_zip_next_1->VR,entry_zip_next->Vh
open PySem.Builtin.Str renaming strSliceIndices->QI,occurrences->Qg
open True renaming intro->QN
open Std.Legacy.Range renaming forIn_eq_forIn_range'->QO,size->Ss
open Ne renaming symm->QS
open PyProof.Rows renaming callWith_type1->QU,slot_tuple_getitem->Qp,AllBare->Se,subscriptTail_builtinR->Uy,Subscript_->Vk,callWith_builtin1->Wv,boot_isinstance->Ww,tail_any->W7,failedOf->W8,boot_enumerate->W9
open PUnit renaming unit->QX
open Int renaming toNat_natCast->QY,le_trans->UW,le_refl->Uq,emod_lt_of_pos->U4,emod_nonneg->VY,zero_add->WW
open PySem.Calls renaming callWith_builtin->QZ,spliced_cons->Qr,evalArgs_plain->Qy,spliced_nil->RI,Name_function_global->To
open False renaming elim->Qb
open PySem.Obj renaming mapSeq->Qc,data_mapDictKeys->Qi,isFreed_of_dict->Rh,mapDictKeys->Tf,data_mapFields->Ux,data_mapDict->VI
open PySem.Builtin.Dict renaming showsAll->Qm,mergeDict->Q8,quietEq->R4,entriesForEmpty->Sj,dictSlotArgs->Sw,updateFrom->S7,notOrdered->S9,samePairs->TF,selfAndRest->Wq,readDirectly->Wr,noArgs->Ws,merge->Wt,addKeywords->Wu
open PySem.Builtin.Slice renaming slicePlaces->Qt,sliceAdjust->RU,sliceApplied->Sm,slicePartIndex->WO,sliceFields->WQ
open PySem.PyData renaming hasDictAll->Qu,depthAll->RB,hasDict->Rg,depth->R8,showableAll->Sh,int->Si,shownAll->TB,showable->TC,eqv->TR,strOk->T8,shown->VP
open PySem.Builtin.Tuple renaming tupleExact->Qx,tupleItemsOf->WM,tupleHashOf->WN
open PySem.PassesOwn renaming never->Q2
open PySem.Builtin.Dict_items renaming ownsTuple->RD,ownedTupleIsFree->Ro,ownedTupleFields->Rp,pairFromOwner->R3,newIterator->U9,dictOf->U_
open Sum renaming inr->RL,inl->S0
open PySem.NameKind renaming free->RN,cell->SW
open PySem.Builtin.List renaming listExtendWith->RO,listSameRef->Sy
open PySem.Paired renaming length->Rr,snoc->Vf
open PySem.SeqAt.EqAt renaming same->Rx,str_str->T4,str_int->T5,int_str->T6,int_int->T7,tuple_str->XB,str_tuple->XC,str_none->XD,str_bool->XE,none_str->XF,none_int->XG,none_bool->XH,int_none->XI,int_bool->XJ,bool_str->XM,bool_none->XN,bool_int->XO,bool_bool->XQ
open PySem.Builtin.Builtins renaming bindParams->SY
open PySem.SeqAt renaming shaped->Sv,EqAt->V'
open List.Pairwise renaming imp_of_mem->Sx,nil->WU,imp->WV
open List.cons renaming inj->TQ
open Prod renaming ext->Tt
open PySem.Heap.DictOfH renaming new->T9
open Sum.inr renaming inj->UB
open PySem.Code renaming isFrame->UH,isGuard->Vz,frames->WL
open Array.Perm renaming refl->UZ
open PySem.Shared renaming TypeIs->VH
open PySem.Heap.IsTupleIter renaming «at»->VQ
open PySem.Bind renaming checkArgs->VS
open PyProof.Rows.LSm renaming range_all->VT,kept_iter->VU
open PySem.Heap.IsListIter renaming «at»->Vg
open PySem.Challenge renaming rw_runrows_k07_one_step->Vi,pw_runrows_k07_one_step->Vj
open PySem.W.WShape renaming has->Vu
open PySem.Heap.IsSliceOf renaming new->Vx
open PyProof.Rows.SortSt renaming mk'->V0
open PySem.Walks renaming list->V7
open PySem.W.Looks renaming here->V9
open PySem.Obj.ExactDict renaming mapDictKeys->WB
open PySem.EqMixed renaming ne_str_int->WC,ne_str_bool->WD,ne_int_str->WE,ne_bool_str->WG,eq_str_int->WH,eq_str_bool->WI,eq_int_str->WJ,eq_bool_str->WK
open PySem.Builtin.Range renaming rangeSize->WR
open PySem.Within renaming cons->WY
open PySem.W.WData renaming int->WZ
open PySem.Made renaming takes->Wa
open PySem.EqNone renaming ne_str_none->Wb,ne_none_str->Wc,ne_none_none->Wd,ne_none_int->We,ne_none_bool->Wf,ne_int_none->Wg,ne_bool_none->Wh,eq_str_none->Wi,eq_none_str->Wj,eq_none_none->Wk,eq_none_int->Wl,eq_none_bool->Wm,eq_int_none->Wn,eq_bool_none->Wo
open PyProof.Rows.IsTup renaming new->Wx
open PySem.Heap.IsList renaming push->W4
open PySem.Heap.DictOf renaming new->W5
open List.Nodup renaming sublist->XU
open PySem.Value.ref renaming injEq->XZ
open PySem.IsL renaming update->Xa
open PySem.DictEntry renaming refKey->Xb
open List.Perm renaming swap->Xc,refl->Xd,cons_inv->Xe
open PySem.W (instObj methodObj lookIn plainGet hasDictIn findIn plainGet_of isFn plainOver takerIn makesIn emptyDict keepIn callWith_K fnOf codeIn kitOne kitAny mapOf_K nsIn mg_of mg_none_of)
namespace HK
open PySem PySem.W PyProof.Rows
def pj(o:Obj):Option Obj:=match o with
 |⟨_,_,.freed,_⟩=>none
 |o=>some o
theorem get_look(h:Heap)(a:Addr):h.get? a=(h.objs.toList[a]?).bind pj:=by
 unfold Heap.get?
 rw[QH]
 cases h.objs[a]? with
 |none=>rfl
 |some o =>
  obtain⟨c,d,x,s⟩:=o
  cases x<;>rfl
noncomputable def pick (os:List Obj):Nat->List Addr->List (Option Obj) :=
 List.rec (motive:=λ_=>Nat->List Addr->List (Option Obj)) (λ_ as=>as.map λ_=>none)
  (λo _ b i as=>List.casesOn (motive:=λ_=>List (Option Obj)) as [] λa r=>cond (WT i a) (pj o::b (RZ i) r) (b (RZ i) (a::r))) os
def upB:Nat->List Addr->Bool
 |_,[]=>true
 |i,a::r=>Nat.ble i a&&upB (RZ a) r
theorem upB_mono:∀{as:List Addr} {i j:Nat},i<=j->upB j as=true->upB i as=true
 |[],_,_,_,_=>rfl
 |a::r,i,j,h,u=>by
  unfold upB at u ⊢
  rw[Pu] at u ⊢
  exact⟨Ue (PB h (PU u.1)),u.2⟩
theorem pick_of:∀(os:List Obj) (i:Nat) (as:List Addr),upB i as=true->pick os i as=as.map λa=>(os[a - i]?).bind pj
 |[],i,as,_=>by
  show as.map (λ_=>none)=_
  apply QR
  intro a _
  simp
 |o::os,i,[],_=>rfl
 |o::os,i,a::r,u=>by
  have m:=u
  unfold upB at u
  rw[Pu] at u
  have g:=PU u.1
  show cond (WT i a) (pj o::pick os (RZ i) r) (pick os (RZ i) (a::r))=_
  have step:∀l:List Addr,upB (RZ i) l=true->(l.map λa=>(os[a - RZ i]?).bind pj)=l.map λa=>((o::os)[a - i]?).bind pj:=by
   intro l f
   apply QR
   intro b hb
   have n:i+1<=b:=by
    clear u m g
    induction l generalizing i with
    |nil=>cases hb
    |cons c l j =>
     unfold upB at f
     rw[Pu] at f
     have h1:=PU f.1
     rcases B'.mp hb with rfl|hb
     ·exact h1
     ·exact PB (by omega) (j (i:=c) f.2 hb)
   rw[show b - i=(b - (i+1))+1 by omega]
   rfl
  cases e:WT i a with
  |true =>
   have:i=a:=Nat.eq_of_beq_eq_true e
   subst this
   show pj o::pick os (RZ i) r=_
   rw[pick_of os _ r u.2,step r u.2,O1,Nat.sub_self]
   rfl
  |false =>
   have ne:i≠a:=Nat.ne_of_beq_eq_false e
   show pick os (RZ i) (a::r)=_
   have h:upB (RZ i) (a::r)=true:=by
    unfold upB
    rw[Pu]
    exact⟨Ue (by omega),u.2⟩
   rw[pick_of os _ (a::r) h,step _ h]
noncomputable def fHook (K:Params->Frag)(as:List Addr)(e:∀P,as=(K P).map (·.1))(u:upB 0 as=true)(_:Unit):Hook :=
 ⟨List (Option Obj),λs=>pick s.heap.objs.toList 0 as,λw=>(K w.params).map λp=>some p.2,InK K,λw s x=>InK.of e w s (by
  rw[<- x,pick_of _ _ _ u]
  apply QR
  intro a _
  exact get_look _ _),InK.keeps⟩
theorem fIn_of{K:Params->Frag}{as:List Addr}{e:∀P,as=(K P).map (·.1)}{u:upB 0 as=true}{x:Unit}{w:World}{h:Heap}(Y:(fHook K as e u x).says w h):(K w.params).In h:=Y
end HK
set_option compiler.extract_closed false
namespace PySem.W.Fast
open Lean in
local macro_rules
 |`(universe $_) => do
  let w:=λs:String=>s.splitOn " "
  let e:=w "45 48 49 51 53 63 73 79 88 94 104 109 116 123 125 130 137 144 151 158 174 180 181 183 185 192 199 204 208 215 222 227 232 239 244 251 258 265 272 286 292 296 303 310 317 324 336 342 346 353 360 367 374 381 388 400 406 410 417 424 431 438 445 457 463 467 474 481 488 495 502 514 520 524 531 538 545 552 559 571 573 580 587 593 598 605 612 619 626 633 640 647 659 665 669 676 683 690 697 704 711 723 729 733 740 747 754 761 768 775 782 789 801 807 812 819 826 833 840 847 854 861 868 875 887 898 905 912 919 926 931 938 944 945 947 949 954 961 968 973 978 985 990 997 1004 1011 1018 1025 1032 1034"
  let n:=w "env_42 heap_39 heap_47 heap_1038 sts_50 sts_72 sts_87 sts_122 sts_182 sts_198 sts_285 sts_335 sts_399 sts_456 sts_513 sts_570 sts_586 sts_658 sts_722 sts_800 sts_886 sts_946 sts_1031 tree_48 tree_71 tree_86 tree_121 tree_179 tree_197 tree_284 tree_334 tree_398 tree_455 tree_512 tree_569 tree_585 tree_657 tree_721 tree_799 tree_885 tree_943 tree_1030 tree_1037 view_39"++((List.range 994).filterMap λi=>let s:=toString (i+44);if e.contains s then none else some ("o_"++s))
  return mkNullNode (←n.toArray.mapM λs=>`(def $(mkIdent (.mkSimple ("tw"++toString (Name.mkStr `HK.hd s).hash))):ident:True:=trivial))
universe x
def tw16633712808747183294:True:=trivial
def tw18316236355828168290:True:=trivial
end PySem.W.Fast
namespace HK
open PySem PySem.W PyProof.Rows
local macro_rules
 | `(tactic| o_head ($_:ident $k $a $e)) => `(tactic| o_head (HK.fHook $k $a $e (by decide +kernel) ()))
 | `(tactic| o_head ($_:ident $k $a $e $_)) => `(tactic| o_head (HK.fHook $k $a $e (by decide +kernel) ()))
set_option maxHeartbeats 0 in
open_top hd for PySem.Challenge.rw_runrows_k07_one_step
end HK
noncomputable section
open Lean Parser Syntax in
local macro_rules
 |`(def $i:declId $s:optDeclSig $v:declVal)=>`(noncomputable def $i:declId $s:optDeclSig $v:declVal)
 |`(abbrev $i:declId $s:optDeclSig $v:declVal)=>`(noncomputable abbrev $i:declId $s:optDeclSig $v:declVal)
local macro_rules
 |`(tactic|omega)=>`(tactic|first|decide|with_reducible first|exact Nat.le_refl _|assumption|exact Nat.le_add_right _ _|exact Nat.le_add_left _ _|exact Nat.zero_le _|exact Nat.succ_pos _|exact Nat.le_of_lt (by assumption)|exact Nat.le_succ_of_le (by assumption)|omega +splitNatSub)
open Lean Parser Syntax in
local macro_rules (kind:=Lean.Parser.Term.fun)
 |s=>do
  let ok:=λp:Syntax=>p.isOfKind ``Term.anonymousCtor&&(p.find? λn=>[``Term.app,``Term.dotIdent,``Term.typeAscription,`num,``Term.paren,`«term_+_»].contains n.getKind).isNone
  let bs:=s[1][0].getArgs
  unless s[0].getAtomVal=="fun"&&bs.any ok do Macro.throwUnsupported
  let P:=λk a=>mkNode (`Lean.Parser.Tactic++k) a
  let t:=λn:Syntax=>if n.isIdent then (P `rcasesPat.one #[n]:Syntax) else if n.isOfKind ``Term.hole then P `rcasesPat.ignore n.getArgs else if n.isOfKind ``Term.anonymousCtor then P `rcasesPat.tuple #[n[0],mkNullNode (n[1].getArgs.map λa=>if a.isAtom then a else P `rcasesPatLo #[P `rcasesPatMed #[mkNullNode #[a]],mkNullNode]),n[2]] else n
  let mut c:=#[]
  let mut r:=⟨s[1][3]⟩
  for x in bs.reverse do
   let y:=mkIdent (.mkSimple ("_"++toString c.size))
   if ok x then
    if (s[1][3].find? (·.isOfKind ``Term.syntheticHole)).isSome then
     let a:=x[1].getSepArgs
     let z:=λi=>if i==0 then y.getId else Name.mkSimple ("_z"++toString i)
     for j in [1:a.size] do
      let i:=a.size-1-j
      r←`($(mkIdent (z i++`casesOn)) fun $(⟨a[i]!⟩) $(if j==1 then ⟨a[i+1]!⟩ else mkIdent (z (i+1)))=>$r)
    else r←`(by obtain $(⟨x.rewriteBottomUp t⟩):rcasesPat:=$y;exact $r)
    c:=#[y.1]++c
   else c:=#[x]++c
  return s.setArg 1 (s[1].setArg 0 (mkNullNode c)|>.setArg 3 r)
open PySem PySem.Spec PyProof.Rows
theorem a8(h:True:=by rfl):True:=h
namespace a8
end a8
open a8 renaming _auto_1->a9
theorem b5(h:True:=by decide):True:=h
namespace b5
end b5
open b5 renaming _auto_1->b7
theorem b8(h:True:=by k_is):True:=h
namespace b8
end b8
open b8 renaming _auto_1->c5
theorem c6(h:True:=by intro _;rfl):True:=h
namespace c6
end c6
open c6 renaming _auto_1->c7
theorem c9(h:True:=by first|exact .inl rfl|exact .inr rfl|assumption):True:=h
namespace c9
end c9
open c9 renaming _auto_1->dA
theorem dB(h:True:=by decide +kernel):True:=h
namespace dB
end dB
open dB renaming _auto_1->dI
namespace L2
abbrev Key:=Sum Int Str
def qz:Key->Value->Bool
 |.inl k,v=>S' k v
 |.inr x,v=>RA x v
def NF(w:World):Key->Int
 |.inl k=>hashInt k
 |.inr x=>hashStr w x
def bX:∀{k:Key} {v:Value},qz k v=true->(∃i t,k=S0 i/\v=Rf i t)\/(∃x t,k=RL x/\v=Ql x t)
 |.inl i,v,h=>by
  obtain⟨t,e⟩:=Value.isInt_shape (k:=i) (v:=v) h
  exact .inl ⟨i,t,rfl,e⟩
 |.inr x,v,h=>by
  obtain⟨t,e⟩:=Value.isStrOf_shape (x:=x) (v:=v) h
  exact .inr ⟨x,t,rfl,e⟩
def zf(i:Int)(t:Tok):qz (.inl i) (.int i t)=true:=by simp[qz,S']
def zg(x:Str)(t:Tok):qz (.inr x) (.str x t)=true:=by simp[qz,RA]
def IV(a b:Int):decide ((S0 a:Key)=S0 b)=(a == b):=by
 by_cases e:a=b
 ·subst e;simp
 ·have h:¬ (S0 a:Key)=S0 b:=λq=>e (Sum.inl.inj q)
  rw[decide_eq_false h]
  exact(beq_eq_false_iff_ne.mpr e).symm
def IY(a b:Str):decide ((RL a:Key)=RL b)=decide (a=b):=by
 by_cases e:a=b
 ·subst e;simp
 ·have h:¬ (RL a:Key)=RL b:=λq=>e (UB q)
  rw[decide_eq_false h,decide_eq_false e]
def IW(a:Int)(b:Str):decide ((S0 a:Key)=RL b)=false:=decide_eq_false (λq=>nomatch q)
def IX(a:Str)(b:Int):decide ((RL a:Key)=S0 b)=false:=decide_eq_false (λq=>nomatch q)
def bB(prog:O0)(w:World):PySem.KeyKind prog w Key where
 is:=qz
 hash:=NF w
 inj:=λv a b m g=>by
  rcases bX m with⟨i,t,rfl,rfl⟩|⟨x,t,rfl,rfl⟩
  ·rcases bX g with⟨j,u,rfl,e⟩|⟨y,u,rfl,e⟩
   ·injection e with c _;rw[c]
   ·exact nomatch e
  ·rcases bX g with⟨j,u,rfl,e⟩|⟨y,u,rfl,e⟩
   ·exact nomatch e
   ·injection e with c _;rw[c]
 byValue:=λk v h=>by
  rcases bX h with⟨i,t,rfl,rfl⟩|⟨x,t,rfl,rfl⟩<;>rfl
 pyHash:=λf h=>by
  rcases bX f with⟨i,t,rfl,rfl⟩|⟨x,t,rfl,rfl⟩
  ·exact wpAny_pyHash_int h
  ·exact wpAny_pyHash_str h
 eqBool:=λl f h=>by
  rcases bX l with⟨i,t,rfl,rfl⟩|⟨x,t,rfl,rfl⟩
  ·rcases bX f with⟨j,u,rfl,rfl⟩|⟨y,u,rfl,rfl⟩
   ·rw[IV] at h;exact wpAny_eqBool_int h
   ·rw[IW] at h;exact T6 i t y u _ _ _ _ h
  ·rcases bX f with⟨j,u,rfl,rfl⟩|⟨y,u,rfl,rfl⟩
   ·rw[IX] at h;exact T5 x t j u _ _ _ _ h
   ·rw[IY] at h;exact wpAny_eqBool_str h
 «strs»:=λk x t v h=>by
  rcases bX h with⟨i,u,rfl,e⟩|⟨y,u,rfl,e⟩
  ·exact nomatch e
  ·injection e with c _
   subst c
   cases v<;>rfl
def vG(prog:O0)(w:World)(i:Int)(t:Tok):(bB prog w).is (.inl i) (.int i t)=true:=zf i t
def vH(prog:O0)(w:World)(x:Str)(t:Tok):(bB prog w).is (.inr x) (.str x t)=true:=zg x t
inductive V where
 |ah|bl (b:Bool)|int (i:Int)|str (x:Str)|wC (b:Array UInt8)|Me (b:UInt64)|ref (a:Addr)|ty (n:String)
 deriving DecidableEq
def RelV:V->Value->Prop
 |.ah,u=>u=QM
 |.bl b,u=>u=Qh b
 |.int i,u=>∃t,u=Rf i t
 |.str x,u=>∃t,u=Ql x t
 |.wC b,u=>∃t,u=Vw b t
 |.Me b,u=>∃t,u=Vv b t
 |.ref a,u=>u=F' a
 |.ty n,u=>u=RG n
abbrev Vals:List V->List Value->Prop:=Paired RelV
def Vals.length{xs:List V}{us:List Value}(r:Vals xs us):xs.length=us.length:=Rr r
def Vals.get:∀{xs:List V} {us:List Value} {i:Nat} {x:V},Vals xs us->xs[i]?=some x->∃u,us[i]?=some u/\RelV x u
 |_,_,_,_,.nil,e=>by simp at e
 |_,_,0,_,.cons r _,e=>by simp at e;subst e;exact⟨_,rfl,r⟩
 |_,_,i+1,x,.cons _ t,e=>by
  obtain⟨u,h1,a⟩:=Vals.get (i:=i) (x:=x) t (by simpa using e)
  exact⟨u,by simpa using h1,a⟩
def Vals.append:∀{xs ys:List V} {us a:List Value},Vals xs us->Vals ys a->Vals (xs++ys) (us++a)
 |_,_,_,_,.nil,s=>s
 |_,_,_,_,.cons r t,s=>.cons r (Vals.append t s)
def Vals.take:∀{xs:List V} {us:List Value} (n:Nat),Vals xs us->Vals (xs.take n) (us.take n)
 |_,_,0,_=>.nil
 |_,_,_+1,.nil=>.nil
 |_,_,n+1,.cons r t=>.cons r (Vals.take n t)
def Vals.drop:∀{xs:List V} {us:List Value} (n:Nat),Vals xs us->Vals (xs.drop n) (us.drop n)
 |_,_,0,r=>r
 |_,_,_+1,.nil=>.nil
 |_,_,n+1,.cons _ t=>Vals.drop n t
def gN:Option V->Option Value->Prop
 |some v,some u=>RelV v u
 |none,none=>True
 |_,_=>False
def KV{κ:Type}:List (κ × V)->List (κ × Value)->Prop:=Paired fun(p:κ × V) (q:κ × Value)=>p.1=q.1/\RelV p.2 q.2
def kV:Key->V
 |.inl i=>.int i
 |.inr x=>.str x
inductive HO where
 /-- a list -/
 |lst (xs:List V)
 /-- a tuple (never changes) -/
 |tup (xs:List V)
 /-- a dict whose keys are ints and texts;one whose keys are tuples of ints and texts (the empty one is both) -/
 |dK (kvs:List (Key × V))|dT (kvs:List (List Key × V))
 /-- a set of ints: its members,its size -/
 |set (S:Int->Bool) (n:Nat)
 /-- an instance of the class at C,its dict at dx,its attributes -/
 |ins (C dx:Addr) (fs:List (Str × V))
 /-- the dict of the instance at x -/
 |own (x:Addr)
 /-- the dict of an exception -/
 |xd (fs:List (Str × V))
 /-- a bound method,f of x -/
 |met (f x:Addr)
 /-- a range object lo,lo+1,.. below hi -/
 |Na (lo hi:Int)
 /-- a thing that is known to the object (the script;a dict while a loop walks it): read,never written while it is so -/
 |BZ (o:Obj) (u:HO)
 /-- a code object's table -/
 |HM (ps:Array Value)
 /-- any other thing,by what is true of its one object (a def of one's own: OT a S n:=HO.ext λh=>..) -/
 |ext (φ:Heap->Prop)
abbrev Hp:=Addr->Option HO
def upd(H:Hp)(a:Addr)(o:HO):Hp:=λb=>if b=a then some o else H b
def aI{H:Hp}{a:Addr}{o:HO}:upd H a o a=some o:=by unfold upd;rw[if_pos rfl]
def aL{H:Hp}{a b:Addr}{o:HO}(h:b≠a):upd H a o b=H b:=by unfold upd;rw[if_neg h]
def oz{H:Hp}{a:Addr}{o u:HO}:upd (upd H a o) a u=upd H a u:=by
 funext b;unfold upd;split<;>rfl
def LW{H:Hp}{a b:Addr}{o u:HO}(h:H a=some o)(h':H b=some u)(d:o≠u):a≠b:=by
 intro e;subst e;rw[h] at h';exact d (Pq h')
def bD{H:Hp}{a b:Addr}{o:HO}(h:H a=some o)(h':H b=none):a≠b:=by
 intro e;subst e;rw[h] at h';cases h'
section
variable (P:O0)(w:World)
def bI(H:Hp)(h:Heap)(a:Addr):HO->Prop
 |.lst xs=>xs.length<=sizeLine/\∃(b:List Value) (n:Nat),Vals xs b/\h.get? a=some { cls:=.type "list",data:=.seq b.toArray n }
 |.tup xs=>xs.length<=sizeLine/\∃b:List Value,Vals xs b/\IsTup h a b.toArray
 |.dK c=>c.length<=sizeLine/\(a == Pm)=false/\∃vs,KV c vs/\h.DictOf (bB P w) a vs
 |.dT c=>c.length<=sizeLine/\(a == Pm)=false/\∃xs:List (List Key × Addr × Value),
   Paired (fun(p:List Key × V) (q:List Key × Addr × Value)=>p.1=q.1/\H q.2.1=some (.tup (p.1.map kV))/\RelV p.2 q.2.2) c xs /\
   ∃o es ep,h.get? a=some o/\o.ExactDict/\o.data=.dict es ep/\es.toList=xs.map (entryOfKey (tupleKind (bB P w)))/\(xs.map (·.1)).Nodup
 |.set S n=>h.SetOf (intKind P w) a S n
 |.ins C g fs=>H g=some (.own a)/\fs.length<=1000/\g≠a/\h.get? a=some (instObj C g) /\
   ∃e,h.Ns1 g e/\(∀f,gN (fs.lookup f) (e f))/\SE e (fs.map (·.1))
 |.own _=>∃o,h.get? a=some o
 |.xd fs=>∃e,h.Ns1 a e/\∀f,gN (fs.lookup f) (e f)
 |.Na lo j=>∃t u v,h.get? a=some { cls:=.type "range",data:=.fields #[.int lo t,.int j u,.int 1 v] }
 |.BZ o u=>h.get? a=some o/\bI H h a u
 |.HM l=>h.get? a=some { cls:=.none,data:=.fields l }
 |.met f x=>h.get? a=some (methodObj (.ref f) (.ref x))
 |.ext φ=>φ h/\(∃o,h.get? a=some o)/\∀h1 i:Heap,φ h1->(∀o,h1.get? a=some o->i.get? a=some o)->φ i
def kN(H:Hp)(h:Heap):Prop:=∀a o,H a=some o->bI P w H h a o
end
section
variable {P:O0}{w:World}{H H':Hp}{h h':Heap}{a:Addr}{o:HO}
def bI.lt(x:bI P w H h a o):a<h.objs.size:=by
 cases o with
 |lst xs=>obtain⟨_,_,_,_,e⟩:=x;exact N' e
 |tup xs=>obtain⟨_,_,_,p⟩:=x;exact p.lt
 |dK b=>obtain⟨_,_,_,_,o,_,_,e,_⟩:=x;exact N' e
 |dT b=>obtain⟨_,_,_,_,o,_,_,e,_⟩:=x;exact N' e
 |set S n=>obtain⟨o,_,_,_,e,_⟩:=x;exact N' e
 |ins C g fs=>obtain⟨_,_,_,e,_⟩:=x;exact N' e
 |own y=>obtain⟨_,e⟩:=x;exact N' e
 |xd fs=>obtain⟨_,⟨_,_,_,e,_⟩,_⟩:=x;exact N' e
 |Na lo c=>obtain⟨_,_,_,e⟩:=x;exact N' e
 |BZ ob u=>obtain⟨e,_⟩:=x;exact N' e
 |HM i=>exact N' (show h.get? a=some _ from x)
 |met f y=>exact N' (show h.get? a=some _ from x)
 |ext φ=>obtain⟨_,⟨_,e⟩,_⟩:=x;exact N' e
def Paired.Im{α β:Type}{F G:α->β->Prop}:∀{l₁:List α} {l₂:List β},Paired F l₁ l₂->(∀a b,F a b->G a b)->Paired G l₁ l₂
 |_,_,.nil,_=>.nil
 |_,_,.cons r t,f=>.cons (f _ _ r) (Paired.Im t f)
def bI.qe(x:bI P w H h a o)(k:∀b u,(b=a\/H b=some (.own a))->h.get? b=some u->h'.get? b=some u)
  (E:∀b,H b=some (.own a)->H' b=some (.own a))(s:∀b xs,H b=some (.tup xs)->H' b=some (.tup xs)):bI P w H' h' a o:=by
 induction o with
 |lst xs=>obtain⟨z,g,n,r,e⟩:=x;exact⟨z,g,n,r,k _ _ (.inl rfl) e⟩
 |tup xs=>obtain⟨z,g,r,ob,e,c⟩:=x;exact⟨z,g,r,ob,k _ _ (.inl rfl) e,c⟩
 |dK l=>obtain⟨z,y,vs,r,ob,es,ep,e,c⟩:=x;exact⟨z,y,vs,r,ob,es,ep,k _ _ (.inl rfl) e,c⟩
 |dT l =>
  obtain⟨z,y,xs,r,ob,es,ep,e,c⟩:=x
  exact⟨z,y,xs,Paired.Im r λp q z=>⟨z.1,s _ _ z.2.1,z.2.2⟩,ob,es,ep,k _ _ (.inl rfl) e,c⟩
 |set S n=>obtain⟨ob,es,ep,t,e,c⟩:=x;exact⟨ob,es,ep,t,k _ _ (.inl rfl) e,c⟩
 |ins C F fs =>
  obtain⟨d,z,ne,e,i,⟨j,es,ep,B,c⟩,r⟩:=x
  exact⟨E _ d,z,ne,k _ _ (.inl rfl) e,i,⟨j,es,ep,k _ _ (.inr d) B,c⟩,r⟩
 |own y=>obtain⟨ob,e⟩:=x;exact⟨ob,k _ _ (.inl rfl) e⟩
 |xd fs=>obtain⟨i,⟨j,es,ep,e,c⟩,r⟩:=x;exact⟨i,⟨j,es,ep,k _ _ (.inl rfl) e,c⟩,r⟩
 |Na lo G=>obtain⟨t,u,v,e⟩:=x;exact⟨t,u,v,k _ _ (.inl rfl) e⟩
 |BZ ob u A=>obtain⟨e,q⟩:=x;exact⟨k _ _ (.inl rfl) e,A q⟩
 |HM m =>
  have e:h.get? a=some { cls:=.none,data:=.fields m }:=x
  show h'.get? a=some { cls:=.none,data:=.fields m }
  exact k a _ (.inl rfl) e
 |met f y =>
  have e:h.get? a=some (methodObj (.ref f) (.ref y)):=x
  show h'.get? a=some (methodObj (.ref f) (.ref y))
  exact k a _ (.inl rfl) e
 |ext φ=>obtain⟨p,⟨o,e⟩,st⟩:=x;exact⟨st _ _ p λo q=>k _ _ (.inl rfl) q,⟨o,k _ _ (.inl rfl) e⟩,st⟩
def kN.lt(x:kN P w H h)(e:H a=some o):a<h.objs.size:=(x a o e).lt
def kN.fresh(x:kN P w H h)(e:h.objs.size<=a):H a=none:=by
 cases q:H a with
 |none=>rfl
 |some u=>exact absurd (Pa (x.lt q) e) (Qa _)
def kN.kept(x:kN P w H h)(k:∀b u,h.get? b=some u->h'.get? b=some u):kN P w H h':=λa o e =>
 (x a o e).qe (λb u _ q=>k b u q) (λ_ q=>q) λ_ _ q=>q
def kN.laid(x:kN P w H h)(k:∀b u,h.get? b=some u->h'.get? b=some u)(j:h.objs.size<=a)(f:bI P w (upd H a o) h' a o):kN P w (upd H a o) h':=λb u e=>by
 have i:=x.fresh j
 by_cases g:b=a
 ·subst g;rw[aI] at e;cases e;exact f
 ·rw[aL g] at e
  exact(x b u e).qe (λc v _ q=>k c v q) (λc q=>by rw[aL (bD q i)];exact q) λc xs q=>by rw[aL (bD q i)];exact q
end
def Rd(H:Hp)(a:Addr)(u:HO):Prop:=H a=some u\/∃o,H a=some (.BZ o u)
def Rd.of{H:Hp}{a:Addr}{u:HO}(h:H a=some u):Rd H a u:=.inl h
def Rd.ok{P:O0}{w:World}{H:Hp}{h:Heap}{a:Addr}{u:HO}(r:Rd H a u)(x:kN P w H h):bI P w H h a u:=by
 rcases r with r|⟨o,r⟩
 ·exact x a u r
 ·obtain⟨_,q⟩:=x a _ r
  exact q
def KY:Option HO->Prop
 |some (.lst _)=>True
 |some (.dK _)=>True
 |some (.dT _)=>True
 |some (.set _ _)=>True
 |some (.ins _ _ _)=>True
 |some (.ext _)=>True
 |_=>False
section
variable {P:O0}{w:World}{H:Hp}{h h':Heap}{x e:Addr}{o':HO}
def kN.write(ok:kN P w H h)(i:KY (H x))(he:e=x\/H e=some (.own x))(k:∀b u,b≠e->h.get? b=some u->h'.get? b=some u)(m:∃u,h'.get? e=some u)
  (l:bI P w (upd H x o') h' x o'):kN P w (upd H x o') h':=λb u q=>by
 have f:∀c y,H c=some (.own y)->c≠x:=λc y r z=>by subst z;rw[r] at i;exact i
 have g:∀c xs,H c=some (.tup xs)->c≠x:=λc xs r z=>by subst z;rw[r] at i;exact i
 by_cases j:b=x
 ·subst j;rw[aI] at q;cases q;exact l
 ·rw[aL j] at q
  by_cases a:b=e
  ·have n:H b=some (.own x):=by
    rcases he with z|z
    ·exact absurd (a.trans z) j
    ·rw[a];exact z
   rw[q] at n;cases n
   obtain⟨v,o⟩:=m
   exact⟨v,by rw[a];exact o⟩
  ·refine(ok b u q).qe (λc v hc r=>k c v ?_ r) (λc r=>by rw[aL (f c b r)];exact r) λc xs r=>by rw[aL (g c xs r)];exact r
   rcases hc with rfl|hc
   ·exact a
   ·rintro rfl
    rcases he with z|z
    ·exact f c b hc z
    ·rw[hc] at z;cases z;exact j rfl
end
structure Un (fs ex:List Addr) (H H':Hp) (h h':Heap):Prop where
 keep:∀b o,h.get? b=some o->H b=none->b∉fs->b∉ex->h'.get? b=some o
 slot:∀b o,h.get? b=some o->H b=none->b∈fs->b∉ex->∃sl,h'.get? b=some { o with slots:=sl }
 free:∀b o,h.get? b=some o->H b=none->b∉ex->H' b=none
 there:∀b o,h.get? b=some o->b∉ex->∃o',h'.get? b=some o'
 qg:∀b xs,H b=some (.tup xs)->H' b=some (.tup xs)
 pN:∀b o u,H b=some (.BZ o u)->H' b=some (.BZ o u)
 qf:∀b ps,H b=some (.HM ps)->∃more,H' b=some (.HM (ps++more))
section
variable {fs fs' ex ex':List Addr}{H H1 H2:Hp}{h h1 h2 h':Heap}{a x e:Addr}{o:HO}
def Un.any(u:Un fs ex H H1 h h1){b:Addr}{ob:Obj}(q:h.get? b=some ob)(n:H b=none)(f:b∉ex):∃g,h1.get? b=some { ob with slots:=g }:=by
 by_cases c:b∈fs
 ·exact u.slot b ob q n c f
 ·exact⟨ob.slots,u.keep b ob q n c f⟩
def Un.kept(k:∀b u,h.get? b=some u->h'.get? b=some u):Un fs ex H H h h' :=
 ⟨λb ob q _ _ _=>k b ob q,λb ob q _ _ _=>⟨ob.slots,k b ob q⟩,λ_ _ _ n _=>n,λb ob q _=>⟨ob,k b ob q⟩,λ_ _ q=>q,λ_ _ _ q=>q,λ_ c q=>⟨#[],by rw[q];simp⟩⟩
def Un.refl:Un fs ex H H h h:=Un.kept λ_ _ q=>q
def Un.laid(k:∀b u,h.get? b=some u->h'.get? b=some u)(f:h.objs.size<=a)(c:H a=none):Un fs ex H (upd H a o) h h' where
 keep:=λb u q _ _ _=>k b u q
 slot:=λb u q _ _ _=>⟨u.slots,k b u q⟩
 free:=λb u q n _=>by rw[aL (PR (Pa (N' q) f))];exact n
 there:=λb u q _=>⟨u,k b u q⟩
 qg:=λb xs q=>by rw[aL (bD q c)];exact q
 pN:=λb u xs q=>by rw[aL (bD q c)];exact q
 qf:=λb g q=>⟨#[],by rw[aL (bD q c),q];simp⟩
def Un.write(f:KY (H x))(he:e=x\/H e=some (.own x))(k:∀b u,b≠e->h.get? b=some u->h'.get? b=some u)(g:∃u,h'.get? e=some u):Un fs ex H (upd H x o) h h':=by
 have j:∀b,H b=none->b≠x:=λb n z=>by subst z;rw[n] at f;exact f
 have l:∀b,H b=none->b≠e:=λb n z=>by
  subst z
  rcases he with r|r
  ·exact j b n r
  ·rw[n] at r;cases r
 have i:∀b u,H b=some u->¬ KY (some u)->b≠x:=λb u q nm z=>by subst z;rw[q] at f;exact nm f
 refine⟨λb u q n _ _=>k b u (l b n) q,λb u q n _ _=>⟨u.slots,k b u (l b n) q⟩,λb u q n _=>by rw[aL (j b n)];exact n,λb u q _=>?_,
  λb xs q=>by rw[aL (i b _ q λz=>z)];exact q,λb u xs q=>by rw[aL (i b _ q λz=>z)];exact q,λb m q=>⟨#[],by rw[aL (i b _ q λz=>z),q];simp⟩⟩
 by_cases c:b=e
 ·subst c;exact g
 ·exact⟨u,k b u c q⟩
end
def Mm(h:Heap)(H:Hp):List Addr:=(Qj h.objs.size).filter λa=>(H a).isSome
def sG(h:Heap)(H:Hp):Heap:=PySem.W.hideAll h (Mm h H)
def zT(h:Heap)(H:Hp):(sG h H).objs.size=h.objs.size:=PySem.W.hideAll_size _ _
def Be{h:Heap}{H:Hp}{b:Addr}{o:Obj}(e:h.get? b=some o)(n:H b=none):(sG h H).get? b=some o :=
 PySem.W.hideAll_get _ e λa=>by
  have q:(H b).isSome=true:=(TX.mp a).2
  rw[n] at q;simp at q
def FA{h:Heap}{H:Hp}{b:Addr}{o:Obj}(e:(sG h H).get? b=some o):h.get? b=some o/\H b=none:=by
 have a:h.get? b=some o:=PySem.W.of_hideAll (Mm h H) e
 refine⟨a,?_⟩
 cases q:H b with
 |none=>rfl
 |some x =>
  have c:b∈Mm h H:=TX.mpr ⟨Rk.mpr (N' a),by simp[q]⟩
  have z:(sG h H).get? b=none:=PySem.W.hideAll_none (Mm h H) c
  rw[z] at e;cases e
structure Mod (K:j') (mg:Str->Option Value) (base:Heap):Prop where
 KR:K.In base
 glob:base.Ns PH mg
 blt:∃mb,base.Ns Ve mb/\∀x:Str,x≠"__name__"->mb x=Px x
 nolimit:base.NoLimit
structure Cx where
 prog:O0
 w:World
 K:j'
 mg:Str->Option Value
 base:Heap
 A:Around
 N:List Str
 s₀:Shared
 H₀:Hp
 env:Env
 outer:List Env
 stack:List Env
 ex:List Addr
 fn:Str->Bool
 calm:Bool
 pn:List (Addr × Obj)
 xe:Value->Shared->Prop
def BY(l:List Env):List Addr:=l.filterMap (·.frame)
abbrev Cx.fs(X:Cx):List Addr:=BY X.outer
def Dp(a:Scope)(x:Str):Prop:=a.names.lookup x=some .local\/a.names.lookup x=some .cell\/a.names.lookup x=some .free
def Loc(a:Scope)(x:Str):Prop:=a.names.lookup x=some .local\/a.names.lookup x=some .cell
def Look(env:Env)(h:Heap)(m:Str->Option Value)(x:Str)(u:Value):Prop :=
 (env.kindOf x=some .local/\m x=some u)\/((env.kindOf x=some .cell\/env.kindOf x=some .free)/\∃c,env.cells.lookup x=some c/\h.IsCell c (some u))
structure Cx.Ok (X:Cx):Prop where
 mod:Mod X.K X.mg X.base
 kind:X.env.scope.kind=.function
 glob:X.env.globals=PH
 blt:X.env.builtins=Ve
 above:X.s₀.heap.objs.size<=X.env.locals
 inj:∀x y c,X.env.cells.lookup x=some c->X.env.cells.lookup y=some c->x=y
 has:∀x,(X.env.kindOf x=some .cell\/X.env.kindOf x=some .free)->∃c,X.env.cells.lookup x=some c
 Ke:∀x c,X.fn x=true->X.env.cells.lookup x=some c->X.s₀.heap.objs.size<=c
 hd:X.calm=true->X.A.handled=none
 frames:X.A.frames=some X.stack
 Mj:X.stack=X.outer\/(X.stack=X.env::X.outer/\X.env.frame=some X.env.locals)
 OG:∀b∈X.ex,b≠X.env.locals/\∀x c,X.env.cells.lookup x=some c->c≠b
 bs:∀b o,X.base.get? b=some o->X.s₀.heap.get? b=some o/\X.H₀ b=none
 Gd:X.base.objs.size<=X.s₀.heap.objs.size
 CF:∀b o,X.base.get? b=some o->b∉X.ex
 BV:∀b∈X.ex,b∉X.fs
 nA:X.s₀.heap.FunFrames X.base X.outer
 Gr:∀b∈X.fs,X.H₀ b=none
structure Inv (X:Cx) (pins:List (Addr × Obj)) (σ:List (Option V)) (H:Hp) (s:Shared):Prop where
 ok:X.Ok
 os:s.os=X.s₀.os
 bare:Se s.gens
 base:Un X.fs X.ex X.H₀ H X.s₀.heap s.heap
 loc:∃m,s.heap.Ns X.env.locals m/\∀(i:Nat) (x:Str) (v:V),X.N[i]?=some x->σ[i]?=some (some v)->Dp X.env.scope x->∃u,RelV v u/\Look X.env s.heap m x u
 cell:∀x c,X.env.cells.lookup x=some c->∃v,s.heap.IsCell c v
 free:H X.env.locals=none
 fO:∀x c,X.env.cells.lookup x=some c->H c=none
 pin:∀p∈X.pn++pins,s.heap.get? p.1=some p.2/\H p.1=none/\p.1≠X.env.locals/\p.1∉X.fs/\∀v,p.2.data≠.cell v
 bJ:kN X.prog X.w H s.heap
 len:σ.length=X.N.length
section
variable {X:Cx}{pins:List (Addr × Obj)}{σ:List (Option V)}{H H':Hp}{s:Shared}{h':Heap}
def Cx.Ok.NU(ok:X.Ok){b:Addr}{o:Obj}(e:X.base.get? b=some o):b∉X.fs:=λa=>by
 have:=(ok.nA.mem a).1
 rw[e] at this;cases this
def Inv.bs(I:Inv X pins σ H s):∀b o,X.base.get? b=some o->s.heap.get? b=some o/\H b=none:=λb o e =>
 ⟨I.base.keep b o (I.ok.bs b o e).1 (I.ok.bs b o e).2 (I.ok.NU e) (I.ok.CF b o e),I.base.free b o (I.ok.bs b o e).1 (I.ok.bs b o e).2 (I.ok.CF b o e)⟩
def Inv.bk(I:Inv X pins σ H s):∀b o,X.base.get? b=some o->s.heap.get? b=some o:=λb o e=>(I.bs b o e).1
def Inv.mod(I:Inv X pins σ H s):Mod X.K X.mg X.base:=I.ok.mod
def Inv.qx(I:Inv X pins σ H s):X.K.In s.heap:=I.ok.mod.KR.keeps I.bk
def Inv.lt(I:Inv X pins σ H s):X.env.locals<s.heap.objs.size:=let ⟨_,a,_⟩:=I.loc;a.lt
def Inv.sz(I:Inv X pins σ H s):X.s₀.heap.objs.size<=s.heap.objs.size:=PB I.ok.above (Q7 I.lt)
def Inv.NV(I:Inv X pins σ H s){a:Addr}(h:s.heap.objs.size<=a):a∉X.fs:=λc=>by
 obtain⟨_,o,b,_⟩:=I.ok.nA.mem c
 exact absurd (Pa (N' b) (PB I.sz h)) (Qa _)
def Inv.Hm(I:Inv X pins σ H s):∀x c,X.env.cells.lookup x=some c->c≠X.env.locals:=λx c e z=>by
 obtain⟨v,o,f,g⟩:=I.cell x c e
 obtain⟨m,⟨h,es,ep,a,b,_⟩,_⟩:=I.loc
 rw[z,a] at f;cases f;rw[b] at g;cases g
def Inv.nA(I:Inv X pins σ H s):s.heap.FunFrames X.base X.outer:=by
 have all:∀(l:List Env),(∀b∈BY l,b∈X.fs)->X.s₀.heap.FunFrames X.base l->s.heap.FunFrames X.base l:=by
  intro l
  induction l with
  |nil=>intro _ _;trivial
  |cons env r j =>
   intro g i
   obtain⟨h,⟨L,o,f,p,m,q⟩,n⟩:=i
   have a:L∈X.fs:=g L (by unfold BY;rw[Q_,f];exact D')
   obtain⟨t,e⟩:=I.base.slot L o m (I.ok.Gr L a) a λz=>I.ok.BV L z a
   exact⟨h,⟨L,_,f,p,e,q⟩,j (λb c=>g b (by unfold BY;rw[Q_,f];exact O5 _ c)) n⟩
 exact all X.outer (λ_ c=>c) I.ok.nA
def Inv.stack(I:Inv X pins σ H s):s.heap.FunFrames X.base X.stack:=by
 rcases I.ok.Mj with e|⟨e,b⟩
 ·rw[e];exact I.nA
 ·rw[e]
  obtain⟨m,a,_⟩:=I.loc
  refine .cons (by rw[I.ok.kind];decide) b a ?_ I.nA
  exact Heap.get?_none_of_le (PB I.ok.Gd I.ok.above)
def Inv.tZ(I:Inv X pins σ H s):∀b∈BY X.stack,b∈X.env.locals::X.fs:=λb a=>by
 rcases I.ok.Mj with e|⟨e,c⟩
 ·rw[e] at a;exact O5 _ a
 ·rw[e] at a
  unfold BY at a
  rw[Q_,c] at a
  exact a
def Inv.ym(I:Inv X pins σ H s):∀b∈BY X.stack,H b=none:=λb hb=>by
 rcases B'.mp (I.tZ b hb) with e|hb
 ·rw[e];exact I.free
 ·obtain⟨_,o,a,_⟩:=I.ok.nA.mem hb
  exact I.base.free b o a (I.ok.Gr b hb) λz=>I.ok.BV b z hb
def Inv.step{g':Array W6}{t':Nat}{d':Drawn}{ch:List Addr}(I:Inv X pins σ H s)
  (g:∀b∈ch,(b∈X.ex\/X.s₀.heap.objs.size<=b)/\b≠X.env.locals/\(∀x c,X.env.cells.lookup x=some c->c≠b)/\∀p∈X.pn++pins,p.1≠b)
  (keep:∀b o,b≠X.env.locals->b∉X.fs->b∉ch->s.heap.get? b=some o->H b=none->h'.get? b=some o)
  (y:∀b o,b≠X.env.locals->b∈X.fs->b∉ch->s.heap.get? b=some o->H b=none->∃M,h'.get? b=some { o with slots:=M })(free:∀b o,b∉ch->s.heap.get? b=some o->H b=none->H' b=none)
  (there:∀b o,b∉ch->s.heap.get? b=some o->∃E,h'.get? b=some E)
  (W:∀b xs,H b=some (.tup xs)->H' b=some (.tup xs))(R:∀b o u,H b=some (.BZ o u)->H' b=some (.BZ o u))(T:∀b J,H b=some (.HM J)->∃F,H' b=some (.HM (J++F)))
  (ns:∀m,s.heap.Ns X.env.locals m->h'.Ns X.env.locals m)(bJ:kN X.prog X.w H' h')(Z:Se g') :
  Inv X pins σ H' { s with heap:=h',gens:=g',drawn:=d',toks:=t' }:=by
 have C:∀b o,X.s₀.heap.get? b=some o->b≠X.env.locals:=λb o e=>PR (Pa (N' e) I.ok.above)
 have j:∀b o,X.s₀.heap.get? b=some o->b∉X.ex->b∉ch:=λb o e a A=>by
  rcases(g b A).1 with z|z
  ·exact a z
  ·exact absurd (Pa (N' e) z) (Qa _)
 have h:∀x c,X.env.cells.lookup x=some c->∀v,s.heap.IsCell c v->h'.IsCell c v:=fun x c e v ⟨o,B,N⟩=>by
  have f:c∉ch:=λz=>(g c z).2.2.1 x c e rfl
  by_cases P:c∈X.fs
  ·obtain⟨M,q⟩:=y c o (I.Hm x c e) P f B (I.fO x c e)
   exact⟨_,q,N⟩
  ·exact⟨o,keep c o (I.Hm x c e) P f B (I.fO x c e),N⟩
 refine⟨I.ok,I.os,Z,⟨λb o e n A a=>?_,λb o e n A a=>?_,λb o e n a=>?_,λb o e a=>?_,λb xs e=>W b xs (I.base.qg b xs e),λb o xs e=>R b o xs (I.base.pN b o xs e),λb J e=>?_⟩,?_,λx c e=>?_,?_,λx c e=>?_,λp Q=>?_,bJ,I.len⟩
 ·exact keep b o (C b o e) A (j b o e a) (I.base.keep b o e n A a) (I.base.free b o e n a)
 ·obtain⟨M,t⟩:=I.base.slot b o e n A a
  obtain⟨L,G⟩:=y b _ (C b o e) A (j b o e a) t (I.base.free b o e n a)
  exact⟨L,G⟩
 ·obtain⟨E,t⟩:=I.base.there b o e a
  exact free b E (j b o e a) t (I.base.free b o e n a)
 ·obtain⟨E,t⟩:=I.base.there b o e a
  exact there b E (j b o e a) t
 ·obtain⟨Y,t⟩:=I.base.qf b J e
  obtain⟨S,G⟩:=T b _ t
  exact⟨Y++S,by rw[G,Array.append_assoc]⟩
 ·obtain⟨m,hn,U⟩:=I.loc
  refine⟨m,ns m hn,λi x v t G e3=>?_⟩
  obtain⟨u,r,l⟩:=U i x v t G e3
  refine⟨u,r,?_⟩
  rcases l with l|⟨k,c,e,z⟩
  ·exact .inl l
  ·exact .inr ⟨k,c,e,h x c e _ z⟩
 ·obtain⟨v,z⟩:=I.cell x c e
  exact⟨v,h x c e v z⟩
 ·obtain⟨m,⟨o,_,_,B,_⟩,_⟩:=I.loc
  exact free _ o (λz=>(g _ z).2.1 rfl) B I.free
 ·obtain⟨v,o,B,N⟩:=I.cell x c e
  exact free c o (λz=>(g c z).2.2.1 x c e rfl) B (I.fO x c e)
 ·obtain⟨e,n,ne,O,d⟩:=I.pin p Q
  have f:p.1∉ch:=λz=>(g p.1 z).2.2.2 p Q rfl
  exact⟨keep p.1 p.2 ne O f e n,free p.1 p.2 f e n,ne,O,d⟩
def Inv.un{t':Nat}(I:Inv X pins σ H s)(u:Un X.fs [] H H' s.heap h')(l:kN X.prog X.w H' h'):Inv X pins σ H' { s with heap:=h',toks:=t' }:=by
 obtain⟨m,⟨o,es,ep,h,r⟩,_⟩:=id I.loc
 obtain⟨p,i⟩:=u.any h I.free (by simp)
 exact I.step (g':=s.gens) (d':=s.drawn) (ch:=[]) (λ_ z=>nomatch z) (λb o _ f _ e n=>u.keep b o e n f (by simp)) (λb o _ f _ e n=>u.slot b o e n f (by simp)) (λb o _ e n=>u.free b o e n (by simp)) (λb o _ e=>u.there b o e (by simp)) u.qg u.pN u.qf (λt j=>by
  obtain⟨q,c,g,a,r'⟩:=j
  rw[h] at a;cases a
  exact⟨_,c,g,i,r'⟩) l I.bare
def Inv.call{g':Array W6}{t':Nat}{d':Drawn}{ch:List Addr}(I:Inv X pins σ H s)(u:Un (BY X.stack) ch H H' s.heap h')(v:kN X.prog X.w H' h')(q:Se g')
  (g:∀b∈ch,(b∈X.ex\/X.s₀.heap.objs.size<=b)/\b≠X.env.locals/\(∀x c,X.env.cells.lookup x=some c->c≠b)/\∀p∈X.pn++pins,p.1≠b) :
  Inv X pins σ H' { s with heap:=h',gens:=g',drawn:=d',toks:=t' }:=by
 obtain⟨m,⟨o,es,ep,l,r⟩,_⟩:=id I.loc
 obtain⟨A,h⟩:=u.any l I.free λz=>(g _ z).2.1 rfl
 exact I.step (ch:=ch) g (λb o h t a e n=>u.keep b o e n (λz=>(B'.mp (I.tZ b z)).elim h t) a) (λb o _ _ a e n=>u.any e n a) (λb o a e n=>u.free b o e n a) (λb o a e=>u.there b o e a) u.qg u.pN u.qf (λC y=>by
  obtain⟨B,i,j,f,r'⟩:=y
  rw[l] at f;cases f
  exact⟨_,i,j,h,r'⟩) v q
def Inv.turned{t':Nat}{it:Addr}(I:Inv X pins σ H s)(k:∀b o,b≠it->s.heap.get? b=some o->h'.get? b=some o)(w:H it=none)(g:it≠X.env.locals)
  (h1:it∈X.ex\/X.s₀.heap.objs.size<=it)(h:∀x c,X.env.cells.lookup x=some c->c≠it)(l:∀p∈X.pn++pins,p.1≠it):Inv X pins σ H { s with heap:=h',toks:=t' }:=by
 have f:∀b u,H b=some u->b≠it:=λb u e z=>by rw[z,w] at e;cases e
 refine I.step (g':=s.gens) (d':=s.drawn) (ch:=[it]) (λb i=>?_) (λb o _ _ a e _=>k b o (λz=>a (by simp[z])) e) (λb o _ _ a e _=>⟨o.slots,k b o (λz=>a (by simp[z])) e⟩) (λ_ _ _ _ n=>n)
  (λb o a e=>⟨o,k b o (λz=>a (by simp[z])) e⟩) (λ_ _ e=>e) (λ_ _ _ e=>e) (λb y e=>⟨#[],by rw[e];simp⟩) (λm t=>?_) (λb u e=>?_) I.bare
 ·have e:b=it:=by simpa using i
  subst e
  exact⟨h1,g,h,l⟩
 ·obtain⟨o,es,ep,j,r⟩:=t
  exact⟨o,es,ep,k _ o (QS g) j,r⟩
 ·refine(I.bJ b u e).qe (λc v a q=>k c v ?_ q) (λ_ q=>q) λ_ _ q=>q
  rcases a with z|z
  ·rw[z];exact f b u e
  ·exact f c _ z
def Inv.tok(I:Inv X pins σ H s)(t:Nat):Inv X pins σ H { s with toks:=t }:=I.un (h':=s.heap) (t':=t) Un.refl I.bJ
def Inv.kept{t':Nat}(I:Inv X pins σ H s)(k:∀b u,s.heap.get? b=some u->h'.get? b=some u):Inv X pins σ H { s with heap:=h',toks:=t' }:=I.un (Un.kept k) (I.bJ.kept k)
def Inv.laid{a:Addr}{o:HO}{t':Nat}(I:Inv X pins σ H s)(k:∀b u,s.heap.get? b=some u->h'.get? b=some u)(e:s.heap.objs.size<=a)(c:bI X.prog X.w (upd H a o) h' a o) :
  Inv X pins σ (upd H a o) { s with heap:=h',toks:=t' }:=I.un (Un.laid k e (I.bJ.fresh e)) (I.bJ.laid k e c)
def Inv.write{x e:Addr}{o:HO}{t':Nat}(I:Inv X pins σ H s)(f:KY (H x))(he:e=x\/H e=some (.own x))(k:∀b u,b≠e->s.heap.get? b=some u->h'.get? b=some u)(a:∃u,h'.get? e=some u)
  (c:bI X.prog X.w (upd H x o) h' x o):Inv X pins σ (upd H x o) { s with heap:=h',toks:=t' }:=I.un (Un.write f he k a) (I.bJ.write f he k a c)
def Inv.weak{b:List (Option V)}(I:Inv X pins σ H s)(c:b.length=σ.length)(w:∀(i:Nat) v,b[i]?=some (some v)->σ[i]?=some (some v)):Inv X pins b H s :=
 ⟨I.ok,I.os,I.bare,I.base,let ⟨m,f,a⟩:=I.loc;⟨m,f,λi x v g e h=>a i x v g (w i v e) h⟩,I.cell,I.free,I.fO,I.pin,I.bJ,c.trans I.len⟩
def Inv.tI{a:List (Addr × Obj)}(I:Inv X pins σ H s)(h:∀p∈a,s.heap.get? p.1=some p.2/\H p.1=none/\p.1≠X.env.locals/\p.1∉X.fs/\∀v,p.2.data≠.cell v):Inv X a σ H s :=
 ⟨I.ok,I.os,I.bare,I.base,I.loc,I.cell,I.free,I.fO,λp b=>(O3.mp b).elim (λz=>I.pin p (Pn _ z)) (h p),I.bJ,I.len⟩
def vN{N:List Str}(f:N.Nodup){i j:Nat}{x:Str}(a:N[i]?=some x)(b:N[j]?=some x):i=j:=by
 obtain⟨h1,e⟩:=PJ.mp a
 obtain⟨g,c⟩:=PJ.mp b
 exact(List.getElem_inj f).mp (e.trans c.symm)
def AQ{M:Model}{A:Around}{E:Value->Shared->Prop}{i:Nat}{x:Str}{v:V}{u:Value}{Q:Unit->Shared->Prop}(I:Inv X pins σ H s)(hN:X.N.Nodup)(P:X.N[i]?=some x)(t:Loc X.env.scope x)(r:RelV v u)
  (h:∀s',Inv X pins (σ.set i (some v)) H s'->(∃a,Pl a s.heap s'.heap/\(a=X.env.locals\/X.env.cells.lookup x=some a))->Q () s')(hf:autoParam (X.fn x=true\/X.env.scope.names.lookup x=some .local) dA):wpAny M A (storeName X.env x u) Q E s:=by
 obtain⟨m,hn,hl⟩:=id I.loc
 have W:(X.env.scope.kind == .class||(X.env.scope.kind == .module&&X.env.locals != X.env.globals))=false:=by rw[I.ok.kind];rfl
 have U:i<σ.length:=by rw[I.len];exact(PJ.mp P).1
 have Hm:=I.Hm
 have g:∀{a:Addr} {h':Heap},(∃o,s.heap.get? a=some o/\H a=none)->Pl a s.heap h'->kN X.prog X.w H h':=fun{a h'} ha f b ob e=>by
  obtain⟨_,_,B⟩:=ha
  refine(I.bJ b ob e).qe (λc Z hc q=>(f.2 c ?_).trans q) (λ_ q=>q) λ_ _ q=>q
  rintro rfl
  rcases hc with rfl|hc
  ·rw[B] at e;cases e
  ·rw[B] at hc;cases hc
 rcases t with F|F
 ·refine wpAny_storeName_local F hn (λh' hn' f=>?_) W
  obtain⟨oL,_,_,hoL,_⟩:=id hn
  refine h _ ⟨I.ok,I.os,I.bare,⟨λb o e n L t=>?_,λb o e n L t=>?_,I.base.free,λb o e t=>?_,I.base.qg,I.base.pN,I.base.qf⟩,⟨_,hn',λj y v' l C e3=>?_⟩,λy c e=>?_,I.free,I.fO,λp hp=>?_,g ⟨oL,hoL,I.free⟩ f,by simpa using I.len⟩ ⟨_,f,.inl rfl⟩
  ·exact(f.2 b (PR (Pa (N' e) I.ok.above))).trans (I.base.keep b o e n L t)
  ·obtain⟨sl,l⟩:=I.base.slot b o e n L t
   exact⟨sl,(f.2 b (PR (Pa (N' e) I.ok.above))).trans l⟩
  ·obtain⟨o',l⟩:=I.base.there b o e t
   exact⟨o',(f.2 b (PR (Pa (N' e) I.ok.above))).trans l⟩
  ·by_cases J:j=i
   ·subst J
    rw[P] at l;cases l
    rw[UK U] at C
    cases C
    exact⟨u,r,.inl ⟨F,by simp⟩⟩
   ·rw[Uh (QS J)] at C
    obtain⟨u',r',q⟩:=hl j y v' l C e3
    refine⟨u',r',?_⟩
    rcases q with⟨k,e⟩|⟨k,c,e,z⟩
    ·refine .inl ⟨k,?_⟩
     have:y≠x:=λe=>J (vN hN l (e ▸ P))
     simp[this,e]
    ·exact .inr ⟨k,c,e,z.sameBut f (Hm y c e)⟩
  ·obtain⟨Z,z⟩:=I.cell y c e
   exact⟨Z,z.sameBut f (Hm y c e)⟩
  ·obtain⟨e,n,ne,nf,d⟩:=I.pin p hp
   exact⟨(f.2 p.1 ne).trans e,n,ne,nf,d⟩
 ·have G:X.fn x=true:=by
   rcases hf with z|z
   ·exact z
   ·rw[z] at F;cases F
  obtain⟨c,hc⟩:=I.ok.has x (.inl F)
  obtain⟨Z,z⟩:=I.cell x c hc
  refine wpAny_storeName_cell I.ok.kind F hc z (λh' T f=>?_)
  obtain⟨oc,R,O⟩:=id z
  refine h { s with heap:=h' } ⟨I.ok,I.os,I.bare,⟨λb o e n L t=>?_,λb o e n L t=>?_,I.base.free,λb o e t=>?_,I.base.qg,I.base.pN,I.base.qf⟩,⟨m,hn.sameBut f (QS (Hm x c hc)),λj y v' l C e3=>?_⟩,λy Y e=>?_,I.free,I.fO,λp hp=>?_,g ⟨oc,R,I.fO x c hc⟩ f,by simpa using I.len⟩ ⟨c,f,.inr hc⟩
  ·exact(f.2 b (PR (Pa (N' e) (I.ok.Ke x c G hc)))).trans (I.base.keep b o e n L t)
  ·obtain⟨sl,l⟩:=I.base.slot b o e n L t
   exact⟨sl,(f.2 b (PR (Pa (N' e) (I.ok.Ke x c G hc)))).trans l⟩
  ·obtain⟨o',l⟩:=I.base.there b o e t
   exact⟨o',(f.2 b (PR (Pa (N' e) (I.ok.Ke x c G hc)))).trans l⟩
  ·by_cases J:j=i
   ·subst J
    rw[P] at l;cases l
    rw[UK U] at C
    cases C
    exact⟨u,r,.inr ⟨.inl F,c,hc,T⟩⟩
   ·rw[Uh (QS J)] at C
    obtain⟨u',r',q⟩:=hl j y v' l C e3
    refine⟨u',r',?_⟩
    rcases q with q|⟨k,Y,e,z'⟩
    ·exact .inl q
    ·refine .inr ⟨k,Y,e,z'.sameBut f ?_⟩
     rintro rfl
     exact J (vN hN l (I.ok.inj _ _ _ e hc ▸ P))
  ·by_cases S:Y=c
   ·subst S;exact⟨_,T⟩
   ·obtain⟨w2,z2⟩:=I.cell y Y e
    exact⟨w2,z2.sameBut f S⟩
  ·obtain⟨e,n,ne,nf,d⟩:=I.pin p hp
   refine⟨(f.2 p.1 ?_).trans e,n,ne,nf,d⟩
   intro q
   rw[q,R] at e
   have q':oc=p.2:=Pq e
   exact d Z (by rw[<- q'];exact O)
def vm{M:Model}{A:Around}{E:Value->Shared->Prop}{i:Nat}{x:Str}{v:V}{u:Value}{Q:Unit->Shared->Prop}(I:Inv X pins σ H s)(c:X.N.Nodup)(e:X.N[i]?=some x)(b:Loc X.env.scope x)(r:RelV v u)
  (h:∀a,Inv X pins (σ.set i (some v)) H a->Q () a)(f:autoParam (X.fn x=true\/X.env.scope.names.lookup x=some .local) dA):wpAny M A (storeName X.env x u) Q E s :=
 AQ I c e b r (λa g _=>h a g) f
def Inv.Az{a:Shared}{ch:List Addr}(I:Inv X pins σ H s)(j:a.os=s.os)(u:Un (BY X.stack) ch H H' s.heap a.heap)(i:kN X.prog X.w H' a.heap)(h:Se a.gens)
  (f:∀b∈ch,(b∈X.ex\/X.s₀.heap.objs.size<=b)/\b≠X.env.locals/\(∀x c,X.env.cells.lookup x=some c->c≠b)/\∀p∈X.pn++pins,p.1≠b):Inv X pins σ H' a:=by
 obtain⟨h',g',d',t',g⟩:=a
 have e:g=s.os:=j
 subst e
 exact I.call (g':=g') (t':=t') (d':=d') u i h f
end
abbrev XK:=Value->Option Addr->Hp->Prop
abbrev St:=List (Option V)
abbrev VK:=V->Hp->Prop
abbrev TE:=St->Hp->VK->Prop
abbrev TT:=St->Hp->(Bool->Hp->Prop)->Prop
abbrev TA:=St->Hp->(List V->Hp->Prop)->Prop
structure Ends where
 nx:St->Hp->Prop
 rt:VK
 bk:St->Hp->Prop:=λ_ _=>False
 ct:St->Hp->Prop:=λ_ _=>False
abbrev TS:=Ends->St->Hp->Prop
def EP(X:Cx)(a:List (Addr × Obj))(σ:St)(Q:VK)(u:Value)(c:Shared):Prop:=∃v b,Inv X a σ b c/\RelV v u/\Q v b
def TP(X:Cx)(a:List (Addr × Obj))(σ:St)(Q:Bool->Hp->Prop)(b:Bool)(e:Shared):Prop:=∃c,Inv X a σ c e/\Q b c
def AP(X:Cx)(a:List (Addr × Obj))(σ:St)(Q:List V->Hp->Prop)(us:List Value)(c:Shared):Prop:=∃vs b,Inv X a σ b c/\Vals vs us/\Q vs b
def SP(X:Cx)(a:List (Addr × Obj))(D:Ends)(f:Flow)(e:Shared):Prop :=
 match f with
 |.next=>∃ c b,Inv X a c b e/\D.nx c b
 |.brk=>∃ c b,Inv X a c b e/\D.bk c b
 |.cont=>∃ c b,Inv X a c b e/\D.ct c b
 |.ret u=>∃v c b,Inv X a c b e/\RelV v u/\D.rt v b
def PE(X:Cx)(e:Expr)(t:TE):Prop :=
 ∀(a:List (Addr × Obj)) (s:Shared) (σ:St) (H:Hp) (Q:VK),Inv X a σ H s->t σ H Q->wpAny (model X.prog X.w) X.A (eval e X.env) (EP X a σ Q) X.xe s
def PT(X:Cx)(e:Expr)(t:TT):Prop :=
 ∀(a:List (Addr × Obj)) (s:Shared) (σ:St) (H:Hp) (Q:Bool->Hp->Prop),Inv X a σ H s->t σ H Q->wpAny (model X.prog X.w) X.A (isTrue e X.env (eval e X.env)) (TP X a σ Q) X.xe s
def PW(X:Cx)(e:Expr)(t:TT):Prop :=
 ∀(b:Sem Value) (a:List (Addr × Obj)) (s:Shared) (σ:St) (H:Hp) (Q:Bool->Hp->Prop),Inv X a σ H s->t σ H Q->wpAny (model X.prog X.w) X.A (isTrue e X.env b) (TP X a σ Q) X.xe s
def PW.pt{X:Cx}{e:Expr}{t:TT}(h:PW X e t):PT X e t:=h _
def PA(X:Cx)(es:List Expr)(t:TA):Prop :=
 ∀(pos:Pos) (a:List (Addr × Obj)) (s:Shared) (σ:St) (H:Hp) (Q:List V->Hp->Prop),Inv X a σ H s->t σ H Q->wpAny (model X.prog X.w) X.A (spliced (backTo pos (starEach es X.env))) (AP X a σ Q) X.xe s
def PS(X:Cx)(st:Stmt)(t:TS):Prop :=
 ∀(a:List (Addr × Obj)) (s:Shared) (σ:St) (H:Hp) (D:Ends),Inv X a σ H s->t D σ H->wpAny (model X.prog X.w) X.A (exec st X.env) (SP X a D) X.xe s
def lg(X:Cx)(st:List Stmt)(t:TS):Prop :=
 ∀(a:List (Addr × Obj)) (s:Shared) (σ:St) (H:Hp) (D:Ends),Inv X a σ H s->t D σ H->wpAny (model X.prog X.w) X.A (execs st X.env) (SP X a D) X.xe s
def bH{α:Type}{t:Sem α}{Q b:α->Shared->Prop}{M:Model}{A:Around}{E:Value->Shared->Prop}{s:Shared}(h:wpAny M A t Q E s)(c:∀a s,Q a s->b a s):wpAny M A t b E s:=wpAny_mono h c λ_ _ x=>x
section
variable {X:Cx}
def Jz(i:Nat):TE:=λσ H Q=>∃v,σ[i]?=some (some v)/\Q v H
def tC(v:V):TE:=λ_ H Q=>Q v H
def nQ{i:Nat}{x:Str}{pos:Pos}(t:X.N[i]?=some x)(w:Dp X.env.scope x)(n:autoParam ((x == ("__debug__":Str))=false) b7)(j:autoParam ((x == ("__classdict__":Str))=false) b7):PE X (.Name x pos) (Jz i):=by
 intro g s σ H Q I h
 obtain⟨v,e,h⟩:=h
 obtain⟨m,q,p⟩:=I.loc
 obtain⟨u,r,l⟩:=p i x v t e w
 have f:EP X g σ Q u s:=⟨v,H,I,r,h⟩
 rcases l with⟨b,y⟩|⟨b,c,o,a⟩
 ·exact Vb (wpAny_loadName_local I.ok.kind b q y f) n
 ·rcases b with b|b
  ·exact Vb (wpAny_loadName_cell I.ok.kind b o a f) n
  ·exact Vb (wpAny_loadName_free I.ok.kind b o a f j) n
def JN{i j pos}:PE X (.Constant (.int i) j pos) (tC (.int i)):=λ_ _ _ H _ I h=>wpAny_Constant_int ⟨.int i,H,I.tok _,⟨_,rfl⟩,h⟩
def Ld{b j pos}:PE X (.Constant (.bool b) j pos) (tC (.bl b)):=λ_ _ _ H _ I h=>Constant_bool ⟨.bl b,H,I,rfl,h⟩
def JQ{j pos}:PE X (.Constant .none j pos) (tC .ah):=λ_ _ _ H _ I h=>Constant_none ⟨.ah,H,I,rfl,h⟩
def tH{x j pos}:PE X (.Constant (.str x) j pos) (tC (.str x)):=λ_ _ _ H _ I h=>Calls.Constant_str ⟨.str x,H,I.tok _,⟨_,rfl⟩,h⟩
def Gl(X:Cx)(x:Str):Prop:=X.env.kindOf x=some .globalImplicit
def sT{E:Value->Shared->Prop}{a:List (Addr × Obj)}{s:Shared}{σ:St}{H:Hp}{x:Str}{u:Value}{pos:Pos}{Q:Value->Shared->Prop}(I:Inv X a σ H s)(e:Gl X x)(b:X.mg x=some u)(h:Q u s)
  (c:autoParam ((x == ("__debug__":Str))=false) b7):wpAny (model X.prog X.w) X.A (eval (.Name x pos) X.env) Q E s :=
 To I.ok.kind e (Calls.loadGlobal_global (by rw[I.ok.glob];exact I.mod.glob.keeps I.bk) b h) c
def gG{E:Value->Shared->Prop}{a:List (Addr × Obj)}{s:Shared}{σ:St}{H:Hp}{x:Str}{u:Value}{pos:Pos}{Q:Value->Shared->Prop}(I:Inv X a σ H s)(c:Gl X x)(g:X.mg x=none)(f:Px x=some u)(h:Q u s)
  (e:autoParam (x≠"__name__") b7)(i:autoParam ((x == ("__debug__":Str))=false) b7):wpAny (model X.prog X.w) X.A (eval (.Name x pos) X.env) Q E s:=by
 obtain⟨j,h1,b⟩:=I.mod.blt
 exact To I.ok.kind c (Calls.loadGlobal_builtin (by rw[I.ok.glob];exact I.mod.glob.keeps I.bk) g (by rw[I.ok.blt];exact h1.keeps I.bk) ((b x e).trans f) h) i
def FP{x:Str}{v:V}{u:Value}{pos:Pos}(c:Gl X x)(a:X.mg x=some u)(r:RelV v u)(b:autoParam ((x == ("__debug__":Str))=false) b7):PE X (.Name x pos) (tC v) :=
 λ_ _ _ H _ I h=>sT I c a ⟨v,H,I,r,h⟩ b
def tF{x:Str}{v:V}{u:Value}{pos:Pos}(a:Gl X x)(e:X.mg x=none)(c:Px x=some u)(r:RelV v u)(b:autoParam (x≠"__name__") b7)(f:autoParam ((x == ("__debug__":Str))=false) b7):PE X (.Name x pos) (tC v) :=
 λ_ _ _ H _ I h=>gG I a e c ⟨v,H,I,r,h⟩ b f
variable {a b:Expr}{ta tb:TE}{pos:Pos}
def PC(X:Cx)(op:CmpOp)(a b:Expr)(t:TE):Prop :=
 ∀(c:List (Addr × Obj)) (s:Shared) (σ:St) (H:Hp) (Q:VK),Inv X c σ H s->t σ H Q ->
  wpAny (model X.prog X.w) X.A (eval a X.env) (λv f=>wpAny (model X.prog X.w) X.A (eval b X.env) (λu e=>wpAny (model X.prog X.w) X.A (compareOp op v u) (EP X c σ Q) X.xe e) X.xe f) X.xe s
def tB(t:TE):TT:=λσ H Q=>t σ H λx e=>∃c,x=.bl c/\Q c e
def CP{op:CmpOp}{t:TE}(h:PC X op a b t)(h1:behindInMarks op b=false:=by first|exact CD _ (by decide) (by decide)|rfl):PE X (.Compare a [op] [b] pos) t:=λc s σ H Q I e=>Wz (h c s σ H Q I e) h1
def Cn{op:CmpOp}{t:TE}(h:PC X op a b t)(h1:behindInMarks op b=false:=by first|exact CD _ (by decide) (by decide)|rfl):PT X (.Compare a [op] [b] pos) (tB t):=by
 intro e s σ H Q I j
 refine U6 (bH (h e s σ H _ I j) λv n h1=>bH h1 λu o g=>bH g ?_) h1;rintro c p ⟨x,m,l,i,f⟩
 obtain⟨d,rfl,q⟩:=f
 cases i
 exact wpAny_truthy_bool ⟨m,l,q⟩
variable {tA tB':TT}{rest:List Expr}
def Nj(t u:TT):TT:=λσ H Q=>t σ H λc e=>if c=true then u σ e Q else Q false e
def Om(t u:TT):TT:=λσ H Q=>t σ H λc e=>if c=true then Q true e else u σ e Q
def Nq(t:TT):TT:=λσ H Q=>t σ H λc e=>Q (!c) e
def Fj(g:PT X a tA):PW X (.BoolOp .And [a] pos) tA:=by
 intro j f s σ H Q I h
 refine isTrue_and (bH (g f s σ H Q I h) λc i e=>?_)
 cases c with
 |true=>exact isTrue_and_nil e
 |false=>exact e
def Jc(g:PT X a tA):PW X (.BoolOp .Or [a] pos) tA:=by
 intro j f s σ H Q I h
 refine isTrue_or (bH (g f s σ H Q I h) λc i e=>?_)
 cases c with
 |false=>exact isTrue_or_nil e
 |true=>exact e
def Jb(n:PT X a tA)(l:PW X (.BoolOp .And (b::rest) pos) tB'):PW X (.BoolOp .And (a::b::rest) pos) (Nj tA tB'):=by
 intro m e s σ H Q I h
 refine isTrue_and (bH (n e s σ H _ I h) ?_);rintro c j ⟨i,g,f⟩
 cases c with
 |true=>exact l m e j σ i Q g f
 |false=>exact⟨i,g,f⟩
def Lj(n:PT X a tA)(l:PW X (.BoolOp .Or (b::rest) pos) tB'):PW X (.BoolOp .Or (a::b::rest) pos) (Om tA tB'):=by
 intro m e s σ H Q I h
 refine isTrue_or (bH (n e s σ H _ I h) ?_);rintro c j ⟨i,g,f⟩
 cases c with
 |true=>exact⟨i,g,f⟩
 |false=>exact l m e j σ i Q g f
def Ja(f:PT X a tA):PT X (.UnaryOp .Not a pos) (Nq tA):=by
 intro e s σ H Q I h
 exact isTrue_not (f e s σ H (λc g=>Q (!c) g) I h)
def L5(g f:TE):TE:=λσ H Q=>g σ H λx e=>∃c,x=.bl c/\if c=true then f σ e Q else Q (.bl false) e
def Nr(g f:TE):TE:=λσ H Q=>g σ H λx e=>∃c,x=.bl c/\if c=true then Q (.bl true) e else f σ e Q
def MF(e:TE):TE:=λσ H Q=>e σ H λx f=>∃c,x=.bl c/\Q (.bl (!c)) f
def JS{op}{t:TE}(h:PE X a t):PE X (.BoolOp op [a] pos) t:=λc s σ H Q I e=>BoolOp_one (h c s σ H Q I e)
def JL(n:PE X a ta)(m:PE X (.BoolOp .And (b::rest) pos) tb):PE X (.BoolOp .And (a::b::rest) pos) (L5 ta tb):=by
 intro e s σ H Q I h
 refine BoolOp_and (bH (n e s σ H _ I h) ?_);rintro v j ⟨x,i,g,l,f⟩
 obtain⟨c,rfl,f⟩:=f
 cases l
 refine wpAny_truthy_bool ?_
 cases c with
 |true=>exact m e j σ i Q g f
 |false=>exact⟨.bl false,i,g,rfl,f⟩
def Lh(n:PE X a ta)(m:PE X (.BoolOp .Or (b::rest) pos) tb):PE X (.BoolOp .Or (a::b::rest) pos) (Nr ta tb):=by
 intro e s σ H Q I h
 refine BoolOp_or (bH (n e s σ H _ I h) ?_);rintro v j ⟨x,i,g,l,f⟩
 obtain⟨c,rfl,f⟩:=f
 cases l
 refine wpAny_truthy_bool ?_
 cases c with
 |false=>exact m e j σ i Q g f
 |true=>exact⟨.bl true,i,g,rfl,f⟩
def JR(j:PE X a ta):PE X (.UnaryOp .Not a pos) (MF ta):=by
 intro e s σ H Q I h
 refine UnaryOp_ (bH (j e s σ H _ I h) ?_);rintro v m ⟨x,l,i,g,f⟩
 obtain⟨c,rfl,f⟩:=f
 cases g
 exact not_of (wpAny_truthy_bool ⟨.bl (!c),l,i,rfl,f⟩)
def Ol(t:TT)(g f:TE):TE:=λσ H Q=>t σ H λc e=>if c=true then g σ e Q else f σ e Q
def CT{c:Expr}(n:PT X c tA)(m:PE X a ta)(l:PE X b tb):PE X (.IfExp c a b pos) (Ol tA ta tb):=by
 intro e s σ H Q I h
 refine wpAny_IfExp (bH (n e s σ H _ I h) ?_);rintro d f ⟨j,i,g⟩
 cases d with
 |true=>exact m e f σ j Q i g
 |false=>exact l e f σ j Q i g
end
def eX(K:j')(H:Hp)(a:Addr)(xs:List V):Prop :=
 Rd H a (.lst xs) \/
  ∃(o:Obj) (b:Array Value) (n:Nat),K.lookup a=some o/\o.cls=.type "list"/\o.dict=none/\o.data=.seq b n/\b.size<=sizeLine/\Vals xs b.toList
def eY(K:j')(H:Hp)(a:Addr)(xs:List V):Prop :=
 Rd H a (.tup xs) \/
  ∃(o:Obj) (b:Array Value) (n:Nat),K.lookup a=some o/\o.cls=.type "tuple"/\o.data=.seq b n/\b.size<=sizeLine/\Vals xs b.toList
def M0:Value->Option V
 |.none=>some .ah
 |.bool b=>some (.bl b)
 |.int i _=>some (.int i)
 |.str x _=>some (.str x)
 |.bytes b _=>some (.wC b)
 |.float b _=>some (.Me b)
 |.ref a=>some (.ref a)
 |.type n=>some (.ty n)
 |_=>none
def RelV.abs{x:V}{u:Value}(r:RelV x u):M0 u=some x:=by
 cases x with
 |ah=>cases r;rfl
 |bl _=>cases r;rfl
 |int _=>obtain⟨t,rfl⟩:=r;rfl
 |str _=>obtain⟨t,rfl⟩:=r;rfl
 |wC _=>obtain⟨t,rfl⟩:=r;rfl
 |Me _=>obtain⟨t,rfl⟩:=r;rfl
 |ref _=>cases r;rfl
 |ty _=>cases r;rfl
def RelV.inj{x y:V}{u:Value}(r:RelV x u)(q:RelV y u):x=y:=Pq (r.abs.symm.trans q.abs)
def Vals.inj:∀{xs ys:List V} {us:List Value},Vals xs us->Vals ys us->xs=ys
 |_,_,_,.nil,.nil=>rfl
 |_,_,_,.cons r t,.cons r' t'=>by rw[r.inj r',Vals.inj t t']
section
variable {X:Cx}{pins:List (Addr × Obj)}{σ:St}{H:Hp}{s:Shared}{a:Addr}{xs ys:List V}
def eX.of{K:j'}(h:H a=some (.lst xs)):eX K H a xs:=.inl (.inl h)
def eY.of{K:j'}(h:H a=some (.tup xs)):eY K H a xs:=.inl (.inl h)
def Inv.list(I:Inv X pins σ H s)(h:eX X.K H a xs):∃b:List Value,Vals xs b/\PlainL s.heap a b.toArray/\xs.length<=sizeLine:=by
 rcases h with h|⟨o,b,n,c,i,g,f,hz,r⟩
 ·obtain⟨z,b,n,r,e⟩:=h.ok I.bJ
  exact⟨b,r,⟨_,n,e,rfl,rfl,rfl⟩,z⟩
 ·refine⟨b.toList,r,⟨o,n,I.qx a o c,i,g,by simpa using f⟩,?_⟩
  have e:=r.length
  simp only[PZ] at e
  omega
def Inv.tuple(I:Inv X pins σ H s)(h:eY X.K H a xs):∃b:List Value,Vals xs b/\IsTup s.heap a b.toArray/\xs.length<=sizeLine:=by
 rcases h with h|⟨o,b,n,f,g,c,hz,r⟩
 ·obtain⟨z,b,r,p⟩:=h.ok I.bJ
  exact⟨b,r,p,z⟩
 ·refine⟨b.toList,r,⟨o,I.qx a o f,g,n,by simpa using c⟩,?_⟩
  have e:=r.length
  simp only[PZ] at e
  omega
def Inv.pf(I:Inv X pins σ H s)(h:eX X.K H a xs)(h':eX X.K H a ys):xs=ys:=by
 obtain⟨b,r,⟨o,n,e,_,_,d⟩,_⟩:=I.list h
 obtain⟨its',r',⟨g,i,c,_,_,d'⟩,_⟩:=I.list h'
 rw[e] at c;cases c
 rw[d] at d'
 injection d' with f _
 have:b=its':=by simpa using congrArg Vq f
 subst this
 exact r.inj r'
def Inv.nW(I:Inv X pins σ H s)(h:eY X.K H a xs)(h':eY X.K H a ys):xs=ys:=by
 obtain⟨b,r,⟨o,e,_,n,d⟩,_⟩:=I.tuple h
 obtain⟨its',r',⟨g,c,_,i,d'⟩,_⟩:=I.tuple h'
 rw[e] at c;cases c
 rw[d] at d'
 injection d' with f _
 have:b=its':=by simpa using congrArg Vq f
 subst this
 exact r.inj r'
end
abbrev Cx.qh(X:Cx)(E:Value->Shared->Prop):Cx:={ X with xe:=E }
abbrev Cx.Iw(X:Cx):Cx:=X.qh λ_ _=>False
def Cx.Ok.qh{X:Cx}(ok:X.Ok)(E:Value->Shared->Prop):(X.qh E).Ok :=
 ⟨ok.mod,ok.kind,ok.glob,ok.blt,ok.above,ok.inj,ok.has,ok.Ke,ok.hd,ok.frames,ok.Mj,ok.OG,ok.bs,ok.Gd,ok.CF,ok.BV,ok.nA,ok.Gr⟩
def Cx.Ok.jQ{X:Cx}{E:Value->Shared->Prop}(ok:(X.qh E).Ok):X.Ok :=
 ⟨ok.mod,ok.kind,ok.glob,ok.blt,ok.above,ok.inj,ok.has,ok.Ke,ok.hd,ok.frames,ok.Mj,ok.OG,ok.bs,ok.Gd,ok.CF,ok.BV,ok.nA,ok.Gr⟩
section
variable {X:Cx}{pins:List (Addr × Obj)}{σ:St}{H:Hp}{s:Shared}{E:Value->Shared->Prop}
def Inv.qh(I:Inv X pins σ H s)(E:Value->Shared->Prop):Inv (X.qh E) pins σ H s:=⟨I.ok.qh E,I.os,I.bare,I.base,I.loc,I.cell,I.free,I.fO,I.pin,I.bJ,I.len⟩
def Inv.jQ(I:Inv (X.qh E) pins σ H s):Inv X pins σ H s:=⟨I.ok.jQ,I.os,I.bare,I.base,I.loc,I.cell,I.free,I.fO,I.pin,I.bJ,I.len⟩
def SP.jQ{D:Ends}{f:Flow}{c:Shared}(h:SP (X.qh E) pins D f c):SP X pins D f c:=by
 cases f with
 |next=>obtain⟨a,b,I,q⟩:=h;exact⟨a,b,I.jQ,q⟩
 |brk=>obtain⟨a,b,I,q⟩:=h;exact⟨a,b,I.jQ,q⟩
 |cont=>obtain⟨a,b,I,q⟩:=h;exact⟨a,b,I.jQ,q⟩
 |ret u=>obtain⟨v,a,b,I,r,q⟩:=h;exact⟨v,a,b,I.jQ,r,q⟩
def lg.Iw{st:List Stmt}{t:TS}(h:lg X.Iw st t):lg X st t:=λa s σ H D I b =>
 wpAny_mono (h a s σ H D (I.qh _) b) (λ_ _ q=>q.jQ) λ_ _ z=>Qb z
end
section
variable {X:Cx}{st:Stmt}{rest:List Stmt}{t u:TS}{e:Expr}{te:TE}{pos:Pos}
def ME:TS:=λD σ H=>D.nx σ H
def Nu(t u:TS):TS:=λD σ H=>t { D with nx:=u D } σ H
def tM:lg X [] ME:=λ_ _ σ H _ I h=>UC ⟨σ,H,I,h⟩
def qE(h1:PS X st t)(g:lg X rest u):lg X (st::rest) (Nu t u):=by
 intro a s σ H D I h
 refine V4 (bH (h1 a s σ H { D with nx:=u D } I h) λf b q=>?_)
 cases f with
 |next =>
  obtain⟨j,c,i,q⟩:=q
  exact g a b j c D i q
 |ret v=>exact q
 |brk=>exact q
 |cont=>exact q
def yf(h1:PS X st t):lg X [st] t:=by
 intro a s σ H D I h
 refine V4 (bH (h1 a s σ H D I h) λf b q=>?_)
 cases f with
 |next=>exact UC q
 |ret v=>exact q
 |brk=>exact q
 |cont=>exact q
def Inv.quiet{a:List (Addr × Obj)}{σ:St}{H:Hp}{s:Shared}(I:Inv X a σ H s):interactive X.env=false:=by simp[interactive,I.ok.kind]
def L9(a:TE):TS:=λD σ H=>a σ H λ_ b=>D.nx σ b
def tL(he:PE X e te)(c:autoParam (QL e none pos.line X.env=pure false) a9):PS X (.Expr e pos) (L9 te):=by
 intro a s σ H D I h
 exact wpAny_Expr_any (bH (he a s σ H _ I h) fun v i ⟨x,g,f,j,b⟩=>⟨σ,g,f,b⟩) I.quiet c
def Nt(a:TE):TS:=λD σ H=>a σ H D.rt
def Ck(he:PE X e te):PS X (.Return (some e) pos) (Nt te):=by
 intro a s σ H D I h
 exact wpAny_Return_some (bH (he a s σ H _ I h) fun v i ⟨x,g,f,c,b⟩=>⟨x,σ,g,f,c,b⟩)
def Nm(c:TT)(t u:TS):TS:=λD σ H=>c σ H λb a=>if b=true then t D σ a else u D σ a
def G_{c:Expr}{a b:List Stmt}{m:TT}(p:PT X c m)(o:lg X a t)(n:lg X b u):PS X (.If c a b pos) (Nm m t u):=by
 intro f s σ H D I h
 refine wpAny_If (bH (p f s σ H _ I h) ?_);rintro d g ⟨l,j,i⟩
 cases d with
 |true=>exact o f g σ l D j i
 |false=>exact n f g σ l D j i
def Jx:TS:=λ_ _ _=>False
def Cj:PS X st Jx:=λ_ _ _ _ _ _ h=>h.elim
end
abbrev TG:=V->St->Hp->(St->Hp->Prop)->Prop
abbrev Ga:=List V->St->Hp->(St->Hp->Prop)->Prop
def PG(X:Cx)(a:Expr)(t:TG):Prop :=
 ∀(b:List (Addr × Obj)) (s:Shared) (σ:St) (H:Hp) (v:V) (u:Value) (Q:St->Hp->Prop),Inv X b σ H s->RelV v u->t v σ H Q ->
  wpAny (model X.prog X.w) X.A (assign a X.env u) (λ_ f=>∃ e c,Inv X b e c f/\Q e c) X.xe s
def Dk(X:Cx)(ts:List Expr)(t:Ga):Prop :=
 ∀(a:List (Addr × Obj)) (s:Shared) (σ:St) (H:Hp) (vs:List V) (us:List Value) (Q:St->Hp->Prop),Inv X a σ H s->Vals vs us->t vs σ H Q ->
  wpAny (model X.prog X.w) X.A (assignInOrder ((assignEach ts X.env).map (·.2)) us) (λ_ e=>∃ b c,Inv X a b c e/\Q b c) X.xe s
section
variable {X:Cx}{pos:Pos}
def ir(i:Nat):TG:=λv σ H Q=>Q (σ.set i (some v)) H
def cT{i:Nat}{x:Str}(c:X.N.Nodup)(e:X.N[i]?=some x)(b:Loc X.env.scope x)(f:autoParam (X.fn x=true\/X.env.scope.names.lookup x=some .local) dA):PG X (.Name x pos) (ir i):=by
 intro a s σ H v u Q I r h
 exact wpAny_assign_Name (vm I c e b r (λj g=>⟨_,H,g,h⟩) f)
def IG:Ga:=λvs σ H Q=>vs=[]/\Q σ H
def uk(t:TG)(u:Ga):Ga:=λvs σ H Q=>∃v r,vs=v::r/\t v σ H λa b=>u r a b Q
def yX:Dk X [] IG:=by
 intro a s σ H vs us Q I r h
 obtain⟨e,h⟩:=h
 subst e
 cases r
 exact assignInOrder_nil ⟨σ,H,I,h⟩
def qB{e:Expr}{es:List Expr}{t:TG}{u:Ga}(h1:PG X e t)(g:Dk X es u)
  (i:autoParam ((assignEach (e::es) X.env).map (·.2)=assign e X.env::(assignEach es X.env).map (·.2)) a9):Dk X (e::es) (uk t u):=by
 intro a s σ H vs us Q I r h
 obtain⟨v,o,m,h⟩:=h
 subst m
 cases r with
 |cons r f =>
  rw[i]
  refine assignInOrder_cons (bH (h1 a s σ H _ _ _ I r h) ?_);rintro _ c ⟨l,n,j,b⟩
  exact g a c l n _ _ Q j f b
def IH(K:j')(n:Nat)(t:Ga):TG:=λv σ H Q=>∃a xs,v=.ref a/\eY K H a xs/\xs.length=n/\t xs σ H Q
def Ca{es:List Expr}{k:Nat}{t:Ga}{n:Nat}(z:X.calm=true)(h:Dk X es t)
  (y:autoParam ((assignEach es X.env).length=n) a9)(g:autoParam ((assignEach es X.env).findIdx? (·.1)=none) a9):PG X (.Tuple es k pos) (IH X.K n t):=by
 intro c s σ H v u Q I r f
 obtain⟨a,xs,x,q,m,f⟩:=f
 subst x
 cases r
 obtain⟨p,i,j,hz⟩:=I.tuple q
 refine assign_Tuple_tuple (I.ok.hd z) j (by simp[y,<- m,i.length]) g λh' l=>?_
 have w:Inv X c σ H { s with heap:=h' }:=I.kept (t':=s.toks) λb o e=>l b o (PR (N' e)) e
 exact h c _ σ H xs _ Q w (by simpa using i) f
def Nk(a:TE)(g:TG):TS:=λD σ H=>a σ H λx b=>g x σ b D.nx
def Cm{i:Nat}{x:Str}{e:Expr}{c:TE}{a:Pos}(p:X.N.Nodup)(o:X.N[i]?=some x)(f:Loc X.env.scope x)(he:PE X e c)(m:autoParam (QL e (some (.Name x a)) pos.line X.env=pure false) a9)(q:autoParam (X.fn x=true\/X.env.scope.names.lookup x=some .local) dA) :
  PS X (.Assign [.Name x a] e pos) (Nk c (ir i)):=by
 intro b s σ H D I h
 refine wpAny_Assign_Name (bH (he b s σ H _ I h) ?_) m;rintro v t ⟨y,r,n,l,g⟩
 exact vm n p o f l (λu j=>⟨_,r,j,g⟩) q
end
structure It where
 go:Nat->Hp->Prop
 Am:Nat->Hp->V->Hp->Prop
 stop:Nat->Hp->Prop
def kH(X:Cx)(a:List (Addr × Obj))(H:Hp)(b:Addr):Prop :=
 H b=none/\b≠X.env.locals/\b∉X.fs/\(b∈X.ex\/X.s₀.heap.objs.size<=b)/\(∀x c,X.env.cells.lookup x=some c->c≠b)/\∀p∈X.pn++a,p.1≠b
def Inv.zR{X:Cx}{a:List (Addr × Obj)}{σ:St}{H g:Hp}{s:Shared}{b:Addr}(I:Inv X a σ H s)(f:s.heap.objs.size<=b)(i:g b=none):kH X a g b:=by
 refine⟨i,Pz (Pa I.lt f),I.NV f,.inr (PB I.sz f),λx c e z=>?_,λp h z=>?_⟩
 ·obtain⟨v,q⟩:=I.cell x c e
  exact absurd (Pa q.lt (by rw[z];exact f)) (Qa _)
 ·exact absurd (Pa (N' (I.pin p h).1) (by rw[z];exact f)) (Qa _)
structure Turn (P:O0) (w:World) (K:j') (tg:Expr) (J:It) (fp:List Addr) (it:Addr) (tn:Nat->Heap->Prop):Prop where
 mem:it∈fp
 obj:∀i h,tn i h->∀b∈fp,∃o,h.get? b=some o/\∀v,o.data≠.cell v
 keep:∀i h h',tn i h->(∀b∈fp,∀o,h.get? b=some o->h'.get? b=some o)->tn i h'
 item:∀(X:Cx),X.prog=P->X.w=w->X.K=K->X.calm=true->∀(i:Nat) (pins:List (Addr × Obj)) (s:Shared) (σ:St) (H:Hp) (E:Value->Shared->Prop),Inv X pins σ H s->(∀b∈fp,kH X pins H b)->tn i s.heap->J.go i H ->
  wpAny (model P w) X.A (pyNext (.ref it)) (λr s1=>∃u,r=some u /\
   wpAny (model P w) X.A (letOwnedTupleGo tg (.ref it) u) (λ_ s2=>∃x H',Inv X pins σ H' s2/\RelV x u/\J.Am i H x H'/\tn (i+1) s2.heap/\∀b∈fp,H' b=none) E s1) E s
 done:∀(X:Cx),X.prog=P->X.w=w->X.K=K->X.calm=true->∀(i:Nat) (pins:List (Addr × Obj)) (s:Shared) (σ:St) (H:Hp) (E:Value->Shared->Prop),Inv X pins σ H s->(∀b∈fp,kH X pins H b)->tn i s.heap->J.stop i H ->
  wpAny (model P w) X.A (pyNext (.ref it)) (λr s1=>r=none/\Inv X pins σ H s1) E s
 self:∀(A:Around) (i:Nat) (s:Shared) (Q:Value->Shared->Prop) (E:Value->Shared->Prop),tn i s.heap->Q (.ref it) s->wpAny (model P w) A (pyIter (.ref it)) Q E s
abbrev TI:=St->Hp->(It->Hp->Prop)->Prop
def OC(X:Cx)(a:List (Addr × Obj))(σ:St)(j:Expr)(R:It->Hp->Prop)(e:Value)(g:Shared):Prop :=
 ∃(f:Addr) (h:List Addr) (i:Nat->Heap->Prop) (J:It) (c:Hp),e=.ref f/\Inv X a σ c g/\Turn X.prog X.w X.K j J h f i/\i 0 g.heap/\(∀b∈h,kH X a c b)/\R J c
def PI(X:Cx)(c b:Expr)(wi:TI):Prop :=
 ∀(a:List (Addr × Obj)) (s:Shared) (σ:St) (H:Hp) (R:It->Hp->Prop),Inv X a σ H s->wi σ H R ->
  wpAny (model X.prog X.w) X.A (eval b X.env) (λv e=>wpAny (model X.prog X.w) X.A (pyIter v) (OC X a σ c R) X.xe e) X.xe s
def uq{M:Model}{A:Around}{E:Value->Shared->Prop}{s:Shared}{b:Expr}{c:Addr}{u:Value}{o:Obj}{n:String}{vs:Array Value}{Q:Unit->Shared->Prop}(e:s.heap.get? c=some o)(i:o.cls=.type n)(g:o.data=.fields vs)
    (f:["enumerate","zip","dict_itemiterator","dict_reverseitemiterator","odict_iterator","itertools.zip_longest","itertools.pairwise"].contains n=false)(a:Q () s):wpAny M A (letOwnedTupleGo b (.ref c) u) Q E s:=by
  unfold letOwnedTupleGo
  cases b<;>first
    |exact wpAny_pure a
    | (cases u<;>first
        |exact wpAny_pure a
        | (refine wpAny_bind (wpAny_load e ?_)
           rw[i,g]
           show wpAny M A (if(["enumerate","zip","dict_itemiterator","dict_reverseitemiterator","odict_iterator","itertools.zip_longest","itertools.pairwise"].contains n&&vs[0]? == some (rawInt _))=true then _ else _) Q E s
           rw[if_neg (by intro h;rw[f,Bool.false_and] at h;cases h)]
           exact wpAny_pure a))
def N_(K:j')(a:Addr):It :=
 ⟨λi H=>∃xs x,eX K H a xs/\xs[i]?=some x,λi H x b=>b=H/\∀xs,eX K H a xs->xs[i]?=some x,λi H=>∃xs,eX K H a xs/\xs.length<=i⟩
def OA(K:j')(a:Addr):It :=
 ⟨λi H=>∃xs x,eY K H a xs/\xs[i]?=some x,λi H x b=>b=H/\∀xs,eY K H a xs->xs[i]?=some x,λi H=>∃xs,eY K H a xs/\xs.length<=i⟩
def MX(lo:Int)(n:Nat):It:=⟨λi _=>i<n,λi H x a=>a=H/\x=.int (lo+i),λi _=>n<=i⟩
def AW{P:O0}{w:World}{K:j'}{N:Expr}(a it:Addr):Turn P w K N (N_ K a) [it] it (λi h=>h.IsListIter it a i) where
 mem:=by simp
 obj:=λi h st b g=>by
  have e:b=it:=by simpa using g
  subst e
  obtain⟨o,e,c,d⟩:=st
  exact⟨o,e,λv z=>by rw[d] at z;cases z⟩
 keep:=λi h h' st k=>st.at λo e=>k it (by simp) o e
 item:=by
  intro X F J A M i f s σ H E I l st L
  subst F J A
  obtain⟨xs,x,m,G⟩:=L
  obtain⟨q,t,p,hz⟩:=I.list m
  obtain⟨u,S,O⟩:=t.get G
  obtain⟨C,n,R,y,B,r⟩:=l it (by simp)
  refine wpAny_pyNext_list_item st p.isList (x:=u) (by simpa using S) λh' j Q=>?_
  have T:Inv X f σ H { s with heap:=h' }:=I.turned (t':=s.toks) (λb o g e=>(Q.2 b g).trans e) C n y B r
  obtain⟨o,e,c,d⟩:=id j
  exact⟨u,rfl,uq (s:={ s with heap:=h' }) e c d (by decide) ⟨x,H,T,O,⟨rfl,λys U=>by rw[I.pf U m];exact G⟩,j,λb g=>(l b g).1⟩⟩
 done:=by
  intro X F J A M i f s σ H E I l st L
  subst F J A
  obtain⟨xs,m,G⟩:=L
  obtain⟨q,t,p,hz⟩:=I.list m
  obtain⟨C,n,R,y,B,r⟩:=l it (by simp)
  have Y:=t.length
  exact wpAny_pyNext_list_end (I.ok.hd M) st p.isList (by simp;omega) λh' W=>⟨rfl,I.turned (t':=s.toks) (λb o g e=>W b o g e) C n y B r⟩
 self:=λ_ _ _ _ _ st h=>wpAny_pyIter_listiter st h
def xg{P:O0}{w:World}{K:j'}{N:Expr}(a it:Addr):Turn P w K N (OA K a) [it] it (λi h=>h.IsTupleIter it a i) where
 mem:=by simp
 obj:=λi h st b j=>by
  have e:b=it:=by simpa using j
  subst e
  obtain⟨o,e,c,d⟩:=st
  exact⟨o,e,λv z=>by rw[d] at z;cases z⟩
 keep:=λi h h' st k=>st.at λo e=>k it (by simp) o e
 item:=by
  intro X F J A M i f s σ H E I m st L
  subst F J A
  obtain⟨xs,x,n,G⟩:=L
  obtain⟨g,t,p,hz⟩:=I.tuple n
  obtain⟨u,S,O⟩:=t.get G
  obtain⟨C,q,R,y,B,r⟩:=m it (by simp)
  refine wpAny_pyNext_tuple_item st (show s.heap.IsTuple a g.toArray from p) (x:=u) (by simpa using S) λh' l Q=>?_
  have T:Inv X f σ H { s with heap:=h' }:=I.turned (t':=s.toks) (λb o j e=>(Q.2 b j).trans e) C q y B r
  obtain⟨o,e,c,d⟩:=id l
  exact⟨u,rfl,uq (s:={ s with heap:=h' }) e c d (by decide) ⟨x,H,T,O,⟨rfl,λys U=>by rw[I.nW U n];exact G⟩,l,λb j=>(m b j).1⟩⟩
 done:=by
  intro X F J A M i f s σ H E I m st L
  subst F J A
  obtain⟨xs,n,G⟩:=L
  obtain⟨g,t,p,hz⟩:=I.tuple n
  obtain⟨C,q,R,y,B,r⟩:=m it (by simp)
  have Y:=t.length
  exact wpAny_pyNext_tuple_end (I.ok.hd M) st (show s.heap.IsTuple a g.toArray from p) (by simp;omega) λh' W=>⟨rfl,I.turned (t':=s.toks) (λb o j e=>W b o j e) C q y B r⟩
 self:=λ_ _ _ _ _ st h=>wpAny_pyIter_tupleiter st h
def xf{P:O0}{w:World}{K:j'}{B:Expr}(it:Addr)(lo:Int)(n:Nat):Turn P w K B (MX lo n) [it] it (λi h=>IsRangeIter h it (lo+(i:Nat)*1) ((n:Int) - (i:Nat)) 1) where
 mem:=by simp
 obj:=λi h st b c=>by
  have e:b=it:=by simpa using c
  subst e
  exact⟨_,st,λv z=>by
   have L:Data.fields _=Data.cell v:=z
   cases L⟩
 keep:=λi h h' st k=>k it (by simp) _ st
 item:=by
  intro X u y q x i a s σ H E I g st A
  subst u y q
  obtain⟨r,j,C,m,p,l⟩:=g it (by simp)
  have W:=Walks.range (prog:=X.prog) (w:=X.w) (I.ok.hd x) it lo 1 n
  refine W.item i s _ _ A st λv h' tk J f G=>?_
  obtain⟨t,rfl⟩:=J
  have F:Inv X a σ H { s with heap:=h',toks:=tk }:=I.turned (λb o c e=>G b o (by simpa using c) e) r j m p l
  refine⟨_,rfl,uq (s:={ s with heap:=h',toks:=tk }) (n:="range_iterator") f rfl rfl (by decide) ⟨.int (lo+i),H,F,⟨t,?_⟩,⟨rfl,rfl⟩,f,λb c=>(g b c).1⟩⟩
  rw[Int.mul_one]
 done:=by
  intro X u y q x i a s σ H E I g st A
  subst u y q
  obtain⟨r,j,C,m,p,l⟩:=g it (by simp)
  exact wpAny_pyNext_range_end (I.ok.hd x) st (by have:n<=i:=A;omega) λh' M=>⟨rfl,I.turned (t':=s.toks) (λb o c e=>M b o c e) r j m p l⟩
 self:=λ_ _ _ _ _ st h=>wpAny_pyIter_rangeiter st h
section
variable {X:Cx}{tg:Expr}
def Cu{c:List (Addr × Obj)}{σ:St}{H:Hp}{s:Shared}{R:It->Hp->Prop}{E:Value->Shared->Prop}{lo a:Int}{t u v:Tok}{tk:Nat}(I:Inv X c σ H s)(h1:-(2 ^ 62)<=lo)(h:lo<2 ^ 62)(m:-(2 ^ 62)<=a)(g:a<2 ^ 62)
  (q:R (MX lo (a - lo).toNat) H):wpAny (model X.prog X.w) X.A (pyIter (.ref s.heap.objs.size)) (OC X c σ tg R) E { s with heap:=s.heap.push { cls:=.type "range",data:=.fields #[.int lo t,.int a u,.int 1 v] },toks:=tk }:=by
 refine wpAny_pyIter_range (IsRange.new ..) (small_one h1 h m g) ?_
 have f:Inv X c σ H { s with heap:=s.heap.push { cls:=.type "range",data:=.fields #[.int lo t,.int a u,.int 1 v] },toks:=tk }:=I.kept λb o e=>y' _ e
 refine⟨(s.heap.push { cls:=.type "range",data:=.fields #[.int lo t,.int a u,.int 1 v] }).objs.size,[(s.heap.push { cls:=.type "range",data:=.fields #[.int lo t,.int a u,.int 1 v] }).objs.size],_,_,H,rfl,
  f.kept (t':=tk) λb o e=>y' _ e,xf _ lo (a - lo).toNat,?_,λb i=>?_,q⟩
 ·have l:lo+((0:Nat):Int)*1=lo:=by simp
  have j:(((a - lo).toNat:Nat):Int) - ((0:Nat):Int)=WR lo a 1:=by rw[rangeSize_one];split<;>omega
  show IsRangeIter _ _ (lo+((0:Nat):Int)*1) ((((a - lo).toNat:Nat):Int) - ((0:Nat):Int)) 1
  rw[l,j]
  exact K' _ rfl
 ·have e:b=(s.heap.push { cls:=.type "range",data:=.fields #[.int lo t,.int a u,.int 1 v] }).objs.size:=by simpa using i
  subst e
  exact f.zR (O2 _) (f.bJ.fresh (O2 _))
def K5(a:TA):TI:=λσ H R=>a σ H λvs b=>∃j:Int,vs=[.int j]/\-(2 ^ 62)<=j/\j<2 ^ 62/\R (MX 0 j.toNat) b
def z9{a:Expr}{f:TA}{p pos:Pos}(l:Gl X "range")(u:X.mg "range"=none)(v:PA X [a] f)(m:autoParam (starEach [a] X.env=[(false,eval a X.env)]) a9):PI X tg (.Call (.Name "range" p) [a] [] pos) (K5 f):=by
 intro b s σ H R I h
 refine Call_ (gG I l u boot_range (QU (bH (v pos b s σ H _ I h) ?_) m rfl));rintro us w ⟨vs,x,n,i,c⟩
 obtain⟨j,e,c,o,q⟩:=c
 subst e
 cases i with
 |cons r g =>
  cases g
  obtain⟨t,rfl⟩:=r
  exact call_range_1 (Cu n (by omega) (by omega) c o (by simpa using q))
def Nl(wi:TI)(g:TG)(f:TS):TS:=λD σ H=>wi σ H λJ j=>∃W:Nat->Nat->St->Hp->Prop,(∃m,W 0 m σ j)/\∀i m σ H,W i m σ H ->
 (J.stop i H/\D.nx σ H)\/(J.go i H/\∃N:St->Hp->Prop,(∀ c a,N c a->∃b,b<m/\W (i+1) b c a)/\∀x a,J.Am i H x a->g x σ a λe h=>f { D with nx:=N,ct:=N,bk:=D.nx } e h)
def lT(a:List Addr)(h:Heap):List (Addr × Obj):=a.filterMap λb=>(h.get? b).map λo=>(b,o)
def fP{a:List Addr}{h:Heap}{b:Addr}{o:Obj}(c:b∈a)(e:h.get? b=some o):(b,o)∈lT a h:=RH.mpr ⟨b,c,by rw[e];rfl⟩
def nN{a:List Addr}{h:Heap}{p:Addr × Obj}(g:p∈lT a h):p.1∈a/\h.get? p.1=some p.2:=by
 obtain⟨b,c,e⟩:=RH.mp g
 cases q:h.get? b with
 |none=>rw[q] at e;cases e
 |some o =>
  rw[q] at e
  have f:(b,o)=p:=Pq e
  subst f
  exact⟨c,q⟩
def Inv.pinned{a:List (Addr × Obj)}{σ:St}{H:Hp}{s:Shared}{c:List Addr}(I:Inv X a σ H s)(m:∀b∈c,kH X a H b)(i:∀b∈c,∃o,s.heap.get? b=some o/\∀v,o.data≠.cell v):Inv X (a++lT c s.heap) σ H s :=
 I.tI λp l=>(O3.mp l).elim (λz=>I.pin p (O8 _ z)) λz=>by
  obtain⟨f,e⟩:=nN z
  obtain⟨n,h,j,_⟩:=m p.1 f
  obtain⟨o,g,d⟩:=i p.1 f
  rw[e] at g;cases g
  exact⟨e,n,h,j,d⟩
def Inv.gh{a pl:List (Addr × Obj)}{σ:St}{H:Hp}{s:Shared}(I:Inv X (a++pl) σ H s):Inv X a σ H s:=I.tI λp b=>I.pin p (O8 _ (Pn _ b))
def Cg{j:Expr}{B:List Stmt}{wi:TI}{g:TG}{tb:TS}{pos:Pos}(P:WA (model X.prog X.w) X.A X.env X.xe)(hc:X.calm=true)(hi:PI X tg j wi)(hg:PG X tg g)(p:lg X B tb)
  (hs:autoParam (∀x,foldedSetIterable j X.env x=pure x) c7):PS X (.For tg j B [] pos) (Nl wi g tb):=by
 intro a s σ H D I h
 refine wpAny_For (bH (hi a s σ H _ I h) λv s1 h1=>bH h1 λitv s2 h2=>?_) hs
 obtain⟨it,M,tn,J,H2,e,I2,T,Z,f2,W,⟨m0,w0⟩,R⟩:=h2
 subst e
 -- what stays true of the iterator's objects through the loop
 have q:∀{y:Hp},(∀b∈M,y b=none)->∀b∈M,kH X a y b:=λhn b p=>⟨hn b p,(f2 b p).2⟩
 refine codeAny_forLoop_any (λn s'=>∃i E y,Inv X a E y s'/\tn i s'.heap/\(∀b∈M,y b=none)/\W i n E y) ?_ m0 ⟨0,σ,H2,I2,Z,λb p=>(f2 b p).1,w0⟩
 rintro n s3 ⟨i,G,S,I3,F,O,w3⟩
 rcases R i n G S w3 with⟨L,qn⟩|⟨go,N,hN,step⟩
 ·refine Rm P (bH (T.done X rfl rfl rfl hc i a s3 G S X.xe I3 (q O) F L) ?_);rintro r s4 ⟨hr,I4⟩
  subst hr
  exact UC ⟨G,S,I4,qn⟩
 ·refine Rm P (bH (T.item X rfl rfl rfl hc i a s3 G S X.xe I3 (q O) F go) ?_);rintro r s4 ⟨u,hr,h4⟩
  subst hr
  refine Rm P (bH h4 ?_);rintro _ s5 ⟨x,H5,I5,r5,y5,C,U⟩
  have Y:=I5.pinned (q U) (T.obj _ _ C)
  refine Rm P (bH (hg _ s5 G H5 x u _ Y r5 (step x H5 y5)) ?_);rintro _ s6 ⟨σ6,H6,I6,q6⟩
  refine Rm P (bH (p _ s6 σ6 H6 _ I6 q6) λf s7 z=>?_)
  have again:∀{c:St} {t:Hp},Inv X (a++lT M s5.heap) c t s7->N c t->∃m,m<n/\∃i E y,Inv X a E y s7/\tn i s7.heap/\(∀b∈M,y b=none)/\W i m E y:=fun{c t} l Q=>by
   obtain⟨m',hm,w7⟩:=hN c t Q
   refine⟨m',hm,i+1,c,t,l.gh,T.keep _ _ _ C λb p o e=>(l.pin (b,o) (O8 _ (O8 _ (fP p e)))).1,λb p=>?_,w7⟩
   obtain⟨o,e,d⟩:=T.obj _ _ C b p
   exact(l.pin (b,o) (O8 _ (O8 _ (fP p e)))).2.1
  cases f with
  |next=>obtain⟨c,t,l,Q⟩:=z;exact again l Q
  |cont=>obtain⟨c,t,l,Q⟩:=z;exact again l Q
  |brk=>obtain⟨c,t,l,z⟩:=z;exact⟨c,t,l.gh,z⟩
  |ret v=>obtain⟨x7,c,t,l,r7,z⟩:=z;exact⟨x7,c,t,l.gh,r7,z⟩
end
abbrev R2:=V->V->Hp->VK->Prop
def fc(X:Cx)(f:Value->Value->Sem Value)(r:R2):Prop :=
 ∀(a:List (Addr × Obj)) (s:Shared) (σ:St) (H:Hp) (x y:V) (v u:Value) (Q:VK),Inv X a σ H s->RelV x v->RelV y u->r x y H Q ->
  wpAny (model X.prog X.w) X.A (f v u) (EP X a σ Q) X.xe s
def Mx(X:Cx)(f:Value->Sem Value)(r:V->Hp->VK->Prop):Prop :=
 ∀(a:List (Addr × Obj)) (s:Shared) (σ:St) (H:Hp) (x:V) (v:Value) (Q:VK),Inv X a σ H s->RelV x v->r x H Q ->
  wpAny (model X.prog X.w) X.A (f v) (EP X a σ Q) X.xe s
def kK(X:Cx)(f:Value)(r:List V->Hp->VK->Prop):Prop :=
 ∀(a:List (Addr × Obj)) (s:Shared) (σ:St) (H:Hp) (xs:List V) (us:List Value) (Q:VK),Inv X a σ H s->Vals xs us->r xs H Q ->
  wpAny (model X.prog X.w) X.A (call f us) (EP X a σ Q) X.xe s
def Mw(X:Cx)(r:V->Hp->(Bool->Hp->Prop)->Prop):Prop :=
 ∀(a:List (Addr × Obj)) (s:Shared) (σ:St) (H:Hp) (x:V) (v:Value) (Q:Bool->Hp->Prop),Inv X a σ H s->RelV x v->r x H Q ->
  wpAny (model X.prog X.w) X.A (truthy v) (TP X a σ Q) X.xe s
def Jy(r:R2)(c a:TE):TE:=λσ H Q=>c σ H λx e=>a σ e λy b=>r x y b Q
def Oq(r:V->Hp->VK->Prop)(a:TE):TE:=λσ H Q=>a σ H λx b=>r x b Q
def rI(C:Int->Int->Prop)(g:Int->Int->V):R2:=λx y H Q=>∃i j,x=.int i/\y=.int j/\C i j/\Q (g i j) H
def Cs(g:Int->Int->V):R2:=λx y H Q=>∃i j,x=.int i/\y=.int j/\Q (g i j) H
def rU(g:Int->V):V->Hp->VK->Prop:=λx H Q=>∃i,x=.int i/\Q (g i) H
section
variable {X:Cx}{a b c:Expr}{ta tb tc:TE}{pos:Pos}
def Hc(E:PE X a ta)(q:PE X b tb){e:List (Addr × Obj)}{s:Shared}{σ:St}{H:Hp}{R:V->V->Hp->Prop}(I:Inv X e σ H s)
  (h:ta σ H λx j=>tb σ j λy g=>R x y g){Q:Value->Shared->Prop}{f:Value->Value->Sem Value}
  (B:∀v u i x y g,Inv X e σ g i->RelV x v->RelV y u->R x y g->wpAny (model X.prog X.w) X.A (f v u) Q X.xe i) :
  wpAny (model X.prog X.w) X.A (eval a X.env) (λv z=>wpAny (model X.prog X.w) X.A (eval b X.env) (λu C=>wpAny (model X.prog X.w) X.A (f v u) Q X.xe C) X.xe z) X.xe s:=by
 refine bH (E e s σ H _ I h) ?_;rintro v n ⟨x,j,r,o,l⟩
 refine bH (q e n σ j _ r l) ?_;rintro u i ⟨y,g,m,p,t⟩
 exact B v u i x y g m o p t
def Lg{op:Operator}{r:R2}(j:fc X (binaryOp op) r)(o:PE X a ta)(g:PE X b tb):PE X (.BinOp a op b pos) (Jy r ta tb):=by
 intro e s σ H Q I h
 exact wpAny_BinOp (Hc o g I h λv u l x y m f n i q=>j e l σ m x y v u Q f n i q)
def Li{op:UnaryOp}{r:V->Hp->VK->Prop}(l:Mx X (unaryOp op) r)(m:PE X a ta):PE X (.UnaryOp op a pos) (Oq r ta):=by
 intro e s σ H Q I h
 exact UnaryOp_ (bH (m e s σ H _ I h) fun v f ⟨x,n,j,i,g⟩=>l e f σ n x v Q j i g)
def NW{f:Value->Value->Sem Value}{C:Int->Int->Prop}{g:Int->Int->Int}
  (rule:∀(i j:Int) (t u:Tok) (s:Shared) (Q:Value->Shared->Prop) (E:Value->Shared->Prop),C i j->Q (.int (g i j) s.toks) { s with toks:=s.toks+1 }->wpAny (model X.prog X.w) X.A (f (.int i t) (.int j u)) Q E s) :
  fc X f (rI C λi j=>.int (g i j)):=by
 intro e s σ H x y v u Q I l n h
 obtain⟨i,j,rfl,rfl,m,q⟩:=h
 obtain⟨t,rfl⟩:=l
 obtain⟨t',rfl⟩:=n
 exact rule i j t t' s _ _ m ⟨.int (g i j),H,I.tok _,⟨_,rfl⟩,q⟩
def Lb{f:Value->Value->Sem Value}{g:Int->Int->Int}
  (rule:∀(i j:Int) (t u:Tok) (s:Shared) (Q:Value->Shared->Prop) (E:Value->Shared->Prop),Q (.int (g i j) s.toks) { s with toks:=s.toks+1 }->wpAny (model X.prog X.w) X.A (f (.int i t) (.int j u)) Q E s) :
  fc X f (Cs λi j=>.int (g i j)):=by
 intro e s σ H x y v u Q I l m h
 obtain⟨i,j,rfl,rfl,q⟩:=h
 obtain⟨t,rfl⟩:=l
 obtain⟨t',rfl⟩:=m
 exact rule i j t t' s _ _ ⟨.int (g i j),H,I.tok _,⟨_,rfl⟩,q⟩
def JA{f:Value->Value->Sem Value}{g:Int->Int->Bool}
  (rule:∀(i j:Int) (t u:Tok) (s:Shared) (Q:Value->Shared->Prop) (E:Value->Shared->Prop),Q (.bool (g i j)) s->wpAny (model X.prog X.w) X.A (f (.int i t) (.int j u)) Q E s) :
  fc X f (Cs λi j=>.bl (g i j)):=by
 intro e s σ H x y v u Q I l m h
 obtain⟨i,j,rfl,rfl,q⟩:=h
 obtain⟨t,rfl⟩:=l
 obtain⟨t',rfl⟩:=m
 exact rule i j t t' s _ _ ⟨.bl (g i j),H,I,rfl,q⟩
def HP(i j:Int):Prop:=0<j/\j<1073741824
def oR(i j:Int):Prop:=(-(2 ^ 64)<i/\i<2 ^ 64)\/(-(2 ^ 64)<j/\j<2 ^ 64)
def oR.ok{i j:Int}(h:oR i j):W3 i j:=by
 rcases h with⟨h1,e⟩|⟨h1,e⟩
 ·exact .of_left (intBits_le_64 h1 e)
 ·exact .of_right (intBits_le_64 h1 e)
def JB:fc X (binaryOp .Add) (Cs λi j=>.int (i+j)):=Lb λ_ _ _ _ _ _ _ q=>add_int q
def JJ:fc X (binaryOp .Sub) (Cs λi j=>.int (i - j)):=Lb λ_ _ _ _ _ _ _ q=>sub_int q
def FH:fc X (binaryOp .FloorDiv) (rI HP λi j=>.int (i / j)):=NW λi j _ _ _ _ _ e q=>by
 have h1:(0:Int)<j:=e.1
 have f:j<1073741824:=e.2
 exact floordiv_int (by omega) (by rw[Int.fdiv_eq_ediv_of_nonneg i (by omega)];exact q) (.inl (PyProof.noPylong_small (by omega)))
def JG:fc X (binaryOp .Mod) (rI (λ_ j=>0<j) λi j=>.int (i%j)):=NW λi j _ _ _ _ _ e q=>by
 have h1:(0:Int)<j:=e
 exact mod_int' (by omega) (by rw[Int.fmod_eq_emod_of_nonneg i (by omega)];exact q)
def Ot{f:Value->Sem Value}{g:Int->Int}
  (rule:∀(i:Int) (t:Tok) (s:Shared) (Q:Value->Shared->Prop) (E:Value->Shared->Prop),Q (.int (g i) s.toks) { s with toks:=s.toks+1 }->wpAny (model X.prog X.w) X.A (f (.int i t)) Q E s) :
  Mx X f (rU λi=>.int (g i)):=by
 intro e s σ H x v Q I j h
 obtain⟨i,rfl,q⟩:=h
 obtain⟨t,rfl⟩:=j
 exact rule i t s _ _ ⟨.int (g i),H,I.tok _,⟨_,rfl⟩,q⟩
def J8:Mx X (unaryOp .USub) (rU λi=>.int (-i)):=Ot λ_ _ _ _ _ q=>neg_int q
end
def Lx:V->V->Bool
 |.ah,.ah=>true|.ah,.int _=>true|.int _,.ah=>true|.ah,.bl _=>true|.bl _,.ah=>true|.ah,.str _=>true|.str _,.ah=>true
 |.int _,.int _=>true|.bl _,.bl _=>true|.str _,.str _=>true|.wC _,.wC _=>true
 |.int _,.str _=>true|.str _,.int _=>true|.bl _,.str _=>true|.str _,.bl _=>true
 |_,_=>false
def OK:R2:=λx y H Q=>Lx x y=true/\Q (.bl (decide (x=y))) H
def OM:R2:=λx y H Q=>Lx x y=true/\Q (.bl (!decide (x=y))) H
def yA{i j:Int}:decide (V.int i=V.int j)=(i == j):=by
 rw[SO]
 simp
def BD{i j:Bool}:decide (V.bl i=V.bl j)=(i == j):=by
 rw[SO]
 simp
def yB{i j:Str}:decide (V.str i=V.str j)=(i == j):=by
 rw[SO]
 simp
def x_{i j:Array UInt8}:decide (V.wC i=V.wC j)=(i.toList == j.toList):=by
 rw[SO]
 cases i
 cases j
 simp
section
variable {X:Cx}{a b c:Expr}{ta tb tc:TE}{pos:Pos}
def ak{f:List (Addr × Obj)}{σ:St}{H:Hp}{s:Shared}{Q:VK}{k g:Bool}(I:Inv X f σ H s)(q:Q (.bl k) H)(e:k=g):EP X f σ Q (.bool g) s:=by
 subst e
 exact⟨.bl k,H,I,rfl,q⟩
def G7:fc X (compareOp .Eq) OK:=by
 intro l s σ H x y v u Q I g e h
 obtain⟨f,q⟩:=h
 cases x with
 |ah =>
  cases g
  cases y with
  |ah=>cases e;exact Wk (ak I q (by simp))
  |bl j=>cases e;exact Wm (ak I q (by simp))
  |int j=>obtain⟨t',rfl⟩:=e;exact Wl (ak I q (by simp))
  |str j=>obtain⟨t',rfl⟩:=e;exact Wj (ak I q (by simp))
  |_=>exact absurd (show false=true from f) A'
 |bl i =>
  cases g
  cases y with
  |ah=>cases e;exact Wo (ak I q (by simp))
  |bl j=>cases e;exact eq_bool (ak I q BD)
  |str j=>obtain⟨t',rfl⟩:=e;exact WK (ak I q (by simp))
  |_=>exact absurd (show false=true from f) A'
 |int i =>
  obtain⟨t,rfl⟩:=g
  cases y with
  |ah=>cases e;exact Wn (ak I q (by simp))
  |int j=>obtain⟨t',rfl⟩:=e;exact eq_int (ak I q yA)
  |str j=>obtain⟨t',rfl⟩:=e;exact WJ (ak I q (by simp))
  |_=>exact absurd (show false=true from f) A'
 |str i =>
  obtain⟨t,rfl⟩:=g
  cases y with
  |ah=>cases e;exact Wi (ak I q (by simp))
  |bl j=>cases e;exact WI (ak I q (by simp))
  |int j=>obtain⟨t',rfl⟩:=e;exact WH (ak I q (by simp))
  |str j=>obtain⟨t',rfl⟩:=e;exact eq_str (ak I q yB)
  |_=>exact absurd (show false=true from f) A'
 |wC i =>
  obtain⟨t,rfl⟩:=g
  cases y with
  |wC j=>obtain⟨t',rfl⟩:=e;exact PySem.W.eq_bytes (ak I q x_)
  |_=>exact absurd (show false=true from f) A'
 |_=>cases y<;>exact absurd (show false=true from f) A'
def Lc:fc X (compareOp .NotEq) OM:=by
 intro l s σ H x y v u Q I g e h
 obtain⟨f,q⟩:=h
 cases x with
 |ah =>
  cases g
  cases y with
  |ah=>cases e;exact Wd (ak I q (by simp))
  |bl j=>cases e;exact Wf (ak I q (by simp))
  |int j=>obtain⟨t',rfl⟩:=e;exact We (ak I q (by simp))
  |str j=>obtain⟨t',rfl⟩:=e;exact Wc (ak I q (by simp))
  |_=>exact absurd (show false=true from f) A'
 |bl i =>
  cases g
  cases y with
  |ah=>cases e;exact Wh (ak I q (by simp))
  |bl j=>cases e;exact ne_bool (ak I q (congrArg not BD))
  |str j=>obtain⟨t',rfl⟩:=e;exact WG (ak I q (by simp))
  |_=>exact absurd (show false=true from f) A'
 |int i =>
  obtain⟨t,rfl⟩:=g
  cases y with
  |ah=>cases e;exact Wg (ak I q (by simp))
  |int j=>obtain⟨t',rfl⟩:=e;exact ne_int (ak I q (congrArg not yA))
  |str j=>obtain⟨t',rfl⟩:=e;exact WE (ak I q (by simp))
  |_=>exact absurd (show false=true from f) A'
 |str i =>
  obtain⟨t,rfl⟩:=g
  cases y with
  |ah=>cases e;exact Wb (ak I q (by simp))
  |bl j=>cases e;exact WD (ak I q (by simp))
  |int j=>obtain⟨t',rfl⟩:=e;exact WC (ak I q (by simp))
  |str j=>obtain⟨t',rfl⟩:=e;exact ne_str (ak I q (congrArg not yB))
  |_=>exact absurd (show false=true from f) A'
 |wC i =>
  obtain⟨t,rfl⟩:=g
  cases y with
  |wC j=>obtain⟨t',rfl⟩:=e;exact PySem.W.ne_bytes (ak I q (congrArg not x_))
  |_=>exact absurd (show false=true from f) A'
 |_=>cases y<;>exact absurd (show false=true from f) A'
def CK:fc X (compareOp .Lt) (Cs λi j=>.bl (decide (i<j))):=JA λ_ _ _ _ _ _ _ q=>lt_int q
def yT:fc X (compareOp .LtE) (Cs λi j=>.bl (decide (i<=j))):=JA λ_ _ _ _ _ _ _ q=>le_int q
def G8:fc X (compareOp .Gt) (Cs λi j=>.bl (decide (j<i))):=JA λ_ _ _ _ _ _ _ q=>gt_int q
def rG:fc X (compareOp .In) (λx y H Q=>∃i j,x=.str i/\y=.str j/\Q (.bl (!(Qg j i 0 j.length 1).isEmpty)) H):=by
 intro e s σ H x y v u Q I f g h
 obtain⟨i,j,rfl,rfl,q⟩:=h
 obtain⟨t,rfl⟩:=f
 obtain⟨t',rfl⟩:=g
 exact in_str (ak I q rfl)
def JD:fc X (compareOp .Is) (λx y H Q=>y=.ah/\Q (.bl (decide (x=.ah))) H):=by
 intro f s σ H x y v u Q I e g h
 obtain⟨rfl,q⟩:=h
 cases g
 refine is_none_gen (ak I q ?_)
 cases x<;>first
  | (cases e;rfl)
  | (obtain⟨t,rfl⟩:=e;rfl)
def FJ:fc X (compareOp .IsNot) (λx y H Q=>y=.ah/\Q (.bl (!decide (x=.ah))) H):=by
 intro f s σ H x y v u Q I e g h
 obtain⟨rfl,q⟩:=h
 cases g
 refine isnot_none_gen (ak I q ?_)
 cases x<;>first
  | (cases e;rfl)
  | (obtain⟨t,rfl⟩:=e;rfl)
def tD:fc X (compareOp .NotIn) (λx y H Q=>∃i j,x=.str i/\y=.str j/\Q (.bl (!(!(Qg j i 0 j.length 1).isEmpty))) H):=by
 intro e s σ H x y v u Q I f g h
 obtain⟨i,j,rfl,rfl,q⟩:=h
 obtain⟨t,rfl⟩:=f
 obtain⟨t',rfl⟩:=g
 exact notIn_str (ak I q rfl)
def fc.or{f:Value->Value->Sem Value}{r r':R2}(h:fc X f r)(h':fc X f r'):fc X f (λx y H Q=>r x y H Q\/r' x y H Q):=by
 intro e s σ H x y v u Q I g i q
 rcases q with q|q
 ·exact h e s σ H x y v u Q I g i q
 ·exact h' e s σ H x y v u Q I g i q
def dM(b:Expr){op:CmpOp}(h:autoParam (op≠.In) b7)(g:autoParam (op≠.NotIn) b7):behindInMarks op b=false:=by
 have f:(op == CmpOp.In)=false:=by cases op<;>first|rfl|exact absurd rfl h
 have e:(op == CmpOp.NotIn)=false:=by cases op<;>first|rfl|exact absurd rfl g
 cases b<;>simp[behindInMarks,f,e]
def FK{op:CmpOp}{r:R2}(j:fc X (compareOp op) r)(p:PE X a ta)(g:PE X b tb)(n:behindInMarks op b=false):PE X (.Compare a [op] [b] pos) (Jy r ta tb):=by
 intro e s σ H Q I h
 exact Wz (Hc p g I h λv u l x y m f o i q=>j e l σ m x y v u Q f o i q) n
def HI(t:TE):TT:=λσ H Q=>t σ H λx e=>∃k,x=.bl k/\Q k e
def Ff{op:CmpOp}{r:R2}(G:fc X (compareOp op) r)(g:PE X a ta)(F:PE X b tb)(p:behindInMarks op b=false):PT X (.Compare a [op] [b] pos) (HI (Jy r ta tb)):=by
 intro f s σ H Q I h
 refine U6 (bH (g f s σ H _ I h) fun v B ⟨x,q,n,C,l⟩=>bH (F f B σ q _ n l) fun u A ⟨y,J,m,E,o⟩ =>
  bH (G f A σ J x y v u _ m C E o) fun c L ⟨z,t,j,w,k,e,i⟩=>?_) p
 subst e
 cases w
 exact wpAny_truthy_bool ⟨t,j,i⟩
def DI(r r':R2)(l i j:TE):TE:=λσ H Q=>l σ H λx m=>i σ m λy h=>r x y h λz e=>∃k,z=.bl k /\
 (if k=true then j σ e λf g=>r' y f g Q else Q (.bl false) e)
def CO{op g:CmpOp}{r r':R2}(W:fc X (compareOp op) r)(i:fc X (compareOp g) r')(Y:PE X a ta)(S:PE X b tb)(O:PE X c tc)
  (G:lastMarks [op,g] [b,c]=false:=by with_unfolding_all rfl):PE X (.Compare a [op,g] [b,c] pos) (DI r r' ta tb tc):=by
 intro f s σ H Q I h
 refine Compare_chain (bH (Y f s σ H _ I h) fun v P ⟨x,J,A,R,p⟩=>chain_link (bH (S f P σ J _ A p) fun u N ⟨y,E,q,n,B⟩ =>
  bH (W f N σ E x y v u _ q R n B) fun d F ⟨z,m,l,M,k,e,j⟩=>?_)) G
 subst e
 cases M
 refine wpAny_truthy_bool ?_
 cases k with
 |false=>exact ite_ff ⟨.bl false,m,l,rfl,j⟩
 |true=>exact ite_tt (chain_last (bH (O f F σ m _ l j) fun T L ⟨U,C,t,w,o⟩=>i f L σ C y U u T Q t n w o))
def HZ(K:j')(x:V)(H:Hp)(k:Bool):Prop :=
 match x with
 |.ah=>k=false
 |.bl b=>k=b
 |.int i=>k=(i != 0)
 |.str y=>y.length<=sizeLine/\k=((y.length:Int) != 0)
 |.wC y=>y.size<=sizeLine/\k=((y.size:Int) != 0)
 |.ref p=>(∃xs,eX K H p xs/\k=!xs.isEmpty)\/(∃xs,eY K H p xs/\k=!xs.isEmpty)\/∃e,H p=some (.dK e)/\k=!e.isEmpty
 |_=>False
def wq{κ:Type}{e:List (κ × V)}{vs:List (κ × Value)}(r:KV e vs):(!vs.isEmpty)=!e.isEmpty:=by
 cases r<;>rfl
def pV{xs:List V}{e:List Value}(r:Vals xs e):(!e.toArray.isEmpty)=!xs.isEmpty:=by
 cases r<;>simp
def pd:(sizeLine:Nat)<2 ^ 63:=by rw[Qk];decide
def J1:Mw X (λx H Q=>∃k,HZ X.K x H k/\Q k H):=by
 intro u s σ H x v Q I l h
 obtain⟨k,e,q⟩:=h
 have B:=pd
 have C:sizeLine=16777216:=Qk
 cases x with
 |ah =>
  cases l
  have f:k=false:=e
  subst f
  exact truthy_none ⟨H,I,q⟩
 |bl b =>
  cases l
  have f:k=b:=e
  subst f
  exact wpAny_truthy_bool ⟨H,I,q⟩
 |int i =>
  obtain⟨t,rfl⟩:=l
  have f:k=(i != 0):=e
  subst f
  exact PySem.P.truthy_int ⟨H,I,q⟩
 |str y =>
  obtain⟨t,rfl⟩:=l
  obtain⟨A,f⟩:y.length<=sizeLine/\k=((y.length:Int) != 0):=e
  subst f
  exact PySem.P.truthy_str (by omega) ⟨H,I.tok _,q⟩
 |wC y =>
  obtain⟨t,rfl⟩:=l
  obtain⟨A,f⟩:y.size<=sizeLine/\k=((y.size:Int) != 0):=e
  subst f
  exact PySem.W.truthy_bytes (by omega) ⟨H,I.tok _,q⟩
 |ref p =>
  cases l
  have f:(∃xs,eX X.K H p xs/\k=!xs.isEmpty)\/(∃xs,eY X.K H p xs/\k=!xs.isEmpty)\/∃g,H p=some (.dK g)/\k=!g.isEmpty:=e
  rcases f with⟨xs,n,f⟩|⟨xs,n,f⟩|⟨g,n,f⟩
  ·subst f
   obtain⟨o,r,pl,hz⟩:=I.list n
   have j:=r.length
   exact wpAny_truthy_list pl.isList (by simp only[PQ];omega) ⟨H,I.tok _,by rw[pV r];exact q⟩
  ·subst f
   obtain⟨o,r,pl,hz⟩:=I.tuple n
   have j:=r.length
   exact truthy_tuple pl (by simp only[PQ];omega) ⟨H,I.tok _,by rw[pV r];exact q⟩
  ·subst f
   obtain⟨hz,z,vs,r,m⟩:g.length<=sizeLine/\(p == Pm)=false/\∃vs,KV g vs/\s.heap.DictOf (bB X.prog X.w) p vs:=I.bJ p _ n
   have j:g.length=vs.length:=Rr r
   exact wpAny_truthy_dict z m (by omega) ⟨H,I.tok _,by rw[wq r];exact q⟩
 |_=>exact(show False from e).elim
def Co(n:PE X a ta)(he:∀e,isTrue a X.env e=(do let v <- e;Rw a.pos;holding [v] (truthy v))) :
  PT X a (λσ H Q=>ta σ H λx g=>∃k,HZ X.K x g k/\Q k g):=by
 intro f s σ H Q I h
 exact isTrue_plain (bH (n f s σ H _ I h) fun v i ⟨x,o,m,l,j⟩=>J1 f i σ o x v Q m l j) (he _)
def xI:fc X (binaryOp .Add) (λx y H Q=>∃i j,x=.str i/\y=.str j/\i.length+j.length<=sizeLine/\Q (.str (i++j)) H):=by
 intro e s σ H x y v u Q I f g h
 obtain⟨i,j,rfl,rfl,hz,q⟩:=h
 obtain⟨t,rfl⟩:=f
 obtain⟨t',rfl⟩:=g
 exact add_str (λt' tk=>⟨.str (i++j),H,I.tok _,⟨_,rfl⟩,q⟩) hz
def vals1{x:V}{us:List Value}(r:Vals [x] us):∃u,us=[u]/\RelV x u:=by
 cases r with
 |cons f e=>cases e;exact⟨_,rfl,f⟩
def vals2{x y:V}{us:List Value}(r:Vals [x,y] us):∃u e,us=[u,e]/\RelV x u/\RelV y e:=by
 cases r with
 |cons g h =>
  cases h with
  |cons i f=>cases f;exact⟨_,_,rfl,g,i⟩
def zA:kK X (.type "int") (λxs H Q=>(∃i,xs=[.int i]/\Q (.int i) H)\/∃k,xs=[.bl k]/\Q (.int (if k then 1 else 0)) H):=by
 intro e s σ H xs us Q I r h
 rcases h with⟨i,rfl,q⟩|⟨k,rfl,q⟩
 ·obtain⟨u,rfl,t,rfl⟩:=vals1 r
  exact call_int_int ⟨.int i,H,I,⟨_,rfl⟩,q⟩
 ·obtain⟨u,rfl,f⟩:=vals1 r
  cases f
  exact call_int_bool ⟨.int (if k then 1 else 0),H,I.tok _,⟨_,rfl⟩,q⟩
def KW(K:j')(x:V)(H:Hp)(n:Nat):Prop :=
 match x with
 |.str y=>y.length<=sizeLine/\n=y.length
 |.wC y=>y.size<=sizeLine/\n=y.size
 |.ref p=>(∃xs,eX K H p xs/\n=xs.length)\/∃xs,eY K H p xs/\n=xs.length
 |_=>False
def A1:kK X (.builtin "len") (λxs H Q=>∃x n,xs=[x]/\KW X.K x H n/\Q (.int n) H):=by
 intro m s σ H xs us Q I r h
 obtain⟨x,n,rfl,e,q⟩:=h
 obtain⟨u,rfl,l⟩:=vals1 r
 have v:=pd
 have w:sizeLine=16777216:=Qk
 cases x with
 |str y =>
  obtain⟨t,rfl⟩:=l
  obtain⟨o,g⟩:y.length<=sizeLine/\n=y.length:=e
  subst g
  exact len_str (by omega) ⟨.int _,H,I.tok _,⟨_,rfl⟩,q⟩
 |wC y =>
  obtain⟨t,rfl⟩:=l
  obtain⟨o,g⟩:y.size<=sizeLine/\n=y.size:=e
  subst g
  exact PySem.W.len_bytes (by omega) ⟨.int _,H,I.tok _,⟨_,rfl⟩,q⟩
 |ref p =>
  cases l
  have g:(∃xs,eX X.K H p xs/\n=xs.length)\/∃xs,eY X.K H p xs/\n=xs.length:=e
  rcases g with⟨xs,i,g⟩|⟨xs,i,g⟩
  ·subst g
   obtain⟨j,r',pl,hz⟩:=I.list i
   have f:=r'.length
   exact Calls.call_len_list pl.isList (by simp only[PQ];omega) ⟨.int xs.length,H,I.tok _,⟨_,by simp only[PQ];rw[f]⟩,q⟩
  ·subst g
   obtain⟨j,r',pl,hz⟩:=I.tuple i
   have f:=r'.length
   exact len_tuple pl (by simp only[PQ];omega) ⟨.int xs.length,H,I.tok _,⟨_,by simp only[PQ];rw[f]⟩,q⟩
 |_=>exact(show False from e).elim
end
structure uN (h:Heap) (x dx C:Addr) (mA:Str->Option Value):Prop where
 obj:h.get? x=some (instObj C dx)
 ns:h.Ns1 dx mA
 ne:dx≠x
def zk{h:Heap}{g:Addr}{c:Str->Option Value}(n:h.Ns1 g c):∃f,h.get? g=some f/\∀name,lookIn name f=some (c name):=by
 obtain⟨o,es,ep,p,r,l,_,j⟩:=n
 refine⟨o,p,λname=>?_⟩
 have e:=j name
 unfold nsFind findBy at e
 rw[<- Array.find?_toList] at e
 unfold lookIn
 rw[r]
 dsimp only
 split
 ·rename_i y q
  rw[q] at e
  exact congrArg some e
 ·rename_i q
  rw[q] at e
  have a:es.toList.any (·.refKey)=false:=by
   rw[U3]
   intro y m
   obtain⟨z,t,b⟩:=l y (RW.mp m)
   simp[Xb,b]
  have i:¬ es.toList.any (·.refKey)=true:=by rw[a];exact A'
  rw[if_neg i]
  exact congrArg some e
def uN.look{h:Heap}{x c C:Addr}{b:Str->Option Value}(I:uN h x c C b):∃a,PySem.W.InstAt h x (instObj C c) C (some a)/\∀name,lookIn name a=some (b name) :=
 let ⟨a,f,e⟩:=zk I.ns
 ⟨a,⟨I.obj,rfl,rfl,f⟩,e⟩
section
variable {prog:O0}{w:World}{A:Around}{E:Value->Shared->Prop}{s:Shared}{K:j'}{x dx C f:Addr}{mA:Str->Option Value}{name:Str}{v:Value}
def get_map{a:Bool}{Q:Value->Shared->Prop}(X:K.In s.heap)(I:uN s.heap x dx C mA)(c:UO K C name=true)(g:Us K C=true)
  (j:findIn K (.ref C) name=some none)(i:mA name=some v)(b:Uk v=true)(h:Q v { s with toks:=s.toks+1 }) :
  wpAny (model prog w) A (getAttr (.ref x) name a) Q E s:=by
 obtain⟨l,J,e⟩:=I.look
 exact PySem.W.get_value X J (plainGet_of c).1 (PySem.W.findObj_own g j rfl (by rw[e,i])) b h
def Bc{pl:Sem Bool}{Q:Value × List Value->Shared->Prop}(X:K.In s.heap)(I:uN s.heap x dx C mA)(a:UO K C name=true)
  (i:findIn K (.ref C) name=some (some (.ref f)))(b:isFn K (.ref f)=true)(g:mA name=none)(h:Q (.ref f,[.ref x]) s) :
  wpAny (model prog w) A (getMethod (.ref x) name pl) Q E s:=by
 obtain⟨c,J,e⟩:=I.look
 exact PySem.W.method_fn X J (plainGet_of a).1 (plainGet_of a).2 i (beq_iff_eq.mp b) (by show(lookIn name c).map (·.isSome)=some false;rw[e,g];rfl) h
def Fy{m:List Str}{Q:Unit->Shared->Prop}(X:K.In s.heap)(I:uN s.heap x dx C mA)
  (p:findIn K (.ref C) "__setattr__"=some (some (.builtin "object.__setattr__")))(F:V8 K C=true)(z:XY K C name=some none)(q:Us K C=true)
  (B:SE mA m)(hsz:m.length<=sizeLine)
  (h:∀h',uN h' x dx C (λy=>if y=name then some v else mA y)->Pl dx s.heap h'->Q () { s with heap:=h',toks:=s.toks+2 }) :
  wpAny (model prog w) A (setAttr (.ref x) name v) Q E s:=by
 obtain⟨G,J,L⟩:=I.look
 refine PySem.W.set_plain X J p (PySem.W.osa_open (s:={ s with toks:=s.toks+1 }) (r:=none) X J F z λb=>?_)
 obtain⟨cd,u,l⟩:=PySem.W.any_some q
 have t:s.heap.get? x=some ⟨.ref C,some dx,.plain,#[]⟩:=I.obj
 refine wpAny_bind (wpAny_pure (wpAny_bind (wpAny_bind (wpAny_loadPart t (wpAny_bind (V9 (s:={ s with toks:=s.toks+1 }) (PySem.W.looks_clsIn X u) ?_))))))
 rw[l]
 refine wpAny_pure (a:=some dx) (wpAny_bind (wpAny_pure (wpAny_bind ?_)))
 refine wpAny_nsSet1 (s:={ s with toks:=s.toks+1 }) I.ns λh' e c=>?_
 obtain⟨H,n,o,g,j,i⟩:=e.count (WY name v B)
 refine wpAny_bind (wpAny_lookBehind g (by rw[j];exact pastItsLine_dict (PB i (by rw[Pb];omega))) ?_)
 exact wpAny_pure (h _ ⟨(c.2 _ (QS I.ne)).trans I.obj,e,I.ne⟩ c)
def B5{R:Result->Shared->Prop}{vs:List Value}{b:List (Str × Value)}(X:K.In s.heap)(i:Vt K C=true)
  (c:findIn K (.ref C) "__init__"=some (some (.ref f)))(e:PySem.W.typeIn K (.ref f)=some (.type "function"))
  (h:RF (model prog w) (A.under (.builtin "type.__call__" ⟨.ref C::vs,b⟩)) (.call (.ref f) ⟨.ref (s.heap.objs.size+1)::vs,b⟩) (PySem.W.InitBack (s.heap.objs.size+1) R)
   { s with heap:=(s.heap.push emptyDict).push (instObj C s.heap.objs.size)}) :
  RF (model prog w) A (.call (.ref C) ⟨vs,b⟩) R s:=by
 obtain⟨j,g,d,t,os⟩:=s
 exact PySem.W.make_core (PySem.W.makes_of X i) (PySem.W.looks_findIn X c) (λa=>PySem.W.bind_fn X a e) (.inl rfl) h
end
def hJ(f:Str)(v:V):List (Str × V)->List (Str × V)
 |[]=>[(f,v)]
 | (g,x)::r=>if g=f then(g,v)::r else(g,x)::hJ f v r
def n_(f g:Str)(v:V):∀fs:List (Str × V),(hJ f v fs).lookup g=if g=f then some v else fs.lookup g
 |[]=>by
  show QV g [(f,v)]=_
  by_cases h:g=f
  ·have a:(g == f)=true:=beq_iff_eq.mpr h
   simp only[QV,a,if_pos h]
  ·have a:(g == f)=false:=beq_eq_false_iff_ne.mpr h
   simp only[QV,a,if_neg h]
 | (k,x)::r=>by
  have c:=n_ f g v r
  rw[show hJ f v ((k,x)::r)=(if k=f then(k,v)::r else(k,x)::hJ f v r) from rfl]
  by_cases b:k=f
  ·rw[if_pos b]
   by_cases h:g=k
   ·have a:(g == k)=true:=beq_iff_eq.mpr h
    simp only[QV,a,if_pos (h.trans b)]
   ·have a:(g == k)=false:=beq_eq_false_iff_ne.mpr h
    simp only[QV,a,if_neg (λe:g=f=>h (e.trans b.symm))]
  ·rw[if_neg b]
   by_cases h:g=k
   ·have a:(g == k)=true:=beq_iff_eq.mpr h
    simp only[QV,a,if_neg (λe:g=f=>b (h.symm.trans e))]
   ·have a:(g == k)=false:=beq_eq_false_iff_ne.mpr h
    simp only[QV,a]
    exact c
def nH(f:Str)(v:V):∀fs:List (Str × V),f∈(hJ f v fs).map (·.1)/\∀g,g∈fs.map (·.1)->g∈(hJ f v fs).map (·.1)
 |[]=>⟨by simp[hJ],λg h=>by simp at h⟩
 | (k,x)::r=>by
  obtain⟨b,c⟩:=nH f v r
  rw[show hJ f v ((k,x)::r)=(if k=f then(k,v)::r else(k,x)::hJ f v r) from rfl]
  by_cases a:k=f
  ·rw[if_pos a]
   subst a
   exact⟨by simp,λg h=>by simpa using h⟩
  ·rw[if_neg a]
   refine⟨?_,λg h=>?_⟩
   ·rw[O1]
    exact O5 _ b
   ·rw[O1] at h ⊢
    rcases B'.mp h with e|e
    ·exact B'.mpr (.inl e)
    ·exact O5 _ (c g e)
def n9(f:Str)(v:V):∀fs:List (Str × V),(hJ f v fs).length<=fs.length+1
 |[]=>by simp[hJ]
 | (k,x)::r=>by
  have b:=n9 f v r
  rw[show hJ f v ((k,x)::r)=(if k=f then(k,v)::r else(k,x)::hJ f v r) from rfl]
  by_cases a:k=f
  ·rw[if_pos a,Pb,Pb];omega
  ·rw[if_neg a,Pb,Pb];omega
def gN.some_of{v:V}{o:Option Value}(r:gN (some v) o):∃u,o=some u/\RelV v u:=by
 cases o with
 |none=>exact(show False from r).elim
 |some u=>exact⟨u,rfl,r⟩
def gN.none_of{o:Option Value}(r:gN none o):o=none:=by
 cases o with
 |none=>rfl
 |some u=>exact(show False from r).elim
def zS{v:V}{u:Value}(r:RelV v u):Uk u=true:=by
 cases v with
 |ah=>cases(show u=QM from r);rfl
 |bl b=>cases(show u=Qh b from r);rfl
 |int i=>obtain⟨t,e⟩:=(show ∃t,u=Rf i t from r);cases e;rfl
 |str x=>obtain⟨t,e⟩:=(show ∃t,u=Ql x t from r);cases e;rfl
 |wC b=>obtain⟨t,e⟩:=(show ∃t,u=Vw b t from r);cases e;rfl
 |Me b=>obtain⟨t,e⟩:=(show ∃t,u=Vv b t from r);cases e;rfl
 |ref a=>cases(show u=F' a from r);rfl
 |ty n=>cases(show u=RG n from r);rfl
section
variable {P:O0}{w:World}{H H':Hp}{h h':Heap}{a C dx:Addr}{fs fs':List (Str × V)}
def EY(c:kN P w H h)(e:H a=some (.ins C dx fs)):∃b,uN h a dx C b/\(∀f,gN (fs.lookup f) (b f))/\SE b (fs.map (·.1))/\fs.length<=1000/\H dx=some (.own a):=by
 obtain⟨d,z,ne,ob,b,n,r,q⟩:=(show bI P w H h a (.ins C dx fs) from c a _ e)
 exact⟨b,⟨ob,n,ne⟩,r,q,z,d⟩
end
structure uI (K:j') (C:Addr):Prop where
 pg:UO K C XA=true
 hd:Us K C=true
 po:V8 K C=true
 sa:findIn K (.ref C) "__setattr__"=some (some (.builtin "object.__setattr__"))
def uI.get{K:j'}{C:Addr}(c:uI K C)(f:Str):UO K C f=true:=c.pg
def eO(K:j')(C:Addr)(f:Str):Prop:=findIn K (.ref C) f=some none
def eO.MM{K:j'}{C:Addr}{f:Str}(n:eO K C f):XY K C f=some none:=by
 unfold XY
 rw[show findIn K (.ref C) f=some none from n]
 rfl
structure Meth (K:j') (C:Addr) (m:Str) (f:Addr):Prop where
 at_:findIn K (.ref C) m=some (some (.ref f))
 fn:isFn K (.ref f)=true
 kp:keepIn K (.ref f)=true
section
variable {X:Cx}{pins:List (Addr × Obj)}{σ:St}{H:Hp}{s:Shared}{a C dx:Addr}{fs:List (Str × V)}{f:Str}{v:V}{A:Around}{E:Value->Shared->Prop}
def xV{y:V}{u:Value}{Q:Unit->Shared->Prop}(I:Inv X pins σ H s)(e:H a=some (.ins C dx fs))(c:uI X.K C)(n:eO X.K C f)(L:fs.length<1000)(F:RelV y u)
  (h:∀j,Inv X pins σ (upd H a (.ins C dx (hJ f y fs))) j->Q () j):wpAny (model X.prog X.w) A (setAttr (.ref a) f u) Q E s:=by
 obtain⟨l,O,r,wi,_,m⟩:=EY I.bJ e
 have hz:(fs.map (·.1)).length<=sizeLine:=by rw[G',Qk];omega
 refine Fy I.qx O c.sa c.po n.MM c.hd wi hz λh' i t=>h _ ?_
 have G:∃o,h'.get? dx=some o:=let ⟨o,_,_,J,_⟩:=i.ns;⟨o,J⟩
 refine I.write (x:=a) (e:=dx) (by rw[e];exact QN) (.inr m) (λb q B z=>(t.2 b B).trans z) G ?_
 refine⟨by rw[aL O.ne];exact m,?_,O.ne,i.obj,_,i.ns,λg=>?_,λg p=>?_⟩
 ·have:=n9 f y fs;omega
 ·show gN ((hJ f y fs).lookup g) (if g=f then some u else l g)
  rw[n_]
  by_cases q:g=f
  ·rw[if_pos q,if_pos q];exact F
  ·rw[if_neg q,if_neg q];exact r g
 ·by_cases q:g=f
  ·rw[q];exact(nH f y fs).1
  ·refine(nH f y fs).2 g (wi g λz=>p ?_)
   show(if g=f then some u else l g)=none
   rw[if_neg q];exact z
def Inv.made(I:Inv X pins σ H s):Inv X pins σ (upd (upd H s.heap.objs.size (.own (s.heap.objs.size+1))) (s.heap.objs.size+1) (.ins C s.heap.objs.size []))
  { s with heap:=(s.heap.push emptyDict).push (instObj C s.heap.objs.size)}:=by
 have c:(s.heap.push emptyDict).get? s.heap.objs.size=some emptyDict:=K' s.heap rfl
 have h:((s.heap.push emptyDict).push (instObj C s.heap.objs.size)).get? (s.heap.objs.size+1)=some (instObj C s.heap.objs.size):=by
  have:=K' (s.heap.push emptyDict) (o:=instObj C s.heap.objs.size) rfl
  rwa [Py] at this
 have j:(s.heap.push emptyDict).Ns s.heap.objs.size (λ_=>none):=⟨emptyDict,#[],_,c,rfl,(λe he=>absurd he (by simp)),λ_=>rfl⟩
 have g:=I.laid (a:=s.heap.objs.size) (o:=.own (s.heap.objs.size+1)) (h':=s.heap.push emptyDict) (t':=s.toks) (λb u q=>y' _ q) (O2 _) ⟨_,c⟩
 refine g.laid (a:=s.heap.objs.size+1) (o:=.ins C s.heap.objs.size []) (t':=s.toks) (λb u q=>y' _ q) (SN (Py _ _)) ?_
 have ne:s.heap.objs.size≠s.heap.objs.size+1:=PR (VJ _)
 refine⟨by rw[aL ne,aI],P6 _,ne,h,λ_=>none,(Heap.Ns1.of_empty j).at λo q=>y' _ q,λ_=>QN,λy i=>absurd rfl i⟩
def D3{prog:O0}{w:World}{env:Env}{e:Expr}{f:Str}{pos:Pos}{s:Shared}{Q:Value->Shared->Prop}(b:Qe e f env (eval e env)=eval e env)
  (h:wpAny (model prog w) A (eval e env) (λo c=>wpAny (model prog w) A (getAttr o f true) Q E c) E s):wpAny (model prog w) A (eval (.Attribute e f pos) env) Q E s :=
 Attribute_any_ h (by rw[arm_eval_Attribute,b])
end
def Nb(K:j')(e h:TE)(f:Str):TS:=λD σ H=>h σ H λy g=>e σ g λx c=>∃a C b fs,x=.ref a/\c a=some (.ins C b fs)/\uI K C/\eO K C f/\fs.length<1000 /\
 D.nx σ (upd c a (.ins C b (hJ f y fs)))
section
variable {X:Cx}{o e value:Expr}{f:Str}{pos pos' tpos:Pos}{ta tv:TE}
def JZ(F:PE X o ta)(w:PE X value tv)(p:QL value (some (.Attribute o f pos')) pos.line X.env=pure false):PS X (.Assign [.Attribute o f pos'] value pos) (Nb X.K ta tv f):=by
 intro b s σ H D I h
 refine plainObj_wpAny_Assign_Attribute (bH (w b s σ H _ I h) fun u B ⟨y,v,r,E,q⟩=>bH (F b B σ v _ r q) ?_) p;rintro A L ⟨x,G,m,z,a,C,M,fs,i,g,c,n,l,t⟩
 subst i
 obtain rfl:A=F' a:=z
 exact xV m g c n l E λJ j=>⟨σ,_,j,t⟩
end
structure bf (k:Nat) (A:Around):Prop where
 hd:A.handled=none
 dp:A.depth+3*k+5<recursionLimit
 un:A.units+16*k+200<cLine
 gd:A.guards=some []
def bf.mono{j k:Nat}{A:Around}(r:bf k A)(h:j<=k):bf j A:=⟨r.hd,by have:=r.dp;omega,by have:=r.un;omega,r.gd⟩
def bf.deeper{k:Nat}{A:Around}(r:bf (k+1) A)(env:Env):bf k (A.deeper env) :=
 ⟨r.hd,by have:=r.dp;show A.depth+1+3*k+5<_;omega,by have:=r.un;show A.units+3+16*k+200<_;omega,r.gd⟩
def xB{A:Around}{C:Addr}{us:List Value}{a:List (Str × Value)}:(A.under (.builtin "type.__call__" ⟨.ref C::us,a⟩)).depth=A.depth+1:=by
 first|rfl|simp[Sn,Code.weight,Code.isCreation,Vz,Code.isCaller,WL,UH,guardIds]
def xC{A:Around}{C:Addr}{us:List Value}{a:List (Str × Value)}:(A.under (.builtin "type.__call__" ⟨.ref C::us,a⟩)).units=A.units+1:=by
 first|rfl|simp[Sn,Code.cUnits,WL,UH]
def vF{A:Around}{C:Addr}{us:List Value}{a:List (Str × Value)}:(A.under (.builtin "type.__call__" ⟨.ref C::us,a⟩)).guards=A.guards:=by
 first|rfl|(cases h:A.guards<;>simp[Sn,Code.guards,Vz,guardIds,pushGuards,h])
def bf.make{k:Nat}{A:Around}(r:bf (k+1) A)(C:Addr)(us:List Value)(a:List (Str × Value)):bf k (A.under (.builtin "type.__call__" ⟨.ref C::us,a⟩)) :=
 ⟨r.hd,by have:=r.dp;rw[xB];omega,by have:=r.un;rw[xC];omega,by rw[vF];exact r.gd⟩
def bf.depth{k:Nat}{A:Around}(r:bf k A):A.depth<recursionLimit:=by have:=r.dp;omega
def bf.units{k:Nat}{A:Around}(r:bf k A):A.units+64<cLine:=by have:=r.un;omega
def F_:TA:=λ_ H Q=>Q [] H
def yo(b:TE)(tr:TA):TA:=λσ H Q=>b σ H λx c=>tr σ c λxs a=>Q (x::xs) a
section
variable {X:Cx}{e:Expr}{es:List Expr}{te:TE}{t:TA}{pos:Pos}
def lS:PA X [] F_:=λ_ _ _ _ H Q I h=>RI ⟨[],H,I,.nil,h⟩
def d8(p:PE X e te)(m:PA X es t)(j:autoParam (starEach (e::es) X.env=(false,eval e X.env)::starEach es X.env) a9):PA X (e::es) (yo te t):=by
 intro pos a s σ H Q I h
 rw[j]
 show wpAny _ _ (spliced ((false,eval e X.env)::backTo pos (starEach es X.env))) _ _ s
 refine Qr (bH (p a s σ H _ I h) ?_);rintro u f ⟨x,q,l,g,b⟩
 exact bH (m pos a f σ q _ l b) fun us r ⟨xs,o,c,i,n⟩=>⟨x::xs,o,c,.cons g i,n⟩
def Nv(t:TA):TE:=λσ H Q=>t σ H λxs a=>xs.length<=sizeLine/\∀p,a p=none->Q (.ref p) (upd a p (.tup xs))
def Np(t:TA):TE:=λσ H Q=>t σ H λxs a=>xs.length<=sizeLine/\∀p,a p=none->Q (.ref p) (upd a p (.lst xs))
def CZ{x1}(h:PA X es t):PE X (.Tuple es x1 pos) (Nv t):=by
 intro a s σ H Q I i
 refine wpAny_Tuple_spliced (bH (h pos a s σ H _ I i) fun us c ⟨xs,g,f,r,z,q⟩=>⟨by rw[<- r.length];exact z,?_⟩)
 have j:g c.heap.objs.size=none:=f.bJ.fresh (O2 _)
 refine⟨.ref c.heap.objs.size,upd g c.heap.objs.size (.tup xs),f.laid (t':=c.toks) (λb u e=>y' _ e) (O2 _) ?_,rfl,q _ j⟩
 exact⟨z,us,r,⟨_,K' _ rfl,rfl,_,rfl⟩⟩
def JP(h:PA X es t):PE X (.List es pos) (Np t):=by
 intro a s σ H Q I i
 refine wpAny_List_spliced (bH (h pos a s σ H _ I i) fun us c ⟨xs,g,f,r,z,q⟩=>⟨by rw[<- r.length];exact z,?_⟩)
 have j:g c.heap.objs.size=none:=f.bJ.fresh (O2 _)
 refine⟨.ref c.heap.objs.size,upd g c.heap.objs.size (.lst xs),f.laid (t':=c.toks) (λb u e=>y' _ e) (O2 _) ?_,rfl,q _ j⟩
 exact⟨z,us,0,r,K' _ rfl⟩
end
abbrev Sp:=List V->Hp->VK->XK->Prop
abbrev xp:=List Env->Hp->Shared->XK->Value->Shared->Prop
structure wG (P:O0) (w:World) (K:j') (mg:Str->Option Value) (base:Heap) (A:Around) (outer:List Env) (s:Shared) (H:Hp):Prop where
 frames:A.frames=some outer
 mod:Mod K mg base
 bs:∀b o,base.get? b=some o->s.heap.get? b=some o/\H b=none
 Gd:base.objs.size<=s.heap.objs.size
 nA:s.heap.FunFrames base outer
 Gr:∀b∈BY outer,H b=none
 bJ:kN P w H s.heap
 bare:Se s.gens
def CE(a:List Env)(P:O0)(w:World)(H:Hp)(s:Shared)(Q:VK)(u:Value)(b:Shared):Prop :=
 ∃v c,b.os=s.os/\Se b.gens/\Un (BY a) [] H c s.heap b.heap/\kN P w c b.heap/\RelV v u/\Q v c
def CR(CX:xp)(a:List Env)(P:O0)(w:World)(H:Hp)(s:Shared)(Q:VK)(E:XK)(r:Result)(b:Shared):Prop :=
 match r with
 |.ok (.ret u)=>CE a P w H s Q u b
 |.ok _=>False
 |.error e=>CX a H s E e b
structure cH (P:O0) (w:World) (K:j') (mg:Str->Option Value) (base:Heap) (CX:xp) (k:Nat) (f:Addr) (fd:Pw) (ps:List Str) (sp:Sp):Prop where
 len:∀vs H Q E,sp vs H Q E->vs.length=ps.length
 run:∀(A:Around) (outer:List Env) (s:Shared) (H:Hp) (args:Args) (us:List Value) (vs:List V) (Q:VK) (E:XK),bf k A->wG P w K mg base A outer s H->BindsTo s fd args (ps.zip us)->Vals vs us->sp vs H Q E ->
  RF (model P w) A (.call (.ref f) args) (CR CX outer P w H s Q E) s
def cH.mono{P:O0}{w:World}{K:j'}{mg:Str->Option Value}{base:Heap}{CX:xp}{j k:Nat}{f:Addr}{c:Pw}{e:List Str}{sp:Sp}(F:cH P w K mg base CX j f c e sp)(h:j<=k) :
  cH P w K mg base CX k f c e sp:=⟨F.len,λA a s H b us vs Q E g=>F.run A a s H b us vs Q E (g.mono h)⟩
def cH.imp{P:O0}{w:World}{K:j'}{mg:Str->Option Value}{base:Heap}{CX:xp}{k:Nat}{f:Addr}{e:Pw}{g:List Str}{sp b:Sp}(F:cH P w K mg base CX k f e g sp)
  (h:∀vs H Q E,b vs H Q E->sp vs H Q E):cH P w K mg base CX k f e g b :=
 ⟨λvs H Q E q=>F.len vs H Q E (h _ _ _ _ q),λA a s H c us vs Q E l he i m j=>F.run A a s H c us vs Q E l he i m (h _ _ _ _ j)⟩
def wG.make{P:O0}{w:World}{K:j'}{mg:Str->Option Value}{base:Heap}{A:Around}{a:List Env}{s:Shared}{H:Hp}(e:wG P w K mg base A a s H)(C:Addr)(us:List Value)(b:List (Str × Value)) :
  wG P w K mg base (A.under (.builtin "type.__call__" ⟨.ref C::us,b⟩)) a s H:=⟨by first|exact e.frames|(simpa [Sn,Code.envs,UH,pushEnvs] using e.frames),e.mod,e.bs,e.Gd,e.nA,e.Gr,e.bJ,e.bare⟩
section
variable {X:Cx}{pins:List (Addr × Obj)}{σ:St}{H:Hp}{s s':Shared}
def Inv.Ks(I:Inv X pins σ H s):wG X.prog X.w X.K X.mg X.base X.A X.stack s H :=
 ⟨I.ok.frames,I.ok.mod,I.bs,PB I.ok.Gd I.sz,I.stack,I.ym,I.bJ,I.bare⟩
def Inv.after{Q:VK}{u:Value}(I:Inv X pins σ H s)(h:CE X.stack X.prog X.w H s Q u s'):EP X pins σ Q u s':=by
 obtain⟨v,e,os,a,un,i,r,q⟩:=h
 obtain⟨f,g,d,t,c⟩:=s'
 obtain rfl:c=s.os:=os
 exact⟨v,e,I.call (h':=f) (g':=g) (d':=d) (t':=t) (ch:=[]) un i a (λb z=>absurd z (by simp)),r,q⟩
end
def HH(sp:Sp)(a:List V)(E:XK)(t:TA):TE:=λσ H Q=>t σ H λvs b=>sp (vs++a) b Q E
def MC(C:Addr)(sp:Sp)(b:List V)(E:XK)(t:TA):TE:=λσ H Q=>t σ H λvs c=>∀x a,c x=none->c a=none->a≠x ->
 sp (.ref x::(vs++b)) (upd (upd c a (.own x)) x (.ins C a [])) (λv e=>v=.ah/\Q (.ref x) e) E
def Binds(K:j')(b:Pw)(a:List Str)(ds:List Value):Prop :=
 ∀(s:Shared) (us:List Value),K.In s.heap->(us++ds).length=a.length->BindsTo s b ⟨us,[]⟩ (a.zip (us++ds))
def Binds.all{K:j'}{c:Pw}{a:List Str}(h:∀us:List Value,us.length=a.length->W2 c ⟨us,[]⟩=pure (a.zip us)):Binds K c a []:=λs us _ b=>by
 rw[Pf] at b ⊢
 exact .of_eq (h us b)
def Passes(CX:xp)(X:Cx)(E:XK):Prop:=∀(a:List (Addr × Obj)) (σ:St) (H:Hp) (s:Shared) (e:Value) (b:Shared),Inv X a σ H s->CX X.stack H s E e b->X.xe e b
section
variable {X:Cx}{CX:xp}{k:Nat}{f C:Addr}{fd:Pw}{ps:List Str}{sp:Sp}{dvs:List V}{ds:List Value}{E:XK}{x m:Str}{p pos apos:Pos}{e o:Expr}{es:List Expr}{ta:TE}{t:TA}
def tO{a:List (Addr × Obj)}{σ:St}{H:Hp}{s:Shared}{Q:VK}{us:List Value}{vs:List V}(F:cH X.prog X.w X.K X.mg X.base CX k f fd ps sp)(q:bf k X.A)(l:Binds X.K fd ps ds)(v:Vals dvs ds)(i:Passes CX X E)
  (I:Inv X a σ H s)(r:Vals vs us)(h:sp (vs++dvs) H Q E):wpAny (model X.prog X.w) X.A (call (.ref f) us) (EP X a σ Q) X.xe s:=by
 have c:Vals (vs++dvs) (us++ds):=r.append v
 have j:(us++ds).length=ps.length:=by rw[<- c.length];exact F.len _ _ _ _ h
 refine Va (codeAny_mono (F.run X.A X.stack s H ⟨us,[]⟩ (us++ds) (vs++dvs) Q E q I.Ks (l s us I.qx j) c h) λr g b=>?_)
 cases r with
 |error e=>exact i a σ H s e g I b
 |ok n =>
  cases n with
  |ret u=>exact I.after b
  |next=>exact Qb b
  |brk=>exact Qb b
  |cont=>exact Qb b
def tG(F:cH X.prog X.w X.K X.mg X.base CX k f fd ps sp)(n:bf k X.A)(j:Gl X x)(u:X.mg x=some (.ref f))(i:keepIn X.K (.ref f)=true)(l:Binds X.K fd ps ds)(y:Vals dvs ds)(g:Passes CX X E)
  (v:PA X (e::es) t)(b:autoParam ((x == ("__debug__":Str))=false) b7)(he:autoParam (starEach (e::es) X.env=(false,eval e X.env)::starEach es X.env) a9)(hpl:autoParam ((backTo pos (starEach es X.env)).any (·.1)=false) a9) :
  PE X (.Call (.Name x p) (e::es) [] pos) (HH sp dvs E t):=by
 intro a s σ H Q I h
 refine Qw (sT I j u ?_ b)
 refine UP (h₀:=X.base) I.ok.mod.KR i (bH (v pos a s σ H _ I h) fun us z ⟨vs,B,c,r,q⟩=>⟨c.qx,?_⟩) he hpl
 exact tO F n l y g c r q
structure Mk (K:j') (C f:Addr):Prop where
 makes:Vt K C=true
 init:findIn K (.ref C) "__init__"=some (some (.ref f))
 fn:isFn K (.ref f)=true
 kp:keepIn K (.ref C)=true
def Cw{b:List (Addr × Obj)}{σ:St}{H:Hp}{s:Shared}{Q:VK}{us:List Value}{vs:List V}(M:Mk X.K C f)(F:cH X.prog X.w X.K X.mg X.base CX k f fd ps sp)(P:bf (k+1) X.A)(O:Binds X.K fd ps ds)(L:Vals dvs ds)
  (J:Passes CX X E)(I:Inv X b σ H s)(r:Vals vs us)
  (h:∀x g,H x=none->H g=none->g≠x->sp (.ref x::(vs++dvs)) (upd (upd H g (.own x)) x (.ins C g [])) (λv R=>v=.ah/\Q (.ref x) R) E) :
  wpAny (model X.prog X.w) X.A (call (.ref C) us) (EP X b σ Q) X.xe s:=by
 have i:=h (s.heap.objs.size+1) s.heap.objs.size (I.bJ.fresh (Sf _)) (I.bJ.fresh (O2 _)) (PR (VJ _))
 have c:=Inv.made (C:=C) I
 have j:Vals (V.ref (s.heap.objs.size+1)::(vs++dvs)) (F' (s.heap.objs.size+1)::(us++ds)):=.cons rfl (r.append L)
 have G:(F' (s.heap.objs.size+1)::us++ds).length=ps.length:=by
  have e:=j.length
  rw[F.len _ _ _ _ i] at e
  exact e.symm
 refine Va (B5 (f:=f) I.qx M.makes M.init (beq_iff_eq.mp M.fn) (codeAny_mono (F.run _ X.stack _ _ ⟨F' (s.heap.objs.size+1)::us,[]⟩ (F' (s.heap.objs.size+1)::(us++ds)) _ _ E (P.make C us [])
  (c.Ks.make C us []) (O _ (F' (s.heap.objs.size+1)::us) c.qx G) j i) λr y a=>?_))
 cases r with
 |error e=>exact J b σ _ _ e y c a
 |ok l =>
  cases l with
  |ret u =>
   obtain⟨v,B,n,q,N,z⟩:=c.after a
   subst N
   exact⟨q,⟨V.ref (s.heap.objs.size+1),B,n,rfl,z⟩⟩
  |next=>exact Qb a
  |brk=>exact Qb a
  |cont=>exact Qb a
def FQ(M:Mk X.K C f)(F:cH X.prog X.w X.K X.mg X.base CX k f fd ps sp)(l:bf (k+1) X.A)(i:Gl X x)(n:X.mg x=some (.ref C))(j:Binds X.K fd ps ds)(v:Vals dvs ds)(g:Passes CX X E)
  (u:PA X (e::es) t)(b:autoParam ((x == ("__debug__":Str))=false) b7)(he:autoParam (starEach (e::es) X.env=(false,eval e X.env)::starEach es X.env) a9)(hpl:autoParam ((backTo pos (starEach es X.env)).any (·.1)=false) a9) :
  PE X (.Call (.Name x p) (e::es) [] pos) (MC C sp dvs E t):=by
 intro a s σ H Q I h
 refine Qw (sT I i n ?_ b)
 refine UP (h₀:=X.base) I.ok.mod.KR M.kp (bH (u pos a s σ H _ I h) fun us y ⟨vs,z,c,r,q⟩=>⟨c.qx,?_⟩) he hpl
 exact Cw M F l j v g c r q
end
def PK(X:Cx)(b:List SK)(t:TA):Prop :=
 ∀(pos:Pos) (a:List (Addr × Obj)) (s:Shared) (σ:St) (H:Hp) (Q:List V->Hp->Prop),Inv X a σ H s->t σ H Q->wpAny (model X.prog X.w) X.A (evalAll ((backToKw pos (keywordEach b X.env)).map (·.2))) (AP X a σ Q) X.xe s
section
variable {X:Cx}{CX:xp}{k:Nat}{f C:Addr}{fd:Pw}{ps ks:List Str}{sp:Sp}{E:XK}{x m:Str}{p pos apos kpos:Pos}{e o:Expr}{es:List Expr}{kws:List SK}{te ta:TE}{t tk:TA}{nm:Option Str}
def JX:PK X [] F_:=λ_ _ _ _ H Q I h=>wpAny_evalAll_nil ⟨[],H,I,.nil,h⟩
def FV(w:PE X e te)(n:PK X kws t):PK X (⟨nm,e,kpos⟩::kws) (yo te t):=by
 intro pos a s σ H Q I h
 show wpAny _ _ (evalAll ((do let v <- eval e X.env;Rw pos;pure v)::(backToKw pos (keywordEach kws X.env)).map (·.2))) _ _ s
 refine wpAny_evalAll_cons (wpAny_bind (bH (w a s σ H _ I h) fun u g ⟨x,y,l,i,b⟩=>wpAny_bind (wpAny_standAt (wpAny_pure ?_))))
 exact bH (n pos a g σ y _ l b) fun us z ⟨xs,r,c,j,q⟩=>⟨x::xs,r,c,.cons i j,q⟩
variable {g:List Value->List Value->List Value}{gV:List V->List V->List V}
end
structure aG (N P:List Str) (sc:Scope):Prop where
 kind:sc.kind=.function
 co:sc.isCoroutine=false
 gen:sc.isGenerator=false
 nd:N.Nodup
 pre:N.take P.length=P
 par:∀x∈P,sc.names.lookup x=some .local\/sc.names.lookup x=some .cell
 Iu:∀y∈sc.names,y.2≠.free
def qo{kindOf:Str->Option Tg}{x:Str}:∀{binds:List (Str × Value)} {m:Str->Option Value},(∀v,(x,v)∉binds)->bindL kindOf binds m x=m x
 |[],_,_=>rfl
 | (n,v)::r,m,h=>by
  unfold bindL
  rw[qo λw a=>h w (O5 _ a)]
  split
  ·have:x≠n:=by rintro rfl;exact h v D'
   simp[this]
  ·rfl
def ql{kindOf:Str->Option Tg}{x:Str}:∀{binds:List (Str × Value)} {m:Str->Option Value},(∀v,(x,v)∉binds)->bindC kindOf binds m x=m x
 |[],_,_=>rfl
 | (n,v)::r,m,h=>by
  unfold bindC
  rw[ql λw a=>h w (O5 _ a)]
  split
  ·rfl
  ·have:x≠n:=by rintro rfl;exact h v D'
   simp[this]
def qm{kindOf:Str->Option Tg}{x:Str}{v:Value}:∀{P:List Str} {vs:List Value} {i:Nat} {m:Str->Option Value},P.Nodup->P[i]?=some x->vs[i]?=some v->kindOf x=some .local ->
  bindL kindOf (P.zip vs) m x=some v
 |[],_,_,_,_,h,_,_=>by simp at h
 |_::_,[],_,_,_,_,h,_=>by simp at h
 |p::P,w::vs,0,m,b,h1,a,c=>by
  simp at h1 a;subst h1;subst a
  show bindL kindOf ((p,w)::P.zip vs) m p=_
  unfold bindL
  rw[qo λv e=>(QK.mp b).1 (Ra e).1,if_pos c]
  simp
 |p::P,w::vs,i+1,m,b,h1,a,c=>by
  show bindL kindOf ((p,w)::P.zip vs) m x=_
  unfold bindL
  exact qm (i:=i) (QK.mp b).2 (by simpa using h1) (by simpa using a) c
def qk{kindOf:Str->Option Tg}{x:Str}{v:Value}:∀{P:List Str} {vs:List Value} {i:Nat} {m:Str->Option Value},P.Nodup->P[i]?=some x->vs[i]?=some v->kindOf x≠some .local ->
  bindC kindOf (P.zip vs) m x=some v
 |[],_,_,_,_,h,_,_=>by simp at h
 |_::_,[],_,_,_,_,h,_=>by simp at h
 |p::P,w::vs,0,m,b,h1,a,c=>by
  simp at h1 a;subst h1;subst a
  show bindC kindOf ((p,w)::P.zip vs) m p=_
  unfold bindC
  rw[ql λv e=>(QK.mp b).1 (Ra e).1,if_neg c]
  simp
 |p::P,w::vs,i+1,m,b,h1,a,c=>by
  show bindC kindOf ((p,w)::P.zip vs) m x=_
  unfold bindC
  exact qk (i:=i) (QK.mp b).2 (by simpa using h1) (by simpa using a) c
def start(N:List Str)(vs:List V):St:=vs.map some++RJ (N.length - vs.length) none
def uX(CX:xp)(P:O0)(w:World)(K:j')(mg:Str->Option Value)(base:Heap)(N:List Str)(b:Str)(a:Scope)(f:Addr)(cd:Value)(A:Around)(outer:List Env)(s:Shared)(H:Hp)(E:XK):Cx where
 prog:=P
 w:=w
 K:=K
 mg:=mg
 base:=base
 A:=A.deeper (envOfC b a s.heap.objs.size f cd)
 N:=N
 s₀:=s
 H₀:=H
 env:=envOfC b a s.heap.objs.size f cd
 outer:=outer
 stack:=envOfC b a s.heap.objs.size f cd::outer
 ex:=[]
 calm:=true
 fn:=λ_=>true
 pn:=[]
 xe:=λe g=>wpAny (model P w) (A.deeper (envOfC b a s.heap.objs.size f cd)) (leaving (envOfC b a s.heap.objs.size f cd) e) (λ_ c=>CX outer H s E e c) (λh c=>CX outer H s E h c) g
def uU{a:Scope}{n:Nat}{x:Str}(h:a.names.lookup x=some .cell):∃c,(cellsFrom n a.names []).lookup x=some c:=by
 have q:=Tw a.names n [] (.inl h)
 exact Q9.mp q
def zZ{CX:xp}{P:O0}{w:World}{K:j'}{mg:Str->Option Value}{base:Heap}{N C:List Str}{l:Str}{g:Scope}{f:Addr}{cd:Value}{A:Around}{j:List Env}{s M:Shared}{H:Hp}{E:XK}{us:List Value}{vs:List V}
  (S:aG N C g)(R:A.handled=none)(o:wG P w K mg base A j s H)(T:vs.length=C.length)(r:Vals vs us)
  (x:InCallC s s.heap.objs.size (bindL (envOfC l g s.heap.objs.size f cd).kindOf (C.zip us) λ_=>none) (cellsFrom (s.heap.objs.size+1) g.names []) (bindC (envOfC l g s.heap.objs.size f cd).kindOf (C.zip us) λ_=>none) M) :
  Inv (uX CX P w K mg base N l g f cd A j s H E) [] (start N vs) H M:=by
 have hpl:C.length<=N.length:=by have:=congrArg TN S.pre;rw[R_] at this;omega
 obtain⟨h1,tk,rfl,J⟩:=x.done
 have t:∀b:Addr,b∉(uX CX P w K mg base N l g f cd A j s H E).ex:=λb z=>absurd (show b∈([]:List Addr) from z) (by simp)
 refine⟨⟨o.mod,S.kind,rfl,rfl,O2 _,λy z c h1 m=>?_,λy B=>?_,λy c _ h=>?_,λ_=>R,Around.frames_deeper o.frames,.inr ⟨rfl,rfl⟩,λb z=>absurd z (t b),o.bs,o.Gd,λb _ _=>t b,λb z=>absurd z (t b),o.nA,o.Gr⟩,
  rfl,o.bare,Un.kept J,⟨_,x.toInCall.ns,λi y v h1 m U=>?_⟩,λy c h=>⟨_,x.cell y c h⟩,o.bJ.fresh (O2 _),λy c h=>?_,λp G=>absurd (show p∈([]:List (Addr × Obj)) from G) (by simp),o.bJ.kept J,?_⟩
 ·exact name_of_addr x.apart (Q5 h1) (Q5 m)
 ·have B:g.names.lookup y=some .cell\/g.names.lookup y=some .free:=B
  rcases B with B|B
  ·exact uU B
  ·exact absurd rfl (S.Iu _ (Q5 B))
 ·exact Q7 (x.above y c (Q5 h))
 ·have I:i<vs.length:=by
   unfold start at m
   by_cases I:i<vs.length
   ·exact I
   ·rw[Q0 (by simpa using I)] at m
    rw[R'] at m
    split at m<;>cases m
  have O:vs[i]?=some v:=by
   unfold start at m
   rw[Qf (by simpa using I),O7] at m
   cases e:vs[i]? with
   |none=>rw[e] at m;cases m
   |some a=>rw[e] at m;cases m;rfl
  obtain⟨u,L,Q⟩:=r.get O
  have G:C[i]?=some y:=by
   rw[<- S.pre,List.getElem?_take_of_lt (by omega)];exact h1
  have F:C.Nodup:=by rw[<- S.pre];exact S.nd.sublist (List.take_sublist _ _)
  refine⟨u,Q,?_⟩
  rcases S.par y (PY G) with k|k
  ·exact .inl ⟨k,qm F G L k⟩
  ·obtain⟨c,e⟩:=uU (n:=s.heap.objs.size+1) k
   refine .inr ⟨.inl k,c,e,?_⟩
   have q:=x.cell y c e
   rw[qk F G L (by show g.names.lookup y≠_;rw[k];decide)] at q
   exact q
 ·exact o.bJ.fresh (Q7 (x.above y c (Q5 h)))
 ·unfold start
  show _=N.length
  rw[O4,G',Qv]
  omega
def Gp{CX:xp}{P:O0}{w:World}{K:j'}{mg:Str->Option Value}{base:Heap}{k:Nat}{f:Addr}{name g:Str}{i:Arguments}{j:List Stmt}{a:Scope}{dV kV F pm h ct oc:Value}{an od:Option Addr}
  {O:Array (Option Value)}{N M:List Str}{sp:Sp}(lk:K.lookup f=some ⟨oc,od,.func (fnOf name g i j a dV kV F pm an h ct),O⟩)(U:codeIn K h g=true)(S:aG N M a)
  (len:∀vs H Q E,sp vs H Q E->vs.length=M.length)
  (m:∀(A:Around) (c:List Env) (s:Shared) (H:Hp) (vs:List V) (Q:VK) (E:XK),bf k (A.deeper (envOfC g a s.heap.objs.size f h))->sp vs H Q E ->
   ∃t,lg (uX CX P w K mg base N g a f h A c s H E) j t/\t { nx:=λ_ l=>Q .ah l,rt:=Q } (start N vs) H) :
  cH P w K mg base CX (k+1) f (fnOf name g i j a dV kV F pm an h ct) M sp:=by
 refine⟨len,λA c s H Z us vs Q E X G hb r C=>?_⟩
 have hl:=len _ _ _ _ C
 have KX:K.In s.heap:=G.mod.KR.keeps λb o e=>(G.bs b o e).1
 have Y:s.heap.NoLimit:=G.mod.nolimit.keeps λb o e=>(G.bs b o e).1
 have p:∀y∈M.zip us,a.names.lookup y.1=some .local\/(a.names.lookup y.1=some .cell/\((cellsFrom (s.heap.objs.size+1) a.names []).lookup y.1).isSome=true):=fun⟨n,v⟩ hy=>by
  rcases S.par n (Ra hy).1 with q|q
  ·exact .inl q
  ·exact .inr ⟨q,Tw _ _ _ (.inl q)⟩
 refine codeAny_call_function X.depth (KX _ _ lk) rfl S.co S.gen rfl (PySem.W.codeRec_of KX U) (hb _ _ _ _ ?_)
 refine wpAny_newFunctionEnv_cells S.kind p λenv he s1 x=>?_
 subst he
 refine⟨Y.keeps x.toInCall.keep,codeAny_func ?_⟩
 obtain⟨t,ht,hq⟩:=m A c s H vs Q E (X.deeper _) C
 have I:Inv (uX CX P w K mg base N g a f h A c s H E) [] (start N vs) H s1:=zZ S X.hd G hl r x
 refine wpAny_mono (ht [] s1 (start N vs) H _ I hq) (λfl R z=>?_) λe R z=>z
 have B:∀{L:St} {l:Hp} {v:V} {u:Value},Inv (uX CX P w K mg base N g a f h A c s H E) [] L l R->RelV v u->Q v l->CE c P w H s Q u R :=
  fun{L l v u} J T q=>⟨v,l,J.os,J.bare,J.base,J.bJ,T,q⟩
 cases fl with
 |ret u =>
  obtain⟨v,L,l,J,T,q⟩:=z
  exact B J T q
 |next =>
  obtain⟨L,l,J,q⟩:=z
  exact B (v:=V.ah) (u:=QM) J rfl q
 |brk =>
  obtain⟨_,_,_,q⟩:=z
  exact Qb q
 |cont =>
  obtain⟨_,_,_,q⟩:=z
  exact Qb q
section
variable {X:Cx}{x:Str}{p pos:Pos}{e:Expr}{es:List Expr}{t:TA}{id T:String}{r:List V->Hp->VK->Prop}
def Ml(r:List V->Hp->VK->Prop)(t:TA):TE:=λσ H Q=>t σ H λvs a=>r vs a Q
def i8(u:kK X (.builtin id) r)(i:Gl X x)(n:X.mg x=none)(m:Px x=some (.builtin id))(o:PA X (e::es) t)(q:autoParam (x≠"__name__") b7)(b:autoParam ((x == ("__debug__":Str))=false) b7)
  (he:autoParam (starEach (e::es) X.env=(false,eval e X.env)::starEach es X.env) a9)(hpl:autoParam ((backTo pos (starEach es X.env)).any (·.1)=false) a9):PE X (.Call (.Name x p) (e::es) [] pos) (Ml r t):=by
 intro a s σ H Q I h
 refine Qw (gG I i n m ?_ q b)
 exact Wv (bH (o pos a s σ H _ I h) fun us f ⟨vs,l,j,g,c⟩=>u a f σ l vs us Q j g c) he hpl
def nO(u:kK X (.type T) r)(i:Gl X x)(n:X.mg x=none)(m:Px x=some (.type T))(o:PA X (e::es) t)(q:autoParam (x≠"__name__") b7)(b:autoParam ((x == ("__debug__":Str))=false) b7)
  (he:autoParam (starEach (e::es) X.env=(false,eval e X.env)::starEach es X.env) a9)(hpl:autoParam ((backTo pos (starEach es X.env)).any (·.1)=false) a9):PE X (.Call (.Name x p) (e::es) [] pos) (Ml r t):=by
 intro a s σ H Q I h
 refine Qw (gG I i n m ?_ q b)
 exact QU (bH (o pos a s σ H _ I h) fun us f ⟨vs,l,j,g,c⟩=>u a f σ l vs us Q j g c) he hpl
end
end L2
open L2
namespace HT
open PySem PyProof.Rows
section
open PySem.SeqAt
open PySem.AutoSeq1 (wpAny_loadPart')
open PySem.MeetsSeq PySem.MeetsSeq2 PySem.MeetsSeq3
end
section
variable {prog:O0}{w:World}{A:Around}{E:Value->Shared->Prop}{s:Shared}
def D8{t b:Addr}{vs a:List Value}{Q:Value->Shared->Prop}(z:IsTup s.heap t vs.toArray)(B:IsTup s.heap b a.toArray)(r:vs≠[])
  (h1:a=[]->Q (.ref t) s)(y:a≠[]->Q (.ref s.heap.objs.size) { s with heap:=s.heap.push { cls:=.type "tuple",data:=.seq (vs++a).toArray }})
  (hsz:vs.length+a.length<=sizeLine):wpAny (model prog w) A (binaryOp .Add (.ref t) (.ref b)) Q E s:=by
 obtain⟨⟨cls,q,g,p⟩,m,v,n,u⟩:=id z
 obtain⟨⟨o,j,data2,i⟩,c,h,x,f⟩:=id B
 simp only at v u h f
 subst v u h f
 have e:vs.toArray++a.toArray=(vs++a).toArray:=by simp
 by_cases l:a=[]
 ·exact Tc ⟨_,m,rfl⟩ ⟨_,c,rfl⟩ Tv Ui R6 Rz (Rn _ _)
   (tuple_addW1 t b vs.toArray a.toArray n x q j p i (by simpa using r) (by simp[l])) ⟨m,c,h1 l⟩
 ·refine Tc ⟨_,m,rfl⟩ ⟨_,c,rfl⟩ Tv Ui R6 Rz (Rn _ _)
   (tuple_addW2 t b vs.toArray a.toArray n x q j p i (by simpa using r) (by simpa using l) (by rw[PQ,PQ];exact hsz)) ⟨m,c,?_⟩
  rw[e]
  exact y l
def dF(n d:Nat):Option Int->Nat
 |none=>d
 |some v=>if v<0 then(v+(n:Int)).toNat else min v.toNat n
def Fs(n d k:Nat):dF n d (some (k:Int))=min k n:=by
 show(if(k:Int)<0 then((k:Int)+(n:Int)).toNat else min (k:Int).toNat n)=min k n
 rw[if_neg (by omega),QY]
def Ji(n d:Nat)(b:d<=n)(o:Option Int):dF n d o<=n:=by
 cases o with
 |none=>exact b
 |some v =>
  show(if v<0 then(v+(n:Int)).toNat else min v.toNat n)<=n
  by_cases a:v<0
  ·rw[if_pos a];omega
  ·rw[if_neg a];exact Nat.min_le_right _ _
def x4(v:Int)(n d:Nat):(if v<0 then max (v+(n:Int)) 0 else min v (n:Int))=((dF n d (some v):Nat):Int):=by
 show(if v<0 then max (v+(n:Int)) 0 else min v (n:Int))=(((if v<0 then(v+(n:Int)).toNat else min v.toNat n):Nat):Int)
 by_cases a:v<0
 ·simp only[if_pos a];omega
 ·simp only[if_neg a];omega
def wM(lo a:Option Int)(n:Nat):RU lo a 1 (n:Int)=(((dF n 0 lo:Nat):Int),((dF n n a:Nat):Int)):=by
 have h1:¬ ((1:Int)<0):=by omega
 unfold RU
 simp only[h1,if_false]
 refine Tt ?_ ?_
 ·cases lo with
  |none=>rfl
  |some v=>exact x4 v n 0
 ·cases a with
  |none=>rfl
  |some v=>exact x4 v n n
def xN(i j:Nat):Qt (i:Int) (j:Int) 1=j - i:=by
 unfold Qt
 have h1:(1:Int) > 0:=by omega
 simp only[h1,if_true,Int.ediv_one]
 split<;>omega
def qN{v:Value}{o:Option Int}{Q:Option Int->Shared->Prop}(p:IsPart v o)(h:Q o s):wpAny (model prog w) A (WO v) Q E s:=by
 cases p with
 |none=>exact slicePart_none h
 |int i t=>exact slicePart_int h
def nV{f:Addr}{vl e:Value}{lo b:Option Int}{n:Nat}{Q:Int × Int × Nat->Shared->Prop}(i:s.heap.IsSliceOf f vl e .none)(pl:IsPart vl lo)(j:IsPart e b)
  (h:Q (((dF n 0 lo:Nat):Int),1,dF n n b - dF n 0 lo) s):wpAny (model prog w) A (Sm (.ref f) (pure (n:Int))) Q E s:=by
 obtain⟨os,c,g,a⟩:=id i
 unfold Sm WQ
 refine wpAny_bind (wpAny_bind (wpAny_field c a (x:=vl) rfl (wpAny_bind (wpAny_field c a (x:=e) rfl (wpAny_bind (wpAny_field c a (x:=.none) rfl (wpAny_pure ?_)))))))
 refine wpAny_bind (slicePart_none ?_)
 show wpAny _ _ (if((1:Int) == 0)=true then _ else _) _ _ s
 rw[if_neg (by decide)]
 refine wpAny_bind (qN pl (wpAny_bind (qN j (wpAny_bind (wpAny_pure ?_)))))
 show wpAny _ _ (match RU lo b 1 (n:Int) with|(lo,b)=>pure (lo,(1:Int),Qt lo b 1)) _ _ s
 rw[wM lo b n]
 show wpAny _ _ (pure (((dF n 0 lo:Nat):Int),(1:Int),Qt ((dF n 0 lo:Nat):Int) ((dF n n b:Nat):Int) 1)) _ _ s
 rw[xN]
 exact wpAny_pure h
def Cc(xs:Array Value)(i k:Nat):((Qj k).filterMap fun(m:Nat)=>xs[((i:Int)+(m:Int)*1).toNat]?).toArray=((xs.toList.drop i).take k).toArray:=by
 have e:(fun(m:Nat)=>xs[((i:Int)+(m:Int)*1).toNat]?)=λm=>xs[i+m]?:=by
  funext m
  have:((i:Int)+(m:Int)*1).toNat=i+m:=by omega
  rw[this]
 rw[e]
 have:=pick_run xs i k
 rw[Rl] at this
 have a:((λx=>xs[x]?)∘λx=>i+x)=λm=>xs[i+m]?:=rfl
 rw[a] at this
 rw[this]
def l8{t g:Addr}{a:Array Value}{vl o:Value}{lo c:Option Int}{Q:Value->Shared->Prop}(e:IsTup s.heap t a)(n:s.heap.IsSliceOf g vl o .none)(pl:IsPart vl lo)(u:IsPart o c)
  (r:¬ (dF a.size 0 lo=0/\dF a.size a.size c=a.size))
  (h:Q (.ref s.heap.objs.size) { s with heap:=s.heap.push { cls:=.type "tuple",data:=.seq ((a.toList.drop (dF a.size 0 lo)).take (dF a.size a.size c - dF a.size 0 lo)).toArray }})
  (hsz:a.size<=sizeLine):wpAny (model prog w) A (getItem (.ref t) (.ref g)) Q E s:=by
 have b:sizeOk (.seq ((a.toList.drop (dF a.size 0 lo)).take (dF a.size a.size c - dF a.size 0 lo)).toArray):=by
  show((a.toList.drop (dF a.size 0 lo)).take (dF a.size a.size c - dF a.size 0 lo)).toArray.size<=sizeLine
  rw[PQ,R_,VD,PZ]
  omega
 have y:dF a.size a.size c<=a.size:=Ji _ _ (O2 _) c
 obtain⟨os,j,i,p⟩:=id n
 have l:s.TypeIs (.ref g) "slice":=⟨os,j,i⟩
 unfold getItem
 try with_reducible refine wpAny_holding ?_
 first|refine wpAny_bind (wpAny_pure ?_)|skip
 refine wpAny_bind (wpAny_sequenceKey e.typeIs (by decide) ?_)
 refine wpAny_bind (wpAny_callSpecial?_slot (name:=QE "__getitem__") e.typeIs Qp
  (wpAny_call_entry Qp e.typeIs entry_tuple_getitem ?_ (args_tuple_getitem _ _)))
 show wpAny _ _ (WM (.ref t) >>= _) _ _ s
 refine wpAny_bind (tupleItemsOf_ e ?_)
 refine wpAny_bind (wpAny_typeOf l ?_)
 rw[if_pos (by decide)]
 refine wpAny_bind (nV n pl u ?_)
 have f:¬ ((((dF a.size 0 lo:Nat):Int) == 0&&(1:Int) == 1&&(dF a.size a.size c - dF a.size 0 lo) == a.size)=true):=by
  intro q
  rw[Pu,Pu] at q
  have v:((dF a.size 0 lo:Nat):Int)=0:=eq_of_beq q.1.1
  have x:dF a.size a.size c - dF a.size 0 lo=a.size:=eq_of_beq q.2
  exact r ⟨by omega,by omega⟩
 show wpAny _ _ (if(((dF a.size 0 lo:Nat):Int) == 0&&(1:Int) == 1&&(dF a.size a.size c - dF a.size 0 lo) == a.size)=true then _ else _) _ _ s
 rw[if_neg f,Cc]
 first
  |exact wpAny_bind (m:=Qx _) (wpAny_newObj_type (wpAny_pure ⟨_,rfl,wpAny_pure h⟩) b)
  |exact wpAny_bind (m:=Qx _) (wpAny_newObj_type (wpAny_bind (wpAny_pure (wpAny_pure ⟨_,rfl,wpAny_pure h⟩))) b)
  |exact wpAny_bind (wpAny_bind (m:=Qx _) (wpAny_newObj_type (wpAny_pure (wpAny_pure ⟨_,rfl,wpAny_pure h⟩)) b))
  |exact wpAny_bind (wpAny_bind (m:=Qx _) (wpAny_newObj_type (wpAny_pure ⟨_,rfl,wpAny_pure h⟩) b))
end
end HT
namespace L2
abbrev TO:=St->Hp->(Option Int->Hp->Prop)->Prop
def PO(X:Cx)(e:Option Expr)(t:TO):Prop :=
 ∀(a:List (Addr × Obj)) (s:Shared) (σ:St) (H:Hp) (Q:Option Int->Hp->Prop),Inv X a σ H s->t σ H Q ->
  wpAny (model X.prog X.w) X.A (evalPart e X.env) (λu c=>∃o b,Inv X a σ b c/\IsPart u o/\Q o b) X.xe s
def GA:TO:=λ_ H Q=>Q none H
def MG(t:TE):TO:=λσ H Q=>t σ H λx a=>∃i,x=.int i/\Q (some i) a
section
variable {X:Cx}{e:Expr}{te:TE}{lo hi:Option Expr}{tl th:TO}{pos p2:Pos}
def FX:PO X none GA:=by
 intro a s σ H Q I h
 rw[W']
 exact wpAny_pure ⟨none,H,I,.none,h⟩
def FY(h:PE X e te):PO X (some e) (MG te):=by
 intro a s σ H Q I b
 rw[evalPart_some]
 refine bH (h a s σ H _ I b) ?_;rintro u l ⟨x,j,g,f,c⟩
 obtain⟨i,rfl,q⟩:=c
 obtain⟨t,rfl⟩:=f
 exact⟨some i,j,g,.int i t,q⟩
def Dy(X:Cx)(r:V->Option Int->Option Int->Hp->VK->Prop):Prop :=
 ∀(a:List (Addr × Obj)) (s:Shared) (σ:St) (H:Hp) (x:V) (v vl f:Value) (lo c:Option Int) (b:Addr) (Q:VK),Inv X a σ H s->RelV x v->s.heap.IsSliceOf b vl f .none->IsPart vl lo->IsPart f c->r x lo c H Q ->
  ∃T id,typeLookup (.type T) "__getitem__"=pure (some (.builtin id))/\s.TypeIs v T/\wpAny (model X.prog X.w) X.A (getItem v (.ref b)) (EP X a σ Q) X.xe s
def Dy.or{r r':V->Option Int->Option Int->Hp->VK->Prop}(h:Dy X r)(h':Dy X r'):Dy X (λx lo b H Q=>r x lo b H Q\/r' x lo b H Q):=by
 intro a s σ H x v vl g lo b c Q I j f pl i q
 rcases q with q|q
 ·exact h a s σ H x v vl g lo b c Q I j f pl i q
 ·exact h' a s σ H x v vl g lo b c Q I j f pl i q
def Oo(r:V->Option Int->Option Int->Hp->VK->Prop)(a:TE)(b f:TO):TE:=λσ H Q=>a σ H λx h=>b σ h λl g=>f σ g λu c=>r x l u c Q
def CY{r:V->Option Int->Option Int->Hp->VK->Prop}(M:Dy X r)(he:PE X e te)(t:PO X lo tl)(i:PO X hi th):PE X (.Subscript e (.Slice lo hi none p2) pos) (Oo r te tl th):=by
 intro a s σ H Q I h
 refine Vk (bH (he a s σ H _ I h) ?_);rintro v G ⟨x,C,y,J,n⟩
 refine wpAny_Slice (bH (t a G σ C _ y n) fun vl E ⟨l,N,o,pl,B⟩=>bH (i a E σ N _ o B) ?_);rintro f c ⟨u,g,m,z,j⟩
 rw[W']
 refine wpAny_pure ?_
 have p:Inv X a σ g { c with heap:=c.heap.push { cls:=.type "slice",data:=.fields #[vl,f,.none] }}:=m.kept (t':=c.toks) λb ob q=>y' _ q
 obtain⟨T,id,hT,F,L⟩:=M a { c with heap:=c.heap.push { cls:=.type "slice",data:=.fields #[vl,f,.none] }} σ g x v vl f l u c.heap.objs.size Q p J (Vx ..) pl z j
 show wpAny (model X.prog X.w) X.A (subscriptTail e (.Slice lo hi none p2) v (.ref c.heap.objs.size)) (EP X a σ Q) X.xe { c with heap:=c.heap.push { cls:=.type "slice",data:=.fields #[vl,f,.none] }}
 exact W7 (ops:=[.ref c.heap.objs.size,v]) F hT L (by with_unfolding_all rfl)
def uW(xs:List V)(lo a:Option Int):List V:=(xs.drop (HT.dF xs.length 0 lo)).take (HT.dF xs.length xs.length a - HT.dF xs.length 0 lo)
def nr(xs:List V)(lo a:Option Int):(uW xs lo a).length<=xs.length:=by
 unfold uW
 rw[R_,VD]
 omega
def Lq(K:j'):V->Option Int->Option Int->Hp->VK->Prop:=λx lo b H Q=>∃a xs,x=.ref a/\eY K H a xs /\
 ¬ (HT.dF xs.length 0 lo=0/\HT.dF xs.length xs.length b=xs.length)/\∀p,H p=none->Q (.ref p) (upd H p (.tup (uW xs lo b)))
def Jp:Dy X (Lq X.K):=by
 intro j s σ H x v vl w lo g u Q I t n pl p h
 obtain⟨a,xs,rfl,l,m,q⟩:=h
 cases t
 obtain⟨f,r,i,hz⟩:=I.tuple l
 have c:f.toArray.size=xs.length:=by rw[PQ];exact r.length.symm
 refine⟨"tuple",_,Qp.lookup,i.typeIs,?_⟩
 refine HT.l8 i n pl p (by rw[c];exact m) ?_ (by rw[c];exact hz)
 rw[c]
 refine⟨.ref s.heap.objs.size,_,I.laid (t':=s.toks) (o:=.tup (uW xs lo g)) (λb ob q=>y' _ q) (O2 _) ?_,rfl,q _ (I.bJ.fresh (O2 _))⟩
 exact⟨PB (nr xs lo g) hz,_,(r.drop (HT.dF xs.length 0 lo)).take (HT.dF xs.length xs.length g - HT.dF xs.length 0 lo),Wx _ _⟩
def HC(K:j'):R2:=λx y H Q=>∃a b xs ys,x=.ref a/\y=.ref b/\eY K H a xs/\eY K H b ys/\xs≠[]/\xs.length+ys.length<=sizeLine /\
 (ys=[]->Q (.ref a) H)/\(ys≠[]->∀p,H p=none->Q (.ref p) (upd H p (.tup (xs++ys))))
def Vals.sq{xs:List V}{us:List Value}(r:Vals xs us):us=[] ↔ xs=[]:=by
 cases r with
 |nil=>simp
 |cons _ _=>simp
def FG:fc X (binaryOp .Add) (HC X.K):=by
 intro i s σ H x y v u Q I A p h
 obtain⟨a,b,xs,ys,rfl,rfl,B,m,l,hz,j,t⟩:=h
 cases A
 cases p
 obtain⟨n,f,r,_⟩:=I.tuple B
 obtain⟨g,c,C,_⟩:=I.tuple m
 refine HT.D8 r C (λz=>l (f.sq.mp z)) (λz=>⟨.ref a,H,I,rfl,j (c.sq.mp z)⟩) (λz=>?_) (by rw[<- f.length,<- c.length];exact hz)
 refine⟨.ref s.heap.objs.size,_,I.laid (t':=s.toks) (o:=.tup (xs++ys)) (λb ob q=>y' _ q) (O2 _) ?_,rfl,t (λw=>z (c.sq.mpr w)) _ (I.bJ.fresh (O2 _))⟩
 exact⟨by rw[O4];exact hz,_,f.append c,Wx _ _⟩
end
def Ec(n:Nat)(i:Int):Option Nat:=if 0<=i then(if i<n then some i.toNat else none) else if -(n:Int)<=i then some (i+n).toNat else none
def fe{α:Type}(xs:List α)(i:Int):Option α:=(Ec xs.length i).bind λj=>xs[j]?
def Ed{n:Nat}{i:Int}{j:Nat}(h:Ec n i=some j):seqIndex? i n=some j/\j<n/\-(n:Int)<=i/\i<n:=by
 unfold Ec at h
 by_cases a:0<=i
 ·rw[if_pos a] at h
  by_cases h1:i<n
  ·rw[if_pos h1] at h
   have e:i.toNat=j:=Pq h
   exact⟨by rw[seqIndex_of a h1,e],by omega,by omega,h1⟩
  ·rw[if_neg h1] at h;cases h
 ·rw[if_neg a] at h
  by_cases h1:-(n:Int)<=i
  ·rw[if_pos h1] at h
   have e:(i+n).toNat=j:=Pq h
   exact⟨by rw[seqIndex_neg (by omega) h1,e],by omega,h1,by omega⟩
  ·rw[if_neg h1] at h;cases h
def rh{α:Type}{xs:List α}{i:Int}{v:α}(h:fe xs i=some v):∃j,seqIndex? i xs.length=some j/\xs[j]?=some v/\j<xs.length/\-(xs.length:Int)<=i/\i<xs.length:=by
 unfold fe at h
 cases e:Ec xs.length i with
 |none=>rw[e] at h;cases h
 |some j =>
  rw[e] at h
  obtain⟨h1,c,a,b⟩:=Ed e
  exact⟨j,h1,h,c,a,b⟩
def oh{α:Type}{xs:List α}{j:Nat}{v:α}(h:xs[j]?=some v):fe xs (j:Int)=some v:=by
 have a:j<xs.length:=(PJ.mp h).1
 have e:Ec xs.length (j:Int)=some j:=by
  unfold Ec
  rw[if_pos (by omega),if_pos (by omega)];simp
 unfold fe;rw[e];exact h
def rg(b:Expr):Prop:=∀o i,subscripted b false o i=XW [o,i] (getItem o i)
def Dh(X:Cx)(r:R2):Prop :=
 ∀(c a:Expr) (b:List (Addr × Obj)) (s:Shared) (σ:St) (H:Hp) (x y:V) (v u:Value) (Q:VK),Inv X b σ H s->RelV x v->RelV y u->r x y H Q ->
  subscripted a false v u=XW [v,u] (getItem v u)->wpAny (model X.prog X.w) X.A (subscriptTail c a v u) (EP X b σ Q) X.xe s
def OS(X:Cx)(id:String)(r:V->List V->Hp->VK->Prop):Prop :=
 ∀(a:List (Addr × Obj)) (s:Shared) (σ:St) (H:Hp) (x:V) (xs:List V) (v:Value) (us:List Value) (Q:VK),Inv X a σ H s->RelV x v->Vals xs us->r x xs H Q ->
  wpAny (model X.prog X.w) X.A (call (.builtin id) (v::us)) (EP X a σ Q) X.xe s
section
variable {X:Cx}{a b:Expr}{ta tb:TE}{pos:Pos}
def Dh.or{r r':R2}(h:Dh X r)(h':Dh X r'):Dh X (λx y H Q=>r x y H Q\/r' x y H Q):=by
 intro e c f s σ H x y v u Q I j i q g
 rcases q with q|q
 ·exact h e c f s σ H x y v u Q I j i q g
 ·exact h' e c f s σ H x y v u Q I j i q g
def G9{r:R2}(j:Dh X r)(o:PE X a ta)(f:PE X b tb)(g:rg b):PE X (.Subscript a b pos) (Jy r ta tb):=by
 intro c s σ H Q I h
 exact Vk (Hc o f I h λv u l x y m e n i q=>j a b c l σ m x y v u Q e n i q (g _ _))
def Ll(K:j'):R2:=λx y H Q=>∃p xs i v,x=.ref p/\y=.int i/\eX K H p xs/\fe xs i=some v/\Q v H
def Ln(K:j'):R2:=λx y H Q=>∃p xs i v,x=.ref p/\y=.int i/\eY K H p xs/\fe xs i=some v/\Q v H
def Lm:R2:=λx y H Q=>∃z i c,x=.str z/\y=.int i/\z.length<=sizeLine/\fe z.cps.toList i=some c/\Q (.str ⟨#[c]⟩) H
def Ef:Dh X (Ll X.K):=by
 intro l g c s σ H x y v u Q I L N h o
 obtain⟨p,xs,i,z,rfl,rfl,G,he,q⟩:=h
 cases L
 obtain⟨t,rfl⟩:=N
 obtain⟨f,r,pl,hz⟩:=I.list G
 obtain⟨j,h1,C,O,M,J⟩:=rh he
 obtain⟨w,A,m⟩:=r.get C
 have F:=r.length
 have P:=pd
 have e:EP X c σ Q w s:=⟨z,H,I,m,q⟩
 by_cases B:0<=i
 ·have n:i.toNat=j:=by
   rw[seqIndex_of B J] at h1
   exact Pq h1
  exact item_listR pl.isList B (by omega) (by rw[n];simpa using A) e o
 ·have n:(i+(f.toArray.size:Int)).toNat=j:=by
   rw[seqIndex_neg (by omega) M] at h1
   rw[PQ,<- F]
   exact Pq h1
  exact Uy (x:=w) pl.isList.typeIs Vr.lookup
   (wpAny_getItem_list_neg (Q:=λr E=>r=w/\EP X c σ Q r E) pl.isList (by omega) (by rw[PQ]<;>omega) (by omega) (by rw[n];simpa using A) ⟨rfl,e⟩) o
def IU:Dh X (Ln X.K):=by
 intro l e c s σ H x y v u Q I F E h B
 obtain⟨p,xs,i,z,rfl,rfl,C,he,q⟩:=h
 cases F
 obtain⟨t,rfl⟩:=E
 obtain⟨A,r,pl,hz⟩:=I.tuple C
 obtain⟨j,h1,n,M,J,N⟩:=rh he
 obtain⟨w,G,g⟩:=r.get n
 have o:=r.length
 have L:=pd
 have f:EP X c σ Q w s:=⟨z,H,I,g,q⟩
 exact Uy (x:=w) pl.typeIs Qp.lookup
  (getItem_tuple (j:=j) (Q:=λr m=>r=w/\EP X c σ Q r m) pl (by omega) (by omega) (by rw[PQ,<- o];exact h1) (by simpa using G) ⟨rfl,f⟩) B
def IT:Dh X Lm:=by
 intro f e g s σ H x y v u Q I B p h o
 obtain⟨z,i,c,rfl,rfl,hz,he,q⟩:=h
 obtain⟨t,rfl⟩:=B
 obtain⟨t',rfl⟩:=p
 obtain⟨j,h1,l,C,m,A⟩:=rh he
 have n:z.cps.toList.length=z.length:=by simp[Str.length]
 rw[n] at h1 m A
 have E:=pd
 exact W7 (typeIs_str s z t) slot_str_getitem.lookup (getItem_str (c:=c) (by
  have w:decide (i < -(2 ^ 63:Int))=false:=decide_eq_false (by omega)
  have r:decide (i ≥ 2 ^ 63)=false:=decide_eq_false (by omega)
  rw[w,r,Vn]) (by rw[h1];simpa using l) ⟨.str ⟨#[c]⟩,H,I.tok _,⟨_,rfl⟩,q⟩) o
def OL(K:j'):R2:=λx y H Q=>Ll K x y H Q\/Ln K x y H Q\/Lm x y H Q
def IS:Dh X (OL X.K):=Ef.or (IU.or IT)
def tW(lo c:Option Int)(n:Nat):(sliceBounds lo c none n).1=((HT.dF n 0 lo:Nat):Int)/\(sliceBounds lo c none n).2.1=((HT.dF n n c:Nat):Int)/\(sliceBounds lo c none n).2.2=1:=by
 refine⟨?_,?_,rfl⟩
 ·cases lo with
  |none=>simp[sliceBounds,HT.dF]
  |some i =>
   simp only[sliceBounds,HT.dF,Uv,show(1:Int) > 0 by decide,if_true]
   by_cases h:i<0
   ·simp only[h,if_true]<;>omega
   ·simp only[h,if_false]<;>omega
 ·cases c with
  |none=>simp[sliceBounds,HT.dF]
  |some i =>
   simp only[sliceBounds,HT.dF,Uv,show(1:Int) > 0 by decide,if_true]
   by_cases h:i<0
   ·simp only[h,if_true]<;>omega
   ·simp only[h,if_false]<;>omega
def qd(c:List Value)(lo e:Option Int):slicePick c.toArray lo e none=((c.drop (HT.dF c.length 0 lo)).take (HT.dF c.length c.length e - HT.dF c.length 0 lo)).toArray:=by
 obtain⟨h1,g,f⟩:=tW lo e c.toArray.size
 unfold slicePick
 rw[h1,g,f]
 simp only[sliceRange_one,pick_run,PQ]<;>rfl
def Lp(K:j'):V->Option Int->Option Int->Hp->VK->Prop:=λx lo c H Q=>∃a xs,x=.ref a/\eX K H a xs/\∀p,H p=none->Q (.ref p) (upd H p (.lst (uW xs lo c)))
def F0:Dy X (Lp X.K):=by
 intro g s σ H x v vl t lo e p Q I n l pl m h
 obtain⟨a,xs,rfl,i,q⟩:=h
 cases n
 obtain⟨j,r,f,hz⟩:=I.list i
 have c:=r.length
 refine⟨"list",_,Vr.lookup,f.isList.typeIs,?_⟩
 refine wpAny_getItem_list_slice f.isList l pl m .none (by simp) ?_ (by rw[PQ]<;>omega)
 rw[qd,<- c]
 refine⟨.ref s.heap.objs.size,_,I.laid (t':=s.toks) (o:=.lst (uW xs lo e)) (λb ob q=>y' _ q) (O2 _) ?_,rfl,q _ (I.bJ.fresh (O2 _))⟩
 exact⟨PB (nr xs lo e) hz,_,0,(r.drop (HT.dF xs.length 0 lo)).take (HT.dF xs.length xs.length e - HT.dF xs.length 0 lo),K' _ rfl⟩
def kW:V->Bool
 |.ah=>true
 |.bl _=>true
 |.int _=>true
 |.str _=>true
 |_=>false
def EM:V->V->Bool
 |.ah,.ah=>true
 |.bl a,.bl b=>a == b
 |.bl a,.int b=>(if a then 1 else 0) == b
 |.int a,.bl b=>a == (if b then 1 else 0)
 |.int a,.int b=>a == b
 |.str a,.str b=>a == b
 |_,_=>false
def IC{A:Around}{s:Shared}{y x:V}{u v:Value}(f:RelV y u)(c:RelV x v)(g:kW y=true)(e:kW x=true):V' A s u v (EM y x):=by
 cases y with
 |ah =>
  cases f
  cases x with
  |ah=>cases c;exact Rx _
  |bl b=>cases c;exact XH b
  |int b=>obtain⟨t,rfl⟩:=c;exact XG b t
  |str b=>obtain⟨t,rfl⟩:=c;exact XF b t
  |_=>exact absurd (show false=true from e) A'
 |bl a =>
  cases f
  cases x with
  |ah=>cases c;exact XN a
  |bl b=>cases c;exact XQ a b
  |int b=>obtain⟨t,rfl⟩:=c;exact XO a b t
  |str b=>obtain⟨t,rfl⟩:=c;exact XM a b t
  |_=>exact absurd (show false=true from e) A'
 |int a =>
  obtain⟨t',rfl⟩:=f
  cases x with
  |ah=>cases c;exact XI a t'
  |bl b=>cases c;exact XJ a t' b
  |int b=>obtain⟨t,rfl⟩:=c;exact T7 a t' b t
  |str b=>obtain⟨t,rfl⟩:=c;exact T6 a t' b t
  |_=>exact absurd (show false=true from e) A'
 |str a =>
  obtain⟨t',rfl⟩:=f
  cases x with
  |ah=>cases c;exact XD a t'
  |bl b=>cases c;exact XE a t' b
  |int b=>obtain⟨t,rfl⟩:=c;exact T5 a t' b t
  |str b=>obtain⟨t,rfl⟩:=c;exact T4 a t' b t
  |_=>exact absurd (show false=true from e) A'
 |_=>exact absurd (show false=true from g) A'
def wZ(x:V)(u:Value):Bool:=match u with
 |.none=>EM .ah x
 |.bool b=>EM (.bl b) x
 |.int i _=>EM (.int i) x
 |.str z _=>EM (.str z) x
 |_=>false
def BU{x y:V}{u:Value}(r:RelV y u)(f:kW y=true):wZ x u=EM y x:=by
 cases y with
 |ah=>cases r;rfl
 |bl b=>cases r;rfl
 |int i=>obtain⟨t,rfl⟩:=r;rfl
 |str z=>obtain⟨t,rfl⟩:=r;rfl
 |_=>exact absurd (show false=true from f) A'
def lr{x:V}:∀{xs:List V} {us:List Value},Vals xs us->xs.all kW=true->us.any (wZ x)=xs.any λy=>EM y x
 |_,_,.nil,_=>rfl
 |y::xs,u::us,.cons r t,f=>by
  rw[RE,Pu] at f
  rw[QJ,QJ,BU r f.1,lr t f.2]
def i5{A:Around}{s:Shared}{x:V}{v:Value}(e:RelV x v)(g:kW x=true):∀{xs:List V} {us:List Value},Vals xs us->xs.all kW=true->∀u∈us,V' A s u v (wZ x u)
 |_,_,.nil,_=>λu c=>by cases c
 |y::xs,u::us,.cons r t,f=>λh c=>by
  rw[RE,Pu] at f
  rcases B'.mp c with rfl|c
  ·rw[BU r f.1];exact IC r e f.1 g
  ·exact i5 e g t f.2 h c
def Dq(x:V)(xs:List V):Bool:=xs.any λy=>EM y x
def Mh(K:j')(neg:Bool):R2:=λx y H Q=>∃p xs,y=.ref p/\(eX K H p xs\/eY K H p xs)/\kW x=true/\xs.all kW=true/\Q (.bl (if neg then !Dq x xs else Dq x xs)) H
def rF:fc X (compareOp .In) (Mh X.K false):=by
 intro i s σ H x y v u Q I j l h
 obtain⟨p,xs,rfl,e,g,fs,q⟩:=h
 cases l
 rcases e with e|e
 ·obtain⟨c,r,pl,hz⟩:=I.list e
  refine SeqAt.in_listAt (wZ x) pl.isList (λw f=>i5 j g r fs w (by simpa using f)) ⟨.bl _,H,I,rfl,?_⟩
  rw[show c.toArray.any (wZ x)=c.any (wZ x) by simp,lr r fs]
  exact q
 ·obtain⟨c,r,pl,hz⟩:=I.tuple e
  refine SeqAt.in_tupleAt (wZ x) pl (λw f=>i5 j g r fs w (by simpa using f)) ⟨.bl _,H,I,rfl,?_⟩
  rw[show c.toArray.any (wZ x)=c.any (wZ x) by simp,lr r fs]
  exact q
def s_:fc X (compareOp .NotIn) (Mh X.K true):=by
 intro i s σ H x y v u Q I j l h
 obtain⟨p,xs,rfl,e,g,fs,q⟩:=h
 cases l
 rcases e with e|e
 ·obtain⟨c,r,pl,hz⟩:=I.list e
  refine SeqAt.notIn_listAt (wZ x) pl.isList (λw f=>i5 j g r fs w (by simpa using f)) ⟨.bl _,H,I,rfl,?_⟩
  rw[show c.toArray.any (wZ x)=c.any (wZ x) by simp,lr r fs]
  exact q
 ·obtain⟨c,r,pl,hz⟩:=I.tuple e
  refine SeqAt.notIn_tupleAt (wZ x) pl (λw f=>i5 j g r fs w (by simpa using f)) ⟨.bl _,H,I,rfl,?_⟩
  rw[show c.toArray.any (wZ x)=c.any (wZ x) by simp,lr r fs]
  exact q
def ON(K:j')(T:String)(x:V)(H:Hp):Prop:=match x with
 |.str _=>T="str"
 |.int _=>T="int"
 |.ref p=>(T="list"/\∃xs,eX K H p xs)\/(T="tuple"/\∃o,K.lookup p=some o/\o.cls=.type "tuple"/\o.dict=none) \/
   (T="dict"/\((∃c,H p=some (.dK c))\/∃c,H p=some (.dT c)))\/(T="set"/\∃S n,H p=some (.set S n))
 |_=>False
def J6{h:List (Addr × Obj)}{σ:St}{H:Hp}{s:Shared}{T:String}{x:V}{v:Value}(I:Inv X h σ H s)(r:RelV x v)(j:ON X.K T x H) :
  s.TypeIs v T/\∀a,v=.ref a->∃ob,s.heap.get? a=some ob/\ob.dict=none:=by
 cases x with
 |str z =>
  obtain⟨t,rfl⟩:=r
  cases(show T="str" from j)
  exact⟨typeIs_str s z t,λ_ e=>nomatch e⟩
 |int i =>
  obtain⟨t,rfl⟩:=r
  cases(show T="int" from j)
  exact⟨typeIs_int s i t,λ_ e=>nomatch e⟩
 |ref p =>
  cases r
  rcases j with⟨rfl,xs,y⟩|⟨rfl,o,f,u,q⟩|⟨rfl,f⟩|⟨rfl,S,n,f⟩
  ·obtain⟨w,_,pl,_⟩:=I.list y
   refine⟨pl.isList.typeIs,λa e=>?_⟩
   cases e
   obtain⟨o,n,e,c,q,_⟩:=pl
   exact⟨o,e,q⟩
  ·refine⟨⟨o,I.qx p o f,u⟩,λa e=>?_⟩
   cases e
   exact⟨o,I.qx _ o f,q⟩
  ·have z:∃o,s.heap.get? p=some o/\o.ExactDict:=by
    rcases f with⟨m,f⟩|⟨m,f⟩
    ·obtain⟨_,_,_,_,o,_,_,e,g,_⟩:=I.bJ p _ f
     exact⟨o,e,g⟩
    ·obtain⟨_,_,_,_,o,_,_,e,g,_⟩:=I.bJ p _ f
     exact⟨o,e,g⟩
   obtain⟨o,e,g⟩:=z
   refine⟨⟨o,e,g.1⟩,λa l=>?_⟩
   cases l
   exact⟨o,e,g.2.1⟩
  ·obtain⟨o,_,_,_,e,g,_⟩:=I.bJ p _ f
   refine⟨⟨o,e,g.1⟩,λa l=>?_⟩
   cases l
   exact⟨o,e,g.2.1⟩
 |_=>exact Qb j
def Oj(K:j')(T:String)(r:V->List V->Hp->VK->Prop)(e:TE)(t:TA):TE:=λσ H Q=>e σ H λx c=>ON K T x c/\t σ c λxs f=>r x xs f Q
variable {o e:Expr}{es:List Expr}{to:TE}{t:TA}{name:Str}{apos cpos:Pos}{T id:String}{r:V->List V->Hp->VK->Prop}
def Lf(w:PlainAttrs T)(l:Slot T name id)(m:typeOf (.builtin id)=pure (.type "method_descriptor"))(F:OS X id r)(N:PE X o to)(O:PA X (e::es) t)
  (g:autoParam (Qe o name X.env (eval o X.env)=eval o X.env) a9)
  (j:autoParam (((backTo cpos (starEach (e::es) X.env)).all (λx=>!x.1)&&(backToKw cpos (keywordEach [] X.env)).all (λx=>x.1.isSome)
   && decide ((e::es).length+([]:List SK).length+(if([]:List SK).isEmpty then 0 else 1)<30))=true) a9)
  (i:autoParam ((apos.endLine == cpos.line)=true) a9)(A:autoParam (starEach (e::es) X.env=(false,eval e X.env)::starEach es X.env) a9)(f:autoParam ((backTo cpos (starEach es X.env)).any (·.1)=false) a9) :
  PE X (.Call (.Attribute o name apos) (e::es) [] cpos) (Oj X.K T r to t):=by
 intro c s σ H Q I h
 refine wpAny_Call_method_late g j i rfl (bH (N c s σ H _ I h) ?_);rintro v L ⟨x,G,n,p,B,y⟩
 obtain⟨h1,u⟩:=J6 n p B
 refine⟨T,id,w,l,m,h1,u,?_⟩
 have q:=O cpos c L σ G _ n y
 rw[A] at q ⊢
 refine QZ (by show(false||(backTo cpos (starEach es X.env)).any (·.1))=false;rw[f]<;>rfl) (Qy ?_)
 exact bH q fun us J ⟨vs,E,z,M,C⟩=>F c J σ E x vs v us Q z p M C
end
def OB(X:Cx)(id:String)(r:V->List V->Hp->VK->Prop):Prop :=
 ∀(a:List (Addr × Obj)) (s:Shared) (σ:St) (H:Hp) (x:V) (xs:List V) (v:Value) (us:List Value) (Q:VK),Inv X a σ H s->RelV x v->Vals xs us->r x xs H Q ->
  wpAny (model X.prog X.w) X.A (call (.builtin id) (v::us)) (EP X a σ Q) X.xe s
def Vals.one:∀{x:V} {us:List Value},Vals [x] us->∃u,us=[u]/\RelV x u
 |_,_,.cons r .nil=>⟨_,rfl,r⟩
def Vals.zero:∀{us:List Value},Vals [] us->us=[]
 |_,.nil=>rfl
section
variable {X:Cx}{pins:List (Addr × Obj)}{σ:St}{H:Hp}{s:Shared}{l b:Addr}{xs ys zs:List V}
def Inv.NI{a its':List Value}{n:Nat}{f:Array Value->Array Value}{t':Nat}(I:Inv X pins σ H s)(g:H l=some (.lst xs))
  (e:s.heap.get? l=some { cls:=.type "list",data:=.seq a.toArray n })(i:f a.toArray=its'.toArray)(h:Vals ys its')(hz:ys.length<=sizeLine) :
  Inv X pins σ (upd H l (.lst ys)) { s with heap:=s.heap.update l (Qc f),toks:=t' }:=by
 have q:=Xa e f
 rw[i] at q
 refine I.write (x:=l) (e:=l) (by rw[g];exact trivial) (.inl rfl) (λm u c j=>(P9 s.heap (Qc f) (QS c)).trans j) ⟨_,q⟩ ?_
 exact⟨hz,its',_,h,q⟩
def Inv.NH{a:List Value}{t':Nat}(I:Inv X pins σ H s)(c:Vals ys a)(hz:ys.length<=sizeLine) :
  Inv X pins σ (upd H s.heap.objs.size (.lst ys)) { s with heap:=s.heap.push { cls:=.type "list",data:=.seq a.toArray },toks:=t' } :=
 I.laid (λ_ _ q=>y' _ q) (O2 _) ⟨hz,a,0,c,K' _ rfl⟩
def Inv.fresh(I:Inv X pins σ H s):H s.heap.objs.size=none:=I.bJ.fresh (O2 _)
def Inv.NJ(I:Inv X pins σ H s)(c:H l=some (.lst xs)):xs.length<=sizeLine/\∃(a:List Value) (n:Nat),Vals xs a/\xs.length=a.length/\s.heap.get? l=some { cls:=.type "list",data:=.seq a.toArray n }:=by
 obtain⟨z,a,n,r,e⟩:=I.bJ l _ c
 exact⟨z,a,n,r,r.length,e⟩
end
section
variable {X:Cx}
def Fl:V->List V->Hp->VK->Prop:=λx vs H Q=>∃l xs y,x=.ref l/\vs=[y]/\H l=some (.lst xs)/\xs.length<sizeLine/\Q .ah (upd H l (.lst (xs++[y])))
def zp:OB X "list.append" Fl:=by
 intro c s σ H x vs v us Q I i f h
 obtain⟨l,xs,y,rfl,rfl,b,hz,q⟩:=h
 cases i
 obtain⟨u,rfl,g⟩:=f.one
 obtain⟨z,a,n,r,j,e⟩:=I.NJ b
 refine UN F.slot_list_append ⟨_,e,rfl⟩ F.entry_list_append (F.args_list_append_2 _ _) (PySem.list_append l a.toArray n u (by rw[PQ];omega)) ⟨e,?_⟩
 refine⟨.ah,_,I.NI (its':=a++[u]) b e (by simp) (r.append (.cons g .nil)) ?_,rfl,q⟩
 rw[O4,P5]
 omega
end
end L2
namespace N8
open PySem PySem.W PySem.Calls PyProof.Rows
def oX{P:Params}{h:Heap}:∀(ns:List Int) (vs:List Value),WellAll P h vs (ns.map WZ)->IntsAre vs ns:=by
 intro ns
 induction ns with
 |nil =>
  intro vs w
  rw[QC] at w
  cases w
  exact .nil
 |cons n ns c =>
  intro vs w
  rw[O1] at w
  cases w with
  |cons a b =>
   cases a
   exact .cons _ _ (c _ b)
def AH{l:R1}{n:Nat}(y:l.most=some n){P:Params}{h:Heap}{args:List WData}{c:List Value}
  (e:l.row.toRowW.claim.pre args=true)(m:WellAll P h c args) :
  ∃a vs b,c=[F' a]/\args=[WData.list (b.map WZ)]/\h.get? a=some { cls:=.type "list",data:=.seq vs.toArray }/\IntsAre vs b/\b.length<=n:=by
 have o:WShape.hasAll [] args [.list .int]=true:=(pre_splitW e).1
 have p:l.pre.holds [] { args:=args }=true:=(pre_splitW e).2
 obtain⟨d,r,rfl,h1,s⟩:=hasAllW_cons o
 obtain rfl:=hasAllW_nil s
 obtain⟨xs,rfl,x⟩:=hasW_list h1
 obtain⟨b,rfl⟩:=items_int x
 have f:b.length<=n:=by
  unfold OpenLaw.pre at p
  have i:(WTm.not (.lt (.lit (.int (n:Int))) (.len (.arg 0)))).holds [] { args:=[.list (b.map .int)] }=true:=by
   have i:=(holds_andW p).1
   rw[y] at i
   exact i
  have j:=condW_of i (w_not (w_lt w_lit (w_len_list (w_arg rfl))))
  rw[G'] at j
  refine Nat.le_of_not_lt λq=>?_
  have w:(n:Int)<((b.length:Nat):Int):=by omega
  first
   | (rw[decide_eq_true w] at j;exact absurd j (by decide))
   | (simp at j;omega)
 cases m with
 |cons v u =>
  cases u
  cases v with
  |list t g=>exact⟨_,_,b,rfl,rfl,t,oX b _ g,f⟩
def AB(l:R1)(args:List WData):l.row.toRowW.claim.post args (.bool true) args=true :=
 postW_of (r:=l.row.toRowW) (X:=(true == true))
  (show Vu [] (.bool true) .bool=true by first|rfl|decide|simp[Vu,WShape.arms,WShape.armsAll])
  (show(WTm.eq .res (.lit (.bool true))).value [] { args:=args,res:=some (.bool true),after:=args }=some (.bool (true == true)) from w_eq_bool (w_res rfl) w_lit) rfl
def uR{l:R1}{n:Nat}{q:O0}{b:List Str}{H:(Str->Option Value)->Heap->Prop}{C:World->Heap->Prop}{d:DefRec}
  (W:l.most=some n)(u:d.params.defaults=[])
  (call:∀(w:World) (t c:Shared) (mg v:Str->Option Value) (i:Addr) (o:Obj) (A cd g:Value) (a:Addr) (vs:List Value) (s:List Int),
   Ground q b [] H w t mg v c.heap->C w c.heap ->
   c.heap.get? i=some o->o.data=.func (docDef d.name d.params d.body d.scope A cd g)->c.heap.CodeRec cd d.name->mg d.name=some (.ref i) ->
   c.heap.get? a=some { cls:=.type "list",data:=.seq vs.toArray }->IntsAre vs s->s.length<=n->c.gens=#[] ->
   RF (model l.prog w) Td (.call (.ref i) ⟨[.ref a],[]⟩) (λr p=>r=.ok (.ret (.bool true))/\OldK c.heap p.heap/\p.os=c.os/\Se p.gens) c) :
  WalkO q b H C l.row.toRowW d [] (λf vs=>Uj f vs):=by
 intro w t c mg v G Y i o A cd g R kV U Q z I x T F B as j E M y O
 obtain rfl:R=.none:=Dflts.none I u
 obtain rfl:kV=.none:=Dflts.noKw I
 obtain⟨a,vs,s,rfl,rfl,h,e,m⟩:=AH W j y
 refine enter_call (codeAny_mono (call w t c mg v i o A cd g a vs s G Y U (fd_plain Q) z x h e m T) λr p N=>?_)
 obtain⟨rfl,J,P,S⟩:=N
 exact⟨.inl ⟨.bool true,.bool true,[],rfl,λ_=>rfl,.bool true,AB l _,λ_=>⟨WU,λ_ L=>(nomatch L)⟩⟩,J,P,S⟩
end N8
namespace L2
def rW:∀{vs:List Value} {a:List Int},IntsAre vs a->Vals (a.map V.int) vs
 |_,_,.nil=>.nil
 |_,_,.cons n t h=>.cons ⟨t,rfl⟩ (rW h)
def HV(H:Hp):Prop:=∀b,H b=none\/∃o xs,H b=some (.BZ o (.lst xs))
def Bs{P:O0}{w:World}{K:j'}{mg N:Str->Option Value}{CX:xp}{k:Nat}{L a:Addr}{X:Pw}{x:Str}{sp:Sp}{c:Shared}{vs:List Value}{I:List Int}
  (Y:K.In c.heap)(A:c.heap.Ns PH mg)(g:c.heap.Ns Ve N)(R:∀x:Str,x≠"__name__"->N x=Px x)(B:c.heap.NoLimit)(hg:c.gens=#[])
  (J:c.heap.get? a=some { cls:=.type "list",data:=.seq vs.toArray })(T:IntsAre vs I)(W:I.length<=sizeLine)(hr:bf k Td)
  (F:∀base:Heap,K.In base->base.Ns PH mg->cH P w K mg base CX k L X [x] sp)(p:∀(s:Shared) (u:Value),BindsTo s X ⟨[u],[]⟩ [(x,u)])
  (M:∀H:Hp,HV H->eX K H a (I.map V.int)->sp [.ref a] H (λv _=>v=.bl true) λ_ _ _=>False)
  (Q:∀H e i,CX [] H c (λ_ _ _=>False) e i->False) :
  RF (model P w) Td (.call (.ref L) ⟨[.ref a],[]⟩) (λr i=>r=.ok (.ret (.bool true))/\OldK c.heap i.heap/\i.os=c.os/\Se i.gens) c:=by
 have U:=rW T
 have E:=T.length
 -- from an abstract heap in which nothing but the script may be tracked
 have l:∀H:Hp,HV H->eX K H a (I.map V.int)->kN P w H c.heap->(∀b,H b≠none->b=a)->(H a≠none->K.lookup a=none) ->
   RF (model P w) Td (.call (.ref L) ⟨[.ref a],[]⟩) (λr i=>r=.ok (.ret (.bool true))/\OldK c.heap i.heap/\i.os=c.os/\Se i.gens) c:=by
  intro H Z hS bJ hA hK
  have f:∀{b:Addr} {o:Obj},c.heap.get? b=some o->H b=none->(sG c.heap H).get? b=some o:=λe n=>Be e n
  have O:∀{b:Addr} {o:Obj} {es:Array Pj} {ep:Nat},c.heap.get? b=some o->o.data=.dict es ep->H b=none:=fun{b o es ep} e d=>by
   cases q:H b with
   |none=>rfl
   |some u =>
    have S:b=a:=hA b (by rw[q];simp)
    subst S
    rw[J] at e;cases e
    have d':Data.seq vs.toArray _=Data.dict es ep:=d
    cases d'
  have j:∀{b:Addr} {m:Str->Option Value},c.heap.Ns b m->(sG c.heap H).Ns b m:=fun{b m} ⟨o,es,ep,e,d,r⟩=>⟨o,es,ep,f e (O e d),d,r⟩
  have y:K.In (sG c.heap H):=λb o e=>f (Y b o e) (by
   cases q:H b with
   |none=>rfl
   |some u =>
    have S:b=a:=hA b (by rw[q];simp)
    subst S
    rw[hK (by rw[q];simp)] at e;cases e)
  have hM:Mod K mg (sG c.heap H):=⟨y,j A,⟨N,j g,R⟩,let ⟨mc,h1,h2⟩:=B;⟨mc,j h1,h2⟩⟩
  have e0:wG P w K mg (sG c.heap H) Td [] c H:=⟨rfl,hM,λb o e=>FA e,SN (zT _ _),trivial,λb g=>absurd (show b∈([]:List Addr) from g) (by simp),bJ,.of_eq hg⟩
  refine codeAny_mono ((F _ y (j A)).run Td [] c H ⟨[.ref a],[]⟩ [.ref a] [.ref a] _ _ hr e0 (p c (.ref a)) (.cons rfl .nil) (M H Z hS)) λr i h=>?_
  cases r with
  |error e=>exact(Q H e i h).elim
  |ok fl =>
   cases fl with
   |next=>exact Qb h
   |brk=>exact Qb h
   |cont=>exact Qb h
   |ret u =>
    obtain⟨v,H',os,t,un,C,r',q⟩:=h
    have q':v=.bl true:=q
    subst q'
    obtain rfl:u=Qh true:=r'
    refine⟨rfl,OldK.of_keep λb o e=>?_,os,t⟩
    cases q:H b with
    |none=>exact un.keep b o e q (by intro z;exact absurd (show b∈([]:List Addr) from z) (by simp)) (by simp)
    |some u =>
     rcases Z b with z|⟨ob,xs,z⟩
     ·rw[q] at z;cases z
     ·have z2:=un.pN b ob _ z
      obtain⟨e1,_⟩:=bJ b _ z
      obtain⟨e2,_⟩:=C b _ z2
      rw[e] at e1;cases e1
      exact e2
 cases hk:K.lookup a with
 |some o =>
  -- the script is one of the module's own objects
  have e:=Y a o hk
  rw[J] at e
  cases e
  refine l (λ_=>none) (λ_=>.inl rfl) (.inr ⟨_,vs.toArray,_,hk,rfl,rfl,rfl,by rw[PQ,E];exact W,by simpa using U⟩) (λb u z=>by have G:(none:Option HO)=some u:=z;cases G) (λb z=>absurd rfl z) λz=>absurd rfl z
 |none =>
  refine l (λb=>if b=a then some (.BZ { cls:=.type "list",data:=.seq vs.toArray } (.lst (I.map V.int))) else none) (λb=>?_) (.inl (.inr ⟨{ cls:=.type "list",data:=.seq vs.toArray },if_pos rfl⟩)) (λb u z=>?_) (λb z=>?_) λ_=>hk
  ·by_cases g:b=a
   ·exact .inr ⟨_,_,if_pos g⟩
   ·exact .inl (if_neg g)
  ·by_cases g:b=a
   ·have G:=(if_pos g).symm.trans z
    cases G
    subst g
    exact⟨J,by rw[G'];exact W,vs,_,U,J⟩
   ·have G:=(if_neg g).symm.trans z
    cases G
  ·by_cases g:b=a
   ·exact g
   ·exact absurd (if_neg g) z
def GS{l:R1}{n k:Nat}{q:O0}{j:List Str}{L:(Str->Option Value)->Heap->Prop}{I:World->Heap->Prop}{d:DefRec}{K:Params->j'}{CX:World->xp}{sp:World->Sp}{x:Str}
  (Z:l.most=some n)(E:n<=sizeLine)(y:d.params.defaults=[])(W:bf k Td)
  (M:∀(w:World) (h:Heap),I w h->(K w.params).In h)
  (F:∀(w:World) (mg:Str->Option Value) (p:Addr) (h:Heap),(K w.params).In h->h.Ns PH mg->mg d.name=some (.ref p) ->
   ∃C:Pw,(∀(s:Shared) (u:Value),BindsTo s C ⟨[u],[]⟩ [(x,u)]) /\
    ∀base:Heap,(K w.params).In base->base.Ns PH mg->cH l.prog w (K w.params) mg base (CX w) k p C [x] (sp w))
  (t:∀(w:World) (H:Hp) (a:Addr) (r:List Int),r.length<=n->HV H->eX (K w.params) H a (r.map V.int)->sp w [.ref a] H (λv _=>v=.bl true) λ_ _ _=>False)
  (B:∀(w:World) (H:Hp) (s:Shared) (e:Value) (z:Shared),CX w [] H s (λ_ _ _=>False) e z->False) :
  U8 q j L I l.row.toRowW d [] (λf vs=>Uj f vs):=by
 refine N8.uR Z y λw s₀ X mg mb p o pm cd P a vs r G Y ho hd Q A m i c R=>?_
 have J:=M w _ Y
 obtain⟨C,U,N⟩:=F w mg p _ J G.T.g A
 exact Bs J G.T.g G.T.b G.T.builtins G.T.nolimit R m i (PB c E) W N U (λH O S=>t w H a r c O S) λH e z=>B w H X e z
def cR(s:Stmt):Arguments:=match s with
 |.FunctionDef _ a _ _ _ _ _ _ _ _=>a
 |_=>{ posonlyargs:=[],args:=[],vararg:=none,kwonlyargs:=[],kw_defaults:=[],kwarg:=none,defaults:=[] }
def aw(s:Stmt):List Stmt:=match s with
 |.FunctionDef _ _ b _ _ _ _ _ _ _=>b
 |_=>[]
def aB(s:Stmt):Scope:=match s with
 |.FunctionDef _ _ _ _ _ _ a _ _ _=>a
 |_=>{ kind:=.function,names:=[],isGenerator:=false,isCoroutine:=false }
abbrev nZ:xp:=λ_ _ _ _ _ _=>False
abbrev E0:XK:=λ_ _ _=>False
def qA{X:Cx}:Passes nZ X E0:=λ_ _ _ _ _ _ _ h=>h.elim
structure wA (K:j') (x qual:Str) (st:Stmt) (f:Addr) (fd:Pw):Prop where
 ex:∃(oc:Value) (od:Option Addr) (kV doc pm:Value) (an:Option Addr) (cdv ct:Value) (osl:Array (Option Value)),
  fd=fnOf x qual (cR st) (aw st) (aB st) .none kV doc pm an cdv ct/\K.lookup f=some ⟨oc,od,.func fd,osl⟩/\codeIn K cdv qual=true
 kp:keepIn K (.ref f)=true
section
variable {P:O0}{w:World}{K:j'}{mg:Str->Option Value}{base:Heap}
def wA.ok{x b:Str}{st:Stmt}{f:Addr}{l:Pw}{N j:List Str}{k:Nat}{sp:Sp}(F:wA K x b st f l)(S:aG N j (aB st))(len:∀vs H Q E,sp vs H Q E->vs.length=j.length)
  (e:∀(c:Value) (A:Around) (a:List Env) (s:Shared) (H:Hp) (vs:List V) (Q:VK) (E:XK),bf k (A.deeper (envOfC b (aB st) s.heap.objs.size f c))->sp vs H Q E ->
   ∃t,lg (uX nZ P w K mg base N b (aB st) f c A a s H E).Iw (aw st) t/\t { nx:=λ_ n=>Q .ah n,rt:=Q } (start N vs) H):cH P w K mg base nZ (k+1) f l j sp:=by
 obtain⟨u,y,kV,p,z,v,c,B,m,rfl,o,i⟩:=F.ex
 refine Gp o i S len λA a s H vs Q E r g=>?_
 obtain⟨t,h,q⟩:=e c A a s H vs Q E r g
 exact⟨t,h.Iw,q⟩
def wA.binds{x a:Str}{st:Stmt}{f:Addr}{l:Pw}{j:List Str}(F:wA K x a st f l)
  (h:∀(kV b g:Value) (e:Option Addr) (c i:Value) (us:List Value),us.length=j.length->W2 (fnOf x a (cR st) (aw st) (aB st) .none kV b g e c i) ⟨us,[]⟩=pure (j.zip us)):Binds K l j []:=by
 obtain⟨o,q,kV,b,g,e,c,i,m,rfl,p,n⟩:=F.ex
 exact .all (h kV b g e c i)
def m_{x a:Str}{st:Stmt}{f:Addr}{m:Value}{n h:Option Addr}{g:Array (Option Value)}{kV e i b j:Value}(l:K.lookup f=some ⟨m,n,.func (fnOf x a (cR st) (aw st) (aB st) .none kV e i h b j),g⟩)
  (c:codeIn K b a=true)(k:keepIn K (.ref f)=true):wA K x a st f (fnOf x a (cR st) (aw st) (aB st) .none kV e i h b j):=⟨⟨m,n,kV,e,i,h,b,j,g,rfl,l,c⟩,k⟩
end
def AN{n:Nat}(h:n<=1000):n<sizeLine:=Pg h (by decide)
section
variable {X:Cx}
def pv(i:Nat){x:Str}{pos:Pos}(c:autoParam (X.N[i]?=some x) a9)(e:Dp X.env.scope x:=by first|exact PN rfl|exact Sk (PN rfl)|exact Sk (Sk rfl))(b:autoParam ((x == ("__debug__":Str))=false) b7)
  (a:autoParam ((x == ("__classdict__":Str))=false) b7):PE X (.Name x pos) (Jz i):=nQ c e b a
end
def aF{A B:Prop}(h:B):if false=true then A else B:=by
 rw[if_neg A']
 exact h
def aS{A B:Prop}(h:A):if true=true then A else B:=by
 rw[if_pos rfl]
 exact h
def aK(H a:Hp):Prop:=∀b o,H b=some o->a b=some o
def aK.refl(H:Hp):aK H H:=λ_ _ h=>h
def aK.trans{H f e:Hp}(a:aK H f)(b:aK f e):aK H e:=λc o h=>b c o (a c o h)
def aK.free{H a:Hp}(e:aK H a){l:Addr}(h:a l=UI):H l=Option.none:=by
 cases q:H l with
 |none=>rfl
 |some o =>
  rw[e l o q] at h
  cases h
def aK.seq{K:j'}{H b:Hp}{a:Addr}{xs:List V}(e:aK H b)(h:eX K H a xs):eX K b a xs:=by
 rcases h with(h|⟨o,h⟩)|h
 ·exact .inl (.inl (e _ _ h))
 ·exact .inl (.inr ⟨o,e _ _ h⟩)
 ·exact .inr h
section
variable {κ:Type} [DecidableEq κ]
def lZ(a:List (κ × V))(k:κ):Option V:=(a.find? λb=>decide (b.1=k)).map (·.2)
def putK(a:List (κ × V))(k:κ)(v:V):List (κ × V) :=
 if(a.any λb=>decide (b.1=k))=true then a.map (λb=>if b.1=k then(b.1,v) else b) else a++[(k,v)]
def qT{p:κ × V}{r:List (κ × V)}{k:κ}(e:p.1=k):lZ (p::r) k=some p.2:=by simp[lZ,P7,e]
def qS{p:κ × V}{r:List (κ × V)}{k:κ}(e:¬ p.1=k):lZ (p::r) k=lZ r k:=by simp[lZ,P7,e]
def vy(k:κ):∀a:List (κ × V),(a.any λb=>decide (b.1=k))=(lZ a k).isSome
 |[]=>rfl
 |p::r=>by
  rw[QJ]
  by_cases e:p.1=k
  ·simp only[qT e,decide_eq_true e,Bool.true_or,Option.isSome_some]
  ·rw[qS e,decide_eq_false e,Vo];exact vy k r
def iy(a:List (κ × V))(k:κ)(v:V):(putK a k v).length<=a.length+1:=by
 unfold putK
 split
 ·rw[G'];omega
 ·rw[O4,Pb,TY];omega
def gN.nF{o:Option V}{u:Option Value}(r:gN o u):o.isSome=u.isSome:=by
 cases o with
 |none=>cases u with
  |none=>rfl
  |some _=>exact(show False from r).elim
 |some _=>cases u with
  |none=>exact(show False from r).elim
  |some _=>rfl
def gN.getD{o:Option V}{u:Option Value}{d:V}{d':Value}(r:gN o u)(a:RelV d d'):RelV (o.getD d) (u.getD d'):=by
 cases o with
 |none=>cases u with
  |none=>exact a
  |some _=>exact(show False from r).elim
 |some _=>cases u with
  |none=>exact(show False from r).elim
  |some _=>exact r
def KV.val{a:List (κ × V)}{vs:List (κ × Value)}(r:KV a vs)(k:κ):gN (lZ a k) (valueAt vs k):=by
 unfold KV at r
 induction r with
 |nil=>exact QN
 | @cons p q j c h t i =>
  obtain⟨h1,g⟩:=h
  by_cases e:p.1=k
  ·have f:q.1=k:=h1.symm.trans e
   have b:valueAt (q::c) k=some q.2:=by simp[valueAt,P7,f]
   rw[qT e,b];exact g
  ·have f:¬ q.1=k:=λz=>e (h1.trans z)
   have b:valueAt (q::c) k=valueAt c k:=by simp[valueAt,P7,f]
   rw[qS e,b];exact i
def KV.any{a:List (κ × V)}{vs:List (κ × Value)}(r:KV a vs)(k:κ):(a.any λb=>decide (b.1=k))=vs.any λb=>decide (b.1=k):=by
 unfold KV at r
 induction r with
 |nil=>rfl
 |cons h t c=>rw[QJ,QJ,c,h.1]
def KV.Jh{b:List (κ × V)}{vs:List (κ × Value)}(r:KV b vs)(k:κ){y:V}{u:Value}(g:RelV y u) :
  KV (b.map λa=>if a.1=k then(a.1,y) else a) (vs.map λa=>if a.1=k then(a.1,u) else a):=by
 unfold KV at r ⊢
 induction r with
 |nil=>exact .nil
 | @cons p q j i h t f =>
  rw[O1,O1]
  refine .cons ?_ f
  obtain⟨h1,c⟩:=h
  by_cases e:p.1=k
  ·rw[if_pos e,if_pos (h1.symm.trans e)];exact⟨h1,g⟩
  ·rw[if_neg e,if_neg (λz=>e (h1.trans z))];exact⟨h1,c⟩
def KV.put{a:List (κ × V)}{vs:List (κ × Value)}(r:KV a vs)(k:κ){y:V}{u:Value}(b:RelV y u):KV (putK a k y) (stored vs k u):=by
 unfold putK stored
 rw[r.any k]
 by_cases e:(vs.any λc=>decide (c.1=k))=true
 ·rw[if_pos e,if_pos e];exact r.Jh k b
 ·rw[if_neg e,if_neg e];exact Vf r ⟨rfl,b⟩
def KV.length{a:List (κ × V)}{vs:List (κ × Value)}(r:KV a vs):a.length=vs.length:=Rr r
end
def qy{P:O0}{w:World}{k:Key}{u:Value}(r:RelV (kV k) u):(bB P w).is k u=true:=by
 cases k with
 |inl i=>obtain⟨t,e⟩:=(show ∃t,u=Rf i t from r);subst e;exact vG P w i t
 |inr x=>obtain⟨t,e⟩:=(show ∃t,u=Ql x t from r);subst e;exact vH P w x t
def qw{P:O0}{w:World}:∀{a:List Key} {us:List Value},Vals (a.map kV) us->ItemsAre (bB P w) a us
 |[],_,r=>by rw[QC] at r;cases r;exact .nil
 |k::a,_,r=>by
  rw[O1] at r
  cases r with
  |cons h t=>exact .cons (qy h) (qw t)
abbrev KT(H:Hp):List (List Key × V)->List (List Key × Addr × Value)->Prop:=Paired λp q=>p.1=q.1/\H q.2.1=some (.tup (p.1.map kV))/\RelV p.2 q.2.2
def KT.val{H:Hp}{a:List (List Key × V)}{xs:List (List Key × Addr × Value)}(r:KT H a xs)(k:List Key):gN (lZ a k) ((atKey xs k).map (·.2)):=by
 induction r with
 |nil=>exact QN
 | @cons p q j c h t i =>
  obtain⟨h1,_,g⟩:=h
  by_cases e:p.1=k
  ·have f:q.1=k:=h1.symm.trans e
   have b:atKey (q::c) k=some q.2:=by simp[atKey,P7,f]
   rw[qT e,b];exact g
  ·have f:¬ q.1=k:=λz=>e (h1.trans z)
   have b:atKey (q::c) k=atKey c k:=by simp[atKey,P7,f]
   rw[qS e,b];exact i
def KT.Jh{H:Hp}{a:List (List Key × V)}{xs:List (List Key × Addr × Value)}(r:KT H a xs)(k:List Key){y:V}{u:Value}(g:RelV y u) :
  KT H (a.map λb=>if b.1=k then(b.1,y) else b) (xs.map (putAt k u)):=by
 induction r with
 |nil=>exact .nil
 | @cons p q l j h t f =>
  rw[O1,O1]
  refine .cons ?_ f
  obtain⟨h1,c,i⟩:=h
  unfold putAt
  by_cases e:p.1=k
  ·rw[if_pos e,if_pos (h1.symm.trans e)];exact⟨h1,c,g⟩
  ·rw[if_neg e,if_neg (λz=>e (h1.trans z))];exact⟨h1,c,i⟩
def KT.put{H:Hp}{a:List (List Key × V)}{xs:List (List Key × Addr × Value)}(r:KT H a xs)(k:List Key){b:Addr}{y:V}{u:Value}(f:H b=some (.tup (k.map kV)))(c:RelV y u) :
  KT H (putK a k y) (storedH xs k b u):=by
 have e:(a.any λg=>decide (g.1=k))=(atKey xs k).isSome:=by
  rw[vy,(r.val k).nF,Ul]
 unfold putK storedH
 rw[e]
 by_cases q:(atKey xs k).isSome=true
 ·rw[if_pos q,if_pos q];exact r.Jh k c
 ·rw[if_neg q,if_neg q];exact Vf r ⟨rfl,f,c⟩
def KT.keeps{H c:Hp}{a:List (List Key × V)}{xs:List (List Key × Addr × Value)}(r:KT H a xs)(e:∀b ys,H b=some (.tup ys)->c b=some (.tup ys)):KT c a xs :=
 Paired.Im r λ_ _ z=>⟨z.1,e _ _ z.2.1,z.2.2⟩
section
variable {P:O0}{w:World}{H:Hp}{h:Heap}{a:Addr}
def HD{u:HO}(ok:kN P w H h)(e:Rd H a u):bI P w H h a u:=e.ok ok
def nv{b:List (Key × V)}(ok:kN P w H h)(e:Rd H a (.dK b)):b.length<=sizeLine/\(a == Pm)=false/\∃vs,KV b vs/\h.DictOf (bB P w) a vs :=
 show bI P w H h a (.dK b) from HD ok e
def BI{b:List (Key × V)}(ok:kN P w H h)(e:H a=some (.dK b)):b.length<=sizeLine/\(a == Pm)=false/\∃vs,KV b vs/\h.DictOf (bB P w) a vs:=nv ok (.inl e)
def pb{b:List Key}(ok:kN P w H h)(e:H a=some (.tup (b.map kV))):(tupleKind (bB P w)).is h b a:=by
 obtain⟨_,c,r,o,h1,g,n,f⟩:=(show bI P w H h a (.tup (b.map kV)) from ok a _ e)
 exact⟨o,c.toArray,n,h1,g,f,by simpa using qw r⟩
def qt{b:List (List Key × V)}(ok:kN P w H h)(e:Rd H a (.dT b)):b.length<=sizeLine/\(a == Pm)=false /\
  ∃xs,KT H b xs/\h.DictOfH (tupleKind (bB P w)) a xs:=by
 obtain⟨z,y,xs,r,o,es,ep,h1,i,n,g,s⟩:=(show bI P w H h a (.dT b) from HD ok e)
 refine⟨z,y,xs,r,o,es,ep,h1,i,n,g,λx c=>?_,s⟩
 have all:∀{l:List (List Key × V)} {m:List (List Key × Addr × Value)},KT H l m->∀x∈m,(tupleKind (bB P w)).is h x.1 x.2.1:=by
  intro l m q
  induction q with
  |nil=>intro x c;exact nomatch c
  | @cons p q v u f t j =>
   intro x c
   rcases B'.mp c with e|c
   ·subst e
    exact pb ok (by rw[<- f.1];exact f.2.1)
   ·exact j x c
 exact all r x c
def Kr{b:List (List Key × V)}(ok:kN P w H h)(e:H a=some (.dT b)):b.length<=sizeLine/\(a == Pm)=false /\
  ∃xs,KT H b xs/\h.DictOfH (tupleKind (bB P w)) a xs:=qt ok (.inl e)
end
def rZ(H:Hp)(a:Addr)(y:V)(r:Option V):Prop :=
 (∃c k,Rd H a (.dK c)/\y=kV k/\r=lZ c k)\/∃c k b,Rd H a (.dT c)/\y=.ref b/\H b=some (.tup (k.map kV))/\r=lZ c k
def Ap(H:Hp)(a:Addr)(y v:V)(e:Hp):Prop :=
 (∃c k,H a=some (.dK c)/\y=kV k/\c.length<sizeLine/\e=upd H a (.dK (putK c k v))) \/
 ∃c k b,H a=some (.dT c)/\y=.ref b/\H b=some (.tup (k.map kV))/\c.length<sizeLine/\e=upd H a (.dT (putK c k v))
def Ap.k{H:Hp}{a:Addr}{b:List (Key × V)}{k:Key}{v:V}(e:H a=some (.dK b))(c:b.length<sizeLine):Ap H a (kV k) v (upd H a (.dK (putK b k v))):=.inl ⟨b,k,e,rfl,c,rfl⟩
section
variable {X:Cx}{pins:List (Addr × Obj)}{σ:St}{H:Hp}{s:Shared}{a:Addr}{y v:V}{u r:Value}{o:Option V}{A:Around}{E:Value->Shared->Prop}
def Inv.big(I:Inv X pins σ H s):Pm<s.heap.objs.size:=by
 have h:PH<s.heap.objs.size:=(I.mod.glob.keeps I.bk).lt
 exact UR (by decide) h
def zH{Q:Value->Shared->Prop}(G:A.units+1<cLine)(I:Inv X pins σ H s)(g:rZ H a y (some v))(B:RelV y u)(h:∀i x,Inv X pins σ H x->RelV v i->Q i x) :
  wpAny (model X.prog X.w) A (getItem (.ref a) u) Q E s:=by
 rcases g with⟨q,k,e,n,l⟩|⟨q,k,b,e,n,C,l⟩
 ·subst n
  obtain⟨z,J,vs,c,t⟩:=nv I.bJ e
  obtain⟨i,m,f⟩:=gN.some_of (v:=v) (o:=valueAt vs k) (by rw[l];exact c.val k)
  exact wpAny_getItem_of (qy B) t.mapOf m (h i _ (I.tok _) f)
 ·subst n
  cases(show u=F' b from B)
  obtain⟨z,J,xs,c,t⟩:=qt I.bJ e
  obtain⟨i,m,f⟩:=gN.some_of (v:=v) (o:=(atKey xs k).map (·.2)) (by rw[l];exact c.val k)
  obtain⟨p,F,j⟩:=Option.map_eq_some_iff.mp m
  refine VZ (tupleKind_room_in1 G) (pb I.bJ C) t F ?_
  rw[j]
  exact h i _ (I.tok _) f
def Hs{Q:Value->Shared->Prop}(x:A.units+1<cLine)(I:Inv X pins σ H s)(g:rZ H a y o)(p:RelV y u)(h:∀n,Inv X pins σ H n->Q (.bool o.isSome) n) :
  wpAny (model X.prog X.w) A (compareOp .In u (.ref a)) Q E s:=by
 rcases g with⟨i,k,e,f,l⟩|⟨i,k,b,e,f,t,l⟩
 ·subst f
  obtain⟨z,m,vs,c,j⟩:=nv I.bJ e
  refine wpAny_in_of (qy p) m j.mapOf ?_
  rw[<- (c.val k).nF,<- l]
  exact h _ (I.tok _)
 ·subst f
  cases(show u=F' b from p)
  obtain⟨z,m,xs,c,j⟩:=qt I.bJ e
  refine W_ (tupleKind_room_in1 x) (pb I.bJ t) m j ?_
  have q:=(c.val k).nF
  rw[Ul] at q
  rw[<- q,<- l]
  exact h _ (I.tok _)
def gr{h':Heap}{t':Nat}{ob:HO}(I:Inv X pins σ H s)(f:KY (H a))(h:Pl a s.heap h')(he:∃q,h'.get? a=some q)(c:bI X.prog X.w (upd H a ob) h' a ob) :
  Inv X pins σ (upd H a ob) { s with heap:=h',toks:=t' } :=
 I.write (x:=a) (e:=a) f (.inl rfl) (λb q g z=>(h.2 b g).trans z) he c
def wV{P:O0}{w:World}{e:Hp}{h':Heap}{b:List (Key × V)}{vs:List (Key × Value)}(z:b.length<=sizeLine)(g:(a == Pm)=false)(c:KV b vs)(f:h'.DictOf (bB P w) a vs) :
  bI P w e h' a (.dK b):=⟨z,g,vs,c,f⟩
def zJ{L:Hp}{Q:Unit->Shared->Prop}(P:A.units+1<cLine)(I:Inv X pins σ H s)(g:Ap H a y v L)(M:RelV y u)(J:RelV v r)(h:∀G,Inv X pins σ L G->Q () G) :
  wpAny (model X.prog X.w) A (setItem (.ref a) u r) Q E s:=by
 rcases g with⟨i,k,e,C,l,t⟩|⟨i,k,b,e,C,N,l,t⟩
 ·subst C t
  obtain⟨z,B,vs,f,x⟩:=BI I.bJ e
  have hz:vs.length<=sizeLine:=by rw[<- f.length];exact z
  have n:(putK i k v).length<=sizeLine:=by have:=iy i k v;omega
  refine wpAny_setItem_pairs (hsz:=hz) (qy M) x λh' j p=>h _ ?_
  have he:∃q,h'.get? a=some q:=let ⟨q,_,_,m,_⟩:=j;⟨q,m⟩
  exact gr I (by rw[e];exact QN) p he (wV n B (f.put k J) j)
 ·subst C t
  cases(show u=F' b from M)
  obtain⟨z,B,xs,f,x⟩:=Kr I.bJ e
  have hz:xs.length<=sizeLine:=by rw[<- Rr f];exact z
  have n:(putK i k v).length<=sizeLine:=by have:=iy i k v;omega
  refine wpAny_setItem_heap (hsz:=hz) (tupleKind_room_in1 P) (pb I.bJ N) x λh' j p=>h _ ?_
  obtain⟨q,es,ep,m,O,R,T,_,S⟩:=j
  refine gr I (by rw[e];exact QN) p ⟨q,m⟩ ⟨n,B,_,(f.put k N J).keeps λc ys F=>?_,q,es,ep,m,O,R,T,S⟩
  rw[aL (LW F e (λz=>nomatch z))]
  exact F
end
def As(i:Expr):Prop:=∀a b,subscripted i false a b=XW [a,b] (getItem a b)
def yn{prog:O0}{w:World}{A:Around}{E:Value->Shared->Prop}{s:Shared}{env:Env}{b a:Expr}{pos:Pos}{T id:String}{Q:Value->Shared->Prop}
  (l:typeLookup (.type T) "__getitem__"=pure (some (.builtin id)))(m:As a)
  (h:wpAny (model prog w) A (eval b env) (λo j=>wpAny (model prog w) A (eval a env) (λi e=>e.TypeIs o T/\wpAny (model prog w) A (getItem o i) Q E e) E j) E s) :
  wpAny (model prog w) A (eval (.Subscript b a pos) env) Q E s:=by
 refine Vk (wpAny_mono h (λo j p=>wpAny_mono p (λi e f=>?_) λ_ _ x=>x) λ_ _ x=>x)
 obtain⟨hT,f⟩:=f
 unfold subscriptTail
 refine wpAny_bind ?_
 rw[getitemInPython_of_ne hT.not_modules]
 refine wpAny_bind (wpAny_specialOf hT l ?_)
 have c:wpAny (model prog w) A (subscripted a false o i) (λr g=>wpAny (model prog w) A (letTemporaryGo b o r >>= λ_=>pure r) Q E g) E e:=by
  rw[m o i]
  exact wpAny_operating (wpAny_mono f (λr g n=>wpAny_bind (wpAny_letTemporaryGo (wpAny_pure n))) λ_ _ x=>x)
 first
  |exact wpAny_pure (wpAny_bind c)
  |exact wpAny_bind (wpAny_pure (wpAny_bind c))
  |exact wpAny_bind c
def ud{X:Cx}{c:List (Addr × Obj)}{σ:St}{H:Hp}{s:Shared}{a:Addr}{y:V}{o:Option V}(I:Inv X c σ H s)(g:rZ H a y o):s.TypeIs (.ref a) "dict":=by
 rcases g with⟨h,k,e,_,_⟩|⟨h,k,b,e,_,_,_⟩
 ·obtain⟨_,_,vs,_,f⟩:=nv I.bJ e
  exact f.typeIs
 ·obtain⟨_,_,xs,_,f⟩:=qt I.bJ e
  exact f.typeIs
def L6(td c:TE):TE:=λσ H Q=>td σ H λx e=>c σ e λy b=>∃a v,x=.ref a/\rZ b a y (some v)/\Q v b
def L7(c td:TE):TE:=λσ H Q=>c σ H λy e=>td σ e λx b=>∃a o,x=.ref a/\rZ b a y o/\Q (.bl o.isSome) b
def F8(c td:TE):TE:=λσ H Q=>c σ H λy e=>td σ e λx b=>∃a o,x=.ref a/\rZ b a y o/\Q (.bl (!o.isSome)) b
def Ls(td e h:TE):TS:=λD σ H=>h σ H λv g=>td σ g λx f=>e σ f λy c=>∃a b,x=.ref a/\Ap c a y v b/\D.nx σ b
section
variable {X:Cx}{o i e value:Expr}{pos pos' tpos:Pos}{td ty tv:TE}
def FL(l:X.A.units+1<cLine)(E:PE X o td)(j:PE X i ty)(q:As i):PE X (.Subscript o i pos) (L6 td ty):=by
 intro b s σ H Q I h
 refine yn TU.lookup q (bH (E b s σ H _ I h) fun u B ⟨x,w,r,z,p⟩=>bH (j b B σ w _ r p) ?_);rintro M J ⟨y,F,f,C,a,v,m,g,t⟩
 subst m
 obtain rfl:u=F' a:=z
 exact⟨ud f g,zH l f g C λL G n c=>⟨v,F,n,c,t⟩⟩
def CM(f:X.A.units+1<cLine)(c:PE X i ty)(B:PE X o td):PC X .In i o (L7 ty td):=by
 intro b s σ H Q I h
 refine bH (c b s σ H _ I h) fun G w ⟨y,r,p,z,m⟩=>bH (B b w σ r _ p m) ?_;rintro u F ⟨x,C,n,t,a,v,j,g,q⟩
 subst j
 obtain rfl:u=F' a:=t
 exact Hs f n g z λE l=>⟨.bl v.isSome,C,l,rfl,q⟩
def Fb(f:X.A.units+1<cLine)(N:PE X o td)(c:PE X i ty)(G:PE X value tv)(w:QL value (some (.Subscript o i pos')) pos.line X.env=pure false) :
  PS X (.Assign [.Subscript o i pos'] value pos) (Ls td ty tv):=by
 intro b s σ H D I h
 refine Sd (bH (G b s σ H _ I h) fun r L ⟨v,E,z,l,n⟩=>bH (N b L σ E _ z n) fun u F ⟨x,O,p,J,B⟩=>bH (c b F σ O _ p B) ?_) w;rintro S P ⟨y,Q,m,M,a,C,j,g,q⟩
 subst j
 obtain rfl:u=F' a:=J
 exact zJ f m g M l λR t=>⟨σ,C,t,q⟩
end
def ue{P:O0}{w:World}{H:Hp}(h:Heap)(a:Pm<h.objs.size):bI P w H (h.push { cls:=.type "dict",data:=.dict #[] }) h.objs.size (.dK []) :=
 ⟨P6 _,beq_eq_false_iff_ne.mpr (QS (PR a)),[],.nil,W5 h⟩
def Ju:TE:=λ_ H Q=>∀p,H p=none->Q (.ref p) (upd H p (.dK []))
section
variable {X:Cx}{pos:Pos}
def CS:PE X (.Dict [] [] pos) Ju:=λb s σ H Q I h =>
 V5 ⟨.ref s.heap.objs.size,_,I.laid (a:=s.heap.objs.size) (o:=.dK []) (t':=s.toks) (λ_ _ q=>y' _ q) (O2 _) (ue s.heap I.big),rfl,h _ (I.bJ.fresh (O2 _))⟩
end
def t_:List (TE × TE)->St->Hp->(List (V × V)->Hp->Prop)->Prop
 |[],_,H,Q=>Q [] H
 | (tk,f)::r,σ,H,Q=>tk σ H λx e=>f σ e λy c=>t_ r σ c λb a=>Q ((x,y)::b) a
abbrev VV:List (V × V)->List (Value × Value)->Prop:=Paired λp q=>RelV p.1 q.1/\RelV p.2 q.2
def Ka(X:Cx)(pos:Pos)(keys:List (Option Expr))(a:List Expr)(c:List (TE × TE)):Prop :=
 ∀(b:List (Addr × Obj)) (s:Shared) (σ:St) (H:Hp) (Q:List (V × V)->Hp->Prop),Inv X b σ H s->t_ c σ H Q ->
  wpAny (model X.prog X.w) X.A (evalPairs (pairTrees keys a X.env pos)) (λvs g=>∃f e,Inv X b σ e g/\VV f vs/\Q f e) X.xe s
def yZ{X:Cx}{pos:Pos}:Ka X pos [] [] []:=λa s σ H Q I h=>pairTrees_nil_walk ⟨[],H,I,.nil,h⟩
def vX{X:Cx}{pos:Pos}{k v:Expr}{f:List (Option Expr)}{vs:List Expr}{tk e:TE}{b:List (TE × TE)}(g:PE X k tk)(w:PE X v e)(C:Ka X pos f vs b) :
  Ka X pos (some k::f) (v::vs) ((tk,e)::b):=λa s σ H Q I h =>
 pairTrees_cons_walk (bH (g a s σ H _ I h) fun u A ⟨x,p,n,z,l⟩=>bH (w a A σ p _ n l) fun F t ⟨y,E,m,B,o⟩ =>
  bH (C a t σ E _ m o) fun J G ⟨q,r,j,c,i⟩=>⟨(x,y)::q,r,j,.cons ⟨z,B⟩ c,i⟩)
def lQ(b a:List (Key × V)):List (Key × V):=a.foldl (λc e=>putK c e.1 e.2) b
def KV.merge:∀{a:List (Key × V)} {c:List (Key × Value)} {b:List (Key × V)} {vs:List (Key × Value)},KV a c->KV b vs->KV (lQ b a) (merged vs c):=by
 intro a c b vs r
 unfold KV at r
 induction r generalizing b vs with
 |nil=>intro q;exact q
 | @cons p q j i h t f =>
  intro g
  have e:KV (putK b p.1 p.2) (stored vs q.1 q.2):=by
   have:=g.put p.1 h.2
   rw[<- h.1];exact this
  exact f e
def kY:∀(b a:List (Key × V)),(lQ a b).length<=a.length+b.length
 |[],a=>by show a.length<=a.length+0;omega
 |p::r,a=>by
  have h1:=kY r (putK a p.1 p.2)
  have c:=iy a p.1 p.2
  show(lQ (putK a p.1 p.2) r).length<=_
  rw[Pb];omega
def pE{P:O0}{w:World}:∀{e:List (Key × V)} {g:List (Value × Value)},VV (e.map λi=>(kV i.1,i.2)) g->∃f,Carries (bB P w) g f/\KV e f
 |[],_,r=>by rw[QC] at r;cases r;exact⟨[],QN,.nil⟩
 |p::e,_,r=>by
  rw[O1] at r
  cases r with
  | @cons a b as bs h t =>
   obtain⟨f,c,q⟩:=pE (P:=P) (w:=w) t
   obtain⟨j,b2⟩:=b
   exact⟨(p.1,b2)::f,⟨qy h.1,rfl,c⟩,.cons ⟨rfl,h.2⟩ q⟩
def L8(b:List (TE × TE)):TE:=λσ H Q=>∀p,H p=none->t_ b σ (upd H p (.dK [])) λf e=>e p=some (.dK [])/\∃a:List (Key × V),f=a.map (λc=>(kV c.1,c.2))/\a.length<=15/\Q (.ref p) (upd e p (.dK (lQ [] a)))
def yW{X:Cx}{pos:Pos}{keys:List (Option Expr)}{b:List Expr}{g:List (TE × TE)}(h:Ka X pos keys b g)(i:keys.all (·.isSome)=true)(u:keys.length=b.length)(C:keys≠[])
  (n:keys.length<=15):PE X (.Dict keys b pos) (L8 g):=by
 intro l s σ H Q I q
 have J:=I.bJ.fresh (O2 s.heap.objs.size)
 have y:=I.laid (a:=s.heap.objs.size) (o:=.dK []) (h':=s.heap.push { cls:=.type "dict",data:=.dict #[] }) (t':=s.toks) (λ_ _ q=>y' _ q) (O2 _) (ue s.heap I.big)
 refine wpAny_Dict_walk (knd:=bB X.prog X.w) i u C n (bH (h l _ σ _ _ y (q _ J)) ?_);rintro O M ⟨L,R,p,m,e,f,ep,N,A⟩
 subst ep
 obtain⟨F,c,v⟩:=pE (P:=X.prog) (w:=X.w) m
 obtain⟨z,G,r,t,E⟩:=BI p.bJ e
 cases t
 refine⟨F,c,E,λh' j x=>⟨.ref s.heap.objs.size,_,?_,rfl,A⟩⟩
 have hz:(lQ [] f).length<=sizeLine:=by
  have h1:=kY f []
  rw[TY] at h1
  rw[Qk];omega
 have he:∃q,h'.get? s.heap.objs.size=some q:=let ⟨q,_,_,B,_⟩:=j;⟨q,B⟩
 exact gr p (by rw[e];exact QN) x he (wV hz G (v.merge .nil) j)
structure M1 (X:Cx) (o:Expr) (m:Str) (apos:Pos) (e:Expr) (cpos:Pos):Prop where
 base:Qe o m X.env (eval o X.env)=eval o X.env
 Kw:((backTo cpos (starEach [e] X.env)).all (λx=>!x.1)&&(backToKw cpos (keywordEach [] X.env)).all (λx=>x.1.isSome)
  && decide (([e]:List Expr).length+([]:List SK).length+(if([]:List SK).isEmpty then 0 else 1)<30))=true
 line:(apos.endLine == cpos.line)=true
 trees:backTo cpos (starEach [e] X.env)=[(false,eval e X.env)]
structure M2 (X:Cx) (o:Expr) (m:Str) (apos:Pos) (e f:Expr) (cpos:Pos):Prop where
 base:Qe o m X.env (eval o X.env)=eval o X.env
 Kw:((backTo cpos (starEach [e,f] X.env)).all (λx=>!x.1)&&(backToKw cpos (keywordEach [] X.env)).all (λx=>x.1.isSome)
  && decide (([e,f]:List Expr).length+([]:List SK).length+(if([]:List SK).isEmpty then 0 else 1)<30))=true
 line:(apos.endLine == cpos.line)=true
 trees:backTo cpos (starEach [e,f] X.env)=[(false,eval e X.env),(false,eval f X.env)]
def N9(H:Hp)(a:Addr):Prop:=(∃b,Rd H a (.dK b))\/∃b,Rd H a (.dT b)
def IP{X:Cx}{f:List (Addr × Obj)}{σ:St}{H:Hp}{s:Shared}{a:Addr}(I:Inv X f σ H s)(d:N9 H a) :
  s.TypeIs (.ref a) "dict"/\(∀b,F' a=.ref b->∃ob,s.heap.get? b=some ob/\ob.dict=none)/\(a == Pm)=false:=by
 rcases d with⟨h,e⟩|⟨h,e⟩
 ·obtain⟨_,i,vs,_,c⟩:=nv I.bJ e
  refine⟨c.typeIs,λb q=>?_,i⟩
  cases q
  obtain⟨ob,_,_,h1,g,_⟩:=c
  exact⟨ob,h1,g.2.1⟩
 ·obtain⟨_,i,xs,_,c⟩:=qt I.bJ e
  refine⟨c.typeIs,λb q=>?_,i⟩
  cases q
  obtain⟨ob,_,_,h1,g,_⟩:=c
  exact⟨ob,h1,g.2.1⟩
section
variable {X:Cx}{pins:List (Addr × Obj)}{σ:St}{H:Hp}{s:Shared}{a:Addr}{y d:V}{u r:Value}{o:Option V}{A:Around}{E:Value->Shared->Prop}
def Hr{Q:Value->Shared->Prop}(v:A.units+1<cLine)(I:Inv X pins σ H s)(g:rZ H a y o)(q:RelV y u)(h:∀p n,Inv X pins σ H n->RelV (o.getD .ah) p->Q p n) :
  wpAny (model X.prog X.w) A (call (.builtin "dict.get") [.ref a,u]) Q E s:=by
 rcases g with⟨j,k,e,i,l⟩|⟨j,k,b,e,i,t,l⟩
 ·subst i
  obtain⟨z,m,vs,c,f⟩:=nv I.bJ e
  refine call_meetsIn Qs f.typeIs R7 (Ts _ _) (meets_dict_get (bB X.prog X.w) a (qy q) m) ⟨_,f.mapOf,h _ _ (I.tok _) ?_⟩
  rw[l]
  exact(c.val k).getD rfl
 ·subst i
  cases(show u=F' b from q)
  obtain⟨z,m,xs,c,f⟩:=qt I.bJ e
  refine call_meetsIn Qs f.typeIs R7 (Ts _ _) (meetsH_dict_get (tupleKind (bB X.prog X.w)) a b m) ⟨tupleKind_room_in1 v,k,xs,pb I.bJ t,f,h _ _ (I.tok _) ?_⟩
  rw[l]
  exact(c.val k).getD rfl
end
def Jt(td e:TE):TE:=λσ H Q=>td σ H λx c=>∃a,x=.ref a/\N9 c a/\e σ c λy b=>∃o,rZ b a y o/\Q (o.getD .ah) b
section
variable {X:Cx}{o e f:Expr}{apos cpos:Pos}{td ty tx:TE}
def CQ(l:X.A.units+1<cLine)(E:PE X o td)(he:PE X e ty)(m:M1 X o "get" apos e cpos):PE X (.Call (.Attribute o "get" apos) [e] [] cpos) (Jt td ty):=by
 intro b s σ H Q I h
 refine SI m.base m.Kw m.line RC Qs T_ (bH (E b s σ H _ I h) ?_);rintro u B ⟨x,v,i,w,a,n,d,q⟩
 subst n
 obtain rfl:u=F' a:=w
 obtain⟨z,j,_⟩:=IP i d
 refine⟨z,j,?_⟩
 rw[m.trees]
 refine QZ rfl (Qy (Qr (bH (he b B σ v _ i q) fun N J ⟨y,F,r,C,L,g,t⟩=>RI ?_)))
 exact Hr l r g C λM G p c=>⟨_,F,p,c,t⟩
end
def ay(X:Cx)(a:Scope)(cl:List (Str × Addr))(C:Addr)(N:List Str)(b:List Addr)(e:Shared)(c:Hp):Cx where
 prog:=X.prog
 w:=X.w
 K:=X.K
 mg:=X.mg
 base:=X.base
 A:=X.A
 N:=N
 s₀:=e
 H₀:=c
 env:=compEnvC a cl C X.env
 outer:=X.stack
 stack:=X.stack
 ex:=b
 fn:=λ_=>false
 calm:=X.calm
 pn:=[]
 xe:=λ_ _=>False
def tN{a:Scope}{env:Env}{y:Str}(j:∀z∈a.names,z.2≠.cell)(h:(relabel a env).names.lookup y=some .cell\/(relabel a env).names.lookup y=some .free):a.names.lookup y=some .free:=by
 have c:∀(l:List (Str × Tg)),(∀z∈l,z.2≠.cell)->((l.map fun(n,k)=>if(k == RN&&env.scope.kind == .function&&env.kindOf n == some .cell) then(n,SW) else(n,k)).lookup y=some .cell \/
   (l.map fun(n,k)=>if(k == RN&&env.scope.kind == .function&&env.kindOf n == some .cell) then(n,SW) else(n,k)).lookup y=some .free)->l.lookup y=some .free:=by
  intro l
  induction l with
  |nil=>intro _ h;rcases h with h|h<;>simp at h
  |cons p r i =>
   obtain⟨n,k⟩:=p
   intro f h
   have e:=i (λz hz=>f z (O5 _ hz))
   have g:k≠.cell:=f (n,k) D'
   by_cases b:(k == RN&&env.scope.kind == .function&&env.kindOf n == some .cell)=true
   ·have m:k=.free:=by
     rw[Pu,Pu] at b
     exact eq_of_beq b.1.1
    subst m
    simp only[O1,if_pos b] at h
    cases hx:y == n with
    |true=>simp only[PV,hx]
    |false =>
     simp only[PV,hx] at h ⊢
     exact e h
   ·simp only[O1,if_neg b] at h
    cases hx:y == n with
    |true =>
     simp only[PV,hx] at h ⊢
     rcases h with h|h
     ·cases h;exact absurd rfl g
     ·exact h
    |false =>
     simp only[PV,hx] at h ⊢
     exact e h
 exact c a.names j h
def sE{a:Scope}{env:Env}{y:Str}(h:a.names.lookup y=some .free):(relabel a env).names.lookup y=some .cell\/(relabel a env).names.lookup y=some .free:=by
 have b:∀(l:List (Str × Tg)),l.lookup y=some .free->((l.map fun(n,k)=>if(k == RN&&env.scope.kind == .function&&env.kindOf n == some .cell) then(n,SW) else(n,k)).lookup y=some .cell \/
   (l.map fun(n,k)=>if(k == RN&&env.scope.kind == .function&&env.kindOf n == some .cell) then(n,SW) else(n,k)).lookup y=some .free):=by
  intro l
  induction l with
  |nil=>intro h;simp at h
  |cons p r e =>
   obtain⟨n,k⟩:=p
   intro h
   by_cases c:(k == RN&&env.scope.kind == .function&&env.kindOf n == some .cell)=true
   ·simp only[O1,if_pos c]
    cases hx:y == n with
    |true=>simp only[PV,hx];exact .inl trivial
    |false =>
     simp only[PV,hx] at h ⊢
     exact e h
   ·simp only[O1,if_neg c]
    cases hx:y == n with
    |true=>simp only[PV,hx] at h ⊢;exact .inr h
    |false =>
     simp only[PV,hx] at h ⊢
     exact e h
 exact b a.names h
structure cB (X:Cx) (scope:Scope) (cl:List (Str × Addr)) (T:List Str) (caps:List Nat) (cn:List Str):Prop where
 kind:scope.kind=.function
 Kg:Vd scope X.env=pure cl
 G5:∀y∈scope.names,y.2≠.cell
 names:∀y∈scope.names,y.2=.local->scope.names.lookup y.1=some .local
 sub:∀y c,cl.lookup y=some c->X.env.cells.lookup y=some c
 has:∀y,scope.names.lookup y=some .free->∃c,cl.lookup y=some c
 OF:Paired (fun(j:Nat) (y:Str)=>X.N[j]?=some y/\(X.env.kindOf y=some .cell\/X.env.kindOf y=some .free)/\scope.names.lookup y=some .free) caps cn
def AO(n:Nat)(caps:List Nat)(σ:St):St:=RJ n none++caps.map λj=>(σ[j]?).getD none
def Le(σ a:St):Prop:=σ.length=a.length/\∀(i:Nat) v,σ[i]?=some (some v)->a[i]?=some (some v)
def Le.one{r:St}{x:Option V}:Le (none::r) (x::r):=⟨rfl,λi v h=>by
 cases i with
 |zero=>simp at h
 |succ i=>simpa using h⟩
def xu(X:Cx)(b:List Expr)(t:TT):Prop :=
 ∀(a:List (Addr × Obj)) (s:Shared) (σ:St) (H:Hp) (Q:Bool->Hp->Prop),Inv X a σ H s->t σ H Q ->
  wpAny (model X.prog X.w) X.A (forIn b true λc r=>if r=true then do let ok <- isTrue c X.env (eval c X.env);pure (P0 ok) else pure (P0 r)) (TP X a σ Q) X.xe s
def Nw:TT:=λ_ H Q=>Q true H
def Fh{X:Cx}:xu X [] Nw:=λa s σ H Q I h=>wpAny_tests_nil ⟨H,I,h⟩
def Fi{X:Cx}{c:Expr}{t:TT}(h:PT X c t):xu X [c] t:=λa s σ H Q I q=>wpAny_tests_one (h a s σ H Q I q)
def rn{prog:O0}{w:World}{A:Around}{R:Result->Shared->Prop}{s:Shared}{i a e:Expr}{g:List Expr}{b:Scope}{pos:Pos}{l f:Value}{env:Env}(I:Nat->Shared->Prop)
  (j:∀n s,I n s->wpAny (model prog w) A (pyNext l) (λr p=>match r with
   |none=>R (.ok .next) p
   |some v=>wpAny (model prog w) A (letOwnedTupleGo a l v) (λ_ t=>wpAny (model prog w) A (assign a env v) (λ_ y =>
     wpAny (model prog w) A (forIn g true λc r=>if r=true then do let ok <- isTrue c env (eval c env);pure (P0 ok) else pure (P0 r)) (λok o =>
      if ok=true then wpAny (model prog w) A (eval i env) (λx B =>
       wpAny (model prog w) A (call (.builtin "list.append") [f,x]) (λ_ z=>∃m,m<n/\I m z) (λ_ _=>False) B) (λ_ _=>False) o
      else ∃m,m<n/\I m o) (λ_ _=>False) y) (λ_ _=>False) t) (λ_ _=>False) p) (λ_ _=>False) s)
  (n:Nat)(h:I n s) :
  RF (model prog w) A (.compLoop (.ListComp i [⟨a,e,g,0⟩] b pos) 0 l f env) R s:=by
 refine codeAny_loop rfl I (λn s C=>?_) n h
 show wpAny _ A ((compTurn (.ListComp i [⟨a,e,g,0⟩] b pos) 0 l f env).onRaise (λx=>do noteFrame x env;theTreesLotGoes x)) _ _ s
 refine wpAny_noted ?_
 rw[compTurn_list]
 refine wpAny_bind (wpAny_standAt (wpAny_bind (wpAny_mono (j n s C) (λr p u=>?_) λ_ _ h'=>h'.elim)))
 cases r with
 |none=>exact wpAny_pure u
 |some v =>
  refine wpAny_bind (wpAny_mono u (λ_ t h₀=>?_) λ_ _ h'=>h'.elim)
  refine wpAny_bind (wpAny_mono h₀ (λ_ y G=>wpAny_bind (wpAny_mono G (λok o q=>?_) λ_ _ h'=>h'.elim)) λ_ _ h'=>h'.elim)
  cases ok with
  |false=>exact wpAny_pure ⟨rfl,q⟩
  |true =>
   exact wpAny_bind (wpAny_bind (wpAny_mono q (λx B F=>wpAny_bind (wpAny_mono F (λ_ z E=>wpAny_pure (wpAny_pure ⟨rfl,E⟩)) λ_ _ h'=>h'.elim)) λ_ _ h'=>h'.elim))
section
variable {X:Cx}{scope:Scope}{cl:List (Str × Addr)}{T cn:List Str}{caps:List Nat}{pins:List (Addr × Obj)}{σ:St}{H2:Hp}{s2:Shared}{C:Addr}{h₁:Heap}{tk:Nat}{fp:List Addr}{ix:Addr}
def wR(S:cB X scope cl T caps cn)(f:Inv X pins σ H2 s2)(H:∀b∈fp,kH X pins H2 b)(fo:∀b∈fp,b<s2.heap.objs.size)
  (J:C=s2.heap.objs.size+1)(g:∀b o,s2.heap.get? b=some o->h₁.get? b=some o)(E:∃n,h₁.get? s2.heap.objs.size=some { cls:=.type "list",data:=.seq #[] n })(M:h₁.Ns C λ_=>none) :
  Inv (ay X scope cl C (T++cn) fp s2 H2) [] (AO T.length caps σ) (upd H2 s2.heap.objs.size (.lst [])) { s2 with heap:=h₁,toks:=tk }:=by
 have L:H2 s2.heap.objs.size=none:=f.fresh
 have s:∀y c,cl.lookup y=some c->c<s2.heap.objs.size:=λy c e=>by
  obtain⟨v,o,G,_⟩:=f.cell y c (S.sub y c e)
  exact N' G
 refine⟨⟨f.ok.mod,S.kind,f.ok.glob,f.ok.blt,by show s2.heap.objs.size<=C;rw[J];exact Sf _,λy z c h1 h2=>f.ok.inj y z c (S.sub y c h1) (S.sub z c h2),λy hy=>S.has y (tN S.G5 hy),λy c hf _=>(A' hf).elim,
  f.ok.hd,f.ok.frames,.inl rfl,λb w=>⟨?_,λy c e=>?_⟩,f.bs,PB f.ok.Gd f.sz,λb o e w=>?_,λb w hs=>?_,f.stack,f.ym⟩,rfl,f.bare,Un.laid g (O2 _) L,⟨_,M,λi y v e1 x e3=>?_⟩,λy c e=>?_,?_,λy c e=>?_,λp U=>?_,f.bJ.laid g (O2 _) ?_,?_⟩
 ·show b≠C
  rw[J]
  exact PR (QQ (fo b w))
 ·exact(H b w).2.2.2.2.1 y c (S.sub y c e)
 ·have h0:=f.ok.bs b o e
  rcases(H b w).2.2.2.1 with z|z
  ·exact f.ok.CF b o e z
  ·exact absurd (Pa (N' h0.1) z) (Qa _)
 ·rcases B'.mp (f.tZ b hs) with z|z
  ·exact(H b w).2.1 z
  ·exact(H b w).2.2.1 z
 ·-- the slots
  have hT:T.length<=i:=by
   by_cases hi:i<T.length
   ·unfold AO at x
    rw[Qf (by simpa using hi),R'] at x
    split at x<;>cases x
   ·omega
  obtain⟨k,rfl⟩:∃k,i=T.length+k:=⟨i - T.length,by omega⟩
  have R:cn[k]?=some y:=by
   have q:(T++cn)[T.length+k]?=some y:=e1
   rw[Q0 (by omega)] at q
   simpa using q
  have O:(caps.map λj=>(σ[j]?).getD none)[k]?=some (some v):=by
   unfold AO at x
   rw[Q0 (by simp)] at x
   simpa using x
  have pr:∀{A:List Nat} {B:List Str} {k:Nat},Paired (fun(j:Nat) (y:Str)=>X.N[j]?=some y/\(X.env.kindOf y=some .cell\/X.env.kindOf y=some .free)/\scope.names.lookup y=some .free) A B ->
    B[k]?=some y->(A.map λj=>(σ[j]?).getD none)[k]?=some (some v)->∃(j:Nat),X.N[j]?=some y/\(X.env.kindOf y=some .cell\/X.env.kindOf y=some .free)/\scope.names.lookup y=some .free/\σ[j]?=some (some v):=by
   intro A B k p
   induction p generalizing k with
   |nil=>intro q;simp at q
   |cons a t ih =>
    rename_i Y y0 l1 l2
    cases k with
    |zero =>
     intro I h
     simp at I h
     subst I
     refine⟨Y,a.1,a.2.1,a.2.2,?_⟩
     cases e:σ[Y]? with
     |none=>rw[e] at h;simp at h
     |some z=>rw[e] at h;simp at h;rw[h]
    |succ k=>intro I h;exact ih (by simpa using I) (by simpa using h)
  obtain⟨j,n1,W,fr,sv⟩:=pr S.OF R O
  obtain⟨m,hn,hl⟩:=f.loc
  obtain⟨u,r,lk⟩:=hl j y v n1 sv (by rcases W with z|z;exact .inr (.inl z);exact .inr (.inr z))
  refine⟨u,r,.inr ⟨sE fr,?_⟩⟩
  obtain⟨c,Z⟩:=S.has y fr
  rcases lk with⟨z,_⟩|⟨_,c',P,l⟩
  ·rcases W with q|q<;>(rw[z] at q;cases q)
  ·have:c=c':=by
    have:=S.sub y c Z
    rw[P] at this
    exact(Pq this).symm
   subst this
   obtain⟨o,G,Q⟩:=l
   exact⟨c,Z,o,g c o G,Q⟩
 ·obtain⟨v,o,G,Q⟩:=f.cell y c (S.sub y c e)
  exact⟨v,o,g c o G,Q⟩
 ·show upd H2 s2.heap.objs.size (.lst []) C=none
  rw[aL (by rw[J];exact SG _)]
  exact f.bJ.fresh (by rw[J];exact Sf _)
 ·rw[aL (PR (s y c e))]
  exact f.fO y c (S.sub y c e)
 ·exact absurd (show p∈([]:List (Addr × Obj)) from U) (by simp)
 ·obtain⟨n,e⟩:=E
  exact⟨P6 _,[],n,.nil,e⟩
 ·have U:∀{A:List Nat} {B:List Str} {F:Nat->Str->Prop},Paired F A B->A.length=B.length:=λp=>Rr p
  show(AO T.length caps σ).length=(T++cn).length
  unfold AO
  rw[O4,Qv,G',O4,U S.OF]
def A5(n:Inv X pins σ H2 s2)(h:∀b∈fp,kH X pins H2 b)(t:s2.heap.objs.size<=C){N:List Str}{s:St}{c:Hp}{a:Shared}(J:Inv (ay X scope cl C N fp s2 H2) [] s c a) :
  ∃f m,a.heap.get? C=some f/\a.heap.Ns C m/\Inv X (pins++[(C,f)]) σ c a/\kH X pins c C:=by
 obtain⟨m,r,_⟩:=J.loc
 obtain⟨f,es,ep,o,w,j⟩:=id r
 have l:Inv X pins σ c a:=n.Az (ch:=fp) J.os J.base J.bJ J.bare λb g=>⟨(h b g).2.2.2.1,(h b g).2.1,(h b g).2.2.2.2.1,(h b g).2.2.2.2.2⟩
 have i:kH X pins c C:=n.zR t J.free
 refine⟨f,m,o,r,l.tI λp u=>?_,i⟩
 rcases O3.mp u with z|z
 ·exact l.pin p (O8 _ z)
 ·have e:p=(C,f):=by simpa using z
  subst e
  exact⟨o,i.1,i.2.1,i.2.2.1,λv q=>by rw[w] at q;cases q⟩
end
def GU(J:It)(D:Addr)(o:Hp)(j:St)(g:TG)(tt:TT)(l:TE)(Q:VK):Prop:=∃W:Nat->Nat->List V->Hp->Prop,(∃m,W 0 m [] (upd o D (.lst []))) /\
 ∀i m ys H,W i m ys H->H D=some (.lst ys)/\((J.stop i H/\Q (.ref D) H)\/(J.go i H/\∀x f,J.Am i H x f->g x j f λc n=>Le j c/\tt c n λb e =>
  if b=true then l c e λy h=>h D=some (.lst ys)/\ys.length<sizeLine/\∃a,a<m/\W (i+1) a (ys++[y]) (upd h D (.lst (ys++[y]))) else ∃a,a<m/\W (i+1) a ys e))
def yg(n:Nat)(caps:List Nat)(wi:TI)(g:TG)(tt:TT)(b:TE):TE:=λσ H Q=>wi σ H λJ a=>∀D,a D=none->GU J D a (AO n caps σ) g tt b Q
section
variable {X:Cx}{scope:Scope}{cl:List (Str × Addr)}{T cn:List Str}{caps:List Nat}{elt tg iter:Expr}{ifs:List Expr}{wi:TI}{g:TG}{tt:TT}{te:TE}{pos:Pos}
def pF(S:cB X scope cl T caps cn)(hc:X.calm=true)(hg:∀C f s₂ H₂,PG (ay X scope cl C (T++cn) f s₂ H₂) tg g)(ht:∀C f s₂ H₂,xu (ay X scope cl C (T++cn) f s₂ H₂) ifs tt)
  (he:∀C f s₂ H₂,PE (ay X scope cl C (T++cn) f s₂ H₂) elt te){s:List (Addr × Obj)}{σ:St}{j:Hp}{a:Shared}{it:Addr}{f:List Addr}{Y:Nat->Heap->Prop}{J:It}{E:Value->Shared->Prop}{Q:VK}
  {RR:Value->Addr->Result->Shared->Prop}(I2:Inv X s σ j a)(I:Turn X.prog X.w X.K tg J f it Y)(st2:Y 0 a.heap)(Z:∀b∈f,kH X s j b)
  (q:∀D,j D=none->GU J D j (AO T.length caps σ) g tt te Q)
  (fin:∀D C oC m l M,Inv X (s++[(C,oC)]) σ l M->M.heap.get? C=some oC->M.heap.Ns C m->kH X s l C->Q (.ref D) l->RR (.ref D) C (.ok .next) M) :
  wpAny (model X.prog X.w) X.A (newList []) (λacc N=>wpAny (model X.prog X.w) X.A (newFunctionEnv scope X.env.globals cl [] X.env.qual none .none (some X.env)) (λG s₄ =>
   RF (model X.prog X.w) X.A (.compStart (.ListComp elt [⟨tg,iter,ifs,0⟩] scope pos) 0 (.ref it) acc { G with scope:=relabel scope X.env }) (RR acc G.locals) s₄) E N) E a:=by
 refine wpAny_newObj_type (wpAny_newFunctionEnv S.G5 (by intro y hy;simp at hy) (λh₁ F t=>?_) S.kind)
 dsimp only at F t ⊢
 generalize O:a.heap.push { cls:=.type "list",dict:=none,data:=.seq ([]:List Value).toArray }=v at F t ⊢
 have hC:v.objs.size=a.heap.objs.size+1:=by rw[<- O,Py]
 have hDC:a.heap.objs.size≠v.objs.size:=by omega
 have old:∀b o,a.heap.get? b=some o->h₁.get? b=some o:=λb o e=>t.extBut b o (by rw[hC];exact PR (QQ (N' e))) (y' _ (O ▸ y' _ e))
 have hacc:∃n,h₁.get? a.heap.objs.size=some { cls:=.type "list",data:=.seq #[] n }:=⟨_,t.extBut _ _ hDC (y' _ (O ▸ K' _ rfl))⟩
 have fo:∀b∈f,b<a.heap.objs.size:=λb h=>by
  obtain⟨o,e,_⟩:=I.obj 0 _ st2 b h
  exact N' e
 obtain⟨W,⟨m0,w0⟩,turn⟩:=q a.heap.objs.size I2.fresh
 have st1:Y 0 h₁:=I.keep 0 _ _ st2 λb h o e=>old b o e
 have fr0:∀b∈f,upd j a.heap.objs.size (.lst []) b=none:=λb h=>by rw[aL (PR (fo b h))];exact(Z b h).1
 have L:∀N:Shared,N={ a with heap:=h₁,toks:=a.toks+([]:List (Str × Value)).length } ->
   RF (model X.prog X.w) X.A (.compLoop (.ListComp elt [⟨tg,iter,ifs,0⟩] scope pos) 0 (.ref it) (.ref a.heap.objs.size) (compEnvC scope cl v.objs.size X.env)) (RR (.ref a.heap.objs.size) v.objs.size) N:=by
  intro N hs3
  have I0:Inv (ay X scope cl v.objs.size (T++cn) f a j) [] (AO T.length caps σ) (upd j a.heap.objs.size (.lst [])) N:=by
   rw[hs3]
   exact wR S I2 Z fo hC old hacc (by simpa using F)
  have st3:Y 0 N.heap:=by rw[hs3];exact st1
  have B:∀{l:Hp},(∀b∈f,l b=none)->∀b∈f,kH (ay X scope cl v.objs.size (T++cn) f a j) [] l b:=fun{l} hn b h=>by
   refine⟨hn b h,?_,λhs=>?_,.inl h,λy c e=>(Z b h).2.2.2.2.1 y c (S.sub y c e),λp hp=>absurd (show p∈([]:List (Addr × Obj)) from hp) (by simp)⟩
   ·show b≠v.objs.size
    rw[hC]
    exact PR (QQ (fo b h))
   ·rcases B'.mp (I2.tZ b hs) with z|z
    ·exact(Z b h).2.1 z
    ·exact(Z b h).2.2.1 z
  refine rn (λn M=>∃i ys l,Inv (ay X scope cl v.objs.size (T++cn) f a j) [] (AO T.length caps σ) l M/\Y i M.heap/\(∀b∈f,l b=none)/\W i n ys l) ?_ m0 ⟨0,[],_,I0,st3,fr0,w0⟩
  rintro n s4 ⟨i,ys,H4,I4,st4,fr4,w4⟩
  obtain⟨hD,tr⟩:=turn i n ys H4 w4
  rcases tr with⟨stop,qn⟩|⟨go,step⟩
  ·refine bH (I.done (ay X scope cl v.objs.size (T++cn) f a j) rfl rfl rfl hc i [] s4 (AO T.length caps σ) H4 (λ_ _=>False) I4 (B fr4) st4 stop) ?_;rintro r s5 ⟨hr,I5⟩
   subst hr
   obtain⟨oC,m,a1,a2,a3,a4⟩:=A5 I2 Z (by omega) I5
   exact fin _ _ oC m H4 s5 a3 a1 a2 a4 qn
  ·refine bH (I.item (ay X scope cl v.objs.size (T++cn) f a j) rfl rfl rfl hc i [] s4 (AO T.length caps σ) H4 (λ_ _=>False) I4 (B fr4) st4 go) ?_;rintro r s5 ⟨u,hr,h5⟩
   subst hr
   refine bH h5 ?_;rintro _ s6 ⟨x,H6,I6,r6,y6,P,fr6⟩
   have I6':=I6.pinned (B fr6) (I.obj _ _ P)
   refine bH (hg _ f a j _ s6 _ H6 x u _ I6' r6 (step x H6 y6)) ?_;rintro _ s7 ⟨σ7,H7,I7,le7,q7⟩
   have again:∀{σ8:St} {R:Hp} {U:Shared} {zs:List V} {m':Nat},Le (AO T.length caps σ) σ8->Inv (ay X scope cl v.objs.size (T++cn) f a j) ([]++lT f s6.heap) σ8 R U->m'<n->W (i+1) m' zs R ->
     ∃m,m<n/\∃i ys l,Inv (ay X scope cl v.objs.size (T++cn) f a j) [] (AO T.length caps σ) l U/\Y i U.heap/\(∀b∈f,l b=none)/\W i m ys l:=fun{σ8 R U zs m'} le I8 hm w8=>by
    refine⟨m',hm,i+1,zs,R,I8.gh.weak le.1 le.2,I.keep _ _ _ P λb h o e=>(I8.pin (b,o) (O8 _ (O8 _ (fP h e)))).1,λb h=>?_,w8⟩
    obtain⟨o,e,d⟩:=I.obj _ _ P b h
    exact(I8.pin (b,o) (O8 _ (O8 _ (fP h e)))).2.1
   refine bH (ht _ f a j _ s7 σ7 H7 _ I7 q7) ?_;rintro ok U ⟨R,I8,q8⟩
   cases ok with
   |false =>
    rw[if_neg A'] at q8 ⊢
    obtain⟨m',hm,w8⟩:=q8
    exact again le7 I8 hm w8
   |true =>
    rw[if_pos rfl] at q8 ⊢
    refine bH (he _ f a j _ U σ7 R _ I8 q8) ?_;rintro v9 s9 ⟨y,H9,I9,r9,hD9,hz9,m',hm,w9⟩
    refine bH (zp _ s9 σ7 H9 (.ref a.heap.objs.size) [y] (.ref a.heap.objs.size) [v9] (λ_ H=>H=upd H9 a.heap.objs.size (.lst (ys++[y]))) I9 rfl (.cons r9 .nil) ⟨_,ys,y,rfl,rfl,hD9,hz9,rfl⟩) ?_;rintro _ s10 ⟨_,H10,I10,_,e10⟩
    subst e10
    exact again le7 I10 hm w9
 exact codeAny_compStart_list (L _ rfl) (I.self X.A 0 _ _ _ st1 (L _ rfl))
def yV(S:cB X scope cl T caps cn)(M:X.calm=true)(y:PI X tg iter wi)(O:∀C c i f,PG (ay X scope cl C (T++cn) c i f) tg g)(N:∀C c i f,xu (ay X scope cl C (T++cn) c i f) ifs tt)
  (he:∀C c i f,PE (ay X scope cl C (T++cn) c i f) elt te)(G:autoParam (∀x,foldedSetIterable iter X.env x=pure x) c7) :
  PE X (.ListComp elt [⟨tg,iter,ifs,0⟩] scope pos) (yg T.length caps wi g tt te):=by
 intro a s σ H Q I h
 rw[eval_ListComp]
 refine wpAny_comprehension_free (use:=none) rfl G S.Kg S.kind S.names (bH (y a s σ H _ I h) λv s1 h1=>bH h1 λu s2 r=>?_)
 obtain⟨Z,c,tn,J,H2,e,E,R,p,z,q⟩:=r
 subst e
 refine pF (RR:=λl C=>compPost (model X.prog X.w) X.A X.xe none (EP X a σ Q) l C) S M O N he E R p z q λD C Y m F B U ho W j L=>?_
 refine⟨m,W,λh' n=>⟨.ref D,F,?_,rfl,L⟩⟩
 obtain⟨hp,g,d,t,os⟩:=B
 exact U.gh.turned (λb o P e=>(n.2 b P).trans e) j.1 j.2.1 j.2.2.2.1 j.2.2.2.2.1 j.2.2.2.2.2
def Lr(i:Nat)(t:TE):TS:=λD σ H=>t σ H λx a=>D.nx (σ.set i (some x)) a
def FZ{i:Nat}{y:Str}{l c:Pos}(hN:X.N.Nodup)(W:X.N[i]?=some y)(hy:Loc X.env.scope y)(S:cB X scope cl T caps cn)(hc:X.calm=true)(hi:PI X tg iter wi)
  (hg:∀C j u n,PG (ay X scope cl C (T++cn) j u n) tg g)(ht:∀C j u n,xu (ay X scope cl C (T++cn) j u n) ifs tt)
  (he:∀C j u n,PE (ay X scope cl C (T++cn) j u n) elt te)(O:autoParam (QL (.ListComp elt [⟨tg,iter,ifs,0⟩] scope pos) (some (.Name y l)) c.line X.env=pure true) a9)
  (hf:autoParam (X.fn y=true\/X.env.scope.names.lookup y=some .local) dA)
  (hs:autoParam (∀x,foldedSetIterable iter X.env x=pure x) c7) :
  PS X (.Assign [.Name y l] (.ListComp elt [⟨tg,iter,ifs,0⟩] scope pos) c) (Lr i (yg T.length caps wi g tt te)):=by
 intro a s σ H D I h
 rw[exec_Assign_Name_used _ _ _ _ O]
 refine wpAny_bind (wpAny_standAt (wpAny_bind ?_))
 show wpAny _ X.A (do let _ <- comprehension (.ListComp elt [⟨tg,iter,ifs,0⟩] scope pos) scope X.env _ (newList []) false (eval iter X.env) (some (assign (.Name y l) X.env))) _ _ s
 refine wpAny_bind (wpAny_mono (wpAny_comprehension_free (use:=some (assign (.Name y l) X.env)) (Q:=λ_ f=>SP X a D .next f) rfl hs S.Kg S.kind S.names
  (bH (hi a s σ H _ I h) λv s1 h1=>bH h1 λitv s2 h2=>?_)) (λ_ f hq=>wpAny_pure (wpAny_pure hq)) λ_ _ e=>e)
 obtain⟨it,j,tn,J,H2,e,I2,Tn,Y,f2,q⟩:=h2
 subst e
 refine pF (Q:=λx P=>D.nx (σ.set i (some x)) P) (RR:=λL C=>compPost (model X.prog X.w) X.A X.xe (some (assign (.Name y l) X.env)) (λ_ f=>SP X a D .next f) L C) S hc hg ht he I2 Tn Y f2 q λF C G m Z f I' ho hn p qD=>?_
 show wpAny _ X.A (assign (.Name y l) X.env (.ref F)) _ _ f
 refine bH (cT (i:=i) hN W hy hf (a++[(C,G)]) f σ Z (.ref F) (.ref F) (λσ' P=>σ'=σ.set i (some (.ref F))/\P=Z) I' rfl ⟨rfl,rfl⟩) ?_;rintro _ B ⟨σ'',M,E,e1,e2⟩
 subst e1 e2
 have U:B.heap.get? C=some G:=(E.pin (C,G) (O8 _ (O8 _ (O6.mpr rfl)))).1
 obtain⟨oC',es,ep,z,r⟩:=hn
 rw[ho] at z
 cases z
 refine⟨m,⟨G,es,ep,U,r⟩,λh' R=>⟨σ.set i (some (.ref F)),M,?_,qD⟩⟩
 obtain⟨hp,g,d,t,os⟩:=B
 exact E.gh.turned (λb o hb e=>(R.2 b hb).trans e) p.1 p.2.1 p.2.2.2.1 p.2.2.2.2.1 p.2.2.2.2.2
end
section
variable {X:Cx}
def vQ:fc X (compareOp .Is) (λx y H Q=>∃a b,x=.bl a/\y=.bl b/\Q (.bl (a == b)) H):=by
 intro c s σ H x y v u Q I e f h
 obtain⟨a,b,rfl,rfl,q⟩:=h
 cases e
 cases f
 exact is_bool (ak I q rfl)
def vR:fc X (compareOp .IsNot) (λx y H Q=>∃a b,x=.bl a/\y=.bl b/\Q (.bl (a != b)) H):=by
 intro c s σ H x y v u Q I e f h
 obtain⟨a,b,rfl,rfl,q⟩:=h
 cases e
 cases f
 exact isnot_bool (ak I q rfl)
def FI:fc X (binaryOp .Mult) (rI W3 λi j=>.int (i*j)):=NW λ_ _ _ _ _ _ _ a q=>mul_int q a
end
mutual
inductive lH (K:j') (H:Hp):V->PyData->Prop
 |ah:lH K H .ah .none
 |bl (b:Bool):lH K H (.bl b) (.bool b)
 |int (i:Int):lH K H (.int i) (.int i)
 |str (x:Str):lH K H (.str x) (.str x)
 |lst {a:Addr} {xs:List V} {ds:List PyData}:eX K H a xs->ie K H xs ds->lH K H (.ref a) (.list ds)
 |tup {a:Addr} {xs:List V} {ds:List PyData}:eY K H a xs->ie K H xs ds->lH K H (.ref a) (.tuple ds)
inductive ie (K:j') (H:Hp):List V->List PyData->Prop
 |nil:ie K H [] []
 |cons {x:V} {d:PyData} {xs:List V} {ds:List PyData}:lH K H x d->ie K H xs ds->ie K H (x::xs) (d::ds)
end
def IsTup.of_get{h:Heap}{a:Addr}{b:Array Value}(p:IsTup h a b):∃o n,h.get? a=some o/\o.cls=.type "tuple"/\o.data=.seq b n:=by
 obtain⟨o,h1,e,n,c⟩:=p
 exact⟨o,n,h1,e,c⟩
mutual
def lH.reads{X:Cx}{c:List (Addr × Obj)}{σ:St}{H:Hp}{s:Shared}(I:Inv X c σ H s):∀{v:V} {d:PyData} {u:Value},lH X.K H v d->RelV v u->∃as,Reads s.heap u d as
 |_,_,u,.ah,r=>by cases(show u=QM from r);exact⟨_,.none⟩
 |_,_,u,.bl b,r=>by cases(show u=Qh b from r);exact⟨_,.bool b⟩
 |_,_,u,.int i,r=>by obtain⟨t,q⟩:=(show ∃t,u=Rf i t from r);cases q;exact⟨_,.int i t⟩
 |_,_,u,.str x,r=>by obtain⟨t,q⟩:=(show ∃t,u=Ql x t from r);cases q;exact⟨_,.str x t⟩
 |_,_,u,@lH.lst _ _ a xs ds h1 f,r=>by
  cases(show u=F' a from r)
  obtain⟨g,e,pl,_⟩:=I.list h1
  obtain⟨as,q⟩:=ie.reads I f e
  obtain⟨o,n,j,h,_,l⟩:=pl
  exact⟨_,reads_list_at j h l (by simpa using q)⟩
 |_,_,u,@lH.tup _ _ a xs ds h1 f,r=>by
  cases(show u=F' a from r)
  obtain⟨g,e,pl,_⟩:=I.tuple h1
  obtain⟨as,q⟩:=ie.reads I f e
  obtain⟨o,n,j,h,l⟩:=IsTup.of_get pl
  exact⟨_,reads_tuple_at j h l (by simpa using q)⟩
def ie.reads{X:Cx}{a:List (Addr × Obj)}{σ:St}{H:Hp}{s:Shared}(I:Inv X a σ H s):∀{vs:List V} {ds:List PyData} {us:List Value},ie X.K H vs ds->Vals vs us->∃as,ReadsAll s.heap us ds as
 |_,_,us,.nil,r=>by cases r;exact⟨_,.nil⟩
 |_,_,us,.cons h1 e,r=>by
  cases r with
  |cons c b =>
   obtain⟨as,q⟩:=lH.reads I h1 c
   obtain⟨bs,p⟩:=ie.reads I e b
   exact⟨_,.cons q p⟩
end
def Fm(K:j')(neg:Bool):R2:=λx y H Q=>∃d e,lH K H x d/\lH K H y e/\Sv d=true/\Sv e=true/\Q (.bl (if neg then !TR d e else TR d e)) H
section
variable {X:Cx}
def CI(m:X.A.units+64<cLine):fc X (compareOp .Eq) (Fm X.K false):=by
 intro a s σ H x y v u Q I l i h
 obtain⟨d,e,b,j,f,c,q⟩:=h
 obtain⟨as,g⟩:=b.reads I l
 obtain⟨bs,n⟩:=j.reads I i
 exact eq_dataH g n f c m ⟨.bl _,H,I,rfl,q⟩
def JH(m:X.A.units+64<cLine):fc X (compareOp .NotEq) (Fm X.K true):=by
 intro a s σ H x y v u Q I l i h
 obtain⟨d,e,b,j,f,c,q⟩:=h
 obtain⟨as,g⟩:=b.reads I l
 obtain⟨bs,n⟩:=j.reads I i
 exact ne_dataH g n f c m ⟨.bl _,H,I,rfl,q⟩
def yx{bs:List Bool}:∀{us:List Value},Vals (bs.map V.bl) us->∀(i:Nat) (v:Value),us[i]?=some v->∃b,bs[i]?=some b/\v=.bool b:=by
 intro us r i v e
 have c:=r.length
 rw[G'] at c
 have g:i<us.length:=(PJ.mp e).1
 have a:bs[i]?=some bs[i]:=O9 (by omega)
 obtain⟨u,h1,f⟩:=r.get (i:=i) (x:=V.bl bs[i]) (by rw[O7,a];rfl)
 rw[e] at h1
 cases h1
 exact⟨_,a,f⟩
def xQ(bs:List Bool):((Qj bs.length).all λi=>(bs[i]?).getD true)=bs.all id:=VT bs
def A0:kK X (.builtin "all") (λxs H Q=>∃(p:Addr) (bs:List Bool),xs=[.ref p]/\X.A.handled=none/\eX X.K H p (bs.map V.bl)/\Q (.bl (bs.all id)) H):=by
 intro m s σ H xs us Q I r h
 obtain⟨p,bs,rfl,y,w,q⟩:=h
 obtain⟨u,rfl,n⟩:=vals1 r
 cases(show u=F' p from n)
 obtain⟨a,g,pl,_⟩:=I.list w
 have j:=pl.isList
 have f:p<s.heap.objs.size:=pl.lt
 have x:=yx g
 have c:a.length=bs.length:=by have:=g.length;rw[G'] at this;exact this.symm
 refine call_all_walk (wpAny_pyIter_list j ?_)
 refine⟨s.heap.objs.size,[s.heap.objs.size,p],[s.heap.objs.size],a.toArray.size,_,_,λi=>(bs[i]?).getD true,rfl,V7 (A:=X.A.in1) y _ p (PR f) a.toArray,
  ⟨⟨_,K' _ rfl,rfl,rfl⟩,j.push _⟩,λi v z B C t l=>?_,λh' tk o=>?_⟩
 ·obtain⟨b,e,rfl⟩:=x i v (by simpa using t)
  simp only[e,PM] at l
  exact wpAny_truthy_bool l
 ·have e:((Qj a.toArray.size).all λi=>(bs[i]?).getD true)=bs.all id:=by
   rw[PQ,c];exact xQ bs
  rw[e]
  exact⟨.bl (bs.all id),H,I.kept (VU o),rfl,q⟩
end
def aO{H:Hp}{p:Addr}{o:HO}(h:H p=none):aK H (upd H p o):=λb u e=>by
 rw[aL (bD e h)]
 exact e
def PE.imp{X:Cx}{e:Expr}{t t':TE}(h:PE X e t)(f:∀ σ H Q,t' σ H Q->t σ H Q):PE X e t':=λa s σ H Q I q=>h a s σ H Q I (f σ H Q q)
def Mt(x:Str):It:=⟨λi _=>i<x.cps.size,λi H v a=>a=H/\∃c,x.cps[i]?=some c/\v=.str ⟨#[c]⟩,λi _=>x.cps.size<=i⟩
def AX{P:O0}{w:World}{K:j'}{G:Expr}(x:Str)(t:Tok)(it:Addr):Turn P w K G (Mt x) [it] it (λi h=>h.IsStrIter it "str_ascii_iterator" x t i) where
 mem:=by simp
 obj:=λi h st b f=>by
  have e:b=it:=by simpa using f
  subst e
  obtain⟨o,e,c,d⟩:=st
  exact⟨o,e,λv z=>by rw[d] at z;cases z⟩
 keep:=λi h h' st k=>by
  obtain⟨o,e,r⟩:=st
  exact⟨o,k it (by simp) o e,r⟩
 item:=by
  intro X A B u F i a s σ H E I l st C
  subst A B u
  obtain⟨y,m,L,p,q,n⟩:=l it (by simp)
  have j:i<x.cps.size:=C
  refine wpAny_pyNext_ascii_item st (c:=x.cps[i]) (by simp[j]) λh' g J=>?_
  have M:Inv X a σ H { s with heap:=h',toks:=s.toks+1 }:=I.turned (λb o f e=>(J.2 b f).trans e) y m p q n
  obtain⟨o,e,c,d⟩:=id g
  exact⟨_,rfl,uq (s:={ s with heap:=h',toks:=s.toks+1 }) e c d (by decide) ⟨.str ⟨#[x.cps[i]]⟩,H,M,⟨_,rfl⟩,⟨rfl,_,by simp[j],rfl⟩,g,λb f=>(l b f).1⟩⟩
 done:=by
  intro X A B u F i a s σ H E I l st C
  subst A B u
  obtain⟨y,m,L,p,q,n⟩:=l it (by simp)
  have j:x.cps.size<=i:=C
  exact wpAny_pyNext_ascii_end (I.ok.hd F) st (by simp[j]) λh' N=>⟨rfl,I.turned (t':=s.toks) (λb o f e=>N b o f e) y m p q n⟩
 self:=λ_ _ _ _ _ st h=>wpAny_pyIter_striter_ascii st h
def AY{P:O0}{w:World}{K:j'}{G:Expr}(x:Str)(t:Tok)(it:Addr):Turn P w K G (Mt x) [it] it (λi h=>h.IsStrIter it "str_iterator" x t i) where
 mem:=by simp
 obj:=λi h st b f=>by
  have e:b=it:=by simpa using f
  subst e
  obtain⟨o,e,c,d⟩:=st
  exact⟨o,e,λv z=>by rw[d] at z;cases z⟩
 keep:=λi h h' st k=>by
  obtain⟨o,e,r⟩:=st
  exact⟨o,k it (by simp) o e,r⟩
 item:=by
  intro X A B u F i a s σ H E I l st C
  subst A B u
  obtain⟨y,m,L,p,q,n⟩:=l it (by simp)
  have j:i<x.cps.size:=C
  refine wpAny_pyNext_wide_item st (c:=x.cps[i]) (by simp[j]) λh' g J=>?_
  have M:Inv X a σ H { s with heap:=h',toks:=s.toks+1 }:=I.turned (λb o f e=>(J.2 b f).trans e) y m p q n
  obtain⟨o,e,c,d⟩:=id g
  exact⟨_,rfl,uq (s:={ s with heap:=h',toks:=s.toks+1 }) e c d (by decide) ⟨.str ⟨#[x.cps[i]]⟩,H,M,⟨_,rfl⟩,⟨rfl,_,by simp[j],rfl⟩,g,λb f=>(l b f).1⟩⟩
 done:=by
  intro X A B u F i a s σ H E I l st C
  subst A B u
  obtain⟨y,m,L,p,q,n⟩:=l it (by simp)
  have j:x.cps.size<=i:=C
  exact wpAny_pyNext_wide_end (I.ok.hd F) st (by simp[j]) λh' N=>⟨rfl,I.turned (t':=s.toks) (λb o f e=>N b o f e) y m p q n⟩
 self:=λ_ _ _ _ _ st h=>wpAny_pyIter_striter_wide st h
def rY:∀l:List (Str × Tok),Vals ((l.map (·.1)).map V.str) (strValues l)
 |[]=>.nil
 | (x,t)::r=>.cons ⟨t,rfl⟩ (rY r)
def Aa(tk:Nat)(a:List Str):Vals (a.map V.str) (strsFrom tk a):=by
 have h:=rY (numbered tk a)
 rw[numbered_texts,<- strsFrom_eq] at h
 exact h
section
variable {X:Cx}
open Builtin Builtin.Str in
def B9:OB X "str.split" (λx vs H Q=>∃z y,x=.str z/\vs=[.str y]/\(y.length == 0)=false/\z.length+2<=sizeLine/\∀p,H p=none->Q (.ref p) (upd H p (.lst ((QD z y).map V.str)))):=by
 intro g s σ H x vs v us Q I j i h
 obtain⟨z,y,rfl,rfl,f,hz,q⟩:=h
 obtain⟨t,rfl⟩:=j
 obtain⟨l,rfl,u,rfl⟩:=i.one
 have a:(QD z y).length<=sizeLine:=PB (split_le z y) hz
 have c:z.length<=sizeLine:=by omega
 have q:=q s.heap.objs.size I.fresh
 cases h1:(decide (z.length<y.length)||decide (strKind z<strKind y)) with
 |true =>
  have e:QD z y=[z]:=if_pos h1
  rw[e] at q
  refine UN Ry (typeIs_str _ _ _) TK (S5 _ _) (meets_str_split_cannot_occur z y t u h1) ?_
  exact⟨.ref s.heap.objs.size,_,I.laid (t':=s.toks) (o:=.lst [.str z]) (λb ob q=>y' _ q) (O2 _) ⟨by show 1<=sizeLine;decide,_,0,.cons ⟨t,rfl⟩ .nil,K' _ rfl⟩,rfl,q⟩
 |false =>
  cases hf:(occurrences z y 0 z.length (z.length+1)).isEmpty with
  |true =>
   have e:QD z y=[z]:=(if_neg (ne_true_of_eq_false h1)).trans (if_pos hf)
   rw[e] at q
   refine UN Ry (typeIs_str _ _ _) TK (S5 _ _) (meets_str_split_not_found z y t u h1 f hf) ?_
   exact⟨.ref s.heap.objs.size,_,I.laid (t':=s.toks) (o:=.lst [.str z]) (λb ob q=>y' _ q) (O2 _) ⟨by show 1<=sizeLine;decide,_,0,.cons ⟨t,rfl⟩ .nil,K' _ rfl⟩,rfl,q⟩
  |false =>
   have e:QD z y=partsBetween z (occurrences z y 0 z.length (z.length+1)) y.length:=(if_neg (ne_true_of_eq_false h1)).trans (if_neg (ne_true_of_eq_false hf))
   rw[e] at q a
   refine UN Ry (typeIs_str _ _ _) TK (S5 _ _) (meets_str_split_sep z y t u h1 f hf c a) ?_
   exact⟨.ref s.heap.objs.size,_,I.laid (o:=.lst ((partsBetween z (occurrences z y 0 z.length (z.length+1)) y.length).map V.str)) (λb ob q=>y' _ q) (O2 _)
    ⟨by rw[G'];exact a,_,0,Aa _ _,K' _ rfl⟩,rfl,q⟩
def pX{v:Value}{o:Option Int}(p:IsPart v o):∃l:Option (Int × Tok),v=partValue l/\o=l.map (·.1):=by
 cases p with
 |none=>exact⟨none,rfl,rfl⟩
 |int i t=>exact⟨some (i,t),rfl,rfl⟩
def Jo:Dy X (λx lo a H Q=>∃z,x=.str z/\z.length<=sizeLine/\Q (.str (Pp z lo a)) H):=by
 intro b s σ H x v vl i lo a g Q I f c pl e h
 obtain⟨z,rfl,hz,q⟩:=h
 obtain⟨t,rfl⟩:=f
 obtain⟨l,rfl,rfl⟩:=pX pl
 obtain⟨u,rfl,rfl⟩:=pX e
 refine⟨"str",_,F.slot_str_getitem.lookup,typeIs_str _ _ _,wpAny_getItem_str_slice (l:=l) (u:=u) (st:=none) c rfl ?_⟩
 exact post_val_or_str ⟨PB (V_ z _ _) hz,λt' k=>⟨.str (Pp z _ _),H,I.tok _,⟨t',rfl⟩,q⟩⟩
end
def mem_of_lookup{β:Type}{y:Str}{v:β}:∀{l:List (Str × β)},l.lookup y=some v->(y,v)∈l
 |[],h=>by simp at h
 | (x,u)::r,h=>by
  rw[PV] at h
  cases e:y == x with
  |true =>
   rw[e] at h
   have h1:=Pq h
   have a:=eq_of_beq e
   subst h1 a
   exact D'
  |false =>
   rw[e] at h
   exact O5 _ (mem_of_lookup h)
def nq{X:Cx}{a:Scope}{T:List Str}(b:a.kind=.function)(g:Vd a X.env=pure [])(h1:∀y∈a.names,y.2≠.cell)(e:∀y∈a.names,y.2≠.free)
  (f:∀y∈a.names,y.2=.local->a.names.lookup y.1=some .local):cB X a [] T [] [] :=
 ⟨b,g,h1,f,λy c h=>by simp at h,λy h=>absurd rfl (e _ (mem_of_lookup h)),.nil⟩
def Ge{X:Cx}{a:Scope}{T cn:List Str}{caps:List Nat}{cl:List (Str × Addr)}(b:a.kind=.function)(l:Vd a X.env=pure cl)(h1:∀y∈a.names,y.2≠.cell)
  (e:∀y∈a.names,y.2=.free->(cl.lookup y.1).isSome=true)(i:∀y∈a.names,y.2=.local->a.names.lookup y.1=some .local)(f:∀p∈cl,X.env.cells.lookup p.1=some p.2)
  (g:Paired (fun(j:Nat) (y:Str)=>X.N[j]?=some y/\(X.env.kindOf y=some .cell\/X.env.kindOf y=some .free)/\a.names.lookup y=some .free) caps cn):cB X a cl T caps cn :=
 ⟨b,l,h1,i,λy c h=>f (y,c) (mem_of_lookup h),λy h=>Q9.mp (e _ (mem_of_lookup h) rfl),g⟩
def del(H:Hp)(a:Addr):Hp:=λb=>if b=a then none else H b
def BE{H:Hp}{a:Addr}:del H a a=none:=if_pos rfl
def pH{H:Hp}{a b:Addr}(h:b≠a):del H a b=H b:=if_neg h
section
variable {X:Cx}{e:Expr}{te:TE}{tt:TT}
def xY(b:TE):TE:=λσ H Q=>∃D ys,H D=some (.lst ys)/\b σ (del H D) λy a=>a D=none->Q y (upd a D (.lst ys))
def xj(tt:TT):TT:=λσ H Q=>∃D ys,H D=some (.lst ys)/\tt σ (del H D) λb a=>a D=none->Q b (upd a D (.lst ys))
end
def yC{H:Hp}{a:Addr}{o:HO}(h:H a=none):del (upd H a o) a=H:=by
 funext b
 unfold del upd
 by_cases c:b=a
 ·rw[if_pos c,c,h]
 ·rw[if_neg c,if_neg c]
def dg(H:Hp)(a c:Addr):Hp:=λb=>if b=a\/b=c then none else H b
def shown(H:Hp)(a b C:Addr)(fs:List (Str × V)):Hp:=upd (upd H b (.own a)) a (.ins C b fs)
section
variable {X:Cx}{pins:List (Addr × Obj)}{σ:St}{H:Hp}{s:Shared}{a dx C:Addr}{fs:List (Str × V)}
def Inv.CG{o:HO}(I:Inv X pins σ H s)(e:H a=some o):a∉X.fs/\(∀b o,X.s₀.heap.get? b=some o->X.H₀ b=none->b∉X.ex->b≠a)/\(∀p∈X.pn++pins,p.1≠a)/\∀x c,X.env.cells.lookup x=some c->c≠a:=by
 refine⟨λg=>?_,λb o q n f z=>?_,λp i z=>?_,λx c q z=>?_⟩
 ·have h1:=I.ok.Gr a g
  obtain⟨_,o,h,_⟩:=I.ok.nA.mem g
  have f:a∉X.ex:=λf=>I.ok.BV a f g
  have:=I.base.free a o h h1 f
  rw[e] at this
  cases this
 ·have:=I.base.free b o q n f
  rw[z,e] at this
  cases this
 ·have:=(I.pin p i).2.1
  rw[z,e] at this
  cases this
 ·have:=I.fO x c q
  rw[z,e] at this
  cases this
end
section
variable {X:Cx}{e:Expr}{te:TE}{st:Stmt}{ts:TS}
def F9(f:TE):TE:=λσ H Q=>∃a b C fs,H a=some (.ins C b fs)/\f σ (dg H a b) λy c=>c a=none->c b=none->b≠a->Q y (shown c a b C fs)
def Fq(ts:TS):TS:=λD σ H=>∃a c C fs,H a=some (.ins C c fs) /\
 ts ⟨λf b=>b a=none->b c=none->c≠a->D.nx f (shown b a c C fs),λv b=>b a=none->b c=none->c≠a->D.rt v (shown b a c C fs),
  λf b=>b a=none->b c=none->c≠a->D.bk f (shown b a c C fs),λf b=>b a=none->b c=none->c≠a->D.ct f (shown b a c C fs)⟩ σ (dg H a c)
def jX{H:Hp}{a g C:Addr}{fs:List (Str × V)}(h1:H a=none)(h:H g=none):dg (shown H a g C fs) a g=H:=by
 funext b
 unfold dg shown upd
 by_cases f:b=a
 ·rw[if_pos (.inl f),f,h1]
 ·by_cases c:b=g
  ·rw[if_pos (.inr c),c,h]
  ·rw[if_neg (λz=>z.elim f c),if_neg f,if_neg c]
def AZ{H:Hp}{a c C:Addr}{fs b:List (Str × V)}:upd (shown H a c C fs) a (.ins C c b)=shown H a c C b:=oz
def mw{H:Hp}{a b C:Addr}{fs:List (Str × V)}:shown H a b C fs a=some (.ins C b fs):=aI
end
def af(H:Hp)(L:List Addr):Hp:=λb=>if b∈L then none else H b
def aW(a H:Hp)(L:List Addr):Hp:=λb=>if b∈L then H b else a b
def cg{H:Hp}{L:List Addr}{b:Addr}(h:b∈L):af H L b=none:=if_pos h
def bM{H:Hp}{L:List Addr}{b:Addr}(h:b∉L):af H L b=H b:=if_neg h
def jV{H:Hp}{L:List Addr}{b:Addr}(h:H b=none):af H L b=none:=by unfold af;split<;>first|rfl|exact h
def nC{H:Hp}{L:List Addr}{b:Addr}{o:HO}(h:af H L b=some o):b∉L/\H b=some o:=by
 unfold af at h
 split at h
 ·cases h
 ·rename_i z;exact⟨z,h⟩
def av{H:Hp}{L:List Addr}:aK (af H L) H:=λb o h=>(nC h).2
def cY{H:Hp}:af H []=H:=by funext b;exact if_neg (λh=>nomatch h)
def ag{H a:Hp}{L:List Addr}{b:Addr}(h:b∈L):aW a H L b=H b:=if_pos h
def aX{H a:Hp}{L:List Addr}{b:Addr}(h:b∉L):aW a H L b=a b:=if_neg h
def bC{H c:Hp}{L:List Addr}(h:∀b∈L,c b=none):af (aW c H L) L=c:=by
 funext b
 by_cases a:b∈L
 ·rw[cg a,h b a]
 ·rw[bM a,aX a]
inductive df (H:Hp) (L:List Addr) (a:Addr):Prop
 |lst (xs:List V) (h:H a=some (.lst xs))
 |dK (kvs:List (Key × V)) (h:H a=some (.dK kvs))
 |ext (φ:Heap->Prop) (h:H a=some (.ext φ)) (hc:∀g,φ g->∃o,g.get? a=some o/\∀v,o.data≠.cell v)
 |ins (C dx:Addr) (fs:List (Str × V)) (h:H a=some (.ins C dx fs)) (hd:dx∈L)
 |own (C b:Addr) (fs:List (Str × V)) (h:H a=some (.own b)) (hb:b∈L) (hi:H b=some (.ins C a fs))
section
variable {X:Cx}{pins:List (Addr × Obj)}{σ:St}{H:Hp}{s:Shared}{L:List Addr}
def df.there{a:Addr}(h:df H L a):∃o,H a=some o:=by cases h<;>exact⟨_,by assumption⟩
def df.vP{a:Addr}(h:df H L a):(∀xs,H a≠some (.tup xs))/\(∀o u,H a≠some (.BZ o u))/\(∀f,H a≠some (.HM f))/\∀b,H a=some (.own b)->b∈L:=by
 cases h with
 |lst xs h=>rw[h];exact⟨λ_ q=>(nomatch q),λ_ _ q=>(nomatch q),λ_ q=>(nomatch q),λ_ q=>(nomatch q)⟩
 |dK xs h=>rw[h];exact⟨λ_ q=>(nomatch q),λ_ _ q=>(nomatch q),λ_ q=>(nomatch q),λ_ q=>(nomatch q)⟩
 |ext φ h l=>rw[h];exact⟨λ_ q=>(nomatch q),λ_ _ q=>(nomatch q),λ_ q=>(nomatch q),λ_ q=>(nomatch q)⟩
 |ins C g fs h j=>rw[h];exact⟨λ_ q=>(nomatch q),λ_ _ q=>(nomatch q),λ_ q=>(nomatch q),λ_ q=>(nomatch q)⟩
 |own C b fs h e i=>rw[h];exact⟨λ_ q=>(nomatch q),λ_ _ q=>(nomatch q),λ_ q=>(nomatch q),λc q=>by cases q;exact e⟩
def df.obj{a:Addr}(h:df H L a)(I:Inv X pins σ H s):∃o,s.heap.get? a=some o/\∀v,o.data≠.cell v:=by
 cases h with
 |lst xs h =>
  obtain⟨_,i,n,_,l⟩:=(show bI X.prog X.w H s.heap a (.lst xs) from I.bJ a _ h)
  exact⟨_,l,λv q=>by cases q⟩
 |dK f h =>
  obtain⟨_,_,vs,_,ob,es,ep,e,c⟩:=(show bI X.prog X.w H s.heap a (.dK f) from I.bJ a _ h)
  exact⟨_,e,λv q=>by rw[c.2.1] at q;cases q⟩
 |ext φ h p=>exact p _ (show bI X.prog X.w H s.heap a (.ext φ) from I.bJ a _ h).1
 |ins C g fs h y =>
  obtain⟨_,_,_,e,_⟩:=(show bI X.prog X.w H s.heap a (.ins C g fs) from I.bJ a _ h)
  exact⟨_,e,λv q=>by cases q⟩
 |own C b fs h x m =>
  obtain⟨_,_,_,_,t,⟨u,es,ep,j,c⟩,r⟩:=(show bI X.prog X.w H s.heap b (.ins C a fs) from I.bJ b _ m)
  exact⟨_,j,λv q=>by rw[c.1] at q;cases q⟩
def lM{G:Prop}(I:Inv X pins σ H s)(i:∀a∈L,df H L a)
  (h:∀pl:List (Addr × Obj),Inv X (pins++pl) σ (af H L) s->(∀b∈L,∃o,(b,o)∈pl)->(∀(S:St) (A:Hp) (E:Shared),Inv X (pins++pl) S A E->(∀b∈L,A b=none)/\Inv X pins S (aW A H L) E)->G):G:=by
 have t:∀{b:Addr} {o:Obj},(b,o)∈lT L s.heap ↔ b∈L/\s.heap.get? b=some o:=fun{b o}=>⟨λq=>nN q,λq=>fP q.1 q.2⟩
 refine h (lT L s.heap) ?_ (λb l=>let ⟨o,e,_⟩:=(i b l).obj I;⟨o,t.mpr ⟨l,e⟩⟩) λS A E J=>?_
 ·refine⟨I.ok,I.os,I.bare,⟨I.base.keep,I.base.slot,λb o q n F=>jV (I.base.free b o q n F),I.base.there,λb xs q=>?_,λb o u q=>?_,λb W q=>?_⟩,I.loc,I.cell,jV I.free,λx c q=>jV (I.fO x c q),λp y=>?_,λb o q=>?_,I.len⟩
  ·have z:=I.base.qg b xs q
   rw[bM (λw=>(i b w).vP.1 _ z)];exact z
  ·have z:=I.base.pN b o u q
   rw[bM (λw=>(i b w).vP.2.1 _ _ z)];exact z
  ·obtain⟨m,z⟩:=I.base.qf b W q
   exact⟨m,by rw[bM (λw=>(i b w).vP.2.2.1 _ z)];exact z⟩
  ·rw[<- Ph] at y
   rcases O3.mp y with z|z
   ·obtain⟨R,U,Z,T,Y⟩:=I.pin p z
    exact⟨R,jV U,Z,T,Y⟩
   ·obtain⟨B,O⟩:=nN z
    obtain⟨o,e⟩:=(i p.1 B).there
    refine⟨O,cg B,λw=>?_,(I.CG e).1,λv q=>?_⟩
    ·have f:=I.free
     rw[<- w,e] at f
     cases f
    ·obtain⟨ob,N,nc⟩:=(i p.1 B).obj I
     rw[O] at N
     cases N
     exact nc v q
  ·obtain⟨l,q⟩:=nC q
   refine(I.bJ b o q).qe (λ_ _ _ z=>z) (λc j=>?_) (λc xs j=>?_)
   ·rw[bM (λw=>l ((i c w).vP.2.2.2 _ j))];exact j
   ·rw[bM (λw=>(i c w).vP.1 _ j)];exact j
 ·have g:∀b∈L,A b=none/\∀o,s.heap.get? b=some o->E.heap.get? b=some o:=λb l=>by
   obtain⟨o,e,_⟩:=(i b l).obj I
   obtain⟨g1,g2,_⟩:=J.pin (b,o) (O8 _ (O8 _ (t.mpr ⟨l,e⟩)))
   exact⟨g2,λM e'=>by rw[e] at e';cases e';exact g1⟩
  refine⟨λb l=>(g b l).1,⟨J.ok,J.os,J.bare,⟨J.base.keep,J.base.slot,λb o q n F=>?_,J.base.there,λb xs q=>?_,λb o u q=>?_,λb W q=>?_⟩,J.loc,J.cell,?_,λx c q=>?_,λp y=>?_,λb o q=>?_,J.len⟩⟩
  ·rw[aX (λw=>let ⟨M,e⟩:=(i b w).there;(I.CG e).2.1 b o q n F rfl)]
   exact J.base.free b o q n F
  ·have z:=J.base.qg b xs q
   rw[aX (λw=>by rw[(g b w).1] at z;cases z)];exact z
  ·have z:=J.base.pN b o u q
   rw[aX (λw=>by rw[(g b w).1] at z;cases z)];exact z
  ·obtain⟨m,z⟩:=J.base.qf b W q
   exact⟨m,by rw[aX (λw=>by rw[(g b w).1] at z;cases z)];exact z⟩
  ·rw[aX (λw=>let ⟨M,e⟩:=(i _ w).there;by rw[I.free] at e;cases e)]
   exact J.free
  ·rw[aX (λw=>let ⟨M,e⟩:=(i _ w).there;by rw[I.fO x c q] at e;cases e)]
   exact J.fO x c q
  ·obtain⟨R,U,Z,T,Y⟩:=J.pin p (by rw[<- Ph];exact Pn _ y)
   refine⟨R,?_,Z,T,Y⟩
   rw[aX (λw=>let ⟨M,e⟩:=(i _ w).there;(I.CG e).2.2.1 p y rfl)]
   exact U
  ·by_cases l:b∈L
   ·rw[ag l] at q
    have k:=(g b l).2
    have w:=i b l
    cases w with
    |lst xs h =>
     rw[h] at q;cases q
     obtain⟨hz,P,n,hv,ho⟩:=(show bI X.prog X.w H s.heap b (.lst xs) from I.bJ b _ h)
     exact⟨hz,P,n,hv,k _ ho⟩
    |dK Q h =>
     rw[h] at q;cases q
     obtain⟨B,O,vs,hv,ob,es,ep,e,c⟩:=(show bI X.prog X.w H s.heap b (.dK Q) from I.bJ b _ h)
     exact⟨B,O,vs,hv,ob,es,ep,k _ e,c⟩
    |ext φ h j =>
     rw[h] at q;cases q
     obtain⟨y,⟨o,e⟩,cl⟩:=(show bI X.prog X.w H s.heap b (.ext φ) from I.bJ b _ h)
     exact⟨cl _ _ y k,⟨o,k _ e⟩,cl⟩
    |ins C dx fs h hd =>
     rw[h] at q;cases q
     obtain⟨d,z,ne,ea,mA,⟨od,es,ep,N,c⟩,r⟩:=(show bI X.prog X.w H s.heap b (.ins C dx fs) from I.bJ b _ h)
     exact⟨by rw[ag hd];exact d,z,ne,k _ ea,mA,⟨od,es,ep,(g dx hd).2 _ N,c⟩,r⟩
    |own C a fs h ha hi =>
     rw[h] at q;cases q
     obtain⟨o,e⟩:=(show bI X.prog X.w H s.heap b (.own a) from I.bJ b _ h)
     exact⟨o,k _ e⟩
   ·rw[aX l] at q
    refine(J.bJ b o q).qe (λ_ _ _ z=>z) (λc j=>?_) (λc xs j=>?_)
    ·rw[aX (λw=>by rw[(g c w).1] at j;cases j)];exact j
    ·rw[aX (λw=>by rw[(g c w).1] at j;cases j)];exact j
end
section
variable {X:Cx}{e:Expr}{te:TE}{tt:TT}{st:Stmt}{ts:TS}{tg iter:Expr}{wi:TI}
def OY(f:TE):TE:=λσ H Q=>∃L,(∀a∈L,df H L a)/\f σ (af H L) λy c=>(∀b∈L,c b=none)->Q y (aW c H L)
def gH(he:PE X e te):PE X e (OY te):=by
 intro a s σ H Q I ⟨L,hL,q⟩
 refine lM I hL λpl f _ b=>?_
 refine bH (he (a++pl) s σ _ _ f q) ?_;rintro v g ⟨y,h,c,r,k⟩
 obtain⟨z,J⟩:=b _ _ _ c
 exact⟨y,_,J,r,k z⟩
def Ob(tt:TT):TT:=λσ H Q=>∃L,(∀a∈L,df H L a)/\tt σ (af H L) λy c=>(∀b∈L,c b=none)->Q y (aW c H L)
def sD(D:Ends)(H:Hp)(L:List Addr):Ends:=⟨λc a=>(∀b∈L,a b=none)->D.nx c (aW a H L),λv a=>(∀b∈L,a b=none)->D.rt v (aW a H L),
 λc a=>(∀b∈L,a b=none)->D.bk c (aW a H L),λc a=>(∀b∈L,a b=none)->D.ct c (aW a H L)⟩
def M7(ts:TS):TS:=λD σ H=>∃L,(∀a∈L,df H L a)/\ts (sD D H L) σ (af H L)
def yk{a pl:List (Addr × Obj)}{D:Ends}{H:Hp}{L:List Addr}{f:Flow}{m:Shared}(c:∀(g:St) (h:Hp) (l:Shared),Inv X (a++pl) g h l->(∀b∈L,h b=none)/\Inv X a g (aW h H L) l)
  (j:SP X (a++pl) (sD D H L) f m):SP X a D f m:=by
 cases f with
 |next=>obtain⟨g,h,J,k⟩:=j;obtain⟨z,i⟩:=c _ _ _ J;exact⟨g,_,i,k z⟩
 |brk=>obtain⟨g,h,J,k⟩:=j;obtain⟨z,i⟩:=c _ _ _ J;exact⟨g,_,i,k z⟩
 |cont=>obtain⟨g,h,J,k⟩:=j;obtain⟨z,i⟩:=c _ _ _ J;exact⟨g,_,i,k z⟩
 |ret u=>obtain⟨v,g,h,J,r,k⟩:=j;obtain⟨z,i⟩:=c _ _ _ J;exact⟨v,g,_,i,r,k z⟩
def Ci(he:PS X st ts):PS X st (M7 ts):=by
 intro a s σ H D I ⟨L,hL,q⟩
 refine lM I hL λpl g _ b=>?_
 exact bH (he (a++pl) s σ _ _ g q) λf h c=>yk b c
def Fe{a:List Stmt}(he:lg X a ts):lg X a (M7 ts):=by
 intro c s σ H D I ⟨L,hL,q⟩
 refine lM I hL λpl h _ b=>?_
 exact bH (he (c++pl) s σ _ _ h q) λf i g=>yk b g
def Oa(wi:TI):TI:=λσ H R=>∃L,(∀a∈L,df H L a)/\wi σ (af H L) λJ c=>(∀b∈L,c b=none)->R J (aW c H L)
def JV(he:PI X tg iter wi):PI X tg iter (Oa wi):=by
 intro a s σ H R I ⟨L,hL,q⟩
 refine lM I hL λpl G hpl c=>?_
 refine bH (he (a++pl) s σ _ _ G q) λv P h1=>bH h1 ?_;rintro j O ⟨y,h,C,J,N,B,u,T,A,g,k⟩
 obtain⟨z,n⟩:=c _ _ _ u
 have M:∀b∈h,b∉L:=λb f x=>let ⟨o,F⟩:=hpl b x;(g b f).2.2.2.2.2 (b,o) (O8 _ (O8 _ F)) rfl
 refine⟨y,h,C,J,_,B,n,T,A,λb f=>?_,k z⟩
 obtain⟨i,l,r,t,m,w⟩:=g b f
 exact⟨by rw[aX (M b f)];exact i,l,r,t,m,λp E=>w p (by rw[<- Ph];exact Pn _ E)⟩
end
def uu{H:Hp}{a:Addr}:af H [a]=del H a:=by
 funext b
 by_cases h:b=a
 ·rw[h,cg D',BE]
 ·rw[bM (λz=>h (O6.mp z)),pH h]
def rP{H c:Hp}{a:Addr}{o:HO}(e:H a=some o):aW c H [a]=upd c a o:=by
 funext b
 by_cases h:b=a
 ·rw[h,ag D',aI,e]
 ·rw[aX (λz=>h (O6.mp z)),aL h]
def uv{H:Hp}{a c:Addr}:af H [a,c]=dg H a c:=by
 funext b
 unfold af dg
 simp
def rQ{H f:Hp}{a c C:Addr}{fs:List (Str × V)}(i:H a=some (.ins C c fs))(g:H c=some (.own a)):aW f H [a,c]=shown f a c C fs:=by
 funext b
 unfold shown
 by_cases h:b=a
 ·rw[h,ag D',aI,i]
 ·rw[aL h]
  by_cases e:b=c
  ·rw[e,ag (O5 _ D'),aI,g]
  ·rw[aX (λz=>by simp at z;exact z.elim h e),aL e]
section
variable {X:Cx}{e:Expr}{te:TE}{tt:TT}{st:Stmt}{ts:TS}
def nP(he:PE X e te):PE X e (xY te):=fun b s σ H Q I ⟨D,ys,c,q⟩ =>
 gH he b s σ H Q I ⟨[D],λa f=>by rw[O6.mp f];exact .lst ys c,by rw[uu];simpa only[rP c,O6,forall_eq] using q⟩
def Fg{a:List Expr}(he:xu X a tt):xu X a (Ob tt):=by
 intro b s σ H Q I ⟨L,hL,q⟩
 refine lM I hL λpl g _ c=>?_
 refine bH (he (b++pl) s σ _ _ g q) ?_;rintro v h ⟨i,f,k⟩
 obtain⟨z,J⟩:=c _ _ _ f
 exact⟨_,J,k z⟩
def lU{b:List Expr}(he:xu X b tt):xu X b (xj tt):=fun c s σ H Q I ⟨D,ys,f,q⟩ =>
 Fg he c s σ H Q I ⟨[D],λa g=>by rw[O6.mp g];exact .lst ys f,by rw[uu];simpa only[rP f,O6,forall_eq] using q⟩
def DS{f:List (Addr × Obj)}{σ:St}{H:Hp}{s:Shared}{a c C:Addr}{fs:List (Str × V)}(I:Inv X f σ H s)(g:H a=some (.ins C c fs)):H c=some (.own a)/\c≠a/\∀b∈[a,c],df H [a,c] b:=by
 obtain⟨d,_,ne,_⟩:=(show bI X.prog X.w H s.heap a (.ins C c fs) from I.bJ a _ g)
 refine⟨d,ne,λb hb=>?_⟩
 rcases B'.mp hb with rfl|hb
 ·exact .ins C c fs g (by simp)
 ·rw[O6.mp hb];exact .own C a fs d (by simp) g
def xM(he:PE X e te):PE X e (F9 te):=fun f s σ H Q I ⟨a,c,C,fs,g,q⟩=>by
 obtain⟨d,ne,ok⟩:=DS I g
 refine gH he f s σ H Q I ⟨[a,c],ok,?_⟩
 rw[uv]
 simp only[rQ g d,B',C',or_false,forall_eq_or_imp,forall_eq]
 exact(show(λy b=>b a=none->b c=none->c≠a->Q y (shown b a c C fs))=λy b=>b a=none/\b c=none->Q y (shown b a c C fs) by funext y b;simp[ne]) ▸ q
def xP(he:PS X st ts):PS X st (Fq ts):=fun f s σ H D I ⟨a,c,C,fs,h,q⟩=>by
 obtain⟨d,ne,ok⟩:=DS I h
 refine Ci he f s σ H D I ⟨[a,c],ok,?_⟩
 rw[uv]
 have e:sD D H [a,c]=⟨λg b=>b a=none->b c=none->c≠a->D.nx g (shown b a c C fs),λv b=>b a=none->b c=none->c≠a->D.rt v (shown b a c C fs),
  λg b=>b a=none->b c=none->c≠a->D.bk g (shown b a c C fs),λg b=>b a=none->b c=none->c≠a->D.ct g (shown b a c C fs)⟩:=by
  unfold sD
  simp[rQ h d,ne]
 rw[e]
 exact q
end
section
variable {prog:O0}{w:World}{A:Around}{E:Value->Shared->Prop}{s:Shared}
def Ds(prog:O0)(w:World)(A:Around)(s:Shared)(u v:Value)(b:Bool):Prop:=∀(E:Value->Shared->Prop) (Q:Bool->Shared->Prop),Q b s->wpAny (model prog w) A (eqBool u v) Q E s
def Quiet(prog:O0)(w:World)(A:Around)(s:Shared)(v:Value):Prop:=∀(E:Value->Shared->Prop) (Q:Bool->Shared->Prop),Q true s->wpAny (model prog w) A (eqIsQuiet 8 v) Q E s
def xD{b:Value}{vs:List Value}{Q:Bool->Shared->Prop}(f:Quiet prog w A s b)(c:∀v∈vs,Quiet prog w A s v)(q:Q false s):wpAny (model prog w) A (tableMayTell b vs) Q E s:=by
 unfold tableMayTell
 split
 ·exact wpAny_pure q
 refine wpAny_bind (f _ _ ?_)
 simp only[RV,Po,if_false]
 refine wpAny_bind (wpAny_forIn_list _ (λa r z=>z=s/\r=(none,())/\∀v∈a,Quiet prog w A s v) _ ?_ ?_ _ _ ⟨rfl,rfl,c⟩)
 ·rintro x a r z ⟨rfl,rfl,e⟩
  refine wpAny_bind (e x D' _ _ ?_)
  simp only[RV,Po,if_false]
  exact wpAny_pure ⟨rfl,rfl,λv c=>e v (O5 _ c)⟩
 ·rintro r z ⟨rfl,rfl,_⟩
  exact wpAny_pure q
def DM{α:Type}{c:Prop} [Decidable c] {a:Value} {vs:List Value} {F:Bool->Sem α} {Q:α->Shared->Prop} (b:Quiet prog w A s a) (e:∀v∈vs,Quiet prog w A s v) (q:wpAny (model prog w) A (F false) Q E s) :
  wpAny (model prog w) A (if c then(do let t <- pure false;F t) else(do let t <- tableMayTell a vs;F t)) Q E s:=by
 split
 ·exact wpAny_bind (wpAny_pure q)
 ·exact wpAny_bind (xD b e q)
abbrev ia(es:Array Pj)(h:Int):List Nat:=UL es.size (λi=>es[i]?.map (·.hash)) h
abbrev keysAt(es:Array Pj)(h:Int):List Value:=(ia es h).filterMap λi=>es[i]?.map (·.key)
def gU{es:Array Pj}{h:Int}{i:Nat}:i∈ia es h ↔ ∃e,es[i]?=some e/\e.hash=h:=by
 unfold ia UL
 rw[TX,Rk]
 constructor
 ·rintro⟨h1,a⟩
  refine⟨es[i],QF h1,?_⟩
  have a:(es[i]?.map (·.hash) == some h)=true:=a
  rw[QF h1] at a
  simpa using a
 ·rintro⟨e,h1,a⟩
  refine⟨(Qz.mp h1).1,?_⟩
  show(es[i]?.map (·.hash) == some h)=true
  rw[h1]
  simp[a]
def xO(es:Array Pj)(h:Int):(ia es h).Nodup:=by
 unfold ia UL
 exact XU List.filter_sublist VC
def uj{d:Addr}{o:Obj}{es:Array Pj}{ep:Nat}{f:Value}{h:Int}{same:Nat->Bool}{Q:Option Nat->Shared->Prop}(M:s.heap.get? d=some o)(L:o.data=.dict es ep)
    (y:(∃a,f=.ref a/\(es.any λe=>e.key == f&&e.hash != h)=false)\/∃x t,f=.str x t/\(es.all λe=>isExactStrKey e.key)=false)(W:((f::keysAt es h).all UM)=false)
    (S:Quiet prog w A s f)(U:∀v∈keysAt es h,Quiet prog w A s v)(he:∀i e,es[i]?=some e->e.hash=h->Ds prog w A s e.key f (same i))(T:∀i∈ia es h,∀j∈ia es h,same i=true->same j=true->i=j)
    (r:(∀i∈ia es h,same i=false)->Q none s)(m:∀i∈ia es h,same i=true->Q (some i) s):wpAny (model prog w) A (dictFind d f h) Q E s:=by
  have I:¬ ((f::keysAt es h).all UM)=true:=by rw[W];exact A'
  have R:=xO es h
  unfold dictFind
  try with_reducible refine wpAny_holding ?_
  refine wpAny_bind (wpAny_dictEntries M L ?_)
  rcases y with⟨a,O,h1⟩|⟨x,t,O,h1⟩<;>subst O<;>dsimp only<;>(try rw[if_neg (show¬(es.all λe=>isExactStrKey e.key)=true by rw[h1];exact A')])<;>rw[if_neg I]<;>(try rw[if_neg (show¬(es.any λe=>e.key == F' a&&e.hash != h)=true by rw[h1];exact A')]) <;>
  (refine DM S U ?_
   (
    rw[if_neg (by simp)]
    refine wpAny_bind (wpAny_forIn_list _ (λl b z=>z=s/\∃c g,b=(none,g)/\ia es h=c++l/\((g=none/\∀i∈c,same i=false)\/∃j∈c,g=some j/\same j=true)) _ ?_ ?_ _ _ ⟨rfl,[],none,rfl,rfl,.inl ⟨rfl,λi hi=>nomatch hi⟩⟩)
    · rintro x l b z ⟨rfl,c,g,rfl,p,C⟩
      have J:x∈ia es h:=by rw[p];exact O8 _ D'
      obtain⟨e,N,P⟩:=gU.mp J
      have B:ia es h=(c++[x])++l:=by rw[p,Ph];rfl
      have G:∀j∈c,j∈ia es h:=λj n=>by rw[p];exact Pn _ n
      rw[N]
      dsimp only
      rw[if_pos (show(e.hash == h)=true by simp[P])]
      refine wpAny_bind (wpAny_dictEpoch M L (wpAny_bind (he x e N P _ _ (wpAny_bind (wpAny_dictEpoch M L ?_)))))
      rw[if_neg (by simp)]
      cases hsx:same x with
      |true =>
        rw[if_pos rfl]
        rcases C with⟨rfl,u⟩|⟨j,n,rfl,q⟩
        · simp only[Option.isSome_none,Po,if_false]
          refine wpAny_bind (wpAny_rule ?_)
          split
          · exact wpAny_pure (wpAny_pure (m x J hsx))
          · exact wpAny_pure ⟨rfl,c++[x],some x,rfl,B,.inr ⟨x,O8 _ D',rfl,hsx⟩⟩
        · exfalso
          have:=T j (G j n) x J q hsx
          subst this
          rw[p,QP] at R
          exact R.2.2 j n j D' rfl
      |false =>
        rw[if_neg A']
        refine wpAny_bind (wpAny_rule ?_)
        rw[if_neg (by simp)]
        refine wpAny_pure ⟨rfl,c++[x],g,rfl,B,C.imp (fun⟨F,H⟩=>⟨F,λi hi=>?_⟩) fun⟨j,n,F,H⟩=>⟨j,Pn _ n,F,H⟩⟩
        rcases O3.mp hi with hi|hi
        · exact H i hi
        · rw[O6.mp hi];exact hsx
    · rintro b z ⟨rfl,c,g,rfl,p,C⟩
      rw[Pf] at p
      rcases C with⟨rfl,u⟩|⟨j,n,rfl,q⟩
      · exact wpAny_pure (r λi hi=>u i (p ▸ hi))
      · exact wpAny_pure (m j (p ▸ n) q)))
end
end L2
namespace DC
inductive D where
 |ah|bl (b:Bool)|int (i:Int)|str (x:Str)
 |lst (xs:List D)|tup (xs:List D)
 |obj (C:Addr) (fs:List (Str × D))
 |dK (kvs:List (Key × D))|dT (kvs:List (List Int × D))
 |adr (a:Addr)
 |exc (a C:Addr) (fs:List (Str × D))
def HQ(a C:Addr)(c:Option Addr):HO:=.ext λh=>∃b vs,h.get? a=some b/\b.cls=.ref C/\b.dict=c/\b.data=.fields vs/\vs[2]?=some .none
def My(d:Addr)(fs:List (Str × V)):HO:=.ext λh=>∃a,h.Ns1 d a/\(∀f,gN (fs.lookup f) (a f))/\SE a (fs.map (·.1))
def hT(k:List Int):Int:=reduceHash (WN (k.map hashInt))
abbrev XT:=List (List Int × Value × Value)
def xK:List Int:=[-1]
def dh(a:Int)(x:List Int × Value × Value):DictEntry:={ hash:=if x.1=xK then a else hT x.1,key:=x.2.1,val:=x.2.2 }
def iI(a:Addr)(xs:XT):HO:=.ext λh=>(xs.map (·.1)).Nodup/\xs.length<=sizeLine/\(a == Pm)=false/\∃b o es ep,h.get? a=some o/\o.ExactDict/\o.data=.dict es ep/\es.toList=xs.map (dh b)
def Dj(K:j')(H:Hp)(v:Value)(k:List Int):Prop:=(k=xK/\∃t,v=.str "x" t)\/(k≠xK/\∃b,v=.ref b/\eY K H b (k.map V.int))
def xv(H:Hp)(a:Option Addr)(fs:List (Str × V)):Prop:=match a with
 |none=>fs=[]
 |some d=>Rd H d (My d fs)
def cj{H b:Hp}{a:Addr}{u:HO}(s:aK H b)(r:Rd H a u):Rd b a u:=by
 rcases r with r|⟨o,r⟩
 ·exact .inl (s _ _ r)
 ·exact .inr ⟨o,s _ _ r⟩
def xv.same{H b:Hp}{a:Option Addr}{fs:List (Str × V)}(s:aK H b)(h:xv H a fs):xv b a fs:=by
 cases a with
 |none=>exact h
 |some d=>exact cj s h
mutual
inductive Dv (K:j') (H:Hp):V->D->Prop
 |ah:Dv K H .ah .ah
 |bl (b:Bool):Dv K H (.bl b) (.bl b)
 |int (i:Int):Dv K H (.int i) (.int i)
 |str (x:Str):Dv K H (.str x) (.str x)
 |lst {a:Addr} {xs:List V} {ds:List D}:eX K H a xs->bZ K H xs ds->Dv K H (.ref a) (.lst ds)
 |tup {a:Addr} {xs:List V} {ds:List D}:eY K H a xs->bZ K H xs ds->Dv K H (.ref a) (.tup ds)
 |obj {a C dx:Addr} {fs:List (Str × V)} {gs:List (Str × D)}:Rd H a (.ins C dx fs)->ic K H fs gs->Dv K H (.ref a) (.obj C gs)
 |dK {a:Addr} {kvs:List (Key × V)} {gs:List (Key × D)}:Rd H a (.dK kvs)->de K H kvs gs->Dv K H (.ref a) (.dK gs)
 |dT {a:Addr} {xs:XT} {gs:List (List Int × D)}:Rd H a (iI a xs)->cO K H xs gs->Dv K H (.ref a) (.dT gs)
 |adr (a:Addr):Dv K H (.ref a) (.adr a)
 |exc {a C:Addr} {dx:Option Addr} {fs:List (Str × V)} {gs:List (Str × D)}:Rd H a (HQ a C dx)->xv H dx fs->ic K H fs gs->Dv K H (.ref a) (.exc a C gs)
inductive bZ (K:j') (H:Hp):List V->List D->Prop
 |nil:bZ K H [] []
 |cons {x:V} {d:D} {xs:List V} {ds:List D}:Dv K H x d->bZ K H xs ds->bZ K H (x::xs) (d::ds)
inductive ic (K:j') (H:Hp):List (Str × V)->List (Str × D)->Prop
 |nil:ic K H [] []
 |cons {k:Str} {x:V} {d:D} {xs:List (Str × V)} {ds:List (Str × D)}:Dv K H x d->ic K H xs ds->ic K H ((k,x)::xs) ((k,d)::ds)
inductive de (K:j') (H:Hp):List (Key × V)->List (Key × D)->Prop
 |nil:de K H [] []
 |cons {k:Key} {x:V} {d:D} {xs:List (Key × V)} {ds:List (Key × D)}:Dv K H x d->de K H xs ds->de K H ((k,x)::xs) ((k,d)::ds)
inductive cO (K:j') (H:Hp):XT->List (List Int × D)->Prop
 |nil:cO K H [] []
 |cons {k:List Int} {b u:Value} {x:V} {d:D} {xs:XT} {ds:List (List Int × D)}:Dj K H b k->RelV x u->Dv K H x d->cO K H xs ds->cO K H ((k,b,u)::xs) ((k,d)::ds)
end
def gW{K:j'}{H b:Hp}{a:Addr}{xs:List V}(e:aK H b)(h:eY K H a xs):eY K b a xs:=by
 rcases h with(h|⟨o,h⟩)|h
 ·exact .inl (.inl (e _ _ h))
 ·exact .inl (.inr ⟨o,e _ _ h⟩)
 ·exact .inr h
def Dj.same{K:j'}{H a:Hp}{v:Value}{k:List Int}(e:aK H a)(h:Dj K H v k):Dj K a v k:=h.imp id fun⟨n,b,c,h⟩=>⟨n,b,c,gW e h⟩
section
variable {K:j'}{H H':Hp}
mutual
def Dv.same(s:aK H H'):∀{v:V} {d:D},Dv K H v d->Dv K H' v d
 |_,_,.ah=>.ah
 |_,_,.bl b=>.bl b
 |_,_,.int i=>.int i
 |_,_,.str x=>.str x
 |_,_,.lst h1 c=>.lst (s.seq h1) (bZ.same s c)
 |_,_,.tup h1 c=>.tup (gW s h1) (bZ.same s c)
 |_,_,.obj h1 c=>.obj (cj s h1) (ic.same s c)
 |_,_,.dK h1 c=>.dK (cj s h1) (de.same s c)
 |_,_,.dT h1 c=>.dT (cj s h1) (cO.same s c)
 |_,_,.adr a=>.adr a
 |_,_,.exc h1 c e=>.exc (cj s h1) (c.same s) (ic.same s e)
def bZ.same(s:aK H H'):∀{vs:List V} {ds:List D},bZ K H vs ds->bZ K H' vs ds
 |_,_,.nil=>.nil
 |_,_,.cons h1 a=>.cons (Dv.same s h1) (bZ.same s a)
def ic.same(s:aK H H'):∀{vs:List (Str × V)} {ds:List (Str × D)},ic K H vs ds->ic K H' vs ds
 |_,_,.nil=>.nil
 |_,_,.cons h1 a=>.cons (Dv.same s h1) (ic.same s a)
def de.same(s:aK H H'):∀{vs:List (Key × V)} {ds:List (Key × D)},de K H vs ds->de K H' vs ds
 |_,_,.nil=>.nil
 |_,_,.cons h1 a=>.cons (Dv.same s h1) (de.same s a)
def cO.same(s:aK H H'):∀{vs:XT} {ds:List (List Int × D)},cO K H vs ds->cO K H' vs ds
 |_,_,.nil=>.nil
 |_,_,.cons a b h1 c=>.cons (a.same s) b (Dv.same s h1) (cO.same s c)
end
def bZ.length:∀{vs:List V} {ds:List D},bZ K H vs ds->vs.length=ds.length
 |_,_,.nil=>rfl
 |_,_,.cons _ h=>congrArg (·+1) (bZ.length h)
def bZ.get:∀{vs:List V} {ds:List D} {i:Nat} {d:D},bZ K H vs ds->ds[i]?=some d->∃v,vs[i]?=some v/\Dv K H v d
 |_,_,_,_,.nil,e=>by simp at e
 |_,_,0,_,.cons h _,e=>by simp at e;subst e;exact⟨_,rfl,h⟩
 |_,_,i+1,d,.cons _ h,e=>by
  obtain⟨v,h1,a⟩:=bZ.get (i:=i) (d:=d) h (by simpa using e)
  exact⟨v,by simpa using h1,a⟩
def bZ.we:∀{vs:List V} {ds:List D} {i:Nat} {v:V},bZ K H vs ds->vs[i]?=some v->∃d,ds[i]?=some d/\Dv K H v d
 |_,_,_,_,.nil,e=>by simp at e
 |_,_,0,_,.cons h _,e=>by simp at e;subst e;exact⟨_,rfl,h⟩
 |_,_,i+1,v,.cons _ h,e=>by
  obtain⟨d,h1,a⟩:=bZ.we (i:=i) (v:=v) h (by simpa using e)
  exact⟨d,by simpa using h1,a⟩
def bZ.append:∀{vs b:List V} {ds es:List D},bZ K H vs ds->bZ K H b es->bZ K H (vs++b) (ds++es)
 |_,_,_,_,.nil,h=>h
 |_,_,_,_,.cons a r,h=>.cons a (bZ.append r h)
def bZ.take:∀{vs:List V} {ds:List D} (n:Nat),bZ K H vs ds->bZ K H (vs.take n) (ds.take n)
 |_,_,0,_=>.nil
 |_,_,_+1,.nil=>.nil
 |_,_,n+1,.cons r t=>.cons r (bZ.take n t)
def bZ.drop:∀{vs:List V} {ds:List D} (n:Nat),bZ K H vs ds->bZ K H (vs.drop n) (ds.drop n)
 |_,_,0,r=>r
 |_,_,_+1,.nil=>.nil
 |_,_,n+1,.cons _ t=>bZ.drop n t
def ic.look:∀{fs:List (Str × V)} {a:List (Str × D)} {f:Str} {d:D},ic K H fs a->a.lookup f=some d->∃v,fs.lookup f=some v/\Dv K H v d
 |_,_,_,_,.nil,e=>by simp at e
 |_,_,f,d,.cons (k:=k) h r,e=>by
  rw[PV] at e ⊢
  cases q:f == k with
  |true =>
   rw[q] at e
   cases e
   exact⟨_,rfl,h⟩
  |false =>
   rw[q] at e
   exact ic.look r e
def ic.none:∀{fs:List (Str × V)} {a:List (Str × D)} {f:Str},ic K H fs a->a.lookup f=UI->fs.lookup f=UI
 |_,_,_,.nil,_=>rfl
 |_,_,f,.cons (k:=k) h r,e=>by
  rw[PV] at e ⊢
  cases q:f == k with
  |true=>rw[q] at e;cases e
  |false =>
   rw[q] at e
   exact ic.none r e
end
section
variable {X:Cx}{pins:List (Addr × Obj)}{σ:L2.St}{H:Hp}{s:Shared}{a C dx:Addr}{fs:List (Str × V)}{f:Str}{v:V}{A:Around}{E:Value->Shared->Prop}
def pT{P:O0}{w:World}{h:Heap}(c:kN P w H h)(e:Rd H a (.ins C dx fs)):∃b,uN h a dx C b/\(∀f,gN (fs.lookup f) (b f))/\SE b (fs.map (·.1))/\fs.length<=1000/\H dx=some (.own a):=by
 obtain⟨d,z,ne,ob,b,n,r,q⟩:=(show bI P w H h a (.ins C dx fs) from e.ok c)
 exact⟨b,⟨ob,n,ne⟩,r,q,z,d⟩
def uo{b:Bool}{Q:Value->Shared->Prop}(I:Inv X pins σ H s)(e:Rd H a (.ins C dx fs))(c:uI X.K C)(n:eO X.K C f)(l:fs.lookup f=some v)
  (h:∀u i,Inv X pins σ H i->RelV v u->Q u i):wpAny (model X.prog X.w) A (getAttr (.ref a) f b) Q E s:=by
 obtain⟨j,O,r,_,_,_⟩:=pT I.bJ e
 obtain⟨u,m,g⟩:=gN.some_of (v:=v) (o:=j f) (by rw[<- l];exact r f)
 exact get_map I.qx O (c.get f) c.hd n m (zS g) (h u _ (I.tok _) g)
def iu{m:Str}{g:Addr}{pl:Sem Bool}{Q:Value × List Value->Shared->Prop}(I:Inv X pins σ H s)(e:Rd H a (.ins C dx fs))(c:uI X.K C)(k:Meth X.K C m g)(l:fs.lookup m=none)
  (h:Q (.ref g,[.ref a]) s):wpAny (model X.prog X.w) A (getMethod (.ref a) m pl) Q E s:=by
 obtain⟨b,O,r,_,_,_⟩:=pT I.bJ e
 have i:b m=none:=gN.none_of (by rw[<- l];exact r m)
 exact Bc I.qx O (c.get m) k.at_ k.fn i h
def L_(K:j')(e:TE)(f:Str):TE:=λσ H Q=>e σ H λx b=>∃a C c fs v,x=.ref a/\Rd b a (.ins C c fs)/\uI K C/\eO K C f/\fs.lookup f=some v/\Q v b
def FN{e:Expr}{g:TE}{pos:Pos}(he:PE X e g)(m:Qe e f X.env (eval e X.env)=eval e X.env):PE X (.Attribute e f pos) (L_ X.K g f):=by
 intro b s σ H Q I h
 refine D3 m (bH (he b s σ H _ I h) ?_);rintro u y ⟨x,r,o,t,a,C,z,fs,v,w,p,c,n,l,q⟩
 subst w
 obtain rfl:u=F' a:=t
 exact uo o p c n l λF B j i=>⟨v,r,j,i,q⟩
end
abbrev SD:=List (Option D)
abbrev ED:=SD->(D->Prop)->Prop
abbrev TD:=SD->(Bool->Prop)->Prop
abbrev AD:=SD->(List D->Prop)->Prop
structure cE (K:j') (H:Hp) (σ:L2.St) (δ:SD):Prop where
 len:σ.length=δ.length
 get:∀(i:Nat) (d:D),δ[i]?=some (some d)->∃v,σ[i]?=some (some v)/\Dv K H v d
def cE.same{K:j'}{H a:Hp}{σ:L2.St}{δ:SD}(r:cE K H σ δ)(s:aK H a):cE K a σ δ :=
 ⟨r.len,λi d h=>let ⟨v,h1,b⟩:=r.get i d h;⟨v,h1,b.same s⟩⟩
def cE.set{K:j'}{H:Hp}{σ:L2.St}{δ:SD}(r:cE K H σ δ){v:V}{d:D}(i:Nat)(h:Dv K H v d):cE K H (σ.set i (some v)) (δ.set i (some d)):=by
 refine⟨by rw[VM,VM];exact r.len,λj e a=>?_⟩
 rw[U1] at a ⊢
 split at a
 ·rename_i q
  subst q
  have b:=r.len
  split at a
  ·rename_i c
   cases a
   exact⟨v,by rw[if_pos rfl,if_pos (by omega)],h⟩
  ·cases a
 ·rename_i q
  rw[if_neg q]
  exact r.get j e a
def kD(K:j')(H:Hp)(Q:VK):D->Prop:=λd=>∀v a,aK H a->Dv K a v d->Q v a
def kB(H:Hp)(Q:Bool->Hp->Prop):Bool->Prop:=λb=>∀a,aK H a->Q b a
def kA(K:j')(H:Hp)(Q:List V->Hp->Prop):List D->Prop:=λds=>∀vs a,aK H a->bZ K a vs ds->Q vs a
def kD.on{K:j'}{H a:Hp}{Q:VK}{d:D}(s:aK H a)(h:kD K H Q d):kD K a Q d:=λv c b dv=>h v c (s.trans b) dv
def kB.on{H a:Hp}{Q:Bool->Hp->Prop}{b:Bool}(s:aK H a)(h:kB H Q b):kB a Q b:=λe c=>h e (s.trans c)
def oE(K:j')(t:ED):TE:=λσ H Q=>∃ δ,cE K H σ δ/\t δ (kD K H Q)
def oT(K:j')(t:TD):TT:=λσ H Q=>∃ δ,cE K H σ δ/\t δ (kB H Q)
def oA(K:j')(t:AD):TA:=λσ H Q=>∃ δ,cE K H σ δ/\t δ (kA K H Q)
abbrev bP(t:ED):Prop:=∀ δ (P a:D->Prop),(∀d,P d->a d)->t δ P->t δ a
structure PD (X:Cx) (e:Expr) (t:ED):Prop where
 pe:PE X e (oE X.K t)
 mono:bP t
structure kO (X:Cx) (e:Expr) (t:TD):Prop where
 pt:PT X e (oT X.K t)
 mono:∀ δ (P P':Bool->Prop),(∀d,P d->P' d)->t δ P->t δ P'
structure o_ (X:Cx) (e:Expr) (t:TD):Prop where
 pw:PW X e (oT X.K t)
 mono:∀ δ (P P':Bool->Prop),(∀d,P d->P' d)->t δ P->t δ P'
structure nh (X:Cx) (es:List Expr) (t:AD):Prop where
 pa:PA X es (oA X.K t)
 mono:∀ δ (P P':List D->Prop),(∀d,P d->P' d)->t δ P->t δ P'
def PT.imp{X:Cx}{e:Expr}{t t':TT}(h:PT X e t)(f:∀ σ H Q,t' σ H Q->t σ H Q):PT X e t':=λa s σ H Q I q=>h a s σ H Q I (f σ H Q q)
def PW.imp{X:Cx}{e:Expr}{t t':TT}(h:PW X e t)(f:∀ σ H Q,t' σ H Q->t σ H Q):PW X e t':=λb a s σ H Q I q=>h b a s σ H Q I (f σ H Q q)
def PA.imp{X:Cx}{es:List Expr}{t t':TA}(h:PA X es t)(f:∀ σ H Q,t' σ H Q->t σ H Q):PA X es t':=λp a s σ H Q I q=>h p a s σ H Q I (f σ H Q q)
section
variable {X:Cx}{e a b c:Expr}{es rest:List Expr}{pos:Pos}{ta tb tc:ED}
def au(i:Nat):ED:=λδ Q=>∃d,δ[i]?=some (some d)/\Q d
def vC(d:D):ED:=λ_ Q=>Q d
def M5{i:Nat}(h:PE X e (Jz i)):PD X e (au i) :=
 ⟨h.imp fun σ H Q ⟨δ,r,d,g,k⟩=>let ⟨v,j,dv⟩:=r.get i d g;⟨v,j,k v H (aK.refl _) dv⟩,fun δ P l f ⟨d,g,k⟩=>⟨d,g,f d k⟩⟩
def dv(i:Nat){x:Str}{pos:Pos}(h:autoParam (X.N[i]?=some x) a9)(j:Dp X.env.scope x:=by first|exact PN rfl|exact Sk (PN rfl)|exact Sk (Sk rfl))(g:autoParam ((x == ("__debug__":Str))=false) b7)
  (f:autoParam ((x == ("__classdict__":Str))=false) b7):PD X (.Name x pos) (au i):=M5 (pv i h j g f)
def Kh{v:V}{d:D}(h:PE X e (tC v))(g:∀H,Dv X.K H v d):PD X e (vC d) :=
 ⟨h.imp fun σ H Q ⟨δ,r,k⟩=>k v H (aK.refl _) (g H),λδ P i f k=>f d k⟩
def aC{i j pos}:PD X (.Constant (.int i) j pos) (vC (.int i)):=Kh JN λ_=>.int i
def pG{i j pos}:PD X (.Constant (.bool i) j pos) (vC (.bl i)):=Kh Ld λ_=>.bl i
def aZ{i j pos}:PD X (.Constant (.str i) j pos) (vC (.str i)):=Kh tH λ_=>.str i
def Gh{j pos}:PD X (.Constant .none j pos) (vC .ah):=Kh JQ λ_=>.ah
def dH{x:Str}{v:V}{u:Value}{d:D}{pos:Pos}(i:Gl X x)(g:X.mg x=some u)(r:RelV v u)(f:∀H,Dv X.K H v d)(h:autoParam ((x == ("__debug__":Str))=false) b7):PD X (.Name x pos) (vC d):=Kh (FP i g r h) f
abbrev F2:=D->D->(D->Prop)->Prop
abbrev cz(f:F2):Prop:=∀d e (P g:D->Prop),(∀r,P r->g r)->f d e P->f d e g
def mz(f:F2)(h g:ED):ED:=λδ Q=>h δ λd=>g δ λe=>f d e Q
def fM(K:j')(r:R2)(f:F2):Prop:=∀H x y d e Q,Dv K H x d->Dv K H y e->f d e (kD K H Q)->r x y H Q
def uY{t:TE}{r:R2}{f:F2}(u:PE X e (Jy r (oE X.K ta) (oE X.K tb)))(n:bP ta)(l:bP tb)(s:fM X.K r f)(p:cz f):PD X e (mz f ta tb):=by
 refine⟨u.imp fun σ H Q ⟨δ,r,h⟩=>⟨δ,r,n _ _ _ (λd j v A m dv=>⟨δ,r.same m,l _ _ _ (λe he w q o x=>s q v w d e Q (dv.same o) x (p d e _ _ (λz hz=>hz.on (m.trans o)) he)) j⟩) h⟩,?_⟩
 exact λδ P y g h=>n _ _ _ (λd h'=>l _ _ _ (λe i=>p d e _ _ g i) h') h
def BB{op:Operator}{r:R2}{f:F2}(i:fc X (binaryOp op) r)(l:fM X.K r f)(j:cz f)(h:PD X a ta)(g:PD X b tb):PD X (.BinOp a op b pos) (mz f ta tb) :=
 uY (t:=oE X.K ta) (Lg i h.pe g.pe) h.mono g.mono l j
def kU{op:CmpOp}{r:R2}{f:F2}(i:fc X (compareOp op) r)(m:fM X.K r f)(j:cz f)(h:PD X a ta)(g:PD X b tb)(l:behindInMarks op b=false):PD X (.Compare a [op] [b] pos) (mz f ta tb) :=
 uY (t:=oE X.K ta) (FK i h.pe g.pe l) h.mono g.mono m j
end
section
variable {prog:O0}{w:World}{A:Around}{E:Value->Shared->Prop}{s:Shared}{d:Addr}{xs:XT}{k:List Int}{b:Addr}{u:Value}
abbrev tk(prog:O0)(w:World):=tupleKind (intKind prog w)
def lj(prog:O0)(w:World)(h:Heap)(v:Value)(k:List Int):Prop:=(k=xK/\∃t,v=.str "x" t)\/(k≠xK/\∃b,v=.ref b/\(tk prog w).is h k b)
structure iV (prog:O0) (w:World) (h:Heap) (d:Addr) (xs:XT):Prop where
 ex:∃hx o es ep,h.get? d=some o/\o.ExactDict/\o.data=.dict es ep/\es.toList=xs.map (dh hx)
 ky:∀x∈xs,lj prog w h x.2.1 x.1
 nd:(xs.map (·.1)).Nodup
def iV.typeIs(m:iV prog w s.heap d xs):s.TypeIs (.ref d) "dict":=let ⟨_,o,_,_,c,a,_⟩:=m.ex;⟨o,c,a.1⟩
def kJ(xs:XT)(k:List Int):Bool:=xs.any λx=>decide (x.1=k)
def ib(k:List Int)(u:Value)(x:List Int × Value × Value):List Int × Value × Value:=if x.1=k then(x.1,x.2.1,u) else x
def fH(xs:XT)(k:List Int)(v u:Value):XT:=if kJ xs k=true then xs.map (ib k u) else xs++[(k,v,u)]
def rN(x:Str)(t:Tok):Quiet prog w A s (.str x t):=λE Q q=>wpAny_pure q
def lj.quiet{v:Value}(h:lj prog w s.heap v k):Quiet prog w A s v:=by
 rcases h with⟨_,t,rfl⟩|⟨_,b,rfl,h⟩
 ·exact rN _ t
 ·exact λE Q q=>(tk prog w).quiet h q
def lj.keeps{h h':Heap}{v:Value}{o:Obj}{es:Array Pj}{ep:Nat}(x:lj prog w h v k)(a:h.get? d=some o)(f:o.data=.dict es ep)(c:Pl d h h'):lj prog w h' v k :=
 x.imp id fun⟨n,b,e,q⟩=>⟨n,b,e,(tk prog w).keeps q a f c⟩
def vn{h:Heap}(q:(tk prog w).is h k b):∃a,h.IsTuple b a:=let ⟨o,a,n,e,c,f,_⟩:=q;⟨a,o,e,c,n,f⟩
def lj.eqT{v:Value}{j:List Int}(a:A.units<cLine)(h:lj prog w s.heap v j)(e:(tk prog w).is s.heap k b)(f:k≠xK):Ds prog w A s v (.ref b) (decide (j=k)):=by
 rcases h with⟨rfl,t,rfl⟩|⟨_,c,rfl,h⟩
 ·obtain⟨g,q⟩:=vn e
  rw[decide_eq_false (QS f)]
  exact λE Q z=>XC _ t q a _ _ _ _ z
 ·exact λE Q z=>(tk prog w).eqBool a h e z
def pL{a:Int}{es:Array Pj}(he:es.toList=xs.map (dh a))(i:Nat):es[i]?=(xs[i]?).map (dh a):=by rw[<- QH,he,O7]
def G6(c:(xs.map (·.1)).Nodup){i j:Nat}{x y:List Int × Value × Value}(f:xs[i]?=some x)(a:xs[j]?=some y)(e:x.1=y.1):i=j:=by
 have h1:(xs.map (·.1))[i]?=some x.1:=by rw[O7,f];rfl
 have g:(xs.map (·.1))[j]?=some x.1:=by rw[O7,a,e];rfl
 exact(Sz (PJ.mp h1).1 c).mp (h1.trans g.symm)
def ET{i:Nat}{x:List Int × Value × Value}(a:xs[i]?=some x)(e:x.1=k):kJ xs k=true:=RS.mpr ⟨x,PY a,decide_eq_true e⟩
def yK(h:∀(i:Nat) x,xs[i]?=some x->x.1≠k):kJ xs k=false:=by
 cases q:kJ xs k with
 |false=>rfl
 |true =>
  obtain⟨x,c,e⟩:=RS.mp q
  obtain⟨i,a⟩:=SS.mp c
  exact absurd (of_decide_eq_true e) (h i x a)
def BX{r:Int}{o:Obj}{es:Array Pj}{ep:Nat}{Q:Option Nat->Shared->Prop}(M:A.units<cLine)(S:s.heap.get? d=some o)(R:o.data=.dict es ep)(he:es.toList=xs.map (dh r))(H:∀x∈xs,lj prog w s.heap x.2.1 x.1)(T:(xs.map (·.1)).Nodup)(C:(tk prog w).is s.heap k b)(L:k≠xK)
  (m:(∀(i:Nat) x,xs[i]?=some x->x.1≠k)->Q none s)(l:∀(i:Nat) x,xs[i]?=some x->x.1=k->Q (some i) s):wpAny (model prog w) A (dictFind d (.ref b) (hT k)) Q E s:=by
 have at_:∀{i:Nat} {e:Pj},es[i]?=some e->∃x,xs[i]?=some x/\e=dh r x:=fun{i e} h=>by
  rw[pL he] at h
  cases q:xs[i]? with
  |none=>rw[q] at h;cases h
  |some x=>rw[q] at h;exact⟨x,rfl,(Pq h).symm⟩
 have B:∀{v:Value},v∈keysAt es (hT k)->∃x∈xs,v=x.2.1:=fun{v} I=>by
  obtain⟨i,_,g⟩:=RH.mp I
  cases q:es[i]? with
  |none=>rw[q] at g;cases g
  |some e =>
   rw[q] at g
   obtain⟨x,a,rfl⟩:=at_ q
   exact⟨x,PY a,(Pq g).symm⟩
 have J:∀{i:Nat} {x},xs[i]?=some x->x.1=k->i∈ia es (hT k):=fun{i x} h e=>gU.mpr ⟨dh r x,by rw[pL he,h];rfl,by show(if x.1=xK then r else hT x.1)=hT k;rw[e,if_neg L]⟩
 refine uj (same:=λi=>match xs[i]? with|some x=>decide (x.1=k)|none=>false) S R (.inl ⟨b,rfl,?_⟩) rfl (λE Q q=>(tk prog w).quiet C q) (λv I=>?_) (λi e h1 F=>?_) (λi g j P h1 F=>?_) (λh=>m λi x a e=>?_) (λi g h=>?_)
 ·rw[<- Array.any_toList,he,V1]
  refine U3.mpr λx a=>?_
  rcases H x a with⟨_,t,e⟩|⟨n,c,e,h⟩
  ·show¬(x.2.1 == F' b&&_)=true
   rw[e]
   exact A'
  ·show¬(x.2.1 == F' b&&(if x.1=xK then r else hT x.1) != hT k)=true
   rw[e,if_neg n]
   intro z
   simp only[Pu,beq_iff_eq,bne_iff_ne,ne_eq,XZ] at z
   obtain⟨rfl,z⟩:=z
   exact z (by rw[(tk prog w).inj h C])
 ·obtain⟨x,a,rfl⟩:=B I
  exact(H x a).quiet
 ·obtain⟨x,a,rfl⟩:=at_ h1
  rw[a]
  exact(H x (PY a)).eqT M C L
 ·obtain⟨O,G,_⟩:=gU.mp g
  obtain⟨U,N,_⟩:=gU.mp P
  obtain⟨x,f,_⟩:=at_ G
  obtain⟨y,p,_⟩:=at_ N
  rw[f] at h1
  rw[p] at F
  exact G6 T f p ((of_decide_eq_true h1).trans (of_decide_eq_true F).symm)
 ·have:=h i (J a e)
  rw[a] at this
  exact absurd e (of_decide_eq_false this)
 ·obtain⟨O,G,_⟩:=gU.mp g
  obtain⟨x,f,_⟩:=at_ G
  rw[f] at h
  exact l i x f (of_decide_eq_true h)
def gB(xs:XT)(k:List Int)(v u:Value):(fH xs k v u).length<=xs.length+1:=by
 unfold fH
 split
 ·rw[G'];omega
 ·rw[O4];exact O2 _
def zh(xs:XT)(k:List Int)(u:Value):(xs.map (ib k u)).map (·.1)=xs.map (·.1):=by
 rw[Pe]
 refine QR λx _=>?_
 show(ib k u x).1=x.1
 unfold ib
 split<;>rfl
def rL{x:List Int × Value × Value}:(ib k u x).1=x.1/\(ib k u x).2.1=x.2.1:=by unfold ib;split<;>exact⟨rfl,rfl⟩
def E6{c:Int}(g:(xs.map (·.1)).Nodup){i:Nat}{x:List Int × Value × Value}(f:xs[i]?=some x)(e:x.1=k):(xs.map (dh c)).modify i (λe=>{ e with val:=u })=(xs.map (ib k u)).map (dh c):=by
 refine U2 λj=>?_
 rw[List.getElem?_modify,O7,Pe,O7]
 cases q:xs[j]? with
 |none=>rfl
 |some y =>
  show some (if i=j then{ dh c y with val:=u } else dh c y)=some (dh c (ib k u y))
  by_cases a:i=j
  ·subst a
   rw[f] at q
   cases q
   rw[if_pos rfl]
   unfold ib
   rw[if_pos e]
   rfl
  ·rw[if_neg a]
   unfold ib
   rw[if_neg (λz=>a (G6 g f q (e.trans z.symm)))]
def iV.put{h h':Heap}(j:lj prog w h' v k)(g:kJ xs k=false)(n:(xs.map (·.1)).Nodup)(l:∀x∈xs,lj prog w h' x.2.1 x.1)(q:∃f o es ep,h'.get? d=some o/\o.ExactDict/\o.data=.dict es ep/\es.toList=(xs++[(k,v,u)]).map (dh f)):iV prog w h' d (fH xs k v u):=by
 have e:fH xs k v u=xs++[(k,v,u)]:=by unfold fH;rw[if_neg (by rw[g];exact A')]
 rw[e]
 refine⟨q,λx f=>?_,?_⟩
 ·rcases O3.mp f with f|f
  ·exact l x f
  ·rw[O6.mp f];exact j
 ·rw[QB,QP]
  refine⟨n,by simp,λa p c i=>?_⟩
  rw[O1,QC,O6] at i
  subst i
  rintro rfl
  obtain⟨y,m,rfl⟩:=O_.mp p
  rw[show kJ xs y.1=true from RS.mpr ⟨y,m,decide_eq_true rfl⟩] at g
  cases g
def iV.NY{h':Heap}(c:kJ xs k=true)(f:(xs.map (·.1)).Nodup)(g:∀x∈xs,lj prog w h' x.2.1 x.1)(h:∃a o es ep,h'.get? d=some o/\o.ExactDict/\o.data=.dict es ep/\es.toList=(xs.map (ib k u)).map (dh a)):iV prog w h' d (fH xs k v u):=by
 have e:fH xs k v u=xs.map (ib k u):=by unfold fH;rw[if_pos c]
 rw[e]
 refine⟨h,λx a=>?_,by rw[zh];exact f⟩
 obtain⟨y,c,rfl⟩:=O_.mp a
 rw[(rL (x:=y)).1,(rL (x:=y)).2]
 exact g y c
def C9{Q:Unit->Shared->Prop}(B:A.units<cLine)(m:iV prog w s.heap d xs)(t:(tk prog w).is s.heap k b)(p:k≠xK)(hsz:xs.length<=sizeLine)
  (q:∀h',iV prog w h' d (fH xs k (.ref b) u)->Pl d s.heap h'->Q () { s with heap:=h' }):wpAny (model prog w) A (dictSetHashed d (.ref b) (hT k) u) Q E s:=by
 obtain⟨⟨j,o,es,ep,c,z,a,he⟩,r,f⟩:=m
 have C:es.size=xs.length:=by rw[<- PZ,he,G']
 unfold dictSetHashed
 try with_reducible refine wpAny_holding ?_
 refine wpAny_bind (BX B c a he r f t p (λg=>?_) λi x v e=>?_)
 ·refine wpAny_bind (wpAny_rule (wpAny_updateDictKeys (hz:=by omega) c a (q _ (iV.put (h:=s.heap) (.inr ⟨p,b,rfl,(tk prog w).keeps t c a (Pd ..)⟩) (yK g) f (λy n=>(r y n).keeps c a (Pd ..)) ⟨j,_,_,ep+1,P4 _ c (Rh (Qi a _)),z.mapDictKeys _,Qi a _,?_⟩) (Pd ..))))
  rw[Rv,he,QB]
  show _++[_]=_++[dh j (k,.ref b,u)]
  unfold dh
  rw[if_neg p]
 ·refine wpAny_bind (wpAny_rule (wpAny_bind (wpAny_updateDict c a (wpAny_point (q _ (iV.NY (ET v e) f (λy n=>(r y n).keeps c a (Pd ..)) ⟨j,_,_,ep,P4 _ c (Rh (VI a _)),z.mapDict _,VI a _,?_⟩) (Pd ..))))))
  rw[<- E6 f v e,<- he]
  obtain⟨l⟩:=es
  simp
def L3{Q:Unit->Shared->Prop}(c:A.units+1<cLine)(m:iV prog w s.heap d xs)(a:(tk prog w).is s.heap k b)(f:k≠xK)(hsz:xs.length<=sizeLine)
  (q:∀h' t,iV prog w h' d (fH xs k (.ref b) u)->Pl d s.heap h'->Q () { s with heap:=h',toks:=t }):wpAny (model prog w) A (setItem (.ref d) (.ref b) u) Q E s:=by
 unfold setItem
 try with_reducible refine wpAny_holding ?_
 refine wpAny_bind (wpAny_sequenceKey m.typeIs (by decide) ?_)
 refine wpAny_bind (wpAny_callSpecial?_slot (name:=QE "__setitem__") m.typeIs SJ (wpAny_call_entry SJ m.typeIs Vc ?_ (args_dict_setitem _ _ _)))
 show wpAny _ _ (S9 "__setitem__" ⟨[.ref d,.ref b,u],[]⟩ >>= _) _ _ s
 refine wpAny_bind (wpAny_notOrdered_dict m.typeIs ?_)
 show wpAny _ _ (dictSet d (.ref b) u >>= _) _ _ s
 refine wpAny_bind ?_
 unfold dictSet
 try with_reducible refine wpAny_holding ?_
 refine wpAny_bind ((tk prog w).pyHash (A:=A.in1) c a ?_)
 exact C9 (s:={ s with toks:=_ }) c m a f hsz λh' g e=>wpAny_pure ⟨.none,rfl,wpAny_pure (q h' _ g e)⟩
def Nc{t:Tok}{Q:Unit->Shared->Prop}(S:A.units+1<cLine)(m:iV prog w s.heap d xs)(G:∀x∈xs,x.1≠xK)(hsz:xs.length<=sizeLine)
  (q:∀h' t',iV prog w h' d (fH xs xK (.str "x" t) u)->Pl d s.heap h'->Q () { s with heap:=h',toks:=t' }):wpAny (model prog w) A (setItem (.ref d) (.str "x" t) u) Q E s:=by
 unfold setItem
 try with_reducible refine wpAny_holding ?_
 refine wpAny_bind (wpAny_sequenceKey m.typeIs (by decide) ?_)
 refine wpAny_bind (wpAny_callSpecial?_slot (name:=QE "__setitem__") m.typeIs SJ (wpAny_call_entry SJ m.typeIs Vc ?_ (args_dict_setitem _ _ _)))
 show wpAny _ _ (S9 "__setitem__" ⟨[.ref d,.str "x" t,u],[]⟩ >>= _) _ _ s
 refine wpAny_bind (wpAny_notOrdered_dict m.typeIs ?_)
 show wpAny _ _ (dictSet d (.str "x" t) u >>= _) _ _ s
 refine wpAny_bind ?_
 unfold dictSet
 try with_reducible refine wpAny_holding ?_
 refine wpAny_bind (wpAny_pyHash_str ?_)
 unfold dictSetHashed
 try with_reducible refine wpAny_holding ?_
 obtain⟨⟨P,o,es,ep,B,W,n,he⟩,J,X⟩:=m
 have L:es.size=xs.length:=by rw[<- PZ,he,G']
 have C:∀e∈es.toList,∃x∈xs,e=dh P x/\∃c,x.2.1=.ref c/\(tk prog w).is s.heap x.1 c:=λe h=>by
  rw[he] at h
  obtain⟨x,a,rfl⟩:=O_.mp h
  rcases J x a with⟨z,_⟩|⟨_,c,z⟩
  ·exact absurd z (G x a)
  ·exact⟨x,a,rfl,c,z⟩
 have I:wpAny (model prog w) A.in1 (dictFind d (.str "x" t) (hashStr w "x")) (λr O=>r=none/\O={ s with toks:=s.toks+1 }) (λ_ _=>False) { s with toks:=s.toks+1 }:=by
  cases xs with
  |nil =>
   have Y:es=#[]:=RQ L
   subst Y
   unfold dictFind
   try with_reducible refine wpAny_holding ?_
   refine wpAny_bind (wpAny_dictEntries (s:={ s with toks:=_ }) B n ?_)
   dsimp only
   rw[if_pos (by simp)]
   unfold foundByValue
   rw[show Array.findIdx? (λx:Pj=>x.key.isStr (QE "x")) #[]=none by simp]
   exact wpAny_pure ⟨rfl,rfl⟩
  |cons N r =>
   have l:(es.all λe=>isExactStrKey e.key)=false:=by
    rw[<- S_,he,O1,RE]
    rcases J N D' with⟨z,_⟩|⟨_,c,z,_⟩
    ·exact absurd z (G N D')
    ·show(isExactStrKey N.2.1&&_)=false
     rw[z]
     rfl
   have g:∀{v:Value},v∈keysAt es (hashStr w "x")->∃j c,v=.ref c/\(tk prog w).is s.heap j c:=fun{v} M=>by
    obtain⟨i,_,p⟩:=RH.mp M
    cases q:es[i]? with
    |none=>rw[q] at p;cases p
    |some e =>
     rw[q] at p
     obtain⟨x,_,rfl,c,f,F⟩:=C e (RW.mpr (SQ q))
     exact⟨x.1,c,(Pq p).symm.trans f,F⟩
   cases hks:keysAt es (hashStr w "x") with
   |nil =>
    have hpl:ia es (hashStr w "x")=[]:=by
     cases hq:ia es (hashStr w "x") with
     |nil=>rfl
     |cons i r' =>
      obtain⟨e,f,_⟩:=gU.mp (show i∈ia es (hashStr w "x") by rw[hq];exact D')
      unfold keysAt at hks
      rw[hq,Q_,f] at hks
      cases hks
    unfold dictFind
    try with_reducible refine wpAny_holding ?_
    refine wpAny_bind (wpAny_dictEntries (s:={ s with toks:=_ }) B n ?_)
    dsimp only
    rw[if_neg (by rw[l];exact A'),if_pos (show((Ql "x" t::keysAt es (hashStr w "x")).all UM)=true by rw[hks];rfl)]
    show wpAny _ _ (dictWalkPlain d _ _ es (ia es (hashStr w "x"))) _ _ _
    rw[hpl]
    unfold dictWalkPlain
    exact wpAny_pure ⟨rfl,rfl⟩
   |cons v vs =>
    obtain⟨j,c,rfl,U⟩:=g (show v∈keysAt es (hashStr w "x") by rw[hks];exact D')
    refine uj (s:={ s with toks:=_ }) (same:=λ_=>false) B n (.inr ⟨_,t,rfl,l⟩) (by rw[hks];rfl) (rN _ t) (λv M=>?_) (λi e h1 Z=>?_) (λi _ j _ z=>nomatch z) (λ_=>⟨rfl,rfl⟩) λi _ z=>nomatch z
    ·obtain⟨j,c,rfl,h⟩:=g M
     exact λE Q q=>(tk prog w).quiet h q
    ·obtain⟨x,_,rfl,c,f,F⟩:=C e (RW.mpr (SQ h1))
     obtain⟨R,q⟩:=vn F
     show Ds prog w A.in1 _ x.2.1 _ false
     rw[f]
     exact λE Q z=>XB (s:={ s with toks:=s.toks+1 }) _ t q S _ _ _ _ z
 refine wpAny_bind (wpAny_mono I (?_) λ_ _ z=>z.elim);rintro r O ⟨f,F⟩
 subst f F
 refine wpAny_bind (wpAny_rule (wpAny_updateDictKeys (hz:=by omega) (s:={ s with toks:=_ }) B n ?_))
 have H:kJ xs xK=false:=yK λi x p=>G x (PY p)
 refine wpAny_pure ⟨.none,rfl,wpAny_pure (q _ _ (iV.put (h:=s.heap) (.inl ⟨rfl,t,rfl⟩) H X (λy T=>(J y T).keeps B n (Pd ..)) ⟨hashStr w "x",_,_,ep+1,P4 _ B (Rh (Qi n _)),W.mapDictKeys _,Qi n _,?_⟩) (Pd ..))⟩
 rw[Rv,he,QB]
 have f:xs.map (dh P)=xs.map (dh (hashStr w "x")):=QR λx a=>by
  unfold dh
  rw[if_neg (G x a),if_neg (G x a)]
 rw[f]
 refine congrArg (λz=>_++[z]) ?_
 unfold dh
 rw[if_pos rfl]
end
section
variable {X:Cx}
def FE:fc X (binaryOp .Add) (λx y H Q=>∃a b xs ys,x=.ref a/\y=.ref b/\eX X.K H a xs/\eX X.K H b ys/\xs.length+ys.length<=sizeLine/\∀p,H p=none->Q (.ref p) (upd H p (.lst (xs++ys)))):=by
 intro C s σ H x y v u Q I N R h
 obtain⟨a,b,xs,ys,rfl,rfl,T,P,hz,q⟩:=h
 cases(show v=F' a from N)
 cases(show u=F' b from R)
 obtain⟨f,z,E,_⟩:=I.list T
 obtain⟨c,A,G,_⟩:=I.list P
 have S:=z.length
 have L:=A.length
 obtain⟨⟨cls,M,r,J⟩,B,w,n,t⟩:=id E.isList
 obtain⟨⟨o,m,data2,l⟩,j,i,O,g⟩:=id G.isList
 simp only at w t i g
 subst w t i g
 have e:f.toArray++c.toArray=(f++c).toArray:=by simp
 refine Tc ⟨_,B,rfl⟩ ⟨_,j,rfl⟩ noFill_list_add seq_list_add PySem.F.slot_list_add PySem.F.entry_list_add (PySem.F.args_list_add_2 _ _)
  (list_addW a b f.toArray c.toArray n O M m J l (by rw[PQ,PQ];omega)) ⟨B,j,?_⟩
 rw[e]
 exact⟨.ref _,_,I.NH (t':=s.toks) (z.append A) (by rw[O4];omega),rfl,q _ I.fresh⟩
def FF:fc X (binaryOp .Add) (λx y H Q=>∃a b ys,x=.ref a/\y=.ref b/\eY X.K H a []/\eY X.K H b ys/\Q (.ref b) H):=by
 intro w s σ H x y v u Q I F M h
 obtain⟨a,b,ys,rfl,rfl,N,L,q⟩:=h
 cases(show v=F' a from F)
 cases(show u=F' b from M)
 obtain⟨i,J,z,_⟩:=I.tuple N
 obtain⟨e,O,A,_⟩:=I.tuple L
 have E:i=[]:=J.zero
 subst E
 obtain⟨⟨cls,C,o,B⟩,t,r,n,p⟩:=id z
 obtain⟨⟨m,l,data2,j⟩,g,f,G,c⟩:=id A
 simp only at r p f c
 subst r p f c
 exact Tc ⟨_,t,rfl⟩ ⟨_,g,rfl⟩ Tv Ui R6 Rz (Rn _ _)
  (tuple_addW0 a b #[] e.toArray n G C l B j rfl) ⟨t,g,⟨.ref b,H,I,rfl,q⟩⟩
end
section
variable {K:j'}
def EN:F2:=λd e Q=>match d,e with
 |.int i,.int j=>Q (.int (i+j))
 |.str x,.str y=>x.length+y.length<=sizeLine/\Q (.str (x++y))
 |.lst xs,.lst ys=>xs.length+ys.length<=sizeLine/\Q (.lst (xs++ys))
 |.tup xs,.tup ys=>xs.length+ys.length<=sizeLine/\Q (.tup (xs++ys))
 |_,_=>False
def LL:cz EN:=by
 intro d e P a g h
 unfold EN at h ⊢
 split at h
 ·exact g _ h
 ·exact⟨h.1,g _ h.2⟩
 ·exact⟨h.1,g _ h.2⟩
 ·exact⟨h.1,g _ h.2⟩
 ·exact h.elim
def HB(K:j'):R2:=λx y H Q=>(∃i j,x=.int i/\y=.int j/\Q (.int (i+j)) H)\/(∃i j,x=.str i/\y=.str j/\i.length+j.length<=sizeLine/\Q (.str (i++j)) H) \/
 (∃a b xs ys,x=.ref a/\y=.ref b/\eX K H a xs/\eX K H b ys/\xs.length+ys.length<=sizeLine/\∀p,H p=none->Q (.ref p) (upd H p (.lst (xs++ys)))) \/
 HC K x y H Q\/(∃a b ys,x=.ref a/\y=.ref b/\eY K H a []/\eY K H b ys/\Q (.ref b) H)
def FC{X:Cx}:fc X (binaryOp .Add) (HB X.K):=JB.or (xI.or (FE.or (FG.or FF)))
def BJ:fM K (HB K) EN:=by
 intro H x y d e Q m l h
 cases m with
 |int i=>cases l with
  |int j=>exact .inl ⟨i,j,rfl,rfl,h _ H (aK.refl _) (.int _)⟩
  |_=>exact h.elim
 |str i=>cases l with
  |str j=>exact .inr (.inl ⟨i,j,rfl,rfl,h.1,h.2 _ H (aK.refl _) (.str _)⟩)
  |_=>exact h.elim
 |lst h1 c=>cases l with
  |lst f b =>
   refine .inr (.inr (.inl ⟨_,_,_,_,rfl,rfl,h1,f,?_,λp g=>?_⟩))
   ·rw[c.length,b.length];exact h.1
   ·exact h.2 _ _ (aO g) (.lst (eX.of aI) ((c.append b).same (aO g)))
  |_=>exact h.elim
 |tup h1 c=>cases l with
  |tup f b =>
   have z:=h.1
   rw[<- c.length,<- b.length] at z
   cases c with
   |nil=>exact .inr (.inr (.inr (.inr ⟨_,_,_,rfl,rfl,h1,f,h.2 _ H (aK.refl _) (.tup f b)⟩)))
   |cons a r =>
    refine .inr (.inr (.inr (.inl ⟨_,_,_,_,rfl,rfl,h1,f,(λq=>nomatch q),z,λe=>?_,λe p g=>?_⟩)))
    ·subst e
     cases b
     have q:=h.2
     rw[Pf] at q
     exact q _ H (aK.refl _) (.tup h1 (.cons a r))
    ·exact h.2 _ _ (aO g) (.tup (eY.of aI) (((bZ.cons a r).append b).same (aO g)))
  |_=>exact h.elim
 |_=>exact h.elim
def fI(C:Int->Int->Prop)(g:Int->Int->D):F2:=λd e Q=>match d,e with
 |.int i,.int j=>C i j/\Q (g i j)
 |_,_=>False
def NL{C:Int->Int->Prop}{g:Int->Int->D}:cz (fI C g):=by
 intro d e P a f h
 unfold fI at h ⊢
 split at h
 ·exact⟨h.1,f _ h.2⟩
 ·exact h.elim
def wW{C:Int->Int->Prop}{g:Int->Int->V}{g':Int->Int->D}(c:∀H i j,Dv K H (g i j) (g' i j)):fM K (rI C g) (fI C g'):=by
 intro H x y d e Q b a h
 cases b with
 |int i=>cases a with
  |int j=>exact⟨i,j,rfl,rfl,h.1,h.2 _ H (aK.refl _) (c H i j)⟩
  |_=>exact h.elim
 |_=>exact h.elim
def Gk(g:Int->Int->D):F2:=λd e Q=>match d,e with
 |.int i,.int j=>Q (g i j)
 |_,_=>False
def vE{g:Int->Int->D}:cz (Gk g):=by
 intro d e P a f h
 unfold Gk at h ⊢
 split at h
 ·exact f _ h
 ·exact h.elim
def fg{g:Int->Int->V}{g':Int->Int->D}(c:∀H i j,Dv K H (g i j) (g' i j)):fM K (Cs g) (Gk g'):=by
 intro H x y d e Q b a h
 cases b with
 |int i=>cases a with
  |int j=>exact⟨i,j,rfl,rfl,h _ H (aK.refl _) (c H i j)⟩
  |_=>exact h.elim
 |_=>exact h.elim
end
section
variable {X:Cx}{a b c:Expr}{es rest:List Expr}{pos:Pos}{ta tb tc:ED}
def DT:ED->ED->ED:=mz EN
def N7:ED->ED->ED:=mz (Gk λi j=>.int (i - j))
def N4:ED->ED->ED:=mz (fI W3 λi j=>.int (i*j))
def N3:ED->ED->ED:=mz (fI (λ_ j=>0<j) λi j=>.int (i%j))
def N1:ED->ED->ED:=mz (fI HP λi j=>.int (i / j))
def aj(f:PD X a ta)(e:PD X b tb):PD X (.BinOp a .Add b pos) (DT ta tb):=BB FC BJ LL f e
def dC(f:PD X a ta)(e:PD X b tb):PD X (.BinOp a .Sub b pos) (N7 ta tb):=BB JJ (fg λ_ _ _=>.int _) vE f e
def l4(f:PD X a ta)(e:PD X b tb):PD X (.BinOp a .Mult b pos) (N4 ta tb):=BB FI (wW λ_ _ _=>.int _) NL f e
def ba(f:PD X a ta)(e:PD X b tb):PD X (.BinOp a .Mod b pos) (N3 ta tb):=BB JG (wW λ_ _ _=>.int _) NL f e
def cM(f:PD X a ta)(e:PD X b tb):PD X (.BinOp a .FloorDiv b pos) (N1 ta tb):=BB FH (wW λ_ _ _=>.int _) NL f e
def N5(e:ED):ED:=λδ Q=>e δ λd=>∃i,d=.int i/\Q (.int (-i))
def Gg(f:PD X a ta):PD X (.UnaryOp .USub a pos) (N5 ta) :=
 ⟨(Li J8 f.pe).imp fun σ H Q ⟨δ,r,h⟩=>⟨δ,r,f.mono _ _ _ (fun d ⟨i,e,k⟩ v l j dv=>by subst e;cases dv;exact⟨i,rfl,k _ l j (.int _)⟩) h⟩,
  λδ P m g h=>f.mono _ _ _ (fun d ⟨i,e,k⟩=>⟨i,e,g _ k⟩) h⟩
def OQ:ED->ED->ED:=mz (Gk λi j=>.bl (decide (i<j)))
def Ov:ED->ED->ED:=mz (Gk λi j=>.bl (decide (i<=j)))
def OO:ED->ED->ED:=mz (Gk λi j=>.bl (decide (j<i)))
def M4(f:PD X a ta)(e:PD X b tb):PD X (.Compare a [.Lt] [b] pos) (OQ ta tb):=kU CK (fg λ_ _ _=>.bl _) vE f e (dM _)
def Hu(f:PD X a ta)(e:PD X b tb):PD X (.Compare a [.LtE] [b] pos) (Ov ta tb):=kU yT (fg λ_ _ _=>.bl _) vE f e (dM _)
def Kj(f:PD X a ta)(e:PD X b tb):PD X (.Compare a [.Gt] [b] pos) (OO ta tb):=kU G8 (fg λ_ _ _=>.bl _) vE f e (dM _)
end
mutual
def yq:D->PyData
 |.ah=>.none
 |.bl b=>.bool b
 |.int i=>.int i
 |.str x=>.str x
 |.lst xs=>.list (AR xs)
 |.tup xs=>.tuple (AR xs)
 |.obj _ _=>.none
 |.dK _=>.none
 |.dT _=>.none
 |.adr _=>.none
 |.exc _ _ _=>.none
def AR:List D->List PyData
 |[]=>[]
 |d::ds=>yq d::AR ds
end
mutual
def plain:D->Bool
 |.lst xs=>qC xs
 |.tup xs=>qC xs
 |.obj _ _=>false
 |.dK _=>false
 |.dT _=>false
 |.adr _=>false
 |.exc _ _ _=>false
 |_=>true
def qC:List D->Bool
 |[]=>true
 |d::ds=>plain d&&qC ds
end
section
variable {K:j'}{H:Hp}
mutual
def Dv.dat:∀{v:V} {d:D},plain d=true->Dv K H v d->lH K H v (yq d)
 |_,_,_,.ah=>by rw[yq];exact .ah
 |_,_,_,.bl b=>by rw[yq];exact .bl b
 |_,_,_,.int i=>by rw[yq];exact .int i
 |_,_,_,.str x=>by rw[yq];exact .str x
 |_,_,p,.lst h1 a=>by rw[yq];rw[plain] at p;exact .lst h1 (bZ.dat p a)
 |_,_,p,.tup h1 a=>by rw[yq];rw[plain] at p;exact .tup h1 (bZ.dat p a)
 |_,_,p,.obj _ _=>by rw[plain] at p;cases p
 |_,_,p,.dK _ _=>by rw[plain] at p;cases p
 |_,_,p,.dT _ _=>by rw[plain] at p;cases p
 |_,_,p,.adr _=>by rw[plain] at p;cases p
 |_,_,p,.exc _ _ _=>by rw[plain] at p;cases p
def bZ.dat:∀{vs:List V} {ds:List D},qC ds=true->bZ K H vs ds->ie K H vs (AR ds)
 |_,_,_,.nil=>by rw[AR];exact .nil
 |_,_,p,.cons h1 a=>by
  rw[AR]
  rw[qC,Pu] at p
  exact .cons (Dv.dat p.1 h1) (bZ.dat p.2 a)
end
end
def m9:D->D->Option Bool
 |.ah,.ah=>some true
 |.bl a,.bl b=>some (decide (a=b))
 |.int i,.int j=>some (decide (i=j))
 |.str x,.str y=>some (decide (x=y))
 |.ah,.bl _=>some false
 |.ah,.int _=>some false
 |.ah,.str _=>some false
 |.bl _,.ah=>some false
 |.bl _,.str _=>some false
 |.int _,.ah=>some false
 |.int _,.str _=>some false
 |.str _,.ah=>some false
 |.str _,.bl _=>some false
 |.str _,.int _=>some false
 |_,_=>none
def BW(neg:Bool):F2:=λd e Q=>match m9 d e with
 |some b=>Q (.bl (if neg then !b else b))
 |none=>plain d=true/\plain e=true/\Sv (yq d)=true/\Sv (yq e)=true/\Q (.bl (if neg then !TR (yq d) (yq e) else TR (yq d) (yq e)))
def Ij{neg:Bool}:cz (BW neg):=by
 intro d e P a f h
 unfold BW at h ⊢
 split at h
 ·exact f _ h
 ·exact⟨h.1,h.2.1,h.2.2.1,h.2.2.2.1,f _ h.2.2.2.2⟩
def yE{K:j'}:fM K (λx y H Q=>OK x y H Q\/Fm K false x y H Q) (BW false):=by
 intro H x y d e Q a f h
 unfold BW at h
 split at h
 ·rename_i b c
  left
  have q:=h _ H (aK.refl _) (.bl _)
  cases a<;>cases f<;>simp only[m9,UA,reduceCtorEq] at c<;>subst c<;>refine⟨rfl,?_⟩<;>simpa using q
 ·obtain⟨i,l,g,j,q⟩:=h
  exact .inr ⟨_,_,a.dat i,f.dat l,g,j,q _ H (aK.refl _) (.bl _)⟩
def EJ{K:j'}:fM K (λx y H Q=>OM x y H Q\/Fm K true x y H Q) (BW true):=by
 intro H x y d e Q a f h
 unfold BW at h
 split at h
 ·rename_i b c
  left
  have q:=h _ H (aK.refl _) (.bl _)
  cases a<;>cases f<;>simp only[m9,UA,reduceCtorEq] at c<;>subst c<;>refine⟨rfl,?_⟩<;>simpa using q
 ·obtain⟨i,l,g,j,q⟩:=h
  exact .inr ⟨_,_,a.dat i,f.dat l,g,j,q _ H (aK.refl _) (.bl _)⟩
def KP(neg:Bool):F2:=λd e Q=>match e with
 |.ah=>Q (.bl (match d with|.ah=>!neg|_=>neg))
 |.bl b=>∃a,d=.bl a/\Q (.bl (if neg then a != b else a == b))
 |_=>False
def LP{neg:Bool}:cz (KP neg):=by
 intro d e P c f h
 unfold KP at h ⊢
 split at h
 ·exact f _ h
 ·obtain⟨a,b,q⟩:=h;exact⟨a,b,f _ q⟩
 ·exact h.elim
def EH{K:j'}:fM K (λx y H Q=>(y=.ah/\Q (.bl (decide (x=.ah))) H)\/∃a b,x=.bl a/\y=.bl b/\Q (.bl (a == b)) H) (KP false):=by
 intro H x y d e Q c f h
 cases f with
 |ah =>
  refine .inl ⟨rfl,?_⟩
  have q:=h _ H (aK.refl _) (.bl _)
  cases c<;>exact q
 |bl b =>
  obtain⟨a,rfl,q⟩:=h
  cases c
  exact .inr ⟨a,b,rfl,rfl,q _ H (aK.refl _) (.bl _)⟩
 |_=>exact h.elim
def wX{K:j'}:fM K (λx y H Q=>(y=.ah/\Q (.bl (!decide (x=.ah))) H)\/∃a b,x=.bl a/\y=.bl b/\Q (.bl (a != b)) H) (KP true):=by
 intro H x y d e Q c f h
 cases f with
 |ah =>
  refine .inl ⟨rfl,?_⟩
  have q:=h _ H (aK.refl _) (.bl _)
  cases c<;>exact q
 |bl b =>
  obtain⟨a,rfl,q⟩:=h
  cases c
  exact .inr ⟨a,b,rfl,rfl,q _ H (aK.refl _) (.bl _)⟩
 |_=>exact h.elim
def bo:D->Bool
 |.ah=>true
 |.bl _=>true
 |.int _=>true
 |.str _=>true
 |_=>false
def r_:D->D->Bool
 |.ah,.ah=>true
 |.bl a,.bl b=>a == b
 |.bl a,.int j=>(if a then 1 else 0) == j
 |.int i,.bl b=>i == (if b then 1 else 0)
 |.int i,.int j=>i == j
 |.str x,.str y=>x == y
 |_,_=>false
def inD(x:D)(xs:List D):Bool:=xs.any λy=>r_ y x
def xX(x y:Str):Bool:=!(Qg y x 0 y.length 1).isEmpty
def KO(neg:Bool):F2:=λd e Q=>match e with
 |.lst xs=>bo d=true/\xs.all bo=true/\Q (.bl (if neg then !inD d xs else inD d xs))
 |.tup xs=>bo d=true/\xs.all bo=true/\Q (.bl (if neg then !inD d xs else inD d xs))
 |.str y=>∃x,d=.str x/\Q (.bl (if neg then !xX x y else xX x y))
 |_=>False
def Ik{neg:Bool}:cz (KO neg):=by
 intro d e P c f h
 unfold KO at h ⊢
 split at h
 ·exact⟨h.1,h.2.1,f _ h.2.2⟩
 ·exact⟨h.1,h.2.1,f _ h.2.2⟩
 ·obtain⟨a,b,q⟩:=h;exact⟨a,b,f _ q⟩
 ·exact h.elim
section
variable {K:j'}{H:Hp}
def Dv.flat{v:V}{d:D}(h:Dv K H v d)(f:bo d=true):kW v=true:=by
 cases h<;>first|rfl|cases f
def Dv.r_{v w:V}{d e:D}(h:Dv K H v d)(g:Dv K H w e)(f:bo d=true)(f':bo e=true):EM v w=DC.r_ d e:=by
 cases h<;>cases g<;>first|rfl|cases f|cases f'
def bZ.flat:∀{vs:List V} {ds:List D},bZ K H vs ds->ds.all bo=true->vs.all kW=true
 |_,_,.nil,_=>rfl
 |_,_,.cons h r,f=>by
  rw[RE,Pu] at f ⊢
  exact⟨h.flat f.1,bZ.flat r f.2⟩
def bZ.Dq{w:V}{e:D}(g:Dv K H w e)(f':bo e=true):∀{vs:List V} {ds:List D},bZ K H vs ds->ds.all bo=true->L2.Dq w vs=inD e ds
 |_,_,.nil,_=>rfl
 |_,_,.cons h r,f=>by
  rw[RE,Pu] at f
  have q:=bZ.Dq g f' r f.2
  unfold L2.Dq inD at q ⊢
  rw[QJ,QJ,q,h.r_ g f.1 f']
end
def yF{K:j'}:fM K (λx y H Q=>Mh K false x y H Q\/∃i j,x=.str i/\y=.str j/\Q (.bl (!(Qg j i 0 j.length 1).isEmpty)) H) (KO false):=by
 intro H x y d e Q a f h
 cases f with
 |lst c b=>exact .inl ⟨_,_,rfl,.inl c,a.flat h.1,b.flat h.2.1,by rw[bZ.Dq a h.1 b h.2.1];exact h.2.2 _ H (aK.refl _) (.bl _)⟩
 |tup c b=>exact .inl ⟨_,_,rfl,.inr c,a.flat h.1,b.flat h.2.1,by rw[bZ.Dq a h.1 b h.2.1];exact h.2.2 _ H (aK.refl _) (.bl _)⟩
 |str j =>
  obtain⟨i,rfl,q⟩:=h
  cases a
  exact .inr ⟨i,j,rfl,rfl,q _ H (aK.refl _) (.bl _)⟩
 |_=>exact h.elim
def wY{K:j'}:fM K (λx y H Q=>Mh K true x y H Q\/∃i j,x=.str i/\y=.str j/\Q (.bl (!(!(Qg j i 0 j.length 1).isEmpty))) H) (KO true):=by
 intro H x y d e Q a f h
 cases f with
 |lst c b=>exact .inl ⟨_,_,rfl,.inl c,a.flat h.1,b.flat h.2.1,by rw[bZ.Dq a h.1 b h.2.1];exact h.2.2 _ H (aK.refl _) (.bl _)⟩
 |tup c b=>exact .inl ⟨_,_,rfl,.inr c,a.flat h.1,b.flat h.2.1,by rw[bZ.Dq a h.1 b h.2.1];exact h.2.2 _ H (aK.refl _) (.bl _)⟩
 |str j =>
  obtain⟨i,rfl,q⟩:=h
  cases a
  exact .inr ⟨i,j,rfl,rfl,q _ H (aK.refl _) (.bl _)⟩
 |_=>exact h.elim
section
variable {X:Cx}{a b c:Expr}{es rest:List Expr}{pos:Pos}{ta tb tc:ED}
def vEq:ED->ED->ED:=mz (BW false)
def Ox:ED->ED->ED:=mz (BW true)
def Ou:ED->ED->ED:=mz (KP false)
def KC:ED->ED->ED:=mz (KP true)
def N2:ED->ED->ED:=mz (KO false)
def KG:ED->ED->ED:=mz (KO true)
def qY(g:X.A.units+64<cLine)(e:PD X a ta)(f:PD X b tb):PD X (.Compare a [.Eq] [b] pos) (vEq ta tb):=kU (G7.or (CI g)) yE Ij e f (dM _)
def Hs(g:PD X a ta)(f:PD X b tb)(e:behindInMarks .In b=false):PD X (.Compare a [.In] [b] pos) (N2 ta tb):=kU (rF.or rG) yF Ik g f e
def EC(g:PD X a ta)(f:PD X b tb)(e:behindInMarks .NotIn b=false):PD X (.Compare a [.NotIn] [b] pos) (KG ta tb):=kU (s_.or tD) wY Ik g f e
end
abbrev gM(t:TD):Prop:=∀ δ (P a:Bool->Prop),(∀d,P d->a d)->t δ P->t δ a
abbrev ng(t:AD):Prop:=∀ δ (P a:List D->Prop),(∀d,P d->a d)->t δ P->t δ a
def cZ(t:ED):TD:=λδ Q=>t δ λd=>∃b,d=.bl b/\Q b
def B4{t:ED}(m:bP t):gM (cZ t):=λδ P a g h=>m _ _ _ (fun d ⟨b,e,q⟩=>⟨b,e,g b q⟩) h
def GH{K:j'}{t:ED}(m:bP t){δ:SD}{H:Hp}{Q:Bool->Hp->Prop}(h:cZ t δ (kB H Q)):t δ (kD K H λx a=>∃k,x=.bl k/\Q k a) :=
 m _ _ _ (fun d ⟨b,e,q⟩ v a s dv=>by subst e;cases dv;exact⟨b,rfl,q a s⟩) h
section
variable {X:Cx}{a b c e:Expr}{es rest:List Expr}{pos:Pos}{ta tb tc:ED}{ua ub:TD}
def kO.of{t:TE}{v:ED}(h:PT X e (HI t))(p:∀ σ H Q,oE X.K v σ H Q->t σ H Q)(m:bP v):kO X e (cZ v) :=
 ⟨PT.imp h fun σ H Q ⟨δ,r,q⟩=>p σ H _ ⟨δ,r,GH m q⟩,B4 m⟩
def Hd{r:R2}{f:F2}(n:bP ta)(l:bP tb)(t:fM X.K r f)(p:cz f):(∀ σ H Q,oE X.K (mz f ta tb) σ H Q->Jy r (oE X.K ta) (oE X.K tb) σ H Q)/\bP (mz f ta tb):=by
 refine⟨fun σ H Q ⟨δ,r,h⟩=>⟨δ,r,n _ _ _ (λd j v x m dv=>⟨δ,r.same m,l _ _ _ (λe he w s o q=>t s v w d e Q (dv.same o) q (p d e _ _ (λz hz=>hz.on (m.trans o)) he)) j⟩) h⟩,?_⟩
 exact λδ P u g h=>n _ _ _ (λd h'=>l _ _ _ (λe i=>p d e _ _ g i) h') h
def my{op:CmpOp}{r:R2}{f:F2}(i:fc X (compareOp op) r)(m:fM X.K r f)(j:cz f)(h:PD X a ta)(g:PD X b tb)(l:behindInMarks op b=false):kO X (.Compare a [op] [b] pos) (cZ (mz f ta tb)) :=
 let q:=Hd h.mono g.mono m j
 kO.of (Ff i h.pe g.pe l) q.1 q.2
def J0(g:PD X a ta)(f:PD X b tb):kO X (.Compare a [.Lt] [b] pos) (cZ (OQ ta tb)):=my CK (fg λ_ _ _=>.bl _) vE g f (dM _)
def GC(g:PD X a ta)(f:PD X b tb):kO X (.Compare a [.Gt] [b] pos) (cZ (OO ta tb)):=my G8 (fg λ_ _ _=>.bl _) vE g f (dM _)
def bx(h:X.A.units+64<cLine)(f:PD X a ta)(g:PD X b tb):kO X (.Compare a [.Eq] [b] pos) (cZ (vEq ta tb)):=my (G7.or (CI h)) yE Ij f g (dM _)
def ML(h:X.A.units+64<cLine)(f:PD X a ta)(g:PD X b tb):kO X (.Compare a [.NotEq] [b] pos) (cZ (Ox ta tb)):=my (Lc.or (JH h)) EJ Ij f g (dM _)
def Nx(g:PD X a ta)(f:PD X b tb):kO X (.Compare a [.Is] [b] pos) (cZ (Ou ta tb)):=my (JD.or vQ) EH LP g f (dM _)
def GG(g:PD X a ta)(f:PD X b tb):kO X (.Compare a [.IsNot] [b] pos) (cZ (KC ta tb)):=my (FJ.or vR) wX LP g f (dM _)
def GF(h:PD X a ta)(g:PD X b tb)(f:behindInMarks .In b=false):kO X (.Compare a [.In] [b] pos) (cZ (N2 ta tb)):=my (rF.or rG) yF Ik h g f
def GJ:D->Option Bool
 |.ah=>some false
 |.bl b=>some b
 |.int i=>some (i != 0)
 |.str y=>if y.length<=sizeLine then some ((y.length:Int) != 0) else none
 |.lst xs=>some (!xs.isEmpty)
 |.tup xs=>some (!xs.isEmpty)
 |_=>none
def uC(t:ED):TD:=λδ Q=>t δ λd=>∃b,GJ d=some b/\Q b
def bZ.isEmpty{K:j'}{H:Hp}{vs:List V}{ds:List D}(h:bZ K H vs ds):vs.isEmpty=ds.isEmpty:=by cases h<;>rfl
def Dv.Mn{K:j'}{H:Hp}{v:V}{d:D}{b:Bool}(h:Dv K H v d)(e:GJ d=some b):HZ K v H b:=by
 cases h with
 |ah=>cases e;rfl
 |bl x=>cases e;rfl
 |int i=>cases e;rfl
 |str x =>
  have f:(if x.length<=sizeLine then some ((x.length:Int) != 0) else none)=some b:=e
  by_cases hz:x.length<=sizeLine
  ·rw[if_pos hz] at f
   exact⟨hz,(Pq f).symm⟩
  ·rw[if_neg hz] at f
   cases f
 |lst h1 g=>cases e;exact .inl ⟨_,h1,by rw[g.isEmpty]⟩
 |tup h1 g=>cases e;exact .inr (.inl ⟨_,h1,by rw[g.isEmpty]⟩)
 |dK _ _=>cases e
 |exc _ _ _=>cases e
 |obj _ _=>cases e
 |dT _ _=>cases e
 |adr _=>cases e
def cV(i:PD X a ta)(he:autoParam (∀f,isTrue a X.env f=(do let v <- f;Rw a.pos;holding [v] (truthy v))) c7):kO X a (uC ta) :=
 ⟨PT.imp (Co i.pe he) fun σ H Q ⟨δ,r,h⟩=>⟨δ,r,i.mono _ _ _ (fun d ⟨b,e,q⟩ v l j dv=>⟨b,dv.Mn e,q l j⟩) h⟩,λδ P m g h=>i.mono _ _ _ (fun d ⟨b,e,q⟩=>⟨b,e,g b q⟩) h⟩
def J7(t:TD):TD:=λδ Q=>t δ λb=>Q (!b)
def GK(t u:TD):TD:=λδ Q=>t δ λb=>if b=true then u δ Q else Q false
def Ny(t u:TD):TD:=λδ Q=>t δ λb=>if b=true then Q true else u δ Q
def qQ(f:kO X a ua):kO X (.UnaryOp .Not a pos) (J7 ua) :=
 ⟨PT.imp (Ja f.pt) fun σ H Q ⟨δ,r,h⟩=>⟨δ,r,f.mono _ _ _ (λb q i s=>q i s) h⟩,λδ P j g h=>f.mono _ _ _ (λb q=>g _ q) h⟩
def LN(i:gM ua)(f:gM ub):gM (GK ua ub):=λδ P j g h=>i _ _ _ (λb q=>by
 cases b with
 |true=>rw[if_pos rfl] at q ⊢;exact f _ _ _ g q
 |false=>rw[if_neg A'] at q ⊢;exact g _ q) h
def NR(i:gM ua)(f:gM ub):gM (Ny ua ub):=λδ P j g h=>i _ _ _ (λb q=>by
 cases b with
 |true=>rw[if_pos rfl] at q ⊢;exact g _ q
 |false=>rw[if_neg A'] at q ⊢;exact f _ _ _ g q) h
def o_.td(h:o_ X e ua):kO X e ua:=⟨h.pw.pt,h.mono⟩
def jR(f:kO X a ua):o_ X (.BoolOp .And [a] pos) ua:=⟨Fj f.pt,f.mono⟩
def qW(f:kO X a ua):o_ X (.BoolOp .Or [a] pos) ua:=⟨Jc f.pt,f.mono⟩
def w_and(g:kO X a ua)(f:o_ X (.BoolOp .And (b::rest) pos) ub):o_ X (.BoolOp .And (a::b::rest) pos) (GK ua ub):=by
 refine⟨PW.imp (Jb g.pt f.pw) fun σ H Q ⟨δ,r,h⟩=>⟨δ,r,g.mono _ _ _ (λb q i s=>?_) h⟩,LN g.mono f.mono⟩
 cases b with
 |true=>rw[if_pos rfl] at q ⊢;exact⟨δ,r.same s,f.mono _ _ _ (λb k=>k.on s) q⟩
 |false=>rw[if_neg A'] at q ⊢;exact q i s
def w_or(g:kO X a ua)(f:o_ X (.BoolOp .Or (b::rest) pos) ub):o_ X (.BoolOp .Or (a::b::rest) pos) (Ny ua ub):=by
 refine⟨PW.imp (Lj g.pt f.pw) fun σ H Q ⟨δ,r,h⟩=>⟨δ,r,g.mono _ _ _ (λb q i s=>?_) h⟩,NR g.mono f.mono⟩
 cases b with
 |true=>rw[if_pos rfl] at q ⊢;exact q i s
 |false=>rw[if_neg A'] at q ⊢;exact⟨δ,r.same s,f.mono _ _ _ (λb k=>k.on s) q⟩
def Nz(g f:ED):ED:=λδ Q=>g δ λd=>∃b,d=.bl b/\if b=true then f δ Q else Q (.bl false)
def Oy(g f:ED):ED:=λδ Q=>g δ λd=>∃b,d=.bl b/\if b=true then Q (.bl true) else f δ Q
def N6(f:ED):ED:=λδ Q=>f δ λd=>∃b,d=.bl b/\Q (.bl (!b))
def ff{op}(h:PD X a ta):PD X (.BoolOp op [a] pos) ta:=⟨JS h.pe,h.mono⟩
def ip(j:PD X a ta)(i:PD X (.BoolOp .And (b::rest) pos) tb):PD X (.BoolOp .And (a::b::rest) pos) (Nz ta tb):=by
 refine⟨(JL j.pe i.pe).imp λσ H Q ⟨δ,r,h⟩=>⟨δ,r,j.mono _ _ _ (λd ⟨b,e,q⟩ v l f dv=>?_) h⟩,λδ P m g h=>j.mono _ _ _ (λd ⟨b,e,q⟩=>⟨b,e,?_⟩) h⟩
 ·subst e
  cases dv
  refine⟨b,rfl,?_⟩
  cases b with
  |true=>rw[if_pos rfl] at q ⊢;exact⟨δ,r.same f,i.mono _ _ _ (λb k=>k.on f) q⟩
  |false=>rw[if_neg A'] at q ⊢;exact q _ l f (.bl _)
 ·cases b with
  |true=>rw[if_pos rfl] at q ⊢;exact i.mono _ _ _ g q
  |false=>rw[if_neg A'] at q ⊢;exact g _ q
def H_(j:PD X a ta)(i:PD X (.BoolOp .Or (b::rest) pos) tb):PD X (.BoolOp .Or (a::b::rest) pos) (Oy ta tb):=by
 refine⟨(Lh j.pe i.pe).imp λσ H Q ⟨δ,r,h⟩=>⟨δ,r,j.mono _ _ _ (λd ⟨b,e,q⟩ v l f dv=>?_) h⟩,λδ P m g h=>j.mono _ _ _ (λd ⟨b,e,q⟩=>⟨b,e,?_⟩) h⟩
 ·subst e
  cases dv
  refine⟨b,rfl,?_⟩
  cases b with
  |true=>rw[if_pos rfl] at q ⊢;exact q _ l f (.bl _)
  |false=>rw[if_neg A'] at q ⊢;exact⟨δ,r.same f,i.mono _ _ _ (λb k=>k.on f) q⟩
 ·cases b with
  |true=>rw[if_pos rfl] at q ⊢;exact g _ q
  |false=>rw[if_neg A'] at q ⊢;exact i.mono _ _ _ g q
def Gi(f:PD X a ta):PD X (.UnaryOp .Not a pos) (N6 ta) :=
 ⟨(JR f.pe).imp fun σ H Q ⟨δ,r,h⟩=>⟨δ,r,f.mono _ _ _ (fun d ⟨b,e,q⟩ v j i dv=>by subst e;cases dv;exact⟨b,rfl,q _ j i (.bl _)⟩) h⟩,
  λδ P l g h=>f.mono _ _ _ (fun d ⟨b,e,q⟩=>⟨b,e,g _ q⟩) h⟩
def OP(u:TD)(g f:ED):ED:=λδ Q=>u δ λb=>if b=true then g δ Q else f δ Q
def EA(l:kO X c ua)(j:PD X a ta)(i:PD X b tb):PD X (.IfExp c a b pos) (OP ua ta tb):=by
 refine⟨(CT l.pt j.pe i.pe).imp λσ H Q ⟨δ,r,h⟩=>⟨δ,r,l.mono _ _ _ (λk q n f=>?_) h⟩,λδ P m g h=>l.mono _ _ _ (λk q=>?_) h⟩
 ·cases k with
  |true=>rw[if_pos rfl] at q ⊢;exact⟨δ,r.same f,j.mono _ _ _ (λb k=>k.on f) q⟩
  |false=>rw[if_neg A'] at q ⊢;exact⟨δ,r.same f,i.mono _ _ _ (λb k=>k.on f) q⟩
 ·cases k with
  |true=>rw[if_pos rfl] at q ⊢;exact j.mono _ _ _ g q
  |false=>rw[if_neg A'] at q ⊢;exact i.mono _ _ _ g q
def xl(f f':F2)(h g i:ED):ED:=λδ Q=>h δ λx=>g δ λy=>f x y λz=>∃k,z=.bl k/\if k=true then i δ λw=>f' y w Q else Q (.bl false)
def A4{r r':R2}{f f':F2}(A:bP ta)(p:bP tb)(E:bP tc)(J:fM X.K r f)(o:cz f)(m:fM X.K r' f')(i:cz f') :
  (∀ σ H Q,oE X.K (xl f f' ta tb tc) σ H Q->DI r r' (oE X.K ta) (oE X.K tb) (oE X.K tc) σ H Q)/\bP (xl f f' ta tb tc):=by
 refine⟨λσ H Q ⟨δ,r,h⟩=>⟨δ,r,A _ _ _ (λd h1 v N C dv=>⟨δ,r.same C,p _ _ _ (λe j w L B x=>J L v w d e _ (dv.same B) x (o d e _ _ (λz hz u G t l=>?_) j)) h1⟩) h⟩,?_⟩
 ·obtain⟨k,rfl,q⟩:=hz
  cases l
  refine⟨k,rfl,?_⟩
  have s:=C.trans (B.trans t)
  cases k with
  |true =>
   rw[if_pos rfl] at q ⊢
   exact⟨δ,r.same s,E _ _ _ (λd n u F y l=>m F w u e d Q (x.same (t.trans y)) l (i _ _ _ _ (λz hz=>hz.on (s.trans y)) n)) q⟩
  |false =>
   rw[if_neg A'] at q ⊢
   exact q _ G s (.bl _)
 ·intro δ P M g h
  refine A _ _ _ (λd h1=>p _ _ _ (λe j=>o _ _ _ _ (λz ⟨k,I,q⟩=>⟨k,I,?_⟩) j) h1) h
  cases k with
  |true=>rw[if_pos rfl] at q ⊢;exact E _ _ _ (λd n=>i _ _ _ _ g n) q
  |false=>rw[if_neg A'] at q ⊢;exact g _ q
def Md:F2:=Gk λi j=>.bl (decide (i<=j))
def Hv(h:PD X a ta)(g:PD X b tb)(l:PD X c tc)(m:lastMarks [.LtE,.LtE] [b,c]=false:=by with_unfolding_all rfl):PD X (.Compare a [.LtE,.LtE] [b,c] pos) (xl Md Md ta tb tc) :=
 let q:=A4 (X:=X) h.mono g.mono l.mono (r:=Cs λi j=>.bl (decide (i<=j))) (r':=Cs λi j=>.bl (decide (i<=j))) (f:=Md) (f':=Md) (fg λ_ _ _=>.bl _) vE (fg λ_ _ _=>.bl _) vE
 ⟨(CO yT yT h.pe g.pe l.pe m).imp q.1,q.2⟩
end
section
variable {X:Cx}{a b c e:Expr}{es rest:List Expr}{pos:Pos}{ta tb tc:ED}{ua ub:TD}{t:AD}
def bG:AD:=λ_ Q=>Q []
def ao(f:ED)(t:AD):AD:=λδ Q=>f δ λd=>t δ λds=>Q (d::ds)
def aD:nh X [] bG:=⟨PA.imp lS fun σ H Q ⟨δ,r,h⟩=>h [] H (aK.refl _) .nil,λδ P f g h=>g _ h⟩
def aA(l:PD X e ta)(j:nh X es t)(o:autoParam (starEach (e::es) X.env=(false,eval e X.env)::starEach es X.env) a9):nh X (e::es) (ao ta t) :=
 ⟨PA.imp (d8 l.pe j.pa o) fun σ H Q ⟨δ,r,h⟩=>⟨δ,r,l.mono _ _ _ (λd h1 v s m dv=>⟨δ,r.same m,j.mono _ _ _ (λds f vs p n i=>f (v::vs) p (m.trans n) (.cons (dv.same n) i)) h1⟩) h⟩,
  λδ P q g h=>l.mono _ _ _ (λd h1=>j.mono _ _ _ (λds f=>g _ f) h1) h⟩
def DZ(t:AD):ED:=λδ Q=>t δ λds=>ds.length<=sizeLine/\Q (.tup ds)
def DW(t:AD):ED:=λδ Q=>t δ λds=>ds.length<=sizeLine/\Q (.lst ds)
def aa{x1}(h:nh X es t):PD X (.Tuple es x1 pos) (DZ t) :=
 ⟨(CZ h.pa).imp fun σ H Q ⟨δ,r,q⟩=>⟨δ,r,h.mono _ _ _ (fun ds ⟨i,k⟩ vs n l f=>⟨by rw[f.length];exact i,λp j=>k _ _ (l.trans (aO j)) (.tup (eY.of aI) (f.same (aO j)))⟩) q⟩,
  λδ P m g q=>h.mono _ _ _ (fun ds ⟨i,k⟩=>⟨i,g _ k⟩) q⟩
def cC(h:nh X es t):PD X (.List es pos) (DW t) :=
 ⟨(JP h.pa).imp fun σ H Q ⟨δ,r,q⟩=>⟨δ,r,h.mono _ _ _ (fun ds ⟨i,k⟩ vs n l f=>⟨by rw[f.length];exact i,λp j=>k _ _ (l.trans (aO j)) (.lst (eX.of aI) (f.same (aO j)))⟩) q⟩,
  λδ P m g q=>h.mono _ _ _ (fun ds ⟨i,k⟩=>⟨i,g _ k⟩) q⟩
def a_:Expr->Option D
 |.Constant (.str x) _ _=>some (.str x)
 |.Constant (.int i) _ _=>some (.int i)
 |.Constant (.bool b) _ _=>some (.bl b)
 |.Constant .none _ _=>some .ah
 |.UnaryOp .USub (.Constant (.int i) _ _) _=>some (.int (-i))
 |_=>none
def ai:List Expr->List D
 |[]=>[]
 |e::es=>(a_ e).getD .ah::ai es
def lq(ds:List D):AD:=λ_ Q=>Q ds
def bg:∀{es:List Expr} (_:es.all (λe=>(a_ e).isSome)=true),nh X es (lq (ai es))
 |[],_=>⟨aD.pa,λδ P j g h=>g _ h⟩
 |e::es,h=>by
  rw[RE,Pu] at h
  have i:=bg h.2
  obtain⟨v,f⟩:=Q9.mp h.1
  have l:ai (e::es)=v::ai es:=by
   show(a_ e).getD .ah::ai es=_
   rw[f]
   rfl
  rw[l]
  refine⟨?_,λδ P j g h=>g _ h⟩
  have one:nh X (e::es) (ao (vC v) (lq (ai es))):=by
   unfold a_ at f
   split at f
   ·cases f;exact aA aZ i rfl
   ·cases f;exact aA aC i rfl
   ·cases f;exact aA pG i rfl
   ·cases f;exact aA Gh i rfl
   ·cases f
    refine aA ⟨(Gg aC).pe.imp ?_,λδ P j g h=>g _ h⟩ i rfl
    exact fun σ H Q ⟨δ,r,q⟩=>⟨δ,r,_,rfl,q⟩
   ·cases f
  exact one.pa
def Mc:F2:=λd e Q=>match d,e with
 |.lst xs,.int i=>∃r,fe xs i=some r/\Q r
 |.tup xs,.int i=>∃r,fe xs i=some r/\Q r
 |.str z,.int i=>z.length<=sizeLine/\∃c,fe z.cps.toList i=some c/\Q (.str ⟨#[c]⟩)
 |_,_=>False
def NQ:cz Mc:=by
 intro d e P i f h
 unfold Mc at h ⊢
 split at h
 ·obtain⟨r,g,q⟩:=h;exact⟨r,g,f _ q⟩
 ·obtain⟨r,g,q⟩:=h;exact⟨r,g,f _ q⟩
 ·obtain⟨hz,r,g,q⟩:=h;exact⟨hz,r,g,f _ q⟩
 ·exact h.elim
def bZ.fe{K:j'}{H:Hp}{vs:List V}{ds:List D}{i:Int}{d:D}(h:bZ K H vs ds)(e:L2.fe ds i=some d):∃v,L2.fe vs i=some v/\Dv K H v d:=by
 unfold L2.fe at e ⊢
 rw[h.length]
 cases q:Ec ds.length i with
 |none=>rw[q] at e;cases e
 |some j =>
  rw[q] at e
  exact h.get e
def EI{K:j'}:fM K (OL K) Mc:=by
 intro H x y d e Q l m h
 cases m with
 |int i=>cases l with
  |lst h1 f =>
   obtain⟨r,g,q⟩:=h
   obtain⟨v,j,dv⟩:=f.fe g
   exact .inl ⟨_,_,i,v,rfl,rfl,h1,j,q _ H (aK.refl _) dv⟩
  |tup h1 f =>
   obtain⟨r,g,q⟩:=h
   obtain⟨v,j,dv⟩:=f.fe g
   exact .inr (.inl ⟨_,_,i,v,rfl,rfl,h1,j,q _ H (aK.refl _) dv⟩)
  |str z =>
   obtain⟨hz,c,n,q⟩:=h
   exact .inr (.inr ⟨z,i,c,rfl,rfl,hz,n,q _ H (aK.refl _) (.str _)⟩)
  |_=>exact h.elim
 |_=>cases l<;>exact h.elim
def DV:ED->ED->ED:=mz Mc
def aU(g:PD X a ta)(f:PD X b tb)(h:rg b):PD X (.Subscript a b pos) (DV ta tb):=uY (t:=oE X.K ta) (G9 IS g.pe f.pe h) g.mono f.mono EI NQ
def cutD(xs:List D)(lo f:Option Int):List D:=(xs.drop (HT.dF xs.length 0 lo)).take (HT.dF xs.length xs.length f - HT.dF xs.length 0 lo)
def bZ.cut{K:j'}{H:Hp}{vs:List V}{ds:List D}(h:bZ K H vs ds)(lo f:Option Int):bZ K H (uW vs lo f) (cutD ds lo f):=by
 unfold uW cutD
 rw[h.length]
 exact(h.drop _).take _
def Ku(d:D)(lo f:Option Int)(Q:D->Prop):Prop:=match d with
 |.lst xs=>Q (.lst (cutD xs lo f))
 |.tup xs=>¬ (HT.dF xs.length 0 lo=0/\HT.dF xs.length xs.length f=xs.length)/\Q (.tup (cutD xs lo f))
 |.str z=>z.length<=sizeLine/\Q (.str (Pp z lo f))
 |_=>False
def NS{d:D}{lo i:Option Int}{P g:D->Prop}(f:∀r,P r->g r)(h:Ku d lo i P):Ku d lo i g:=by
 unfold Ku at h ⊢
 split at h
 ·exact f _ h
 ·exact⟨h.1,f _ h.2⟩
 ·exact⟨h.1,f _ h.2⟩
 ·exact h.elim
def Nf:Dy X (λx lo f H Q=>Lp X.K x lo f H Q\/Lq X.K x lo f H Q\/∃z,x=.str z/\z.length<=sizeLine/\Q (.str (Pp z lo f)) H):=F0.or (Jp.or Jo)
abbrev OD:=SD->(Option Int->Prop)->Prop
structure MZ (X:Cx) (e:Option Expr) (t:OD):Prop where
 po:PO X e (λσ H Q=>∃ δ,cE X.K H σ δ/\t δ λo=>∀H',aK H H'->Q o H')
 mono:∀ δ (P P':Option Int->Prop),(∀d,P d->P' d)->t δ P->t δ P'
def LY:OD:=λ_ Q=>Q none
def LZ(t:ED):OD:=λδ Q=>t δ λd=>∃i,d=.int i/\Q (some i)
def PO.imp{e:Option Expr}{t t':TO}(h:PO X e t)(f:∀ σ H Q,t' σ H Q->t σ H Q):PO X e t':=λg s σ H Q I q=>h g s σ H Q I (f σ H Q q)
def xF:MZ X none LY:=⟨PO.imp FX fun σ H Q ⟨δ,r,h⟩=>h H (aK.refl _),λδ P f g h=>g _ h⟩
def p7(h:PD X e ta):MZ X (some e) (LZ ta) :=
 ⟨PO.imp (FY h.pe) fun σ H Q ⟨δ,r,q⟩=>⟨δ,r,h.mono _ _ _ (fun d ⟨i,f,k⟩ v l j dv=>by subst f;cases dv;exact⟨i,rfl,k l j⟩) q⟩,λδ P m g q=>h.mono _ _ _ (fun d ⟨i,f,k⟩=>⟨i,f,g _ k⟩) q⟩
def Oz(i:ED)(h f:OD):ED:=λδ Q=>i δ λd=>h δ λlo=>f δ λg=>Ku d lo g Q
def oi{lo j:Option Expr}{w x:OD}{B:Pos}(he:PD X e ta)(n:MZ X lo w)(q:MZ X j x):PD X (.Subscript e (.Slice lo j none B) pos) (Oz ta w x):=by
 refine⟨(CY Nf he.pe n.po q.po).imp fun σ H Q ⟨δ,r,h⟩=>⟨δ,r,he.mono _ _ _ (λd h1 v F m dv=>⟨δ,r.same m,n.mono _ _ _ (λlo f C u=>⟨δ,r.same (m.trans u),q.mono _ _ _ (λj i A y=>?_) f⟩) h1⟩) h⟩,
  λδ P E g h=>he.mono _ _ _ (λd h1=>n.mono _ _ _ (λlo f=>q.mono _ _ _ (λj i=>NS g i) f) h1) h⟩
 have s:=m.trans (u.trans y)
 have o:=dv.same (u.trans y)
 clear h1 f dv
 cases o with
 |lst h1 f=>exact .inl ⟨_,_,rfl,h1,λp l=>i _ _ (s.trans (aO l)) (.lst (eX.of aI) ((f.cut lo j).same (aO l)))⟩
 |tup h1 f=>exact .inr (.inl ⟨_,_,rfl,h1,by rw[f.length];exact i.1,λp l=>i.2 _ _ (s.trans (aO l)) (.tup (eY.of aI) ((f.cut lo j).same (aO l)))⟩)
 |str z=>exact .inr (.inr ⟨z,rfl,i.1,i.2 _ A s (.str _)⟩)
 |_=>exact i.elim
def GQ(K:j')(h:ED)(f:Str):ED:=λδ Q=>h δ λd=>∃C g r,d=.obj C g/\uI K C/\eO K C f/\g.lookup f=some r/\Q r
def Ki{f:Str}(he:PD X e ta)(u:Qe e f X.env (eval e X.env)=eval e X.env):PD X (.Attribute e f pos) (GQ X.K ta f) :=
 ⟨(FN he.pe u).imp fun σ H Q ⟨δ,r,h⟩=>⟨δ,r,he.mono _ _ _ (fun d ⟨C,n,r,i,m,l,j,k⟩ v x p dv=>by
   subst i
   cases dv with
   |obj h1 s =>
    obtain⟨w,q,o⟩:=s.look j
    exact⟨_,_,_,_,w,rfl,h1,m,l,q,k _ x p o⟩) h⟩,
  λδ P y g h=>he.mono _ _ _ (fun d ⟨C,n,r,i,m,l,j,k⟩=>⟨C,n,r,i,m,l,j,g _ k⟩) h⟩
abbrev cU:=List D->(D->Prop)->Prop
abbrev b9(g:cU):Prop:=∀ds (P f:D->Prop),(∀d,P d->f d)->g ds P->g ds f
def qO(K:j')(f:cU):Sp:=λvs H Q _=>∃ds,bZ K H vs ds/\f ds (kD K H Q)
def gD(f:cU)(t:AD):ED:=λδ Q=>t δ λds=>f ds Q
def Hn{k:Nat}{f:Addr}{m:Pw}{o:List Str}{x:Str}{p:Pos}{i:cU}(F:cH X.prog X.w X.K X.mg X.base nZ k f m o (qO X.K i))(n:b9 i)(y:bf k X.A)(u:Gl X x)(C:X.mg x=some (.ref f))
  (q:keepIn X.K (.ref f)=true)(v:Binds X.K m o [])(l:nh X (e::es) t)(z:autoParam ((x == ("__debug__":Str))=false) b7)
  (B:PE X (.Call (.Name x p) (e::es) [] pos) (HH (qO X.K i) [] E0 (oA X.K t)):=by exact tG F y u C q v .nil qA l.pa):PD X (.Call (.Name x p) (e::es) [] pos) (gD i t) :=
 ⟨B.imp fun σ H Q ⟨δ,r,h⟩=>⟨δ,r,l.mono _ _ _ (λds h1 vs G s j=>⟨ds,by rw[Pf];exact j,n _ _ _ (λd k=>k.on s) h1⟩) h⟩,λδ P E g h=>l.mono _ _ _ (λds h1=>n _ _ _ g h1) h⟩
def vB(f:cU)(t:AD):ED:=λδ Q=>t δ λds=>f ds Q
def qi(K:j')(r:List V->Hp->VK->Prop)(f:cU):Prop:=∀H vs ds Q,bZ K H vs ds->f ds (kD K H Q)->r vs H Q
def A8{r:List V->Hp->VK->Prop}{i:cU}(o:PE X e (Ml r (oA X.K t)))(l:ng t)(p:qi X.K r i)(j:b9 i):PD X e (vB i t) :=
 ⟨o.imp fun σ H Q ⟨δ,r,h⟩=>⟨δ,r,l _ _ _ (λds h1 vs n m f=>p n vs ds Q f (j _ _ _ (λd k=>k.on m) h1)) h⟩,λδ P q g h=>l _ _ _ (λds h1=>j _ _ _ g h1) h⟩
end
structure o7 where
 nx:SD->Prop
 rt:D->Prop
 bk:SD->Prop:=λ_=>False
 ct:SD->Prop:=λ_=>False
abbrev kQ:=o7->SD->Prop
structure o7.Le (E E':o7):Prop where
 nx:∀ δ,E.nx δ->E'.nx δ
 rt:∀d,E.rt d->E'.rt d
 bk:∀ δ,E.bk δ->E'.bk δ
 ct:∀ δ,E.ct δ->E'.ct δ
abbrev xr(t:kQ):Prop:=∀E a δ,o7.Le E a->t E δ->t a δ
def kS(K:j')(H:Hp)(Q:L2.St->Hp->Prop):SD->Prop:=λδ=>∀ σ a,aK H a->cE K a σ δ->Q σ a
def lL(K:j')(H:Hp)(D:Ends):o7:=⟨kS K H D.nx,kD K H D.rt,kS K H D.bk,kS K H D.ct⟩
def kS.on{K:j'}{H a:Hp}{Q:L2.St->Hp->Prop}{δ:SD}(s:aK H a)(h:kS K H Q δ):kS K a Q δ:=λσ c b r=>h σ c (s.trans b) r
def r8{K:j'}{H a:Hp}{D:Ends}(s:aK H a):o7.Le (lL K H D) (lL K a D):=⟨λ_ h=>h.on s,λ_ h=>h.on s,λ_ h=>h.on s,λ_ h=>h.on s⟩
def oS(K:j')(t:kQ):TS:=λD σ H=>∃ δ,cE K H σ δ/\t (lL K H D) δ
structure Ah (X:Cx) (st:Stmt) (t:kQ):Prop where
 ps:PS X st (oS X.K t)
 mono:xr t
structure oU (X:Cx) (st:List Stmt) (t:kQ):Prop where
 ps:lg X st (oS X.K t)
 mono:xr t
section
variable {X:Cx}{st:Stmt}{rest body els:List Stmt}{t u:kQ}{e c:Expr}{te:ED}{uc:TD}{pos:Pos}
def PS.imp{t t':TS}(h:PS X st t)(f:∀D σ H,t' D σ H->t D σ H):PS X st t':=λa s σ H D I q=>h a s σ H D I (f D σ H q)
def lg.imp{t t':TS}(h:lg X rest t)(f:∀D σ H,t' D σ H->t D σ H):lg X rest t':=λa s σ H D I q=>h a s σ H D I (f D σ H q)
def rM:kQ:=λE δ=>E.nx δ
def Cq(t u:kQ):kQ:=λE δ=>t { E with nx:=u E } δ
def aR:oU X [] rM:=⟨lg.imp tM fun D σ H ⟨δ,r,h⟩=>h σ H (aK.refl _) r,λE a δ l h=>l.nx _ h⟩
def aH(h1:Ah X st t)(a:oU X rest u):oU X (st::rest) (Cq t u) :=
 ⟨lg.imp (qE h1.ps a.ps) fun D σ H ⟨δ,r,h⟩=>⟨δ,r,h1.mono { lL X.K H D with nx:=u (lL X.K H D)} _ _ ⟨λb q j g f r'=>⟨b,r',a.mono _ _ _ (r8 f) q⟩,λ_ q=>q,λ_ q=>q,λ_ q=>q⟩ h⟩,
  λE i δ l h=>h1.mono { E with nx:=u E } _ _ ⟨λb q=>a.mono _ _ _ l q,l.rt,l.bk,l.ct⟩ h⟩
def aE(h1:Ah X st t):oU X [st] t:=⟨yf h1.ps,h1.mono⟩
def vY(a:ED):kQ:=λE δ=>a δ E.rt
def aJ(he:PD X e te):Ah X (.Return (some e) pos) (vY te):=⟨PS.imp (Ck he.pe) fun D σ H ⟨δ,r,h⟩=>⟨δ,r,h⟩,λE a δ l h=>he.mono _ _ _ l.rt h⟩
def Lk(a:ED):kQ:=λE δ=>a δ λ_=>E.nx δ
def eS(he:PD X e te)(f:autoParam (QL e none pos.line X.env=pure false) a9):Ah X (.Expr e pos) (Lk te) :=
 ⟨PS.imp (tL he.pe f) fun D σ H ⟨δ,r,h⟩=>⟨δ,r,he.mono _ _ _ (λd q v b a dv=>q σ b a (r.same a)) h⟩,λE g δ l h=>he.mono _ _ _ (λd q=>l.nx _ q) h⟩
def Cr(i:Nat)(a:ED):kQ:=λE δ=>a δ λd=>E.nx (δ.set i (some d))
def bA{i:Nat}{x:Str}{a:Pos}(m:X.N.Nodup)(j:X.N[i]?=some x)(f:Loc X.env.scope x)(he:PD X e te)(g:autoParam (QL e (some (.Name x a)) pos.line X.env=pure false) a9)
  (n:autoParam (X.fn x=true\/X.env.scope.names.lookup x=some .local) dA):Ah X (.Assign [.Name x a] e pos) (Cr i te) :=
 ⟨PS.imp (Cm m j f he.pe g n) fun D σ H ⟨δ,r,h⟩=>⟨δ,r,he.mono _ _ _ (λd q v o b dv=>q _ o b ((r.same b).set i dv)) h⟩,λE p δ l h=>he.mono _ _ _ (λd q=>l.nx _ q) h⟩
def KU(a:TD)(t u:kQ):kQ:=λE δ=>a δ λb=>if b=true then t E δ else u E δ
def bN(g:kO X c uc)(f:oU X body t)(b:oU X els u):Ah X (.If c body els pos) (KU uc t u):=by
 refine⟨PS.imp (G_ g.pt f.ps b.ps) λD σ H ⟨δ,r,h⟩=>⟨δ,r,g.mono _ _ _ (λk q i a=>?_) h⟩,λE j δ l h=>g.mono _ _ _ (λk q=>?_) h⟩
 ·cases k with
  |true=>rw[if_pos rfl] at q ⊢;exact⟨δ,r.same a,f.mono _ _ _ (r8 a) q⟩
  |false=>rw[if_neg A'] at q ⊢;exact⟨δ,r.same a,b.mono _ _ _ (r8 a) q⟩
 ·cases k with
  |true=>rw[if_pos rfl] at q ⊢;exact f.mono _ _ _ l q
  |false=>rw[if_neg A'] at q ⊢;exact b.mono _ _ _ l q
def Jg:kQ:=λ_ _=>False
def mM:Ah X st Jg:=⟨PS.imp Cj fun D σ H ⟨δ,r,h⟩=>h,λE a δ l h=>h⟩
end
def bw(N:List Str)(ds:List D):SD:=ds.map some++RJ (N.length - ds.length) none
def gg{K:j'}{H:Hp}{N:List Str}{vs:List V}{ds:List D}(h:bZ K H vs ds):cE K H (L2.start N vs) (bw N ds):=by
 unfold L2.start bw
 have a:=h.length
 refine⟨by rw[O4,O4,G',G',Qv,Qv,a],λi d e=>?_⟩
 by_cases b:i<ds.length
 ·rw[Qf (by rw[G'];exact b),O7] at e
  cases q:ds[i]? with
  |none=>rw[q] at e;cases e
  |some d' =>
   rw[q] at e
   cases e
   obtain⟨v,c,dv⟩:=h.get q
   exact⟨v,by rw[Qf (by rw[G'];omega),O7,c];rfl,dv⟩
 ·rw[Q0 (by rw[G'];omega),R'] at e
  split at e<;>cases e
section
variable {P:O0}{w:World}{K:j'}{mg:Str->Option Value}{base:Heap}
abbrev Bx(P:O0)(w:World)(K:j')(mg:Str->Option Value)(base:Heap)(N:List Str)(b:Str)(st:Stmt)(f:Addr)(c:Value)(A:Around)(a:List Env)(s:Shared)(H:Hp)(E:XK):Cx:=(uX nZ P w K mg base N b (aB st) f c A a s H E).Iw
def OI{x b:Str}{st:Stmt}{f:Addr}{l:Pw}{N j:List Str}{k:Nat}{i:cU}{t:kQ}(F:wA K x b st f l)(S:aG N j (aB st))(len:∀ds Q,i ds Q->ds.length=j.length)
  (o:∀(c:Value) (A:Around) (a:List Env) (s:Shared) (H:Hp) (E:XK),bf k (A.deeper (envOfC b (aB st) s.heap.objs.size f c))->oU (Bx P w K mg base N b st f c A a s H E) (aw st) t)
  (p:∀ds Q,i ds Q->t { nx:=λ_=>Q .ah,rt:=Q } (bw N ds)):cH P w K mg base nZ (k+1) f l j (qO K i):=by
 refine F.ok S (fun vs H Q E ⟨ds,g,h⟩=>by rw[g.length];exact len ds _ h) (?_);rintro c A a s H vs Q E e ⟨ds,g,h⟩
 have B:=o c A a s H E e
 refine⟨_,B.ps,bw N ds,gg g,?_⟩
 refine B.mono { nx:=λ_=>kD K H Q .ah,rt:=kD K H Q } _ _ ⟨λδ q σ n m r=>q _ n m .ah,λd q=>q,λ_ q=>q.elim,λ_ q=>q.elim⟩ (p ds _ h)
end
structure HR (K:j') (J:It) (H1:Hp) (ds:List D):Prop where
 go:∀i H',aK H1 H'->i<ds.length->J.go i H'
 stop:∀H',aK H1 H'->J.stop ds.length H'
 Am:∀i H' x H'',aK H1 H'->i<ds.length->J.Am i H' x H''->aK H' H''/\∃d,ds[i]?=some d/\∃Hx,aK H1 Hx/\Dv K Hx x d/\(∀a o,Hx a=some o->H1 a=some o\/H' a=none)/\aK Hx H''
structure PId (X:Cx) (tg iter:Expr) (ti:AD):Prop where
 pi:PI X tg iter (λσ H R=>∃ δ,cE X.K H σ δ/\ti δ λds=>∀J H1,aK H H1->HR X.K J H1 ds->R J H1)
 mono:ng ti
def Bk:D->Option (List D)
 |.lst xs=>some xs
 |.tup xs=>some xs
 |.str y=>some (y.cps.toList.map λc=>.str ⟨#[c]⟩)
 |_=>none
def Av(a:ED):AD:=λδ Q=>a δ λd=>∃ds,Bk d=some ds/\Q ds
section
variable {X:Cx}{tg:Expr}{l:Expr}{te:ED}
def PI.imp{wi a:TI}(h:PI X tg l wi)(f:∀ σ H R,a σ H R->wi σ H R):PI X tg l a:=λb s σ H R I q=>h b s σ H R I (f σ H R q)
def JU{u:TE}(A:PE X l u):PI X tg l (λσ H R=>u σ H λx f=>(∃a,x=.ref a/\(∃xs,eX X.K f a xs)/\R (N_ X.K a) f)\/(∃a,x=.ref a/\(∃xs,eY X.K f a xs)/\R (OA X.K a) f)\/∃y,x=.str y/\R (Mt y) f):=by
 intro g s σ H R I h
 refine bH (A g s σ H _ I h) ?_;rintro v c ⟨x,f,i,n,z⟩
 have m:∀b∈[c.heap.objs.size],kH X g f b:=λb B=>by
  have e:b=c.heap.objs.size:=by simpa using B
  subst e
  exact i.zR (O2 _) (i.bJ.fresh (O2 _))
 rcases z with⟨a,e,⟨xs,r⟩,q⟩|⟨a,e,⟨xs,r⟩,q⟩|⟨y,e,q⟩
 ·subst e
  cases(show v=F' a from n)
  obtain⟨j,w,p,hz⟩:=i.list r
  exact wpAny_pyIter_list p.isList ⟨c.heap.objs.size,[c.heap.objs.size],_,_,f,rfl,i.kept (t':=c.toks) λb o e=>y' _ e,AW a _,⟨_,K' _ rfl,rfl,rfl⟩,m,q⟩
 ·subst e
  cases(show v=F' a from n)
  obtain⟨j,w,p,hz⟩:=i.tuple r
  exact wpAny_pyIter_tuple (show c.heap.IsTuple a j.toArray from p) ⟨c.heap.objs.size,[c.heap.objs.size],_,_,f,rfl,i.kept (t':=c.toks) λb o e=>y' _ e,xg a _,⟨_,K' _ rfl,rfl,rfl⟩,m,q⟩
 ·subst e
  obtain⟨t,rfl⟩:=n
  cases ha:y.cps.all (·<128)
  ·exact wpAny_pyIter_wide ha ⟨c.heap.objs.size,[c.heap.objs.size],_,_,f,rfl,i.kept (t':=c.toks) λb o e=>y' _ e,AY y t _,⟨_,K' _ rfl,rfl,rfl⟩,m,q⟩
  ·exact wpAny_pyIter_ascii ha ⟨c.heap.objs.size,[c.heap.objs.size],_,_,f,rfl,i.kept (t':=c.toks) λb o e=>y' _ e,AX y t _,⟨_,K' _ rfl,rfl,rfl⟩,m,q⟩
def ny(he:PD X l te):PId X tg l (Av te):=by
 refine⟨PI.imp (JU he.pe) fun σ H R ⟨δ,r,h⟩=>⟨δ,r,he.mono _ _ _ (?_) h⟩,λδ P A g h=>he.mono _ _ _ (fun d ⟨ds,e,q⟩=>⟨ds,e,g _ q⟩) h⟩;rintro d ⟨ds,e,q⟩ v m p dv
 cases dv with
 |lst h1 j =>
  cases e
  refine .inl ⟨_,rfl,⟨_,h1⟩,q _ m p ⟨λi b a f=>?_,λb a=>⟨_,a.seq h1,by rw[j.length];exact O2 _⟩,λi b x n a f y=>?_⟩⟩
  ·obtain⟨v,t,_⟩:=j.get (O9 f)
   exact⟨_,v,a.seq h1,t⟩
  ·obtain⟨rfl,o⟩:=y
   obtain⟨d,u,dv⟩:=j.we (o _ (a.seq h1))
   exact⟨aK.refl _,d,u,m,aK.refl _,dv,λ_ _ z=>.inl z,a⟩
 |tup h1 j =>
  cases e
  refine .inr (.inl ⟨_,rfl,⟨_,h1⟩,q _ m p ⟨λi b a f=>?_,λb a=>⟨_,gW a h1,by rw[j.length];exact O2 _⟩,λi b x n a f y=>?_⟩⟩)
  ·obtain⟨v,t,_⟩:=j.get (O9 f)
   exact⟨_,v,gW a h1,t⟩
  ·obtain⟨rfl,o⟩:=y
   obtain⟨d,u,dv⟩:=j.we (o _ (gW a h1))
   exact⟨aK.refl _,d,u,m,aK.refl _,dv,λ_ _ z=>.inl z,a⟩
 |str y =>
  cases e
  refine .inr (.inr ⟨_,rfl,q _ m p ⟨λi b a f=>?_,λb a=>?_,λi b x n a f y=>?_⟩⟩)
  ·have s:i<y.cps.size:=by simpa using f
   exact s
  ·show y.cps.size<=_
   simp
  ·obtain⟨rfl,c,w,rfl⟩:=y
   refine⟨aK.refl _,.str ⟨#[c]⟩,?_,m,aK.refl _,.str _,λ_ _ z=>.inl z,a⟩
   rw[O7,QH,w]
   rfl
 |_=>cases e
def Dz(t:AD):AD:=λδ Q=>t δ λds=>∃n:Int,ds=[.int n]/\-(2 ^ 62)<=n/\n<2 ^ 62/\Q ((Qj n.toNat).map λi:Nat=>.int (0+(i:Int)))
def Bj{K:j'}{H:Hp}(lo:Int)(n:Nat):HR K (MX lo n) H ((Qj n).map λi:Nat=>.int (lo+(i:Int))):=by
 refine⟨λi e b c=>?_,λe b=>?_,λi e x f b c y=>?_⟩
 ·have a:i<n:=by simpa using c
  exact a
 ·show n<=_
  simp
 ·obtain⟨rfl,rfl⟩:=y
  have a:i<n:=by simpa using c
  exact⟨aK.refl _,.int (lo+i),by rw[O7,Sl a];rfl,H,aK.refl _,.int _,λ_ _ z=>.inl z,b⟩
def l9{a:Expr}{j:AD}{p pos:Pos}(o:Gl X "range")(t:X.mg "range"=none)(i:nh X [a] j)(s:autoParam (starEach [a] X.env=[(false,eval a X.env)]) a9):PId X tg (.Call (.Name "range" p) [a] [] pos) (Dz j):=by
 refine⟨PI.imp (z9 o t i.pa s) fun σ H R ⟨δ,r,h⟩=>⟨δ,r,i.mono _ _ _ (?_) h⟩,λδ P v g h=>i.mono _ _ _ (fun ds ⟨n,e,h1,c,q⟩=>⟨n,e,h1,c,g _ q⟩) h⟩;rintro ds ⟨n,e,h1,c,q⟩ vs u m f
 subst e
 cases f with
 |cons a b =>
  cases a
  cases b
  exact⟨n,rfl,h1,c,q _ u m (Bj 0 n.toNat)⟩
end
abbrev Dn:=D->SD->(SD->Prop)->Prop
structure KZ (X:Cx) (tg:Expr) (g:Dn):Prop where
 pg:PG X tg (λv σ H Q=>∃d δ,Dv X.K H v d/\cE X.K H σ δ/\g d δ (kS X.K H Q))
 mono:∀d δ (P P':SD->Prop),(∀ δ,P δ->P' δ)->g d δ P->g d δ P'
def hName(i:Nat):Dn:=λd δ Q=>Q (δ.set i (some d))
section
variable {X:Cx}{tg iter:Expr}{body:List Stmt}{ti:AD}{g:Dn}{tb:kQ}{pos:Pos}
def PG.imp{t t':TG}(h:PG X tg t)(f:∀v σ H Q,t' v σ H Q->t v σ H Q):PG X tg t':=λa s σ H v u Q I r q=>h a s σ H v u Q I r (f v σ H Q q)
def gu{i:Nat}{x:Str}(b:X.N.Nodup)(c:X.N[i]?=some x)(a:Loc X.env.scope x)(e:autoParam (X.fn x=true\/X.env.scope.names.lookup x=some .local) dA):KZ X (.Name x pos) (hName i) :=
 ⟨PG.imp (cT b c a e) fun v σ H Q ⟨d,δ,dv,r,q⟩=>q _ H (aK.refl _) (r.set i dv),λd δ P h f q=>f _ q⟩
def NZ(f:AD)(g:Dn)(e:kQ):kQ:=λE δ=>f δ λds=>∃a:Nat->SD->Prop,a 0 δ /\
 (∀i d b,ds[i]?=some d->a i b->g d b λc=>e { E with nx:=a (i+1),ct:=a (i+1),bk:=E.nx } c)/\∀ b,a ds.length b->E.nx b
def Lw(hp:WA (model X.prog X.w) X.A X.env X.xe)(hc:X.calm=true)(z:PId X tg iter ti)(Q:KZ X tg g)(R:oU X body tb)(hs:autoParam (∀x,foldedSetIterable iter X.env x=pure x) c7) :
  Ah X (.For tg iter body [] pos) (NZ ti g tb):=by
 refine⟨PS.imp (Cg hp hc z.pi Q.pg R.ps hs) fun D σ H ⟨δ,r,h⟩=>⟨δ,r,z.mono _ _ _ (?_) h⟩,λE E' δ l h=>z.mono _ _ _ (fun ds ⟨a,L,step,f⟩=>⟨a,L,λi d b O c=>Q.mono _ _ _ _ (λj q=>R.mono { E with nx:=a (i+1),ct:=a (i+1),bk:=E.nx } _ _ ⟨λ_ q=>q,l.rt,l.nx,λ_ q=>q⟩ q) (step i d b O c),λb q=>l.nx _ (f b q)⟩) h⟩;rintro ds ⟨a,L,step,f⟩ J U P G
 refine⟨λi m B o=>m=ds.length - i/\i<=ds.length/\aK U o/\∃ b,cE X.K o B b/\a i b,⟨ds.length,rfl,P6 _,aK.refl _,δ,r.same P,L⟩,?_⟩
 rintro i m B o ⟨rfl,hle,s,b,r',c⟩
 by_cases p:i<ds.length
 ·refine .inr ⟨G.go i o s p,λW S=>aK U S/\∃ j,cE X.K S W j/\a (i+1) j,fun W S ⟨t,j,r2,Y⟩=>⟨ds.length - (i+1),by omega,rfl,p,t,j,r2,Y⟩,λx v y=>?_⟩
  obtain⟨t,d,O,Hx,_,u,_,sx⟩:=G.Am i o x v s p y
  have dv:=u.same sx
  have F:=s.trans t
  refine⟨d,b,dv,r'.same t,Q.mono _ _ _ _ (λj q σ3 H3 I r3=>⟨j,r3,R.mono { lL X.K H D with nx:=a (i+1),ct:=a (i+1),bk:=(lL X.K H D).nx } _ _ ?_ q⟩) (step i d b O c)⟩
  have T:=P.trans (F.trans I)
  exact⟨λN n Z H4 M C=>⟨F.trans (I.trans M),N,C,n⟩,λ_ n=>n.on T,λ_ n=>n.on T,λN n Z H4 M C=>⟨F.trans (I.trans M),N,C,n⟩⟩
 ·have e:i=ds.length:=by omega
  subst e
  exact .inl ⟨G.stop o s,f b c B o (P.trans s) r'⟩
end
structure wK (X:Cx) (ifs:List Expr) (t:TD):Prop where
 NX:xu X ifs (oT X.K t)
 mono:gM t
def GL:TD:=λ_ Q=>Q true
section
variable {X:Cx}{c:Expr}{ut:TD}
def xu.imp{a:List Expr}{t t':TT}(h:xu X a t)(f:∀ σ H Q,t' σ H Q->t σ H Q):xu X a t':=λb s σ H Q I q=>h b s σ H Q I (f σ H Q q)
def iF:wK X [] GL:=⟨xu.imp Fh fun σ H Q ⟨δ,r,h⟩=>h H (aK.refl _),λδ P a g h=>g _ h⟩
def J3(h:kO X c ut):wK X [c] ut:=⟨Fi h.pt,h.mono⟩
end
def kI(caps:List Nat)(δ:SD):SD:=caps.map λj=>(δ[j]?).getD none
def qR(caps:List Nat)(e:AD)(tt:TD)(c:ED):ED:=λδ Q=>e δ λds=>∃a:List (Option D),a.length=ds.length /\
 (∀(i:Nat) (d:D) (o:Option D),ds[i]?=some d->a[i]?=some o->tt (some d::kI caps δ) λb=>b=o.isSome/\(b=true->c (some d::kI caps δ) λy=>o=some y))/\ds.length<sizeLine/\Q (.lst (a.filterMap id))
def xy{K:j'}{H:Hp}{σ:L2.St}{δ:SD}(r:cE K H σ δ){x:V}{d:D}(dv:Dv K H x d)(caps:List Nat):cE K H (some x::caps.map λj=>(σ[j]?).getD none) (some d::kI caps δ):=by
 refine⟨by unfold kI;simp,λi e h=>?_⟩
 cases i with
 |zero=>simp at h;subst h;exact⟨x,rfl,dv⟩
 |succ i =>
  unfold kI at h
  simp only[SA,O7] at h ⊢
  cases q:caps[i]? with
  |none=>rw[q] at h;cases h
  |some j =>
   rw[q] at h
   have h':(δ[j]?).getD none=some e:=by simpa using h
   have b:δ[j]?=some (some e):=by
    cases z:δ[j]? with
    |none=>rw[z] at h';cases h'
    |some o=>rw[z] at h';exact congrArg some h'
   obtain⟨v,a,dv⟩:=r.get j e b
   exact⟨v,by simp[a],dv⟩
def uV{K:j'}{caps:List Nat}{U:AD}{tt:TD}{P:ED}(mi:ng U)(mt:gM tt)(me:bP P){σ:L2.St}{H:Hp}{Q:VK}(h:oE K (qR caps U tt P) σ H Q) :
  yg 1 caps (λσ H R=>∃ δ,cE K H σ δ/\U δ λds=>∀J s,aK H s->HR K J s ds->R J s) (ir 0) (xj (oT K tt)) (xY (oE K P)) σ H Q:=by
 obtain⟨δ,r,h⟩:=h
 refine⟨δ,r,mi _ _ _ (?_) h⟩;rintro ds ⟨c,u,t,C,q⟩ J s s1 O D hD
 refine⟨λi m ys W=>m=ds.length - i/\i<=ds.length/\∃p,p D=none/\aK s p/\bZ K p ys ((c.take i).filterMap id)/\W=upd p D (.lst ys),⟨ds.length,rfl,P6 _,s,hD,aK.refl _,.nil,rfl⟩,?_⟩
 rintro i m ys W ⟨rfl,hle,p,F,E,g,rfl⟩
 refine⟨aI,?_⟩
 have I:aK s (upd p D (.lst ys)):=E.trans (aO F)
 by_cases l:i<ds.length
 ·refine .inr ⟨O.go i _ I l,λx f y=>?_⟩
  obtain⟨s2,d,hd,Hx,sx1,L,only,sx⟩:=O.Am i _ x f I l y
  have M:f D=some (.lst ys):=s2 _ _ aI
  have N:∀a o,s a=some o->a≠D:=λa o z=>bD z hD
  have S:∀a o,Hx a=some o->a≠D:=λa o z w=>by
   rcases only a o z with G|G
   ·exact N a o G w
   ·rw[w,aI] at G;cases G
  have A:aK p (del f D):=λa o z=>by
   rw[pH (bD z F)]
   exact s2 a o (aO F a o z)
  have T:aK Hx (del f D):=λa o z=>by
   rw[pH (S a o z)]
   exact sx a o z
  obtain⟨o,ho⟩:∃o,c[i]?=some o:=⟨_,O9 (show i<c.length by omega)⟩
  have B:cE K (del f D) (some x::caps.map λj=>(σ[j]?).getD none) (some d::kI caps δ):=xy (r.same (s1.trans (E.trans A))) (L.same T) caps
  refine⟨Le.one,D,ys,M,_,B,mt _ _ _ (?_) (t i d o hd ho)⟩;rintro b ⟨eb,hb⟩ Y X h3
  have ht:c.take (i+1)=c.take i++[o]:=by rw[VW,ho];rfl
  have n:aK p Y:=A.trans X
  cases b with
  |false =>
   refine aF ?_
   refine⟨ds.length - (i+1),by omega,rfl,l,Y,h3,E.trans n,?_,rfl⟩
   have on:o=none:=by cases o with|none=>rfl|some z=>cases eb
   rw[ht,on,RP]
   simpa using g.same n
  |true =>
   refine aS ?_
   refine⟨D,ys,aI,?_⟩
   rw[yC h3]
   refine⟨_,B.same X,me _ _ _ (λy ey v H4 Z dv h4=>⟨aI,?_,ds.length - (i+1),by omega,rfl,l,H4,h4,E.trans (n.trans Z),?_,oz⟩) (hb rfl)⟩
   ·rw[g.length]
    exact Pg (PB (R5 _ _) (Ug _ _)) (by rw[u];exact C)
   ·rw[ht,ey,RP]
    exact(g.same (n.trans Z)).append (.cons dv .nil)
 ·have e:i=ds.length:=by omega
  subst e
  refine .inl ⟨O.stop _ I,?_⟩
  rw[<- u,VB] at g
  exact q _ _ (s1.trans I) (.lst (eX.of aI) (g.same (aO F)))
section
variable {X:Cx}{scope:Scope}{cl:List (Str × Addr)}{x:Str}{cn:List Str}{caps:List Nat}{elt tg iter:Expr}{ifs:List Expr}{ti:AD}{tt:TD}{te:ED}{pos:Pos}
def xA(f:ng ti):bP (qR caps ti tt te):=λδ P i g h=>f _ _ _ (fun ds ⟨b,e,a,c,q⟩=>⟨b,e,a,c,g _ q⟩) h
def Ho(S:cB X scope cl [x] caps cn)(l:X.calm=true)(e:PId X tg iter ti)(g:∀C a b c,PG (ay X scope cl C ([x]++cn) a b c) tg (ir 0))(f:∀C a b c,wK (ay X scope cl C ([x]++cn) a b c) ifs tt)
  (he:∀C a b c,PD (ay X scope cl C ([x]++cn) a b c) elt te)(mt:gM tt)(i:bP te)(j:autoParam (∀x,foldedSetIterable iter X.env x=pure x) c7):PD X (.ListComp elt [⟨tg,iter,ifs,0⟩] scope pos) (qR caps ti tt te) :=
 ⟨(yV S l e.pi g (λC a b c=>lU (f C a b c).NX) (λC a b c=>nP (he C a b c).pe) j).imp λσ H Q h=>uV e.mono mt i h,xA e.mono⟩
def Jj{i:Nat}{y:Str}{m e:Pos}(t:X.N.Nodup)(j:X.N[i]?=some y)(s:Loc X.env.scope y)(S:cB X scope cl [x] caps cn)(w:X.calm=true)(f:PId X tg iter ti)
  (A:∀C c b a,PG (ay X scope cl C ([x]++cn) c b a) tg (ir 0))(z:∀C c b a,wK (ay X scope cl C ([x]++cn) c b a) ifs tt)(he:∀C c b a,PD (ay X scope cl C ([x]++cn) c b a) elt te)(mt:gM tt)(B:bP te)
  (g:autoParam (QL (.ListComp elt [⟨tg,iter,ifs,0⟩] scope pos) (some (.Name y m)) e.line X.env=pure true) a9)(o:autoParam (X.fn y=true\/X.env.scope.names.lookup y=some .local) dA)
  (p:autoParam (∀x,foldedSetIterable iter X.env x=pure x) c7):Ah X (.Assign [.Name y m] (.ListComp elt [⟨tg,iter,ifs,0⟩] scope pos) e) (Cr i (qR caps ti tt te)) :=
 ⟨PS.imp (FZ t j s S w f.pi A (λC c b a=>lU (z C c b a).NX) (λC c b a=>nP (he C c b a).pe) g o p) fun D σ H ⟨δ,r,h⟩ =>
   uV f.mono mt B ⟨δ,r,xA f.mono _ _ _ (λd q v u n dv=>q _ u n ((r.same n).set i dv)) h⟩,
  λE F δ l h=>xA f.mono _ _ _ (λd q=>l.nx _ q) h⟩
end
def vA:D->Option String
 |.ah=>some "NoneType"
 |.bl _=>some "bool"
 |.int _=>some "int"
 |.str _=>some "str"
 |.lst _=>some "list"
 |.tup _=>some "tuple"
 |.dK _=>some "dict"
 |.dT _=>some "dict"
 |.obj _ _=>none
 |.adr _=>none
 |.exc _ _ _=>none
structure ig (K:j') (C:Addr):Prop where
 cl:uI K C
 ha:findIn K (.ref C) "__class__"=some (some (.builtin "object.__class__"))
 hn:Ua K (.builtin "object.__class__") "__get__"=some (some (.builtin "getset_descriptor.__get__"))
 Oc:Ur K (.builtin "object.__class__")=some true
 hm:U7 K C (.type "object")=some true
inductive Gb (K:j'):D->Value->Prop
 |k {d:D} {T:String} (h:vA d=some T):Gb K d (.type T)
 |o {C:Addr} {gs:List (Str × D)} (h:ig K C):Gb K (.obj C gs) (.ref C)
section
variable {X:Cx}{pins:List (Addr × Obj)}{σ:L2.St}{H:Hp}{s:Shared}
def yL{x:V}{u t:Value}{d:D}(I:Inv X pins σ H s)(b:RelV x u)(dv:Dv X.K H x d)(A:Gb X.K d t):∃r,PySem.W.KitX X.K u t r/\r s.heap/\u≠.builtin "__main__.__loader__#opaque":=by
 cases A with
 |k h =>
  cases dv with
  |ah=>cases h;cases(show u=QM from b);exact⟨_,PySem.W.kitx_none,QN,λz=>nomatch z⟩
  |bl y=>cases h;cases(show u=Qh y from b);exact⟨_,PySem.W.kitx_bool,QN,λz=>nomatch z⟩
  |int i=>cases h;obtain⟨t,q⟩:=(show ∃t,u=Rf i t from b);cases q;exact⟨_,PySem.W.kitx_int,QN,λz=>nomatch z⟩
  |str y=>cases h;obtain⟨t,q⟩:=(show ∃t,u=Ql y t from b);cases q;exact⟨_,PySem.W.kitx_str,QN,λz=>nomatch z⟩
  | @lst a xs ds h1 e =>
   cases h
   cases(show u=F' a from b)
   obtain⟨j,_,pl,_⟩:=I.list h1
   obtain⟨o,n,m,l,_⟩:=pl
   exact⟨_,PySem.W.kitx_list,⟨o,m,l⟩,λz=>nomatch z⟩
  | @tup a xs ds h1 e =>
   cases h
   cases(show u=F' a from b)
   obtain⟨j,_,pl,_⟩:=I.tuple h1
   obtain⟨o,n,m,l,_⟩:=IsTup.of_get pl
   exact⟨_,PySem.W.kitx_tuple,⟨o,m,l⟩,λz=>nomatch z⟩
  | @dK a c v h1 e =>
   cases h
   cases(show u=F' a from b)
   obtain⟨_,_,vs,_,p⟩:=(show bI X.prog X.w H s.heap a (.dK c) from h1.ok I.bJ)
   obtain⟨o,es,ep,f,g,_⟩:=p
   exact⟨_,Ub,⟨o,f,g.1⟩,λz=>nomatch z⟩
  | @dT a c v h1 e =>
   cases h
   cases(show u=F' a from b)
   obtain⟨⟨_,_,_,_,o,es,ep,f,g,_⟩,_⟩:=(show bI X.prog X.w H s.heap a (iI a c) from h1.ok I.bJ)
   exact⟨_,Ub,⟨o,f,g.1⟩,λz=>nomatch z⟩
  |obj h1 e=>cases h
  |adr _=>cases h
  |exc _ _ _=>cases h
 |o h =>
  cases dv with
  | @obj a C F fs v h1 e =>
   cases(show u=F' a from b)
   obtain⟨B,O,_⟩:=pT I.bJ h1
   obtain⟨E,J,_⟩:=O.look
   exact⟨_,PySem.W.kitx_own (h.cl.get _) h.cl.hd h.ha h.hn h.Oc h.hm,J,λz=>nomatch z⟩
end
section
variable {X:Cx}{e:Expr}{te:ED}{pos p p2:Pos}
def zC{c:Value}{vc:V}(n:∀u,RelV vc u->u=c):kK X (.builtin "isinstance") (λxs H Q=>∃x d t b,xs=[x,vc]/\Dv X.K H x d/\Gb X.K d t/\kitOne X.K t c=some b/\Q (.bl b) H):=by
 intro a s σ H xs us Q I r h
 obtain⟨x,d,t,b,rfl,dv,m,e,q⟩:=h
 obtain⟨u,j,rfl,g,i⟩:=vals2 r
 obtain rfl:=n j i
 obtain⟨o,Z,l,f⟩:=yL I g dv m
 exact PySem.W.kia_one Z I.qx l e f λtk=>⟨.bl b,H,I.tok _,rfl,q⟩
def KD(K:j')(c:Value)(a:ED):ED:=λδ Q=>a δ λd=>∃t b,Gb K d t/\kitOne K t c=some b/\Q (.bl b)
def BA{c:Value}{vc:V}(he:PD X e te){i:Expr}(l:PE X (.Call (.Name "isinstance" p) [e,i] [] pos) (Ml (λxs H Q=>∃x d t b,xs=[x,vc]/\Dv X.K H x d/\Gb X.K d t/\kitOne X.K t c=some b/\Q (.bl b) H) (yo (oE X.K te) (yo (tC vc) F_)))) :
  PD X (.Call (.Name "isinstance" p) [e,i] [] pos) (KD X.K c te) :=
 ⟨l.imp fun σ H Q ⟨δ,r,h⟩=>⟨δ,r,he.mono _ _ _ (fun d ⟨t,b,f,a,k⟩ v m j dv=>⟨v,d,t,b,rfl,dv,f,a,k _ m j (.bl _)⟩) h⟩,λδ P n g h=>he.mono _ _ _ (fun d ⟨t,b,f,a,k⟩=>⟨t,b,f,a,g _ k⟩) h⟩
def ro{T:String}{x:Str}(he:PD X e te)(g:Gl X "isinstance")(i:X.mg "isinstance"=none)(b:Gl X x)(c:X.mg x=none)(a:Px x=some (.type T))(j:autoParam (x≠"__name__") b7)(h:autoParam ((x == ("__debug__":Str))=false) b7)
  (f:autoParam (starEach [e,.Name x p2] X.env=(false,eval e X.env)::starEach [.Name x p2] X.env) a9):PD X (.Call (.Name "isinstance" p) [e,.Name x p2] [] pos) (KD X.K (.type T) te) :=
 BA (vc:=.ty T) he (i8 (zC λu z=>z) g i Ww (d8 he.pe (d8 (tF (v:=.ty T) b c a rfl j h) lS) f) (he:=f))
end
def iX(T:String)(d:D):Option Bool:=(vA d).map λk=>k == T||(k == "bool"&&T == "int")
def sR{K:j'}{d:D}{k T:String}(b:vA d=some k)(hT:T∈["bool","int","str","list","tuple","dict"]):kitOne K (.type k) (.type T)=some (k == T||(k == "bool"&&T == "int")):=by
 have a:k∈["NoneType","bool","int","str","list","tuple","dict"]:=by cases d<;>cases b<;>simp
 simp only[B',C',or_false] at a hT
 rcases a with rfl|rfl|rfl|rfl|rfl|rfl|rfl<;>rcases hT with rfl|rfl|rfl|rfl|rfl|rfl<;>kernel_rfl
def rV(T:String)(a:ED):ED:=λδ Q=>a δ λd=>∃b,iX T d=some b/\Q (.bl b)
def PD.iX{X:Cx}{e:Expr}{c:ED}{T:String}(h:PD X e (KD X.K (.type T) c))(m:bP c)(hT:T∈["bool","int","str","list","tuple","dict"]):PD X e (rV T c) :=
 ⟨h.pe.imp fun σ H Q ⟨δ,r,q⟩=>⟨δ,r,m _ _ _ (fun d ⟨b,a,k⟩=>by
   unfold DC.iX at a
   cases hk:vA d with
   |none=>rw[hk] at a;cases a
   |some f =>
    rw[hk] at a
    have i:(f == T||(f == "bool"&&T == "int"))=b:=by simpa using a
    exact⟨_,b,.k hk,by rw[sR hk hT,i],k⟩) q⟩,λδ P j g q=>m _ _ _ (fun d ⟨b,a,k⟩=>⟨b,a,g _ k⟩) q⟩
def NG:D->Option Int
 |.str x=>if x.length<=sizeLine then some x.length else none
 |.lst xs=>some xs.length
 |.tup xs=>some xs.length
 |_=>none
def C2:cU:=λds Q=>∃d n,ds=[d]/\NG d=some n/\Q (.int n)
def LR:b9 C2:=fun ds P a g ⟨d,n,e,h,q⟩=>⟨d,n,e,h,g _ q⟩
def BO{K:j'}:qi K (λxs H Q=>∃x n,xs=[x]/\KW K x H n/\Q (.int n) H) C2:=by
 intro H vs ds Q a ⟨d,n,e,h,q⟩
 subst e
 cases a with
 |cons dv r =>
  cases r
  cases dv with
  |str x =>
   have h':(if x.length<=sizeLine then some (x.length:Int) else none)=some n:=h
   by_cases hz:x.length<=sizeLine
   ·rw[if_pos hz] at h'
    cases h'
    exact⟨_,x.length,rfl,⟨hz,rfl⟩,q _ H (aK.refl _) (.int _)⟩
   ·rw[if_neg hz] at h'
    cases h'
  |lst h1 b=>cases h;exact⟨_,_,rfl,.inl ⟨_,h1,rfl⟩,by rw[b.length];exact q _ H (aK.refl _) (.int _)⟩
  |tup h1 b=>cases h;exact⟨_,_,rfl,.inr ⟨_,h1,rfl⟩,by rw[b.length];exact q _ H (aK.refl _) (.int _)⟩
  |_=>cases h
section
variable {X:Cx}{e:Expr}{es:List Expr}{t:AD}{pos p:Pos}
def lz(c:Gl X "len")(b:X.mg "len"=none)(a:nh X (e::es) t)(h1:autoParam (starEach (e::es) X.env=(false,eval e X.env)::starEach es X.env) a9)(f:autoParam ((backTo pos (starEach es X.env)).any (·.1)=false) a9) :
  PD X (.Call (.Name "len" p) (e::es) [] pos) (vB C2 t):=A8 (i8 A1 c b PySem.boot_len a.pa (he:=h1) (hpl:=f)) a.mono BO LR
def qp:Px "int"=some (.type "int"):=by decide +kernel
def wN:Px "bool"=some (.type "bool"):=by decide +kernel
def boot_tuple:Px "tuple"=some (.type "tuple"):=by decide +kernel
def boot_list:Px "list"=some (.type "list"):=by decide +kernel
def yy:Px "all"=some (.builtin "all"):=by decide +kernel
def C0:cU:=λds Q=>(∃i,ds=[.int i]/\Q (.int i))\/∃k:Bool,ds=[.bl k]/\Q (.int (if k then 1 else 0))
def LO:b9 C0:=λds P a g h=>h.elim (fun⟨i,e,q⟩=>.inl ⟨i,e,g _ q⟩) fun⟨k,e,q⟩=>.inr ⟨k,e,g _ q⟩
def BM{K:j'}:qi K (λxs H Q=>(∃i,xs=[.int i]/\Q (.int i) H)\/∃k,xs=[.bl k]/\Q (.int (if k then 1 else 0)) H) C0:=by
 intro H vs ds Q a h
 rcases h with⟨i,e,q⟩|⟨k,e,q⟩
 ·subst e
  cases a with
  |cons dv r=>cases r;cases dv;exact .inl ⟨i,rfl,q _ H (aK.refl _) (.int _)⟩
 ·subst e
  cases a with
  |cons dv r=>cases r;cases dv;exact .inr ⟨k,rfl,q _ H (aK.refl _) (.int _)⟩
def gP(c:Gl X "int")(b:X.mg "int"=none)(a:nh X (e::es) t)(h1:autoParam (starEach (e::es) X.env=(false,eval e X.env)::starEach es X.env) a9)(f:autoParam ((backTo pos (starEach es X.env)).any (·.1)=false) a9):PD X (.Call (.Name "int" p) (e::es) [] pos) (vB C0 t):=A8 (nO zA c b qp a.pa (he:=h1) (hpl:=f)) a.mono BM LO
def yh:cU:=λds Q=>∃(bs:List Bool),ds=[.lst (bs.map D.bl)]/\Q (.bl (bs.all id))
def LM:b9 yh:=fun ds P a g ⟨bs,e,q⟩=>⟨bs,e,g _ q⟩
def yu{K:j'}{H:Hp}:∀{vs:List V} {bs:List Bool},bZ K H vs (bs.map D.bl)->vs=bs.map V.bl
 |[],[],_=>rfl
 |_,_::_,.cons (.bl _) r=>by rw[yu r];rfl
def BK{K:j'}{A:Around}(b:A.handled=none):qi K (λxs H Q=>∃(p:Addr) (bs:List Bool),xs=[.ref p]/\A.handled=none/\eX K H p (bs.map V.bl)/\Q (.bl (bs.all id)) H) yh:=by
 intro H vs ds Q a ⟨bs,e,q⟩
 subst e
 cases a with
 |cons dv r =>
  cases r
  cases dv with
  |lst h1 c =>
   rw[yu c] at h1
   exact⟨_,bs,rfl,b,h1,q _ H (aK.refl _) (.bl _)⟩
def A7(f:X.A.handled=none)(b:Gl X "all")(g:X.mg "all"=none)(a:nh X (e::es) t)(h1:autoParam (starEach (e::es) X.env=(false,eval e X.env)::starEach es X.env) a9)(c:autoParam ((backTo pos (starEach es X.env)).any (·.1)=false) a9):PD X (.Call (.Name "all" p) (e::es) [] pos) (vB yh t):=A8 (i8 A0 b g yy a.pa (he:=h1) (hpl:=c)) a.mono (BK f) LM
end
structure OR (X:Cx) (C:Addr) (m:Str) (sd:cU) (dd:List D) (k:Nat) (f:Addr) (fd:Pw) (ps:List Str) (dvs:List V) (ds:List Value):Prop where
 cls:uI X.K C
 E1:Meth X.K C m f
 fn:cH X.prog X.w X.K X.mg X.base nZ k f fd ps (qO X.K sd)
 mono:b9 sd
 room:bf k X.A
 binds:Binds X.K fd ps ds
 vals:Vals dvs ds
 dflt:∀H,bZ X.K H dvs dd
structure MH (X:Cx) (C:Addr) (m:Str) (sd:cU) (dd:List D):Prop where
 ex:∃k f fd ps dvs ds,OR X C m sd dd k f fd ps dvs ds
def lF(ok:Addr->Prop)(m:Str)(e:Addr->cU)(b:List D)(c:ED)(t:AD):ED:=λδ Q=>c δ λd=>∃C a,d=.obj C a/\a.lookup m=none/\ok C/\t δ λds=>e C (d::(ds++b)) Q
section
variable {X:Cx}{ok:Addr->Prop}{o e:Expr}{es:List Expr}{m:Str}{sd:Addr->cU}{dd:List D}{ta:ED}{t:AD}{pos apos:Pos}
def xZ(X:Cx)(m:Str)(g:Addr->cU)(c:List D)(j:TE)(t:TA):TE:=λσ H Q=>j σ H λx f=>∃a C h fs,x=.ref a/\Rd f a (.ins C h fs)/\fs.lookup m=none/\MH X C m (g C) c /\
 ∀b,(∀H,bZ X.K H b c)->t σ f λvs i=>qO X.K (g C) (x::(vs++b)) i Q E0
def CV{i:TE}{t:TA}{pl:Sem Bool}(he:PE X o i)(v:PA X (e::es) t)
  (g:autoParam (starEach (e::es) X.env=(false,eval e X.env)::starEach es X.env) a9)(hpl:autoParam ((backTo pos (starEach es X.env)).any (·.1)=false) a9)
  (B:autoParam (eval (.Call (.Attribute o m apos) (e::es) [] pos) X.env=(do
   let ov <- eval o X.env
   Rw apos.atName
   let (f,first) <- holding [ov] (getMethod ov m pl)
   SV pos f first (backTo pos (starEach (e::es) X.env)) (backToKw pos (keywordEach [] X.env)))) a9) :
  PE X (.Call (.Attribute o m apos) (e::es) [] pos) (xZ X m sd dd i t):=by
 intro b s σ H Q I h
 refine SF (pl:=pl) (bH (he b s σ H _ I h) ?_) B;rintro u E ⟨x,z,n,A,a,C,L,fs,w,p,l,⟨k,f,G,F,c,ds,M⟩,q⟩
 subst w
 obtain rfl:u=F' a:=A
 refine iu n p M.cls M.E1 l ?_
 refine UP (first:=[.ref a]) (h₀:=X.base) I.ok.mod.KR M.E1.kp (bH (v pos b E σ z _ n (q c M.dflt)) fun us J ⟨vs,N,j,r,y⟩=>⟨j.qx,?_⟩) g hpl
 exact tO (us:=.ref a::us) (vs:=.ref a::vs) M.fn M.room M.binds M.vals qA j (.cons rfl r) y
def zy{i:TE}{pl:Sem Bool}(he:PE X o i)
  (j:autoParam (eval (.Call (.Attribute o m apos) [] [] pos) X.env=(do
   let ov <- eval o X.env
   Rw apos.atName
   let (f,first) <- holding [ov] (getMethod ov m pl)
   SV pos f first (backTo pos (starEach [] X.env)) (backToKw pos (keywordEach [] X.env)))) a9) :
  PE X (.Call (.Attribute o m apos) [] [] pos) (xZ X m sd dd i F_):=by
 intro b s σ H Q I h
 refine SF (pl:=pl) (bH (he b s σ H _ I h) ?_) j;rintro u w ⟨x,z,c,p,a,C,y,fs,r,n,l,⟨k,f,v,A,g,ds,M⟩,q⟩
 subst r
 obtain rfl:u=F' a:=p
 refine iu c n M.cls M.E1 l ?_
 exact PySem.W.callWith_K0 (first:=[.ref a]) c.qx M.E1.kp (tO (us:=[.ref a]) (vs:=[.ref a]) M.fn M.room M.binds M.vals qA c (.cons rfl .nil) (q g M.dflt))
def B3(f:∀C,ok C->MH X C m (sd C) dd)(b:bP ta)(mt:ng t):bP (lF ok m sd dd ta t):=λδ P i g h=>b _ _ _ (fun d ⟨C,c,e,l,M,q⟩=>⟨C,c,e,l,M,mt _ _ _ (λds k=>by
 obtain⟨_,_,_,_,_,_,a⟩:=f C M
 exact a.mono _ _ _ g k) q⟩) h
def yR(g:∀C,ok C->MH X C m (sd C) dd)(s:bP ta)(mt:ng t){σ:L2.St}{H:Hp}{Q:VK}(h:oE X.K (lF ok m sd dd ta t) σ H Q):xZ X m sd dd (oE X.K ta) (oA X.K t) σ H Q:=by
 obtain⟨δ,r,h⟩:=h
 refine⟨δ,r,s _ _ _ (?_) h⟩;rintro d ⟨C,w,n,l,M,q⟩ v z c dv
 subst n
 cases dv with
 | @obj a C p fs w h1 f =>
  refine⟨_,C,p,fs,rfl,h1,f.none l,g C M,λu y=>⟨δ,r.same c,mt _ _ _ (λds k vs x i b=>?_) q⟩⟩
  obtain⟨_,_,_,_,_,_,j⟩:=g C M
  exact⟨_,.cons (Dv.same i (.obj h1 f)) (b.append (y x)),j.mono _ _ _ (λd k=>k.on (c.trans i)) k⟩
def Hz{pl:Sem Bool}(c:∀C,ok C->MH X C m (sd C) dd)(he:PD X o ta)(b:nh X (e::es) t)
  (a:autoParam (starEach (e::es) X.env=(false,eval e X.env)::starEach es X.env) a9)(hpl:autoParam ((backTo pos (starEach es X.env)).any (·.1)=false) a9)
  (g:autoParam (eval (.Call (.Attribute o m apos) (e::es) [] pos) X.env=(do
   let ov <- eval o X.env
   Rw apos.atName
   let (f,first) <- holding [ov] (getMethod ov m pl)
   SV pos f first (backTo pos (starEach (e::es) X.env)) (backToKw pos (keywordEach [] X.env)))) a9) :
  PD X (.Call (.Attribute o m apos) (e::es) [] pos) (lF ok m sd dd ta t) :=
 ⟨(CV he.pe b.pa a hpl g).imp λσ H Q h=>yR c he.mono b.mono h,B3 c he.mono b.mono⟩
def EB{pl:Sem Bool}(c:∀C,ok C->MH X C m (sd C) dd)(he:PD X o ta)
  (n:autoParam (eval (.Call (.Attribute o m apos) [] [] pos) X.env=(do
   let ov <- eval o X.env
   Rw apos.atName
   let (f,first) <- holding [ov] (getMethod ov m pl)
   SV pos f first (backTo pos (starEach [] X.env)) (backToKw pos (keywordEach [] X.env)))) a9) :
  PD X (.Call (.Attribute o m apos) [] [] pos) (lF ok m sd dd ta bG) :=
 ⟨(zy he.pe n).imp λσ H Q h=>by
   have q:=yR (t:=bG) c he.mono (λδ P j g h=>g _ h) h
   obtain⟨δ,r,h'⟩:=q
   refine⟨δ,r,he.mono _ _ _ (λd k v i p dv=>?_) h'⟩
   obtain⟨a,C,s,fs,x,w,l,M,z⟩:=k v i p dv
   refine⟨a,C,s,fs,x,w,l,M,λb y=>?_⟩
   obtain⟨A,r',u⟩:=z b y
   exact u [] i (aK.refl _) .nil,B3 c he.mono λδ P j g h=>g _ h⟩
end
abbrev FD:=List (Str × D)
structure qj where
 nx:SD->FD->Prop
 rt:FD->Prop
 fin:FD->Prop
abbrev yv:=qj->SD->FD->Prop
structure qj.Le (E E':qj):Prop where
 nx:∀ δ gs,E.nx δ gs->E'.nx δ gs
 rt:∀gs,E.rt gs->E'.rt gs
 fin:∀gs,E.fin gs->E'.fin gs
abbrev GX(t:yv):Prop:=∀E b δ a,qj.Le E b->t E δ a->t b δ a
def putD(f:Str)(d:D):FD->FD
 |[]=>[(f,d)]
 | (g,e)::r=>if g=f then(g,d)::r else(g,e)::putD f d r
structure Ae (K:j') (C a dx:Addr) (H:Hp) (gs:FD):Prop where
 ex:∃fs,H a=some (.ins C dx fs)/\ic K (dg H a dx) fs gs
 ne:dx≠a
def rq(K:j')(C a c:Addr)(H:Hp)(D:Ends):qj :=
 ⟨λδ e=>∀ σ b,aK (dg H a c) (dg b a c)->cE K (dg b a c) σ δ->Ae K C a c b e->D.nx σ b,λe=>∀b,aK (dg H a c) (dg b a c)->Ae K C a c b e->D.rt .ah b,λe=>∀ σ b,aK (dg H a c) (dg b a c)->Ae K C a c b e->D.nx σ b⟩
def oI(K:j')(C:Addr)(t:Addr->yv):TS:=λD σ H=>∃a b δ c,cE K (dg H a b) σ δ/\Ae K C a b H c/\t a (rq K C a b H D) δ c
structure KI (X:Cx) (C:Addr) (st:List Stmt) (t:Addr->yv):Prop where
 ps:lg X st (oI X.K C t)
 mono:∀a,GX (t a)
structure MY (X:Cx) (C:Addr) (st:Stmt) (t:Addr->yv):Prop where
 ps:PS X st (oI X.K C t)
 mono:∀a,GX (t a)
section
variable {X:Cx}{C:Addr}{st:Stmt}{rest:List Stmt}{t u:Addr->yv}{e:Expr}{te:ED}{pos pos' p:Pos}{f:Str}
def EL{K:j'}{a i:Addr}{H j:Hp}{D:Ends}(s:aK (dg H a i) (dg j a i)):qj.Le (rq K C a i H D) (rq K C a i j D) :=
 ⟨λ_ _ h σ c b r g=>h σ c (s.trans b) r g,λ_ h c b g=>h c (s.trans b) g,λ_ h σ c b g=>h σ c (s.trans b) g⟩
def NA(t u:Addr->yv):Addr->yv:=λa E δ b=>t a { nx:=u a E,rt:=E.rt,fin:=λ_=>False } δ b
def bU(h1:MY X C st t)(i:KI X C rest u):KI X C (st::rest) (NA t u) :=
 ⟨lg.imp (qE h1.ps i.ps) fun D σ H ⟨a,c,δ,m,r,g,h⟩=>⟨a,c,δ,m,r,g,h1.mono a { nx:=u a (rq X.K C a c H D),rt:=(rq X.K C a c H D).rt,fin:=λ_=>False } _ _ _
   ⟨λj b q v o n r' g'=>⟨a,c,j,b,r',g',i.mono a _ _ _ _ (EL n) q⟩,λb q=>q,λb q=>q.elim⟩ h⟩,
  λa E s δ m l h=>h1.mono a { nx:=u a E,rt:=E.rt,fin:=λ_=>False } _ _ _ ⟨λj b q=>i.mono a _ _ _ _ l q,l.rt,λ_ q=>q.elim⟩ h⟩
def K4(C:Addr)(t:kQ):Addr->yv:=λa E δ b=>t { nx:=λ_=>E.fin b,rt:=λd=>d=.ah/\E.rt b } (δ.set 0 (some (.obj C b)))
def M_:Addr->yv:=λa E δ b=>E.fin b
def Gs:KI X C [] M_:=⟨lg.imp tM fun D σ H ⟨a,c,δ,b,r,g,h⟩=>h σ H (aK.refl _) g,λa E i δ b l h=>l.fin _ h⟩
def K3(t:kQ):Addr->yv:=λa E δ b=>t { nx:=λc=>E.nx c b,rt:=λd=>d=.ah/\E.rt b } δ
def lN{t:kQ}(h:Ah X st t):MY X C st (K3 t):=by
 refine⟨PS.imp (xP h.ps) λD σ H ⟨a,b,δ,m,r,⟨⟨fs,w,s⟩,ne⟩,q⟩=>⟨a,b,C,fs,w,δ,r,?_⟩,λa E y δ m l q=>h.mono { nx:=λj=>E.nx j m,rt:=λd=>d=.ah/\E.rt m } _ _ ⟨λj k=>l.nx _ _ k,λd k=>⟨k.1,l.rt _ k.2⟩,λ_ k=>k,λ_ k=>k⟩ q⟩
 refine h.mono { nx:=λj=>(rq X.K C a b H D).nx j m,rt:=λd=>d=.ah/\(rq X.K C a b H D).rt m } _ _ ⟨λj k x i g r' n o _=>?_,λd k v i g dv n o _=>?_,λ_ k=>k.elim,λ_ k=>k.elim⟩ q
 ·have c:dg (shown i a b C fs) a b=i:=jX n o
  exact k x _ (by rw[c];exact g) (by rw[c];exact r') ⟨⟨fs,mw,by rw[c];exact ic.same g s⟩,ne⟩
 ·have c:dg (shown i a b C fs) a b=i:=jX n o
  obtain⟨e,k⟩:=k
  subst e
  cases dv
  exact k _ (by rw[c];exact g) ⟨⟨fs,mw,by rw[c];exact ic.same g s⟩,ne⟩
def ic.put{K:j'}{H:Hp}{v:V}{d:D}(dv:Dv K H v d):∀{fs:List (Str × V)} {a:FD},ic K H fs a->ic K H (hJ f v fs) (putD f d a)
 |_,_,.nil=>.cons dv .nil
 |_,_,.cons (k:=k) h r=>by
  unfold hJ putD
  by_cases q:k=f
  ·rw[if_pos q,if_pos q];exact .cons dv r
  ·rw[if_neg q,if_neg q];exact .cons h (ic.put dv r)
def ic.length{K:j'}{H:Hp}:∀{fs:List (Str × V)} {a:FD},ic K H fs a->fs.length=a.length
 |_,_,.nil=>rfl
 |_,_,.cons _ r=>congrArg (·+1) (ic.length r)
def K6(K:j')(C:Addr)(f:Str)(c:ED):Addr->yv:=λa E δ b=>c δ λd=>δ[0]?=some (some (.adr a))/\uI K C/\eO K C f/\b.length<1000/\E.nx δ (putD f d b)
def K7{x:Str}(y:X.N[0]?=some x)(A:Dp X.env.scope x)(he:PD X e te)(b:autoParam (QL e (some (.Attribute (.Name x p) f pos')) pos.line X.env=pure false) a9)(B:autoParam ((x == ("__debug__":Str))=false) b7)
  (m:autoParam ((x == ("__classdict__":Str))=false) b7):MY X C (.Assign [.Attribute (.Name x p) f pos'] e pos) (K6 X.K C f te):=by
 refine⟨PS.imp (JZ (nQ y A B m) (xM he.pe) b) λD σ H ⟨a,c,δ,z,r,⟨⟨fs,L,o⟩,ne⟩,q⟩=>⟨a,c,C,fs,L,δ,r,?_⟩,λa E M δ z l q=>he.mono _ _ _ (fun d ⟨h,j,g,n,k⟩=>⟨h,j,g,n,l.nx _ _ k⟩) q⟩
 refine he.mono _ _ _ (?_) q;rintro d ⟨h,j,g,n,k⟩ v s i dv G J _
 obtain⟨w,I,F⟩:=r.get 0 _ h
 cases F
 refine⟨_,I,a,C,c,fs,rfl,mw,j,g,by rw[o.length];exact n,?_⟩
 rw[AZ]
 have b:dg (shown s a c C (hJ f v fs)) a c=s:=jX G J
 exact k σ _ (by rw[b];exact i) (by rw[b];exact r.same i) ⟨⟨_,mw,by rw[b];exact(ic.same i o).put dv⟩,ne⟩
def pR{H:Hp}{a c:Addr}:aK (dg H a c) H:=λb o h=>by
 unfold dg at h
 split at h
 ·cases h
 ·exact h
def Ae.dv{K:j'}{a c:Addr}{H:Hp}{b:FD}(g:Ae K C a c H b):Dv K H (.ref a) (.obj C b):=by
 obtain⟨⟨fs,h,i⟩,_⟩:=g
 exact .obj (.of h) (ic.same pR i)
def Ae.on{K:j'}{a c:Addr}{H i:Hp}{gs:FD}(g:Ae K C a c H gs)(s:aK H i):Ae K C a c i gs:=by
 obtain⟨⟨fs,h,j⟩,ne⟩:=g
 refine⟨⟨fs,s _ _ h,ic.same (λb o q=>?_) j⟩,ne⟩
 unfold dg at q ⊢
 split at q
 ·cases q
 ·rename_i z;rw[if_neg z];exact s _ _ q
def ve{H g:Hp}{a c:Addr}(s:aK H g):aK (dg H a c) (dg g a c):=λb o q=>by
 unfold dg at q ⊢
 split at q
 ·cases q
 ·rename_i z;rw[if_neg z];exact s _ _ q
def lO{t:kQ}(h:oU X rest t):KI X C rest (λa E δ b=>δ[0]?=some (some (.adr a))/\K4 C t a E δ b):=by
 refine⟨lg.imp h.ps fun D σ H ⟨a,o,δ,b,r,g,j,q⟩=>⟨δ.set 0 (some (.obj C b)),?_,?_⟩,fun a E F δ b l ⟨j,q⟩=>⟨j,h.mono { nx:=λ_=>E.fin b,rt:=λd=>d=.ah/\E.rt b } _ _ ⟨λx k=>l.fin _ k,λd k=>⟨k.1,l.rt _ k.2⟩,λ_ k=>k,λ_ k=>k⟩ q⟩⟩
 ·obtain⟨w,m,s⟩:=r.get 0 _ j
  cases s
  have z:=(r.same pR).set 0 g.dv
  rw[show σ.set 0 (some (.ref a))=σ from by
   refine U2 λi=>?_
   rw[U1]
   split
   ·rename_i y
    subst y
    split
    ·exact m.symm
    ·rename_i B
     rw[List.getElem?_eq_none (by omega)] at m
     cases m
   ·rfl] at z
  exact z
 ·refine h.mono { nx:=λ_=>(rq X.K C a o H D).fin b,rt:=λd=>d=.ah/\(rq X.K C a o H D).rt b } _ _ ⟨λx k A n c r'=>k A n (ve c) (g.on c),λd k v n c dv=>?_,λ_ k=>k.elim,λ_ k=>k.elim⟩ q
  obtain⟨e,k⟩:=k
  subst e
  cases dv
  exact k n (ve c) (g.on c)
end
abbrev GZ:=List D->(FD->Prop)->Prop
abbrev wJ(b:GZ):Prop:=∀ds (P a:FD->Prop),(∀d,P d->a d)->b ds P->b ds a
def Nh(K:j')(C:Addr)(g:GZ):Sp:=λvs H Q _=>∃a b c ds,vs=.ref a::c/\Ae K C a b H []/\bZ K (dg H a b) c ds/\g ds λf=>∀e,aK (dg H a b) (dg e a b)->Ae K C a b e f->Q .ah e
section
variable {P:O0}{w:World}{K:j'}{mg:Str->Option Value}{base:Heap}
structure Dt (K:j') (x qual:Str) (st:Stmt) (f:Addr) (fd:Pw):Prop where
 ex:∃(oc:Value) (od:Option Addr) (dV kV doc pm:Value) (an:Option Addr) (cdv ct:Value) (osl:Array (Option Value)),
  fd=fnOf x qual (cR st) (aw st) (aB st) dV kV doc pm an cdv ct/\K.lookup f=some ⟨oc,od,.func fd,osl⟩/\codeIn K cdv qual=true
 kp:keepIn K (.ref f)=true
def Dt.ok{P:O0}{w:World}{K:j'}{mg:Str->Option Value}{base:Heap}{x b:Str}{st:Stmt}{f:Addr}{l:Pw}{N i:List Str}{k:Nat}{sp:Sp}(F:Dt K x b st f l)(S:aG N i (aB st))(len:∀vs H Q E,sp vs H Q E->vs.length=i.length)
  (e:∀(c:Value) (A:Around) (a:List Env) (s:Shared) (H:Hp) (vs:List V) (Q:VK) (E:XK),bf k (A.deeper (envOfC b (aB st) s.heap.objs.size f c))->sp vs H Q E ->
   ∃t,lg (uX nZ P w K mg base N b (aB st) f c A a s H E).Iw (aw st) t/\t { nx:=λ_ n=>Q .ah n,rt:=Q } (L2.start N vs) H):cH P w K mg base nZ (k+1) f l i sp:=by
 obtain⟨v,u,z,kV,o,C,B,c,y,m,rfl,p,j⟩:=F.ex
 refine Gp p j S len λA a s H vs Q E r g=>?_
 obtain⟨t,h,q⟩:=e c A a s H vs Q E r g
 exact⟨t,h.Iw,q⟩
def Oh{x c:Str}{st:Stmt}{f C:Addr}{z:Pw}{N y:List Str}{k:Nat}{v:GZ}{t:Addr->yv}(F:Dt K x c st f z)(S:aG N y (aB st))(len:∀ds Q,v ds Q->ds.length+1=y.length)
  (G:∀(j:Value) (A:Around) (b:List Env) (s:Shared) (H:Hp) (E:XK),bf k (A.deeper (envOfC c (aB st) s.heap.objs.size f j))->KI (Bx P w K mg base N c st f j A b s H E) C (aw st) t)
  (I:∀a ds Q,v ds Q->t a { nx:=λ_=>Q,rt:=Q,fin:=Q } (bw N (.adr a::ds)) []):cH P w K mg base nZ (k+1) f z y (Nh K C v):=by
 refine F.ok S (fun vs H Q E ⟨a,o,u,ds,e,g,m,h⟩=>by rw[e,Pb,m.length];exact len ds _ h) (?_);rintro j A b s H vs Q E l ⟨a,o,u,ds,e,g,m,h⟩
 have B:=G j A b s H E l
 subst e
 refine⟨_,B.ps,a,o,bw N (.adr a::ds),[],gg (.cons (.adr a) m),g,?_⟩
 let r:FD->Prop:=λp=>∀i,aK (dg H a o) (dg i a o)->Ae K C a o i p->Q .ah i
 exact B.mono a { nx:=λ_=>r,rt:=r,fin:=r } _ _ _ ⟨λδ p q σ i n r' g'=>q i n g',λp q i n g'=>q i n g',λp q σ i n g'=>q i n g'⟩ (I a ds _ h)
end
section
variable {X:Cx}{C f:Addr}{fd:Pw}{ps:List Str}{sd:GZ}{dd:List D}{dvs:List V}{dls:List Value}{k:Nat}{x:Str}{e:Expr}{es:List Expr}{t:AD}{p pos:Pos}
def HN(C:Addr)(c:GZ)(b:List D)(t:AD):ED:=λδ Q=>t δ λds=>c (ds++b) λa=>Q (.obj C a)
def Hw(M:Mk X.K C f)(F:cH X.prog X.w X.K X.mg X.base nZ k f fd ps (Nh X.K C sd))(l:wJ sd)(N:bf (k+1) X.A)(J:Gl X x)(B:X.mg x=some (.ref C))(L:Binds X.K fd ps dls)(E:Vals dvs dls)(G:∀H,bZ X.K H dvs dd)
  (j:nh X (e::es) t)(c:autoParam ((x == ("__debug__":Str))=false) b7)(he:autoParam (starEach (e::es) X.env=(false,eval e X.env)::starEach es X.env) a9)(hpl:autoParam ((backTo pos (starEach es X.env)).any (·.1)=false) a9) :
  PD X (.Call (.Name x p) (e::es) [] pos) (HN C sd dd t):=by
 refine⟨(FQ M F N J B L E qA j.pa c he hpl).imp fun σ H Q ⟨δ,r,h⟩=>⟨δ,r,j.mono _ _ _ (λds q vs H1 I b y a u i ne=>?_) h⟩,λδ P O g h=>j.mono _ _ _ (λds q=>l _ _ _ (λv z=>g _ z) q) h⟩
 have n:dg (shown H1 y a C []) y a=H1:=jX u i
 refine⟨y,a,_,_,rfl,⟨⟨[],mw,.nil⟩,ne⟩,?_,l _ _ _ (λv z m s g'=>⟨rfl,z _ m ?_ g'.dv⟩) q⟩
 ·show bZ X.K (dg (shown H1 y a C []) y a) _ _
  rw[n]
  exact b.append (G H1)
 ·have o:aK (dg (shown H1 y a C []) y a) (dg m y a):=s
  rw[n] at o
  exact I.trans (o.trans pR)
end
end DC
namespace L2
section
variable {X:Cx}
def u5{ns:List Int}:∀{us:List Value},Vals (ns.map V.int) us->IntsAre us ns:=by
 induction ns with
 |nil=>intro us r;cases r;exact .nil
 |cons n ns b =>
  intro us r
  cases r with
  |cons a r =>
   obtain⟨t,e⟩:=a
   subst e
   exact .cons _ _ (b r)
def A2:kK X (.builtin "sum") (λxs H Q=>∃(p:Addr) (a:List Int),xs=[.ref p]/\X.A.handled=none/\eX X.K H p (a.map V.int)/\Q (.int a.sum) H):=by
 intro g s σ H xs us Q I r h
 obtain⟨p,a,rfl,o,m,q⟩:=h
 obtain⟨u,rfl,j⟩:=vals1 r
 cases(show u=F' p from j)
 obtain⟨c,i,pl,_⟩:=I.list m
 have n:=pl.isList
 have f:=u5 i
 obtain⟨xs,e⟩:=f.allInts.items
 have b:s.heap.IsList p (intItems xs):=e ▸ n
 refine sum_intListG o b λh' tk t' l=>?_
 have v:a=xs.toList.map (·.1):=by
  rw[<- nums_intItems,<- e]
  exact(show numsOf c.toArray.toList=a from f.numsOf).symm
 have t:preSum (numAt xs) xs.size=a.sum:=by
  rw[preSum_eq,UJ (by simp),v]
 rw[t]
 exact⟨.int a.sum,H,I.kept l,⟨_,rfl⟩,q⟩
end
section
variable {prog:O0}{w:World}{A:Around}{R:Result->Shared->Prop}{I:Addr}{fp wr:List Addr}{n:Nat}{P:Nat->Value->Prop}{St:Nat->Heap->Prop}{E:Value->Shared->Prop}{s:Shared}{Q:Value->Shared->Prop}
abbrev bestAt(S:Addr)(a:Array Value)(h:Heap):Prop:=∃c,h.get? S=some { cls:=.type "list",dict:=none,data:=.seq a c,slots:=#[] }
def B7{J:List (Str × Value)}(W:Walks prog w A.in1 I fp wr n P St)(bt:Nat->Nat->Bool)(u:CmpOf prog w A.in1 .Gt P bt)(S:Addr)(x:S∉fp) :
  ∀(k j:Nat) (s:Shared) (f:Value),j+1+k=n->St (j+1) s.heap->P (argBest bt j) f->bestAt S #[f,f] s.heap ->
  (∀v h' tk,P (argBest bt (n - 1)) v->(∀b o,b∉wr->b≠S->s.heap.get? b=some o->h'.get? b=some o)->R (.ok (.ret v)) { s with heap:=h',toks:=tk }) ->
  RF (model prog w) A (.builtin "max.loop" ⟨[.ref I,.none,.ref S],J⟩) R s:=by
 have y:S∉wr:=λh=>x (W.sub _ h)
 have a:(toString "max"++toString ".loop":String)="max.loop":=by decide
 intro k
 induction k with
 |zero =>
  intro j s f L m z ⟨c,hS⟩ hR
  refine codeAny_builtin Tj ?_
  rw[P_ Qq _]
  show wpAny _ A.in1 (seqItems? (.ref S) >>= _) _ _ s
  refine wpAny_bind (wpAny_seqItems hS rfl ?_)
  show wpAny _ A.in1 (tryCatch (pyNext (.ref I)) _ >>= _) _ _ s
  refine wpAny_bind (wpAny_tryCatch (W.done s _ _ ((show j+1=n by omega) ▸ m) λh' tk r=>?_))
  show wpAny _ A.in1 (updateSeq S (λ_=>#[]) >>= _) _ _ _
  refine wpAny_bind (wpAny_updateSeq (r S _ y hS) rfl (wpAny_bind (wpAny_letGo (wpAny_pure ?_))))
  exact hR f _ tk (by rw[show n - 1=j by omega];exact z) λb o h1 t e=>(P9 _ _ (QS t)).trans (r b o h1 e)
 |succ k G =>
  intro j s f L m z ⟨c,hS⟩ hR
  refine codeAny_builtin Tj ?_
  rw[P_ Qq _]
  show wpAny _ A.in1 (seqItems? (.ref S) >>= _) _ _ s
  refine wpAny_bind (wpAny_seqItems hS rfl ?_)
  show wpAny _ A.in1 (tryCatch (pyNext (.ref I)) _ >>= _) _ _ s
  refine wpAny_bind (wpAny_tryCatch (W.item (j+1) s _ _ (by omega) m λv h' tk H g r=>?_))
  have l:=r S _ y hS
  show wpAny _ A.in1 (tryCatch (holding [v,v] (richCompare .Gt v f >>= _)) _ >>= _) _ _ _
  refine wpAny_bind (wpAny_tryCatch (wpAny_holding (wpAny_bind (u (j+1) (argBest bt j) v f _ _ _ H z ?_))))
  refine wpAny_bind (wpAny_holding (wpAny_truthy_bool (wpAny_bind (wpAny_letGo (wpAny_pure ?_)))))
  cases hb:bt (j+1) (argBest bt j) with
  |true =>
   simp only[if_true]
   refine wpAny_bind (wpAny_updateSeq l rfl (wpAny_bind (wpAny_letGo ?_)))
   rw[a]
   refine wpAny_pure ⟨plainId_quiet Qq _,G (j+1) _ v (by omega) (W.frame _ _ _ g λb C o e=>?_) (by simp only[argBest,hb,if_true];exact H) ⟨_,P4 _ l rfl⟩ λF t i p q=>?_⟩
   ·exact(P9 _ _ (λh:S=b=>x (by rw[h];exact C))).trans e
   ·exact hR F t i p λb o h1 B e=>q b o h1 B ((P9 _ _ (QS B)).trans (r b o h1 e))
  |false =>
   simp only[Po,if_false]
   refine wpAny_bind (wpAny_letGo ?_)
   rw[a]
   refine wpAny_pure ⟨plainId_quiet Qq _,G (j+1) _ f (by omega) g (by simp only[argBest,hb,Po,if_false];exact z) ⟨c,l⟩ λF t i p q=>?_⟩
   exact hR F t i p λb o h1 B e=>q b o h1 B (r b o h1 e)
def B6{d:Value}(W:Walks prog w A.in1 I fp wr n P St)(bt:Nat->Nat->Bool)(g:CmpOf prog w A.in1 .Gt P bt)(S:Addr)(a:S∉fp){s:Shared}(l:St 0 s.heap)(p:bestAt S #[] s.heap)
  (z:∀v h' tk,(if n=0 then v=d else P (argBest bt (n - 1)) v)->(∀b o,b∉wr->b≠S->s.heap.get? b=some o->h'.get? b=some o)->R (.ok (.ret v)) { s with heap:=h',toks:=tk }) :
  RF (model prog w) A (.builtin "max.loop" ⟨[.ref I,.none,.ref S],[("default",d)]⟩) R s:=by
 have r:S∉wr:=λh=>a (W.sub _ h)
 have f:(toString "max"++toString ".loop":String)="max.loop":=by decide
 obtain⟨c,p⟩:=p
 refine codeAny_builtin Tj ?_
 rw[P_ Qq _]
 show wpAny _ A.in1 (seqItems? (.ref S) >>= _) _ _ s
 refine wpAny_bind (wpAny_seqItems p rfl ?_)
 show wpAny _ A.in1 (tryCatch (pyNext (.ref I)) _ >>= _) _ _ s
 by_cases y:n=0
 ·refine wpAny_bind (wpAny_tryCatch (W.done s _ _ (y ▸ l) λh' tk m=>?_))
  refine wpAny_bind (wpAny_rule (wpAny_pure ?_))
  exact z d h' tk (by rw[if_pos y]) λb o h1 _ e=>m b o h1 e
 ·refine wpAny_bind (wpAny_tryCatch (W.item 0 s _ _ (by omega) l λv h' tk F i m=>?_))
  have j:=m S _ r p
  show wpAny _ A.in1 (updateSeq S (λ_=>#[v,v]) >>= _) _ _ _
  refine wpAny_bind (wpAny_updateSeq j rfl ?_)
  rw[f]
  refine wpAny_pure ⟨plainId_quiet Qq _,B7 W bt g S a (n - 1) 0 _ v (by omega) (W.frame _ _ _ i λb u o e=>?_) F ⟨_,P4 _ j rfl⟩ λG C q t x=>?_⟩
  ·exact(P9 _ _ (λh:S=b=>a (by rw[h];exact u))).trans e
  ·exact z G C q (by rw[if_neg y];exact t) λb o h1 B e=>x b o h1 B ((P9 _ _ (QS B)).trans (m b o h1 e))
end
def qb(d:Int):List Int->Int
 |[]=>d
 |x::xs=>xs.foldl max x
def l7:∀(xs:List Int) (a:Int),a<=xs.foldl max a/\∀x∈xs,x<=xs.foldl max a
 |[],a=>⟨Uq _,λx h=>nomatch h⟩
 |y::ys,a=>by
  obtain⟨h1,b⟩:=l7 ys (max a y)
  refine⟨UW (Int.le_max_left _ _) h1,λx h=>?_⟩
  rcases B'.mp h with rfl|h
  ·exact UW (Int.le_max_right _ _) h1
  ·exact b x h
def kX:∀(xs:List Int) (a:Int),xs.foldl max a=a\/xs.foldl max a∈xs
 |[],a=>.inl rfl
 |y::ys,a=>by
  rcases kX ys (max a y) with h|h
  ·rw[VN,h]
   rcases Int.le_total a y with q|q
   ·rw[Int.max_eq_right q];exact .inr (D')
   ·rw[Int.max_eq_left q];exact .inl rfl
  ·exact .inr (O5 _ h)
def Ey{d m:Int}{a:List Int}(h:m∈a)(g:∀x∈a,x<=m):qb d a=m:=by
 cases a with
 |nil=>cases h
 |cons x xs =>
  obtain⟨h1,c⟩:=l7 xs x
  have e:m<=qb d (x::xs):=by
   rcases B'.mp h with rfl|h
   ·exact h1
   ·exact c m h
  have b:qb d (x::xs)<=m:=by
   rcases kX xs x with q|q
   ·show xs.foldl max x<=m
    rw[q];exact g x D'
   ·exact g _ (O5 _ q)
  exact Int.le_antisymm b e
def nk(val:Nat->Int):∀k,argBest (λi j=>decide (val i > val j)) k<=k/\∀i,i<=k->val i<=val (argBest (λi j=>decide (val i > val j)) k)
 | 0=>⟨O2 _,λi h=>by cases Nat.le_zero.mp h;exact Uq _⟩
 |k+1=>by
  obtain⟨h1,a⟩:=nk val k
  rw[argBest]
  by_cases q:val (k+1) > val (argBest (λi j=>decide (val i > val j)) k)
  ·rw[if_pos (decide_eq_true q)]
   refine⟨O2 _,λi h=>?_⟩
   rcases US i (k+1) with z|z
   ·exact UW (a i (by omega)) (Int.le_of_lt q)
   ·rw[show i=k+1 by omega];exact Uq _
  ·rw[if_neg (by simpa using q)]
   refine⟨U' h1,λi h=>?_⟩
   rcases US i (k+1) with z|z
   ·exact a i (by omega)
   ·rw[show i=k+1 by omega];exact Int.not_lt.mp q
section
variable {X:Cx}
def yw(a d:Value):argsOk "max" ⟨[a],[("default",d)]⟩:=by unfold argsOk;kernel_rfl
def Io{g:List (Addr × Obj)}{s:Shared}{σ:St}{H:Hp}{Q:VK}{p:Addr}{c:List Int}{d:Int}{t:Tok}(I:Inv X g σ H s)(hh:X.A.handled=none)(hS:eX X.K H p (c.map V.int))(q:Q (.int (qb d c)) H) :
  wpAny (model X.prog X.w) X.A (call (.builtin "max") [.ref p] [("default",.int d t)]) (EP X g σ Q) X.xe s:=by
 obtain⟨a,O,pl,_⟩:=I.list hS
 have T:=pl.isList
 have hi:=u5 O
 have J:p<s.heap.objs.size:=pl.lt
 have l:a.length=c.length:=by have:=O.length;rw[G'] at this;exact this.symm
 have y:(toString "max"++toString ".loop":String)="max.loop":=by decide
 have h:∀(i:Nat) (v:Value),a.toArray[i]?=some v->∃t,v=.int (c.getD i 0) t:=λi v e=>by
  have Z:a[i]?=some v:=by simpa using e
  have U:i<c.length:=by have:=(PJ.mp Z).1;omega
  obtain⟨u,h1,M⟩:=O.get (i:=i) (x:=V.int c[i]) (by rw[O7,O9 U];rfl)
  rw[Z] at h1
  cases h1
  obtain⟨t,ht⟩:=(show ∃t,v=Rf c[i] t from M)
  exact⟨t,by rw[ht,QA,O9 U];rfl⟩
 refine Va (codeAny_call_builtin F.plain_max F.entry_max ?_)
 simp only[checkBuiltinCall,F.kind_max]
 have Y:argsOk "max" ⟨[.ref p],[("default",.int d t)]⟩:=yw _ _
 have n:wpAny (model X.prog X.w) X.A.in1 (Builtin.«max» ⟨[.ref p],[("default",.int d t)]⟩) (λN C=>match N with
   |.done f=>(match (Except.ok f:Result) with|.ok (.ret v)=>EP X g σ Q v C|.ok _=>False|.error e=>X.xe e C)
   |.again S=>S.quiet=true/\RF (model X.prog X.w) X.A S (λr C=>match r with|.ok (.ret v)=>EP X g σ Q v C|.ok _=>False|.error e=>X.xe e C) C) X.xe s:=by
  show wpAny _ X.A.in1 (SY "max" ["key","default"] 0 ⟨[],[("default",.int d t)]⟩ >>= _) _ _ s
  refine wpAny_bind (wpAny_of_eq (show SY "max" ["key","default"] 0 ⟨[],[("default",.int d t)]⟩=pure [none,some (.int d t)] from rfl) ?_)
  refine wpAny_bind (wpAny_pure ?_)
  refine wpAny_bind (wpAny_pyIter_list T ?_)
  refine wpAny_bind (wpAny_newObj_type ?_)
  rw[y]
  have W:=V7 (prog:=X.prog) (w:=X.w) (A:=X.A.in1) hh s.heap.objs.size p (PR J) a.toArray
  refine wpAny_pure ⟨plainId_quiet Qq _,B6 W _ (CmpOf.ints_gt (λi=>c.getD i 0) h) ((s.heap.push _).objs.size) (λE=>?_) (W.frame _ _ _ ⟨⟨_,K' _ rfl,rfl,rfl⟩,T.push _⟩ λb _ o e=>y' _ e) ⟨_,K' _ rfl⟩ λv h' tk L hk=>?_⟩
  ·have hsz:(s.heap.push { cls:=.type "list_iterator",data:=.fields #[.ref p,.int 0 0] }).objs.size=s.heap.objs.size+1:=Py ..
   rcases B'.mp E with z|z
   ·exact absurd (hsz.symm.trans z) (SG _)
   ·exact absurd (hsz.symm.trans (O6.mp z)) (Pz (QQ J))
  ·have B:∀b o,s.heap.get? b=some o->h'.get? b=some o:=λb o e=>hk b o (λE=>by
    exact absurd (O6.mp E) (PR (N' e))) (λE=>by
    rw[Py] at E
    exact absurd E (PR (QQ (N' e)))) (y' _ (y' _ e))
   have ev:∃t,v=.int (qb d c) t:=by
    by_cases R:a.toArray.size=0
    ·rw[if_pos R] at L
     have hz:c=[]:=List.length_eq_zero_iff.mp (by rw[<- l];simpa using R)
     rw[hz]
     exact⟨_,L⟩
    ·rw[if_neg R] at L
     obtain⟨b1,b2⟩:=nk (λi=>c.getD i 0) (a.toArray.size - 1)
     have hsz:a.toArray.size=c.length:=by rw[PQ,l]
     obtain⟨t',e⟩:=h _ v L
     refine⟨t',?_⟩
     rw[e,Ey (m:=c.getD (argBest (λi j=>decide (c.getD i 0 > c.getD j 0)) (a.toArray.size - 1)) 0) ?_ λx hx=>?_]
     ·rw[QA,O9 (by omega)]
      exact TJ _
     ·obtain⟨i,P,rfl⟩:=List.getElem_of_mem hx
      have z:=b2 i (by omega)
      simp only[QA,O9 P,PM] at z
      simpa only[QA] using z
   obtain⟨t',rfl⟩:=ev
   exact⟨.int (qb d c),H,I.kept B,⟨_,rfl⟩,q⟩
 cases hsig:Manifest.signature? "max" with
 |none=>exact wpAny_pure n
 |some G =>
  simp only[argsOk,hsig] at Y
  have M:VS "max" G ⟨[.ref p],[("default",.int d t)]⟩=pure ():=Y
  show wpAny _ X.A.in1 (VS "max" G ⟨[.ref p],[("default",.int d t)]⟩) _ _ s
  rw[M];exact wpAny_pure n
end
section
variable {X:Cx}{e c:Expr}{te tc:TE}{p pos kp:Pos}
def Ct(X:Cx)(x y:V)(H:Hp)(Q:VK):Prop:=∃(l:Addr) (a:List Int) (d:Int),x=.ref l/\y=.int d/\X.A.handled=none/\eX X.K H l (a.map V.int)/\Q (.int (qb d a)) H
def one(F:V->Hp->Prop)(vs:List V)(H:Hp):Prop:=match vs with
 |[x]=>F x H
 |_=>False
def FR(G:Gl X "max")(v:X.mg "max"=none)(he:PE X e te)(E:PE X c tc)(h1:autoParam (starEach [e] X.env=(false,eval e X.env)::starEach [] X.env) a9)(C:autoParam (Px "max"=some (.builtin "max")) dI) :
  PE X (.Call (.Name "max" p) [e] [⟨some "default",c,kp⟩] pos) (Jy (Ct X) te tc):=by
 intro a s σ H Q I h
 refine Qw (gG I G v C ?_)
 refine callWith_kw (env:=X.env) ?_ (by rw[h1];rfl) (by rw[h1];rfl) rfl rfl
 refine bH ((d8 he lS h1) pos a s σ H (one λx f=>tc σ f λy b=>Ct X x y b Q) I h) ?_;rintro us F ⟨vs,f,o,i,q⟩
 match vs,i,q with
 |[x],i,q =>
  obtain⟨u,rfl,m⟩:=vals1 i
  refine bH ((FV (nm:=some "default") (kpos:=kp) E JX) pos a F σ f (one λy b=>Ct X x y b Q) o q) ?_;rintro N M ⟨B,b,n,j,k⟩
  match B,j,k with
  |[y],j,k =>
   obtain⟨l,O,d,A,L,r,J,z⟩:=k
   subst A L
   obtain⟨w,rfl,g⟩:=vals1 j
   obtain⟨t,rfl⟩:=(show ∃t,w=Rf d t from g)
   cases(show u=F' l from m)
   exact Io n r J z
end
end L2
namespace DC
section
variable {X:Cx}{e c:Expr}{te tc:ED}{p pos kp:Pos}{es:List Expr}{t:AD}
def boot_sum:Px "sum"=some (.builtin "sum"):=by decide +kernel
def C7:cU:=λds Q=>∃(a:List Int),ds=[.lst (a.map D.int)]/\Q (.int a.sum)
def LU:b9 C7:=fun ds P a g ⟨bs,e,q⟩=>⟨bs,e,g _ q⟩
def qU{K:j'}{H:Hp}:∀{vs:List V} {bs:List Int},bZ K H vs (bs.map D.int)->vs=bs.map V.int
 |[],[],_=>rfl
 |_,_::_,.cons (.int _) r=>by rw[qU r];rfl
def BQ{K:j'}{A:Around}(f:A.handled=none):qi K (λxs H Q=>∃(p:Addr) (b:List Int),xs=[.ref p]/\A.handled=none/\eX K H p (b.map V.int)/\Q (.int b.sum) H) C7:=by
 intro H vs ds Q a ⟨bs,e,q⟩
 subst e
 cases a with
 |cons dv r =>
  cases r
  cases dv with
  |lst h1 g =>
   rw[qU g] at h1
   exact⟨_,bs,rfl,f,h1,q _ H (aK.refl _) (.int _)⟩
def Kp(g:X.A.handled=none)(b:Gl X "sum")(h:X.mg "sum"=none)(a:nh X (e::es) t)(h1:autoParam (starEach (e::es) X.env=(false,eval e X.env)::starEach es X.env) a9)(f:autoParam ((backTo pos (starEach es X.env)).any (·.1)=false) a9):PD X (.Call (.Name "sum" p) (e::es) [] pos) (vB C7 t):=A8 (i8 A2 b h boot_sum a.pa (he:=h1) (hpl:=f)) a.mono (BQ g) LU
def Gm:F2:=λd e Q=>∃(a:List Int) (i:Int),d=.lst (a.map D.int)/\e=.int i/\Q (.int (qb i a))
def Il:cz Gm:=fun d e P h g ⟨f,i,b,a,q⟩=>⟨f,i,b,a,g _ q⟩
def MU:ED->ED->ED:=mz Gm
def Hy(j:X.A.handled=none)(g:Gl X "max")(m:X.mg "max"=none)(he:PD X e te)(b:PD X c tc)(h1:autoParam (starEach [e] X.env=(false,eval e X.env)::starEach [] X.env) a9):PD X (.Call (.Name "max" p) [e] [⟨some "default",c,kp⟩] pos) (MU te tc):=by
 refine uY (t:=oE X.K te) (FR g m he.pe b.pe h1) he.mono b.mono ?_ Il
 intro H x y d e Q f l ⟨ns,i,e1,e2,q⟩
 subst e1 e2
 cases l
 cases f with
 |lst a h =>
  rw[qU h] at a
  exact⟨_,ns,i,rfl,rfl,j,a,q _ H (aK.refl _) (.int _)⟩
end
inductive MD where
 |lst (ds:List D)|ins (C:Addr) (gs:FD)|dK (kvs:List (Key × D))|dT (gs:List (List Int × D))
abbrev Mu:=List (Addr × MD)
def MV(K:j')(H:Hp)(L:List Addr)(a:Addr):MD->Prop
 |.lst ds=>∃vs,H a=some (.lst vs)/\bZ K (af H L) vs ds
 |.ins C f=>∃e fs,H a=some (.ins C e fs)/\H e=some (.own a)/\e∈L/\ic K (af H L) fs f
 |.dK b=>∃c,H a=some (.dK c)/\de K (af H L) c b
 |.dT b=>∃c,H a=some (iI a c)/\cO K (af H L) c b
structure eZ (K:j') (H:Hp) (μ:Mu) (L:List Addr):Prop where
 at_:∀p∈μ,p.1∈L/\MV K H L p.1 p.2
 Ir:(μ.map (·.1)).Nodup
 dg:∀b∈L,df H L b
 KN:∀b∈L,(∃m,(b,m)∈μ)\/∃a,H b=some (.own a)
section
variable {K:j'}{H H1 H4:Hp}{μ:Mu}{L:List Addr}
def jW(s:aK H H1):aK (af H L) (af H1 L):=λb o h=>by
 obtain⟨h1,a⟩:=nC h
 rw[bM h1]
 exact s _ _ a
def MV.on{a:Addr}(s:aK H H1):∀{m:MD},MV K H L a m->MV K H1 L a m
 |.lst _,⟨vs,h,d⟩=>⟨vs,s _ _ h,bZ.same (jW s) d⟩
 |.ins _ _,⟨e,fs,h,f,c,d⟩=>⟨e,fs,s _ _ h,s _ _ f,c,ic.same (jW s) d⟩
 |.dK _,⟨b,h,d⟩=>⟨b,s _ _ h,de.same (jW s) d⟩
 |.dT _,⟨b,h,d⟩=>⟨b,s _ _ h,cO.same (jW s) d⟩
def IL{a:Addr}(s:aK H H1)(h:df H L a):df H1 L a:=by
 cases h with
 |lst xs h=>exact .lst xs (s _ _ h)
 |dK xs h=>exact .dK xs (s _ _ h)
 |ext φ h i=>exact .ext φ (s _ _ h) i
 |ins C e fs h g=>exact .ins C e fs (s _ _ h) g
 |own C b fs h c f=>exact .own C b fs (s _ _ h) c (s _ _ f)
def eZ.on(g:eZ K H μ L)(s:aK H H1):eZ K H1 μ L :=
 ⟨λp e=>⟨(g.at_ p e).1,(g.at_ p e).2.on s⟩,g.Ir,λb c=>IL s (g.dg b c),λb c=>(g.KN b c).imp id fun⟨a,q⟩=>⟨a,s _ _ q⟩⟩
def eZ.show(g:eZ K H μ L)(z:∀b∈L,H4 b=none)(s:aK (af H L) H4):eZ K (aW H4 H L) μ L:=by
 have e:af (aW H4 H L) L=H4:=bC z
 refine⟨λp t=>⟨(g.at_ p t).1,?_⟩,g.Ir,λb f=>?_,λb f=>(g.KN b f).imp id fun⟨a,q⟩=>⟨a,by rw[ag f];exact q⟩⟩
 ·obtain⟨i,j⟩:=g.at_ p t
  obtain⟨a,m⟩:=p
  cases m with
  |lst ds=>obtain⟨vs,h,d⟩:=j;exact⟨vs,by rw[ag i];exact h,by rw[e];exact bZ.same s d⟩
  |ins C A=>obtain⟨n,fs,h,v,u,d⟩:=j;exact⟨n,fs,by rw[ag i];exact h,by rw[ag u];exact v,u,by rw[e];exact ic.same s d⟩
  |dK o=>obtain⟨r,h,d⟩:=j;exact⟨r,by rw[ag i];exact h,by rw[e];exact de.same s d⟩
  |dT o=>obtain⟨r,h,d⟩:=j;exact⟨r,by rw[ag i];exact h,by rw[e];exact cO.same s d⟩
 ·have w:=g.dg b f
  cases w with
  |lst xs h=>exact .lst xs (by rw[ag f];exact h)
  |dK xs h=>exact .dK xs (by rw[ag f];exact h)
  |ext φ h l=>exact .ext φ (by rw[ag f];exact h) l
  |ins C n fs h y=>exact .ins C n fs (by rw[ag f];exact h) y
  |own C c fs h l x=>exact .own C c fs (by rw[ag f];exact h) l (by rw[ag l];exact x)
def eZ.nil:eZ K H [] []:=⟨λp c=>(nomatch c),RK,λb a=>(nomatch a),λb a=>(nomatch a)⟩
def MD.d:MD->D
 |.lst ds=>.lst ds
 |.ins C b=>.obj C b
 |.dK a=>.dK a
 |.dT a=>.dT a
def cb(μ:Mu):D->D
 |.adr a=>((μ.lookup a).map MD.d).getD (.adr a)
 |d=>d
def dD(μ:Mu)(δ:SD):SD:=δ.map (R9 (cb μ))
def mem_of_lookup{a:Addr}{m:MD}:∀{μ:Mu},μ.lookup a=some m->(a,m)∈μ
 |[],h=>by cases h
 | (b,n)::r,h=>by
  rw[PV] at h
  cases q:a == b with
  |true=>rw[q] at h;cases h;rw[beq_iff_eq.mp q];exact D'
  |false=>rw[q] at h;exact O5 _ (mem_of_lookup h)
def eZ.view(g:eZ K H μ L){v:V}{d:D}(h:Dv K (af H L) v d):Dv K H v (cb μ d):=by
 cases h with
 |adr a =>
  show Dv K H (.ref a) (((μ.lookup a).map MD.d).getD (.adr a))
  cases q:μ.lookup a with
  |none=>exact .adr a
  |some m =>
   show Dv K H (.ref a) m.d
   obtain⟨_,e⟩:=g.at_ _ (mem_of_lookup q)
   cases m with
   |lst ds=>obtain⟨vs,h,d⟩:=e;exact .lst (eX.of h) (bZ.same av d)
   |ins C o=>obtain⟨n,fs,h,c,j,d⟩:=e;exact .obj (.of h) (ic.same av d)
   |dK f=>obtain⟨l,h,d⟩:=e;exact .dK (.of h) (de.same av d)
   |dT f=>obtain⟨l,h,d⟩:=e;exact .dT (.of h) (cO.same av d)
 |ah=>exact .ah
 |bl b=>exact .bl b
 |int i=>exact .int i
 |str x=>exact .str x
 |lst h1 c=>exact Dv.same av (.lst h1 c)
 |tup h1 c=>exact Dv.same av (.tup h1 c)
 |obj h1 c=>exact Dv.same av (.obj h1 c)
 |dK h1 c=>exact Dv.same av (.dK h1 c)
 |dT h1 c=>exact Dv.same av (.dT h1 c)
 |exc h1 c j=>exact Dv.same av (.exc h1 c j)
def eZ.dD(g:eZ K H μ L){σ:L2.St}{δ:SD}(r:cE K (af H L) σ δ):cE K H σ (dD μ δ):=by
 refine⟨by unfold DC.dD;rw[G'];exact r.len,λi d h=>?_⟩
 unfold DC.dD at h
 rw[O7] at h
 cases q:δ[i]? with
 |none=>rw[q] at h;cases h
 |some o =>
  rw[q] at h
  cases o with
  |none=>cases h
  |some d' =>
   cases h
   obtain⟨v,a,dv⟩:=r.get i d' q
   exact⟨v,a,g.view dv⟩
end
structure kL where
 nx:SD->Mu->Prop
 rt:D->Mu->Prop
 bk:SD->Mu->Prop:=λ_ _=>False
 ct:SD->Mu->Prop:=λ_ _=>False
abbrev iW:=kL->SD->Mu->Prop
structure kL.Le (E E':kL):Prop where
 nx:∀ δ μ,E.nx δ μ->E'.nx δ μ
 rt:∀d μ,E.rt d μ->E'.rt d μ
 bk:∀ δ μ,E.bk δ μ->E'.bk δ μ
 ct:∀ δ μ,E.ct δ μ->E'.ct δ μ
abbrev xq(t:iW):Prop:=∀E a δ μ,kL.Le E a->t E δ μ->t a δ μ
def kM(K:j')(H:Hp)(L:List Addr)(Q:L2.St->Hp->Prop):SD->Mu->Prop:=λδ μ=>∀ σ a b,aK (af H L) (af a b)->cE K (af a b) σ δ->eZ K a μ b->Q σ a
def kR(K:j')(H:Hp)(L:List Addr)(Q:VK):D->Mu->Prop:=λd μ=>∀v a b,aK (af H L) (af a b)->eZ K a μ b->Dv K (af a b) v d->Q v a
def pK(K:j')(H:Hp)(L:List Addr)(D:Ends):kL:=⟨kM K H L D.nx,kR K H L D.rt,kM K H L D.bk,kM K H L D.ct⟩
def l5{K:j'}{H f:Hp}{L e:List Addr}{D:Ends}(s:aK (af H L) (af f e)):kL.Le (pK K H L D) (pK K f e D) :=
 ⟨λ_ _ h σ c a b r g=>h σ c a (s.trans b) r g,λ_ _ h v c a b g d=>h v c a (s.trans b) g d,λ_ _ h σ c a b r g=>h σ c a (s.trans b) r g,λ_ _ h σ c a b r g=>h σ c a (s.trans b) r g⟩
def oM(K:j')(t:iW):TS:=λD σ H=>∃ δ μ L,cE K (af H L) σ δ/\eZ K H μ L/\t (pK K H L D) δ μ
structure Ag (X:Cx) (st:Stmt) (t:iW):Prop where
 ps:PS X st (oM X.K t)
 mono:xq t
structure uO (X:Cx) (st:List Stmt) (t:iW):Prop where
 ps:lg X st (oM X.K t)
 mono:xq t
section
variable {X:Cx}{st:Stmt}{rest body els:List Stmt}{t u:iW}{e c:Expr}{te:ED}{uc:TD}{pos:Pos}
def Bw:iW:=λE δ μ=>E.nx δ μ
def zl(t u:iW):iW:=λE δ μ=>t { E with nx:=u E } δ μ
def fR:uO X [] Bw:=⟨lg.imp tM fun D σ H ⟨δ,μ,L,r,g,h⟩=>h σ H L (aK.refl _) r g,λE a δ μ l h=>l.nx _ _ h⟩
def aY(h1:Ag X st t)(a:uO X rest u):uO X (st::rest) (zl t u) :=
 ⟨lg.imp (qE h1.ps a.ps) fun D σ H ⟨δ,μ,L,r,g,h⟩=>⟨δ,μ,L,r,g,h1.mono { pK X.K H L D with nx:=u (pK X.K H L D)} _ _ _ ⟨λb f q o m i j r' g'=>⟨b,f,i,r',g',a.mono _ _ _ _ (l5 j) q⟩,λ_ _ q=>q,λ_ _ q=>q,λ_ _ q=>q⟩ h⟩,
  λE n δ μ l h=>h1.mono { E with nx:=u E } _ _ _ ⟨λb f q=>a.mono _ _ _ _ l q,l.rt,l.bk,l.ct⟩ h⟩
def bc(h1:Ag X st t):uO X [st] t:=⟨yf h1.ps,h1.mono⟩
def oB(t:kQ):iW:=λE δ μ=>t { nx:=λa=>E.nx a μ,rt:=λd=>E.rt d μ,bk:=λa=>E.bk a μ,ct:=λa=>E.ct a μ } δ
def yP{t:kQ}(m:xr t){D:Ends}{σ:L2.St}{H:Hp}(h:oM X.K (oB t) D σ H):M7 (oS X.K t) D σ H:=by
 obtain⟨δ,μ,L,r,g,h⟩:=h
 refine⟨L,g.dg,δ,r,?_⟩
 refine m { nx:=λf=>(pK X.K H L D).nx f μ,rt:=λd=>(pK X.K H L D).rt d μ,bk:=λf=>(pK X.K H L D).bk f μ,ct:=λf=>(pK X.K H L D).ct f μ } _ _ ⟨λf q i b a r' z=>?_,λd q v b a dv z=>?_,λf q i b a r' z=>?_,λf q i b a r' z=>?_⟩ h
 ·have e:af (aW b H L) L=b:=bC z
  exact q i _ L (by rw[e];exact a) (by rw[e];exact r') (g.show z a)
 ·have e:af (aW b H L) L=b:=bC z
  exact q v _ L (by rw[e];exact a) (g.show z a) (by rw[e];exact dv)
 ·have e:af (aW b H L) L=b:=bC z
  exact q i _ L (by rw[e];exact a) (by rw[e];exact r') (g.show z a)
 ·have e:af (aW b H L) L=b:=bC z
  exact q i _ L (by rw[e];exact a) (by rw[e];exact r') (g.show z a)
def B2{t:kQ}(m:xr t):xq (oB t):=λE b δ μ l h=>m { nx:=λa=>E.nx a μ,rt:=λd=>E.rt d μ,bk:=λa=>E.bk a μ,ct:=λa=>E.ct a μ } _ _ ⟨λ_ q=>l.nx _ _ q,λ_ q=>l.rt _ _ q,λ_ q=>l.bk _ _ q,λ_ q=>l.ct _ _ q⟩ h
def bp{t:kQ}(h:Ah X st t):Ag X st (oB t):=⟨PS.imp (Ci h.ps) λD σ H q=>yP h.mono q,B2 h.mono⟩
def vJ{t:kQ}(h:oU X rest t):uO X rest (oB t):=⟨lg.imp (Fe h.ps) λD σ H q=>yP h.mono q,B2 h.mono⟩
def NK(a:TD)(t u:iW):iW:=λE δ μ=>a (dD μ δ) λb=>if b=true then t E δ μ else u E δ μ
def i6(j:kO X c uc)(i:uO X body t)(f:uO X els u):Ag X (.If c body els pos) (NK uc t u):=by
 refine⟨PS.imp (G_ j.pt i.ps f.ps) λD σ H ⟨δ,μ,L,r,g,h⟩=>⟨_,g.dD r,j.mono _ _ _ (λk q m b=>?_) h⟩,λE n δ μ l h=>j.mono _ _ _ (λk q=>?_) h⟩
 ·have a:aK (af H L) (af m L):=jW b
  cases k with
  |true =>
   show if true=true then _ else _
   rw[if_pos rfl] at q ⊢;exact⟨δ,μ,L,r.same a,g.on b,i.mono _ _ _ _ (l5 a) q⟩
  |false =>
   show if false=true then _ else _
   rw[if_neg A'] at q ⊢;exact⟨δ,μ,L,r.same a,g.on b,f.mono _ _ _ _ (l5 a) q⟩
 ·cases k with
  |true=>rw[if_pos rfl] at q ⊢;exact i.mono _ _ _ _ l q
  |false=>rw[if_neg A'] at q ⊢;exact f.mono _ _ _ _ l q
def Dv.yH{K:j'}{H a:Hp}{v:V}{d:D}(h:Dv K H v d)(f:bo d=true):Dv K a v d:=by
 cases h with
 |ah=>exact .ah
 |bl b=>exact .bl b
 |int i=>exact .int i
 |str x=>exact .str x
 |_=>cases f
def LD(a:ED):iW:=λE δ μ=>a (dD μ δ) λd=>E.rt d []
def Ip(he:PD X e te):Ag X (.Return (some e) pos) (LD te) :=
 ⟨PS.imp (Ck he.pe) fun D σ H ⟨δ,μ,L,r,g,h⟩=>⟨_,g.dD r,he.mono _ _ _ (λd q v b a dv=>q v b [] (by rw[cY];exact av.trans a) eZ.nil (by rw[cY];exact dv)) h⟩,
  λE f δ μ l h=>he.mono _ _ _ (λd q=>l.rt _ _ q) h⟩
end
def oZ(a:Addr)(m:MD)(μ:Mu):Mu:=μ.map λp=>if p.1=a then(a,m) else p
def rK(a:Addr)(m:MD)(μ:Mu):(oZ a m μ).map (·.1)=μ.map (·.1):=by
 unfold oZ
 rw[Pe]
 refine QR λp _=>?_
 show(if p.1=a then(a,m) else p).1=p.1
 split
 ·rename_i h;exact h.symm
 ·rfl
section
variable {K:j'}{H:Hp}{μ:Mu}{L:List Addr}{a:Addr}{vs ys:List V}{ds:List D}
def gQ{o:HO}(h:a∈L):af (upd H a o) L=af H L:=by
 funext b
 by_cases c:b∈L
 ·rw[cg c,cg c]
 ·rw[bM c,bM c,aL (λz=>c (by rw[z];exact h))]
end
end DC
namespace L2
section
variable {X:Cx}{tg:Expr}{g:TG}
def OZ(g:TG):TG:=λv σ H Q=>∃L,(∀a∈L,df H L a)/\g v σ (af H L) λe c=>(∀b∈L,c b=none)->Q e (aW c H L)
def JT(h:PG X tg g):PG X tg (OZ g):=by
 intro a s σ H v u Q I r ⟨L,hL,q⟩
 refine lM I hL λpl e _ b=>?_
 refine bH (h (a++pl) s σ _ v u _ e r q) ?_;rintro _ i ⟨f,j,c,k⟩
 obtain⟨z,J⟩:=b _ _ _ c
 exact⟨f,_,J,k z⟩
end
end L2
namespace DC
section
variable {X:Cx}{tg iter:Expr}{body:List Stmt}{ti:AD}{g:Dn}{tb:iW}{pos:Pos}
abbrev wL:=List D->SD->(SD->Prop)->Prop
structure Dx (X:Cx) (ts:List Expr) (g:wL):Prop where
 pg:Dk X ts (λvs σ H Q=>∃ds δ,bZ X.K H vs ds/\cE X.K H σ δ/\g ds δ (kS X.K H Q))
 mono:∀ds δ (P P':SD->Prop),(∀ δ,P δ->P' δ)->g ds δ P->g ds δ P'
def II:wL:=λds δ Q=>ds=[]/\Q δ
def ur(t:Dn)(u:wL):wL:=λds δ Q=>∃d r,ds=d::r/\t d δ λa=>u r a Q
def Dk.imp{ts:List Expr}{t t':Ga}(h:Dk X ts t)(f:∀v σ H Q,t' v σ H Q->t v σ H Q):Dk X ts t':=λa s σ H v u Q I r q=>h a s σ H v u Q I r (f v σ H Q q)
def wg:Dx X [] II:=⟨Dk.imp yX fun vs σ H Q ⟨ds,δ,dv,r,e,q⟩=>by subst e;cases dv;exact⟨rfl,q σ H (aK.refl _) r⟩,fun ds δ P a f ⟨e,q⟩=>⟨e,f _ q⟩⟩
def jU{e:Expr}{es:List Expr}{t:Dn}{u:wL}(h1:KZ X e t)(c:Dx X es u)(l:autoParam ((assignEach (e::es) X.env).map (·.2)=assign e X.env::(assignEach es X.env).map (·.2)) a9):Dx X (e::es) (ur t u):=by
 refine⟨Dk.imp (qB h1.pg c.pg l) ?_,fun ds δ P n f ⟨d,r,e,q⟩=>⟨d,r,e,h1.mono _ _ _ _ (λi k=>c.mono _ _ _ _ f k) q⟩⟩;rintro vs σ H Q ⟨ds,δ,dv,r,d,j,e,q⟩
 subst e
 cases dv with
 |cons a b=>exact⟨_,_,rfl,d,δ,a,r,h1.mono _ _ _ _ (λi k p o h r'=>⟨j,i,bZ.same h b,r',c.mono _ _ _ _ (λm z=>z.on h) k⟩) q⟩
def IK(n:Nat)(u:wL):Dn:=λd δ Q=>∃ds,d=.tup ds/\ds.length=n/\u ds δ Q
def Ba{es:List Expr}{k:Nat}{u:wL}{n:Nat}(j:X.calm=true)(h:Dx X es u)(i:autoParam ((assignEach es X.env).length=n) a9)(b:autoParam ((assignEach es X.env).findIdx? (·.1)=none) a9):KZ X (.Tuple es k pos) (IK n u):=by
 refine⟨PG.imp (Ca j h.pg i b) ?_,fun d δ P l f ⟨ds,e,a,q⟩=>⟨ds,e,a,h.mono _ _ _ _ f q⟩⟩;rintro v σ H Q ⟨d,δ,dv,r,ds,e,a,q⟩
 subst e
 cases dv with
 |tup h1 c=>exact⟨_,_,rfl,h1,by rw[c.length];exact a,ds,δ,c,r,q⟩
def Ic(h:AD)(g:Dn)(f:iW):iW:=λE δ μ=>h δ λds=>∃a:Nat->SD->Mu->Prop,a 0 δ μ /\
 (∀i d b c,ds[i]?=some d->a i b c->g d b λe=>f { E with nx:=a (i+1),ct:=a (i+1),bk:=E.nx } e c)/\∀ b c,a ds.length b c->E.nx b c
def pz(hp:WA (model X.prog X.w) X.A X.env X.xe)(hc:X.calm=true)(Y:PId X tg iter ti)(hg:KZ X tg g)(G:uO X body tb)(hs:autoParam (∀x,foldedSetIterable iter X.env x=pure x) c7) :
  Ag X (.For tg iter body [] pos) (Ic ti g tb):=by
 refine⟨PS.imp (Cg hp hc (JV Y.pi) (JT hg.pg) G.ps hs) fun D σ H ⟨δ,μ,L,r,st,h⟩=>⟨L,st.dg,δ,r,Y.mono _ _ _ (?_) h⟩,λE E' δ μ l h=>Y.mono _ _ _ (fun ds ⟨c,i0,step,u⟩=>⟨c,i0,λi d n j hd s=>hg.mono _ _ _ _ (λv q=>G.mono { E with nx:=c (i+1),ct:=c (i+1),bk:=E.nx } _ _ _ ⟨λ_ _ q=>q,l.rt,l.nx,λ_ _ q=>q⟩ q) (step i d n j hd s),λn j q=>l.nx _ _ (u n j q)⟩) h⟩;rintro ds ⟨c,i0,step,u⟩ J H1 S it z
 have e1:af (aW H1 H L) L=H1:=bC z
 refine⟨λi m Z p=>m=ds.length - i/\i<=ds.length/\∃ n j a,aK H1 (af p a)/\cE X.K (af p a) Z n/\eZ X.K p j a/\c i n j,⟨ds.length,rfl,P6 _,δ,μ,L,by rw[e1];exact aK.refl _,by rw[e1];exact r.same S,st.show z S,i0⟩,?_⟩
 rintro i m Z p ⟨rfl,hle,n,j,a,Q,r',C,s⟩
 have sf:aK H1 p:=Q.trans av
 by_cases B:i<ds.length
 ·refine .inr ⟨it.go i p sf B,λσ2 U=>∃ v R O,aK H1 (af U O)/\cE X.K (af U O) σ2 v/\eZ X.K U R O/\c (i+1) v R,fun σ2 U ⟨v,R,O,q⟩=>⟨ds.length - (i+1),by omega,rfl,B,v,R,O,q⟩,λx f y=>?_⟩
  obtain⟨s2,d,hd,Hx,_,W,hx,sx⟩:=it.Am i p x f sf B y
  have sA:aK (af p a) (af f a):=jW s2
  have sX:aK Hx (af f a):=λb o G=>by
   have nb:b∉a:=by
    intro I
    rcases hx b o G with q|q
    ·have:=Q _ _ q
     rw[cg I] at this
     cases this
    ·obtain⟨o',q'⟩:=(C.dg b I).there
     rw[q] at q'
     cases q'
   rw[bM nb]
   exact sx _ _ G
  have P:eZ X.K f j a:=C.on s2
  refine⟨a,P.dg,d,n,W.same sX,r'.same sA,hg.mono _ _ _ _ (λv q σ3 M s3 r3 z3=>?_) (step i d n j hd s)⟩
  have T:af (aW M f a) a=M:=bC z3
  have st3:eZ X.K (aW M f a) j a:=P.show z3 s3
  have sB:aK H1 M:=Q.trans (sA.trans s3)
  refine⟨v,j,a,by rw[T];exact r3,st3,G.mono { pK X.K H L D with nx:=c (i+1),ct:=c (i+1),bk:=(pK X.K H L D).nx } _ _ _ ?_ q⟩
  have sC:aK (af H L) (af (aW M f a) a):=by rw[T];exact S.trans sB
  have l:=l5 (K:=X.K) (D:=D) sC
  refine⟨λδ4 μ4 t σ4 H4 L4 N r4 F=>⟨δ4,μ4,L4,?_,r4,F,t⟩,λ_ _ t=>l.rt _ _ t,λ_ _ t=>l.nx _ _ t,λδ4 μ4 t σ4 H4 L4 N r4 F=>⟨δ4,μ4,L4,?_,r4,F,t⟩⟩
  ·rw[T] at N;exact sB.trans N
  ·rw[T] at N;exact sB.trans N
 ·have e:i=ds.length:=by omega
  subst e
  exact .inl ⟨it.stop p sf,u n j s Z p a (S.trans Q) r' C⟩
end
section
variable {P:O0}{w:World}{K:j'}{mg:Str->Option Value}{base:Heap}
def OJ{x b:Str}{st:Stmt}{f:Addr}{o:Pw}{N n:List Str}{k:Nat}{m:cU}{t:iW}(F:wA K x b st f o)(S:aG N n (aB st))(len:∀ds Q,m ds Q->ds.length=n.length)
  (u:∀(c:Value) (A:Around) (a:List Env) (s:Shared) (H:Hp) (E:XK),bf k (A.deeper (envOfC b (aB st) s.heap.objs.size f c))->uO (Bx P w K mg base N b st f c A a s H E) (aw st) t)
  (y:∀ds Q,m ds Q->t { nx:=λ_ _=>Q .ah,rt:=λd μ=>Q (cb μ d)} (bw N ds) []):cH P w K mg base nZ (k+1) f o n (qO K m):=by
 refine F.ok S (fun vs H Q E ⟨ds,i,h⟩=>by rw[i.length];exact len ds _ h) (?_);rintro c A a s H vs Q E e ⟨ds,i,h⟩
 have B:=u c A a s H E e
 refine⟨_,B.ps,bw N ds,[],[],by rw[cY];exact gg i,eZ.nil,?_⟩
 refine B.mono { nx:=λ_ _=>kD K H Q .ah,rt:=λd μ=>kD K H Q (cb μ d)} _ _ _ ⟨λδ μ q σ l p j r g=>?_,λd μ q v l p j g dv=>?_,λ_ _ q=>q.elim,λ_ _ q=>q.elim⟩ (y ds _ h)
 ·rw[cY] at j
  exact q _ l (j.trans av) .ah
 ·rw[cY] at j
  exact q _ l (j.trans av) (g.view dv)
end
structure bL (P:O0) (w:World) (K:j') (mg:Str->Option Value) (base:Heap) (k:Nat) (x:Str) (ps:List Str) (sd:cU):Prop where
 ex:∃f fd,cH P w K mg base nZ k f fd ps (qO K sd)/\mg x=some (.ref f)/\keepIn K (.ref f)=true/\Binds K fd ps []
 ms:b9 sd
section
variable {P:O0}{w:World}{K:j'}{mg:Str->Option Value}{base:Heap}
def bL.up{j k:Nat}{x:Str}{a:List Str}{sd:cU}(c:bL P w K mg base j x a sd)(h:j<=k):bL P w K mg base k x a sd :=
 ⟨let ⟨f,b,F,r⟩:=c.ex;⟨f,b,F.mono h,r⟩,c.ms⟩
structure Df (K:j') (mg:Str->Option Value) (x:Str) (st:Stmt) (ps:List Str):Prop where
 ex:∃f fd,wA K x x st f fd/\mg x=some (.ref f)/\Binds K fd ps []
def Df.c_{k:Nat}{x:Str}{st:Stmt}{e N:List Str}{sd:cU}{t:kQ}(d:Df K mg x st e)(S:aG N e (aB st))(j:b9 sd)(len:∀ds Q,sd ds Q->ds.length=e.length)
  (h:∀(f:Addr) (c:Value) (A:Around) (a:List Env) (s:Shared) (H:Hp) (E:XK),bf k (A.deeper (envOfC x (aB st) s.heap.objs.size f c))->oU (Bx P w K mg base N x st f c A a s H E) (aw st) t)
  (i:∀ds Q,sd ds Q->t { nx:=λ_=>Q .ah,rt:=Q } (bw N ds)):bL P w K mg base (k+1) x e sd:=by
 obtain⟨f,g,F,m,b⟩:=d.ex
 exact⟨⟨f,g,OI F S len (h f) i,m,F.kp,b⟩,j⟩
def Df.M3{k:Nat}{x:Str}{st:Stmt}{e N:List Str}{sd:cU}{t:iW}(d:Df K mg x st e)(S:aG N e (aB st))(j:b9 sd)(len:∀ds Q,sd ds Q->ds.length=e.length)
  (h:∀(f:Addr) (c:Value) (A:Around) (a:List Env) (s:Shared) (H:Hp) (E:XK),bf k (A.deeper (envOfC x (aB st) s.heap.objs.size f c))->uO (Bx P w K mg base N x st f c A a s H E) (aw st) t)
  (i:∀ds Q,sd ds Q->t { nx:=λ_ _=>Q .ah,rt:=λd μ=>Q (cb μ d)} (bw N ds) []):bL P w K mg base (k+1) x e sd:=by
 obtain⟨f,g,F,m,b⟩:=d.ex
 exact⟨⟨f,g,OJ F S len (h f) i,m,F.kp,b⟩,j⟩
end
section
variable {X:Cx}{e:Expr}{es:List Expr}{t:AD}{j k:Nat}{x:Str}{ps:List Str}{sd:cU}{p pos:Pos}
def aN(c:bL X.prog X.w X.K X.mg X.base j x ps sd)(i:bf k X.A)(n:j<=k)(g:Gl X x)(l:nh X (e::es) t)(a:autoParam ((x == ("__debug__":Str))=false) b7)
  (h1:autoParam (starEach (e::es) X.env=(false,eval e X.env)::starEach es X.env) a9)(o:autoParam ((backTo pos (starEach es X.env)).any (·.1)=false) a9):PD X (.Call (.Name x p) (e::es) [] pos) (gD sd t):=by
 obtain⟨f,q,F,m,h,b⟩:=c.ex
 exact Hn F c.ms (i.mono n) g m h b l a (tG F (i.mono n) g m h b .nil qA l.pa a h1 o)
end
section
variable {X:Cx}{scope:Scope}{cl:List (Str × Addr)}{x:Str}{caps:List Nat}{cn:List Str}{tg iter elt:Expr}{ifs:List Expr}{ti:AD}{tt:TD}{te:ED}{pos:Pos}
def zI(S:cB X scope cl [x] caps cn)(i:X.calm=true)(h:PId X tg iter ti)(f:∀C b a c,PG (ay X scope cl C ([x]++cn) b a c) tg (ir 0))(e:∀C b a c,wK (ay X scope cl C ([x]++cn) b a c) ifs tt)
  (he:∀C b a c,PD (ay X scope cl C ([x]++cn) b a c) elt te)(g:autoParam (∀x,foldedSetIterable iter X.env x=pure x) c7):PD X (.ListComp elt [⟨tg,iter,ifs,0⟩] scope pos) (qR caps ti tt te) :=
 Ho S i h f e he (e 0 [] X.s₀ X.H₀).mono (he 0 [] X.s₀ X.H₀).mono g
def Jk{i:Nat}{y:Str}{j a:Pos}(p:X.N.Nodup)(g:X.N[i]?=some y)(n:Loc X.env.scope y)(S:cB X scope cl [x] caps cn)(r:X.calm=true)(o:PId X tg iter ti)
  (l:∀C b c e,PG (ay X scope cl C ([x]++cn) b c e) tg (ir 0))(h:∀C b c e,wK (ay X scope cl C ([x]++cn) b c e) ifs tt)(he:∀C b c e,PD (ay X scope cl C ([x]++cn) b c e) elt te)
  (f:autoParam (QL (.ListComp elt [⟨tg,iter,ifs,0⟩] scope pos) (some (.Name y j)) a.line X.env=pure true) a9)(q:autoParam (X.fn y=true\/X.env.scope.names.lookup y=some .local) dA)
  (m:autoParam (∀x,foldedSetIterable iter X.env x=pure x) c7):Ah X (.Assign [.Name y j] (.ListComp elt [⟨tg,iter,ifs,0⟩] scope pos) a) (Cr i (qR caps ti tt te)) :=
 Jj p g n S r o l h he (h 0 [] X.s₀ X.H₀).mono (he 0 [] X.s₀ X.H₀).mono f q m
def isSome_of{cl:List (Str × Addr)}{y:Str}:y∈cl.map (·.1)->(cl.lookup y).isSome=true:=by
 induction cl with
 |nil=>intro h;cases h
 |cons p r a =>
  intro h
  rw[PV]
  cases q:y == p.1 with
  |true=>rfl
  |false =>
   rw[O1,B'] at h
   rcases h with h|h
   ·rw[h] at q;simp at q
   ·exact a h
def yI{cl:List (Str × Addr)}(a:List Str)(b:cl.map (·.1)=a)(h:∀y∈scope.names,y.2=.free->y.1∈a):∀y∈scope.names,y.2=.free->(cl.lookup y.1).isSome=true:=λy c e=>isSome_of (by rw[b];exact h y c e)
def qr{f:Str × Addr->Prop}:∀p∈([]:List (Str × Addr)),f p:=λp h=>nomatch h
def gm{f:Str × Addr->Prop}{a:Str × Addr}{r:List (Str × Addr)}(h:f a)(b:∀p∈r,f p):∀p∈a::r,f p:=List.forall_mem_cons.mpr ⟨h,b⟩
end
section
variable {X:Cx}{e:Expr}{te:ED}{p p2 pos:Pos}
def gR(c:Gl X "isinstance")(g:X.mg "isinstance"=none)(a:Gl X "bool")(b:X.mg "bool"=none)(he:PD X e te)(f:autoParam (starEach [e,.Name "bool" p2] X.env=(false,eval e X.env)::starEach [.Name "bool" p2] X.env) a9):PD X (.Call (.Name "isinstance" p) [e,.Name "bool" p2] [] pos) (rV "bool" te):=(ro he c g a b wN (by decide) (by decide) f).iX he.mono (by decide)
def Ea(c:Gl X "isinstance")(g:X.mg "isinstance"=none)(a:Gl X "int")(b:X.mg "int"=none)(he:PD X e te)(f:autoParam (starEach [e,.Name "int" p2] X.env=(false,eval e X.env)::starEach [.Name "int" p2] X.env) a9):PD X (.Call (.Name "isinstance" p) [e,.Name "int" p2] [] pos) (rV "int" te):=(ro he c g a b qp (by decide) (by decide) f).iX he.mono (by decide)
def nG(c:Gl X "isinstance")(g:X.mg "isinstance"=none)(a:Gl X "tuple")(b:X.mg "tuple"=none)(he:PD X e te)(f:autoParam (starEach [e,.Name "tuple" p2] X.env=(false,eval e X.env)::starEach [.Name "tuple" p2] X.env) a9):PD X (.Call (.Name "isinstance" p) [e,.Name "tuple" p2] [] pos) (rV "tuple" te):=(ro he c g a b boot_tuple (by decide) (by decide) f).iX he.mono (by decide)
def u7(c:Gl X "isinstance")(g:X.mg "isinstance"=none)(a:Gl X "list")(b:X.mg "list"=none)(he:PD X e te)(f:autoParam (starEach [e,.Name "list" p2] X.env=(false,eval e X.env)::starEach [.Name "list" p2] X.env) a9):PD X (.Call (.Name "isinstance" p) [e,.Name "list" p2] [] pos) (rV "list" te):=(ro he c g a b boot_list (by decide) (by decide) f).iX he.mono (by decide)
end
structure b_ (P:O0) (w:World) (K:j') (mg:Str->Option Value) (base:Heap) (j:Nat) (C:Addr) (m:Str) (sd:cU) (dd:List D):Prop where
 ex:∃f fd ps dvs ds,uI K C/\Meth K C m f/\cH P w K mg base nZ j f fd ps (qO K sd)/\Binds K fd ps ds/\Vals dvs ds/\∀H,bZ K H dvs dd
 ms:b9 sd
def b_.mh{X:Cx}{j k:Nat}{C:Addr}{m:Str}{b:cU}{dd:List D}(c:b_ X.prog X.w X.K X.mg X.base j C m b dd)(i:bf k X.A)(p:j<=k):MH X C m b dd :=
 let ⟨f,e,q,a,ds,h1,h,n,g,o,l⟩:=c.ex
 ⟨j,f,e,q,a,ds,h1,h,n,c.ms,i.mono p,g,o,l⟩
def b_.up{P:O0}{w:World}{K:j'}{mg:Str->Option Value}{base:Heap}{i j:Nat}{C:Addr}{m:Str}{b:cU}{dd:List D}(c:b_ P w K mg base i C m b dd)(h:i<=j):b_ P w K mg base j C m b dd :=
 ⟨let ⟨f,e,n,a,ds,h1,g,l,r⟩:=c.ex;⟨f,e,n,a,ds,h1,g,l.mono h,r⟩,c.ms⟩
structure Dm (K:j') (C:Addr) (m qual:Str) (st:Stmt) (ps:List Str):Prop where
 ex:∃f fd,wA K m qual st f fd/\Meth K C m f/\uI K C/\Binds K fd ps []
section
variable {P:O0}{w:World}{K:j'}{mg:Str->Option Value}{base:Heap}
def Dm.c_{k:Nat}{C:Addr}{m a:Str}{st:Stmt}{i N:List Str}{h:cU}{t:kQ}(d:Dm K C m a st i)(S:aG N i (aB st))(o:b9 h)(len:∀ds Q,h ds Q->ds.length=i.length)
  (l:∀(f:Addr) (g:Value) (A:Around) (e:List Env) (s:Shared) (H:Hp) (E:XK),bf k (A.deeper (envOfC a (aB st) s.heap.objs.size f g))->oU (Bx P w K mg base N a st f g A e s H E) (aw st) t)
  (n:∀ds Q,h ds Q->t { nx:=λ_=>Q .ah,rt:=Q } (bw N ds)):b_ P w K mg base (k+1) C m h []:=by
 obtain⟨f,j,F,M,c,b⟩:=d.ex
 exact⟨⟨f,j,i,[],[],c,M,OI F S len (l f) n,b,.nil,λ_=>.nil⟩,o⟩
structure qX (P:O0) (w:World) (K:j') (mg:Str->Option Value) (base:Heap) (j:Nat) (x:Str) (C:Addr) (sd:GZ) (dd:List D):Prop where
 ex:∃f fd ps dvs ds,Mk K C f/\cH P w K mg base nZ j f fd ps (Nh K C sd)/\mg x=some (.ref C)/\Binds K fd ps ds/\Vals dvs ds/\∀H,bZ K H dvs dd
 ms:wJ sd
structure Di (K:j') (mg:Str->Option Value) (x:Str) (C:Addr) (qual:Str) (st:Stmt) (ps:List Str) (dd:List D):Prop where
 ex:∃f fd dvs ds,Dt K "__init__" qual st f fd/\Mk K C f/\mg x=some (.ref C)/\Binds K fd ps ds/\Vals dvs ds/\∀H,bZ K H dvs dd
def Di.E3{k:Nat}{x:Str}{C:Addr}{c:Str}{st:Stmt}{j N:List Str}{dd:List D}{i:GZ}{t:Addr->yv}(d:Di K mg x C c st j dd)(S:aG N j (aB st))(q:wJ i)(len:∀ds Q,i ds Q->ds.length+1=j.length)
  (o:∀(f:Addr) (g:Value) (A:Around) (e:List Env) (s:Shared) (H:Hp) (E:XK),bf k (A.deeper (envOfC c (aB st) s.heap.objs.size f g))->KI (Bx P w K mg base N c st f g A e s H E) C (aw st) t)
  (p:∀a ds Q,i ds Q->t a { nx:=λ_=>Q,rt:=Q,fin:=Q } (bw N (.adr a::ds)) []):qX P w K mg base (k+1) x C i dd:=by
 obtain⟨f,n,l,ds,F,M,m,b,v,h⟩:=d.ex
 exact⟨⟨f,n,j,l,ds,M,Oh F S len (o f) p,m,b,v,h⟩,q⟩
end
section
variable {X:Cx}{ok:Addr->Prop}{o e:Expr}{es:List Expr}{m x:Str}{sd:Addr->cU}{dd:List D}{ta:ED}{t:AD}{pos apos p:Pos}{j k:Nat}{C:Addr}{si:GZ}
def eJ{pl:Sem Bool}(g:∀C,ok C->b_ X.prog X.w X.K X.mg X.base j C m (sd C) dd)(a:bf k X.A)(c:j<=k)(he:PD X o ta)
  (b:autoParam (eval (.Call (.Attribute o m apos) [] [] pos) X.env=(do
   let ov <- eval o X.env
   Rw apos.atName
   let (f,first) <- holding [ov] (getMethod ov m pl)
   SV pos f first (backTo pos (starEach [] X.env)) (backToKw pos (keywordEach [] X.env)))) a9) :
  PD X (.Call (.Attribute o m apos) [] [] pos) (lF ok m sd dd ta bG):=EB (λC h=>(g C h).mh a c) he b
def wU{pl:Sem Bool}(g:∀C,ok C->b_ X.prog X.w X.K X.mg X.base j C m (sd C) dd)(c:bf k X.A)(l:j<=k)(he:PD X o ta)(i:nh X (e::es) t)
  (a:autoParam (starEach (e::es) X.env=(false,eval e X.env)::starEach es X.env) a9)(hpl:autoParam ((backTo pos (starEach es X.env)).any (·.1)=false) a9)
  (b:autoParam (eval (.Call (.Attribute o m apos) (e::es) [] pos) X.env=(do
   let ov <- eval o X.env
   Rw apos.atName
   let (f,first) <- holding [ov] (getMethod ov m pl)
   SV pos f first (backTo pos (starEach (e::es) X.env)) (backToKw pos (keywordEach [] X.env)))) a9) :
  PD X (.Call (.Attribute o m apos) (e::es) [] pos) (lF ok m sd dd ta t):=Hz (λC h=>(g C h).mh c l) he i a hpl b
def rp(c:qX X.prog X.w X.K X.mg X.base j x C si dd)(n:bf k X.A)(r:j+1<=k)(i:Gl X x)(q:nh X (e::es) t)(a:autoParam ((x == ("__debug__":Str))=false) b7)
  (h1:autoParam (starEach (e::es) X.env=(false,eval e X.env)::starEach es X.env) a9)(g:autoParam ((backTo pos (starEach es X.env)).any (·.1)=false) a9):PD X (.Call (.Name x p) (e::es) [] pos) (HN C si dd t):=by
 obtain⟨f,s,u,l,ds,M,F,m,b,v,h⟩:=c.ex
 exact Hw M F c.ms (n.mono r) i m b v h q a h1 g
end
section
variable {X:Cx}{e:Expr}{te:ED}{p p2 pos pos':Pos}{f x:Str}{C:Addr}
def aT(K:j')(b:X.K=K)(he:PD X e te)(a:Qe e f X.env (eval e X.env)=eval e X.env):PD X (.Attribute e f pos) (GQ K te f):=by subst b;exact Ki he a
def cL(K:j')(b:X.K=K)(g:X.N[0]?=some x)(h:Dp X.env.scope x)(he:PD X e te)(c:autoParam (QL e (some (.Attribute (.Name x p) f pos')) pos.line X.env=pure false) a9)(i:autoParam ((x == ("__debug__":Str))=false) b7)
  (a:autoParam ((x == ("__classdict__":Str))=false) b7):MY X C (.Assign [.Attribute (.Name x p) f pos'] e pos) (K6 K C f te):=by subst b;exact K7 g h he c i a
end
section
variable {X:Cx}{o e:Expr}{es:List Expr}{to te:ED}{t:AD}{p p1 p2 tp pos apos cpos:Pos}
def MS(T U:String)(c:ED):ED:=λδ Q=>c δ λd=>∃a b,iX T d=some a/\iX U d=some b/\Q (.bl (a||b))
def zB{T U:String}:kK X (.builtin "isinstance") (λxs H Q=>∃x q d t b,xs=[x,.ref q]/\H q=some (.tup [.ty T,.ty U])/\Dv X.K H x d/\Gb X.K d t/\kitAny X.K t [.type T,.type U]=some b/\Q (.bl b) H):=by
 intro g s σ H xs us Q I r h
 obtain⟨x,q,d,t,b,rfl,y,dv,v,e,k⟩:=h
 obtain⟨u,F,rfl,C,E⟩:=vals2 r
 cases(show F=F' q from E)
 obtain⟨N,Z,m,w⟩:=yL I C dv v
 obtain⟨j,l,A,_⟩:=I.tuple (eY.of y)
 obtain⟨ob,G,f,n,c⟩:=id A
 obtain⟨z,i,rfl,B,J⟩:=vals2 l
 cases(show z=RG T from B)
 cases(show i=RG U from J)
 obtain⟨cls,M,a,L⟩:=ob
 simp only at f c
 subst f c
 exact PySem.W.kia_tup Z I.qx m G e w λtk=>⟨.bl b,H,I.tok _,rfl,k⟩
def Ej{K:j'}{d:D}{T U:String}{a b:Bool}(hT:T∈["bool","int","str","list","tuple","dict"])(g:U∈["bool","int","str","list","tuple","dict"])(h1:iX T d=some a)(f:iX U d=some b) :
  ∃t,Gb K d t/\kitAny K t [.type T,.type U]=some (a||b):=by
 unfold DC.iX at h1 f
 cases hk:vA d with
 |none=>rw[hk] at h1;cases h1
 |some c =>
  rw[hk] at h1 f
  have i:(c == T||(c == "bool"&&T == "int"))=a:=by simpa using h1
  have h:(c == U||(c == "bool"&&U == "int"))=b:=by simpa using f
  refine⟨_,.k hk,?_⟩
  unfold kitAny
  rw[sR hk hT,i]
  cases a with
  |true=>rfl
  |false =>
   unfold kitAny
   rw[sR hk g,h]
   cases b<;>rfl
def Ht{T U:String}{x y:Str}{c:Nat}(he:PD X e te)(I:Gl X "isinstance")(B:X.mg "isinstance"=none)(m:Gl X x)(E:X.mg x=none)(L:Px x=some (.type T))(z:Gl X y)(s:X.mg y=none)(b2:Px y=some (.type U))
  (hT:T∈["bool","int","str","list","tuple","dict"])(n:U∈["bool","int","str","list","tuple","dict"])(w:autoParam (x≠"__name__") b7)(F:autoParam (y≠"__name__") b7)(C:autoParam ((x == ("__debug__":Str))=false) b7)(u:autoParam ((y == ("__debug__":Str))=false) b7)
  (j:autoParam (starEach [e,.Tuple [.Name x p1,.Name y p2] c tp] X.env=(false,eval e X.env)::starEach [.Tuple [.Name x p1,.Name y p2] c tp] X.env) a9) :
  PD X (.Call (.Name "isinstance" p) [e,.Tuple [.Name x p1,.Name y p2] c tp] [] pos) (MS T U te):=by
 refine⟨(i8 (zB (T:=T) (U:=U)) I B Ww (d8 he.pe (d8 (CZ (d8 (tF (v:=.ty T) m E L rfl w C) (d8 (tF (v:=.ty U) z s b2 rfl F u) lS))) lS) j) (he:=j)).imp
  fun σ H Q ⟨δ,r,h⟩=>⟨δ,r,he.mono _ _ _ (fun d ⟨a,b,f,i,k⟩ v N G dv=>⟨(show 2<=sizeLine by decide),λq l=>?_⟩) h⟩,λδ P M g h=>he.mono _ _ _ (fun d ⟨a,b,f,i,k⟩=>⟨a,b,f,i,g _ k⟩) h⟩
 obtain⟨t,A,J⟩:=Ej (K:=X.K) hT n f i
 exact⟨v,q,d,t,_,rfl,aI,dv.same (aO l),A,J,k _ _ (G.trans (aO l)) (.bl _)⟩
def Fv(z:D):cU:=λds Q=>∃x y,z=.str x/\ds=[.str y]/\(y.length == 0)=false/\x.length+2<=sizeLine/\Q (.lst ((QD x y).map D.str))
def pJ{K:j'}{H:Hp}:∀(a:List Str),bZ K H (a.map V.str) (a.map D.str)
 |[]=>.nil
 |w::a=>.cons (.str w) (pJ a)
def v5{K:j'}{H:Hp}:∀{vs:List V} {a:List Str},bZ K H vs (a.map D.str)->vs=a.map V.str
 |[],[],_=>rfl
 |_,_::_,.cons (.str _) r=>by rw[v5 r];rfl
def isStr:D->Prop:=λd=>∃x,d=.str x
def N0(b:D->cU)(a:ED)(t:AD):ED:=λδ Q=>a δ λz=>isStr z/\t δ λds=>b z ds Q
def EG(B:PD X o to)(n:nh X (e::es) t)(f:autoParam (Qe o "split" X.env (eval o X.env)=eval o X.env) a9)
  (l:autoParam (((backTo cpos (starEach (e::es) X.env)).all (λx=>!x.1)&&(backToKw cpos (keywordEach [] X.env)).all (λx=>x.1.isSome)&&decide ((e::es).length+([]:List SK).length+(if([]:List SK).isEmpty then 0 else 1)<30))=true) a9)
  (j:autoParam ((apos.endLine == cpos.line)=true) a9)(E:autoParam (starEach (e::es) X.env=(false,eval e X.env)::starEach es X.env) a9)(c:autoParam ((backTo cpos (starEach es X.env)).any (·.1)=false) a9) :
  PD X (.Call (.Attribute o "split" apos) (e::es) [] cpos) (N0 Fv to t):=by
 refine⟨(Lf PySem.F.plainAttrs_str Ry PySem.F.type_str_split B9 B.pe n.pa f l j E c).imp fun σ H Q ⟨δ,r,h⟩=>⟨δ,r,B.mono _ _ _ (λz ⟨⟨x,G⟩,q⟩ v N C dv=>?_) h⟩,
  λδ P L g h=>B.mono _ _ _ (fun z ⟨i,q⟩=>⟨i,n.mono _ _ _ (fun ds ⟨x,y,w,A,u,s,k⟩=>⟨x,y,w,A,u,s,g _ k⟩) q⟩) h⟩
 subst G
 cases dv
 refine⟨rfl,δ,r.same C,n.mono _ _ _ (?_) q⟩;rintro ds ⟨M,y,w,A,u,s,k⟩ vs O I m
 cases w
 subst A
 cases m with
 |cons a b =>
  cases a
  cases b
  exact⟨_,y,rfl,rfl,u,s,λp J=>k _ _ ((C.trans I).trans (aO J)) (.lst (eX.of aI) (pJ _))⟩
end
end DC
namespace L2
end L2
namespace DC
end DC
namespace L2
section
variable {prog:O0}{w:World}{A:Around}{E:Value->Shared->Prop}{s:Shared}
def mG{c t:Addr}{i:Nat}{a:Array Value}{x:Value}{Q:Value->Shared->Prop}(b:s.heap.IsTupleIter c t i)(j:s.heap.IsTuple t a)(l:a[i]?=some x)
  (m:∀h',h'.IsTupleIter c t (i+1)->Pl c s.heap h'->Q x { s with heap:=h' }):wpAny (model prog w) A (Pk (.ref c)) Q E s:=by
 obtain⟨o,f,n,e⟩:=id b
 obtain⟨p,h,_,q,g⟩:=j
 unfold Pk
 refine wpAny_bind (wpAny_callSpecial?_slot (name:=QE "__next__") b.typeIs Q6 (wpAny_call_entry Q6 b.typeIs T' ?_ (Tz _)))
 show wpAny _ _ (field (.ref c) 0 >>= _) _ _ s
 refine wpAny_bind (wpAny_field f e (x:=.ref t) rfl ?_)
 show wpAny _ _ (if(F' t == QM)=true then _ else _) _ _ s
 rw[if_neg (show¬((F' t == QM)=true) from A')]
 show wpAny _ _ (field (.ref c) 1 >>= _) _ _ s
 refine wpAny_bind (wpAny_field f e (x:=.int i 0) rfl ?_)
 show wpAny _ _ (seqItems? (.ref t) >>= _) _ _ s
 refine wpAny_bind (wpAny_seqItems h g ?_)
 simp only[QY,l]
 refine wpAny_bind (wpAny_setField f e (by simp) (wpAny_pure ⟨x,rfl,wpAny_pure (m _ ?_ (Pd ..))⟩))
 exact⟨_,P4 _ f (Obj.isFreed_of_fields (Ux e _)),(Obj.cls_mapFields ..).trans n,by rw[Ux e];simp[rawInt]⟩
def i7{f t:Addr}{i:Nat}{b:Array Value}{Q:Value->Shared->Prop}(n:A.handled=none)(c:s.heap.IsTupleIter f t i)(p:s.heap.IsTuple t b)(q:b[i]?=none)
  (r:∀h' e,Ud f s.heap h'->(∃o,h'.get? e=some o/\o.cls=.type "StopIteration")->E (.ref e) { s with heap:=h' }):wpAny (model prog w) A (Pk (.ref f)) Q E s:=by
 obtain⟨o,j,y,l⟩:=id c
 obtain⟨u,h,_,v,g⟩:=p
 unfold Pk
 refine wpAny_bind (wpAny_callSpecial?_slot (name:=QE "__next__") c.typeIs Q6 (wpAny_call_entry Q6 c.typeIs T' ?_ (Tz _)))
 show wpAny _ _ (field (.ref f) 0 >>= _) _ _ s
 refine wpAny_bind (wpAny_field j l (x:=.ref t) rfl ?_)
 show wpAny _ _ (if(F' t == QM)=true then _ else _) _ _ s
 rw[if_neg (show¬((F' t == QM)=true) from A')]
 show wpAny _ _ (field (.ref f) 1 >>= _) _ _ s
 refine wpAny_bind (wpAny_field j l (x:=.int i 0) rfl ?_)
 show wpAny _ _ (seqItems? (.ref t) >>= _) _ _ s
 refine wpAny_bind (wpAny_seqItems h g ?_)
 simp only[QY,q]
 refine wpAny_bind (wpAny_rule (wpAny_bind (wpAny_setField j l (by simp) ?_)))
 show wpAny _ _ (newExc (.type "StopIteration") [] >>= _) _ _ _
 refine wpAny_bind ?_
 simp only[newExc,newTuple]
 refine wpAny_bind (wpAny_newObj_type ?_ (by size_fits))
 refine wpAny_bind (m:=Su _ _) (wpAny_of_eq (a:=QM) (by first|rfl|(simp only[Su];rfl)) ?_)
 refine wpAny_newObj_type ?_ (by size_fits)
 simp only[raiseNew]
 refine wpAny_bind (wpAny_handled ?_)
 first|rw[show A.in1.handled=none from n]|rw[n]
 refine wpAny_bind (wpAny_pure (wpAny_throw ?_))
 exact r _ _ (((Pd ..).extBut.push _).push _) ⟨_,K' _ rfl,rfl⟩
end
structure Sq (prog:O0) (w:World) (A:Around) (i l:Addr) (xs:Array Value) (S:Nat->Heap->Prop):Prop where
 item:∀(k:Nat) (s:Shared) (x:Value) (Q:Value->Shared->Prop) (E:Value->Shared->Prop),S k s.heap->xs[k]?=some x->(∀h',S (k+1) h'->Pl i s.heap h'->Q x { s with heap:=h' })->wpAny (model prog w) A (Pk (.ref i)) Q E s
 stop:∀(k:Nat) (s:Shared) (Q:Value->Shared->Prop) (E:Value->Shared->Prop),S k s.heap->xs[k]?=none->(∀h' e,Ud i s.heap h'->(∃o,h'.get? e=some o/\o.cls=.type "StopIteration")->E (.ref e) { s with heap:=h' })->wpAny (model prog w) A (Pk (.ref i)) Q E s
 keep:∀(k:Nat) (h h':Heap),S k h->(∀o,h.get? i=some o->h'.get? i=some o)->(∀o,h.get? l=some o->h'.get? l=some o)->S k h'
 there:∀(k:Nat) (h:Heap),S k h->∃o,h.get? i=some o/\∀v,o.data≠.cell v
section
variable {prog:O0}{w:World}{A:Around}
def F5(p:A.handled=none)(i l:Addr)(j:l≠i)(xs:Array Value):Sq prog w A i l xs (λk h=>h.IsListIter i l k/\h.IsList l xs) where
 item:=fun k s x Q E ⟨h1,f⟩ g r=>wpAny_nextOf_list_item h1 f g λh' m n=>r h' ⟨m,f.extBut n.extBut j⟩ n
 stop:=fun k s Q E ⟨h1,f⟩ g q=>wpAny_nextOf_list_end p h1 f g q
 keep:=fun k h h' ⟨h1,f⟩ a b=>⟨h1.at a,f.at b⟩
 there:=fun k h ⟨⟨o,e,c,d⟩,_⟩=>⟨o,e,λv z=>by rw[d] at z;cases z⟩
def Jr(p:A.handled=none)(i l:Addr)(j:l≠i)(xs:Array Value):Sq prog w A i l xs (λk h=>h.IsTupleIter i l k/\h.IsTuple l xs) where
 item:=fun k s x Q E ⟨h1,f⟩ g t=>mG h1 f g λh' m n=>t h' ⟨m,by obtain⟨o,e,r⟩:=f;exact⟨o,n.extBut _ _ j e,r⟩⟩ n
 stop:=fun k s Q E ⟨h1,f⟩ g q=>i7 p h1 f g q
 keep:=fun k h h' ⟨h1,f⟩ a b=>⟨h1.at a,by obtain⟨o,e,r⟩:=f;exact⟨o,b _ e,r⟩⟩
 there:=fun k h ⟨⟨o,e,c,d⟩,_⟩=>⟨o,e,λv z=>by rw[d] at z;cases z⟩
end
section
variable {prog:O0}{w:World}{A:Around}{E:Value->Shared->Prop}{s:Shared}{z TI TO i1 i2 l1 l2:Addr}{k1 k2:Nat}{xs ys:Array Value}{x y a b:Value}{S1 S2:Nat->Heap->Prop}
def uH{Q:Value->Shared->Prop}(D:Te z TI TO i1 i2 l1 l2)(G:Sq prog w A i1 l1 xs S1)(H:Sq prog w A i2 l2 ys S2)
  (hz:IsZip s.heap z TI TO .none)(O:IsPair s.heap TI (.ref i1) (.ref i2))(M:IsPair s.heap TO a b)(h1:S1 k1 s.heap)(h2:S2 k2 s.heap)(hx:xs[k1]?=some x)(hy:ys[k2]?=some y)
  (hQ:∀h',IsZip h' z TI TO (rawInt s.heap.objs.size)->IsPair h' TO x y->S1 (k1+1) h'->S2 (k2+1) h'->IsPair h' s.heap.objs.size x y->h'.objs.size=s.heap.objs.size+1 ->
   (∀c o,c≠z->c≠TO->c≠i1->c≠i2->s.heap.get? c=some o->h'.get? c=some o)->Q (.ref s.heap.objs.size) { s with heap:=h' }) :
  wpAny (model prog w) A (Builtin.«zip.__next__» ⟨[.ref z],[]⟩) (λB s'=>∃v,B=.done (.ret v)/\Q v s') E s:=by
 show wpAny _ _ (field (.ref z) 2 >>= _) _ _ _
 refine wpAny_bind (wpAny_field hz rfl (x:=.bool false) rfl ?_)
 show wpAny _ _ (field (.ref z) 3 >>= _) _ _ _
 refine wpAny_bind (wpAny_field hz rfl (x:=.ref TI) rfl ?_)
 refine wpAny_bind (wpAny_seqItems O rfl ?_)
 show wpAny _ _ (QT (.ref z) >>= _) _ _ _
 refine wpAny_bind ?_
 unfold QT
 refine wpAny_bind (wpAny_field hz rfl (x:=.none) rfl (wpAny_pure ?_))
 simp only[if_true]
 refine wpAny_bind (wpAny_rule (wpAny_bind (wpAny_field hz rfl (x:=.ref TO) rfl (wpAny_bind (wpAny_setField_rec hz (by simp) λR f h=>?_)))))
 replace f:IsZip R z TI TO .ellipsis:=f
 refine wpAny_bind ?_
 simp only[VA,VL,Rc,Sb]
 refine wpAny_bind (wpAny_bind (wpAny_onRaise ?_))
 show wpAny _ _ (Pk (.ref i1) >>= _) _ _ _
 have P:S1 k1 R:=G.keep _ _ _ h1 (λo q=>h.extBut _ _ D.i1z q) (λo q=>h.extBut _ _ D.l1z q)
 refine wpAny_bind (G.item k1 _ x _ _ P hx λg2 F m=>wpAny_pure ?_)
 have Y:IsPair g2 TO a b:=m.extBut _ _ D.TOi1 (h.extBut _ _ D.TOz M)
 refine wpAny_bind (wpAny_seqItems Y rfl (wpAny_bind (wpAny_updateSeq_pair Y λS N j=>?_)))
 replace N:IsPair S TO x b:=N
 refine wpAny_bind (wpAny_letGo (wpAny_pure ?_))
 refine wpAny_bind (wpAny_bind (wpAny_onRaise ?_))
 show wpAny _ _ (Pk (.ref i2) >>= _) _ _ _
 have C:S2 k2 S:=H.keep _ _ _ h2 (λo q=>j.extBut _ _ D.TOi2.symm (m.extBut _ _ D.i12.symm (h.extBut _ _ D.i2z q))) (λo q=>j.extBut _ _ D.l2TO (m.extBut _ _ D.l2i1 (h.extBut _ _ D.l2z q)))
 refine wpAny_bind (H.item k2 _ y _ _ C hy λg4 I l=>wpAny_pure ?_)
 have W:IsPair g4 TO x b:=l.extBut _ _ D.TOi2 N
 refine wpAny_bind (wpAny_seqItems W rfl (wpAny_bind (wpAny_updateSeq_pair W λe r i=>?_)))
 replace r:IsPair e TO x y:=r
 refine wpAny_bind (wpAny_letGo (wpAny_pure (wpAny_pure ?_)))
 refine wpAny_bind (wpAny_seqItems r rfl (wpAny_bind (wpAny_newTuple ?_)))
 have hsz:e.objs.size=s.heap.objs.size:=by rw[i.1,l.1,j.1,m.1,h.1]
 have Z:IsZip e z TI TO .ellipsis:=i.extBut _ _ D.TOz.symm (l.extBut _ _ D.i2z.symm (j.extBut _ _ D.TOz.symm (m.extBut _ _ D.i1z.symm f)))
 have p:z<e.objs.size:=N' Z
 show wpAny _ _ (Ri (.ref z) (.ref e.objs.size) >>= _) _ _ _
 refine wpAny_bind ?_
 unfold Ri
 have z6:IsZip (e.push { cls:=.type "tuple",data:=.seq #[x,y] }) z TI TO .ellipsis:=y' _ Z
 refine wpAny_bind (wpAny_setField_rec z6 (by simp) λg7 u J=>?_)
 replace u:IsZip g7 z TI TO (rawInt e.objs.size):=u
 refine wpAny_setField_rec u (by simp) λg t L=>?_
 replace t:IsZip g z TI TO (rawInt e.objs.size):=t
 have up:∀c o,c≠z->e.get? c=some o->g.get? c=some o:=λc o n q=>L.extBut _ _ n (J.extBut _ _ n (y' _ q))
 have X:IsPair g e.objs.size x y:=L.extBut _ _ (Pz p) (J.extBut _ _ (Pz p) (K' _ rfl))
 have T:g.objs.size=e.objs.size+1:=by rw[L.1,J.1,Py]
 have f1:S1 (k1+1) g:=G.keep _ _ _ F (λo q=>up _ _ D.i1z (i.extBut _ _ D.TOi1.symm (l.extBut _ _ D.i12 (j.extBut _ _ D.TOi1.symm q)))) (λo q=>up _ _ D.l1z (i.extBut _ _ D.l1TO (l.extBut _ _ D.l1i2 (j.extBut _ _ D.l1TO q))))
 have f2:S2 (k2+1) g:=H.keep _ _ _ I (λo q=>up _ _ D.i2z (i.extBut _ _ D.TOi2.symm q)) (λo q=>up _ _ D.l2z (i.extBut _ _ D.l2TO q))
 rw[hsz] at t X T
 refine wpAny_pure ⟨_,rfl,?_⟩
 show Q (.ref e.objs.size) _
 rw[hsz]
 exact hQ g t (up _ _ D.TOz r) f1 f2 X T λc o n U c3 c4 q=>up c o n (i.extBut _ _ U (l.extBut _ _ c4 (j.extBut _ _ U (m.extBut _ _ c3 (h.extBut _ _ n q)))))
def v_{Q:Fin->Shared->Prop}(D:Te z TI TO i1 i2 l1 l2)(B:Sq prog w A i1 l1 xs S1)(L:Sq prog w A i2 l2 ys S2)
  (hz:IsZip s.heap z TI TO .none)(H:IsPair s.heap TI (.ref i1) (.ref i2))(G:IsPair s.heap TO a b)(h1:S1 k1 s.heap)(U:S2 k2 s.heap)(p:xs[k1]?=none\/ys[k2]?=none)
  (O:∀h' e,(∀c o,c≠z->c≠TO->c≠i1->c≠i2->s.heap.get? c=some o->h'.get? c=some o)->(∃o,h'.get? e=some o/\o.cls=.type "StopIteration")->E (.ref e) { s with heap:=h' }) :
  wpAny (model prog w) A (Builtin.«zip.__next__» ⟨[.ref z],[]⟩) Q E s:=by
 show wpAny _ _ (field (.ref z) 2 >>= _) _ _ _
 refine wpAny_bind (wpAny_field hz rfl (x:=.bool false) rfl ?_)
 show wpAny _ _ (field (.ref z) 3 >>= _) _ _ _
 refine wpAny_bind (wpAny_field hz rfl (x:=.ref TI) rfl ?_)
 refine wpAny_bind (wpAny_seqItems H rfl ?_)
 show wpAny _ _ (QT (.ref z) >>= _) _ _ _
 refine wpAny_bind ?_
 unfold QT
 refine wpAny_bind (wpAny_field hz rfl (x:=.none) rfl (wpAny_pure ?_))
 simp only[if_true]
 refine wpAny_bind (wpAny_rule (wpAny_bind (wpAny_field hz rfl (x:=.ref TO) rfl (wpAny_bind (wpAny_setField_rec hz (by simp) λJ i l=>?_)))))
 replace i:IsZip J z TI TO .ellipsis:=i
 refine wpAny_bind ?_
 simp only[VA,VL,Rc,Sb]
 refine wpAny_bind (wpAny_bind (wpAny_onRaise ?_))
 show wpAny _ _ (Pk (.ref i1) >>= _) _ _ _
 have t:S1 k1 J:=B.keep _ _ _ h1 (λo q=>l.extBut _ _ D.i1z q) (λo q=>l.extBut _ _ D.l1z q)
 cases hx:xs[k1]? with
 |none =>
  refine wpAny_bind (B.stop k1 _ _ _ t hx λF e j he=>?_)
  obtain⟨C,f,g⟩:=he
  have S:IsZip F z TI TO .ellipsis:=j _ _ D.i1z.symm i
  have m:e≠z:=λq=>by subst q;rw[S] at f;cases f;simp at g
  exact wpAny_setField_rec S (by simp) λv _ n=>O v e (λc o r _ I _ q=>n.extBut _ _ r (j _ _ I (l.extBut _ _ r q))) ⟨C,n.extBut _ _ m f,g⟩
 |some x =>
  have Y:ys[k2]?=none:=by rcases p with h|h;rw[hx] at h;cases h;exact h
  refine wpAny_bind (B.item k1 _ x _ _ t hx λF W j=>wpAny_pure ?_)
  have N:IsPair F TO a b:=j.extBut _ _ D.TOi1 (l.extBut _ _ D.TOz G)
  refine wpAny_bind (wpAny_seqItems N rfl (wpAny_bind (wpAny_updateSeq_pair N λv p3 n=>?_)))
  refine wpAny_bind (wpAny_letGo (wpAny_pure ?_))
  refine wpAny_bind (wpAny_bind (wpAny_onRaise ?_))
  show wpAny _ _ (Pk (.ref i2) >>= _) _ _ _
  have u:S2 k2 v:=L.keep _ _ _ U (λo q=>n.extBut _ _ D.TOi2.symm (j.extBut _ _ D.i12.symm (l.extBut _ _ D.i2z q))) (λo q=>n.extBut _ _ D.l2TO (j.extBut _ _ D.l2i1 (l.extBut _ _ D.l2z q)))
  refine wpAny_bind (L.stop k2 _ _ _ u Y λg4 e P he=>?_)
  obtain⟨C,f,g⟩:=he
  have M:IsZip g4 z TI TO .ellipsis:=P _ _ D.i2z.symm (n.extBut _ _ D.TOz.symm (j.extBut _ _ D.i1z.symm i))
  have m:e≠z:=λq=>by subst q;rw[M] at f;cases f;simp at g
  exact wpAny_setField_rec M (by simp) λT _ R=>O T e (λc o r Z I X q=>R.extBut _ _ r (P _ _ X (n.extBut _ _ Z (j.extBut _ _ I (l.extBut _ _ r q))))) ⟨C,R.extBut _ _ m f,g⟩
end
section
variable {prog:O0}{w:World}{A:Around}{E:Value->Shared->Prop}{s:Shared}{z TI TO i1 i2 l1 l2:Addr}{k1 k2:Nat}{xs ys:Array Value}{x y a b:Value}{S1 S2:Nat->Heap->Prop}
def qF{Q:Option Value->Shared->Prop}(D:Te z TI TO i1 i2 l1 l2)(i:∀A:Around,A.handled=none->Sq prog w A i1 l1 xs S1)(r:∀A:Around,A.handled=none->Sq prog w A i2 l2 ys S2)(g:A.handled=none)
  (hz:IsZip s.heap z TI TO .none)(f:IsPair s.heap TI (.ref i1) (.ref i2))(e:IsPair s.heap TO a b)(h1:S1 k1 s.heap)(j:S2 k2 s.heap)(h:xs[k1]?=some x)(q:ys[k2]?=some y)
  (t:∀h',IsZip h' z TI TO (rawInt s.heap.objs.size)->IsPair h' TO x y->S1 (k1+1) h'->S2 (k2+1) h'->IsPair h' s.heap.objs.size x y->h'.objs.size=s.heap.objs.size+1 ->
   (∀c o,c≠z->c≠TO->c≠i1->c≠i2->s.heap.get? c=some o->h'.get? c=some o)->Q (some (.ref s.heap.objs.size)) { s with heap:=h' }) :
  wpAny (model prog w) A (pyNext (.ref z)) Q E s:=by
 have hT:s.TypeIs (.ref z) "zip":=⟨_,hz,rfl⟩
 unfold pyNext
 exact wpAny_bind (wpAny_attempt (wpAny_callSpecial?_slot (name:=QE "__next__") hT Sa
  (wpAny_call_entry Sa hT Vh
   (uH D (i _ g) (r _ g) hz f e h1 j h q λh' B n m p u l v=>wpAny_pure (t h' B n m p u l v)) (VR _))))
def qc{Q:Option Value->Shared->Prop}(D:Te z TI TO i1 i2 l1 l2)(j:∀A:Around,A.handled=none->Sq prog w A i1 l1 xs S1)(p:∀A:Around,A.handled=none->Sq prog w A i2 l2 ys S2)(i:A.handled=none)
  (hz:IsZip s.heap z TI TO .none)(h:IsPair s.heap TI (.ref i1) (.ref i2))(g:IsPair s.heap TO a b)(h1:S1 k1 s.heap)(m:S2 k2 s.heap)(f:xs[k1]?=none\/ys[k2]?=none)
  (q:∀h',(∀c o,c≠z->c≠TO->c≠i1->c≠i2->s.heap.get? c=some o->h'.get? c=some o)->Q none { s with heap:=h' }):wpAny (model prog w) A (pyNext (.ref z)) Q E s:=by
 have hT:s.TypeIs (.ref z) "zip":=⟨_,hz,rfl⟩
 unfold pyNext
 refine wpAny_bind (wpAny_attempt (wpAny_callSpecial?_slot (name:=QE "__next__") hT Sa
  (wpAny_call_entry Sa hT Vh (v_ D (j _ i) (p _ i) hz h g h1 m f λh' e l he=>?_) (VR _))))
 obtain⟨o,n,r⟩:=he
 refine wpAny_bind (wpAny_isInstance (T:="StopIteration") (b:=true) ⟨o,n,r⟩ W0 ?_)
 exact wpAny_pure (q _ l)
end
def wH(v:Value)(o:Obj)(P:Heap->Prop):Prop:=∀(prog:O0) (w:World) (A:Around) (s:Shared) (Q:Value->Shared->Prop) (E:Value->Shared->Prop),P s.heap->Q (.ref s.heap.objs.size) { s with heap:=s.heap.push o }->wpAny (model prog w) A (pyIter v) Q E s
abbrev Mo(h:Heap)(a:Obj):Heap:=h.push a
abbrev Mp(h:Heap)(a b:Obj):Heap:=(Mo h a).push b
abbrev Mq(h:Heap)(a b:Obj):Heap:=(Mp h a b).push { cls:=.type "tuple",data:=.seq #[.ref h.objs.size,.ref (Mo h a).objs.size] }
abbrev Mr(h:Heap)(a b:Obj):Heap:=(Mq h a b).push { cls:=.type "tuple",data:=.seq #[.none,.none] }
abbrev KH(h:Heap)(a b:Obj):Heap:=(Mr h a b).push { cls:=.type "zip",data:=.fields #[.none,.bool false,.bool false,.ref (Mp h a b).objs.size,.ref (Mq h a b).objs.size] }
def zm(f i:Value)(a b:Obj){l j:Heap->Prop}(p:wH f a l)(r:wH i b j) :
  Meets (Builtin.«zip.__new__» ⟨[.type "zip",f,i],[]⟩) (λ_ R s=>l s.heap/\j (s.heap.push a)/\R (.ok (.ret (.ref (Mr s.heap a b).objs.size))) { s with heap:=KH s.heap a b }) :=
 .of_wp λprog w A R s h=>by
  obtain⟨n,g,d,tk,os⟩:=s;obtain⟨e,c,h⟩:=h
  have m:=sub_zip
  have o:=fun{A:Around} {Q:Value->Shared->Prop} {E:Value->Shared->Prop}=>p prog w A ⟨n,g,d,tk,os⟩ Q E e
  have q:=fun{A:Around} {Q:Value->Shared->Prop} {E:Value->Shared->Prop}=>r prog w A ⟨n.push a,g,d,tk,os⟩ Q E c
  wp_walk using o,q
  exact⟨_,rfl,h⟩
def wB(K:j')(isL:Bool)(H:Hp)(a:Addr)(xs:List V):Prop:=if isL=true then eX K H a xs else eY K H a xs
def bS(isL:Bool)(l:Addr):Obj:={ cls:=.type (if isL then "list_iterator" else "tuple_iterator"),data:=.fields #[.ref l,.int 0 0] }
def o8(isL:Bool)(i l:Addr)(k:Nat)(h:Heap):Prop:=if isL=true then h.IsListIter i l k else h.IsTupleIter i l k
def kP(isL:Bool)(l:Addr)(xs:Array Value)(h:Heap):Prop:=if isL=true then h.IsList l xs else h.IsTuple l xs
section
variable {X:Cx}{pins:List (Addr × Obj)}{σ:St}{H:Hp}{s:Shared}{a:Addr}{xs ys:List V}
def Inv.F6{isL:Bool}(I:Inv X pins σ H s)(h:wB X.K isL H a xs):∃b:List Value,Vals xs b/\kP isL a b.toArray s.heap:=by
 cases isL with
 |true=>obtain⟨b,r,p,_⟩:=I.list h;exact⟨b,r,p.isList⟩
 |false=>obtain⟨b,r,p,_⟩:=I.tuple h;exact⟨b,r,p⟩
def Inv.yl{isL:Bool}(I:Inv X pins σ H s)(h:wB X.K isL H a xs)(h':wB X.K isL H a ys):xs=ys:=by
 cases isL with
 |true=>exact I.pf h h'
 |false=>exact I.nW h h'
def tY{prog:O0}{w:World}{A:Around}{isL:Bool}(c:A.handled=none)(i l:Addr)(b:l≠i)(xs:Array Value):Sq prog w A i l xs (λk h=>o8 isL i l k h/\kP isL l xs h):=by
 cases isL with
 |true=>exact F5 c i l b xs
 |false=>exact Jr c i l b xs
def o8.keep{isL:Bool}{i l:Addr}{k:Nat}{h h':Heap}(q:o8 isL i l k h)(e:∀o,h.get? i=some o->h'.get? i=some o):o8 isL i l k h':=by
 cases isL with
 |true=>exact Vg q e
 |false=>exact VQ q e
def o8.obj{isL:Bool}{i l:Addr}{k:Nat}{h:Heap}(q:o8 isL i l k h):∃o,h.get? i=some o/\∀v,o.data≠.cell v:=by
 cases isL with
 |true=>obtain⟨o,e,c,d⟩:=(show h.IsListIter i l k from q);exact⟨o,e,λv z=>by rw[d] at z;cases z⟩
 |false=>obtain⟨o,e,c,d⟩:=(show h.IsTupleIter i l k from q);exact⟨o,e,λv z=>by rw[d] at z;cases z⟩
def Inv.uB{h':Heap}{t':Nat}{ch:List Addr}{T:Addr}{u1 u2:Value}{x y:V}(I:Inv X pins σ H s)(i:∀b o,b∉ch->s.heap.get? b=some o->h'.get? b=some o)(j:∀b∈ch,kH X pins H b)
  (hT:s.heap.objs.size<=T)(A:IsPair h' T u1 u2)(m:RelV x u1)(t:RelV y u2):Inv X pins σ (upd H T (.tup [x,y])) { s with heap:=h',toks:=t' }:=by
 have h:H T=none:=I.bJ.fresh hT
 have r:∀{b:Addr} {o:Obj},s.heap.get? b=some o->b≠T:=λe=>PR (Pa (N' e) hT)
 have g:∀{b:Addr} {o:HO},H b=some o->b∉ch:=λe f=>by rw[(j _ f).1] at e;cases e
 refine I.Az (ch:=ch) rfl ⟨λb o e n f hc=>i b o hc e,λb o e n f hc=>⟨o.slots,i b o hc e⟩,λb o e n hc=>by rw[aL (r e)];exact n,λb o e hc=>⟨o,i b o hc e⟩,
  λb z e=>by rw[aL (bD e h)];exact e,λb o u e=>by rw[aL (bD e h)];exact e,λb C e=>⟨#[],by rw[aL (bD e h),e];simp⟩⟩ (λb o e=>?_) I.bare λb f=>?_
 ·by_cases f:b=T
  ·rw[f,aI] at e
   cases e
   rw[f]
   exact⟨(show 2<=sizeLine by decide),[u1,u2],.cons m (.cons t .nil),_,A,rfl,_,rfl⟩
  ·rw[aL f] at e
   refine(I.bJ b o e).qe (λc u hc q=>i c u ?_ q) (λc hc=>by rw[aL (bD hc h)];exact hc) (λc z hc=>by rw[aL (bD hc h)];exact hc)
   rcases hc with rfl|hc
   ·exact g e
   ·exact g hc
 ·obtain⟨_,v,B,l,w,p⟩:=j b f
  exact⟨l,v,w,p⟩
def Inv.uA{h':Heap}{t':Nat}{ch:List Addr}(I:Inv X pins σ H s)(h:∀b o,b∉ch->s.heap.get? b=some o->h'.get? b=some o)(i:∀b∈ch,kH X pins H b):Inv X pins σ H { s with heap:=h',toks:=t' }:=by
 have g:∀{b:Addr} {o:HO},H b=some o->b∉ch:=λe f=>by rw[(i _ f).1] at e;cases e
 refine I.Az (ch:=ch) rfl ⟨λb o e n f hc=>h b o hc e,λb o e n f hc=>⟨o.slots,h b o hc e⟩,λb o e n hc=>n,λb o e hc=>⟨o,h b o hc e⟩,λb m e=>e,λb o u e=>e,λb v e=>⟨#[],by rw[e];simp⟩⟩ (λb o e=>?_) I.bare λb f=>?_
 ·refine(I.bJ b o e).qe (λc u hc q=>h c u ?_ q) (λc hc=>hc) (λc m hc=>hc)
  rcases hc with rfl|hc
  ·exact g e
  ·exact g hc
 ·obtain⟨_,p,t,j,r,l⟩:=i b f
  exact⟨j,p,r,l⟩
end
def Mv(K:j')(c b2:Bool)(a b:Addr):It where
 go:=λi H=>∃xs ys x y,wB K c H a xs/\wB K b2 H b ys/\xs[i]?=some x/\ys[i]?=some y
 Am:=λi H v e=>∃p x y,H p=none/\v=.ref p/\e=upd H p (.tup [x,y])/\(∀xs,wB K c H a xs->xs[i]?=some x)/\∀ys,wB K b2 H b ys->ys[i]?=some y
 stop:=λi H=>∃xs ys,wB K c H a xs/\wB K b2 H b ys/\(xs[i]?=none\/ys[i]?=none)
def DR{P:O0}{w:World}{K:j'}{M:List Expr}{c:Nat}{tp:Pos}{U b2:Bool}{z TI TO t u J N:Addr}(D:Te z TI TO t u J N) :
  Turn P w K (.Tuple M c tp) (Mv K U b2 J N) [z,TI,TO,t,u] z (λi h=>IsZip h z TI TO .none/\IsPair h TI (.ref t) (.ref u)/\(∃a b,IsPair h TO a b)/\o8 U t J i h/\o8 b2 u N i h) where
 mem:=by simp
 obj:=λi h ⟨hz,f,⟨a,b,g⟩,h1,r⟩ q hq=>by
  simp only[B',C',or_false] at hq
  rcases hq with rfl|rfl|rfl|rfl|rfl
  ·exact⟨_,hz,λv e=>by cases e⟩
  ·exact⟨_,f,λv e=>by cases e⟩
  ·exact⟨_,g,λv e=>by cases e⟩
  ·exact h1.obj
  ·exact r.obj
 keep:=λi h h' ⟨hz,f,⟨a,b,g⟩,h1,r⟩ k=>⟨k _ (by simp) _ hz,k _ (by simp) _ f,⟨a,b,k _ (by simp) _ g⟩,h1.keep (k _ (by simp)),r.keep (k _ (by simp))⟩
 item:=by
  intro X hP hw Y hc i Q s σ H E I S st hg
  subst hP hw Y
  obtain⟨hz,f,⟨a,b,g⟩,h1,r⟩:=st
  obtain⟨xs,ys,x,y,p,n,hx,hy⟩:=hg
  obtain⟨l,F,W⟩:=I.F6 p
  obtain⟨m,B,p2⟩:=I.F6 n
  obtain⟨u1,hu1,ru1⟩:=F.get hx
  obtain⟨u2,Z,ru2⟩:=B.get hy
  refine qF D (λA C=>tY (isL:=U) C t J D.l1i1 l.toArray) (λA C=>tY (isL:=b2) C u N D.l2i2 m.toArray) (I.ok.hd hc) hz f g ⟨h1,W⟩ ⟨r,p2⟩ (x:=u1) (y:=u2) (by simpa using hu1) (by simpa using Z) λh' a1 a2 a3 a4 a5 a6 a7=>?_
  refine⟨_,rfl,wpAny_letOwnedTupleGo_zip a1 λO z2 sb=>?_⟩
  have R:z<s.heap.objs.size:=N' hz
  have up:∀c o,c≠z->h'.get? c=some o->O.get? c=some o:=λc o c1 q=>sb.extBut _ _ c1 q
  have I':=I.uB (h':=O) (t':=s.toks) (ch:=[z,TI,TO,t,u]) (T:=s.heap.objs.size) (u1:=u1) (u2:=u2) (x:=x) (y:=y)
   (λb o j e=>by
    simp only[B',C',or_false,not_or] at j
    exact up b o j.1 (a7 b o j.1 j.2.2.1 j.2.2.2.1 j.2.2.2.2 e)) S (O2 _) (up _ _ (Pz R) a5) ru1 ru2
  refine⟨.ref s.heap.objs.size,_,I',rfl,⟨_,x,y,I.fresh,rfl,rfl,λzs G=>by rw[I.yl G p];exact hx,λzs G=>by rw[I.yl G n];exact hy⟩,
   ⟨z2,up _ _ D.TIz (a7 _ _ D.TIz D.TITO D.TIi1 D.TIi2 f),⟨_,_,up _ _ D.TOz a2⟩,a3.1.keep λo e=>up _ _ D.i1z e,a4.1.keep λo e=>up _ _ D.i2z e⟩,λb j=>?_⟩
  have hfb:=(S b j).1
  rw[aL]
  ·exact hfb
  ·intro e
   have lt:b<s.heap.objs.size:=by
    simp only[B',C',or_false] at j
    rcases j with rfl|rfl|rfl|rfl|rfl
    ·exact R
    ·exact N' f
    ·exact N' g
    ·obtain⟨o,e,_⟩:=h1.obj;exact N' e
    ·obtain⟨o,e,_⟩:=r.obj;exact N' e
   rw[e] at lt
   exact Qa _ lt
 done:=by
  intro X hP hw Y hc i Q s σ H E I S st hg
  subst hP hw Y
  obtain⟨hz,f,⟨a,b,g⟩,h1,r⟩:=st
  obtain⟨xs,ys,p,n,L⟩:=hg
  obtain⟨l,F,W⟩:=I.F6 p
  obtain⟨m,B,p2⟩:=I.F6 n
  have e1:=F.length
  have e2:=B.length
  refine qc D (λA C=>tY (isL:=U) C t J D.l1i1 l.toArray) (λA C=>tY (isL:=b2) C u N D.l2i2 m.toArray) (I.ok.hd hc) hz f g ⟨h1,W⟩ ⟨r,p2⟩ ?_ λh' hk=>⟨rfl,I.uA (t':=s.toks) (ch:=[z,TI,TO,t,u]) (λb o j e=>?_) S⟩
  ·rcases L with q|q
   ·left;simp only[SU];rw[P8] at q ⊢;omega
   ·right;simp only[SU];rw[P8] at q ⊢;omega
  ·simp only[B',C',or_false,not_or] at j
   exact hk b o j.1 j.2.2.1 j.2.2.2.1 j.2.2.2.2 e
 self:=λ_ _ _ _ _ st h=>V3 st.1 h
def boot_zip:Px "zip"=some (.type "zip"):=by decide +kernel
def Bh{isL:Bool}{l:Addr}{xs:Array Value}:wH (.ref l) (bS isL l) (kP isL l xs):=by
 intro prog w A s Q E h q
 cases isL with
 |true=>exact wpAny_pyIter_list (show s.heap.IsList l xs from h) q
 |false=>exact wpAny_pyIter_tuple (show s.heap.IsTuple l xs from h) q
def kP.push{isL:Bool}{l:Addr}{xs:Array Value}{h:Heap}(q:kP isL l xs h)(o:Obj):kP isL l xs (h.push o):=by
 cases isL with
 |true=>exact W4 q o
 |false=>obtain⟨ob,e,r⟩:=(show h.IsTuple l xs from q);exact⟨ob,y' _ e,r⟩
def kP.lt{isL:Bool}{l:Addr}{xs:Array Value}{h:Heap}(q:kP isL l xs h):l<h.objs.size:=by
 cases isL with
 |true=>obtain⟨ob,e,r⟩:=(show h.IsList l xs from q);exact N' e
 |false=>obtain⟨ob,e,r⟩:=(show h.IsTuple l xs from q);exact N' e
def Gu{isL:Bool}{i l:Addr}{h:Heap}(e:h.get? i=some (bS isL l)):o8 isL i l 0 h:=by
 cases isL with
 |true=>exact⟨_,e,rfl,rfl⟩
 |false=>exact⟨_,e,rfl,rfl⟩
def zE{prog:O0}{w:World}{A:Around}{E:Value->Shared->Prop}{s:Shared}{Q:Value->Shared->Prop}{b b2:Bool}{a e:Addr}{xs ys:Array Value}(h1:kP b a xs s.heap)(t:kP b2 e ys s.heap)
  (h:∀h',IsZip h' (s.heap.objs.size+4) (s.heap.objs.size+2) (s.heap.objs.size+3) .none->IsPair h' (s.heap.objs.size+2) (.ref s.heap.objs.size) (.ref (s.heap.objs.size+1)) ->
   IsPair h' (s.heap.objs.size+3) .none .none->o8 b s.heap.objs.size a 0 h'->o8 b2 (s.heap.objs.size+1) e 0 h'->h'.objs.size=s.heap.objs.size+5 ->
   (∀c o,s.heap.get? c=some o->h'.get? c=some o)->Q (.ref (s.heap.objs.size+4)) { s with heap:=h' }):wpAny (model prog w) A (call (.type "zip") [.ref a,.ref e]) Q E s:=by
 refine XX F.called_zip (by decide) (F.typeCall_zip_2 _ _) (F.newCall_zip_2 _ _) (λobj=>F.args_object_init_3 obj _ _) F.entry_zip_new (zm (.ref a) (.ref e) (bS b a) (bS b2 e) (Bh (xs:=xs)) (Bh (xs:=ys))) ⟨h1,t.push _,?_⟩
 have g:(Mo s.heap (bS b a)).objs.size=s.heap.objs.size+1:=Py ..
 have j:(Mp s.heap (bS b a) (bS b2 e)).objs.size=s.heap.objs.size+2:=by rw[Py,g]
 have i:(Mq s.heap (bS b a) (bS b2 e)).objs.size=s.heap.objs.size+3:=by rw[Py,j]
 have l:(Mr s.heap (bS b a) (bS b2 e)).objs.size=s.heap.objs.size+4:=by rw[Py,i]
 have v:(KH s.heap (bS b a) (bS b2 e)).objs.size=s.heap.objs.size+5:=by rw[Py,l]
 have r:(bS b a).isFreed=false:=by cases b<;>rfl
 have x:(bS b2 e).isFreed=false:=by cases b2<;>rfl
 have f:(KH s.heap (bS b a) (bS b2 e)).get? (Mr s.heap (bS b a) (bS b2 e)).objs.size=some _:=K' _ rfl
 have m:(KH s.heap (bS b a) (bS b2 e)).get? (Mq s.heap (bS b a) (bS b2 e)).objs.size=some _:=y' _ (K' _ rfl)
 have p:(KH s.heap (bS b a) (bS b2 e)).get? (Mp s.heap (bS b a) (bS b2 e)).objs.size=some _:=y' _ (y' _ (K' _ rfl))
 have n:(KH s.heap (bS b a) (bS b2 e)).get? (Mo s.heap (bS b a)).objs.size=some (bS b2 e):=y' _ (y' _ (y' _ (K' _ x)))
 have u:(KH s.heap (bS b a) (bS b2 e)).get? s.heap.objs.size=some (bS b a):=y' _ (y' _ (y' _ (y' _ (K' _ r))))
 show _/\_
 rw[j,i,l] at f
 rw[g,j] at p
 rw[i] at m
 rw[g] at n
 rw[l]
 exact⟨⟨_,f,rfl⟩,h _ f p m (Gu u) (Gu n) v λc o q=>y' _ (y' _ (y' _ (y' _ (y' _ q))))⟩
def Ad{n a b:Nat}(h1:a<n)(c:b<n):Te (n+4) (n+2) (n+3) n (n+1) a b:=by
 constructor<;>(show¬(_:Nat)=_)<;>omega
section
variable {X:Cx}{e1 e2:Expr}{ta:TA}{p pos tp:Pos}{elts:List Expr}{c:Nat}
def NB(K:j')(g:TA):TI:=λσ H R=>g σ H λvs e=>∃f b2 a b xs ys,vs=[.ref a,.ref b]/\wB K f e a xs/\wB K b2 e b ys/\R (Mv K f b2 a b) e
def JW(P:Gl X "zip")(G:X.mg "zip"=none)(U:PA X [e1,e2] ta)(F:autoParam (starEach [e1,e2] X.env=[(false,eval e1 X.env),(false,eval e2 X.env)]) a9)(g:autoParam (starEach [e2] X.env=[(false,eval e2 X.env)]) a9) :
  PI X (.Tuple elts c tp) (.Call (.Name "zip" p) [e1,e2] [] pos) (NB X.K ta):=by
 intro f s σ H R I h
 refine Call_ (gG I P G boot_zip (QU (bH (U pos f s σ H _ I h) fun us a ⟨vs,v,i,O,B⟩=>?_) (by rw[F,g]) (by rw[g];rfl)))
 obtain⟨Z,b2,y,M,xs,ys,e,l,m,q⟩:=B
 subst e
 obtain⟨u,S,rfl,N,T⟩:=vals2 O
 cases(show u=F' y from N)
 cases(show S=F' M from T)
 obtain⟨n,J,o⟩:=i.F6 l
 obtain⟨w,z,t⟩:=i.F6 m
 refine zE o t λh' r Q E L A Y W=>V3 r ?_
 have C:Inv X f σ v { a with heap:=h' }:=i.kept (t':=a.toks) W
 refine⟨_,[a.heap.objs.size+4,a.heap.objs.size+2,a.heap.objs.size+3,a.heap.objs.size,a.heap.objs.size+1],_,_,v,rfl,C,DR (Ad o.lt t.lt),⟨r,Q,⟨_,_,E⟩,L,A⟩,λb x=>?_,q⟩
 have j:a.heap.objs.size<=b:=by
  simp only[B',C',or_false] at x
  rcases x with rfl|rfl|rfl|rfl|rfl
  ·exact Qo _ _
  ·exact Qo _ _
  ·exact Qo _ _
  ·exact O2 _
  ·exact Qo _ _
 exact i.zR j (i.bJ.fresh j)
end
end L2
namespace DC
section
variable {X:Cx}{e1 e2:Expr}{ta:AD}{p pos tp:Pos}{elts:List Expr}{c:Nat}
def Jn:D->Option (Bool × List D)
 |.lst xs=>some (true,xs)
 |.tup xs=>some (false,xs)
 |_=>none
def Mz(a:AD):AD:=λδ Q=>a δ λds=>∃d e b b2 xs ys,ds=[d,e]/\Jn d=some (b,xs)/\Jn e=some (b2,ys)/\Q (Q3 (λx y=>.tup [x,y]) xs ys)
def Dv.F6{K:j'}{H:Hp}{v:V}{d:D}{b:Bool}{ds:List D}(h:Dv K H v d)(e:Jn d=some (b,ds)):∃l xs,v=.ref l/\wB K b H l xs/\bZ K H xs ds:=by
 cases h with
 |lst h1 a=>cases e;exact⟨_,_,rfl,h1,a⟩
 |tup h1 a=>cases e;exact⟨_,_,rfl,h1,a⟩
 |_=>cases e
def gf{K:j'}{H a:Hp}{b:Bool}{l:Addr}{xs:List V}(s:aK H a)(h:wB K b H l xs):wB K b a l xs:=by
 cases b with
 |true=>exact s.seq h
 |false=>exact gW s h
def IQ{K:j'}{H:Hp}{E b2:Bool}{t C:Addr}{xs ys:List V}{ds es:List D}(h1:wB K E H t xs)(g:wB K b2 H C ys)(m:bZ K H xs ds)(j:bZ K H ys es) :
  HR K (Mv K E b2 t C) H (Q3 (λx y=>.tup [x,y]) ds es):=by
 have B:(Q3 (λx y=>D.tup [x,y]) ds es).length=min ds.length es.length:=Uo
 refine⟨λi A b w=>?_,λA b=>⟨xs,ys,gf b h1,gf b g,?_⟩,λi A x G b w y=>?_⟩
 ·rw[B] at w
  obtain⟨n,h,_⟩:=m.get (O9 (show i<ds.length by omega))
  obtain⟨r,l,_⟩:=j.get (O9 (show i<es.length by omega))
  exact⟨xs,ys,n,r,gf b h1,gf b g,h,l⟩
 ·rw[B,P8,P8,m.length,j.length]
  omega
 ·obtain⟨q,u,v,s,rfl,rfl,J,F⟩:=y
  obtain⟨I,h,n⟩:=m.we (J _ (gf b h1))
  obtain⟨L,l,r⟩:=j.we (F _ (gf b g))
  have e:H q=none:=b.free s
  refine⟨aO s,.tup [I,L],by rw[UU,h,l],upd H q (.tup [u,v]),aO e,.tup (eY.of aI) (.cons (n.same (aO e)) (.cons (r.same (aO e)) .nil)),λa o z=>?_,λa o z=>?_⟩
  ·by_cases f:a=q
   ·rw[f];exact .inr s
   ·rw[aL f] at z;exact .inl z
  ·by_cases f:a=q
   ·rw[f] at z ⊢;rw[aI] at z ⊢;exact z
   ·rw[aL f] at z ⊢;exact b _ _ z
def K8(C:Gl X "zip")(x:X.mg "zip"=none)(o:nh X [e1,e2] ta)(w:autoParam (starEach [e1,e2] X.env=[(false,eval e1 X.env),(false,eval e2 X.env)]) a9)(f:autoParam (starEach [e2] X.env=[(false,eval e2 X.env)]) a9) :
  PId X (.Tuple elts c tp) (.Call (.Name "zip" p) [e1,e2] [] pos) (Mz ta):=by
 refine⟨PI.imp (JW C x o.pa w f) fun σ H R ⟨δ,r,h⟩=>⟨δ,r,o.mono _ _ _ (?_) h⟩,λδ P F g h=>o.mono _ _ _ (fun ds ⟨d,e,n,b2,xs,ys,i,m,l,q⟩=>⟨d,e,n,b2,xs,ys,i,m,l,g _ q⟩) h⟩;rintro ds ⟨d,e,n,b2,xs,ys,i,m,l,q⟩ vs y v j
 subst i
 cases j with
 |cons a r =>
  cases r with
  |cons b r =>
   cases r
   obtain⟨u,us,rfl,s,A⟩:=a.F6 m
   obtain⟨z,E,rfl,t,B⟩:=b.F6 l
   exact⟨n,b2,u,z,us,E,rfl,s,t,q _ y v (IQ s t A B)⟩
end
def xm(caps:List Nat)(e:AD)(tt:TD)(c:ED):ED:=λδ Q=>e δ λds=>∃a:List (Option D),a.length=ds.length /\
 (∀(i:Nat) (d:D) (o:Option D),ds[i]?=some d->a[i]?=some o->∃x y,d=.tup [x,y]/\tt (some x::some y::kI caps δ) λb=>b=o.isSome/\(b=true->c (some x::some y::kI caps δ) λr=>o=some r))/\ds.length<sizeLine/\Q (.lst (a.filterMap id))
def Ia{r:L2.St}{x y:Option V}:Le (none::none::r) (x::y::r):=⟨rfl,λi v h=>by
 cases i with
 |zero=>cases h
 |succ i =>
  cases i with
  |zero=>cases h
  |succ i=>exact h⟩
def vZ{K:j'}{H:Hp}{σ:L2.St}{δ:SD}(r:cE K H σ δ){x:V}{d:D}(dv:Dv K H x d):cE K H (some x::σ) (some d::δ):=by
 refine⟨by rw[Pb,Pb,r.len],λi e h=>?_⟩
 cases i with
 |zero=>simp at h;subst h;exact⟨x,rfl,dv⟩
 |succ i=>simpa using r.get i e (by simpa using h)
def A3{K:j'}{H:Hp}{σ:L2.St}{δ:SD}(r:cE K H σ δ)(caps:List Nat):cE K H (caps.map λj=>(σ[j]?).getD none) (kI caps δ):=by
 have q:=xy r (Dv.ah) caps
 refine⟨by simpa using q.len,λi d h=>?_⟩
 simpa using q.get (i+1) d (by simpa using h)
def zF{K:j'}{caps:List Nat}{ti:AD}{tt:TD}{X:ED}(mi:ng ti)(mt:gM tt)(me:bP X){σ:L2.St}{H:Hp}{Q:VK}(h:oE K (xm caps ti tt X) σ H Q) :
  yg 2 caps (λσ H R=>∃ δ,cE K H σ δ/\ti δ λds=>∀J s,aK H s->HR K J s ds->R J s) (IH K 2 (uk (ir 0) (uk (ir 1) IG))) (xj (oT K tt)) (xY (oE K X)) σ H Q:=by
 obtain⟨δ,r,h⟩:=h
 refine⟨δ,r,mi _ _ _ (?_) h⟩;rintro ds ⟨c,B,u,G,q⟩ J s s1 W D hD
 refine⟨λi m ys H'=>m=ds.length - i/\i<=ds.length/\∃p,p D=none/\aK s p/\bZ K p ys ((c.take i).filterMap id)/\H'=upd p D (.lst ys),⟨ds.length,rfl,P6 _,s,hD,aK.refl _,.nil,rfl⟩,?_⟩
 rintro i m ys H' ⟨rfl,hle,p,M,L,g,rfl⟩
 refine⟨aI,?_⟩
 have P:aK s (upd p D (.lst ys)):=L.trans (aO M)
 by_cases l:i<ds.length
 ·refine .inr ⟨W.go i _ P l,λx f y=>?_⟩
  obtain⟨s2,d,hd,Hx,sx1,S,only,sx⟩:=W.Am i _ x f P l y
  have T:f D=some (.lst ys):=s2 _ _ aI
  have U:∀a o,s a=some o->a≠D:=λa o z=>bD z hD
  have Y:∀a o,Hx a=some o->a≠D:=λa o z w=>by
   rcases only a o z with O|O
   ·exact U a o O w
   ·rw[w,aI] at O;cases O
  have E:aK p (del f D):=λa o z=>by
   rw[pH (bD z M)]
   exact s2 a o (aO M a o z)
  have I:aK Hx (del f D):=λa o z=>by
   rw[pH (Y a o z)]
   exact sx a o z
  obtain⟨o,ho⟩:∃o,c[i]?=some o:=⟨_,O9 (show i<c.length by omega)⟩
  obtain⟨d1,d2,ed,t⟩:=u i d o hd ho
  have C:=ed ▸ S
  cases C with
  |tup g1 A =>
   cases A with
   | @cons Z _ _ _ w1 A =>
    cases A with
    | @cons N _ _ _ w2 A =>
     cases A
     have F:cE K (del f D) (some Z::some N::caps.map λj=>(σ[j]?).getD none) (some d1::some d2::kI caps δ):=vZ (vZ (A3 (r.same (s1.trans (L.trans E))) caps) (w2.same I)) (w1.same I)
     refine⟨_,[Z,N],rfl,gW sx g1,rfl,Z,[N],rfl,N,[],rfl,rfl,Ia,D,ys,T,_,F,mt _ _ _ (?_) t⟩;rintro b ⟨eb,hb⟩ H3 s3 h3
     have ht:c.take (i+1)=c.take i++[o]:=by rw[VW,ho];rfl
     have n:aK p H3:=E.trans s3
     cases b with
     |false =>
      refine aF ?_
      refine⟨ds.length - (i+1),by omega,rfl,l,H3,h3,L.trans n,?_,rfl⟩
      have on:o=none:=by cases o with|none=>rfl|some z=>cases eb
      rw[ht,on,RP]
      simpa using g.same n
     |true =>
      refine aS ?_
      refine⟨D,ys,aI,?_⟩
      rw[yC h3]
      refine⟨_,F.same s3,me _ _ _ (λy ey v H4 s4 dv h4=>⟨aI,?_,ds.length - (i+1),by omega,rfl,l,H4,h4,L.trans (n.trans s4),?_,oz⟩) (hb rfl)⟩
      ·rw[g.length]
       exact Pg (PB (R5 _ _) (Ug _ _)) (by rw[B];exact G)
      ·rw[ht,ey,RP]
       exact(g.same (n.trans s4)).append (.cons dv .nil)
 ·have e:i=ds.length:=by omega
  subst e
  refine .inl ⟨W.stop _ P,?_⟩
  rw[<- B,VB] at g
  exact q _ _ (s1.trans P) (.lst (eX.of aI) (g.same (aO M)))
section
variable {X:Cx}{scope:Scope}{cl:List (Str × Addr)}{x y:Str}{cn:List Str}{caps:List Nat}{elt tg iter:Expr}{ifs:List Expr}{ti:AD}{tt:TD}{te:ED}{pos px py tp:Pos}{c:Nat}
def Ew(i:ng ti):bP (xm caps ti tt te):=λδ P j g h=>i _ _ _ (fun ds ⟨b,f,a,e,q⟩=>⟨b,f,a,e,g _ q⟩) h
def Km(S:cB X scope cl [x,y] caps cn)(l:X.calm=true)(f:PId X (.Tuple [.Name x px,.Name y py] c tp) iter ti)
  (i:∀C a b e,PG (ay X scope cl C ([x,y]++cn) a b e) (.Tuple [.Name x px,.Name y py] c tp) (IH X.K 2 (uk (ir 0) (uk (ir 1) IG))))
  (g:∀C a b e,wK (ay X scope cl C ([x,y]++cn) a b e) ifs tt)(he:∀C a b e,PD (ay X scope cl C ([x,y]++cn) a b e) elt te)(j:autoParam (∀x,foldedSetIterable iter X.env x=pure x) c7) :
  PD X (.ListComp elt [⟨.Tuple [.Name x px,.Name y py] c tp,iter,ifs,0⟩] scope pos) (xm caps ti tt te) :=
 ⟨(yV S l f.pi i (λC a b e=>lU (g C a b e).NX) (λC a b e=>nP (he C a b e).pe) j).imp λσ H Q h=>zF f.mono (g 0 [] X.s₀ X.H₀).mono (he 0 [] X.s₀ X.H₀).mono h,Ew f.mono⟩
end
section
variable {K:j'}{H H':Hp}{μ μ':Mu}{L L':List Addr}
def eZ.join(g:eZ K H μ L)(g':eZ K H' μ' L')(z:∀b∈L,H' b=none)(s:aK (af H L) (af H' L')):eZ K (aW H' H L) (μ'++μ) (L'++L)/\af (aW H' H L) (L'++L)=af H' L':=by
 have i:∀{b:Addr} {o:HO},H' b=some o->b∉L:=λe hb=>by rw[z _ hb] at e;cases e
 have e:af (aW H' H L) (L'++L)=af H' L':=by
  funext b
  by_cases h1:b∈L'
  ·rw[cg (Pn _ h1),cg h1]
  ·by_cases f:b∈L
   ·rw[cg (O8 _ f),bM h1,z b f]
   ·rw[bM (λq=>(O3.mp q).elim h1 f),bM h1,aX f]
 refine⟨⟨λp t=>?_,?_,λb hb=>?_,λb hb=>?_⟩,e⟩
 ·rcases O3.mp t with t|t
  ·obtain⟨h1,f⟩:=g'.at_ p t
   refine⟨Pn _ h1,?_⟩
   obtain⟨b,m⟩:=p
   cases m with
   |lst ds=>obtain⟨j,h,d⟩:=f;exact⟨j,by rw[aX (i h)];exact h,by rw[e];exact d⟩
   |ins C E=>obtain⟨n,fs,h,f,v,d⟩:=f;exact⟨n,fs,by rw[aX (i h)];exact h,by rw[aX (i f)];exact f,Pn _ v,by rw[e];exact d⟩
   |dK r=>obtain⟨j,h,d⟩:=f;exact⟨j,by rw[aX (i h)];exact h,by rw[e];exact d⟩
   |dT r=>obtain⟨j,h,d⟩:=f;exact⟨j,by rw[aX (i h)];exact h,by rw[e];exact d⟩
  ·obtain⟨h1,f⟩:=g.at_ p t
   refine⟨O8 _ h1,?_⟩
   obtain⟨b,m⟩:=p
   cases m with
   |lst ds=>obtain⟨j,h,d⟩:=f;exact⟨j,by rw[ag h1];exact h,by rw[e];exact bZ.same s d⟩
   |ins C E=>obtain⟨n,fs,h,f,v,d⟩:=f;exact⟨n,fs,by rw[ag h1];exact h,by rw[ag v];exact f,O8 _ v,by rw[e];exact ic.same s d⟩
   |dK r=>obtain⟨j,h,d⟩:=f;exact⟨j,by rw[ag h1];exact h,by rw[e];exact de.same s d⟩
   |dT r=>obtain⟨j,h,d⟩:=f;exact⟨j,by rw[ag h1];exact h,by rw[e];exact cO.same s d⟩
 ·rw[QB,QP]
  refine⟨g'.Ir,g.Ir,λa F b hb y=>?_⟩
  obtain⟨p,t,rfl⟩:=O_.mp F
  obtain⟨q,B,rfl⟩:=O_.mp hb
  obtain⟨o,A⟩:=(g'.dg _ (g'.at_ p t).1).there
  rw[show p.1=q.1 from y,z _ (g.at_ q B).1] at A
  cases A
 ·rcases O3.mp hb with hb|hb
  ·have w:=g'.dg b hb
   cases w with
   |lst xs h=>exact .lst xs (by rw[aX (i h)];exact h)
   |dK xs h=>exact .dK xs (by rw[aX (i h)];exact h)
   |ext φ h l=>exact .ext φ (by rw[aX (i h)];exact h) l
   |ins C n fs h x=>exact .ins C n fs (by rw[aX (i h)];exact h) (Pn _ x)
   |own C c fs h l u=>exact .own C c fs (by rw[aX (i h)];exact h) (Pn _ l) (by rw[aX (i u)];exact u)
  ·have w:=g.dg b hb
   cases w with
   |lst xs h=>exact .lst xs (by rw[ag hb];exact h)
   |dK xs h=>exact .dK xs (by rw[ag hb];exact h)
   |ext φ h l=>exact .ext φ (by rw[ag hb];exact h) l
   |ins C n fs h x=>exact .ins C n fs (by rw[ag hb];exact h) (O8 _ x)
   |own C c fs h l u=>exact .own C c fs (by rw[ag hb];exact h) (O8 _ l) (by rw[ag l];exact u)
 ·rcases O3.mp hb with hb|hb
  ·rcases g'.KN b hb with⟨m,h⟩|⟨c,h⟩
   ·exact .inl ⟨m,Pn _ h⟩
   ·exact .inr ⟨c,by rw[aX (i h)];exact h⟩
  ·rcases g.KN b hb with⟨m,h⟩|⟨c,h⟩
   ·exact .inl ⟨m,O8 _ h⟩
   ·exact .inr ⟨c,by rw[ag hb];exact h⟩
end
abbrev EF:=SD->(D->Mu->Prop)->Prop
def kF(K:j')(H:Hp)(Q:VK):D->Mu->Prop:=λd μ=>∀v a b,aK H (af a b)->eZ K a μ b->Dv K (af a b) v d->Q v a
def kF.on{K:j'}{H a:Hp}{Q:VK}{d:D}{μ:Mu}(s:aK H a)(h:kF K H Q d μ):kF K a Q d μ:=λv e b c g dv=>h v e b (s.trans c) g dv
structure PF (X:Cx) (e:Expr) (t:EF):Prop where
 pe:PE X e (λσ H Q=>∃ δ,cE X.K H σ δ/\t δ (kF X.K H Q))
 mono:∀ δ (P P':D->Mu->Prop),(∀d μ,P d μ->P' d μ)->t δ P->t δ P'
abbrev Ai:=List D->(D->Mu->Prop)->Prop
abbrev o9(b:Ai):Prop:=∀ds (P a:D->Mu->Prop),(∀d μ,P d μ->a d μ)->b ds P->b ds a
def Ng(K:j')(a:Ai):Sp:=λvs H Q _=>∃ds,bZ K H vs ds/\a ds (kF K H Q)
section
variable {P:O0}{w:World}{K:j'}{mg:Str->Option Value}{base:Heap}
def Og{x b:Str}{st:Stmt}{f:Addr}{p:Pw}{N o:List Str}{k:Nat}{n:Ai}{t:iW}(F:wA K x b st f p)(S:aG N o (aB st))(len:∀ds Q,n ds Q->ds.length=o.length)
  (u:∀(c:Value) (A:Around) (a:List Env) (s:Shared) (H:Hp) (E:XK),bf k (A.deeper (envOfC b (aB st) s.heap.objs.size f c))->uO (Bx P w K mg base N b st f c A a s H E) (aw st) t)
  (y:∀ds Q,n ds Q->t { nx:=λ_ μ=>Q .ah μ,rt:=Q } (bw N ds) []):cH P w K mg base nZ (k+1) f p o (Ng K n):=by
 refine F.ok S (fun vs H Q E ⟨ds,i,h⟩=>by rw[i.length];exact len ds _ h) (?_);rintro c A a s H vs Q E e ⟨ds,i,h⟩
 have B:=u c A a s H E e
 refine⟨_,B.ps,bw N ds,[],[],by rw[cY];exact gg i,eZ.nil,?_⟩
 refine B.mono { nx:=λ_ μ=>kF K H Q .ah μ,rt:=kF K H Q } _ _ _ ⟨λδ μ q σ m l j r g=>?_,λd μ q v m l j g dv=>?_,λ_ _ q=>q.elim,λ_ _ q=>q.elim⟩ (y ds _ h)
 ·rw[cY] at j
  exact q _ m l j g .ah
 ·rw[cY] at j
  exact q v m l j g dv
def DF{b:Ai}{c:cU}(f:o9 b)(h:∀ds Q,c ds Q->b ds λd μ=>Q (cb μ d)):∀vs H Q E,qO K c vs H Q E->Ng K b vs H Q E:=fun vs H Q E ⟨ds,a,q⟩ =>
 ⟨ds,a,f _ _ _ (λd μ k v e i s g dv=>k v e (s.trans av) (g.view dv)) (h ds _ q)⟩
end
structure o5 (P:O0) (w:World) (K:j') (mg:Str->Option Value) (base:Heap) (k:Nat) (x:Str) (ps:List Str) (sd:Ai):Prop where
 ex:∃f fd,cH P w K mg base nZ k f fd ps (Ng K sd)/\mg x=some (.ref f)/\keepIn K (.ref f)=true/\Binds K fd ps []
 ms:o9 sd
section
variable {X:Cx}{o e:Expr}{es:List Expr}{ta:ED}{t:AD}{tf:EF}{j k:Nat}{x m:Str}{ps:List Str}{sd:Ai}{sm:Addr->Ai}{ok:Addr->Prop}{p pos pos' apos:Pos}{i:Nat}
def Kt(a:Ai)(t:AD):EF:=λδ Q=>t δ λds=>a ds Q
def Kv(c:o5 X.prog X.w X.K X.mg X.base j x ps sd)(z:bf k X.A)(B:j<=k)(v:Gl X x)(n:nh X (e::es) t)(l:autoParam ((x == ("__debug__":Str))=false) b7)
  (h1:autoParam (starEach (e::es) X.env=(false,eval e X.env)::starEach es X.env) a9)(u:autoParam ((backTo pos (starEach es X.env)).any (·.1)=false) a9):PF X (.Call (.Name x p) (e::es) [] pos) (Kt sd t):=by
 obtain⟨f,E,F,m,y,b⟩:=c.ex
 refine⟨(tG F (z.mono B) v m y b .nil qA n.pa l h1 u).imp fun σ H Q ⟨δ,r,h⟩=>⟨δ,r,n.mono _ _ _ (λds q vs G s a=>⟨ds,by rw[Pf];exact a,c.ms _ _ _ (λd μ k=>k.on s) q⟩) h⟩,λδ P C g h=>n.mono _ _ _ (λds q=>c.ms _ _ _ g q) h⟩
end
inductive eW:List (Str × V)->List Pj->Prop
 |nil:eW [] []
 |cons {x:Str} {t:Tok} {v:V} {e:Pj} {kvs:List (Str × V)} {es:List Pj}:e.key=.str x t->RelV v e.val->eW kvs es->eW ((x,v)::kvs) (e::es)
structure KTab (w:World) (K:j') (a:Addr) (kvs:List (Str × V)):Prop where
 ex:∃(es:Array Pj) (n:Nat),K.lookup a=some ⟨.type "dict",none,.dict es n,#[]⟩/\Uu w.params es.toList/\eW kvs es.toList
 sys:(a == Pm)=false
def eW.has{x:Str}:∀{a:List (Str × V)} {es:List Pj},eW a es->((es.find? λd=>RA x d.key).map (·.val)).isSome=a.any λp=>p.1 == x
 |_,_,.nil=>rfl
 |_,_,.cons (x:=y) (e:=e) c f r=>by
  have b:=eW.has (x:=x) r
  rw[P7,c,QJ]
  show(R9 (·.val) (match (y == x) with|true=>some e|false=>_)).isSome=(y == x||_)
  cases h:(y == x) with
  |true=>rfl
  |false=>exact b
def eW.get{x:Str}{v:V}:∀{a:List (Str × V)} {es:List Pj},eW a es->a.lookup x=some v->∃u,(es.find? λd=>RA x d.key).map (·.val)=some u/\RelV v u
 |_,_,.nil,h=>by cases h
 |_,_,.cons (x:=y) (e:=e) b c r,h=>by
  rw[PV] at h
  rw[P7,b]
  show ∃u,R9 (·.val) (match (y == x) with|true=>some e|false=>_)=some u/\RelV v u
  rw[show(y == x)=(x == y) from Vp]
  cases q:(x == y) with
  |true=>rw[q] at h;cases h;exact⟨_,rfl,c⟩
  |false=>rw[q] at h;exact eW.get r h
section
variable {X:Cx}{a:Addr}{kvs:List (Str × V)}
def JC(T:KTab X.w X.K a kvs):fc X (compareOp .In) (λx y H Q=>∃z,x=.str z/\y=.ref a/\Q (.bl (kvs.any λp=>p.1 == z)) H):=by
 intro b s σ H x y v u Q I i g h
 obtain⟨z,rfl,rfl,q⟩:=h
 obtain⟨t,rfl⟩:=(show ∃t,v=Ql z t from i)
 cases(show u=F' a from g)
 obtain⟨es,n,f,c,he⟩:=T.ex
 refine wpAny_in_of (strKind_is X.prog X.w z t) T.sys (mapOf_K (prog:=X.prog) I.qx f c) ?_
 have e:(findBy RA es z).isSome=kvs.any λp=>p.1 == z:=by
  unfold findBy
  obtain⟨l⟩:=es
  rw[Sr]
  exact he.has
 rw[e]
 exact⟨.bl _,H,I.tok _,rfl,q⟩
def zv(T:KTab X.w X.K a kvs):fc X (compareOp .NotIn) (λx y H Q=>∃z,x=.str z/\y=.ref a/\Q (.bl (!kvs.any λp=>p.1 == z)) H):=by
 intro b s σ H x y v u Q I i g h
 obtain⟨z,rfl,rfl,q⟩:=h
 obtain⟨t,rfl⟩:=(show ∃t,v=Ql z t from i)
 cases(show u=F' a from g)
 obtain⟨es,n,f,c,he⟩:=T.ex
 refine wpAny_notIn_of (strKind_is X.prog X.w z t) T.sys (mapOf_K (prog:=X.prog) I.qx f c) ?_
 have e:(findBy RA es z).isSome=kvs.any λp=>p.1 == z:=by
  unfold findBy
  obtain⟨l⟩:=es
  rw[Sr]
  exact he.has
 rw[e]
 exact⟨.bl _,H,I.tok _,rfl,q⟩
def Ee(T:KTab X.w X.K a kvs):Dh X (λx y H Q=>∃z r,x=.ref a/\y=.str z/\kvs.lookup z=some r/\Q r H):=by
 intro f c g s σ H x y v u Q I E B h p
 obtain⟨z,r,rfl,rfl,C,q⟩:=h
 obtain⟨t,rfl⟩:=(show ∃t,u=Ql z t from B)
 cases(show v=F' a from E)
 obtain⟨es,n,m,j,he⟩:=T.ex
 have i:=mapOf_K (prog:=X.prog) (w:=X.w) I.qx m j
 obtain⟨b,o,A⟩:=he.get C
 have e:findBy RA es z=some b:=by
  unfold findBy
  obtain⟨l⟩:=es
  rw[Sr]
  exact o
 exact W7 i.typeIs slot_dict_getitem.lookup (wpAny_getItem_of (strKind_is X.prog X.w z t) i e ⟨r,H,I.tok _,A,q⟩) p
end
inductive Tb (K:j'):List (Str × V)->List (Str × D)->Prop
 |nil:Tb K [] []
 |cons {x:Str} {v:V} {d:D} {kvs:List (Str × V)} {tab:List (Str × D)}:(∀H,Dv K H v d)->Tb K kvs tab->Tb K ((x,v)::kvs) ((x,d)::tab)
structure Du (w:World) (K:j') (mg:Str->Option Value) (x:Str) (a:Addr) (tab:List (Str × D)):Prop where
 at_:mg x=some (.ref a)
 ex:∃kvs,KTab w K a kvs/\Tb K kvs tab
def Tb.any{K:j'}{z:Str}:∀{a:List (Str × V)} {b:List (Str × D)},Tb K a b->(a.any λp=>p.1 == z)=b.any λp=>p.1 == z
 |_,_,.nil=>rfl
 |_,_,.cons h r=>by rw[QJ,QJ,Tb.any r]
def Tb.look{K:j'}{z:Str}{d:D}:∀{a:List (Str × V)} {b:List (Str × D)},Tb K a b->b.lookup z=some d->∃v,a.lookup z=some v/\∀H,Dv K H v d
 |_,_,.nil,h=>by cases h
 |_,_,.cons (x:=x) h r,e=>by
  rw[PV] at e ⊢
  cases q:z == x with
  |true=>rw[q] at e;cases e;exact⟨_,rfl,h⟩
  |false=>rw[q] at e;exact Tb.look r e
def PD.weak{X:Cx}{e:Expr}{t t':ED}(h:PD X e t)(m:bP t')(f:∀ δ Q,t' δ Q->t δ Q):PD X e t':=⟨h.pe.imp fun σ H Q ⟨δ,r,q⟩=>⟨δ,r,f _ _ q⟩,m⟩
def kO.weak{X:Cx}{e:Expr}{t t':TD}(h:kO X e t)(m:gM t')(f:∀ δ Q,t' δ Q->t δ Q):kO X e t':=⟨PT.imp h.pt fun σ H Q ⟨δ,r,q⟩=>⟨δ,r,f _ _ q⟩,m⟩
def KA(neg:Bool)(a:List (Str × D))(b:ED):ED:=λδ Q=>b δ λd=>∃z,d=.str z/\Q (.bl (if neg then !a.any λp=>p.1 == z else a.any λp=>p.1 == z))
def G3{neg:Bool}{a:List (Str × D)}{b:ED}(m:bP b):bP (KA neg a b):=λδ P c g h=>m _ _ _ (fun d ⟨z,e,q⟩=>⟨z,e,g _ q⟩) h
def IE(neg:Bool)(a:Addr)(b:List (Str × D)):F2:=λd e Q=>∃z,d=.str z/\e=.adr a/\Q (.bl (if neg then !b.any λp=>p.1 == z else b.any λp=>p.1 == z))
def B1{neg:Bool}{a:Addr}{b:List (Str × D)}:cz (IE neg a b):=fun d e P h g ⟨z,f,c,q⟩=>⟨z,f,c,g _ q⟩
def MO(a:List (Str × D))(b:ED):ED:=λδ Q=>b δ λd=>∃z r,d=.str z/\a.lookup z=some r/\Q r
def Gj(a:Addr)(b:List (Str × D)):F2:=λe d Q=>∃z r,e=.adr a/\d=.str z/\b.lookup z=some r/\Q r
def Ex{a:Addr}{b:List (Str × D)}:cz (Gj a b):=fun d e P h g ⟨z,r,f,c,l,q⟩=>⟨z,r,f,c,l,g _ q⟩
section
variable {X:Cx}{a:Addr}{tab:List (Str × D)}{kvs:List (Str × V)}{x:Str}{p pos:Pos}{e:Expr}{te:ED}
def BL(t:Tb X.K kvs tab):fM X.K (λx y H Q=>∃z,x=.str z/\y=.ref a/\Q (.bl (kvs.any λp=>p.1 == z)) H) (IE false a tab):=by
 rintro H v u d e Q c b ⟨z,rfl,rfl,q⟩
 cases c
 cases b
 exact⟨z,rfl,rfl,by rw[t.any];exact q _ H (aK.refl _) (.bl _)⟩
def uf(t:Tb X.K kvs tab):fM X.K (λx y H Q=>∃z,x=.str z/\y=.ref a/\Q (.bl (!kvs.any λp=>p.1 == z)) H) (IE true a tab):=by
 rintro H v u d e Q c b ⟨z,rfl,rfl,q⟩
 cases c
 cases b
 exact⟨z,rfl,rfl,by rw[t.any];exact q _ H (aK.refl _) (.bl _)⟩
def zM(t:Tb X.K kvs tab):fM X.K (λx y H Q=>∃z r,x=.ref a/\y=.str z/\kvs.lookup z=some r/\Q r H) (Gj a tab):=by
 rintro H v u d e Q h g ⟨z,r,rfl,rfl,l,q⟩
 cases h
 cases g
 obtain⟨b,f,c⟩:=t.look l
 exact⟨z,b,rfl,rfl,f,q _ H (aK.refl _) (c H)⟩
def Kk(T:Du X.w X.K X.mg x a tab)(b:Gl X x)(he:PD X e te)(f:autoParam (behindInMarks .In (.Name x p)=false) a9)(i:autoParam ((x == ("__debug__":Str))=false) b7):PD X (.Compare e [.In] [.Name x p] pos) (KA false tab te):=by
 obtain⟨g,k,t⟩:=T.ex
 exact(kU (JC k) (BL t) B1 he (dH (v:=.ref a) b T.at_ rfl (λ_=>.adr a) i) f).weak (G3 he.mono) λδ Q h=>he.mono _ _ _ (fun d ⟨z,c,q⟩=>⟨z,c,rfl,q⟩) h
def DJ(T:Du X.w X.K X.mg x a tab)(b:Gl X x)(he:PD X e te)(f:autoParam (behindInMarks .NotIn (.Name x p)=false) a9)(i:autoParam ((x == ("__debug__":Str))=false) b7):kO X (.Compare e [.NotIn] [.Name x p] pos) (cZ (KA true tab te)):=by
 obtain⟨g,k,t⟩:=T.ex
 exact(my (zv k) (uf t) B1 he (dH (v:=.ref a) b T.at_ rfl (λ_=>.adr a) i) f).weak (B4 (G3 he.mono)) λδ Q h=>he.mono _ _ _ (fun d ⟨z,c,q⟩=>⟨z,c,rfl,q⟩) h
def A9(T:Du X.w X.K X.mg x a tab)(b:Gl X x)(he:PD X e te)(c:rg e)(j:autoParam ((x == ("__debug__":Str))=false) b7):PD X (.Subscript (.Name x p) e pos) (MO tab te):=by
 obtain⟨i,k,t⟩:=T.ex
 have q:=dH (X:=X) (pos:=p) (v:=.ref a) b T.at_ rfl (λ_=>.adr a) j
 exact(uY (t:=oE X.K (vC (.adr a))) (G9 (Ee k) q.pe he.pe c) q.mono he.mono (zM t) Ex).weak (λδ P m g h=>he.mono _ _ _ (fun d ⟨z,r,e,l,q⟩=>⟨z,r,e,l,g _ q⟩) h) λδ Q h=>he.mono _ _ _ (fun d ⟨z,r,f,l,q⟩=>⟨z,r,rfl,f,l,q⟩) h
end
def mO(g:D->D)(ds:List D):List (Option D):=ds.map λd=>some (g d)
def w_{g:D->D}{ds:List D}:(mO g ds).length=ds.length:=by simp[mO]
def By{g:D->D}{ds:List D}{i:Nat}{d:D}{o:Option D}(h1:ds[i]?=some d)(a:(mO g ds)[i]?=some o):d∈ds/\o=some (g d):=by
 unfold mO at a
 rw[O7,h1] at a
 exact⟨PY h1,by simpa using a.symm⟩
def sZ{g:D->D}:∀{ds:List D},(mO g ds).filterMap id=ds.map g
 |[]=>rfl
 |d::ds=>by
  have a:=sZ (g:=g) (ds:=ds)
  unfold mO at a ⊢
  rw[O1,O1,<- a]
  rfl
section
variable {X:Cx}{e:Expr}{tf:EF}{x:Str}{pos pos':Pos}{i:Nat}
def LF(i:Nat)(b:EF):iW:=λE δ μ=>b δ λd a=>((a++μ).map (·.1)).Nodup->E.nx (δ.set i (some d)) (a++μ)
def mF(p:X.N.Nodup)(o:X.N[i]?=some x)(j:Loc X.env.scope x)(he:PF X e tf)(m:autoParam (QL e (some (.Name x pos')) pos.line X.env=pure false) a9)
  (t:autoParam (X.fn x=true\/X.env.scope.names.lookup x=some .local) dA):Ag X (.Assign [.Name x pos'] e pos) (LF i tf):=by
 refine⟨PS.imp (Cm p o j (gH he.pe) m t) fun D σ H ⟨δ,μ,L,r,g,h⟩=>⟨L,g.dg,δ,r,he.mono _ _ _ (λd s k v u f a g' dv z=>?_) h⟩,λE w δ μ l h=>he.mono _ _ _ (λd s q n=>l.nx _ _ (q n)) h⟩
 obtain⟨b,c⟩:=g.join g' z a
 refine k b.Ir _ _ (f++L) (by rw[c];exact a) ?_ b
 rw[c]
 exact(r.same a).set i dv
end
end DC
namespace L2
section
variable {X:Cx}{es:List Expr}{t:TA}
def OX(t:TA):TA:=λσ H Q=>∃L,(∀a∈L,df H L a)/\t σ (af H L) λvs c=>(∀b∈L,c b=none)->Q vs (aW c H L)
def JK(f:PA X es t):PA X es (OX t):=by
 intro pos a s σ H Q I ⟨L,hL,q⟩
 refine lM I hL λpl e _ b=>?_
 refine bH (f pos (a++pl) s σ _ _ e q) ?_;rintro v g ⟨vs,h,c,r,k⟩
 obtain⟨z,J⟩:=b _ _ _ c
 exact⟨vs,_,J,r,k z⟩
end
end L2
namespace DC
abbrev Aj:=List D->Mu->(D->Mu->Prop)->Prop
abbrev rf(b:Aj):Prop:=∀ds μ (P a:D->Mu->Prop),(∀d μ,P d μ->a d μ)->b ds μ P->b ds μ a
def Ni(K:j')(a:Aj):Sp:=λvs H Q _=>∃ds μ L,bZ K (af H L) vs ds/\eZ K H μ L/\a ds μ (kR K H L Q)
section
variable {P:O0}{w:World}{K:j'}{mg:Str->Option Value}{base:Heap}
def Oi{x b:Str}{st:Stmt}{f:Addr}{n:Pw}{N m:List Str}{k:Nat}{l:Aj}{t:iW}(F:wA K x b st f n)(S:aG N m (aB st))(len:∀ds μ Q,l ds μ Q->ds.length=m.length)
  (v:∀(c:Value) (A:Around) (a:List Env) (s:Shared) (H:Hp) (E:XK),bf k (A.deeper (envOfC b (aB st) s.heap.objs.size f c))->uO (Bx P w K mg base N b st f c A a s H E) (aw st) t)
  (y:∀ds μ Q,l ds μ Q->t { nx:=λ_ j=>Q .ah j,rt:=Q } (bw N ds) μ):cH P w K mg base nZ (k+1) f n m (Ni K l):=by
 refine F.ok S (fun vs H Q E ⟨ds,μ,L,i,g,h⟩=>by rw[i.length];exact len ds _ _ h) (?_);rintro c A a s H vs Q E e ⟨ds,μ,L,i,g,h⟩
 have B:=v c A a s H E e
 refine⟨_,B.ps,bw N ds,μ,L,gg i,g,?_⟩
 exact B.mono { nx:=λ_ j=>kR K H L Q .ah j,rt:=kR K H L Q } _ _ _ ⟨λδ j q σ u p o r g'=>q _ u p o g' .ah,λd j q=>q,λ_ _ q=>q.elim,λ_ _ q=>q.elim⟩ (y ds μ _ h)
end
structure gL (P:O0) (w:World) (K:j') (mg:Str->Option Value) (base:Heap) (j:Nat) (C:Addr) (m:Str) (sd:Aj):Prop where
 ex:∃f fd ps,uI K C/\Meth K C m f/\cH P w K mg base nZ j f fd ps (Ni K sd)/\Binds K fd ps []
 ms:rf sd
section
variable {P:O0}{w:World}{K:j'}{mg:Str->Option Value}{base:Heap}
def gL.up{i j:Nat}{C:Addr}{m:Str}{sd:Aj}(c:gL P w K mg base i C m sd)(h:i<=j):gL P w K mg base j C m sd:=⟨let ⟨f,a,e,h1,b,F,r⟩:=c.ex;⟨f,a,e,h1,b,F.mono h,r⟩,c.ms⟩
def Dm.Ay{k:Nat}{C:Addr}{m a:Str}{st:Stmt}{h N:List Str}{sd:Aj}{t:iW}(d:Dm K C m a st h)(S:aG N h (aB st))(o:rf sd)(len:∀ds μ Q,sd ds μ Q->ds.length=h.length)
  (j:∀(f:Addr) (g:Value) (A:Around) (e:List Env) (s:Shared) (H:Hp) (E:XK),bf k (A.deeper (envOfC a (aB st) s.heap.objs.size f g))->uO (Bx P w K mg base N a st f g A e s H E) (aw st) t)
  (l:∀ds μ Q,sd ds μ Q->t { nx:=λ_ n=>Q .ah n,rt:=Q } (bw N ds) μ):gL P w K mg base (k+1) C m sd:=by
 obtain⟨f,i,F,M,c,b⟩:=d.ex
 exact⟨⟨f,i,h,c,M,Oi F S len (j f) l,b⟩,o⟩
end
section
variable {X:Cx}{o e:Expr}{es:List Expr}{ta:ED}{t:AD}{j k:Nat}{x y m:Str}{ps:List Str}{sd:Aj}{sm:Addr->Aj}{ok:Addr->Prop}{p pos pos' pos2 apos:Pos}{i:Nat}
def Fn{H c:Hp}{L:List Addr}{a:Addr}{u:HO}(z:∀b∈L,c b=none)(r:Rd c a u):Rd (aW c H L) a u:=by
 have f:a∉L:=λg=>by
  rcases r with r|⟨o,r⟩
  ·rw[z a g] at r;cases r
  ·rw[z a g] at r;cases r
 unfold Rd
 rw[aX f]
 exact r
def Jw(K:j')(m:Str)(ok:Addr->Prop)(f:Addr->Aj)(h:TE)(t:TA):TE:=λσ H Q=>h σ H λx b=>∃a C c fs,x=.ref a/\Rd b a (.ins C c fs)/\fs.lookup m=none/\ok C/\t σ b λvs g=>Ni K (f C) (x::vs) g Q E0
def CW{v:TE}{t:TA}{pl:Sem Bool}(M:∀C,ok C->gL X.prog X.w X.K X.mg X.base j C m (sm C))(T:bf k X.A)(O:j<=k)(he:PE X o v)(U:PA X (e::es) t)
  (n:autoParam (starEach (e::es) X.env=(false,eval e X.env)::starEach es X.env) a9)(hpl:autoParam ((backTo pos (starEach es X.env)).any (·.1)=false) a9)
  (P:autoParam (eval (.Call (.Attribute o m apos) (e::es) [] pos) X.env=(do
   let ov <- eval o X.env
   Rw apos.atName
   let (f,first) <- holding [ov] (getMethod ov m pl)
   SV pos f first (backTo pos (starEach (e::es) X.env)) (backToKw pos (keywordEach [] X.env)))) a9) :
  PE X (.Call (.Attribute o m apos) (e::es) [] pos) (Jw X.K m ok sm v t):=by
 intro g s σ H Q I h
 refine SF (pl:=pl) (bH (he g s σ H _ I h) ?_) P;rintro u R ⟨x,L,B,N,a,C,dx,fs,G,E,l,S,q⟩
 subst G
 obtain rfl:u=F' a:=N
 obtain⟨f,Z,Y,c,mt,F,b⟩:=(M C S).ex
 refine iu B E c mt l ?_
 refine UP (first:=[.ref a]) (h₀:=X.base) I.ok.mod.KR mt.kp (bH (U pos g R σ L _ B q) fun us s2 ⟨vs,W,z,r,J⟩=>⟨z.qx,?_⟩) n hpl
 exact tO (us:=.ref a::us) (vs:=.ref a::vs) F (T.mono O) b .nil qA z (.cons rfl r) (by rw[Pf];exact J)
def Ie(ok:Addr->Prop)(m:Str)(b:Addr->Aj)(f:ED)(t:AD):iW:=λE δ μ=>f δ λd=>∃C a,d=.obj C a/\a.lookup m=none/\ok C/\t δ λds=>b C (d::ds) μ λ_ c=>E.nx δ c
def fQ{pl:Sem Bool}(B:∀C,ok C->gL X.prog X.w X.K X.mg X.base j C m (sm C))(hr:bf k X.A)(hj:j<=k)(he:PD X o ta)(J:nh X (e::es) t)
  (G:autoParam (starEach (e::es) X.env=(false,eval e X.env)::starEach es X.env) a9)(hpl:autoParam ((backTo pos (starEach es X.env)).any (·.1)=false) a9)
  (ht:autoParam (eval (.Call (.Attribute o m apos) (e::es) [] pos) X.env=(do
   let ov <- eval o X.env
   Rw apos.atName
   let (f,first) <- holding [ov] (getMethod ov m pl)
   SV pos f first (backTo pos (starEach (e::es) X.env)) (backToKw pos (keywordEach [] X.env)))) a9)
  (Z:autoParam (QL (.Call (.Attribute o m apos) (e::es) [] pos) none pos'.line X.env=pure false) a9):Ag X (.Expr (.Call (.Attribute o m apos) (e::es) [] pos) pos') (Ie ok m sm ta t):=by
 refine⟨PS.imp (tL (CW B hr hj (gH he.pe) (JK J.pa) G hpl ht) Z) fun D σ H ⟨δ,μ,L,r,g,h⟩=>⟨L,g.dg,δ,r,he.mono _ _ _ (λd q v H1 I dv z=>?_) h⟩,
  λE E' δ μ l h=>he.mono _ _ _ (fun d ⟨C,u,e,s,M,q⟩=>⟨C,u,e,s,M,J.mono _ _ _ (λds q=>(B C M).ms _ _ _ _ (λ_ μ' q=>l.nx _ _ q) q) q⟩) h⟩
 obtain⟨C,u,W,s,M,q⟩:=q
 subst W
 cases dv with
 |obj b O =>
  rename_i a dx fs
  have F:af (aW H1 H L) L=H1:=bC z
  have N:eZ X.K (aW H1 H L) μ L:=g.show z I
  refine⟨a,C,dx,fs,rfl,Fn z b,O.none s,M,L,N.dg,δ,by rw[F];exact r.same I,J.mono _ _ _ (λds q vs Q c n T=>?_) q⟩
  rw[F] at c
  have S:af (aW Q (aW H1 H L) L) L=Q:=bC T
  refine⟨.obj C u::ds,μ,L,?_,N.show T (by rw[F];exact c),(B C M).ms _ _ _ _ (λd μ' k v Y U P g' dv=>?_) q⟩
  ·rw[S]
   exact .cons (.obj (cj c b) (ic.same c O)) n
  ·rw[S] at P
   have R:=I.trans (c.trans P)
   exact k σ Y U R (r.same R) g'
end
end DC
namespace L2
end L2
namespace DC
end DC
namespace L2
end L2
namespace DC
end DC
namespace L2
end L2
namespace DC
end DC
namespace L2
end L2
namespace DC
end DC
namespace L2
end L2
namespace DC
end DC
namespace L2
end L2
namespace DC
end DC
namespace L2
open Builtin Builtin.ObjectAttr
open DC (HQ My)
open DC (HQ My)
end L2
namespace DC
end DC
namespace L2
end L2
namespace DC
end DC
namespace L2
def Ms(K:j')(l:Addr):It where
 go:=λi H=>∃xs x,eX K H l xs/\xs[i]?=some x
 Am:=λi H v a=>∃p x,H p=none/\v=.ref p/\a=upd H p (.tup [.int (i:Int),x])/\∀xs,eX K H l xs->xs[i]?=some x
 stop:=λi H=>∃xs,eX K H l xs/\xs[i]?=none
def AV{P:O0}{w:World}{K:j'}{r:List Expr}{c:Nat}{Z:Pos}{e j l:Addr}(t:e≠j)(hle:l≠e)(hli:l≠j) :
  Turn P w K (.Tuple r c Z) (Ms K l) [e,j] e (λi h=>(∃f,IsEnum h e j i f)/\h.IsListIter j l i) where
 mem:=by simp
 obj:=λi h ⟨⟨f,he⟩,a⟩ q m=>by
  simp only[B',C',or_false] at m
  rcases m with rfl|rfl
  ·exact⟨_,he,λv z=>by cases z⟩
  ·obtain⟨o,z,_,d⟩:=a
   exact⟨o,z,λv y=>by rw[d] at y;cases y⟩
 keep:=λi h h' ⟨⟨f,he⟩,a⟩ k=>⟨⟨f,k _ (by simp) _ he⟩,a.at λo z=>k j (by simp) o z⟩
 item:=by
  intro X Q R N Y i C s σ H E I F st S
  subst Q R N
  obtain⟨⟨f,he⟩,a⟩:=st
  obtain⟨xs,x,m,G⟩:=S
  obtain⟨L,M,p,hz⟩:=I.list m
  obtain⟨u,hu,ru⟩:=M.get G
  refine wpAny_pyNext_enum_item he a p.isList (x:=u) (by simpa using hu) t λh' ho n hT hsz hk=>?_
  refine⟨_,rfl,wpAny_letOwnedTupleGo_enum ho λB J sb=>?_⟩
  have A:e<s.heap.objs.size:=N' he
  have O:j<s.heap.objs.size:=by obtain⟨o,z,_⟩:=a;exact N' z
  have up:∀b o,b≠e->h'.get? b=some o->B.get? b=some o:=λb o nb q=>(sb.2 b nb).trans q
  have I':=I.uB (h':=B) (t':=s.toks+1) (ch:=[e,j]) (T:=s.heap.objs.size) (u1:=.int (i:Int) s.toks) (u2:=u) (x:=.int (i:Int)) (y:=x)
   (λb o g q=>by
    simp only[B',C',or_false,not_or] at g
    exact up b o g.1 (hk b o g.1 g.2 q)) F (O2 _) (up _ _ (Pz A) hT) ⟨_,rfl⟩ ru
  refine⟨.ref s.heap.objs.size,_,I',rfl,⟨_,x,I.fresh,rfl,rfl,λzs U=>by rw[I.pf U m];exact G⟩,⟨⟨_,J⟩,n.at λo z=>up j o (QS t) z⟩,λb g=>?_⟩
  have W:=(F b g).1
  rw[aL]
  ·exact W
  ·intro z
   have lt:b<s.heap.objs.size:=by
    simp only[B',C',or_false] at g
    rcases g with rfl|rfl
    ·exact A
    ·exact O
   rw[z] at lt
   exact Qa _ lt
 done:=by
  intro X Q R N Y i C s σ H E I F st S
  subst Q R N
  obtain⟨⟨f,he⟩,a⟩:=st
  obtain⟨xs,m,G⟩:=S
  obtain⟨L,M,p,hz⟩:=I.list m
  have hl:=M.length
  refine wpAny_pyNext_enum_end (I.ok.hd Y) he a p.isList (by simp only[SU];rw[P8] at G ⊢;omega) λh' eb=>⟨rfl,I.uA (t':=s.toks) (ch:=[e,j]) (λb o g q=>?_) F⟩
  simp only[B',C',or_false,not_or] at g
  exact eb b o g.2 q
 self:=λ_ _ _ _ _ st h=>let ⟨⟨_,he⟩,_⟩:=st;SH he h
section
variable {X:Cx}{e1:Expr}{ta:TA}{p pos tp:Pos}{elts:List Expr}{c:Nat}
def K2(K:j')(b:TA):TI:=λσ H R=>b σ H λvs a=>∃l xs,vs=[.ref l]/\eX K a l xs/\R (Ms K l) a
def FU(G:Gl X "enumerate")(B:X.mg "enumerate"=none)(L:PA X [e1] ta)(A:autoParam (starEach [e1] X.env=[(false,eval e1 X.env)]) a9) :
  PI X (.Tuple elts c tp) (.Call (.Name "enumerate" p) [e1] [] pos) (K2 X.K ta):=by
 intro a s σ H R I h
 refine Call_ (gG I G B W9 (QU (bH (L pos a s σ H _ I h) fun us f ⟨vs,r,j,F,x⟩=>?_) (by rw[A];rfl) rfl))
 obtain⟨l,xs,e,C,q⟩:=x
 subst e
 obtain⟨u,rfl,v⟩:=F.one
 cases(show u=F' l from v)
 obtain⟨w,M,pl,hz⟩:=j.list C
 have i:l<f.heap.objs.size:=by obtain⟨o,n,z,_⟩:=pl;exact N' z
 refine call_enumerate_list pl.isList λh' m J N E=>SH m ?_
 have y:Inv X a σ r { f with heap:=h' }:=j.kept (t':=f.toks) E
 refine⟨_,[f.heap.objs.size+1,f.heap.objs.size],_,_,r,rfl,y,AV (l:=l) (SG _) (PR (QQ i)) (PR i),⟨⟨_,m⟩,J⟩,λb t=>?_,q⟩
 have g:f.heap.objs.size<=b:=by
  simp only[B',C',or_false] at t
  rcases t with rfl|rfl
  ·exact Qo _ _
  ·exact O2 _
 exact j.zR g (j.bJ.fresh g)
end
end L2
namespace DC
def EK:Nat->List D->List D
 |_,[]=>[]
 |k,x::xs=>.tup [.int (k:Int),x]::EK (k+1) xs
def jT:∀(k:Nat) (xs:List D),(EK k xs).length=xs.length
 |_,[]=>rfl
 |k,_::xs=>by rw[EK,Pb,Pb,jT (k+1) xs]
def jS:∀(k i:Nat) (xs:List D),(EK k xs)[i]?=(xs[i]?).map λx=>.tup [.int ((k+i:Nat):Int),x]
 |_,_,[]=>rfl
 |k,0,_::_=>rfl
 |k,i+1,_::xs=>by
  rw[EK,SA,SA,jS (k+1) i xs,show k+1+i=k+(i+1) by omega]
def Eb{K:j'}{H:Hp}{l:Addr}{xs:List V}{ds:List D}(h1:eX K H l xs)(f:bZ K H xs ds):HR K (Ms K l) H (EK 0 ds):=by
 have p:=jT 0 ds
 refine⟨λi n b j=>?_,λn b=>⟨xs,b.seq h1,?_⟩,λi n x s b j y=>?_⟩
 ·rw[p] at j
  obtain⟨g,h,_⟩:=f.get (O9 j)
  exact⟨xs,g,b.seq h1,h⟩
 ·rw[p,P8,f.length]
  exact O2 _
 ·obtain⟨q,u,m,rfl,rfl,r⟩:=y
  obtain⟨t,h,g⟩:=f.we (r _ (b.seq h1))
  have c:H q=none:=b.free m
  refine⟨aO m,.tup [.int (i:Int),t],by rw[jS,h,SM];rfl,upd H q (.tup [.int (i:Int),u]),aO c,.tup (eY.of aI) (.cons (.int _) (.cons (g.same (aO c)) .nil)),λa o z=>?_,λa o z=>?_⟩
  ·by_cases e:a=q
   ·rw[e];exact .inr m
   ·rw[aL e] at z;exact .inl z
  ·by_cases e:a=q
   ·rw[e] at z ⊢;rw[aI] at z ⊢;exact z
   ·rw[aL e] at z ⊢;exact b _ _ z
section
variable {X:Cx}{e1:Expr}{ta:AD}{p pos tp:Pos}{elts:List Expr}{c:Nat}
def Au(a:AD):AD:=λδ Q=>a δ λds=>∃xs,ds=[.lst xs]/\Q (EK 0 xs)
def Bf(l:Gl X "enumerate")(o:X.mg "enumerate"=none)(f:nh X [e1] ta)(m:autoParam (starEach [e1] X.env=[(false,eval e1 X.env)]) a9) :
  PId X (.Tuple elts c tp) (.Call (.Name "enumerate" p) [e1] [] pos) (Au ta):=by
 refine⟨PI.imp (FU l o f.pa m) fun σ H R ⟨δ,r,h⟩=>⟨δ,r,f.mono _ _ _ (?_) h⟩,λδ P t g h=>f.mono _ _ _ (fun ds ⟨xs,b,q⟩=>⟨xs,b,g _ q⟩) h⟩;rintro ds ⟨xs,b,q⟩ vs s n e
 subst b
 cases e with
 |cons a r =>
  cases r
  cases a with
  |lst i j=>exact⟨_,_,rfl,i,q _ s n (Eb i j)⟩
end
def ze:D->Option Key
 |.int i=>some (.inl i)
 |.str x=>some (.inr x)
 |_=>none
def dE(a:List (Key × D))(k:Key):Option D:=(a.find? λb=>decide (b.1=k)).map (·.2)
def DU(td b:ED):ED:=λδ Q=>td δ λd=>b δ λy=>∃a k r,d=.dK a/\ze y=some k/\dE a k=some r/\Q r
def de.look{K:j'}{H:Hp}{k:Key}{r:D}:∀{vs:List (Key × V)} {ds:List (Key × D)},de K H vs ds->dE ds k=some r->∃v,lZ vs k=some v/\Dv K H v r
 |_,_,.nil,e=>by cases e
 |_,_,.cons (k:=a) (x:=x) (d:=d) (xs:=xs) (ds:=ds) h t,e=>by
  unfold dE at e
  unfold lZ
  rw[P7] at e ⊢
  by_cases q:a=k
  ·simp only[q,decide_true] at e ⊢
   cases e
   exact⟨x,rfl,h⟩
  ·simp only[q,decide_false] at e ⊢
   exact de.look t e
section
variable {X:Cx}{o i:Expr}{pos:Pos}{td ty:ED}
def lK(L:X.A.units+64<cLine)(j:PD X o td)(b:PD X i ty)(s:As i):PD X (.Subscript o i pos) (DU td ty):=by
 refine⟨(FL (by omega) j.pe b.pe s).imp fun σ H Q ⟨δ,r,h⟩=>⟨δ,r,j.mono _ _ _ (λd C v N l dv=>⟨δ,r.same l,b.mono _ _ _ (λy w u J f t=>?_) C⟩) h⟩,λδ P M g h=>j.mono _ _ _ (λd h'=>b.mono _ _ _ (fun e ⟨a,k,z,h1,m,B,F⟩=>⟨a,k,z,h1,m,B,g _ F⟩) h') h⟩
 obtain⟨a,k,z,x,G,I,q⟩:=w
 subst x
 cases dv with
 |dK n p =>
  obtain⟨v,E,c⟩:=(p.same f).look I
  refine⟨_,v,rfl,.inl ⟨_,k,cj f n,?_,E.symm⟩,q v J (l.trans f) c⟩
  cases t<;>cases G<;>rfl
end
section
variable {X:Cx}{rest:List Stmt}{st:Stmt}{t:iW}
def Gz(t:iW):iW:=λE δ μ=>t E (dD μ δ) []
def ES(m:xq t){D:Ends}{σ:L2.St}{H:Hp}(h:oM X.K (Gz t) D σ H):oM X.K t D σ H:=by
 obtain⟨δ,μ,L,r,g,h⟩:=h
 exact⟨dD μ δ,[],[],by rw[cY];exact g.dD r,eZ.nil,m _ _ _ _ (l5 (by rw[cY];exact av)) h⟩
def vI(h:uO X rest t):uO X rest (Gz t):=⟨lg.imp h.ps λD σ H q=>ES h.mono q,λE a δ μ l q=>h.mono _ _ _ _ l q⟩
end
section
variable {K:j'}{H:Hp}{μ:Mu}{L:List Addr}{a:Addr}{vs ys:List (Key × V)}{ds:List (Key × D)}
def eZ.putK(g:eZ K H μ L)(v:a∈L)(t:H a=some (.dK vs))(d:de K (af H L) ys ds):eZ K (upd H a (.dK ys)) (oZ a (.dK ds) μ) L:=by
 have e:af (upd H a (.dK ys)) L=af H L:=gQ v
 refine⟨λp y=>?_,by rw[rK];exact g.Ir,λb n=>?_,λb n=>?_⟩
 ·obtain⟨q,x,rfl⟩:=O_.mp y
  by_cases i:q.1=a
  ·rw[if_pos i]
   exact⟨v,ys,aI,by rw[e];exact d⟩
  ·rw[if_neg i]
   obtain⟨h1,j⟩:=g.at_ q x
   refine⟨h1,?_⟩
   obtain⟨b,m⟩:=q
   cases m with
   |lst ds=>obtain⟨l,h,d⟩:=j;exact⟨l,by rw[aL i];exact h,by rw[e];exact d⟩
   |ins C E=>obtain⟨o,fs,h,j,A,d⟩:=j;exact⟨o,fs,by rw[aL i];exact h,by rw[aL (λz=>by rw[z,t] at j;cases j)];exact j,A,by rw[e];exact d⟩
   |dK r=>obtain⟨l,h,d⟩:=j;exact⟨l,by rw[aL i];exact h,by rw[e];exact d⟩
   |dT r=>obtain⟨l,h,d⟩:=j;exact⟨l,by rw[aL i];exact h,by rw[e];exact d⟩
 ·by_cases f:b=a
  ·rw[f];exact .dK ys aI
  ·have w:=g.dg b n
   cases w with
   |lst xs h=>exact .lst xs (by rw[aL f];exact h)
   |dK xs h=>exact .dK xs (by rw[aL f];exact h)
   |ext φ h u=>exact .ext φ (by rw[aL f];exact h) u
   |ins C o fs h B=>exact .ins C o fs (by rw[aL f];exact h) B
   |own C c fs h u s=>exact .own C c fs (by rw[aL f];exact h) u (by rw[aL (λz=>by rw[z,t] at s;cases s)];exact s)
 ·rcases g.KN b n with⟨m,h⟩|⟨c,h⟩
  ·by_cases f:b=a
   ·exact .inl ⟨.dK ds,O_.mpr ⟨_,h,by rw[if_pos f,f]⟩⟩
   ·exact .inl ⟨m,O_.mpr ⟨_,h,if_neg f⟩⟩
  ·exact .inr ⟨c,by rw[aL (λz=>by rw[z,t] at h;cases h)];exact h⟩
def eZ.NT(f:H a=none)(d:de K H ys ds):eZ K (upd H a (.dK ys)) [(a,.dK ds)] [a]/\af (upd H a (.dK ys)) [a]=H:=by
 have e:af (upd H a (.dK ys)) [a]=H:=by
  funext b
  by_cases c:b=a
  ·rw[c,cg D',f]
  ·rw[bM (λz=>c (O6.mp z)),aL c]
 refine⟨⟨λp g=>?_,?_,λb c=>?_,λb c=>?_⟩,e⟩
 ·rw[O6.mp g]
  exact⟨D',ys,aI,by rw[e];exact d⟩
 ·rw[O1,QC];exact QK.mpr ⟨(λh=>nomatch h),RK⟩
 ·rw[O6.mp c];exact .dK ys aI
 ·rw[O6.mp c];exact .inl ⟨_,D'⟩
end
def eM(a:List (Key × D))(k:Key)(v:D):List (Key × D) :=
 if(a.any λb=>decide (b.1=k))=true then a.map (λb=>if b.1=k then(b.1,v) else b) else a++[(k,v)]
section
variable {K:j'}{H:Hp}
def de.length:∀{vs:List (Key × V)} {ds:List (Key × D)},de K H vs ds->vs.length=ds.length
 |_,_,.nil=>rfl
 |_,_,.cons _ h=>congrArg (·+1) (de.length h)
def de.any{k:Key}:∀{vs:List (Key × V)} {ds:List (Key × D)},de K H vs ds->(vs.any λa=>decide (a.1=k))=ds.any λa=>decide (a.1=k)
 |_,_,.nil=>rfl
 |_,_,.cons _ h=>by rw[QJ,QJ,de.any h]
def de.snoc{k:Key}{v:V}{d:D}(a:Dv K H v d):∀{vs:List (Key × V)} {ds:List (Key × D)},de K H vs ds->de K H (vs++[(k,v)]) (ds++[(k,d)])
 |_,_,.nil=>.cons a .nil
 |_,_,.cons h r=>.cons h (de.snoc a r)
def de.nI{k:Key}{v:V}{d:D}(b:Dv K H v d):∀{vs:List (Key × V)} {ds:List (Key × D)},de K H vs ds->de K H (vs.map λa=>if a.1=k then(a.1,v) else a) (ds.map λa=>if a.1=k then(a.1,d) else a)
 |_,_,.nil=>.nil
 |_,_,.cons (k:=j) (x:=x) (d:=y) h r=>by
  rw[O1,O1]
  by_cases e:j=k
  ·rw[if_pos (show((j,x):Key × V).1=k from e),if_pos (show((j,y):Key × D).1=k from e)]
   exact .cons b (de.nI b r)
  ·rw[if_neg (show¬((j,x):Key × V).1=k from e),if_neg (show¬((j,y):Key × D).1=k from e)]
   exact .cons h (de.nI b r)
def de.put{k:Key}{v:V}{d:D}(a:Dv K H v d){vs:List (Key × V)}{ds:List (Key × D)}(h:de K H vs ds):de K H (putK vs k v) (eM ds k d):=by
 unfold putK eM
 rw[h.any]
 split
 ·exact h.nI a
 ·exact h.snoc a
def wz{y:V}{d:D}{k:Key}(h:Dv K H y d)(e:ze d=some k):y=kV k:=by cases h<;>cases e<;>rfl
end
section
variable {X:Cx}{e ke:Expr}{te tk:ED}{i:Nat}{x:Str}{p pos pos':Pos}
def ID:EF:=λ_ Q=>∀a,Q (.adr a) [(a,.dK [])]
def ER:PF X (.Dict [] [] pos) ID:=by
 refine⟨CS.imp ?_,λδ P h g q a=>g _ _ (q a)⟩;rintro σ H Q ⟨δ,r,q⟩ a f
 obtain⟨b,c⟩:=eZ.NT (K:=X.K) (ds:=[]) f .nil
 exact q a (.ref a) _ [a] (by rw[c];exact aK.refl _) b (.adr a)
def LB(i:Nat)(tk c:ED):iW:=λE δ μ=>c δ λd=>∃a b,δ[i]?=some (some (.adr a))/\μ.lookup a=some (.dK b)/\b.length<sizeLine/\tk δ λy=>∃k,ze y=some k/\E.nx δ (oZ a (.dK (eM b k d)) μ)
def mE(hu:X.A.units+64<cLine)(S:X.N[i]?=some x)(W:Dp X.env.scope x)(o:PD X ke tk)(he:PD X e te)(Y:autoParam ((x == ("__debug__":Str))=false) b7)(F:autoParam ((x == ("__classdict__":Str))=false) b7)
  (T:autoParam (QL e (some (.Subscript (.Name x p) ke pos')) pos.line X.env=pure false) a9):Ag X (.Assign [.Subscript (.Name x p) ke pos'] e pos) (LB i tk te):=by
 refine⟨PS.imp (Fb (by omega) (nQ S W Y F) (gH o.pe) (gH he.pe) T) fun D σ H ⟨δ,μ,L,r,g,q⟩=>⟨L,g.dg,δ,r,he.mono _ _ _ (fun d ⟨a,kvs,B,s,G,q⟩ v H1 n dv z=>?_) q⟩,
  λE E' δ μ l q=>he.mono _ _ _ (fun d ⟨a,kvs,B,s,G,q⟩=>⟨a,kvs,B,s,G,o.mono _ _ _ (fun y ⟨k,m,q⟩=>⟨k,m,l.nx _ _ q⟩) q⟩) q⟩
 have m:af (aW H1 H L) L=H1:=bC z
 have J:eZ X.K (aW H1 H L) μ L:=g.show z n
 have Z:cE X.K (af (aW H1 H L) L) σ δ:=by rw[m];exact r.same n
 obtain⟨w,t,C⟩:=r.get i _ B
 cases C
 refine⟨_,t,L,J.dg,δ,Z,o.mono _ _ _ (?_) q⟩;rintro y ⟨k,ek,q⟩ u b f U P
 have I:af (aW b (aW H1 H L) L) L=b:=bC P
 have M:eZ X.K (aW b (aW H1 H L) L) μ L:=J.show P f
 obtain⟨c,Q,O,h⟩:=M.at_ _ (mem_of_lookup s)
 rw[m] at f
 have j:de X.K b Q kvs:=by rw[I] at h;exact h
 rw[wz U ek]
 refine⟨a,_,rfl,Ap.k O (by rw[j.length];exact G),?_⟩
 have R:af (upd (aW b (aW H1 H L) L) a (.dK (L2.putK Q k v))) L=b:=by rw[gQ c,I]
 exact q σ _ L (by rw[R];exact n.trans f) (by rw[R];exact r.same (n.trans f)) (M.putK c O (by rw[I];exact j.put (dv.same f)))
end
def boot_dict:Px "dict"=some (.type "dict"):=by decide +kernel
def xT:cU:=λds Q=>∃a,ds=[.dK a]/\Q (.dK a)
def Ii:b9 xT:=fun ds P a g ⟨xs,e,q⟩=>⟨xs,e,g _ q⟩
def rm{X:Cx}:kK X (.type "dict") (λxs H Q=>∃p a,xs=[.ref p]/\Rd H p (.dK a)/\∀l,H l=none->Q (.ref l) (upd H l (.dK a))):=by
 intro g s σ H xs us Q I r h
 obtain⟨p,a,rfl,i,q⟩:=h
 obtain⟨u,rfl,t⟩:=vals1 r
 cases t
 obtain⟨z,y,vs,c,n⟩:=nv I.bJ i
 refine kt_call_dict y n (by rw[<- c.length];exact z) λh' f j=>?_
 have m:∀b o,s.heap.get? b=some o->h'.get? b=some o:=λb o e=>(j.2 b (PR (N' e))).trans (y' _ e)
 exact⟨.ref s.heap.objs.size,_,I.laid (t':=s.toks) m (O2 _) (wV z (beq_eq_false_iff_ne.mpr (QS (PR I.big))) c f),rfl,q _ (I.bJ.fresh (O2 _))⟩
def zL{K:j'}:qi K (λxs H Q=>∃p a,xs=[.ref p]/\Rd H p (.dK a)/\∀l,H l=none->Q (.ref l) (upd H l (.dK a))) xT:=by
 intro H vs ds Q b ⟨a,e,q⟩
 subst e
 cases b with
 |cons dv r =>
  cases r
  cases dv with
  |dK h1 f=>exact⟨_,_,rfl,h1,λl c=>q _ _ (aO c) (.dK (.of aI) (f.same (aO c)))⟩
section
variable {X:Cx}{o e:Expr}{es:List Expr}{t:AD}{to te:ED}{pos p p1 p2 tp apos cpos:Pos}
def zG(c:Gl X "dict")(b:X.mg "dict"=none)(a:nh X (e::es) t)(h1:autoParam (starEach (e::es) X.env=(false,eval e X.env)::starEach es X.env) a9)(f:autoParam ((backTo pos (starEach es X.env)).any (·.1)=false) a9):PD X (.Call (.Name "dict" p) (e::es) [] pos) (vB xT t):=A8 (nO rm c b boot_dict a.pa (he:=h1) (hpl:=f)) a.mono zL Ii
end
end DC
namespace L2
open AutoSeq1 (wpAny_loadPart')
def i4(l:Addr)(a:Array Value)(n:Nat)(f:Option Addr)(j:Array (Option Value)) :
  Meets (Builtin.«enumerate.__new__» ⟨[.type "enumerate",.ref l],[]⟩) (λ_ R s=>s.heap.get? l=some { cls:=.type "tuple",dict:=f,data:=.seq a n,slots:=j } /\
   R (.ok (.ret (.ref (s.heap.push { cls:=.type "tuple_iterator",data:=.fields #[.ref l,.int 0 0] }).objs.size)))
    { s with heap:=(s.heap.push { cls:=.type "tuple_iterator",data:=.fields #[.ref l,.int 0 0] }).push { cls:=.type "enumerate",data:=.fields #[.none,.bool false,.ref s.heap.objs.size,rawInt 0,.none,.none] }}) :=
 .of_wp λprog w A R s h=>by
  obtain⟨m,g,d,tk,os⟩:=s;obtain⟨b,h⟩:=h
  have i:=sub_enumerate
  have e:Heap.IsTuple (Shared.heap ⟨m,g,d,tk,os⟩) l a:=⟨_,b,rfl,n,rfl⟩
  wp_walk using wpAny_loadPart' b
  refine wpAny_stack_any λst=>wpAny_pure ?_
  split
  ·rename_i c _ _ _ _ _
   cases(c == RG "enumerate")
   ·wp_walk using wpAny_loadPart' b,wpAny_pyIter_tuple e
    exact⟨_,rfl,h⟩
   ·wp_walk using wpAny_loadPart' b,wpAny_pyIter_tuple e
    exact⟨_,rfl,h⟩
  ·wp_walk using wpAny_loadPart' b,wpAny_pyIter_tuple e
   exact⟨_,rfl,h⟩
section
variable {prog:O0}{w:World}{A:Around}{E:Value->Shared->Prop}{s:Shared}
def il{l:Addr}{a:Array Value}{Q:Value->Shared->Prop}(j:s.heap.IsTuple l a)
  (h:∀h',IsEnum h' (s.heap.objs.size+1) s.heap.objs.size 0 .none->h'.IsTupleIter s.heap.objs.size l 0->h'.objs.size=s.heap.objs.size+2 ->
   (∀b o,s.heap.get? b=some o->h'.get? b=some o)->Q (.ref (s.heap.objs.size+1)) { s with heap:=h' }) :
  wpAny (model prog w) A (call (.type "enumerate") [.ref l]) Q E s:=by
 obtain⟨⟨c,e,p,i⟩,m,g,n,f⟩:=j
 replace g:c=.type "tuple":=g
 replace f:p=.seq a n:=f
 subst g f
 refine XX F.called_enumerate (by decide) (F.typeCall_enumerate_1 _) (F.newCall_enumerate_1 _) (λobj=>F.args_object_init_2 obj _) F.entry_enumerate_new
  (i4 l a n e i) ⟨m,?_⟩
 have hz:(s.heap.push { cls:=.type "tuple_iterator",data:=.fields #[.ref l,.int 0 0] }).objs.size=s.heap.objs.size+1:=Py ..
 show _/\_
 rw[hz]
 have he:IsEnum ((s.heap.push { cls:=.type "tuple_iterator",data:=.fields #[.ref l,.int 0 0] }).push
   { cls:=.type "enumerate",data:=.fields #[.none,.bool false,.ref s.heap.objs.size,rawInt 0,.none,.none] }) (s.heap.objs.size+1) s.heap.objs.size 0 .none:=by
  have:=K' (s.heap.push { cls:=.type "tuple_iterator",data:=.fields #[.ref l,.int 0 0] })
   (o:={ cls:=.type "enumerate",data:=.fields #[.none,.bool false,.ref s.heap.objs.size,rawInt 0,.none,.none] }) rfl
  rw[hz] at this;exact this
 refine⟨⟨_,he,rfl⟩,h _ he ⟨_,y' _ (K' _ rfl),rfl,rfl⟩ (by rw[Py,hz]) λb o x=>y' _ (y' _ x)⟩
def zN{b l:Addr}(xs:Array Value)(m:A.handled=none)(c:l≠b):Draws prog w A b [b,l] xs.size (λi x=>xs[i]?=some x) (λk h=>h.IsTupleIter b l k/\h.IsTuple l xs) where
 live:=fun i h ⟨⟨o,e,_⟩,_⟩=>⟨o,e⟩
 frame:=fun i h h' ⟨h1,a⟩ k=>⟨h1.at λo q=>k b (by simp) o q,by obtain⟨o,e,r⟩:=a;exact⟨o,k l (by simp) o e,r⟩⟩
 item:=fun i s Q E j ⟨h1,a⟩ p=>mG h1 a (x:=xs[i]) (by simp[j]) λh' f g=>p _ h' s.toks (by simp[j]) ⟨f,by obtain⟨o,e,r⟩:=a;exact⟨o,g.extBut _ _ c e,r⟩⟩ g
 done:=fun s Q E ⟨h1,a⟩ n=>i7 m h1 a (by simp) n
end
def HS(K:j')(l:Addr):It where
 go:=λi H=>∃xs x,eY K H l xs/\xs[i]?=some x
 Am:=λi H v a=>∃p x,H p=none/\v=.ref p/\a=upd H p (.tup [.int (i:Int),x])/\∀xs,eY K H l xs->xs[i]?=some x
 stop:=λi H=>∃xs,eY K H l xs/\xs[i]?=none
def xc{P:O0}{w:World}{K:j'}{C:List Expr}{c:Nat}{tp:Pos}{e g l:Addr}(n:e≠g)(hle:l≠e)(S:l≠g) :
  Turn P w K (.Tuple C c tp) (HS K l) [e,g] e (λi h=>(∃j,IsEnum h e g i j)/\h.IsTupleIter g l i) where
 mem:=by simp
 obj:=λi h ⟨⟨j,he⟩,a⟩ q t=>by
  simp only[B',C',or_false] at t
  rcases t with rfl|rfl
  ·exact⟨_,he,λv z=>by cases z⟩
  ·obtain⟨o,z,_,d⟩:=a
   exact⟨o,z,λv y=>by rw[d] at y;cases y⟩
 keep:=λi h h' ⟨⟨j,he⟩,a⟩ k=>⟨⟨j,k _ (by simp) _ he⟩,a.at λo z=>k g (by simp) o z⟩
 item:=by
  intro X F hw W hc i L s σ H E I M st hg
  subst F hw W
  obtain⟨⟨j,he⟩,a⟩:=st
  obtain⟨xs,x,t,N⟩:=hg
  obtain⟨f,U,p,hz⟩:=I.tuple t
  obtain⟨u,hu,ru⟩:=U.get N
  have hlt:i<f.toArray.size:=by rw[PQ];exact(PJ.mp hu).1
  refine wpAny_pyNext_enum_itemD (zN (A:=X.A.in1) f.toArray (I.ok.hd hc) S) he ⟨a,p⟩ hlt n (by simp[n,QS hle]) λY h' tk F ho hs' hT hsz hk=>?_
  obtain⟨B,_⟩:=hs'
  have ex:Y=u:=by
   have q:f[i]?=some Y:=by simpa using F
   rw[hu] at q
   exact(Pq q).symm
  subst ex
  refine⟨_,rfl,wpAny_letOwnedTupleGo_enum ho λJ O sb=>?_⟩
  have G:e<s.heap.objs.size:=N' he
  have Z:g<s.heap.objs.size:=by obtain⟨o,z,_⟩:=a;exact N' z
  have up:∀b o,b≠e->h'.get? b=some o->J.get? b=some o:=λb o nb q=>(sb.2 b nb).trans q
  have I':=I.uB (h':=J) (t':=tk+1) (ch:=[e,g]) (T:=s.heap.objs.size) (u1:=.int (i:Int) tk) (u2:=Y) (x:=.int (i:Int)) (y:=x)
   (λb o m q=>by
    simp only[B',C',or_false,not_or] at m
    exact up b o m.1 (hk b o m.1 m.2 q)) M (O2 _) (up _ _ (Pz G) hT) ⟨_,rfl⟩ ru
  refine⟨.ref s.heap.objs.size,_,I',rfl,⟨_,x,I.fresh,rfl,rfl,λzs hz'=>by rw[I.nW hz' t];exact N⟩,⟨⟨_,O⟩,B.at λo z=>up g o (QS n) z⟩,λb m=>?_⟩
  have hfb:=(M b m).1
  rw[aL]
  ·exact hfb
  ·intro z
   have lt:b<s.heap.objs.size:=by
    simp only[B',C',or_false] at m
    rcases m with rfl|rfl
    ·exact G
    ·exact Z
   rw[z] at lt
   exact Qa _ lt
 done:=by
  intro X F hw W hc i L s σ H E I M st hg
  subst F hw W
  obtain⟨⟨j,he⟩,a⟩:=st
  obtain⟨xs,t,N⟩:=hg
  obtain⟨f,U,p,hz⟩:=I.tuple t
  have hl:=U.length
  have hge:f.length<=i:=by rw[P8] at N;omega
  have D:Draws X.prog X.w X.A.in1 g [g,l] i (λi x=>f.toArray[i]?=some x) (λk h=>k=i/\h.IsTupleIter g l k/\h.IsTuple l f.toArray):={
   live:=λi h ⟨_,⟨o,e,_⟩,_⟩=>⟨o,e⟩
   frame:=fun i h h' ⟨h0,h1,R⟩ k=>⟨h0,h1.at λo q=>k g (by simp) o q,by obtain⟨o,e,r⟩:=R;exact⟨o,k l (by simp) o e,r⟩⟩
   item:=fun k s Q E hi ⟨h0,_⟩ hQ=>absurd hi (by omega)
   done:=fun s Q E ⟨_,h1,R⟩ hE=>i7 (I.ok.hd hc) h1 R (by simp;omega) hE }
  refine wpAny_pyNext_enum_endD D he ⟨rfl,a,p⟩ λh' eb=>⟨rfl,I.uA (t':=s.toks) (ch:=[e,g]) (λb o m q=>?_) M⟩
  simp only[B',C',or_false,not_or] at m
  exact eb b o m.2 q
 self:=λ_ _ _ _ _ st h=>let ⟨⟨_,he⟩,_⟩:=st;SH he h
section
variable {X:Cx}{e1:Expr}{ta:TA}{p pos tp:Pos}{elts:List Expr}{c:Nat}
def IM(K:j')(b:TA):TI:=λσ H R=>b σ H λvs a=>∃l xs,vs=[.ref l]/\eY K a l xs/\R (HS K l) a
def Cb(F:Gl X "enumerate")(A:X.mg "enumerate"=none)(J:PA X [e1] ta)(y:autoParam (starEach [e1] X.env=[(false,eval e1 X.env)]) a9) :
  PI X (.Tuple elts c tp) (.Call (.Name "enumerate" p) [e1] [] pos) (IM X.K ta):=by
 intro a s σ H R I h
 refine Call_ (gG I F A W9 (QU (bH (J pos a s σ H _ I h) fun us f ⟨vs,n,j,E,w⟩=>?_) (by rw[y];rfl) rfl))
 obtain⟨l,xs,e,B,q⟩:=w
 subst e
 obtain⟨u,rfl,t⟩:=E.one
 cases(show u=F' l from t)
 obtain⟨v,L,pl,hz⟩:=j.tuple B
 have i:l<f.heap.objs.size:=by obtain⟨o,z,_⟩:=pl;exact N' z
 refine il pl λh' m G M C=>SH m ?_
 have x:Inv X a σ n { f with heap:=h' }:=j.kept (t':=f.toks) C
 refine⟨_,[f.heap.objs.size+1,f.heap.objs.size],_,_,n,rfl,x,xc (l:=l) (SG _) (PR (QQ i)) (PR i),⟨⟨_,m⟩,G⟩,λb r=>?_,q⟩
 have g:f.heap.objs.size<=b:=by
  simp only[B',C',or_false] at r
  rcases r with rfl|rfl
  ·exact Qo _ _
  ·exact O2 _
 exact j.zR g (j.bJ.fresh g)
end
end L2
namespace DC
def Bi{K:j'}{H:Hp}{l:Addr}{xs:List V}{ds:List D}(h1:eY K H l xs)(f:bZ K H xs ds):HR K (HS K l) H (EK 0 ds):=by
 have p:=jT 0 ds
 refine⟨λi n b j=>?_,λn b=>⟨xs,gW b h1,?_⟩,λi n x s b j y=>?_⟩
 ·rw[p] at j
  obtain⟨g,h,_⟩:=f.get (O9 j)
  exact⟨xs,g,gW b h1,h⟩
 ·rw[p,P8,f.length]
  exact O2 _
 ·obtain⟨q,u,m,rfl,rfl,r⟩:=y
  obtain⟨t,h,g⟩:=f.we (r _ (gW b h1))
  have c:H q=none:=b.free m
  refine⟨aO m,.tup [.int (i:Int),t],by rw[jS,h,SM];rfl,upd H q (.tup [.int (i:Int),u]),aO c,.tup (eY.of aI) (.cons (.int _) (.cons (g.same (aO c)) .nil)),λa o z=>?_,λa o z=>?_⟩
  ·by_cases e:a=q
   ·rw[e];exact .inr m
   ·rw[aL e] at z;exact .inl z
  ·by_cases e:a=q
   ·rw[e] at z ⊢;rw[aI] at z ⊢;exact z
   ·rw[aL e] at z ⊢;exact b _ _ z
section
variable {X:Cx}{e1:Expr}{ta:AD}{p pos tp:Pos}{elts:List Expr}{c:Nat}
def Ha(a:AD):AD:=λδ Q=>a δ λds=>∃xs,ds=[.tup xs]/\Q (EK 0 xs)
def EU(l:Gl X "enumerate")(o:X.mg "enumerate"=none)(f:nh X [e1] ta)(m:autoParam (starEach [e1] X.env=[(false,eval e1 X.env)]) a9) :
  PId X (.Tuple elts c tp) (.Call (.Name "enumerate" p) [e1] [] pos) (Ha ta):=by
 refine⟨PI.imp (Cb l o f.pa m) fun σ H R ⟨δ,r,h⟩=>⟨δ,r,f.mono _ _ _ (?_) h⟩,λδ P t g h=>f.mono _ _ _ (fun ds ⟨xs,b,q⟩=>⟨xs,b,g _ q⟩) h⟩;rintro ds ⟨xs,b,q⟩ vs s n e
 subst b
 cases e with
 |cons a r =>
  cases r
  cases a with
  |tup i j=>exact⟨_,_,rfl,i,q _ s n (Bi i j)⟩
end
end DC
namespace L2
end L2
namespace DC
end DC
namespace L2
end L2
namespace DC
section
variable {P:O0}{w:World}{K:j'}{mg:Str->Option Value}{base:Heap}
def cH.sub{g:xp}{f:Addr}{e:Pw}{i:List Str}{k:Nat}{sp b:Sp}(F:cH P w K mg base g k f e i sp)(h:∀vs H Q E,b vs H Q E->sp vs H Q E):cH P w K mg base g k f e i b :=
 ⟨λvs H Q E q=>F.len vs H Q E (h _ _ _ _ q),λA a s H c us vs Q E l m j r q=>F.run A a s H c us vs Q E l m j r (h _ _ _ _ q)⟩
def Df.Kf{k:Nat}{x:Str}{st:Stmt}{e N:List Str}{sd:Ai}{t:iW}(d:Df K mg x st e)(S:aG N e (aB st))(j:o9 sd)(len:∀ds Q,sd ds Q->ds.length=e.length)
  (h:∀(f:Addr) (c:Value) (A:Around) (a:List Env) (s:Shared) (H:Hp) (E:XK),bf k (A.deeper (envOfC x (aB st) s.heap.objs.size f c))->uO (Bx P w K mg base N x st f c A a s H E) (aw st) t)
  (i:∀ds Q,sd ds Q->t { nx:=λ_ μ=>Q .ah μ,rt:=Q } (bw N ds) []):o5 P w K mg base (k+1) x e sd:=by
 obtain⟨f,g,F,m,b⟩:=d.ex
 exact⟨⟨f,g,Og F S len (h f) i,m,F.kp,b⟩,j⟩
def o5.up{j k:Nat}{x:Str}{a:List Str}{sd:Ai}(c:o5 P w K mg base j x a sd)(h:j<=k):o5 P w K mg base k x a sd:=⟨let ⟨f,b,F,r⟩:=c.ex;⟨f,b,F.mono h,r⟩,c.ms⟩
end
def de.has{K:j'}{H:Hp}{k:Key}:∀{vs:List (Key × V)} {ds:List (Key × D)},de K H vs ds->(lZ vs k).isSome=(dE ds k).isSome
 |_,_,.nil=>rfl
 |_,_,.cons (k:=b) (x:=x) (d:=d) (xs:=xs) (ds:=ds) h t=>by
  have a:=de.has (k:=k) t
  unfold dE lZ at a ⊢
  rw[P7,P7]
  by_cases q:b=k
  ·simp only[q,decide_true]
   rfl
  ·simp only[q,decide_false]
   exact a
section
variable {X:Cx}{o i:Expr}{pos:Pos}{td ty:ED}
def GO(neg:Bool)(b td:ED):ED:=λδ Q=>b δ λy=>td δ λd=>∃a k,d=.dK a/\ze y=some k/\Q (.bl (if neg=true then !(dE a k).isSome else(dE a k).isSome))
def G1{neg:Bool}(f:bP ty)(c:bP td):bP (GO neg ty td):=λδ P j g h=>f _ _ _ (λy h'=>c _ _ _ (fun d ⟨a,k,e,b,q⟩=>⟨a,k,e,b,g _ q⟩) h') h
def BH{neg:Bool}(s:PD X i ty)(t:PD X o td){σ:L2.St}{H:Hp}{Q:VK}(h:oE X.K (GO neg ty td) σ H Q):(if neg=true then F8 (oE X.K ty) (oE X.K td) else L7 (oE X.K ty) (oE X.K td)) σ H Q:=by
 obtain⟨δ,r,h⟩:=h
 have g:∀(y:D) (u:V) (d:D) (v:V) (e b:Hp),aK H e->aK e b->Dv X.K e u y->Dv X.K b v d->(∃c k,d=.dK c/\ze y=some k/\kD X.K H Q (.bl (if neg=true then !(dE c k).isSome else(dE c k).isSome))) ->
   ∃a n,v=.ref a/\rZ b a u n/\Q (.bl (if neg=true then !n.isSome else n.isSome)) b:=fun y u d v e b f l j dv ⟨c,k,z,A,q⟩=>by
  subst z
  cases dv with
  |dK w x =>
   refine⟨_,_,rfl,.inl ⟨_,k,w,wz j A,rfl⟩,?_⟩
   rw[x.has]
   exact q _ b (f.trans l) (.bl _)
 cases neg with
 |true =>
  rw[if_pos rfl]
  exact⟨δ,r,s.mono _ _ _ (λy m u e f j=>⟨δ,r.same f,t.mono _ _ _ (λd p v b l dv=>g y u d v e b f l j dv p) m⟩) h⟩
 |false =>
  rw[if_neg A']
  exact⟨δ,r,s.mono _ _ _ (λy m u e f j=>⟨δ,r.same f,t.mono _ _ _ (λd p v b l dv=>g y u d v e b f l j dv p) m⟩) h⟩
def x5(e:X.A.units+64<cLine)(b:PD X i ty)(a:PD X o td)(c:behindInMarks .In o=false):PD X (.Compare i [.In] [o] pos) (GO false ty td) :=
 ⟨(CP (CM (by omega) b.pe a.pe) c).imp λσ H Q h=>BH (neg:=false) b a h,G1 b.mono a.mono⟩
def MJ(e:X.A.units+64<cLine)(b:PD X i ty)(a:PD X o td)(c:behindInMarks .In o=false):kO X (.Compare i [.In] [o] pos) (cZ (GO false ty td)) :=
 kO.of (Cn (CM (by omega) b.pe a.pe) c) (λσ H Q h=>BH (neg:=false) b a h) (G1 b.mono a.mono)
end
end DC
namespace L2
end L2
namespace DC
end DC
namespace L2
end L2
namespace DC
end DC
namespace L2
section
variable {prog:O0}{w:World}{K:Type} [DecidableEq K] {knd:KeyKind prog w K} {A:Around} {E:Value->Shared->Prop} {s:Shared} {o d:Addr} {xs:List (List K × Addr × Value)}
def AF{k:List K}{a:Addr}{Q:Bool->Shared->Prop}(h:(tupleKind knd).is s.heap k a)(q:Q false s):wpAny (model prog w) A (R4 (.ref a)) Q E s:=by
 obtain⟨ob,e,n,c,b,f,_⟩:=h
 unfold R4
 refine wpAny_bind (wpAny_specialOf (T:="tuple") ⟨ob,c,b⟩ PySem.F.slot_tuple_eq.lookup ?_)
 exact wpAny_pure q
def l6{id:String}{es:Array Pj}{Q:PUnit->Shared->Prop}(c:∀e∈es.toList,¬(es.filter λx=>x.hash == e.hash).size > 1)(q:Q QX s):∀l:List Pj,(∀e∈l,e∈es.toList/\∃k a,e.key=.ref a/\(tupleKind knd).is s.heap k a) ->
  wpAny (model prog w) A (forIn l QX λe _=>do
   let q <- R4 e.key
   if(!q)=true then
    if(es.filter λx=>x.hash == e.hash).size > 1 then do
     unsupported (toString id++toString ":keys-of-equal-hash")
     pure (P0 QX)
    else pure (P0 QX)
   else pure (P0 QX)) Q E s
 |[],_=>by rw[Sb];exact wpAny_pure q
 |e::l,h=>by
  obtain⟨he,k,a,g,f⟩:=h e D'
  rw[Rc]
  refine wpAny_bind (wpAny_bind ?_)
  rw[g]
  refine AF f ?_
  rw[if_pos (by rfl),if_neg (c e he)]
  exact wpAny_pure (l6 c q l λi b=>h i (O5 _ b))
def uh{id:String}{ob:Obj}{es:Array Pj}{ep:Nat}{Q:Array Pj->Shared->Prop}(h1:s.heap.get? d=some ob)(c:ob.data=.dict es ep)(b:∀e∈es.toList,¬(es.filter λx=>x.hash == e.hash).size > 1)
  (f:∀e∈es.toList,∃k a,e.key=.ref a/\(tupleKind knd).is s.heap k a)(q:Q es s):wpAny (model prog w) A (Sj id d) Q E s:=by
 unfold Sj
 refine wpAny_bind (wpAny_dictEntries h1 c ?_)
 refine wpAny_bind ?_
 rw[<- Array.forIn_toList]
 exact l6 (knd:=knd) b (wpAny_pure q) _ λe he=>⟨he,f e he⟩
def CH:∀{l:List Pj},(l.map (·.hash)).Nodup->∀i:Int,(l.filter λx=>x.hash == i).length<=1
 |[],_,_=>by simp
 |e::l,h,i=>by
  rw[O1,QK] at h
  rw[List.filter_cons]
  by_cases q:(e.hash == i)=true
  ·rw[if_pos q]
   have:l.filter (λx=>x.hash == i)=[]:=List.filter_eq_nil_iff.mpr λx a z=>h.1 (by
    rw[beq_iff_eq.mp q,<- beq_iff_eq.mp z]
    exact O_.mpr ⟨x,a,rfl⟩)
   rw[this];exact O2 _
  ·rw[if_neg q]
   exact CH h.2 i
def rB{nm:String}{Q:Unit->Shared->Prop}(F:d≠o)(u:(o == Pm)=false)(H:s.heap.DictOfH (tupleKind knd) d [])(N:s.heap.DictOfH (tupleKind knd) o xs)(hsz:xs.length<=sizeLine)(R:(xs.map λx=>(tupleKind knd).hash x.1).Nodup)
  (h:∀h',h'.DictOfH (tupleKind knd) d xs->Pl d s.heap h'->Q () { s with heap:=h' }):wpAny (model prog w) A (Q8 nm d o) Q E s:=by
 obtain⟨S,p,B,g,v,f,t,I,O⟩:=id H
 obtain⟨T,a,J,i,P,b,c,j,m⟩:=id N
 have M:∀e∈a.toList,¬(a.filter λx=>x.hash == e.hash).size > 1:=λe he z=>by
  have L:(a.toList.map (·.hash)).Nodup:=by rw[c,Pe];exact R
  rw[<- PZ,Array.toList_filter] at z
  exact absurd (CH L e.hash) (by omega)
 unfold Q8
 rw[if_neg (by simpa using F)]
 unfold Qm
 rw[if_neg (by rw[u];exact A')]
 refine wpAny_bind (wpAny_pure (wpAny_bind (wpAny_dictEntries i b ?_)))
 have l:a.size=xs.length:=by rw[<- PZ,c,G']
 cases xs with
 |nil =>
  have G:a=#[]:=RQ (by rw[l];rfl)
  subst G
  have n:(decide ((#[]:Array Pj).size<=8)&&(#[]:Array Pj).all λe=>(keyPart e.key).isSome)=true:=by simp
  simp only[n,RV,Po,if_false]
  refine wpAny_bind (wpAny_dictEpoch i b (wpAny_bind (wpAny_dictEntries i b (wpAny_bind ?_))))
  rw[QO]
  exact wpAny_pure (wpAny_pure (h s.heap H (RY d s.heap)))
 |cons x r =>
  have n:(decide (a.size<=8)&&a.all λe=>(keyPart e.key).isSome)=false:=by
   rw[<- S_,c,O1,RE]
   exact Bool.and_false _
  simp only[n]
  have G:p=#[]:=RQ (by rw[<- PZ,t];rfl)
  subst G
  refine wpAny_bind (wpAny_dictEntries g f ?_)
  refine wpAny_bind (uh (knd:=knd) i b M (λe he=>?_) ?_)
  ·rw[c] at he
   obtain⟨y,q,rfl⟩:=O_.mp he
   exact⟨y.1,y.2.1,rfl,j y q⟩
  ·have C:(!a.isEmpty)=true:=by
    rw[Array.isEmpty_eq_false_iff_exists_mem.mpr ⟨entryOfKey (tupleKind knd) x,by rw[<- RW,c];exact D'⟩];rfl
   rw[if_pos C]
   refine wpAny_bind (wpAny_updateDictKeysTo g f (wpAny_pure (h _ ⟨_,a,B+1,P4 (Tf λ_=>a) g (Rh (Qi f λ_=>a)),WB v λ_=>a,Qi f λ_=>a,c,λy q=>?_,m⟩ (Pd s.heap d (Tf λ_=>a)))) (by omega))
   exact(tupleKind knd).keeps (j y q) g f (Pd s.heap d (Tf λ_=>a))
def wQ{Q:Value->Shared->Prop}(m:(o == Pm)=false)(J:s.heap.DictOfH (tupleKind knd) o xs)(hsz:xs.length<=sizeLine)(L:(xs.map λx=>(tupleKind knd).hash x.1).Nodup)
  (h:∀h',h'.DictOfH (tupleKind knd) s.heap.objs.size xs->Pl s.heap.objs.size (s.heap.push { cls:=.type "dict",data:=.dict #[] }) h'->Q (.ref s.heap.objs.size) { s with heap:=h' }):wpAny (model prog w) A (call (.type "dict") [.ref o]) Q E s:=by
 refine callType_codes PySem.F.kt_called_dict (PySem.F.kt_typeCall_dict_1 (.ref o)) PySem.F.entry_dict_init (kt_code_dict_new (Q₁:=λv B=>v=.ref s.heap.objs.size/\B={ s with heap:=s.heap.push { cls:=.type "dict",data:=.dict #[] }}) (.ref o) ⟨rfl,rfl⟩) ?_
 rintro obj M ⟨rfl,rfl⟩
 have a:Vy (tupleKind knd) (s.heap.push { cls:=.type "dict",data:=.dict #[] }) s.heap.objs.size []:=T9 s.heap
 obtain⟨H,t,l,f,z,c,q,i,g⟩:=id J
 have b:Vy (tupleKind knd) (s.heap.push { cls:=.type "dict",data:=.dict #[] }) o xs:=⟨H,t,l,y' _ f,z,c,q,λy C=>by
  obtain⟨ob,j,n,G,I⟩:=i y C
  exact⟨ob,j,n,y' _ G,I⟩,g⟩
 have u:s.heap.objs.size≠o:=λe=>absurd (N' f) (by rw[e];exact Qa o)
 refine⟨a.typeIs,PySem.F.args_dict_init_2 (.ref s.heap.objs.size) (.ref o),?_⟩
 refine wpAny_bind (wpAny_bind (wpAny_notOrdered_dict a.typeIs (wpAny_pure ?_)))
 refine wpAny_bind (wpAny_typeOf b.typeIs ?_)
 rw[if_neg (by decide)]
 refine wpAny_bind (wpAny_bind (wpAny_bind (wpAny_isInstance b.typeIs VO ?_)))
 simp only[RV,Po,if_false]
 refine wpAny_bind (wpAny_specialOf b.typeIs Tx.lookup (wpAny_pure ?_))
 simp only[beq_self_eq_true,if_true]
 refine wpAny_bind (wpAny_pure (rB u m a b hsz L λh' p r=>?_))
 exact wpAny_bind (wpAny_pure (wpAny_pure ⟨rfl,h h' p r⟩))
end
end L2
namespace DC
def bh(a:List (List Int × D))(k:List Int):Option D:=(a.find? λp=>decide (p.1=k)).map (·.2)
def mJ(a:List (List Int × D))(k:List Int)(d:D):List (List Int × D):=if(bh a k).isSome=true then a.map (λp=>if p.1=k then(k,d) else p) else a++[(k,d)]
def fL(p:List Int × D)(a:List (List Int × D))(k:List Int):bh (p::a) k=if p.1=k then some p.2 else bh a k:=by
 unfold bh
 rw[P7]
 by_cases q:p.1=k
 ·simp[q]
 ·simp[q]
section
variable {K:j'}{H:Hp}
def cO.look(k:List Int):∀{xs:XT} {c:List (List Int × D)},cO K H xs c->(bh c k=none/\kJ xs k=false)\/∃d v u x,bh c k=some d/\xs.find? (λz=>decide (z.1=k))=some (k,v,u)/\kJ xs k=true/\RelV x u/\Dv K H x d
 |_,_,.nil=>.inl ⟨rfl,rfl⟩
 |_,_,.cons (k:=a) (b:=b) (u:=u) (x:=x) (d:=d) (xs:=xs) (ds:=ds) h g h1 f=>by
  have e:kJ ((a,b,u)::xs) k=(decide (a=k)||kJ xs k):=rfl
  rw[fL,e,P7]
  by_cases q:a=k
  ·subst q
   exact .inr ⟨d,b,u,x,if_pos rfl,by simp,by simp,g,h1⟩
  ·simp only[q,if_false,decide_false,Vo]
   exact cO.look k f
def cO.length:∀{xs:XT} {a:List (List Int × D)},cO K H xs a->xs.length=a.length
 |_,_,.nil=>rfl
 |_,_,.cons _ _ _ h=>congrArg (·+1) (cO.length h)
def cO.keys:∀{xs:XT} {a:List (List Int × D)},cO K H xs a->xs.map (·.1)=a.map (·.1)
 |_,_,.nil=>rfl
 |_,_,.cons _ _ _ t=>by rw[O1,O1,cO.keys t]
def cO.snoc{k:List Int}{b u:Value}{x:V}{d:D}(e:Dj K H b k)(f:RelV x u)(h1:Dv K H x d):∀{xs:XT} {g:List (List Int × D)},cO K H xs g->cO K H (xs++[(k,b,u)]) (g++[(k,d)])
 |_,_,.nil=>.cons e f h1 .nil
 |_,_,.cons a b c t=>.cons a b c (cO.snoc e f h1 t)
def cO.nI{k:List Int}{u:Value}{x:V}{d:D}(j:RelV x u)(h1:Dv K H x d):∀{xs:XT} {l:List (List Int × D)},cO K H xs l->cO K H (xs.map (ib k u)) (l.map λp=>if p.1=k then(k,d) else p)
 |_,_,.nil=>.nil
 |_,_,.cons (k:=e) (b:=f) (u:=h) (x:=m) (d:=d') (xs:=xs) (ds:=ds) a b c t=>by
  rw[O1,O1]
  have i:=cO.nI (k:=k) j h1 t
  by_cases q:e=k
  ·have g:ib k u (e,f,h)=(e,f,u):=by simp[ib,q]
   rw[g,if_pos (show((e,d'):List Int × D).1=k from q)]
   subst q
   exact .cons a j h1 i
  ·have g:ib k u (e,f,h)=(e,f,h):=by simp[ib,q]
   rw[g,if_neg (show¬((e,d'):List Int × D).1=k from q)]
   exact .cons a b c i
def cO.stored{k:List Int}{b u:Value}{x:V}{d:D}{xs:XT}{f:List (List Int × D)}(h:cO K H xs f)(g:Dj K H b k)(e:RelV x u)(h1:Dv K H x d):cO K H (fH xs k b u) (mJ f k d):=by
 unfold fH mJ
 rcases h.look k with⟨a,c⟩|⟨d',i,l,j,a,_,c,_⟩
 ·rw[a,c]
  exact h.snoc g e h1
 ·rw[a,c]
  exact h.nI e h1
def items_int{P:O0}{w:World}:∀{k:List Int} {us:List Value},Vals (k.map V.int) us->ItemsAre (intKind P w) k us
 |[],_,.nil=>.nil
 |i::k,_,.cons h t=>by
  obtain⟨tk,rfl⟩:=h
  exact .cons (by show S' i (.int i tk)=true;simp[S']) (items_int t)
def nj(a:List (List Int × D)):Prop:=∀p∈a,p.1≠xK
def cO.rJ{xs:XT}{a:List (List Int × D)}(h:cO K H xs a)(p:nj a):∀x∈xs,x.1≠xK:=λx b=>by
 have:x.1∈a.map (·.1):=by rw[<- h.keys];exact O_.mpr ⟨x,b,rfl⟩
 obtain⟨g,c,e⟩:=O_.mp this
 rw[<- e]
 exact p g c
end
section
variable {X:Cx}{pins:List (Addr × Obj)}{σ:L2.St}{H:Hp}{s:Shared}{a b:Addr}{v:Value}{xs:XT}{gs:List (List Int × D)}{k:List Int}{A:Around}{E:Value->Shared->Prop}
def pZ(I:Inv X pins σ H s)(h:eY X.K H b (k.map V.int)):(tk X.prog X.w).is s.heap k b:=by
 obtain⟨c,g,⟨o,f,e,n,i⟩,_⟩:=I.tuple h
 exact⟨_,_,_,f,e,i,items_int (by simpa using g)⟩
def Dj.is(I:Inv X pins σ H s)(h:Dj X.K H v k):lj X.prog X.w s.heap v k:=h.imp id fun⟨n,b,e,q⟩=>⟨n,b,e,pZ I q⟩
def cO.keysAt(I:Inv X pins σ H s):∀{xs:XT} {f:List (List Int × D)},cO X.K H xs f->∀x∈xs,lj X.prog X.w s.heap x.2.1 x.1
 |_,_,.nil,x,c=>nomatch c
 |_,_,.cons e _ _ t,x,c=>by
  rcases B'.mp c with rfl|c
  ·exact e.is I
  ·exact cO.keysAt I t x c
def cS(I:Inv X pins σ H s)(e:Rd H a (iI a xs))(d:cO X.K H xs gs):xs.length<=sizeLine/\(a == Pm)=false/\iV X.prog X.w s.heap a xs:=by
 obtain⟨⟨g,c,f,r⟩,_⟩:=(show bI X.prog X.w H s.heap a (iI a xs) from e.ok I.bJ)
 exact⟨c,f,r,d.keysAt I,g⟩
def m8{P:O0}{w:World}{h:Heap}{p:Hp}(q:xs.length<=sizeLine)(t:(a == Pm)=false)(d:iV P w h a xs):bI P w p h a (iI a xs):=by
 obtain⟨⟨l,o,es,ep,h1,n⟩,_,r⟩:=d
 refine⟨⟨r,q,t,l,o,es,ep,h1,n⟩,⟨o,h1⟩,fun y z ⟨m,u,j,f,i,c,e,g,x⟩ k=>⟨m,u,j,f,i,c,e,k _ g,x⟩⟩
def iV.KS{P:O0}{w:World}{h:Heap}(m:iV P w h a xs)(f:∀x∈xs,x.1≠xK):∃ys:List (List Int × Addr × Value),xs=ys.map (λy=>(y.1,F' y.2.1,y.2.2))/\h.DictOfH (tk P w) a ys:=by
 obtain⟨⟨l,o,es,ep,h1,n,C,i⟩,j,g⟩:=m
 have c:∃ys:List (List Int × Addr × Value),xs=ys.map (λy=>(y.1,F' y.2.1,y.2.2))/\∀y∈ys,(tk P w).is h y.1 y.2.1:=by
  clear i g
  induction xs with
  |nil=>exact⟨[],rfl,λy z=>nomatch z⟩
  |cons x r t =>
   obtain⟨ys,e,q⟩:=t (λz hz=>f z (O5 _ hz)) λz hz=>j z (O5 _ hz)
   obtain⟨k,v,u⟩:=x
   rcases j _ D' with⟨z,_⟩|⟨_,b,B,p⟩
   ·exact absurd z (f _ D')
   ·refine⟨(k,b,u)::ys,by rw[e,O1];exact congrArg (λv=>(k,v,u)::_) B,λy c=>?_⟩
    rcases B'.mp c with rfl|c
    ·exact p
    ·exact q y c
 obtain⟨ys,rfl,q⟩:=c
 refine⟨ys,rfl,o,es,ep,h1,n,C,?_,q,by rw[Pe] at g;exact g⟩
 rw[i,Pe]
 refine QR λy c=>?_
 have F:=f _ (O_.mpr ⟨y,c,rfl⟩)
 show dh l (y.1,F' y.2.1,y.2.2)=entryOfKey (tk P w) y
 unfold dh
 rw[if_neg F]
 rfl
def iV.xG{P:O0}{w:World}{h:Heap}{ys:List (List Int × Addr × Value)}(m:h.DictOfH (tk P w) a ys)(e:∀y∈ys,y.1≠xK):iV P w h a (ys.map λy=>(y.1,F' y.2.1,y.2.2)):=by
 obtain⟨o,es,ep,h1,i,l,g,n,j⟩:=m
 refine⟨⟨0,o,es,ep,h1,i,l,?_⟩,λx f=>?_,by rw[Pe];exact j⟩
 ·rw[g,Pe]
  refine QR λy c=>?_
  show entryOfKey (tk P w) y=dh 0 (y.1,F' y.2.1,y.2.2)
  unfold dh
  rw[if_neg (e y c)]
  rfl
 ·obtain⟨y,c,rfl⟩:=O_.mp f
  exact .inr ⟨e y c,_,rfl,n y c⟩
def iV.nil(h:Heap){P:O0}{w:World}:iV P w (h.push { cls:=.type "dict",data:=.dict #[] }) h.objs.size []:=iV.xG (ys:=[]) (T9 h) λy z=>nomatch z
def xw{ys:List (List Int × Addr × Value)}:(ys.map λy=>(y.1,F' y.2.1,y.2.2)).find? (λz=>decide (z.1=k))=(atKey ys k).map λp=>((k,F' p.1,p.2):List Int × Value × Value):=by
 unfold atKey
 rw[List.find?_map]
 have e:((λz:List Int × Value × Value=>decide (z.1=k))∘λy:List Int × Addr × Value=>(y.1,F' y.2.1,y.2.2))=λy=>decide (y.1=k):=rfl
 rw[e]
 cases q:ys.find? (λy=>decide (y.1=k)) with
 |none=>rfl
 |some y =>
  have:=TZ q
  have:y.1=k:=of_decide_eq_true this
  subst this
  rfl
end
section
variable {K:j'}{H:Hp}
def bZ.ints:∀{vs:List V} {k:List Int},bZ K H vs (k.map D.int)->vs=k.map V.int
 |_,[],.nil=>rfl
 |_,i::k,.cons h t=>by
  cases h
  rw[bZ.ints t];rfl
def Dv.tupI{v:V}{k:List Int}(h:Dv K H v (.tup (k.map D.int))):∃b,v=.ref b/\eY K H b (k.map V.int):=by
 cases h with
 |tup h1 a=>exact⟨_,rfl,by rw[<- a.ints];exact h1⟩
end
section
variable {X:Cx}{o i e f value:Expr}{pos pos' apos cpos:Pos}
def ri{ys:List (List Int × Addr × Value)}{k:List Int}{b u:Value}(h:(ys.map λy=>(y.1,F' y.2.1,y.2.2)).find? (λz=>decide (z.1=k))=some (k,b,u)):∃c,atKey ys k=some (c,u):=by
 rw[xw] at h
 cases q:atKey ys k with
 |none=>rw[q] at h;cases h
 |some p=>rw[q] at h;obtain⟨c,w⟩:=p;cases h;exact⟨c,rfl⟩
def xx{ys:List (List Int × Addr × Value)}{k:List Int}(h:kJ (ys.map λy=>(y.1,F' y.2.1,y.2.2)) k=false):atKey ys k=none:=by
 have e:=xw (ys:=ys) (k:=k)
 cases q:atKey ys k with
 |none=>rfl
 |some p =>
  rw[q] at e
  have:=Ru e
  rw[show kJ (ys.map λy=>(y.1,F' y.2.1,y.2.2)) k=true from RS.mpr ⟨_,this,decide_eq_true rfl⟩] at h
  cases h
def MA(K:j')(td l m:TE):TE:=λσ H Q=>td σ H λx h=>∃a xs c,x=.ref a/\Rd h a (iI a xs)/\cO K h xs c/\nj c/\l σ h λy g=>∃b k,y=.ref b/\eY K g b (k.map V.int)/\aK h g/\m σ g λz j=>aK g j /\
 ∀v,((bh c k=none/\v=z)\/∃d,bh c k=some d/\Dv K j v d)->Q v j
def FO{td J P:TE}(W:X.A.units+1<cLine)(ho:PE X o td)(he:PE X e J)(T:PE X f P)(m:M2 X o "get" apos e f cpos):PE X (.Call (.Attribute o "get" apos) [e,f] [] cpos) (MA X.K td J P):=by
 intro g s σ H Q I h
 refine SI m.base m.Kw m.line RC Qs T_ (bH (ho g s σ H _ I h) ?_);rintro u s1 ⟨x,H1,G,rx,a,xs,gs,Y,O,N,hp,q1⟩
 subst Y
 obtain rfl:u=F' a:=rx
 obtain⟨_,_,M⟩:=cS G O N
 refine⟨M.typeIs,λb q=>?_,?_⟩
 ·cases q
  obtain⟨_,ob,_,_,h1,S,_⟩:=M.ex
  exact⟨ob,h1,S.2.1⟩
 rw[m.trees]
 refine QZ rfl (Qy (Qr (bH (he g s1 σ H1 _ G q1) fun iv s2 ⟨y,H2,Z,ry,b,k,ey,R,n,q2⟩ =>
  Qr (bH (T g s2 σ H2 _ Z q2) fun fv s3 ⟨z,L,r,U,j,C⟩=>RI ?_))))
 subst ey
 cases(show iv=F' b from ry)
 have l:=N.same (n.trans j)
 obtain⟨_,hs,p⟩:=cS r (cj (n.trans j) O) l
 obtain⟨ys,rfl,dl⟩:=p.KS (l.rJ hp)
 refine call_meetsIn Qs p.typeIs R7 (PySem.F.args_dict_get_3 _ _ _) (meetsH_dict_get_default (tupleKind (intKind X.prog X.w)) a b hs fv) ⟨tupleKind_room_in1 W,k,ys,pZ r (gW j R),dl,?_⟩
 rcases l.look k with⟨v,B⟩|⟨d,b',u',E,v,B,_,t,hx⟩
 ·rw[xx B];exact⟨z,L,r.tok _,U,C z (.inl ⟨v,rfl⟩)⟩
 ·obtain⟨c,e3⟩:=ri B
  rw[e3];exact⟨E,L,r.tok _,t,C E (.inr ⟨d,v,hx⟩)⟩
def MB(K:j')(j td:TE):TE:=λσ H Q=>j σ H λy h=>∃b k,y=.ref b/\eY K h b (k.map V.int)/\td σ h λx c=>∃a xs g,x=.ref a/\aK h c/\Rd c a (iI a xs)/\cO K c xs g/\nj g/\Q (.bl (bh g k).isSome) c
def CN{td q:TE}(w:X.A.units+1<cLine)(v:PE X i q)(R:PE X o td):PC X .In i o (MB X.K q td):=by
 intro g s σ H Q I h
 refine bH (v g s σ H _ I h) fun O M ⟨y,G,E,P,b,k,N,t,B⟩=>bH (R g M σ G _ E B) ?_;rintro u s2 ⟨x,W,l,L,a,xs,r,z,j,S,n,T,F⟩
 subst z N
 obtain rfl:u=F' a:=L
 cases(show O=F' b from P)
 obtain⟨_,C,J⟩:=cS l S n
 obtain⟨ys,rfl,dl⟩:=J.KS (n.rJ T)
 refine W_ (tupleKind_room_in1 w) (pZ l (gW j t)) C dl ?_
 have e:(atKey ys k).isSome=(bh r k).isSome:=by
  rcases n.look k with⟨m,p⟩|⟨d,b',Y,Z,m,p,_⟩
  ·rw[m,xx p];rfl
  ·obtain⟨c,U⟩:=ri p
   rw[m,U];rfl
 rw[e]
 exact⟨.bl (bh r k).isSome,W,l.tok _,rfl,F⟩
def Lu(K:j')(td g m:TE):TS:=λD σ H=>m σ H λv l=>td σ l λx j=>g σ j λy c=>∃a b k xs h,x=.ref a/\y=.ref b/\c a=some (iI a xs)/\cO K c xs h/\eY K c b (k.map V.int)/\k≠xK/\xs.length<sizeLine/\∀u,RelV v u->D.nx σ (upd c a (iI a (fH xs k (.ref b) u)))
def Fc{td p w:TE}(C:X.A.units+1<cLine)(ho:PE X o td)(B:PE X i p)(U:PE X value w)(N:QL value (some (.Subscript o i pos')) pos.line X.env=pure false) :
  PS X (.Assign [.Subscript o i pos'] value pos) (Lu X.K td p w):=by
 intro c s σ H D I h
 refine Sd (bH (U c s σ H _ I h) fun r Z ⟨v,Q,O,F,G⟩=>bH (ho c Z σ Q _ O G) fun u T ⟨x,H2,J,W,P⟩=>bH (B c T σ H2 _ J P) ?_) N;rintro iv s3 ⟨y,H3,j,ry,a,b,k,xs,gs,E,ey,n,Y,z,hn,M,L⟩
 subst E ey
 obtain rfl:u=F' a:=W
 cases(show iv=F' b from ry)
 obtain⟨_,l,S⟩:=cS j (.inl n) Y
 refine L3 C S (pZ j z) hn (Q7 M) λh' t g m=>?_
 have he:∃q,h'.get? a=some q:=let ⟨_,q,_,_,R,_⟩:=g.ex;⟨q,R⟩
 exact⟨σ,_,gr j (by rw[n];exact QN) m he (m8 (by have:=gB xs k (.ref b) r;omega) l g),L r F⟩
def JM:PE X (.Dict [] [] pos) (λ_ H Q=>∀p,H p=none->Q (.ref p) (upd H p (iI p []))):=λb s σ H Q I h =>
 V5 ⟨.ref s.heap.objs.size,_,I.laid (a:=s.heap.objs.size) (o:=iI s.heap.objs.size []) (t':=s.toks) (λ_ _ q=>y' _ q) (O2 _) (m8 (P:=X.prog) (w:=X.w) (P6 _) (beq_eq_false_iff_ne.mpr (QS (PR I.big))) (iV.nil s.heap)),rfl,h _ (I.bJ.fresh (O2 _))⟩
def uS:kK X (.type "dict") (λxs H Q=>∃p c j,xs=[.ref p]/\Rd H p (iI p c)/\cO X.K H c j/\nj j/\(j.map λg=>hT g.1).Nodup/\∀l,H l=none->Q (.ref l) (upd H l (iI l c))):=by
 intro A s σ H xs us Q I r h
 obtain⟨p,c,j,rfl,E,m,B,L,q⟩:=h
 obtain⟨u,rfl,M⟩:=vals1 r
 cases M
 obtain⟨z,C,J⟩:=cS I E m
 obtain⟨ys,rfl,dl⟩:=J.KS (m.rJ B)
 have v:=m.keys
 rw[Pe] at v
 have n:(ys.map λx=>(tupleKind (intKind X.prog X.w)).hash x.1).Nodup:=by
  have e:(ys.map λx=>(tupleKind (intKind X.prog X.w)).hash x.1)=(ys.map ((·.1)∘λy:List Int × Addr × Value=>(y.1,F' y.2.1,y.2.2))).map hT:=by rw[Pe];rfl
  rw[e,v,Pe]
  exact L
 refine wQ C dl (by rw[G'] at z;exact z) n λh' a t=>?_
 have a:=iV.xG a λy G=>m.rJ B _ (O_.mpr ⟨y,G,rfl⟩)
 have F:∀b o,s.heap.get? b=some o->h'.get? b=some o:=λb o e=>(t.2 b (PR (N' e))).trans (y' _ e)
 exact⟨.ref s.heap.objs.size,_,I.laid (t':=s.toks) F (O2 _) (m8 z (beq_eq_false_iff_ne.mpr (QS (PR I.big))) a),rfl,q _ (I.bJ.fresh (O2 _))⟩
end
section
variable {X:Cx}{o i e f value:Expr}{pos pos' apos cpos p:Pos}{td ty tx te:ED}
def MR(td b c:ED):ED:=λδ Q=>td δ λd=>∃a,d=.dT a/\nj a/\b δ λy=>∃k,y=.tup (k.map D.int)/\c δ λz=>Q ((bh a k).getD z)
def A_(O:X.A.units+64<cLine)(E:PD X o td)(he:PD X e ty)(l:PD X f tx)(m:M2 X o "get" apos e f cpos):PD X (.Call (.Attribute o "get" apos) [e,f] [] cpos) (MR td ty tx):=by
 refine⟨(FO (by omega) E.pe he.pe l.pe m).imp fun σ H Q ⟨δ,r,h⟩=>⟨δ,r,E.mono _ _ _ (fun d ⟨s,j,F,n⟩ v S c dv=>?_) h⟩,
  λδ P R g h=>E.mono _ _ _ (fun d ⟨s,j,F,n⟩=>⟨s,j,F,he.mono _ _ _ (fun y ⟨k,C,t⟩=>⟨k,C,l.mono _ _ _ (λz q=>g _ q) t⟩) n⟩) h⟩
 subst j
 cases dv with
 |dT h1 J =>
  refine⟨_,_,s,rfl,h1,J,F,δ,r.same c,he.mono _ _ _ (?_) n⟩;rintro y ⟨k,C,t⟩ u T a L
  subst C
  obtain⟨b,rfl,I⟩:=L.tupI
  refine⟨b,k,rfl,I,a,δ,r.same (c.trans a),l.mono _ _ _ (λz q w G x N=>⟨x,λv M=>?_⟩) t⟩
  rcases M with⟨B,rfl⟩|⟨d,B,dv⟩
  ·rw[B] at q;exact q _ G (c.trans (a.trans x)) N
  ·rw[B] at q;exact q _ G (c.trans (a.trans x)) dv
def J_(td b:ED):ED:=λδ Q=>td δ λd=>∃a,d=.dK a/\b δ λy=>∃k,ze y=some k/\Q ((dE a k).getD .ah)
def D_(I:X.A.units+64<cLine)(s:PD X o td)(he:PD X e ty)(m:M1 X o "get" apos e cpos):PD X (.Call (.Attribute o "get" apos) [e] [] cpos) (J_ td ty):=by
 refine⟨(CQ (by omega) s.pe he.pe m).imp fun σ H Q ⟨δ,r,h⟩=>⟨δ,r,s.mono _ _ _ (fun d ⟨q,n,c⟩ v J j dv=>?_) h⟩,
  λδ P G g h=>s.mono _ _ _ (fun d ⟨E,n,c⟩=>⟨E,n,he.mono _ _ _ (fun y ⟨k,l,a⟩=>⟨k,l,g _ a⟩) c⟩) h⟩
 subst n
 cases dv with
 |dK h1 B =>
  refine⟨_,rfl,.inl ⟨_,h1⟩,δ,r.same j,he.mono _ _ _ (?_) c⟩;rintro y ⟨k,l,a⟩ u w b C
  refine⟨_,.inl ⟨_,k,cj b h1,wz C l,rfl⟩,?_⟩
  have t:=B.same b
  cases e1:dE q k with
  |none =>
   have:=t.has (k:=k)
   rw[e1] at this a
   revert this
   generalize lZ _ k=F
   intro this
   cases F with
   |some z=>cases this
   |none=>exact a _ w (j.trans b) .ah
  |some d =>
   obtain⟨v,x,dv⟩:=t.look e1
   rw[x]
   rw[e1] at a
   exact a _ w (j.trans b) dv
def DY(b td:ED):ED:=λδ Q=>b δ λy=>∃k,y=.tup (k.map D.int)/\td δ λd=>∃a,d=.dT a/\nj a/\Q (.bl (bh a k).isSome)
def G4(c:bP ty)(a:bP td):bP (DY ty td):=λδ P l g h=>c _ _ _ (fun y ⟨k,e,q⟩=>⟨k,e,a _ _ _ (fun d ⟨b,e,j,q⟩=>⟨b,e,j,g _ q⟩) q⟩) h
def DN(t:PD X i ty)(s:PD X o td){σ:L2.St}{H:Hp}{Q:VK}(h:oE X.K (DY ty td) σ H Q):MB X.K (oE X.K ty) (oE X.K td) σ H Q:=by
 obtain⟨δ,r,h⟩:=h
 refine⟨δ,r,t.mono _ _ _ (?_) h⟩;rintro y ⟨k,l,q⟩ u A a n
 subst l
 obtain⟨b,rfl,g⟩:=n.tupI
 refine⟨b,k,rfl,g,δ,r.same a,s.mono _ _ _ (?_) q⟩;rintro d ⟨w,m,x,q⟩ v z c dv
 subst m
 cases dv with
 |dT h1 j=>exact⟨_,_,w,rfl,c,h1,j,x,q _ z (a.trans c) (.bl _)⟩
def DK(g:X.A.units+64<cLine)(b:PD X i ty)(a:PD X o td)(c:behindInMarks .In o=false):kO X (.Compare i [.In] [o] pos) (cZ (DY ty td)) :=
 kO.of (Cn (CN (by omega) b.pe a.pe) c) (λσ H Q h=>DN b a h) (G4 b.mono a.mono)
end
section
variable {K:j'}{H:Hp}{μ:Mu}{L:List Addr}{a:Addr}{vs ys:XT}{ds:List (List Int × D)}
def yG(L:List Addr)(h:H a=some (iI a vs)):df H L a:=.ext _ h fun g ⟨_,_,_,_,o,es,ep,e,_,b,_⟩=>⟨o,e,λv q=>by rw[b] at q;cases q⟩
def eZ.mJ(g:eZ K H μ L)(v:a∈L)(t:H a=some (iI a vs))(d:cO K (af H L) ys ds):eZ K (upd H a (iI a ys)) (oZ a (.dT ds) μ) L:=by
 have e:af (upd H a (iI a ys)) L=af H L:=gQ v
 refine⟨λp y=>?_,by rw[rK];exact g.Ir,λb n=>?_,λb n=>?_⟩
 ·obtain⟨q,x,rfl⟩:=O_.mp y
  by_cases i:q.1=a
  ·rw[if_pos i]
   exact⟨v,ys,aI,by rw[e];exact d⟩
  ·rw[if_neg i]
   obtain⟨h1,j⟩:=g.at_ q x
   refine⟨h1,?_⟩
   obtain⟨b,m⟩:=q
   cases m with
   |lst ds=>obtain⟨l,h,d⟩:=j;exact⟨l,by rw[aL i];exact h,by rw[e];exact d⟩
   |ins C E=>obtain⟨o,fs,h,j,A,d⟩:=j;exact⟨o,fs,by rw[aL i];exact h,by rw[aL (λz=>by rw[z,t] at j;cases j)];exact j,A,by rw[e];exact d⟩
   |dK r=>obtain⟨l,h,d⟩:=j;exact⟨l,by rw[aL i];exact h,by rw[e];exact d⟩
   |dT r=>obtain⟨l,h,d⟩:=j;exact⟨l,by rw[aL i];exact h,by rw[e];exact d⟩
 ·by_cases f:b=a
  ·rw[f];exact yG L aI
  ·have w:=g.dg b n
   cases w with
   |lst xs h=>exact .lst xs (by rw[aL f];exact h)
   |dK xs h=>exact .dK xs (by rw[aL f];exact h)
   |ext φ h u=>exact .ext φ (by rw[aL f];exact h) u
   |ins C o fs h B=>exact .ins C o fs (by rw[aL f];exact h) B
   |own C c fs h u s=>exact .own C c fs (by rw[aL f];exact h) u (by rw[aL (λz=>by rw[z,t] at s;cases s)];exact s)
 ·rcases g.KN b n with⟨m,h⟩|⟨c,h⟩
  ·by_cases f:b=a
   ·exact .inl ⟨.dT ds,O_.mpr ⟨_,h,by rw[if_pos f,f]⟩⟩
   ·exact .inl ⟨m,O_.mpr ⟨_,h,if_neg f⟩⟩
  ·exact .inr ⟨c,by rw[aL (λz=>by rw[z,t] at h;cases h)];exact h⟩
def eZ.LX(f:H a=none)(d:cO K H ys ds):eZ K (upd H a (iI a ys)) [(a,.dT ds)] [a]/\af (upd H a (iI a ys)) [a]=H:=by
 have e:af (upd H a (iI a ys)) [a]=H:=by
  funext b
  by_cases c:b=a
  ·rw[c,cg D',f]
  ·rw[bM (λz=>c (O6.mp z)),aL c]
 refine⟨⟨λp g=>?_,?_,λb c=>?_,λb c=>?_⟩,e⟩
 ·rw[O6.mp g]
  exact⟨D',ys,aI,by rw[e];exact d⟩
 ·rw[O1,QC];exact QK.mpr ⟨(λh=>nomatch h),RK⟩
 ·rw[O6.mp c];exact yG _ aI
 ·rw[O6.mp c];exact .inl ⟨_,D'⟩
end
section
variable {X:Cx}{e ke:Expr}{te tk:ED}{i:Nat}{x:Str}{p pos pos':Pos}
def Bz(i:Nat)(tk c:ED):iW:=λE δ μ=>c δ λd=>∃a b,δ[i]?=some (some (.adr a))/\μ.lookup a=some (.dT b)/\b.length<sizeLine/\tk δ λy=>∃k,y=.tup (k.map D.int)/\k≠xK/\E.nx δ (oZ a (.dT (mJ b k d)) μ)
def gw(hu:X.A.units+64<cLine)(hi:X.N[i]?=some x)(hv:Dp X.env.scope x)(C:PD X ke tk)(he:PD X e te)(hd:autoParam ((x == ("__debug__":Str))=false) b7)(M:autoParam ((x == ("__classdict__":Str))=false) b7)
  (hs:autoParam (QL e (some (.Subscript (.Name x p) ke pos')) pos.line X.env=pure false) a9):Ag X (.Assign [.Subscript (.Name x p) ke pos'] e pos) (Bz i tk te):=by
 refine⟨PS.imp (Fc (by omega) (nQ hi hv hd M) (gH C.pe) (gH he.pe) hs) fun D σ H ⟨δ,μ,L,r,g,q⟩=>⟨L,g.dg,δ,r,he.mono _ _ _ (fun d ⟨a,gs,I,F,O,q⟩ v H1 s dv z=>?_) q⟩,
  λE E' δ μ l q=>he.mono _ _ _ (fun d ⟨a,Q,I,F,O,q⟩=>⟨a,Q,I,F,O,C.mono _ _ _ (fun y ⟨k,o,B,q⟩=>⟨k,o,B,l.nx _ _ q⟩) q⟩) q⟩
 have o:af (aW H1 H L) L=H1:=bC z
 have R:eZ X.K (aW H1 H L) μ L:=g.show z s
 have r1:cE X.K (af (aW H1 H L) L) σ δ:=by rw[o];exact r.same s
 obtain⟨w,G,J⟩:=r.get i _ I
 cases J
 refine⟨_,G,L,R.dg,δ,r1,C.mono _ _ _ (?_) q⟩;rintro y ⟨k,ek,B,q⟩ u c m du W
 subst ek
 have t:af (aW c (aW H1 H L) L) L=c:=bC W
 have S:eZ X.K (aW c (aW H1 H L) L) μ L:=R.show W m
 obtain⟨h,P,T,j⟩:=S.at_ _ (mem_of_lookup F)
 rw[o] at m
 have f:cO X.K c P gs:=by rw[t] at j;exact j
 obtain⟨b,rfl,n⟩:=du.tupI
 have U:aK c (aW c (aW H1 H L) L):=by
  have:=av (H:=aW c (aW H1 H L) L) (L:=L)
  rw[t] at this
  exact this
 refine⟨a,b,k,P,gs,rfl,rfl,T,f.same U,gW U n,B,by rw[f.length];exact O,λu Z=>?_⟩
 have Y:af (upd (aW c (aW H1 H L) L) a (iI a (fH P k (.ref b) u))) L=c:=by rw[gQ h,t]
 exact q σ _ L (by rw[Y];exact s.trans m) (by rw[Y];exact r.same (s.trans m)) (S.mJ h T (by rw[t];exact f.stored (.inr ⟨B,b,rfl,n⟩) Z (dv.same m)))
end
end DC
namespace L2
def Ak(p:Bool):Int:=if p=true then 1 else 0
section
seal wpAny
variable {prog:O0}{w:World}{A:Around}{E:Value->Shared->Prop}{s:Shared}{p q:Bool}{Q:Value->Shared->Prop}
def lt_bool(h:Q (.bool (decide (Ak p<Ak q))) s):wpAny (model prog w) A (compareOp .Lt (.bool p) (.bool q)) Q E s:=by
 show wpAny (model prog w) A (richCompare .Lt (.bool p) (.bool q)) Q E s
 exact Vs (op:=.Lt) (Rq s p) (Rq s q) PySem.F.slot_bool_lt PySem.F.entry_int_lt (PySem.F.args_int_lt_2 _ _) (gives_int_lt_bools p q) (by simp[Wa]) h
def le_bool(h:Q (.bool (decide (Ak p<=Ak q))) s):wpAny (model prog w) A (compareOp .LtE (.bool p) (.bool q)) Q E s:=by
 show wpAny (model prog w) A (richCompare .LtE (.bool p) (.bool q)) Q E s
 exact Vs (op:=.LtE) (Rq s p) (Rq s q) PySem.F.slot_bool_le PySem.F.entry_int_le (PySem.F.args_int_le_2 _ _) (gives_int_le_bools p q) (by simp[Wa]) h
end
section
variable {X:Cx}
def JF:fc X (compareOp .Lt) (λx y H Q=>∃i j,x=.bl i/\y=.bl j/\Q (.bl (decide (Ak i<Ak j))) H):=by
 intro a s σ H x y v u Q I b c h
 obtain⟨i,j,rfl,rfl,q⟩:=h
 cases b
 cases c
 exact lt_bool (ak I q rfl)
def JE:fc X (compareOp .LtE) (λx y H Q=>∃i j,x=.bl i/\y=.bl j/\Q (.bl (decide (Ak i<=Ak j))) H):=by
 intro a s σ H x y v u Q I b c h
 obtain⟨i,j,rfl,rfl,q⟩:=h
 cases b
 cases c
 exact le_bool (ak I q rfl)
end
end L2
namespace DC
section
variable {X:Cx}{a b:Expr}{ta tb:ED}{pos:Pos}
def EO(r:Int->Int->Bool):F2:=λd e Q=>(∃i j,d=.int i/\e=.int j/\Q (.bl (r i j)))\/∃p q,d=.bl p/\e=.bl q/\Q (.bl (r (Ak p) (Ak q)))
def m_ord{r:Int->Int->Bool}:cz (EO r):=λd e P l g h=>h.imp (fun⟨i,j,f,c,q⟩=>⟨i,j,f,c,g _ q⟩) fun⟨i,j,f,c,q⟩=>⟨i,j,f,c,g _ q⟩
def ug{K:j'}{r:Int->Int->Bool}:fM K (λx y H Q=>Cs (λi j=>.bl (r i j)) x y H Q\/∃i j,x=.bl i/\y=.bl j/\Q (.bl (r (Ak i) (Ak j))) H) (EO r):=by
 intro H x y d e Q f c h
 rcases h with⟨i,j,rfl,rfl,q⟩|⟨i,j,rfl,rfl,q⟩
 ·cases f;cases c
  exact .inl ⟨i,j,rfl,rfl,q _ H (aK.refl _) (.bl _)⟩
 ·cases f;cases c
  exact .inr ⟨i,j,rfl,rfl,q _ H (aK.refl _) (.bl _)⟩
def Ko(e:PD X a ta)(c:PD X b tb):PD X (.Compare a [.Lt] [b] pos) (mz (EO λi j=>decide (i<j)) ta tb):=kU (CK.or JF) ug m_ord e c (dM _)
def Kn(e:PD X a ta)(c:PD X b tb):PD X (.Compare a [.LtE] [b] pos) (mz (EO λi j=>decide (i<=j)) ta tb):=kU (yT.or JE) ug m_ord e c (dM _)
end
def CJ{X:Cx}:fc X (compareOp .Is) (λx y H Q=>∃b,x=.ah/\y=.bl b/\Q (.bl false) H):=by
 intro a s σ H x y v u Q I c e h
 obtain⟨b,rfl,rfl,q⟩:=h
 cases c
 cases e
 show wpAny _ _ (isSame .none (Qh b) >>= λz=>pure (Qh z)) _ _ _
 exact wpAny_bind (wpAny_pure (wpAny_pure (ak I q rfl)))
def IF:F2:=λd e Q=>∃b,e=.bl b/\((d=.ah/\Q (.bl false))\/∃a,d=.bl a/\Q (.bl (a == b)))
def LQ:cz IF:=fun d e P i g ⟨b,f,h⟩=>⟨b,f,h.imp (fun⟨a,q⟩=>⟨a,g _ q⟩) fun⟨a,c,q⟩=>⟨a,c,g _ q⟩⟩
def BN{K:j'}:fM K (λx y H Q=>(∃b,x=.ah/\y=.bl b/\Q (.bl false) H)\/∃a b,x=.bl a/\y=.bl b/\Q (.bl (a == b)) H) IF:=by
 intro H x y d e Q c f h
 obtain⟨b,rfl,h⟩:=h
 cases f
 rcases h with⟨rfl,q⟩|⟨a,rfl,q⟩
 ·cases c;exact .inl ⟨b,rfl,rfl,q _ H (aK.refl _) (.bl _)⟩
 ·cases c;exact .inr ⟨a,b,rfl,rfl,q _ H (aK.refl _) (.bl _)⟩
def Kl{X:Cx}{a b:Expr}{e c:ED}{pos:Pos}(g:PD X a e)(f:PD X b c):PD X (.Compare a [.Is] [b] pos) (mz IF e c):=kU (CJ.or vQ) BN LQ g f (dM _)
def p_:List (Str × ED)->SD->(List (Key × D)->Prop)->Prop
 |[],_,Q=>Q []
 | (k,a)::r,δ,Q=>a δ λd=>bo d=true/\p_ r δ λl=>Q ((.inr k,d)::l)
def sk(a:List (Key × D)):List (Key × D):=a.foldl (λb c=>eM b c.1 c.2) []
structure Ma (X:Cx) (pos:Pos) (keys:List (Option Expr)) (values:List Expr) (ts:List (Str × ED)):Prop where
 ex:∃trs,Ka X pos keys values trs/\∀ σ H Q δ,cE X.K H σ δ->p_ ts δ (λkvs=>∀ws H',aK H H'->(∀H2,de X.K H2 ws kvs)->Q (ws.map λkv=>(kV kv.1,kv.2)) H')->t_ trs σ H Q
 mono:∀ δ (P P':List (Key × D)->Prop),(∀l,P l->P' l)->p_ ts δ P->p_ ts δ P'
section
variable {X:Cx}{pos p kp:Pos}{k:Str}{j:Nat}{e:Expr}{te:ED}{keys:List (Option Expr)}{values:List Expr}{ts:List (Str × ED)}
def JY:Ma X pos [] [] []:=⟨⟨[],yZ,λσ H Q δ r q=>q [] H (aK.refl _) λ_=>.nil⟩,λδ P a g h=>g _ h⟩
def tJ(he:PD X e te)(b:Ma X pos keys values ts):Ma X pos (some (.Constant (.str k) j kp)::keys) (e::values) ((k,te)::ts):=by
 obtain⟨o,h1,m⟩:=b.ex
 refine⟨⟨_,vX tH he.pe h1,λσ H Q δ r q=>?_⟩,λδ P w g h=>he.mono _ _ _ (fun d ⟨a,q⟩=>⟨a,b.mono _ _ _ (λl q=>g _ q) q⟩) h⟩
 refine⟨δ,r,he.mono _ _ _ (?_) q⟩;rintro d ⟨a,q⟩ v u c dv
 refine m σ u _ δ (r.same c) (b.mono _ _ _ (λl q s n i f=>?_) q)
 exact q ((.inr k,v)::s) n (c.trans i) λt=>.cons (dv.yH a) (f t)
def MN(ts:List (Str × ED)):ED:=λδ Q=>p_ ts δ λa=>a.length<=15/\Q (.dK (sk a))
def de.merged{K:j'}{H:Hp}:∀{b:List (Key × V)} {a:List (Key × D)} {vs:List (Key × V)} {ds:List (Key × D)},de K H b a->de K H vs ds->de K H (lQ vs b) (a.foldl (λc f=>eM c f.1 f.2) ds)
 |_,_,_,_,.nil,h=>h
 | (k,x)::b,(_,d)::a,vs,ds,.cons g t,h=>by
  show de K H (lQ (L2.putK vs k x) b) (a.foldl _ (eM ds k d))
  exact de.merged t (de.put g h)
def Hq(h:Ma X pos keys values ts)(f:keys.all (·.isSome)=true)(y:keys.length=values.length)(B:keys≠[])(s:keys.length<=15):PD X (.Dict keys values pos) (MN ts):=by
 obtain⟨A,h1,x⟩:=h.ex
 refine⟨(yW h1 f y B s).imp fun σ H Q ⟨δ,r,q⟩ p w=>x σ _ _ δ (r.same (aO w)) (h.mono _ _ _ (?_) q),λδ P F g q=>h.mono _ _ _ (fun l ⟨a,b⟩=>⟨a,g _ b⟩) q⟩;rintro E ⟨c,q⟩ C v u t
 have m:v p=some (.dK []):=u _ _ aI
 refine⟨m,C,rfl,by rw[(t v).length];exact c,q _ _ (λb o n=>?_) (.dK (.of aI) ((t _).merged .nil))⟩
 have i:b≠p:=λz=>by rw[z,w] at n;cases n
 rw[aL i]
 exact u _ _ (by rw[aL i];exact n)
end
end DC
namespace L2
section
seal wpAny
variable {prog:O0}{w:World}{A:Around}{E:Value->Shared->Prop}{s:Shared}
def oQ{f:Nat->Option Fin × Unit->Sem (ForInStep (Option Fin × Unit))}{xs:Array Value}{z:Str}{tu:Tok}{R:Option Fin × Unit->Shared->Prop}{j:Nat}(g:∀(i:Nat) (c:Option Fin × Unit) (y:Value),xs[i]?=some y->f i c=(do
   let b <- eqBool y (.str z tu)
   if b=true then do
    let r <- retInt (i:Int)
    pure (Xf (some r,()))
   else pure (P0 (none,()))))(l:∃t,xs[j]?=some (.str z t))(o:∀m,m<j->∃y t,xs[m]?=some (.str y t)/\y≠z)
  (q:∀t,R (some (Fin.done (Flow.ret (.int (j:Int) t))),()) { s with toks:=s.toks+1 }):∀(k n:Nat),k<=j->j<k+n ->
  wpAny (model prog w) A (forIn (TM k n 1) ((none,()):Option Fin × Unit) f) R E s
 |k,0,h1,h=>absurd h (by omega)
 |k,n+1,h1,h=>by
  rw[TH,Rc]
  by_cases e:k=j
  ·subst e
   obtain⟨t,a⟩:=l
   rw[g _ _ _ a]
   refine wpAny_bind (wpAny_bind (wpAny_eqBool_str ?_))
   rw[decide_eq_true rfl,if_pos rfl]
   exact wpAny_bind (wpAny_bind (wpAny_mkInt (wpAny_pure (wpAny_pure (wpAny_pure (q _))))))
  ·obtain⟨y,t,a,ne⟩:=o k (by omega)
   rw[g _ _ _ a]
   refine wpAny_bind (wpAny_bind (wpAny_eqBool_str ?_))
   rw[decide_eq_false ne,if_neg A']
   exact wpAny_pure (oQ g l o q (k+1) n (by omega) (by omega))
def uT{a:Addr}{xs:Array Value}{z:Str}{tu:Tok}{Q:Value->Shared->Prop}{j:Nat}(h:IsTup s.heap a xs)(b:∃t,xs[j]?=some (.str z t))(l:∀m,m<j->∃y t,xs[m]?=some (.str y t)/\y≠z)
  (q:∀t,Q (.int (j:Int) t) { s with toks:=s.toks+1 }):wpAny (model prog w) A (call (.builtin "tuple.index") [.ref a,.str z tu]) Q E s:=by
 obtain⟨o,p,g,n,r⟩:=id h
 refine wpAny_call_entry Th ⟨o,p,g⟩ PySem.F.entry_tuple_index ?_ (PySem.F.args_tuple_index_2 _ _)
 have f:j<xs.size:=by obtain⟨t,e⟩:=b;exact(Qz.mp e).1
 unfold Builtin.«tuple.index»
 refine wpAny_bind (wpAny_pure ?_)
 refine wpAny_bind (tupleItemsOf_ h ?_)
 refine wpAny_bind (wpAny_pure (wpAny_bind (wpAny_pure (wpAny_bind ?_))))
 rw[QO]
 refine oQ (xs:=xs) (z:=z) (tu:=tu) (j:=j) (λi c y h=>by simp only[h]) b l (λt=>wpAny_pure ⟨_,rfl,q t⟩) _ _ (P6 _) ?_
 simpa using f
def GB(K:j')(t:TA)(e:TE):TE:=λσ H Q=>t σ H λxs c=>xs.length<=sizeLine/\∀p,c p=none->e σ (upd c p (.tup xs)) λy b=>∃(a:List Str) (z:Str) (j:Nat),xs=a.map V.str/\y=.str z/\b p=some (.tup xs)/\a[j]?=some z/\(∀m y,m<j->a[m]?=some y->y≠z)/\Q (.int (j:Int)) b
def z0{X:Cx}{es:List Expr}{e:Expr}{k:Nat}{c f g:Pos}{t:TA}{L:TE}(h:PA X es t)(he:PE X e L)(m:M1 X (.Tuple es k c) "index" f e g):PE X (.Call (.Attribute (.Tuple es k c) "index" f) [e] [] g) (GB X.K t L):=by
 intro i s σ H Q I W
 refine SI m.base m.Kw m.line PySem.F.plainAttrs_tuple Th PySem.F.type_tuple_index (wpAny_Tuple_spliced (bH (h c i s σ H _ I W) fun us B ⟨xs,U,J,r,z,q⟩=>⟨by rw[<- r.length];exact z,?_⟩))
 have O:U B.heap.objs.size=none:=J.bJ.fresh (O2 _)
 refine⟨⟨_,K' _ rfl,rfl⟩,λa N=>by cases N;exact⟨_,K' _ rfl,rfl⟩,?_⟩
 rw[m.trees]
 refine QZ rfl (Qy (Qr (bH (he i _ σ _ _ (J.laid (a:=B.heap.objs.size) (o:=.tup xs) (t':=B.toks) (λb u e=>y' _ e) (O2 _) (show bI X.prog X.w _ _ _ (.tup xs) from⟨z,us,r,⟨_,K' _ rfl,rfl,_,rfl⟩⟩)) (q _ O)) fun iv s2 ⟨y,H2,G,ry,n,C,j,v,Z,hp,h1,M,S⟩=>RI ?_)))
 subst Z v
 obtain⟨tu,rfl⟩:=(show ∃t,iv=Ql C t from ry)
 obtain⟨p,P,hT,_⟩:=G.tuple (eY.of hp)
 have at_:∀m y,n[m]?=some y->∃t,p[m]?=some (Ql y t):=λm y R=>by
  obtain⟨w',Y,t,rfl⟩:=P.get (show(n.map V.str)[m]?=some (V.str y) by rw[O7,R];rfl)
  exact⟨t,Y⟩
 refine uT hT (j:=j) ?_ (λm T=>?_) λt=>⟨.int (j:Int),H2,G.tok _,⟨t,rfl⟩,S⟩
 ·obtain⟨t,x⟩:=at_ j C h1
  exact⟨t,by simpa using x⟩
 ·have l:m<n.length:=by have:=(PJ.mp h1).1;omega
  obtain⟨t,x⟩:=at_ m n[m] (O9 l)
  exact⟨_,t,by simpa using x,M m n[m] T (O9 l)⟩
end
end L2
namespace DC
section
variable {X:Cx}{e:Expr}{es:List Expr}{t:AD}{te:ED}{k:Nat}{tpos apos cpos:Pos}
def GR(t:AD)(b:ED):ED:=λδ Q=>t δ λds=>ds.length<=sizeLine/\b δ λy=>∃(a:List Str) (z:Str) (j:Nat),ds=a.map D.str/\y=.str z/\a[j]?=some z/\(∀m y,m<j->a[m]?=some y->y≠z)/\Q (.int (j:Int))
def BC(h:nh X es t)(he:PD X e te)(m:M1 X (.Tuple es k tpos) "index" apos e cpos):PD X (.Call (.Attribute (.Tuple es k tpos) "index" apos) [e] [] cpos) (GR t te):=by
 refine⟨(z0 h.pa he.pe m).imp fun σ H Q ⟨δ,r,q⟩=>⟨δ,r,h.mono _ _ _ (fun ds ⟨hz,q⟩ vs B n a=>⟨by rw[a.length];exact hz,λp s=>⟨δ,(r.same n).same (aO s),he.mono _ _ _ (fun y ⟨l,z,j,c,i,f,b,w⟩ u x o v=>?_) q⟩⟩) q⟩,
  λδ P A g q=>h.mono _ _ _ (fun ds ⟨hz,q⟩=>⟨hz,he.mono _ _ _ (fun y ⟨l,z,j,c,i,f,b,q⟩=>⟨l,z,j,c,i,f,b,g _ q⟩) q⟩) q⟩
 subst c i
 cases v
 exact⟨l,z,j,v5 a,rfl,o _ _ aI,f,b,w _ x (n.trans ((aO s).trans o)) (.int _)⟩
end
section
variable {prog:O0}{w:World}{A:Around}{E:Value->Shared->Prop}{s:Shared}{o d:Addr}{xs:XT}{ys:List (List Int × Addr × Value)}
def oY(xs:XT)(ys:List (List Int × Addr × Value)):XT:=ys.foldl (λa y=>fH a y.1 (.ref y.2.1) y.2.2) xs
def oF:∀(ys:List (List Int × Addr × Value)) (xs:XT),(oY xs ys).length<=xs.length+ys.length
 |[],xs=>O2 _
 |y::r,xs=>by
  have h1:=oF r (fH xs y.1 (.ref y.2.1) y.2.2)
  have a:=gB xs y.1 (.ref y.2.1) y.2.2
  show(oY (fH xs y.1 (.ref y.2.1) y.2.2) r).length<=_
  rw[Pb]
  omega
def pk:∀(ys:List (List Int × Addr × Value)) (xs:XT),(xs.map (·.1)++ys.map (·.1)).Nodup->oY xs ys=xs++ys.map λy=>(y.1,F' y.2.1,y.2.2)
 |[],xs,_=>by rw[QC,Pf];rfl
 |y::r,xs,h=>by
  have b:kJ xs y.1=false:=by
   cases q:kJ xs y.1 with
   |false=>rfl
   |true =>
    obtain⟨x,a,e⟩:=RS.mp q
    rw[O1,QP] at h
    exact absurd (of_decide_eq_true e) (h.2.2 _ (O_.mpr ⟨x,a,rfl⟩) _ D')
  have e:fH xs y.1 (.ref y.2.1) y.2.2=xs++[(y.1,.ref y.2.1,y.2.2)]:=by unfold fH;rw[if_neg (by rw[b];exact A')]
  show oY (fH xs y.1 (.ref y.2.1) y.2.2) r=_
  rw[e,pk r _ (by rw[QB,Ph];exact h),Ph]
  rfl
def vx{nm:String}{p:Obj}{es:Array Pj}{ep:Nat}{Q:PUnit->Shared->Prop}(G:A.units<cLine)(c:d≠o)(t:p.data=.dict es ep)(he:es.toList=ys.map (entryOfKey (tk prog w)))(J:∀y∈ys,y.1≠xK) :
    ∀(r:List (List Int × Addr × Value)) (i:Nat) (h:Heap) (xs:XT),ys.drop i=r->xs.length+r.length<=sizeLine->h.get? o=some p->iV prog w h d xs->(∀y∈ys,(tk prog w).is h y.1 y.2.1)->(∀h',iV prog w h' d (oY xs r)->Pl d h h'->Q QX { s with heap:=h' }) ->
    wpAny (model prog w) A (forIn (TM i r.length 1) QX λi (_:PUnit)=>(do
          let l' <- VG o
          match l'[i]? with
            |some e=>do
              holding [e.key,e.val] (dictSetHashed d e.key e.hash e.val)
              let ep' <- V6 o
              if(ep' != ep)=true then do
                  (unsupported (toString nm++toString ":source-changed-during-callback"):Sem PUnit)
                  pure (P0 QX)
                else pure (P0 QX)
            |_=>do
              (unsupported "internal:dict-merge":Sem PUnit)
              pure (P0 QX):Sem (ForInStep PUnit))) Q E { s with heap:=h }
  |[],i,h,xs,_,_,x,m,_,q=>by
    show wpAny _ _ (forIn [] _ _) _ _ _
    rw[Sb]
    exact wpAny_pure (q h m (RY _ _))
  |y::r,i,h,xs,I,M,x,m,C,q=>by
    have F:ys[i]?=some y:=by
      have:(ys.drop i)[0]?=some y:=by rw[I];rfl
      rw[List.getElem?_drop] at this
      exact this
    have j:es[i]?=some (entryOfKey (tk prog w) y):=by rw[<- QH,he,O7,F];rfl
    rw[Pb,TH,Rc]
    rw[Pb] at M
    refine wpAny_bind (wpAny_bind (wpAny_dictEntries (s:={ s with heap:=h }) x t ?_))
    rw[j]
    have H:=PY F
    refine wpAny_bind (wpAny_holding (C9 (s:={ s with heap:=h }) (k:=y.1) (b:=y.2.1) (u:=y.2.2) G m (C y H) (J y H) (by omega) λh' O f=>?_))
    have a:h'.get? o=some p:=(f.2 o (QS c)).trans x
    refine wpAny_bind (wpAny_dictEpoch (s:={ s with heap:=h' }) a t ?_)
    rw[if_neg (by simp)]
    refine wpAny_pure ?_
    obtain⟨_,R,L,N,g,_,n,_⟩:=m.ex
    have P:=gB xs y.1 (.ref y.2.1) y.2.2
    refine vx G c t he J r (i+1) h' _ ?_ (by omega) a O (λz hz=>(tk prog w).keeps (C z hz) g n f) λv l B=>q v l (f.trans B)
    rw[<- List.drop_drop,I]
    rfl
def Ez{nm:String}{Q:Unit->Shared->Prop}(N:A.units<cLine)(f:d≠o)(p:(o == Pm)=false)(m:iV prog w s.heap d xs)(B:∀x∈xs,x.1≠xK)(J:s.heap.DictOfH (tk prog w) o ys)(t:∀y∈ys,y.1≠xK)(hsz:xs.length+ys.length<=sizeLine)(W:(ys.map λx=>(tk prog w).hash x.1).Nodup)
    (h:∀h',iV prog w h' d (oY xs ys)->Pl d s.heap h'->Q () { s with heap:=h' }):wpAny (model prog w) A (Q8 nm d o) Q E s:=by
  cases xs with
  |nil =>
    obtain⟨u,e,S⟩:=m.KS B
    cases u with
    |cons x r=>cases e
    |nil =>
      refine rB f p S J (by simpa using hsz) W λh' H O=>h h' ?_ O
      obtain⟨_,_,_,_,_,_,_,_,g⟩:=id J
      rw[pk _ _ (by simpa using g),Rb]
      exact iV.xG H t
  |cons x0 Z =>
    obtain⟨hx,Y,C,T,F,R,G,n⟩:=id m.ex
    obtain⟨oo,I,M,b,U,a,q,v,g⟩:=id J
    unfold Q8
    rw[if_neg (by simpa using f)]
    unfold Qm
    rw[if_neg (by rw[p];exact A')]
    refine wpAny_bind (wpAny_pure (wpAny_bind (wpAny_dictEntries b a ?_)))
    have j:I.size=ys.length:=by rw[<- PZ,q,G']
    have c:wpAny (model prog w) A (do
      let epoch <- V6 o
      let l <- VG o
      forIn [:l.size] QX λi (_:PUnit)=>(do
          let l' <- VG o
          match l'[i]? with
            |some e=>do
              holding [e.key,e.val] (dictSetHashed d e.key e.hash e.val)
              let ep' <- V6 o
              if(ep' != epoch)=true then do
                  (unsupported (toString nm++toString ":source-changed-during-callback"):Sem PUnit)
                  pure (P0 QX)
                else pure (P0 QX)
            |_=>do
              (unsupported "internal:dict-merge":Sem PUnit)
              pure (P0 QX):Sem (ForInStep PUnit))
      pure ()) Q E s:=by
      refine wpAny_bind (wpAny_dictEpoch b a ?_)
      refine wpAny_bind (wpAny_dictEntries b a ?_)
      refine wpAny_bind ?_
      rw[QO]
      simp only[Ss,UQ,U0,Wy]
      rw[j]
      exact vx (prog:=prog) (w:=w) N f a q t ys 0 s.heap _ rfl hsz b m v λh' X L=>wpAny_pure (h h' X L)
    dsimp only
    split
    · refine wpAny_bind (wpAny_dictEntries F G ?_)
      rw[if_neg ?_]
      · exact c
      · intro z
        have P:C=#[]:=Array.isEmpty_iff.mp z
        rw[P] at n
        cases n
    · exact c
def zD{Q:Value->Shared->Prop}(i:A.units+1<cLine)(c:d≠o)(e:(o == Pm)=false)(m:iV prog w s.heap d xs)(f:∀x∈xs,x.1≠xK)(a:s.heap.DictOfH (tk prog w) o ys)(b:∀y∈ys,y.1≠xK)(hsz:xs.length+ys.length<=sizeLine)(j:(ys.map λx=>(tk prog w).hash x.1).Nodup)
  (h:∀h',iV prog w h' d (oY xs ys)->Pl d s.heap h'->Q .none { s with heap:=h' }):wpAny (model prog w) A (call (.builtin "dict.update") [.ref d,.ref o]) Q E s:=by
 refine wpAny_call_entry Ti m.typeIs PySem.F.entry_dict_update ?_ (PySem.F.args_dict_update_2 _ _)
 unfold Builtin.«dict.update»
 refine wpAny_bind ?_
 unfold Wq
 refine wpAny_bind (wpAny_notOrdered_dict m.typeIs ?_)
 show wpAny _ _ (pure (d,[F' o])) _ _ s
 refine wpAny_pure ?_
 show wpAny _ _ (S7 "dict.update" d (.ref o) [] .none) _ _ s
 unfold S7
 refine wpAny_bind (wpAny_typeOf a.typeIs ?_)
 rw[if_neg (by decide)]
 refine wpAny_bind ?_
 unfold Wt
 refine wpAny_bind ?_
 unfold Wr
 refine wpAny_bind (wpAny_isInstance a.typeIs VO ?_)
 simp only[RV,Po,if_false]
 refine wpAny_bind (wpAny_specialOf a.typeIs Tx.lookup (wpAny_pure ?_))
 simp only[beq_self_eq_true,if_true]
 refine wpAny_bind (wpAny_pure ?_)
 refine Ez i c e m f a b hsz j λh' l g=>?_
 show wpAny _ _ (Wu d [] >>= _) _ _ _
 exact wpAny_bind (wpAny_pure (wpAny_pure ⟨.none,rfl,h h' l g⟩))
end
section
variable {K:j'}{H:Hp}
def zo(b c:List (List Int × D)):List (List Int × D):=c.foldl (λa h=>mJ a h.1 h.2) b
def cO.merged:∀{ys:List (List Int × Addr × Value)} {b a:List (List Int × D)} {xs:XT},cO K H (ys.map λy=>(y.1,F' y.2.1,y.2.2)) b->cO K H xs a->cO K H (oY xs ys) (zo a b)
 |[],_,_,_,.nil,h=>h
 |y::r,_,a,xs,.cons (d:=d) (ds:=ds) c e h1 t,h=>by
  show cO K H (oY (fH xs y.1 (.ref y.2.1) y.2.2) r) (zo (mJ a y.1 d) ds)
  exact cO.merged t (h.stored c e h1)
end
section
variable {X:Cx}{o i e:Expr}{pos pos' apos cpos:Pos}
def MI(K:j')(td m:TE):TE:=λσ H Q=>td σ H λx l=>∃a xs h,x=.ref a/\l a=some (iI a xs)/\cO K l xs h/\m σ l λy c=>∃b j f,y=.ref b/\a≠b/\c a=some (iI a xs)/\cO K c xs h/\nj h/\Rd c b (iI b j)/\cO K c j f/\nj f/\(f.map λg=>hT g.1).Nodup/\h.length+f.length<=sizeLine /\
 ∀ys,j=ys.map (λy=>(y.1,F' y.2.1,y.2.2))->Q .ah (upd c a (iI a (oY xs ys)))
def FT{td B:TE}(P:X.A.units+1<cLine)(ho:PE X o td)(he:PE X e B)(m:M1 X o "update" apos e cpos):PE X (.Call (.Attribute o "update" apos) [e] [] cpos) (MI X.K td B):=by
 intro c s σ H Q I h
 refine SI m.base m.Kw m.line RC Ti PySem.F.type_dict_update (bH (ho c s σ H _ I h) ?_);rintro u s1 ⟨x,Z,z,rx,a,xs,gs,R,hr,hd,T⟩
 subst R
 obtain rfl:u=F' a:=rx
 obtain⟨_,_,C⟩:=cS z (.inl hr) hd
 refine⟨C.typeIs,λb q=>?_,?_⟩
 ·cases q
  obtain⟨_,ob,_,_,h1,L,_⟩:=C.ex
  exact⟨ob,h1,L.2.1⟩
 rw[m.trees]
 refine QZ rfl (Qy (Qr (bH (he c s1 σ Z _ z T) fun iv s2 ⟨y,H2,n,ry,b,zs,hs,ey,ne,G,l,pA,O,f,E,nd,hz,W⟩=>RI ?_)))
 subst ey
 cases(show iv=F' b from ry)
 obtain⟨_,j,S⟩:=cS n (.inl G) l
 obtain⟨_,r,N⟩:=cS n O f
 obtain⟨ys,g,Y⟩:=N.KS (f.rJ E)
 have t:=f.keys
 rw[g,Pe] at t
 have p:(ys.map λx=>(tupleKind (intKind X.prog X.w)).hash x.1).Nodup:=by
  have e:(ys.map λx=>(tupleKind (intKind X.prog X.w)).hash x.1)=(ys.map ((·.1)∘λy:List Int × Addr × Value=>(y.1,F' y.2.1,y.2.2))).map hT:=by rw[Pe];rfl
  rw[e,t,Pe]
  exact nd
 have v:xs.length+ys.length<=sizeLine:=by
  have l1:=l.length
  have l2:=f.length
  rw[g,G'] at l2
  omega
 refine zD P ne r S (l.rJ pA) Y (λy U=>f.rJ E _ (by rw[g];exact O_.mpr ⟨y,U,rfl⟩)) v p λh' J M=>?_
 have he:∃q,h'.get? a=some q:=let ⟨_,q,_,_,hq,_⟩:=J.ex;⟨q,hq⟩
 exact⟨.ah,_,gr n (by rw[G];exact QN) M he (m8 (PB (oF ys xs) v) j J),rfl,W ys g⟩
def Nn(K:j')(td g:TE):TE:=λσ H Q=>td σ H λx h=>g σ h λy c=>∃a b xs f k d,x=.ref a/\y=.ref b/\Rd c a (iI a xs)/\cO K c xs f/\nj f/\eY K c b (k.map V.int)/\bh f k=some d/\∀v,Dv K c v d->Q v c
def JO{td p:TE}(w:X.A.units+1<cLine)(T:PE X o td)(v:PE X i p)(C:As i):PE X (.Subscript o i pos) (Nn X.K td p):=by
 intro f s σ H Q I h
 refine yn TU.lookup C (bH (T f s σ H _ I h) fun u N ⟨x,J,E,M,B⟩=>bH (v f N σ J _ E B) ?_);rintro P s2 ⟨y,Z,j,R,a,b,xs,gs,k,d,z,O,U,m,W,t,r,G⟩
 subst z O
 obtain rfl:u=F' a:=M
 cases(show P=F' b from R)
 obtain⟨_,F,q⟩:=cS j U m
 obtain⟨ys,rfl,dl⟩:=q.KS (m.rJ W)
 refine⟨q.typeIs,?_⟩
 rcases m.look k with⟨g,_⟩|⟨d',b',u',n,g,S,_,l,L⟩
 ·rw[r] at g;cases g
 ·rw[r] at g
  cases g
  obtain⟨c,Y⟩:=ri S
  exact VZ (tupleKind_room_in1 w) (pZ j t) dl Y ⟨n,Z,j.tok _,l,G n L⟩
end
section
variable {X:Cx}{e o i ke:Expr}{te td ty tk:ED}{n:Nat}{x:Str}{p pos pos' apos cpos:Pos}
def MT(td b:ED):ED:=λδ Q=>td δ λd=>∃a,d=.dT a/\nj a/\b δ λy=>∃k z,y=.tup (k.map D.int)/\bh a k=some z/\Q z
def Gf(L:X.A.units+64<cLine)(l:PD X o td)(m:PD X i ty)(F:As i):PD X (.Subscript o i pos) (MT td ty):=by
 refine⟨(JO (by omega) l.pe m.pe F).imp fun σ H Q ⟨δ,r,h⟩=>⟨δ,r,l.mono _ _ _ (fun d ⟨s,j,w,a⟩ v M B dv=>⟨δ,r.same B,m.mono _ _ _ (fun y ⟨k,z,f,c,q⟩ u I t G=>?_) a⟩) h⟩,
  λδ P J g h=>l.mono _ _ _ (fun d ⟨s,j,w,a⟩=>⟨s,j,w,m.mono _ _ _ (fun y ⟨k,z,f,c,q⟩=>⟨k,z,f,c,g _ q⟩) a⟩) h⟩
 subst j f
 obtain⟨b,rfl,C⟩:=G.tupI
 cases dv with
 |dT h1 E=>exact⟨_,b,_,s,k,z,rfl,rfl,cj t h1,E.same t,w,C,c,λv dv=>q v I (B.trans t) dv⟩
def B0(i:Nat)(f:ED):iW:=λE δ μ=>∃a c,δ[i]?=some (some (.adr a))/\μ.lookup a=some (.dT c)/\nj c/\f δ λd=>∃b,d=.dT b/\nj b/\(b.map λg=>hT g.1).Nodup/\c.length+b.length<=sizeLine/\E.nx δ (oZ a (.dT (zo c b)) μ)
def yS(hu:X.A.units+64<cLine)(S:X.N[n]?=some x)(Z:Dp X.env.scope x)(he:PD X e te)(m:M1 X (.Name x p) "update" apos e cpos)(hd:autoParam ((x == ("__debug__":Str))=false) b7)(I:autoParam ((x == ("__classdict__":Str))=false) b7)
  (f:autoParam (QL (.Call (.Attribute (.Name x p) "update" apos) [e] [] cpos) none pos.line X.env=pure false) a9) :
  Ag X (.Expr (.Call (.Attribute (.Name x p) "update" apos) [e] [] cpos) pos) (B0 n te):=by
 refine⟨PS.imp (tL (FT (by omega) (nQ S Z hd I) (gH he.pe) m) f) fun D σ H ⟨δ,μ,L,r,g,q⟩=>?_,
  fun E E' δ μ l ⟨a,gs,G,C,k3,q⟩=>⟨a,gs,G,C,k3,he.mono _ _ _ (fun d ⟨f,t,B,e3,e4,k⟩=>⟨f,t,B,e3,e4,l.nx _ _ k⟩) q⟩⟩
 obtain⟨a,gs,G,C,pg,q⟩:=q
 obtain⟨v,F,dv⟩:=r.get n _ G
 cases dv
 obtain⟨c,vs,O,j⟩:=g.at_ _ (mem_of_lookup C)
 refine⟨_,F,a,vs,gs,rfl,O,j.same av,L,g.dg,δ,r,he.mono _ _ _ (?_) q⟩;rintro d ⟨f,R,P,nd,U,k⟩ w H1 y dw z
 subst R
 have t:af (aW H1 H L) L=H1:=bC z
 have Q:eZ X.K (aW H1 H L) μ L:=g.show z y
 have s:aW H1 H L a=some (iI a vs):=by rw[ag c];exact O
 have J:aK H1 (aW H1 H L):=by
  have:=av (H:=aW H1 H L) (L:=L)
  rw[t] at this
  exact this
 cases dw with
 | @dT b Y _ h1 M =>
  have ne:a≠b:=λe=>by
   rw[<- e] at h1
   rcases h1 with h|⟨o,h⟩<;>· rw[z a c] at h;cases h
  have u:cO X.K H1 vs gs:=j.same y
  refine⟨b,Y,f,rfl,ne,s,u.same J,pg,cj J h1,M.same J,P,nd,U,λys W=>?_⟩
  have T:=Q.mJ c s (ys:=oY vs ys) (ds:=zo gs f) (by rw[t];exact cO.merged (by rw[<- W];exact M) u)
  have B:af (upd (aW H1 H L) a (iI a (oY vs ys))) L=H1:=by rw[gQ c,t]
  exact k σ _ L (by rw[B];exact y) (by rw[B];exact r.same y) T
def fX(b:ED):EF:=λδ Q=>b δ λd=>bo d=true/\∀a,Q (.adr a) [(a,.dT [(xK,d)])]
def OW{j:Nat}{W:Pos}(he:PD X e te):PF X (.Dict [some (.Constant (.str "x") j W)] [e] pos) (fX te):=by
 refine⟨ ?_,λδ P P' g h=>he.mono _ _ _ (fun d ⟨f,q⟩=>⟨f,λa=>g _ _ (q a)⟩) h⟩;rintro G s σ H Q I ⟨δ,r,h⟩
 have R:=yW (X:=X) (pos:=pos) (vX (tH (x:="x") (j:=j) (pos:=W)) he.pe yZ) rfl rfl (by simp) (by simp) G s σ H (λv H'=>∃p c x d,v=.ref p/\H p=none/\H'=upd c p (.dK [(.inr "x",x)])/\aK (upd H p (.dK [])) c/\c p=some (.dK [])/\Dv X.K c x d/\bo d=true/\∀a,kF X.K H Q (.adr a) [(a,.dT [(xK,d)])]) I (λp J=>⟨δ,r.same (aO J),he.mono _ _ _ (fun d ⟨f,q⟩ v c F dv=>⟨F _ _ aI,[((RL "x":Key),v)],rfl,by simp,p,c,v,d,rfl,J,rfl,F,F _ _ aI,dv,f,q⟩) h⟩)
 refine bH R ?_;rintro u S ⟨v,H1,T,rx,p,c,x,d,e1,J,e2,F,e3,dx,fl,q⟩
 subst e1 e2
 obtain rfl:u=F' p:=rx
 obtain⟨_,hd,vs,L,dd⟩:=BI T.bJ aI
 obtain⟨o,es,ep,Y,hx,C,hko,E,Z⟩:=dd
 generalize M:es.toList=l at E
 cases L with
 | @cons _ kv _ vs' hr L =>
  cases L
  cases E with
  | @cons N _ l' _ g1 g2 g3 =>
   cases g3
   obtain⟨k',B⟩:=kv
   obtain⟨ek,ru⟩:=hr
   cases ek
   rcases bX (k:=(RL "x":Key)) (v:=N.key) g1 with⟨i,t,O,_⟩|⟨y,t,O,et⟩
   ·cases O
   ·cases O
    have m:iV X.prog X.w S.heap p [(xK,.str "x" t,B)]:=⟨⟨N.hash,o,es,ep,Y,hx,C,by
      rw[M,O1,QC]
      unfold dh
      rw[if_pos rfl]
      obtain⟨hk,hh,hv⟩:=N
      cases et
      cases g2
      rfl⟩,λz hz=>by rw[O6.mp hz];exact .inl ⟨rfl,t,rfl⟩,by simp⟩
    have I2:=gr (t':=S.toks) (ob:=iI p [(xK,.str "x" t,B)]) T (by rw[aI];exact QN) (RY p S.heap) ⟨o,Y⟩ (m8 (by rw[P5,Qk];decide) hd m)
    refine⟨.ref p,_,I2,rfl,?_⟩
    rw[oz]
    have eU:upd c p (iI p [(xK,.str "x" t,B)])=upd (af c [p]) p (iI p [(xK,.str "x" t,B)]):=by
     funext b
     by_cases A:b=p
     ·rw[A,aI,aI]
     ·rw[aL A,aL A,bM (λz=>A (O6.mp z))]
    have sH:aK H (af c [p]):=λb ob A=>by
     have U:b≠p:=λz=>by rw[z,J] at A;cases A
     rw[bM (λz=>U (O6.mp z))]
     exact F _ _ (by rw[aL U];exact A)
    obtain⟨g,eg⟩:=eZ.LX (K:=X.K) (H:=af c [p]) (a:=p) (ys:=[(xK,.str "x" t,B)]) (ds:=[(xK,d)]) (cg D') (.cons (.inl ⟨rfl,t,rfl⟩) ru (dx.yH fl) .nil)
    rw[eU]
    exact q p (.ref p) _ [p] (by rw[eg];exact sH) g (.adr p)
def LC(i:Nat)(c:ED):iW:=λE δ μ=>c δ λd=>∃a b,δ[i]?=some (some (.adr a))/\μ.lookup a=some (.dT b)/\nj b/\b.length<sizeLine/\E.nx δ (oZ a (.dT (mJ b xK d)) μ)
def Lv(K:j')(td g:TE):TS:=λD σ H=>g σ H λv f=>td σ f λx b=>∃a xs c,x=.ref a/\b a=some (iI a xs)/\cO K b xs c/\nj c/\xs.length<sizeLine/\∀u t,RelV v u->D.nx σ (upd b a (iI a (fH xs xK (.str "x" t) u)))
def Fd{td E:TE}{b:Expr}{j:Nat}{B:Pos}(G:X.A.units+1<cLine)(ho:PE X o td)(Z:PE X b E)(P:QL b (some (.Subscript o (.Constant (.str "x") j B) pos')) pos.line X.env=pure false) :
  PS X (.Assign [.Subscript o (.Constant (.str "x") j B) pos'] b pos) (Lv X.K td E):=by
 intro c s σ H D I h
 refine Sd (bH (Z c s σ H _ I h) fun r s1 ⟨v,T,Q,L,M⟩=>bH (ho c s1 σ T _ Q M) fun u Y ⟨x,F,N,rx,a,xs,gs,J,m,C,hp,O,S⟩=>bH (tH (x:="x") c Y σ F (λy z=>y=.str "x"/\z=F) N ⟨rfl,rfl⟩) ?_) P;rintro iv s3 ⟨y,z,w,ry,ey,R⟩
 subst J ey R
 obtain rfl:u=F' a:=rx
 obtain⟨t,rfl⟩:=(show ∃t,iv=Ql "x" t from ry)
 obtain⟨_,g,W⟩:=cS w (.inl m) C
 refine Nc G W (C.rJ hp) (Q7 O) λh' t' f l=>?_
 have he:∃q,h'.get? a=some q:=let ⟨_,q,_,_,U,_⟩:=f.ex;⟨q,U⟩
 exact⟨σ,_,gr w (by rw[m];exact QN) l he (m8 (by have:=gB xs xK (.str "x" t) r;omega) g f),S r t L⟩
def E7{j:Nat}{c:Pos}(Z:X.A.units+64<cLine)(S:X.N[n]?=some x)(U:Dp X.env.scope x)(he:PD X e te)(Y:autoParam ((x == ("__debug__":Str))=false) b7)(F:autoParam ((x == ("__classdict__":Str))=false) b7)
  (T:autoParam (QL e (some (.Subscript (.Name x p) (.Constant (.str "x") j c) pos')) pos.line X.env=pure false) a9):Ag X (.Assign [.Subscript (.Name x p) (.Constant (.str "x") j c) pos'] e pos) (LC n te):=by
 refine⟨PS.imp (Fd (by omega) (nQ S U Y F) (gH he.pe) T) fun D σ H ⟨δ,μ,L,r,g,q⟩=>⟨L,g.dg,δ,r,he.mono _ _ _ (fun d ⟨a,gs,B,s,c,G,q⟩ v H1 I dv z=>?_) q⟩,
  λE E' δ μ l q=>he.mono _ _ _ (fun d ⟨a,M,B,s,c,G,q⟩=>⟨a,M,B,s,c,G,l.nx _ _ q⟩) q⟩
 have m:af (aW H1 H L) L=H1:=bC z
 have O:eZ X.K (aW H1 H L) μ L:=g.show z I
 obtain⟨w,y,C⟩:=r.get n _ B
 cases C
 obtain⟨f,J,P,h⟩:=O.at_ _ (mem_of_lookup s)
 have b:cO X.K H1 J gs:=by rw[m] at h;exact h
 have W:aK H1 (aW H1 H L):=by
  have:=av (H:=aW H1 H L) (L:=L)
  rw[m] at this
  exact this
 refine⟨_,y,a,J,gs,rfl,P,b.same W,c,by rw[b.length];exact G,λu t R=>?_⟩
 have Q:af (upd (aW H1 H L) a (iI a (fH J xK (.str "x" t) u))) L=H1:=by rw[gQ f,m]
 exact q σ _ L (by rw[Q];exact I) (by rw[Q];exact r.same I) (O.mJ f P (by rw[m];exact b.stored (.inl ⟨rfl,t,rfl⟩) R dv))
end
end DC
namespace L2
open PySem.AutoSeq1 (wpAny_loadPart')
open PySem.MeetsSeq PySem.MeetsSeq2 PySem.MeetsSeq3
section
variable {prog:O0}{w:World}{A:Around}{E:Value->Shared->Prop}{s:Shared}{a b:Addr}
def Alike(prog:O0)(w:World)(A:Around)(s:Shared)(a b:Addr):Prop:=∃h ob es ep c g,s.heap.get? a=some h/\h.data=.dict es ep/\s.heap.get? b=some ob/\ob.data=.dict c g/\es.size=c.size /\
 ∀(i:Nat) (e:Pj),es[i]?=some e->∀(m:Value->Shared->Prop) (l:Option Nat->Shared->Prop),(∀(j:Nat) (f:Pj),c[j]?=some f->Ds prog w A s e.val f.val true->l (some j) s)->wpAny (model prog w) A (dictFind b e.key e.hash) l m s
def uQ{nm:String}{Q:Bool->Shared->Prop}(I:(a == Pm)=false)(H:(b == Pm)=false)(F:Alike prog w A s a b)(h:Q true s):wpAny (model prog w) A (TF nm a b) Q E s:=by
 obtain⟨J,ob,es,ep,y,C,l,g,o,n,hsz,r⟩:=F
 unfold TF Qm
 rw[if_neg (show¬(a == Pm)=true by rw[I];exact A'),if_neg (show¬(b == Pm)=true by rw[H];exact A')]
 refine wpAny_bind (wpAny_pure (wpAny_bind (wpAny_pure ?_)))
 refine wpAny_bind (wpAny_dictEntries l g ?_)
 dsimp only
 refine wpAny_bind (wpAny_dictEntries o n ?_)
 rw[if_neg (by rw[hsz];simp)]
 refine wpAny_bind (wpAny_dictEpoch l g ?_)
 refine wpAny_bind ?_
 rw[QO]
 simp only[Ss,UQ,U0,Wy]
 refine wpAny_forIn_list _ (λc q u=>u=s/\q=(none,())/\∃i,c=TM i (es.size - i)/\i<=es.size) _ ?_ ?_ _ _ ⟨rfl,rfl,0,by simp,P6 _⟩
 ·rintro x c q u ⟨rfl,rfl,i,t,B⟩
  have p:i<es.size:=by
   rcases US i es.size with h|h
   ·exact h
   ·rw[Nat.sub_eq_zero_of_le h] at t;simp at t
  obtain⟨rfl,m⟩:x=i/\c=TM (i+1) (es.size - (i+1)):=by
   have e:es.size - i=(es.size - (i+1))+1:=by omega
   rw[e,TH] at t
   injection t with h1 z
   exact⟨h1,z⟩
  refine wpAny_bind (wpAny_dictEntries l g ?_)
  have v:=QF p
  rw[v]
  show wpAny _ _ (holding [es[x].key,es[x].val] _ >>= _) _ _ _
  refine wpAny_bind (wpAny_holding (wpAny_bind (r x _ v _ _ λj f G he=>?_)))
  refine wpAny_bind (wpAny_dictEntries o n ?_)
  rw[G]
  refine wpAny_holding (he _ _ ?_)
  show wpAny _ _ (if(!true)=true then _ else _) _ _ _
  rw[if_neg (by decide)]
  refine wpAny_bind (wpAny_dictEpoch l g ?_)
  rw[if_neg (by simp)]
  exact wpAny_pure ⟨rfl,rfl,x+1,m,p⟩
 ·rintro q u ⟨rfl,rfl,i,t,B⟩
  exact wpAny_pure h
def uP(e:s.TypeIs (.ref a) "dict")(g:s.TypeIs (.ref b) "dict")(m:(a == Pm)=false)(i:(b == Pm)=false)(l:A.units<cLine)(j:Alike prog w A.in1 s a b):Ds prog w A s (.ref a) (.ref b) true:=λE Q f=>by
 by_cases c:a=b
 ·rw[c]
  exact Rx (F' b) prog w E Q f
 ·unfold eqBool
  refine wpAny_holding ?_
  refine WX (λh=>absurd (by have:=eq_of_beq h;injection this) c) (λ_=>?_)
  refine wpAny_bind (wpAny_richCompare_same_room (op:=.Eq) e g UE (wpAny_call_entry UE e PySem.F.entry_dict_eq ?_ (PySem.F.args_dict_eq_2 _ _)) l)
  show wpAny _ _ (Sw "__eq__" ⟨[.ref a,.ref b],[]⟩ >>= _) _ _ s
  refine wpAny_bind ?_
  unfold Sw
  refine wpAny_bind (wpAny_notOrdered_dict e ?_)
  show wpAny _ _ (pure (F' a,F' b)) _ _ s
  refine wpAny_pure ?_
  refine wpAny_bind (wpAny_isInstance (T:="dict") g PySem.F.sub_dict_dict ?_)
  simp only[RV,Po,if_false]
  refine wpAny_bind (wpAny_pure (wpAny_bind (wpAny_pure ?_)))
  refine wpAny_bind (uQ m i j ?_)
  exact wpAny_pure ⟨_,rfl,(λx=>nomatch x),wpAny_truthy_bool f⟩
def CB(l b:Addr)(e c:Array Value)(n x:Nat)(B u:Option Addr)(v t:Array (Option Value))(hsz:e.size=c.size)(k:Nat) :
  ∀i:Nat,e.size - i=k->MeetsIn prog w (Builtin.«list.__eq__.loop» ⟨[.ref l,.ref b,rawInt i,rawInt 3],[]⟩)
   (λA R s=>s.heap.get? l=some { cls:=.type "list",dict:=B,data:=.seq e n,slots:=v }/\s.heap.get? b=some { cls:=.type "list",dict:=u,data:=.seq c x,slots:=t } /\
    (∀j (h1:j<e.size) (G:j<c.size),Ds prog w A.in1 s e[j] c[j] true)/\R (.ok (.ret (.bool false))) s):=by
 induction k with
 |zero =>
  intro i y A R s h
  obtain⟨C,g,d,tk,os⟩:=s;obtain⟨p,q,he,h⟩:=h
  wp_walk using wpAny_loadPart' p,wpAny_loadPart' q
  have m:e[((i:Nat):Int).toNat]?=none:=by simp;omega
  have o:c[((i:Nat):Int).toNat]?=none:=by simp;omega
  rw[m,o]
  wp_walk using wpAny_loadPart' p,wpAny_loadPart' q
  show R (.ok (.ret (.bool (e.size != c.size)))) _
  rw[hsz]
  simpa using h
 |succ k z =>
  intro i y A R s h
  obtain⟨C,g,d,tk,os⟩:=s;obtain⟨p,q,he,h⟩:=h
  wp_walk using wpAny_loadPart' p,wpAny_loadPart' q
  have r:i<e.size:=by omega
  have f:i<c.size:=by omega
  have m:e[((i:Nat):Int).toNat]?=some e[i]:=by simp[r]
  have o:c[((i:Nat):Int).toNat]?=some c[i]:=by simp[f]
  have F:((i:Int)+1)=((i+1:Nat):Int):=by push_cast;rfl
  rw[m,o]
  refine wpAny_bind (he i r f _ _ ?_)
  wp_walk
  rw[F]
  exact⟨plainId_quiet plain_eq_loop _,codeAny_builtin entry_eq_loop (by
    rw[P_ plain_eq_loop _]
    exact z (i+1) (by omega) A R _ ⟨p,q,he,h⟩)⟩
def Bu(l b:Addr)(e c:Array Value)(n o:Nat)(r i:Option Addr)(m f:Array (Option Value))(hsz:e.size=c.size) :
  MeetsIn prog w (Builtin.«list.__ne__» ⟨[.ref l,.ref b],[]⟩)
   (λA R s=>s.heap.get? l=some { cls:=.type "list",dict:=r,data:=.seq e n,slots:=m }/\s.heap.get? b=some { cls:=.type "list",dict:=i,data:=.seq c o,slots:=f } /\
    (∀j (h1:j<e.size) (v:j<c.size),Ds prog w A.in1 s e[j] c[j] true)/\R (.ok (.ret (.bool false))) s):=by
 intro A R s h
 obtain⟨x,g,d,tk,os⟩:=s;obtain⟨p,q,he,h⟩:=h
 have u:=AutoSeq1.sub_list_list
 have t:¬ (e.size != c.size)=true:=by simp[hsz]
 wp_walk using wpAny_loadPart' p,wpAny_loadPart' q
 exact⟨plainId_quiet plain_eq_loop _,codeAny_builtin entry_eq_loop (by
  rw[P_ plain_eq_loop _]
  exact CB l b e c n o r i m f hsz _ 0 rfl A R _ ⟨p,q,he,h⟩)⟩
def CA{l b:Addr}{e c:Array Value}{Q:Value->Shared->Prop}(y:s.heap.IsList l e)(G:s.heap.IsList b c)(hsz:e.size=c.size)(v:A.units<cLine)
  (he:∀j (h1:j<e.size) (H:j<c.size),Ds prog w A.in1 s e[j] c[j] true)(h:Q (.bool false) s):wpAny (model prog w) A (compareOp .NotEq (.ref l) (.ref b)) Q E s:=by
 obtain⟨⟨cls,B,r,z⟩,o,u,n,t⟩:=id y
 obtain⟨⟨q,p,data2,m⟩,i,g,C,f⟩:=id G
 simp only at u t g f
 subst u t g f
 exact wpAny_richCompare_same_room (op:=.NotEq) ⟨_,o,rfl⟩ ⟨_,i,rfl⟩ UD (call_meetsIn UD ⟨_,o,rfl⟩ PySem.F.entry_list_ne (PySem.F.args_list_ne_2 _ _) (Bu l b e c n C B p z m hsz)
  ⟨o,i,he,show Qh false≠Value.notImplemented/\Q (.bool false) s from⟨(λx=>nomatch x),h⟩⟩) v
end
end L2
namespace DC
section
variable {X:Cx}{e:Expr}{te:ED}{p pos:Pos}
def J9(b:ED):ED:=λδ Q=>b δ λd=>∃a,d=.dT a/\nj a/\(a.map λg=>hT g.1).Nodup/\Q (.dT a)
def D9(n:Gl X "dict")(s:X.mg "dict"=none)(he:PD X e te)(h1:autoParam (starEach [e] X.env=(false,eval e X.env)::starEach [] X.env) a9)(m:autoParam ((backTo pos (starEach [] X.env)).any (·.1)=false) a9):PD X (.Call (.Name "dict" p) [e] [] pos) (J9 te):=by
 refine⟨(nO uS n s boot_dict (d8 he.pe lS h1) (he:=h1) (hpl:=m)).imp fun σ H Q ⟨δ,r,q⟩=>⟨δ,r,he.mono _ _ _ (fun d ⟨b,a,c,f,k⟩ v u j dv=>?_) q⟩,
  λδ P t g q=>he.mono _ _ _ (fun d ⟨b,a,c,f,k⟩=>⟨b,a,c,f,g _ k⟩) q⟩
 subst a
 cases dv with
 |dT o h=>exact⟨_,_,b,rfl,o,h,c,f,λl i=>k _ _ (j.trans (aO i)) (.dT (.inl aI) (h.same (aO i)))⟩
end
section
variable {K:j'}{H H':Hp}{prog:O0}{w:World}{A:Around}{s:Shared}
def ui{d:D}{x c:V}{u a:Value}(f:bo d=true)(h:Dv K H x d)(h':Dv K H' c d)(r:RelV x u)(r':RelV c a):Ds prog w A s u a true:=by
 cases d with
 |ah=>cases h;cases h';cases r;cases r';exact λE Q q=>Rx _ prog w E Q q
 |bl b=>cases h;cases h';cases r;cases r';exact λE Q q=>Rx _ prog w E Q q
 |int i =>
  cases h;cases h'
  obtain⟨t,rfl⟩:=r
  obtain⟨t',rfl⟩:=r'
  exact λE Q q=>T7 i t i t' prog w E Q (by rw[beq_self_eq_true];exact q)
 |str z =>
  cases h;cases h'
  obtain⟨t,rfl⟩:=r
  obtain⟨t',rfl⟩:=r'
  exact λE Q q=>T4 z t z t' prog w E Q (by rw[beq_self_eq_true];exact q)
 |_=>cases f
def de.at_:∀{b:List (Key × V)} {a:List (Key × D)} {i:Nat} {k:Key} {v:V},de K H b a->b[i]?=some (k,v)->∃d,a[i]?=some (k,d)/\Dv K H v d
 |_,_,0,_,_,.cons h t,e=>by cases e;exact⟨_,rfl,h⟩
 |_,_,i+1,_,_,.cons h t,e=>de.at_ (i:=i) t e
def cO.at_:∀{xs:XT} {a:List (List Int × D)} {i:Nat} {k:List Int} {b u:Value},cO K H xs a->xs[i]?=some (k,b,u)->∃x d,a[i]?=some (k,d)/\RelV x u/\Dv K H x d
 |_,_,0,_,_,_,.cons c r h t,e=>by cases e;exact⟨_,_,rfl,r,h⟩
 |_,_,i+1,_,_,_,.cons c r h t,e=>cO.at_ (i:=i) t e
def yN{a:List (Key × V)}{vs:List (Key × Value)}(r:KV a vs){i:Nat}{k:Key}{u:Value}(h:vs[i]?=some (k,u)):∃v,a[i]?=some (k,v)/\RelV v u:=by
 unfold KV at r
 induction r generalizing i with
 |nil=>cases h
 | @cons p q g f h1 t b =>
  cases i with
  |zero=>cases h;obtain⟨e,c⟩:=h1;exact⟨p.2,congrArg some (Tt e rfl),c⟩
  |succ i=>exact b h
def yO{a:List (Key × V)}{vs:List (Key × Value)}(r:KV a vs):vs.map (·.1)=a.map (·.1):=by
 unfold KV at r
 induction r with
 |nil=>rfl
 |cons h1 t b=>rw[O1,O1,b,h1.1]
def de.Bp:∀{b:List (Key × V)} {a:List (Key × D)},de K H b a->b.map (·.1)=a.map (·.1)
 |_,_,.nil=>rfl
 |_,_,.cons _ t=>by rw[O1,O1,de.Bp t]
def xH{κ δ:Type}{l:List (κ × δ)}(a:(l.map (·.1)).Nodup){i j:Nat}{k:κ}{d d':δ}(h:l[i]?=some (k,d))(h':l[j]?=some (k,d')):d=d':=by
 have h1:(l.map (·.1))[i]?=some k:=by rw[O7,h];rfl
 have b:(l.map (·.1))[j]?=some k:=by rw[O7,h'];rfl
 have:=(Sz (PJ.mp h1).1 a).mp (h1.trans b.symm)
 subst this
 rw[h] at h'
 cases h'
 rfl
def Pairs.fe{knd:KeyKind prog w Key}:∀{es:List Pj} {vs:List (Key × Value)} {i:Nat} {e:Pj},PySem.Pairs knd es vs->es[i]?=some e->∃k,vs[i]?=some (k,e.val)/\knd.is k e.key=true
 |_,_,0,_,.cons h1 a t,e=>by cases e;exact⟨_,congrArg some (Tt rfl a.symm),h1⟩
 |_,_,i+1,_,.cons h1 a t,e=>Pairs.fe (i:=i) t e
def D0{a b:Addr}{u t:List (Key × Value)}{Z R:List (Key × V)}{f:List (Key × D)}(fl:∀kv∈f,bo kv.2=true)(da:s.heap.DictOf (bB prog w) a u)(db:s.heap.DictOf (bB prog w) b t)(U:KV Z u)(T:KV R t)(ha:de K H Z f)(hb:de K H R f):Alike prog w A s a b:=by
 obtain⟨oa,es,ep,O,_,y,z,m,L⟩:=da
 obtain⟨ob,c,F,p,_,o,G,l,hnb⟩:=db
 have N:u.map (·.1)=f.map (·.1):=(yO U).trans ha.Bp
 have e2:t.map (·.1)=f.map (·.1):=(yO T).trans hb.Bp
 have nd:(f.map (·.1)).Nodup:=by rw[<- N];exact L
 have l1:es.size=f.length:=by have:=congrArg TN N;rw[G',G',<- m.length,PZ] at this;exact this
 have l2:c.size=f.length:=by have:=congrArg TN e2;rw[G',G',<- l.length,PZ] at this;exact this
 refine⟨oa,ob,es,ep,c,F,O,y,p,o,l1.trans l2.symm,λi e he E' Q' q=>?_⟩
 obtain⟨k,hv,Q⟩:=Pairs.fe m (show es.toList[i]?=some e by rw[QH];exact he)
 obtain⟨k',P,W⟩:=z e (SQ he)
 have I:k'=k:=(bB prog w).inj _ _ _ P Q
 rw[I] at W
 rw[W]
 obtain⟨v,hw,rv⟩:=yN U hv
 obtain⟨d,hd,dv⟩:=ha.at_ hw
 refine PySem.wpAny_dictFind_of (knd:=bB prog w) Q p o G ?_
 cases hj:c.findIdx? λe=>(bB prog w).is k e.key with
 |some j =>
  obtain⟨n,B,_⟩:=Array.findIdx?_eq_some_iff_getElem.mp hj
  have r:=QF n
  obtain⟨x,g,h⟩:=Pairs.fe l (show c.toList[j]?=some c[j] by rw[QH];exact r)
  have:x=k:=(bB prog w).inj _ _ _ h B
  subst this
  obtain⟨v2,C,E⟩:=yN T g
  obtain⟨d2,J,M⟩:=hb.at_ C
  obtain rfl:=xH nd hd J
  exact q j _ r (ui (fl _ (PY hd)) dv M rv E)
 |none =>
  exfalso
  have S:i<c.size:=by have:=(Qz.mp he).1;omega
  have r:=QF S
  obtain⟨x,g,h⟩:=Pairs.fe l (show c.toList[i]?=some c[i] by rw[QH];exact r)
  have Y:(u.map (·.1))[i]?=some k:=by rw[O7,hv];rfl
  have X:(t.map (·.1))[i]?=some x:=by rw[O7,g];rfl
  rw[N] at Y
  rw[e2,Y] at X
  cases X
  have:=Array.findIdx?_eq_none_iff.mp hj c[i] (Array.getElem_mem S)
  rw[h] at this
  cases this
def D1{a b:Addr}{xs ys:XT}{h:List (List Int × D)}(W:A.units<cLine)(T:∀g∈h,bo g.2=true)(hp:nj h)(J:iV prog w s.heap a xs)(E:iV prog w s.heap b ys)(r:cO K H xs h)(N:cO K H ys h):Alike prog w A s a b:=by
 obtain⟨Z,oa,es,ep,L,_,t,o⟩:=J.ex
 obtain⟨Y,ob,l,C,n,_,m,f⟩:=E.ex
 have R:es.size=l.size:=by rw[<- PZ,o,<- PZ,f,G',G',r.length,N.length]
 have nd:(h.map (·.1)).Nodup:=by rw[<- r.keys];exact J.nd
 refine⟨oa,ob,es,ep,l,C,L,t,n,m,R,λi e he E' Q' q=>?_⟩
 rw[pL o] at he
 cases q1:xs[i]? with
 |none=>rw[q1] at he;cases he
 |some x =>
  rw[q1] at he
  cases he
  obtain⟨k,Q,u⟩:=x
  have O:k≠xK:=r.rJ hp _ (PY q1)
  obtain⟨v,d,M,X,dv⟩:=r.at_ q1
  rcases J.ky _ (PY q1) with⟨z,_⟩|⟨_,c,U,hc⟩
  ·exact absurd z O
  ·cases(show Q=.ref c from U)
   show wpAny _ _ (dictFind b (.ref c) (if k=xK then Z else hT k)) _ _ _
   rw[if_neg O]
   refine BX W n m f E.ky E.nd hc O (λno=>?_) λj y P ek=>?_
   ·exfalso
    have p:(h.map (·.1))[i]?=some k:=by rw[O7,M];rfl
    rw[<- N.keys,O7] at p
    cases q2:ys[i]? with
    |none=>rw[q2] at p;cases p
    |some y=>rw[q2] at p;exact no i y q2 (Pq p)
   ·obtain⟨S,F,u2⟩:=y
    cases(show S=k from ek)
    obtain⟨v2,d2,I,B,G⟩:=N.at_ P
    obtain rfl:=xH nd M I
    exact q j (dh Y (k,F,u2)) (by rw[pL f,P];rfl) (ui (T _ (PY M)) dv G X B)
end
section
variable {X:Cx}{a b:Expr}{ta tb:ED}{pos:Pos}
def zP:F2:=λd e Q=>∃c f,d=.lst [.dK c,.dT f]/\e=.lst [.dK c,.dT f]/\(∀kv∈c,bo kv.2=true)/\(∀g∈f,bo g.2=true)/\nj f/\Q (.bl false)
def LS:cz zP:=fun d e P n g ⟨c,j,i,h,l,m,f,q⟩=>⟨c,j,i,h,l,m,f,g _ q⟩
def Lo(K:j'):R2:=λx y H Q=>∃c e,Dv K H x (.lst [.dK c,.dT e])/\Dv K H y (.lst [.dK c,.dT e])/\(∀kv∈c,bo kv.2=true)/\(∀g∈e,bo g.2=true)/\nj e/\Q (.bl false) H
def JI(hu:X.A.units+64<cLine):fc X (compareOp .NotEq) (Lo X.K):=by
 intro E s σ H x y v u Q I rx ry ⟨kvs,gs,hx,hy,f1,f2,hp,q⟩
 have f:∀{z:V} {t:Value},Dv X.K H z (.lst [.dK kvs,.dT gs])->RelV z t->∃l a b i xs vs,t=.ref l/\s.heap.IsList l #[.ref a,.ref b]/\(a == Pm)=false/\(b == Pm)=false/\de X.K H i kvs/\KV i vs/\s.heap.DictOf (bB X.prog X.w) a vs/\cO X.K H xs gs/\iV X.prog X.w s.heap b xs:=by
  intro z t h r
  cases h with
  |lst h1 c =>
   cases c with
   |cons L c =>
    cases c with
    |cons U c =>
     cases c
     cases L with
     |dK k1 P =>
      cases U with
      |dT t1 m =>
       obtain rfl:t=.ref _:=r
       obtain⟨O,e,⟨o,n,e1,e2,e3,e4⟩,_⟩:=I.list h1
       cases e with
       |cons r1 e =>
        cases e with
        |cons r2 e =>
         cases e
         cases r1
         cases r2
         obtain⟨_,k3,vs,Y,Z⟩:=nv I.bJ k1
         obtain⟨_,t3,M⟩:=cS I t1 m
         exact⟨_,_,_,_,_,vs,rfl,⟨o,e1,e2,n,e4⟩,k3,t3,P,Y,Z,m,M⟩
 obtain⟨l,a,b,i,xs,vs,rfl,W,S,a2,T,a4,B,J,F⟩:=f hx rx
 obtain⟨l',a',b',N,G,vs',rfl,g,R,b2,b3,b4,C,b6,p⟩:=f hy ry
 refine CA W g rfl (by omega) (λj h1 c=>?_) ⟨.bl false,H,I,rfl,q⟩
 have hj:j<2:=h1
 match j,hj with
 | 0,_=>exact uP B.typeIs C.typeIs S R (show X.A.units+1<cLine by omega) (D0 f1 B C a4 b4 T b3)
 | 1,_=>exact uP F.typeIs p.typeIs a2 b2 (show X.A.units+1<cLine by omega) (D1 (show X.A.units+1+1<cLine by omega) f2 hp F p J b6)
def BP{K:j'}:fM K (Lo K) zP:=fun H x y d e Q g i ⟨c,m,j,h,f,l,n,q⟩=>by
 subst j h
 exact⟨c,m,g,i,f,l,n,q _ H (aK.refl _) (.bl _)⟩
end
end DC
namespace L2
def eW(h:Heap)(d:Addr)(es:Array Pj)(ep:Nat):Prop:=∃o,h.get? d=some o/\o.cls=.type "dict"/\o.data=.dict es ep
def eW.at{h h':Heap}{d:Addr}{es:Array Pj}{ep:Nat}(x:eW h d es ep)(e:∀o,h.get? d=some o->h'.get? d=some o):eW h' d es ep:=let ⟨o,q,r⟩:=x;⟨o,e o q,r⟩
abbrev Dl(h:Heap)(a d:Addr)(i n ep:Nat)(x:Value)(f:Bool)(ok b:Value):Prop:=h.get? a=some { cls:=.type "dict_itemiterator",dict:=none,data:=.fields #[x,.bool f,.ref d,.int i 0,.int n 0,.int ep 0,ok,b],slots:=#[] }
def HY(h:Heap)(b d S:Addr)(i n ep:Nat):Prop:=∃x f ok e,Dl h b d i n ep x f ok e/\((x=.none/\f=false)\/∃(a:Addr) (c:Obj),x=rawInt a/\h.get? a=some c/\a≠b/\a≠S)
def HY.keep{h h':Heap}{g d S:Addr}{i n ep:Nat}(z:HY h g d S i n ep)(j:∀b o,b≠S->h.get? b=some o->h'.get? b=some o)(p:g≠S):HY h' g d S i n ep:=by
 obtain⟨x,f,ok,t,e,c⟩:=z
 exact⟨x,f,ok,t,j _ _ p e,c.imp id fun⟨a,l,r,q,s,m⟩=>⟨a,l,r,j a l m q,s,m⟩⟩
section
variable {prog:O0}{w:World}{A:Around}{E:Value->Shared->Prop}{s:Shared}{it d S:Addr}{i ep:Nat}{es:Array Pj}{e:Pj}
def wx{Q:Option Value->Shared->Prop}(z:HY s.heap it d S i es.size ep)(hS:S<s.heap.objs.size)(hm:eW s.heap d es ep)(hx:es[i]?=some e)
  (hQ:∀h',HY h' it d S (i+1) es.size ep->h'.get? s.heap.objs.size=some { cls:=.type "tuple",data:=.seq #[e.key,e.val] }->h'.objs.size=s.heap.objs.size+1->(∀b o,b≠it->s.heap.get? b=some o->h'.get? b=some o)->Q (some (.ref s.heap.objs.size)) { s with heap:=h' }) :
  wpAny (model prog w) A (pyNext (.ref it)) Q E s:=by
 obtain⟨j,g,B,tk,os⟩:=s
 obtain⟨od,m1,m2,m3⟩:=hm
 obtain⟨x,f,ok,I,p,c⟩:=z
 have G:VH ⟨j,g,B,tk,os⟩ (.ref it) "dict_itemiterator":=⟨_,p,rfl⟩
 have J:RD "dict_itemiterator"=true:=by decide
 have hlt:i<es.size:=(Qz.mp hx).1
 unfold pyNext
 refine wpAny_bind (wpAny_attempt (wpAny_callSpecial?_slot (name:=QE "__next__") G QG (wpAny_call_entry QG G SX (wpAny_bind (wpAny_pure (wpAny_bind (wpAny_bind (wpAny_bind (wpAny_typeNameOfWhole_itemiter G (wpAny_pure (wpAny_bind (wpAny_fieldsOf p rfl ?_)))))))))  (SR _))))
 simp only[J,if_true]
 show wpAny _ _ (if(F' d == QM)=true then _ else _) _ _ _
 rw[if_neg (λz:(F' d == QM)=true=>A' z)]
 refine wpAny_bind (wpAny_pure (wpAny_bind (wpAny_dictEntries m1 m3 ?_)))
 rw[if_neg (by simp)]
 refine wpAny_bind (wpAny_pure (wpAny_bind (wpAny_dictEpoch m1 m3 ?_)))
 rw[if_neg (by simp)]
 refine wpAny_pure ?_
 simp only[show¬((i:Int)<0) from by omega,if_false,QY,hx]
 refine wpAny_bind (wpAny_bind (wpAny_typeNameOfWhole_itemiter G (wpAny_pure (wpAny_bind (wpAny_isOneOf_itemiter G ?_)))))
 show wpAny _ _ (setField (.ref it) 3 (rawInt ((i:Int)+1)) >>= _) _ _ ⟨j,g,B,tk,os⟩
 refine wpAny_bind (wpAny_setField_rec p (by simp) λh1 F L=>?_)
 replace L:Pl it j h1:=L
 replace F:Dl h1 it d (i+1) es.size ep x f ok I:=by
  have q:((i+1:Nat):Int)=(i:Int)+1:=by omega
  unfold Dl
  rw[q]
  simpa [rawInt] using F
 have Z:VH ⟨h1,g,B,tk,os⟩ (.ref it) "dict_itemiterator":=⟨_,F,rfl⟩
 refine wpAny_bind (wpAny_holding (wpAny_bind (wpAny_isOneOf_itemiter Z (wpAny_bind (wpAny_isOneOf_itemiter Z ?_)))))
 show wpAny _ _ (R3 (.ref it) 6 e.key e.val) _ _ ⟨h1,g,B,tk,os⟩
 unfold R3
 refine wpAny_bind (wpAny_newTuple ?_)
 have n:Dl (h1.push { cls:=.type "tuple",data:=.seq #[e.key,e.val] }) it d (i+1) es.size ep x f ok I:=y' _ F
 generalize M:h1.push { cls:=.type "tuple",data:=.seq #[e.key,e.val] }=l at n
 have P:h1.objs.size=j.objs.size:=L.1
 have v:it<j.objs.size:=N' p
 have t2:l.get? j.objs.size=some { cls:=.type "tuple",data:=.seq #[e.key,e.val] }:=by rw[<- M,<- P];exact K' _ rfl
 have z2:l.objs.size=j.objs.size+1:=by rw[<- M,Py,P]
 have k2:∀b o,b≠it->j.get? b=some o->l.get? b=some o:=λb o R q=>by rw[<- M];exact y' _ (L.extBut b o R q)
 show wpAny _ _ (Ro (.ref it) >>= _) _ _ ⟨l,g,B,tk,os⟩
 rw[P]
 clear M F L Z P h1
 have r:∀(h:Heap) N f' t u,Dl h it d (i+1) es.size ep N f' t u->(∃(a:Addr) (C:Obj),N=rawInt a/\h.get? a=some C/\a≠it/\a≠S)->Pl it l h->Q (some (.ref j.objs.size)) ⟨h,g,B,tk,os⟩:=λh N f' t u m c3 b3 =>
  hQ h ⟨N,f',t,u,m,.inr c3⟩ (b3.extBut _ _ (Pz v) t2) (b3.1.trans z2) λb o R q=>b3.extBut b o R (k2 b o R q)
 refine wpAny_bind ?_
 unfold Ro
 rcases c with⟨rfl,rfl⟩|⟨a,C,rfl,ea,T,H⟩
 ·refine wpAny_bind (wpAny_field n rfl (x:=.none) rfl (wpAny_pure ?_))
  simp only[if_true]
  refine wpAny_bind (wpAny_field n rfl (x:=ok) rfl (wpAny_bind (wpAny_field n rfl (x:=I) rfl (wpAny_bind (wpAny_setField_rec n (by simp) λh m b3=>?_)))))
  replace b3:Pl it l h:=b3
  replace m:Dl h it d (i+1) es.size ep .none false e.key I:=m
  refine wpAny_bind (wpAny_setField_rec m (by simp) λh4 n4 b4=>?_)
  replace b4:Pl it h h4:=b4
  replace n4:Dl h4 it d (i+1) es.size ep .none false e.key e.val:=n4
  refine wpAny_bind (wpAny_setField_rec n4 (by simp) λh5 X Y=>?_)
  replace Y:Pl it h4 h5:=Y
  replace X:Dl h5 it d (i+1) es.size ep (rawInt j.objs.size) false e.key e.val:=X
  refine wpAny_bind (wpAny_setField_rec X (by simp) λO U b6=>?_)
  replace b6:Pl it h5 O:=b6
  replace U:Dl O it d (i+1) es.size ep (rawInt j.objs.size) false e.key e.val:=U
  have b:Pl it l O:=((b3.trans b4).trans Y).trans b6
  exact wpAny_bind (wpAny_letGo (wpAny_pure (wpAny_pure ⟨_,rfl,wpAny_pure (r O _ _ _ _ U ⟨_,_,rfl,b.extBut _ _ (Pz v) t2,Pz v,Pz hS⟩ b)⟩)))
 ·have y:=k2 a C T ea
  refine wpAny_bind (wpAny_field n rfl (x:=rawInt a) rfl ?_)
  show wpAny _ _ (loadIfAlive ((a:Int).toNat) >>= _) _ _ _
  rw[QY]
  refine wpAny_bind (PySem.W.kdx_alive y ?_)
  simp only[Option.isNone_some,Po,if_false]
  refine wpAny_bind (wpAny_field n rfl (x:=.bool f) rfl ?_)
  cases f with
  |true =>
   rw[if_neg (λz:(Qh true != Qh true)=true=>A' z)]
   refine wpAny_pure ?_
   simp only[Po,if_false]
   exact wpAny_pure (wpAny_pure ⟨_,rfl,wpAny_pure (r l _ _ _ _ n ⟨a,C,rfl,y,T,H⟩ (RY _ _))⟩)
  |false =>
   rw[if_pos (show(Qh false != Qh true)=true from rfl)]
   refine wpAny_bind (wpAny_setField_rec n (by simp) λh m b3=>wpAny_pure ?_)
   replace b3:Pl it l h:=b3
   replace m:Dl h it d (i+1) es.size ep (rawInt a) true ok I:=m
   simp only[Po,if_false]
   exact wpAny_pure (wpAny_pure ⟨_,rfl,wpAny_pure (r h _ _ _ _ m ⟨a,C,rfl,b3.extBut a C T y,T,H⟩ b3)⟩)
def zc{Q:Option Value->Shared->Prop}(p:A.handled=none)(z:HY s.heap it d S i es.size ep)(r:eW s.heap d es ep)(o:es.size<=i)(q:∀h',Ud it s.heap h'->Q none { s with heap:=h' }):wpAny (model prog w) A (pyNext (.ref it)) Q E s:=by
 obtain⟨t,n,u,l⟩:=r
 obtain⟨x,f,ok,v,g,c⟩:=z
 have j:s.TypeIs (.ref it) "dict_itemiterator":=⟨_,g,rfl⟩
 have h:RD "dict_itemiterator"=true:=by decide
 unfold pyNext
 refine wpAny_bind (wpAny_attempt (wpAny_callSpecial?_slot (name:=QE "__next__") j QG (wpAny_call_entry QG j SX (wpAny_bind (wpAny_pure (wpAny_bind (wpAny_bind (wpAny_bind (wpAny_typeNameOfWhole_itemiter j (wpAny_pure (wpAny_bind (wpAny_fieldsOf g rfl ?_)))))))))  (SR _))))
 simp only[h,if_true]
 show wpAny _ _ (if(F' d == QM)=true then _ else _) _ _ _
 rw[if_neg (λz:(F' d == QM)=true=>A' z)]
 refine wpAny_bind (wpAny_pure (wpAny_bind (wpAny_dictEntries n l ?_)))
 rw[if_neg (by simp)]
 refine wpAny_bind (wpAny_pure (wpAny_bind (wpAny_dictEpoch n l ?_)))
 rw[if_neg (by simp)]
 refine wpAny_pure ?_
 simp only[show¬((i:Int)<0) from by omega,if_false,QY,Array.getElem?_eq_none o]
 refine wpAny_bind (wpAny_bind (wpAny_typeNameOfWhole_itemiter j (wpAny_pure ?_)))
 show wpAny _ _ (setField (.ref it) 2 .none >>= _) _ _ s
 refine wpAny_bind (wpAny_setField g rfl (by simp) ?_)
 show wpAny _ _ (newExc (.type "StopIteration") [] >>= _) _ _ _
 simp only[newExc,newTuple]
 refine wpAny_bind (wpAny_bind (wpAny_newObj_type (wpAny_bind (m:=Su _ _) (wpAny_of_eq (a:=QM) (by first|rfl|(simp only[Su];rfl)) (wpAny_newObj_type ?_ (by size_fits)))) (by size_fits)))
 simp only[raiseNew]
 refine wpAny_bind (wpAny_handled ?_)
 rw[show A.in1.handled=none from p]
 refine wpAny_bind (wpAny_pure (wpAny_throw ?_))
 refine wpAny_bind (wpAny_isInstance (T:="StopIteration") (b:=true) ⟨_,K' _ rfl,rfl⟩ W0 (wpAny_pure (q _ ?_)))
 exact((Pd ..).extBut.push _).push _
end
structure KL (es:Array Pj) (lo:Addr) (h:Heap) (as:List Addr):Prop where
 up:∀a∈as,lo<a
 at_:∀(j:Nat) (a:Addr),as[j]?=some a->∃e,es[j]?=some e/\h.get? a=some { cls:=.type "tuple",data:=.seq #[e.key,e.val] }
section
variable {prog:O0}{w:World}{A:Around}{E:Value->Shared->Prop}{s:Shared}{d S I r:Addr}{ep:Nat}{es:Array Pj}{R:Result->Shared->Prop}
def pY(X:A.handled=none)(n:S<I)(G:d≠S)(H:d≠I)(hn:es.size<=sizeLine)(z:Value){h1:Heap}
  (Y:∀h' tk f c as,(∀b o,b≠S->b≠I->h1.get? b=some o->h'.get? b=some o)->h'.get? S=some { cls:=.type "list",dict:=none,data:=.seq f c,slots:=#[] }->as.length=es.size->KL es I h' as->f.toList=as.map F'->R (.ok (.ret z)) { s with heap:=h',toks:=tk }) :
  ∀(k i:Nat) (h:Heap) (tk c:Nat) (f:Array Value) (as:List Addr),es.size - i=k->i<=es.size->HY h I d S i es.size ep->eW h d es ep->(∀b o,b≠S->b≠I->h1.get? b=some o->h.get? b=some o) ->
   h.get? S=some { cls:=.type "list",dict:=none,data:=.seq f c,slots:=#[] }->f.toList=as.map F'->as.length=i->KL es I h as->I<h.objs.size ->
   RF (model prog w) A (.builtin "list.extend.loop" ⟨[.ref S,.ref I,z],[]⟩) R { s with heap:=h,toks:=tk }
 | 0,i,h,tk,c,f,as,Z,hi,B,N,g,O,l,m,u,v=>by
  have p:S≠I:=PR n
  refine codeAny_builtin TV ?_
  rw[P_ Qd _]
  show wpAny _ A.in1 (pyNext (.ref I) >>= _) _ _ _
  refine wpAny_bind (zc (s:={ s with heap:=h,toks:=tk }) (A:=A.in1) X B N (by omega) λh' he=>wpAny_pure (Y h' tk f c as (λb o C J q=>he b o J (g b o C J q)) (he S _ p O) (by omega) ⟨u.up,λj a t=>?_⟩ l))
  obtain⟨e,T,W⟩:=u.at_ j a t
  exact⟨e,T,he a _ (Pz (u.up a (PY t))) W⟩
 |k+1,i,h,tk,c,f,as,Z,hi,B,N,g,O,l,m,u,v=>by
  have p:S≠I:=PR n
  have y:i<es.size:=by omega
  have hsz:f.size=i:=by rw[<- PZ,l,G',m]
  have x:S<h.objs.size:=N' O
  refine codeAny_builtin TV ?_
  rw[P_ Qd _]
  show wpAny _ A.in1 (pyNext (.ref I) >>= _) _ _ _
  refine wpAny_bind (wx (s:={ s with heap:=h,toks:=tk }) (S:=S) B x N (QF y) λh' Q U hz M=>?_)
  dsimp only at U hz M ⊢
  have L:=M S _ p O
  have up:∀b o,b≠S->h'.get? b=some o->(h'.update S (Qc (·.push (F' h.objs.size)))).get? b=some o:=λb o F q=>(P9 _ _ (QS F)).trans q
  show wpAny _ A.in1 (updateSeq S (·.push (F' h.objs.size)) >>= _) _ _ _
  refine wpAny_bind (wpAny_updateSeq L rfl (wpAny_pure ⟨plainId_quiet Qd _,pY X n G H hn z Y k (i+1) _ tk _ (f.push (F' h.objs.size)) (as++[h.objs.size]) (by omega) y (Q.keep up (QS p)) (N.at λo q=>up d o G (M d o H q))
   (λb o C J q=>up b o C (M b o J (g b o C J q))) (P4 _ L rfl) (by rw[Rv,l,QB];rfl) (by rw[O4,m];rfl) ⟨λa ha=>?_,λj b t=>?_⟩ ?_⟩) (by rw[hsz];omega) (by show(f.push (F' h.objs.size)).size<=sizeLine+1;rw[VF,hsz];omega))
  ·rcases O3.mp ha with ha|ha
   ·exact u.up a ha
   ·rw[O6.mp ha];exact v
  ·by_cases C:j<as.length
   ·rw[Qf C] at t
    obtain⟨e,T,W⟩:=u.at_ j b t
    have F:=u.up b (PY t)
    exact⟨e,T,up b _ (Pz (UR n F)) (M b _ (Pz F) W)⟩
   ·have P:j<(as++[h.objs.size]).length:=(PJ.mp t).1
    rw[O4,P5] at P
    have ej:j=as.length:=by omega
    subst ej
    have F:h.objs.size=b:=by simpa using t
    subst F
    exact⟨_,by rw[m];exact QF y,up _ _ (Pz x) U⟩
  ·exact UR v (N' (up _ _ (Pz x) U))
abbrev wt(d:Addr)(n ep:Nat):Obj:={ cls:=.type "dict_itemiterator",data:=.fields #[.none,.bool false,.ref d,.int 0 0,.int n 0,.int ep 0,.none,.none] }
def wu{Q:Value->Shared->Prop}(b:s.heap.IsItemsView r d)(i:eW s.heap d es ep)(h:Q (.ref s.heap.objs.size) { s with heap:=s.heap.push (wt d es.size ep)}):wpAny (model prog w) A (pyIter (.ref r)) Q E s:=by
 obtain⟨n,f,j,g⟩:=id b
 obtain⟨l,e,m,c⟩:=i
 have a:RD "dict_itemiterator"=true:=by decide
 refine wpAny_pyIter_slot b.typeIs S3 (wpAny_call_entry S3 b.typeIs PySem.F.entry_dict_items_iter ?_ (PySem.F.args_dict_items_iter_1 _))
 unfold Builtin.«dict_items.__iter__» U_ U9
 refine wpAny_bind (wpAny_pure (wpAny_bind (wpAny_bind (wpAny_field f g (x:=.ref d) rfl (wpAny_pure (wpAny_bind (wpAny_bind (wpAny_dictEntries e c (wpAny_bind (wpAny_dictEpoch e c ?_))))))))))
 simp only[a,if_true]
 refine wpAny_newObj_type (wpAny_pure ⟨_,rfl,"dict_itemiterator",_,⟨_,K' _ rfl,rfl⟩,QG.lookup,?_⟩) (by simp only[sizeOk,Rp,PQ,O4,Pb,TY,Qk];omega)
 simpa [rawInt,Rp] using h
def sP(O:A.handled=none)(H:s.heap.IsItemsView r d)(F:eW s.heap d es ep)(y:S≠r)(n:d≠S)(l:Value)(N:Nat)(M:s.heap.get? S=some { cls:=.type "list",data:=.seq #[] N })
  (P:∀h' tk i c as,(∀b o,b≠S->s.heap.get? b=some o->h'.get? b=some o)->h'.get? S=some { cls:=.type "list",dict:=none,data:=.seq i c,slots:=#[] }->as.length=es.size->KL es s.heap.objs.size h' as->i.toList=as.map F'->R (.ok (.ret l)) { s with heap:=h',toks:=tk })(X:es.size<=sizeLine) :
  wpAny (model prog w) A.in1 (RO (.ref S) (.ref r) l) (λx u=>match x with|.done f=>R (.ok f) u|.again c'=>c'.quiet=true/\RF (model prog w) A c' R u) (λe u=>R (.error e) u) s:=by
 have p:S<s.heap.objs.size:=N' M
 have B:d<s.heap.objs.size:=let ⟨_,q,_⟩:=F;N' q
 have L:∀(h:Heap) (C tk:Nat),(∀b o,b≠S->(s.heap.push (wt d es.size ep)).get? b=some o->h.get? b=some o)->h.get? S=some { cls:=.type "list",data:=.seq #[] C }->RF (model prog w) A (.builtin "list.extend.loop" ⟨[.ref S,.ref s.heap.objs.size,l],[]⟩) R { s with heap:=h,toks:=tk }:=λh C tk v g=>by
  have J:=v s.heap.objs.size _ (Pz p) (K' _ rfl)
  exact pY (s:=s) (h1:=s.heap) O p n (PR B) X l (λh' G i c as U=>P h' G i c as λb o m q=>U b o m (PR (N' q)) q)
   es.size 0 h tk C #[] [] (UQ _) (P6 _) ⟨_,_,_,_,J,.inl ⟨rfl,rfl⟩⟩ (F.at λo q=>v d o n (y' _ q)) (λb o m _ q=>v b o m (y' _ q)) g rfl rfl ⟨(λ_ z=>nomatch z),λj a Q=>by simp at Q⟩ (N' J)
 have g:=y' (wt d es.size ep) M
 unfold RO
 refine wpAny_bind (wpAny_typeOf (T:="dict_items") H.typeIs ?_)
 simp only[show Sy (.ref S) (.ref r)=false by simp[Sy,y],show(RG "dict_items" == RG "list")=false by decide,show(RG "dict_items" == RG "tuple")=false by decide,Vn,Po,if_false]
 refine wpAny_bind (wu H F (wpAny_bind (wpAny_holding (PySem.W.kdx_hint (let ⟨o,q,c,_⟩:=H;⟨o,y' _ q,c⟩) ?_))))
 refine WX (λ_=>?_) (λ_=>wpAny_pure ⟨plainId_quiet Qd _,L _ N _ (λb o _ q=>q) g⟩)
 refine wpAny_bind (wpAny_rule (wpAny_bind ?_))
 show wpAny _ _ (updateSeq S (·.push .none) >>= λ_=>updateSeq S (·.pop)) _ _ _
 refine wpAny_bind (wpAny_updateSeq g rfl ?_)
 have t:=P4 (Qc (·.push QM)) g rfl
 refine wpAny_updateSeq (hz:=by seq_fits) t rfl (wpAny_pure ⟨plainId_quiet Qd _,L _ _ _ (λb o m q=>?_) (P4 (Qc (·.pop)) t rfl)⟩)
 exact(P9 _ _ (QS m)).trans ((P9 _ _ (QS m)).trans q)
def qZ{G:List Value->Shared->Prop}(M:A.handled=none)(L:s.heap.IsItemsView r d)(J:eW s.heap d es ep)(T:es.size<=sizeLine)
  (h:∀(h':Heap) (tk:Nat) (as:List Addr),(∀b o,s.heap.get? b=some o->h'.get? b=some o)->as.length=es.size->KL es s.heap.objs.size h' as->G (as.map F') { s with heap:=h',toks:=tk }):wpAny (model prog w) A (collect (.ref r)) G E s:=by
 have Q:r<s.heap.objs.size:=let ⟨_,q,_⟩:=L;N' q
 have N:d<s.heap.objs.size:=let ⟨_,q,_⟩:=J;N' q
 unfold collect
 refine wpAny_bind (wpAny_runValue (codeAny_builtin entry_proto_collect' ?_))
 rw[P_ PySem.F.plain_proto_collect _]
 show wpAny _ A.in1 (newList [] >>= λl=>again (.builtin "list.__iadd__" ⟨[l,.ref r],[]⟩)) _ _ s
 refine wpAny_bind (wpAny_newObj_type (wpAny_pure ⟨plainId_quiet Tr _,codeAny_builtin entry_list_iadd' ?_⟩))
 rw[P_ Tr _]
 have O:(s.heap.push { cls:=.type "list",data:=.seq ([]:List Value).toArray }).get? s.heap.objs.size=some { cls:=.type "list",data:=.seq #[] }:=K' _ rfl
 show wpAny _ A.in1 (RO (.ref s.heap.objs.size) (.ref r) (.ref s.heap.objs.size)) _ _ _
 have B:=sP (prog:=prog) (w:=w) (A:=A) (s:={ s with heap:=s.heap.push { cls:=.type "list",data:=.seq ([]:List Value).toArray }}) (es:=es) (ep:=ep) (S:=s.heap.objs.size) (r:=r) (d:=d)
  (R:=λq j=>∃(h':Heap) (tk:Nat) (g:Array Value) (c:Nat) (as:List Addr),q=.ok (.ret (.ref s.heap.objs.size))/\j={ s with heap:=h',toks:=tk }/\(∀b o,s.heap.get? b=some o->h'.get? b=some o)/\h'.get? s.heap.objs.size=some { cls:=.type "list",dict:=none,data:=.seq g c,slots:=#[] }/\as.length=es.size/\KL es s.heap.objs.size h' as/\g.toList=as.map F')
  M (let ⟨o,q,z⟩:=L;⟨o,y' _ q,z⟩) (J.at λo q=>y' _ q) (Pz Q) (PR N) (.ref s.heap.objs.size) 0 O
  (λh' tk g c as t m u p H=>⟨h',tk,g,c,as,rfl,rfl,λb o q=>t b o (PR (N' q)) (y' _ q),m,u,⟨λa z=>Pg (by show s.heap.objs.size<=(s.heap.push _).objs.size;rw[Py];exact Sf _) (p.up a z),p.at_⟩,H⟩) T
 have i:∀(q:Result) (j:Shared),(∃(h':Heap) (tk:Nat) (g:Array Value) (c:Nat) (as:List Addr),q=.ok (.ret (.ref s.heap.objs.size))/\j={ s with heap:=h',toks:=tk }/\(∀b o,s.heap.get? b=some o->h'.get? b=some o)/\h'.get? s.heap.objs.size=some { cls:=.type "list",dict:=none,data:=.seq g c,slots:=#[] }/\as.length=es.size/\KL es s.heap.objs.size h' as/\g.toList=as.map F') ->
   ∃h' tk g c,q=.ok (.ret (.ref s.heap.objs.size))/\j={ s with heap:=h',toks:=tk }/\h'.get? s.heap.objs.size=some { cls:=.type "list",dict:=none,data:=.seq g c,slots:=#[] }/\G g.toList { s with heap:=h',toks:=tk }:=fun q j ⟨h',tk,g,c,as,n,P,t,m,u,p,H⟩=>⟨h',tk,g,c,n,P,m,by rw[H];exact h h' tk as t u p⟩
 refine wpAny_mono B (λz j x=>?_) λe j x=>?_
 ·cases z with
  |done f =>
   obtain⟨h',tk,g,c,n,rfl,C,v⟩:=i _ _ x
   cases n
   exact wpAny_bind (wpAny_load C (wpAny_pure v))
  |again U =>
   refine⟨x.1,codeAny_mono x.2 λq W y=>?_⟩
   obtain⟨h',tk,g,c,rfl,rfl,C,v⟩:=i _ _ y
   exact wpAny_bind (wpAny_load C (wpAny_pure v))
 ·obtain⟨_,_,_,_,n,_⟩:=i _ _ x
  cases n
def wy{Q:Value->Shared->Prop}(b:(d == Pm)=false)(a:eW s.heap d es ep)(h:Q (.ref s.heap.objs.size) { s with heap:=s.heap.push { cls:=.type "dict_items",data:=.fields #[.ref d] }}):wpAny (model prog w) A (call (.builtin "dict.items") [.ref d]) Q E s:=by
 have T:s.TypeIs (.ref d) "dict":=let ⟨o,q,c,_⟩:=a;⟨o,q,c⟩
 refine wpAny_call_entry Tp T PySem.F.entry_dict_items ?_ (PySem.F.args_dict_items_1 _)
 unfold Builtin.«dict.items» Ws
 refine wpAny_bind (wpAny_bind (wpAny_notOrdered_dict T ?_))
 show wpAny _ _ (pure d) _ _ s
 refine wpAny_pure ?_
 show wpAny _ _ (Qm d >>= _) _ _ s
 unfold Qm
 rw[if_neg (by rw[b];exact A')]
 exact wpAny_bind (wpAny_pure (wpAny_bind (wpAny_newObj_type (wpAny_pure ⟨_,rfl,h⟩))))
end
def strs_snoc{x:Str}{t:Tok}:∀{vs:List Value} {a:List Str},StrsAre vs a->StrsAre (vs++[.str x t]) (a++[x])
 |_,_,.nil=>.cons x t .nil
 |_,_,.cons y u h=>.cons y u (strs_snoc h)
def qP:∀{vs:List Value} {a:List Str},StrsAre vs a->vs.length=a.length
 |_,_,.nil=>rfl
 |_,_,.cons y u h=>congrArg (·+1) (qP h)
abbrev Up(x y:Str × Value):Prop:=¬ y.1.cps.toList<x.1.cps.toList
section
variable {prog:O0}{w:World}{A:Around}{E:Value->Shared->Prop}{s:Shared}{a kS:Addr}{vs:List Value}{ts:List Str}{keys:Array Value}{e e1:Nat}{P:PySem.Fin->Shared->Prop}
def Em{st:SortSt}{n:Nat}(l:s.heap.get? kS=some (seqObj "list" keys e))(p:s.heap.get? a=some (seqObj "list" #[] e1))(f:kS≠a)(h1:keys.size<=sizeLine)(hz:(arrOf st).size<=sizeLine)(m:W8 st=none)
  (q:∀h' c,(∀b o,b≠a->b≠kS->s.heap.get? b=some o->h'.get? b=some o)->h'.get? a=some (seqObj "list" ((arrOf st).map (·.2)) c)->P (.done (.ret .none)) { s with heap:=h' }):wpAny (model prog w) A (ksk_tail a false e1 (.ref kS) st) P E s:=by
 have h:=Pd s.heap kS (Qc λ_=>(#[]:Array Value))
 have g:(s.heap.update kS (Qc λ_=>(#[]:Array Value))).get? a=some (seqObj "list" #[] e1):=(h.2 a f.symm).trans p
 have b2:=Pd (s.heap.update kS (Qc λ_=>(#[]:Array Value))) a (Qc λ_=>(arrOf st).map (·.2))
 unfold ksk_tail
 dsimp only
 refine wpAny_bind (listUpdate_at l rfl (wpAny_bind (wpAny_letGo (wpAny_bind (seqEpoch_at g rfl (wpAny_bind (listUpdate_at g rfl ?_ (P6 _) (U' (by simpa using hz)))))))) h1 (P6 _))
 rw[m]
 simp only[bne_self_eq_false,Po,if_false]
 exact wpAny_pure (q _ _ (λb o i j z=>(b2.2 b i).trans ((h.2 b j).trans z)) (get?_update_seq g λ_=>(arrOf st).map (·.2)))
def IZ(R:s.heap.get? kS=some (seqObj "list" keys e))(ha:s.heap.get? a=some (seqObj "list" #[] e1))(U:kS≠a)(C:StrsAre keys.toList ts)(hl:ts.length=vs.length)(S:vs.length<64)
  (q:∀h' J c (W:List (Str × Value)),(∀b o,b≠a->b≠kS->s.heap.get? b=some o->h'.get? b=some o)->h'.get? a=some (seqObj "list" J c)->W.Perm (ts.zip vs)->W.Pairwise Up->J.toList=W.map (·.2)->P (.done (.ret .none)) { s with heap:=h' }):wpAny (model prog w) A (ksk_end a false vs.toArray e1 (.ref kS) keys) P E s:=by
 have hsz:keys.size=vs.length:=by rw[<- PZ,qP C,hl]
 have h:(keys.zip vs.toArray).size=vs.length:=by rw[Array.size_zip,hsz,PQ,WS]
 have l:vs.length<=sizeLine:=by rw[Qk];omega
 have H:∀st:SortSt,(arrOf st).Perm (keys.zip vs.toArray)->W8 st=none->SortedToK strKind (arrOf st) (keys.zip vs.toArray).size->wpAny (model prog w) A (ksk_tail a false e1 (.ref kS) st) P E s:=λst B T Z=>by
  have hz:(arrOf st).size=vs.length:=by rw[B.size_eq,h]
  have G:(arrOf st).toList.Perm (keys.toList.zip vs):=by rw[<- ksk_zip];exact Array.perm_iff_toList_perm.mp B
  refine Em (n:=0) R ha U (by rw[hsz];exact l) (by rw[hz];exact l) T λh' c v O=>q h' _ c ((arrOf st).toList.map λp=>(strOf p.1,p.2)) v O ?_ ?_ ?_
  ·have h1:=G.map λp:Value × Value=>(strOf p.1,p.2)
   have m:(keys.toList.zip vs).map (λp:Value × Value=>(strOf p.1,p.2))=ts.zip vs:=by
    rw[<- C.strs,List.zip_map_left]
    rfl
   rw[m] at h1
   exact h1
  ·rw[R0,List.pairwise_iff_getElem]
   intro i j hi Y F
   have L:i<(arrOf st).size:=by simpa using hi
   have r:j<(arrOf st).size:=by simpa using Y
   have M:∀(k:Nat) (R:k<(arrOf st).size),∃x t,(arrOf st)[k].1=.str x t:=λk R=>by
    have hm:(arrOf st)[k]∈keys.toList.zip vs:=G.mem_iff.mp (by simp)
    exact C.all _ (Ra (show((arrOf st)[k].1,(arrOf st)[k].2)∈keys.toList.zip vs from hm)).1
   have h1:=Z i j (Q7 F) (by rw[h,<- hz];exact r)
   obtain⟨x,t,N⟩:=M i L
   obtain⟨y,u,ey⟩:=M j r
   rw[KK_str L (x:=x) (t:=t) (q:=(arrOf st)[i].2) (Tt N rfl),KK_str r (x:=y) (t:=u) (q:=(arrOf st)[j].2) (Tt ey rfl)] at h1
   change decide (y.cps.toList<x.cps.toList)=false at h1
   show¬(strOf (arrOf st).toList[j].1).cps.toList<(strOf (arrOf st).toList[i].1).cps.toList
   rw[UY,UY,N,ey]
   exact of_decide_eq_false h1
  ·rw[Array.toList_map,Pe]
   rfl
 unfold ksk_end
 dsimp only
 rw[if_neg (show¬(false=true) from A')]
 by_cases m:vs.toArray.size<2
 ·rw[if_pos m,if_pos m]
  refine wpAny_bind (wpAny_pure ?_)
  rw[StateT.run_pure]
  refine wpAny_bind (wpAny_pure (H (V0 general' (keys.zip vs.toArray) #[] 7 none) (UZ _) rfl λi j F Y=>?_))
  rw[h] at Y
  rw[PQ] at m
  have:i=j:=by omega
  subst this
  exact KeyOrd.kle_refl _
 ·rw[if_neg m,if_neg m]
  rw[PQ] at m
  have hkk:keyKind' keys=pure oneType':=by
   have X:2<=keys.toList.length:=by rw[PZ,hsz];omega
   obtain⟨v1,I,f,e3⟩:∃v1 I f,keys.toList=v1::I::f:=by
    match keys.toList,X with
    |v1::I::f,_=>exact⟨v1,I,f,rfl⟩
   have ek:keys=(v1::I::f).toArray:=by rw[<- e3,UX]
   rw[e3] at C
   rw[ek]
   exact keyKind_strs C
  rw[hkk]
  refine wpAny_bind (wpAny_pure (wpAny_bind (wpAny_mono (wpS_sortRunsK (κ:=strKind) (a₀:=keys.zip vs.toArray) (st:=V0 oneType' (keys.zip vs.toArray) #[] 7 none) (Q:=λ_ g=>(arrOf g).Perm (keys.zip vs.toArray)/\W8 g=none/\SortedToK strKind (arrOf g) (keys.zip vs.toArray).size) strKind_oneLt (λp B=>?_) ⟨UZ _,rfl,rfl,rfl⟩ (by rw[h];omega) (by rw[h];exact S) λg a1 a2 a3=>⟨a1,a2,a3⟩) ?_ λ_ _ z=>z)))
  ·rw[ksk_zip] at B
   obtain⟨x,t,N⟩:=C.all _ (Ra (show(p.1,p.2)∈keys.toList.zip vs from B)).1
   exact⟨x.cps.toList,by rw[N]⟩
  ·rintro⟨⟨⟩,g⟩ s' ⟨rfl,B,T,Z⟩
   exact H g B T Z
def El{f:Value}{n:Nat}(R:s.heap.get? a=some (seqObj "list" vs.toArray n))(Y:ts.length=vs.length)(T:vs.length<64)
  (M:∀(i:Nat) v t,vs[i]?=some v->ts[i]?=some t->∀(h:Heap) (tk:Nat),(∀b o,b≠a->s.heap.get? b=some o->h.get? b=some o)->wpAny (model prog w) A (call f [v]) (λr H=>∃h' U u,r=.str t u/\H={ s with heap:=h',toks:=U }/\∀b o,h.get? b=some o->h'.get? b=some o) (λ_ _=>False) { s with heap:=h,toks:=tk })
  (q:∀h' tk m c (L:List (Str × Value)),(∀b o,b≠a->s.heap.get? b=some o->h'.get? b=some o)->h'.get? a=some (seqObj "list" m c)->L.Perm (ts.zip vs)->L.Pairwise Up->m.toList=L.map (·.2)->P (.done (.ret .none)) { s with heap:=h',toks:=tk }):wpAny (model prog w) A (ksk_tree a f false) P E s:=by
 have ha:a<s.heap.objs.size:=N' R
 have l:vs.length<=sizeLine:=by rw[Qk];omega
 have b1:=Pd s.heap a (Qc λ_=>(#[]:Array Value))
 obtain⟨O,G⟩:∃O,(s.heap.update a (Qc λ_=>(#[]:Array Value))).get? a=some (seqObj "list" #[] O):=⟨_,get?_update_seq R λ_=>#[]⟩
 unfold ksk_tree
 refine wpAny_bind (listItems_at R rfl (wpAny_bind (listUpdate_at R rfl (wpAny_bind (seqEpoch_at G rfl (wpAny_bind (wpAny_newTuple (wpAny_bind (wpAny_newList (wpAny_holding ?_) (P6 _))) l)))) (by rw[PQ];exact l) (P6 _))))
 generalize X:((s.heap.update a (Qc λ_=>(#[]:Array Value))).push { cls:=.type "tuple",data:=.seq vs.toArray })=y
 have z2:y.objs.size=s.heap.objs.size+1:=by rw[<- X,Py,Heap.size_update]
 have B:∀b o,b≠a->s.heap.get? b=some o->y.get? b=some o:=λb o p z=>by rw[<- X];exact y' _ ((b1.2 b p).trans z)
 have a2:y.get? a=some (seqObj "list" #[] O):=by rw[<- X];exact y' _ G
 have I:y.objs.size≠a:=by rw[z2];exact Pz (QQ ha)
 have F:∀b o,s.heap.get? b=some o->b≠y.objs.size:=λb o z=>by rw[z2];exact PR (QQ (N' z))
 unfold ksk_rest
 refine wpAny_bind (wpAny_rule ?_)
 rw[List.forIn_toArray]
 refine wpAny_bind (ksk_fold (λi H=>∃h' tk kA c,H={ s with heap:=h',toks:=tk }/\(∀b o,b≠a->s.heap.get? b=some o->h'.get? b=some o)/\h'.get? a=some (seqObj "list" #[] O)/\h'.get? y.objs.size=some (seqObj "list" kA c)/\StrsAre kA.toList (ts.take i)) vs 0 _
  ⟨_,_,#[],0,rfl,λb o p z=>y' _ (B b o p z),y' _ a2,K' _ rfl,.nil⟩ ?_ ?_)
 ·rintro j x H Z ⟨h',tk,kA,c,rfl,N,S,Q,C⟩
  rw[SM] at C
  have hj:j<vs.length:=(PJ.mp Z).1
  obtain⟨t,ht⟩:∃t,ts[j]?=some t:=⟨_,O9 (by omega)⟩
  have hz:kA.size<=vs.length:=by
   have:=qP C
   rw[PZ,R_] at this
   omega
  refine wpAny_bind (wpAny_attempt (wpAny_mono (M j x t Z ht h' tk N) (λr s'' z=>?_) λ_ _ z=>z.elim))
  obtain⟨g,tk2,u,rfl,rfl,W⟩:=z
  dsimp only
  have J:=W _ _ Q
  have b2:=Pd g y.objs.size (Qc (·.push (.str t u)))
  refine wpAny_bind (listUpdate_at J rfl ?_ (PB hz l) (PB (SN (VF ..)) (TL (PB hz l))))
  refine wpAny_pure ⟨rfl,_,_,kA.push (.str t u),_,rfl,λb o p z=>(b2.2 b (F b o z)).trans (W b o (N b o p z)),(b2.2 a (QS I)).trans (W a _ S),get?_update_seq J (·.push (.str t u)),?_⟩
  rw[SM,Rv,List.take_add_one,ht]
  exact strs_snoc C
 ·rintro H ⟨h',tk,kA,c,rfl,N,S,Q,C⟩
  rw[SM,UJ (SN Y)] at C
  refine wpAny_bind (listItems_at Q rfl (IZ (s:={ s with heap:=h',toks:=tk }) Q S I C Y T λh3 m c3 L g1 g2 g3 g4 g5=>q h3 tk m c3 L (λb o p z=>g1 b o p (F b o z) (N b o p z)) g2 g3 g4 g5))
def En(x:Addr):Builtin.«list.sort» ⟨[.ref x],[(QE "key",.type "str")]⟩=ksk_tree x (.type "str") false:=rfl
end
def perm_back{α β:Type}{f:α->β}:∀{m q:List β},m.Perm q->∀l:List α,m=l.map f->∃i,l.Perm i/\q=i.map f:=by
 intro m q h
 induction h with
 |nil=>exact λl e=>⟨[],by rw[List.map_eq_nil_iff.mp e.symm],rfl⟩
 | @cons x s t _ u =>
  intro l e
  cases l with
  |nil=>cases e
  |cons a r =>
   rw[O1] at e
   injection e with g c
   obtain⟨i,p,o⟩:=u r c
   exact⟨a::i,p.cons a,by rw[O1,g,o]⟩
 |swap x y z =>
  intro l e
  cases l with
  |nil=>cases e
  |cons a r =>
   cases r with
   |nil=>cases e
   |cons b r =>
    rw[O1,O1] at e
    injection e with g c
    injection c with c o
    exact⟨b::a::r,Xc _ _ _,by rw[O1,O1,g,c,o]⟩
 |trans _ _ n j =>
  intro l e
  obtain⟨s,v,g⟩:=n l e
  obtain⟨t,w,c⟩:=j s g
  exact⟨t,v.trans w,c⟩
section
variable {X:Cx}{pins:List (Addr × Obj)}{σ:St}{H:Hp}{s:Shared}{h':Heap}
def grown(H:Hp)(n:Nat)(N:Addr->Option HO):Hp:=λb=>if n<=b then N b else H b
def nB{n:Nat}{N:Addr->Option HO}{b:Addr}(h:b<n):grown H n N b=H b:=if_neg (Nat.not_le_of_lt h)
def qv{n:Nat}{N:Addr->Option HO}{b:Addr}(h:n<=b):grown H n N b=N b:=if_pos h
def pQ{P:O0}{w:World}{h:Heap}{N:Addr->Option HO}(ok:kN P w H h):aK H (grown H h.objs.size N):=λb o e=>by rw[nB (ok.lt e)];exact e
def Inv.grow{t':Nat}{N:Addr->Option HO}(I:Inv X pins σ H s)(k:∀b u,s.heap.get? b=some u->h'.get? b=some u)(g:∀b o,s.heap.objs.size<=b->N b=some o->bI X.prog X.w (grown H s.heap.objs.size N) h' b o) :
  Inv X pins σ (grown H s.heap.objs.size N) { s with heap:=h',toks:=t' }:=by
 have a:=pQ (N:=N) I.bJ
 refine I.un ⟨λb u q _ _ _=>k b u q,λb u q _ _ _=>⟨u.slots,k b u q⟩,λb u q n _=>by rw[nB (N' q)];exact n,λb u q _=>⟨u,k b u q⟩,λb xs q=>a b _ q,λb u xs q=>a b _ q,λb h q=>⟨#[],by rw[a b _ q];simp⟩⟩ λb o e=>?_
 by_cases f:s.heap.objs.size<=b
 ·exact g b o f (by rw[qv f] at e;exact e)
 ·rw[nB (Nat.lt_of_not_le f)] at e
  exact(I.bJ b o e).qe (λc v _ q=>k c v q) (λc q=>a c _ q) λc xs q=>a c _ q
end
end L2
namespace DC
def HA(k:List Int):PyData:=if k=xK then .str "x" else .tuple (k.map Si)
def Cp:D->PyData
 |.bl b=>.bool b
 |.int i=>.int i
 |.str x=>.str x
 |_=>.none
def Dr(g:List Int × D):PyData:=.tuple [HA g.1,Cp g.2]
def nX(g:List Int × D):Str:=(Dr g).shown
def Bo(k:List Int):D:=if k=xK then .str "x" else .tup (k.map D.int)
def zb(g:List Int × D):D:=.tup [Bo g.1,g.2]
structure Mb (g:List Int × D):Prop where
 fl:bo g.2=true
 sh:(Dr g).showable=true
 ln:(Dr g).shown.length<=sizeLine
def nz:∀k:List Int,Qu (k.map Si)=false
 |[]=>by rw[QC,Qu]
 |i::k=>by rw[O1,Qu,Rg,nz k];rfl
def pU:∀k:List Int,RB (k.map Si)=0
 |[]=>by rw[QC,RB]
 |i::k=>by rw[O1,RB,R8,pU k];rfl
def Jf(k:List Int):(HA k).hasDict=false/\(HA k).depth<=1:=by
 unfold HA
 split
 ·exact⟨by rw[Rg],by rw[R8];exact P6 _⟩
 ·exact⟨by rw[Rg];exact nz k,by rw[R8,pU];exact O2 _⟩
def Jd(d:D):(Cp d).hasDict=false/\(Cp d).depth=0:=by
 unfold Cp
 split<;>exact⟨by rw[Rg],by rw[R8]⟩
def Je(g:List Int × D):(Dr g).hasDict=false/\(Dr g).depth<=2:=by
 have h1:=Jf g.1
 have a:=Jd g.2
 unfold Dr
 refine⟨?_,?_⟩
 ·rw[Rg,Qu,Qu,Qu,h1.1,a.1];rfl
 ·rw[R8,RB,RB,RB,a.2]
  have:=h1.2
  omega
section
variable {X:Cx}{pins:List (Addr × Obj)}{σ:L2.St}{H:Hp}{s:Shared}{a r:Addr}{xs:XT}{gs:List (List Int × D)}{E:Value->Shared->Prop}{Q:VK}
def qG{h:Heap}:∀{k:List Int} {us:List Value},Vals (k.map V.int) us->ReadsAll h us (k.map Si) []
 |[],_,.nil=>.nil
 |i::k,_,.cons ⟨t,e⟩ t'=>by subst e;exact .cons (.int i t) (qG t')
def AG{v:Value}{k:List Int}(I:Inv X pins σ H s)(h:Dj X.K H v k):Reads s.heap v (HA k) []:=by
 unfold HA
 rcases h with⟨rfl,t,rfl⟩|⟨n,b,rfl,h⟩
 ·rw[if_pos rfl];exact .str _ t
 ·rw[if_neg n]
  obtain⟨e,c,⟨o,g,f,m,i⟩,_⟩:=I.tuple h
  exact .tuple g f i (by simpa using qG c)
def xR{x:V}{u:Value}{d:D}{h:Heap}(dv:Dv X.K H x d)(r:RelV x u)(f:bo d=true):Reads h u (Cp d) []:=by
 cases d with
 |ah=>cases dv;cases r;exact .none
 |bl b=>cases dv;cases r;exact .bool b
 |int i=>cases dv;obtain⟨t,rfl⟩:=r;exact .int i t
 |str z=>cases dv;obtain⟨t,rfl⟩:=r;exact .str z t
 |_=>cases f
def iq{K:j'}:∀k:List Int,bZ K H (k.map V.int) (k.map D.int)
 |[]=>.nil
 |i::k=>.cons (.int i) (iq k)
def IB{v:Value}{k:List Int}(h:Dj X.K H v k):∃y,RelV y v/\Dv X.K H y (Bo k):=by
 unfold Bo
 rcases h with⟨rfl,t,rfl⟩|⟨n,b,rfl,h⟩
 ·rw[if_pos rfl];exact⟨.str "x",⟨t,rfl⟩,.str _⟩
 ·rw[if_neg n]
  exact⟨.ref b,rfl,.tup h (iq k)⟩
structure Pr (X:Cx) (H:Hp) (h:Heap) (g:List Int × D) (b:Addr) (y z:V) (u v:Value):Prop where
 ky:RelV y u
 vl:RelV z v
 dk:Dv X.K H y (Bo g.1)
 dz:Dv X.K H z g.2
 ob:h.get? b=some { cls:=.type "tuple",data:=.seq #[u,v] }
 rd:Reads h (.ref b) (Dr g) []
abbrev PT:=(List Int × D) × Addr × V × V × Value × Value
abbrev OE(X:Cx)(H:Hp)(h:Heap)(q:PT):Prop:=Pr X H h q.1 q.2.1 q.2.2.1 q.2.2.2.1 q.2.2.2.2.1 q.2.2.2.2.2
def Cf{h':Heap}(I:Inv X pins σ H s)(k:∀b u,s.heap.get? b=some u->h'.get? b=some u):∀{xs:XT} {i:List (List Int × D)} {as:List Addr},cO X.K H xs i->(∀g∈i,bo g.2=true)->as.length=xs.length->(∀(j:Nat) (b:Addr),as[j]?=some b->∃x,xs[j]?=some x/\h'.get? b=some { cls:=.type "tuple",data:=.seq #[x.2.1,x.2.2] }) ->
  ∃l:List PT,l.map (·.1)=i/\l.map (·.2.1)=as/\∀q∈l,OE X H h' q
 |_,_,[],.nil,_,_,_=>⟨[],rfl,rfl,λq z=>nomatch z⟩
 |_,_,b::as,.nil,_,e,_=>nomatch e
 |_,_,[],.cons _ _ _ _,_,e,_=>nomatch e
 |_,_,b::as,.cons (k:=p) (b:=u) (u:=v) (x:=z) (d:=d) (xs:=xs) (ds:=ds) n o h1 t,m,e,f=>by
  obtain⟨l,J,G,L⟩:=Cf I k (as:=as) t (λg A=>m g (O5 _ A)) (Nat.succ.inj e) λj c C=>f (j+1) c C
  obtain⟨x,w,ob⟩:=f 0 b rfl
  cases w
  obtain⟨y,F,B⟩:=IB n
  have M:=I.kept (t':=s.toks) k
  have N:=m (p,d) D'
  refine⟨((p,d),b,y,z,u,v)::l,by rw[O1,J],by rw[O1,G],λq h=>?_⟩
  rcases B'.mp h with rfl|h
  ·exact⟨F,o,B,h1,ob,.tuple ob rfl rfl (.cons (as:=[]) (bs:=[]) (AG M n) (.cons (as:=[]) (bs:=[]) (xR h1 o N) .nil))⟩
  ·exact L q h
def p9(l:List PT):Addr->Option HO:=λb=>(l.find? λq=>decide (q.2.1=b)).map λq=>.tup [q.2.2.1,q.2.2.2.1]
def BS{b:Hp}:∀{l:List PT},(∀q∈l,Dv X.K b (.ref q.2.1) (zb q.1))->bZ X.K b (l.map λq=>V.ref q.2.1) ((l.map (·.1)).map zb)
 |[],_=>.nil
 |q::l,h=>.cons (h q D') (BS λz hz=>h z (O5 _ hz))
def rX:∀l:List PT,Vals (l.map λq=>V.ref q.2.1) (l.map λq=>F' q.2.1)
 |[]=>.nil
 |q::l=>.cons rfl (rX l)
def CL{l:List PT}{h:Heap}(j:∀q∈l,OE X H h q){q:PT}(f:q∈l):p9 l q.2.1=some (.tup [q.2.2.1,q.2.2.2.1]):=by
 unfold p9
 cases e:l.find? (λz=>decide (z.2.1=q.2.1)) with
 |none =>
  have:=List.find?_eq_none.mp e q f
  simp at this
 |some z =>
  have hz:=Ru e
  have o:z.2.1=q.2.1:=of_decide_eq_true (TZ (p:=λz:PT=>decide (z.2.1=q.2.1)) e)
  have b:=j z hz
  have c:=j q f
  have ob:=b.ob
  rw[o,c.ob] at ob
  injection ob with ob
  injection ob with _ _ ob _
  injection ob with ob _
  have m:q.2.2.2.2.1=z.2.2.2.2.1:=by have:=congrArg (λa=>a[0]?) ob;simpa using this
  have n:q.2.2.2.2.2=z.2.2.2.2.2:=by have:=congrArg (λa=>a[1]?) ob;simpa using this
  have i:=b.ky
  have g:=b.vl
  rw[<- m] at i
  rw[<- n] at g
  show some (HO.tup [z.2.2.1,z.2.2.2.1])=_
  rw[L2.RelV.inj i c.ky,L2.RelV.inj g c.vl]
def DE(hh:X.A.handled=none)(hgd:X.A.guards=some [])(hu:X.A.units+64<cLine)(I:Inv X pins σ H s)(hr:H r=some (.ext λh=>h.IsItemsView r a))(ha:Rd H a (iI a xs))(Z:cO X.K H xs gs)(sw:∀g∈gs,Mb g)(h64:gs.length<64)
  (q:∀Y:List (List Int × D),Y.Perm gs->Y.Pairwise (λx y=>¬ (nX y).cps.toList<(nX x).cps.toList)->∀l H',aK H H'->Dv X.K H' (.ref l) (.lst (Y.map zb))->Q (.ref l) H') :
  wpAny (model X.prog X.w) X.A (call (.builtin "sorted") [.ref r] [(QE "key",.type "str")]) (EP X pins σ Q) E s:=by
 obtain⟨vw,_⟩:=(show bI X.prog X.w H s.heap r (.ext λh=>h.IsItemsView r a) from I.bJ r _ hr)
 obtain⟨_,hsm,dd⟩:=cS I ha Z
 obtain⟨hx,o,es,ep,ho,hex,L,M⟩:=dd.ex
 have hl:es.size=gs.length:=by rw[<- PZ,M,G',Z.length]
 have n:gs.length<=sizeLine:=by rw[Qk];omega
 refine call_function_entry_kw kind_sorted plain_sorted entry_sorted (ksk_s1 _ _) ?_
 unfold Builtin.«sorted»
 refine wpAny_bind (m:=checkCount "sorted" 1 1 _) (wpAny_pure ?_)
 refine wpAny_bind (qZ (A:=X.A.in1) hh vw ⟨o,ho,hex.1,L⟩ (by rw[hl];exact n) λC tk as keep las T=>?_)
 obtain⟨l,e1,e2,e3⟩:=Cf I keep (as:=as) Z (λg hg=>(sw g hg).fl) (by rw[las,hl,Z.length]) λj b hj=>by
  obtain⟨e,he,ob⟩:=T.at_ j b hj
  rw[pL M] at he
  cases q1:xs[j]? with
  |none=>rw[q1] at he;cases he
  |some x=>rw[q1] at he;cases he;exact⟨x,rfl,ob⟩
 have B:l.length=gs.length:=by have:=congrArg TN e1;rw[G'] at this;exact this
 have up:∀q∈l,s.heap.objs.size<=q.2.1:=λq P=>Q7 (T.up _ (by rw[<- e2];exact O_.mpr ⟨q,P,rfl⟩))
 have I2:Inv X pins σ (grown H s.heap.objs.size (p9 l)) { s with heap:=C,toks:=tk }:=I.grow keep λb o _ e=>by
  unfold p9 at e
  cases f:l.find? (λz=>decide (z.2.1=b)) with
  |none=>rw[f] at e;cases e
  |some z =>
   rw[f] at e
   cases e
   have F:=e3 z (Ru f)
   have ea:z.2.1=b:=of_decide_eq_true (TZ (p:=λz:PT=>decide (z.2.1=b)) f)
   subst ea
   exact⟨by rw[Qk];simp,[z.2.2.2.2.1,z.2.2.2.2.2],.cons F.ky (.cons F.vl .nil),_,F.ob,rfl,_,rfl⟩
 have W:aK H (grown H s.heap.objs.size (p9 l)):=pQ I.bJ
 have R:∀q∈l,Dv X.K (grown H s.heap.objs.size (p9 l)) (.ref q.2.1) (zb q.1):=λq P=>by
  have F:=e3 q P
  exact .tup (eY.of (by rw[qv (up q P)];exact CL e3 P)) (.cons (F.dk.same W) (.cons (F.dz.same W) .nil))
 generalize grown H s.heap.objs.size (p9 l)=H2 at I2 W R
 have hvs:as.map F'=l.map λq=>F' q.2.1:=by rw[<- e2,Pe];rfl
 rw[hvs]
 refine wpAny_bind (wpAny_newList ?_ (by rw[G',B];exact n))
 have N:(C.push (seqObj "list" (l.map λq=>F' q.2.1).toArray 0)).get? C.objs.size=some (seqObj "list" (l.map λq=>F' q.2.1).toArray 0):=K' _ rfl
 refine wpAny_bind (wpAny_holding (wpAny_call_entry_kw slot_list_sort ⟨_,N,rfl⟩ entry_list_sort ?_ (ksk_l1 _ _)))
 show wpAny (model X.prog X.w) X.A.in1.in1 (Builtin.«list.sort» ⟨[.ref C.objs.size],[(QE "key",.type "str")]⟩) _ _ _
 rw[En]
 refine El (s:={ s with heap:=C.push (seqObj "list" (l.map λq=>F' q.2.1).toArray 0),toks:=tk }) (ts:=l.map λq=>nX q.1) N (by rw[G',G']) (by rw[G',B];exact h64) (λi v t S ht h G kp=>?_) λh' G U c Y kp hD pm pw eo=>?_
 ·rw[O7] at S ht
  cases f:l[i]? with
  |none=>rw[f] at S;cases S
  |some z =>
   rw[f] at S ht
   cases S
   cases ht
   have hz:=PY f
   have F:=e3 z hz
   have sz:=sw z.1 (by rw[<- e1];exact O_.mpr ⟨z,hz,rfl⟩)
   have no:=Je z.1
   refine str_of_reads (s:={ s with heap:=h,toks:=G }) F.rd sz.sh (PyData.noDict_hsm no.1) hgd (by show X.A.units+1+1+((Dr z.1).depth+3)<cLine;have:=no.2;omega) (λb o e=>?_) (λh'' u O k''=>⟨h'',O,u,rfl,rfl,k''⟩) sz.ln
   exact kp b o (PR (N' e)) (y' _ e)
 ·refine⟨_,rfl,?_⟩
  refine wpAny_pure ⟨_,rfl,?_⟩
  have hz:(l.map λq=>nX q.1).zip (l.map λq=>F' q.2.1)=l.map λq=>(nX q.1,F' q.2.1):=by rw[List.zip_map']
  rw[hz] at pm
  obtain⟨J,pl,rfl⟩:=perm_back pm.symm l rfl
  have pg:(J.map (·.1)).Perm gs:=by rw[<- e1];exact(pl.map _).symm
  have I3:=I2.laid (a:=C.objs.size) (o:=.lst (J.map λq=>V.ref q.2.1)) (h':=h') (t':=G) (λb u e=>kp b u (PR (N' e)) (y' _ e)) (O2 _) ⟨by rw[G',<- pl.length_eq,B];exact n,J.map λq=>F' q.2.1,c,rX J,by
   rw[hD]
   have:U=(J.map λq=>F' q.2.1).toArray:=by rw[<- UX (xs:=U),eo,Pe];rfl
   rw[this]⟩
  have hn:=I2.bJ.fresh (O2 C.objs.size)
  refine⟨.ref C.objs.size,_,I3,rfl,q (J.map (·.1)) pg ?_ _ _ (W.trans (aO hn)) (.lst (eX.of aI) (BS λz hz=>(R z (pl.symm.mem_iff.mp hz)).same (aO hn)))⟩
  rw[R0] at pw ⊢
  exact pw
end
def yz:Px "str"=some (.type "str"):=by decide +kernel
def rl:Px "sorted"=some (.builtin "sorted"):=by decide +kernel
section
variable {X:Cx}{o:Expr}{p kp kpos pos apos cpos:Pos}
def Jv(K:j')(td:TE):TE:=λσ H Q=>td σ H λx b=>∃a xs c,x=.ref a/\Rd b a (iI a xs)/\cO K b xs c/\∀r,b r=none->Q (.ref r) (upd b r (.ext λh=>h.IsItemsView r a))
def CU{td:TE}(C:PE X o td)(c:autoParam (Qe o "items" X.env (eval o X.env)=eval o X.env) a9)(f:autoParam ((apos.endLine == cpos.line)=true) a9):PE X (.Call (.Attribute o "items" apos) [] [] cpos) (Jv X.K td):=by
 intro g s σ H Q I h
 refine wpAny_Call_method0_late c f (bH (C g s σ H _ I h) ?_);rintro v i ⟨x,N,j,z,a,xs,M,r,E,A,t⟩
 subst r
 obtain rfl:v=F' a:=z
 obtain⟨_,l,n⟩:=cS j E A
 obtain⟨O,ob,es,ep,h1,m,y,_⟩:=n.ex
 refine⟨"dict","dict.items",RC,Tp,PySem.F.type_dict_items,n.typeIs,λb e=>by cases e;exact⟨ob,h1,m.2.1⟩,QZ rfl (PySem.evalArgs_none ?_)⟩
 refine wy l ⟨ob,h1,m.1,y⟩ ?_
 have G:=j.bJ.fresh (O2 i.heap.objs.size)
 refine⟨.ref i.heap.objs.size,_,j.laid (a:=i.heap.objs.size) (t':=i.toks) (λ_ _ q=>y' _ q) (O2 _) ?_,rfl,t _ G⟩
 exact⟨⟨_,K' _ rfl,rfl,rfl⟩,⟨_,K' _ rfl⟩,fun J L ⟨w,u,B⟩ k=>⟨w,k _ u,B⟩⟩
def DX(td:ED):ED:=λδ Q=>td δ λd=>∃a,d=.dT a/\(∀g∈a,Mb g)/\a.length<64/\∀b:List (List Int × D),b.Perm a->b.Pairwise (λx y=>¬ (nX y).cps.toList<(nX x).cps.toList)->Q (.lst (b.map zb))
def EE{td:ED}(hh:X.A.handled=none)(w:X.A.guards=some [])(W:X.A.units+64<cLine)(hg:Gl X "sorted")(hm:X.mg "sorted"=none)(C:Gl X "str")(E:X.mg "str"=none)(J:PD X o td)
  (f:autoParam (Qe o "items" X.env (eval o X.env)=eval o X.env) a9)(i:autoParam ((apos.endLine == cpos.line)=true) a9)
  (h1:autoParam (starEach [.Call (.Attribute o "items" apos) [] [] cpos] X.env=(false,eval (.Call (.Attribute o "items" apos) [] [] cpos) X.env)::starEach [] X.env) a9) :
  PD X (.Call (.Name "sorted" p) [.Call (.Attribute o "items" apos) [] [] cpos] [⟨some "key",.Name "str" kp,kpos⟩] pos) (DX td):=by
 refine⟨λn s σ H Q I ⟨δ,r,h⟩=>?_,λδ P P' g h=>J.mono _ _ _ (λd ⟨b,e,m,l,q⟩=>⟨b,e,m,l,λc G L=>g _ (q c G L)⟩) h⟩
 refine Qw (gG I hg hm rl ?_)
 refine callWith_kw (bH (d8 (CU J.pe f i) lS h1 pos n s σ H (λvs j=>∃t a xs b,vs=[.ref t]/\aK H j/\j t=some (.ext λh=>h.IsItemsView t a)/\Rd j a (iI a xs)/\cO X.K j xs b/\(∀g∈b,Mb g)/\b.length<64/\∀c:List (List Int × D),c.Perm b->c.Pairwise (λx y=>¬ (nX y).cps.toList<(nX x).cps.toList)->kD X.K H Q (.lst (c.map zb))) I ⟨δ,r,J.mono _ _ _ (λd ⟨b,U,m,l,q⟩ v H1 S dv=>?_) h⟩) λus S ⟨vs,H1,R,Y,t,a,xs,b,ev,B,z,hr,hd,m,F,q⟩=>?_)
 ·subst ev
  obtain⟨u,rfl,T⟩:=vals1 Y
  cases T
  refine kws_cons (gG R C E yz (kws_nil ?_))
  exact DE hh w W R z hr hd m F λc G L lp j Z dv=>q c G L _ j (B.trans Z) dv
 ·subst U
  cases dv with
  |dT N O=>exact⟨_,_,b,rfl,N,O,λr M=>⟨r,_,_,b,rfl,S.trans (aO M),aI,cj (aO M) N,O.same (aO M),m,l,q⟩⟩
end
section
variable {X:Cx}{i o a b:Expr}{ty td ta tb:ED}{pos:Pos}
def M6:EF:=λ_ Q=>∀a,Q (.adr a) [(a,.dT [])]
def Gn:PF X (.Dict [] [] pos) M6:=by
 refine⟨JM.imp ?_,λδ P h g q a=>g _ _ (q a)⟩;rintro σ H Q ⟨δ,r,q⟩ a f
 obtain⟨c,e⟩:=eZ.LX (K:=X.K) (ds:=[]) f .nil
 exact q a (.ref a) _ [a] (by rw[e];exact aK.refl _) c (.adr a)
def Kq(g:X.A.units+64<cLine)(e:PD X i ty)(c:PD X o td)(f:behindInMarks .In o=false):PD X (.Compare i [.In] [o] pos) (DY ty td) :=
 ⟨(CP (CN (by omega) e.pe c.pe) f).imp λσ H Q h=>DN e c h,G4 e.mono c.mono⟩
def HJ(f:X.A.units+64<cLine)(c:PD X a ta)(e:PD X b tb):kO X (.Compare a [.NotEq] [b] pos) (cZ (mz zP ta tb)):=my (JI f) BP LS c e (dM _)
end
end DC
namespace K07
open PySem PySem.Spec PyProof.Rows L2 DC
def iP13:(0:Int)<13:=by decide
def iP2:(0:Int)<2:=by decide
def iP2147483399:(0:Int)<2147483399:=by decide
def iP2147483647:(0:Int)<2147483647:=by decide
def iP256:(0:Int)<256:=by decide
def iP26:(0:Int)<26:=by decide
def iP3:(0:Int)<3:=by decide
def iP4:(0:Int)<4:=by decide
def iP5:(0:Int)<5:=by decide
def iP7:(0:Int)<7:=by decide
def iP9:(0:Int)<9:=by decide
def zL0:0<=sizeLine:=by decide
def zL1:1<=sizeLine:=by decide
def zL2:2<=sizeLine:=by decide
def zL3:3<=sizeLine:=by decide
def zL4:4<=sizeLine:=by decide
def zL7:7<=sizeLine:=by decide
def top(i:Nat):Stmt:=Vj.main.body.getD i (.Pass ⟨0,0,0,0⟩)
def az:Stmt->List Stmt
 |.ClassDef _ _ _ b _ _ _ _ _ _ _=>b
 |_=>[]
def cK{N P:List Str}{sc:Scope}(a:autoParam (sc.kind=.function) a9)(b:autoParam (sc.isCoroutine=false) a9)(c:autoParam (sc.isGenerator=false) a9)(d:autoParam (N.Nodup) dI)(e:autoParam (N.take P.length=P) a9)
  (f:autoParam (∀x∈P,sc.names.lookup x=some .local\/sc.names.lookup x=some .cell) dI)(g:autoParam (∀y∈sc.names,y.2≠.free) dI):aG N P sc:=⟨a,b,c,d,e,f,g⟩
abbrev gI:Stmt:=top 13
def jM:aG ["text"] ["text"] (aB gI):=cK
abbrev eT:Stmt:=top 14
def gc:aG ["text"] ["text"] (aB eT):=cK
abbrev nU:Stmt:=top 15
def qK:aG ["thing"] ["thing"] (aB nU):=cK
abbrev nS:Stmt:=top 16
def qJ:aG ["thing","words"] ["thing"] (aB nS):=cK
abbrev jD:Stmt:=top 17
def mn:aG ["thing"] ["thing"] (aB jD):=cK
abbrev lV:Stmt:=top 18
def oN:aG ["thing"] ["thing"] (aB lV):=cK
abbrev nR:Stmt:=top 19
def qI:aG ["number"] ["number"] (aB nR):=cK
abbrev iD:Stmt:=top 20
def lD:aG ["value"] ["value"] (aB iD):=cK
abbrev jF:Stmt:=top 26
def mq:aG ["name"] ["name"] (aB jF):=cK
abbrev qH:Stmt:=top 28
def rO:aG ["sign","one","other"] ["sign","one","other"] (aB qH):=cK
abbrev iC:Stmt:=top 36
def lC:aG ["first"] ["first"] (aB iC):=cK
abbrev jC:Stmt:=top 44
def mm:aG ["told"] ["told"] (aB jC):=cK
abbrev lW:Stmt:=top 45
def oO:aG ["told","inner","word"] ["told","inner"] (aB lW):=cK
abbrev lX:Stmt:=top 46
def oP:aG ["told","inner","word"] ["told","inner"] (aB lX):=cK
abbrev gJ:Stmt:=top 47
def jN:aG ["told"] ["told"] (aB gJ):=cK
abbrev kG:Stmt:=top 48
def qL:aG ["told","inner"] ["told"] (aB kG):=cK
abbrev fV:Stmt:=top 50
def iT:aG ["_law_script","_law_k"] ["_law_script","_law_k"] (aB fV):=cK
abbrev iA:Stmt:=top 51
def ku:aG ["_law_cell","_law_k","_law_mix"] ["_law_cell","_law_k"] (aB iA):=cK
abbrev iB:Stmt:=top 52
def kz:aG ["_law_cell","_law_many","_law_letters","_law_base","_law_k","_law_at","_law_ahead"] ["_law_cell","_law_many"] (aB iB):=cK
abbrev eE:Stmt:=top 53
def dZ:aG ["_law_mix"] ["_law_mix"] (aB eE):=cK
abbrev fG:Stmt:=top 54
def eG:aG ["_law_mix","_law_kind"] ["_law_mix","_law_kind"] (aB fG):=cK
abbrev f9:Stmt:=top 55
def mj:aG ["_law_found","_law_due"] ["_law_found","_law_due"] (aB f9):=cK
abbrev h_:Stmt:=top 56
def kr:aG ["_law_told"] ["_law_told"] (aB h_):=cK
abbrev i_:Stmt:=top 57
def md:aG ["_law_cell","_law_names_here","_law_kind","_law_beat","_law_number_here"] ["_law_cell","_law_names_here","_law_kind","_law_beat"] (aB i_):=cK
abbrev fF:Stmt:=top 58
def k_:aG ["_law_cell","_law_names_here","_law_kind","_law_beat","_law_deep","_law_way","_law_mixes","_law_first","_law_one","_law_sign","_law_within","_law_other"] ["_law_cell","_law_names_here","_law_kind","_law_beat","_law_deep"] (aB fF):=cK
abbrev jB:Stmt:=top 59
def ml:aG ["_law_cell","_law_names_here","_law_now","_law_k"] ["_law_cell","_law_names_here"] (aB jB):=cK
abbrev hZ:Stmt:=top 60
def ko:aG ["_law_now","_law_names_here","_law_beat"] ["_law_now","_law_names_here","_law_beat"] (aB hZ):=cK
abbrev jA:Stmt:=top 61
def mf:aG ["_law_sign","_law_one","_law_other","_law_found","_law_rest"] ["_law_sign","_law_one","_law_other"] (aB jA):=cK
abbrev dY:Stmt:=top 62
def lA:aG ["_law_told","_law_now","_law_memory","_law_place","_law_word","_law_one","_law_at"] ["_law_told","_law_now","_law_memory","_law_place"] (aB dY):=cK
abbrev f7:Stmt:=top 63
def mZ:aG ["_law_told","_law_now","_law_memory","_law_place","_law_comes_here","_law_found","_law_within","_law_k","_law_one"] ["_law_told","_law_now","_law_memory","_law_place","_law_comes_here"] (aB f7):=cK
abbrev cm:Stmt:=top 64
def gb:aG ["_law_told","_law_kind","_law_place","_law_cell","_law_found","_law_mix","_law_k","_law_one"] ["_law_told","_law_kind","_law_place","_law_cell"] (aB cm):=cK
abbrev jE:Stmt:=top 65
def Cy:aG ["_law_script","_law_cell","_law_names_here","_law_beat","_law_told","_law_part","_law_k","_law_now","_law_place","_law_memory","_law_comes_here","_law_handed","_law_more","_law_due","_law_rows","_law_found"] ["_law_script"] (aB jE):=cK
abbrev cG:Stmt:=(az (top 29)).getD 0 (.Pass ⟨0,0,0,0⟩)
def eF:aG ["self"] ["self"] (aB cG):=cK
abbrev bF:Stmt:=(az (top 29)).getD 2 (.Pass ⟨0,0,0,0⟩)
def mV:aG ["self"] ["self"] (aB bF):=cK
abbrev ax:Stmt:=(az (top 29)).getD 3 (.Pass ⟨0,0,0,0⟩)
def kj:aG ["self"] ["self"] (aB ax):=cK
abbrev aV:Stmt:=(az (top 29)).getD 4 (.Pass ⟨0,0,0,0⟩)
def eV:aG ["self"] ["self"] (aB aV):=cK
abbrev cF:Stmt:=(az (top 29)).getD 10 (.Pass ⟨0,0,0,0⟩)
def mU:aG ["self","now","kept","place","comes","more","at","part"] ["self","now","kept","place","comes","more"] (aB cF):=cK
abbrev d3:Stmt:=(az (top 30)).getD 0 (.Pass ⟨0,0,0,0⟩)
def f_:aG ["self","value"] ["self","value"] (aB d3):=cK
abbrev el:Stmt:=(az (top 30)).getD 2 (.Pass ⟨0,0,0,0⟩)
def kZ:aG ["self"] ["self"] (aB el):=cK
abbrev eB:Stmt:=(az (top 30)).getD 4 (.Pass ⟨0,0,0,0⟩)
def jJ:aG ["self","now","kept","place"] ["self","now","kept","place"] (aB eB):=cK
abbrev d4:Stmt:=(az (top 31)).getD 0 (.Pass ⟨0,0,0,0⟩)
def gA:aG ["self","name"] ["self","name"] (aB d4):=cK
abbrev e_:Stmt:=(az (top 31)).getD 4 (.Pass ⟨0,0,0,0⟩)
def kg:aG ["self"] ["self"] (aB e_):=cK
abbrev eC:Stmt:=(az (top 31)).getD 6 (.Pass ⟨0,0,0,0⟩)
def jK:aG ["self","now","kept","place"] ["self","now","kept","place"] (aB eC):=cK
abbrev dS:Stmt:=(az (top 32)).getD 0 (.Pass ⟨0,0,0,0⟩)
def fZ:aG ["self","part"] ["self","part"] (aB dS):=cK
abbrev dU:Stmt:=(az (top 32)).getD 1 (.Pass ⟨0,0,0,0⟩)
def iR:aG ["self"] ["self"] (aB dU):=cK
abbrev eD:Stmt:=(az (top 32)).getD 3 (.Pass ⟨0,0,0,0⟩)
def jL:aG ["self"] ["self"] (aB eD):=cK
abbrev dX:Stmt:=(az (top 32)).getD 5 (.Pass ⟨0,0,0,0⟩)
def iS:aG ["self","now","kept","place"] ["self","now","kept","place"] (aB dX):=cK
abbrev eQ:Stmt:=(az (top 33)).getD 0 (.Pass ⟨0,0,0,0⟩)
def gY:aG ["self","sign","one","other"] ["self","sign","one","other"] (aB eQ):=cK
abbrev fA:Stmt:=(az (top 33)).getD 1 (.Pass ⟨0,0,0,0⟩)
def kh:aG ["self"] ["self"] (aB fA):=cK
abbrev ft:Stmt:=(az (top 33)).getD 3 (.Pass ⟨0,0,0,0⟩)
def mS:aG ["self"] ["self"] (aB ft):=cK
abbrev fB:Stmt:=(az (top 33)).getD 5 (.Pass ⟨0,0,0,0⟩)
def ki:aG ["self","now","kept","place","one","other"] ["self","now","kept","place"] (aB fB):=cK
abbrev dP:Stmt:=(az (top 34)).getD 0 (.Pass ⟨0,0,0,0⟩)
def fY:aG ["self","truth","one","other"] ["self","truth","one","other"] (aB dP):=cK
abbrev dQ:Stmt:=(az (top 34)).getD 1 (.Pass ⟨0,0,0,0⟩)
def iO:aG ["self"] ["self"] (aB dQ):=cK
abbrev eA:Stmt:=(az (top 34)).getD 3 (.Pass ⟨0,0,0,0⟩)
def jI:aG ["self"] ["self"] (aB eA):=cK
abbrev dR:Stmt:=(az (top 34)).getD 5 (.Pass ⟨0,0,0,0⟩)
def iP:aG ["self","now","kept","place"] ["self","now","kept","place"] (aB dR):=cK
abbrev cN:Stmt:=(az (top 38)).getD 0 (.Pass ⟨0,0,0,0⟩)
def fW:aG ["self","part","first"] ["self","part","first"] (aB cN):=cK
abbrev dN:Stmt:=(az (top 38)).getD 1 (.Pass ⟨0,0,0,0⟩)
def iM:aG ["self"] ["self"] (aB dN):=cK
abbrev d_:Stmt:=(az (top 38)).getD 4 (.Pass ⟨0,0,0,0⟩)
def jH:aG ["self"] ["self"] (aB d_):=cK
abbrev dO:Stmt:=(az (top 38)).getD 6 (.Pass ⟨0,0,0,0⟩)
def iN:aG ["self","now","kept","place"] ["self","now","kept","place"] (aB dO):=cK
abbrev d9:Stmt:=(az (top 38)).getD 7 (.Pass ⟨0,0,0,0⟩)
def jG:aG ["self","now","kept","place","comes","more"] ["self","now","kept","place","comes","more"] (aB d9):=cK
abbrev fU:Stmt:=(az (top 39)).getD 0 (.Pass ⟨0,0,0,0⟩)
def iQ:aG ["self","head","rest"] ["self","head","rest"] (aB fU):=cK
abbrev fm:Stmt:=(az (top 39)).getD 1 (.Pass ⟨0,0,0,0⟩)
def mQ:aG ["self"] ["self"] (aB fm):=cK
abbrev hX:Stmt:=(az (top 39)).getD 3 (.Pass ⟨0,0,0,0⟩)
def oK:aG ["self"] ["self"] (aB hX):=cK
abbrev fq:Stmt:=(az (top 39)).getD 5 (.Pass ⟨0,0,0,0⟩)
def mR:aG ["self","now","kept","place"] ["self","now","kept","place"] (aB fq):=cK
abbrev hW:Stmt:=(az (top 39)).getD 6 (.Pass ⟨0,0,0,0⟩)
def oJ:aG ["self","now","kept","place","comes","more"] ["self","now","kept","place","comes","more"] (aB hW):=cK
abbrev eR:Stmt:=(az (top 40)).getD 0 (.Pass ⟨0,0,0,0⟩)
def gZ:aG ["self","part","name"] ["self","part","name"] (aB eR):=cK
abbrev fD:Stmt:=(az (top 40)).getD 1 (.Pass ⟨0,0,0,0⟩)
def km:aG ["self"] ["self"] (aB fD):=cK
abbrev fz:Stmt:=(az (top 40)).getD 5 (.Pass ⟨0,0,0,0⟩)
def mY:aG ["self"] ["self"] (aB fz):=cK
abbrev fE:Stmt:=(az (top 40)).getD 7 (.Pass ⟨0,0,0,0⟩)
def kn:aG ["self","now","kept","place"] ["self","now","kept","place"] (aB fE):=cK
abbrev fu:Stmt:=(az (top 40)).getD 8 (.Pass ⟨0,0,0,0⟩)
def mX:aG ["self","now","kept","place","comes","more"] ["self","now","kept","place","comes","more"] (aB fu):=cK
abbrev ck:Stmt:=(az (top 41)).getD 0 (.Pass ⟨0,0,0,0⟩)
def gX:aG ["self","part","name","first"] ["self","part","name","first"] (aB ck):=cK
abbrev eu:Stmt:=(az (top 41)).getD 1 (.Pass ⟨0,0,0,0⟩)
def ka:aG ["self"] ["self"] (aB eu):=cK
abbrev fk:Stmt:=(az (top 41)).getD 5 (.Pass ⟨0,0,0,0⟩)
def mP:aG ["self"] ["self"] (aB fk):=cK
abbrev cA:Stmt:=(az (top 41)).getD 7 (.Pass ⟨0,0,0,0⟩)
def eN:aG ["self","now"] ["self","now"] (aB cA):=cK
abbrev e9:Stmt:=(az (top 41)).getD 8 (.Pass ⟨0,0,0,0⟩)
def kc:aG ["self","now","kept","place"] ["self","now","kept","place"] (aB e9):=cK
abbrev fj:Stmt:=(az (top 41)).getD 9 (.Pass ⟨0,0,0,0⟩)
def mN:aG ["self","now","kept","place","comes","more","within"] ["self","now","kept","place","comes","more"] (aB fj):=cK
inductive Pt where
 |given (v:D)|named (n:Str)|turned (p:Pt)|pair (g:Str) (a b:Pt)|choice (t a b:Pt)
 |before (p:Pt) (f:D)|led (h r:Pt)|bY (p:Pt) (n:Str)|held (p:Pt) (n:Str) (f:D)
structure bq where
 given:Addr
 named:Addr
 turned:Addr
 pair:Addr
 choice:Addr
 before:Addr
 led:Addr
 bY:Addr
 held:Addr
def Pt.cls(A:bq):Pt->Addr
 |.given _=>A.given|.named _=>A.named|.turned _=>A.turned|.pair _ _ _=>A.pair|.choice _ _ _=>A.choice
 |.before _ _=>A.before|.led _ _=>A.led|.bY _ _=>A.bY|.held _ _ _=>A.held
def Pt.d(A:bq):Pt->D
 |.given v=>.obj A.given [("value",v)]
 |.named n=>.obj A.named [("name",.str n)]
 |.turned p=>.obj A.turned [("part",p.d A)]
 |.pair g a b=>.obj A.pair [("sign",.str g),("one",a.d A),("other",b.d A)]
 |.choice t a b=>.obj A.choice [("truth",t.d A),("one",a.d A),("other",b.d A)]
 |.before p f=>.obj A.before [("part",p.d A),("first",f)]
 |.led h r=>.obj A.led [("head",h.d A),("rest",r.d A)]
 |.bY p n=>.obj A.bY [("part",p.d A),("name",.str n)]
 |.held p n f=>.obj A.held [("part",p.d A),("name",.str n),("first",f)]
def Pt.depth:Pt->Nat
 |.given _=>1|.named _=>1|.turned p=>p.depth+1|.pair _ a b=>max a.depth b.depth+1|.choice t a b=>max t.depth (max a.depth b.depth)+1
 |.before p _=>p.depth+1|.led h r=>max h.depth r.depth+1|.bY p _=>p.depth+1|.held p _ _=>p.depth+1
def Pt.inner:Pt->List Pt
 |.given _=>[]|.named _=>[]|.turned p=>[p]|.pair _ a b=>[a,b]|.choice t a b=>[t,a,b]
 |.before p _=>[p]|.led h r=>[h,r]|.bY p _=>[p]|.held p _ _=>[p]
def Pt.told:Pt->D
 |.given v=>.tup [.str "given",v]
 |.named n=>.tup [.str "named",.str n]
 |.turned p=>.tup [.str "not",p.told]
 |.pair g a b=>.tup [.str g,a.told,b.told]
 |.choice t a b=>.tup [.str "if",t.told,a.told,b.told]
 |.before p f=>.tup [.str "before",p.told,f]
 |.led h r=>.tup [.str "then",h.told,r.told]
 |.bY p n=>.tup [.str "when",p.told,.str n]
 |.held p n f=>.tup [.str "held",p.told,.str n,f]
structure cq (K:j') (A:bq):Prop where
 nd:[A.given,A.named,A.turned,A.pair,A.choice,A.before,A.led,A.bY,A.held].Nodup
 cl:∀C∈[A.given,A.named,A.turned,A.pair,A.choice,A.before,A.led,A.bY,A.held],uI K C
 d0:∀C∈[A.given,A.named,A.turned,A.pair,A.choice,A.before,A.led,A.bY,A.held],∀f∈(["value","name","part","sign","one","other","truth","first","head","rest"]:List Str),eO K C f
def Pt.aq(A:bq)(p:Pt):p.cls A∈[A.given,A.named,A.turned,A.pair,A.choice,A.before,A.led,A.bY,A.held]:=by cases p<;>simp[Pt.cls]
def Pt.ix:Pt->Nat
 |.given _=>0|.named _=>1|.turned _=>2|.pair _ _ _=>3|.choice _ _ _=>4|.before _ _=>5|.led _ _=>6|.bY _ _=>7|.held _ _ _=>8
def Pt.at_(A:bq)(p:Pt):[A.given,A.named,A.turned,A.pair,A.choice,A.before,A.led,A.bY,A.held][p.ix]?=some (p.cls A):=by cases p<;>rfl
def vM{α:Type}:∀{l:List α} {i j:Nat} {x:α},l.Nodup->l[i]?=some x->l[j]?=some x->i=j:=fun{l i j x} e a b=>by
 have c:i<l.length:=(PJ.mp a).1
 exact(Sz c e).mp (a.trans b.symm)
def gq{K:j'}{A:bq}(a:cq K A){p q:Pt}(h:p.cls A=q.cls A):p.ix=q.ix:=vM a.nd (p.at_ A) (by rw[h];exact q.at_ A)
def mC{K:j'}{A:bq}(a:cq K A){p:Pt}(h:p.cls A=A.given):∃v,p=.given v:=by
 have i:=gq a (q:=.given .ah) h
 cases p with
 |given v=>exact⟨v,rfl⟩
 |_=>exact absurd i (by simp only[Pt.ix];decide)
def mD{K:j'}{A:bq}(a:cq K A){p:Pt}(h:p.cls A=A.named):∃n,p=.named n:=by
 have i:=gq a (q:=.named "") h
 cases p with
 |named n=>exact⟨n,rfl⟩
 |_=>exact absurd i (by simp only[Pt.ix];decide)
def j_{K:j'}{A:bq}(a:cq K A){p:Pt}(h:p.cls A=A.turned):∃x,p=.turned x:=by
 have i:=gq a (q:=.turned (.given .ah)) h
 cases p with
 |turned x=>exact⟨x,rfl⟩
 |_=>exact absurd i (by simp only[Pt.ix];decide)
def om{K:j'}{A:bq}(a:cq K A){p:Pt}(h:p.cls A=A.pair):∃g x y,p=.pair g x y:=by
 have i:=gq a (q:=.pair "" (.given .ah) (.given .ah)) h
 cases p with
 |pair g x y=>exact⟨g,x,y,rfl⟩
 |_=>exact absurd i (by simp only[Pt.ix];decide)
def jZ{K:j'}{A:bq}(a:cq K A){p:Pt}(h:p.cls A=A.choice):∃t x y,p=.choice t x y:=by
 have i:=gq a (q:=.choice (.given .ah) (.given .ah) (.given .ah)) h
 cases p with
 |choice t x y=>exact⟨t,x,y,rfl⟩
 |_=>exact absurd i (by simp only[Pt.ix];decide)
def jY{K:j'}{A:bq}(a:cq K A){p:Pt}(h:p.cls A=A.before):∃x f,p=.before x f:=by
 have i:=gq a (q:=.before (.given .ah) .ah) h
 cases p with
 |before x f=>exact⟨x,f,rfl⟩
 |_=>exact absurd i (by simp only[Pt.ix];decide)
def sM{K:j'}{A:bq}(a:cq K A){p:Pt}(h:p.cls A=A.led):∃x y,p=.led x y:=by
 have i:=gq a (q:=.led (.given .ah) (.given .ah)) h
 cases p with
 |led x y=>exact⟨x,y,rfl⟩
 |_=>exact absurd i (by simp only[Pt.ix];decide)
def sN{K:j'}{A:bq}(a:cq K A){p:Pt}(h:p.cls A=A.bY):∃x n,p=.bY x n:=by
 have i:=gq a (q:=.bY (.given .ah) "") h
 cases p with
 |bY x n=>exact⟨x,n,rfl⟩
 |_=>exact absurd i (by simp only[Pt.ix];decide)
def oj{K:j'}{A:bq}(a:cq K A){p:Pt}(h:p.cls A=A.held):∃x n f,p=.held x n f:=by
 have i:=gq a (q:=.held (.given .ah) "" .ah) h
 cases p with
 |held x n f=>exact⟨x,n,f,rfl⟩
 |_=>exact absurd i (by simp only[Pt.ix];decide)
def ou(A:bq)(n:Nat)(g:Pt->D)(C:Addr):cU:=λds Q=>∃p:Pt,ds=[p.d A]/\p.cls A=C/\p.depth<=n/\Q (g p)
def lh{A:bq}{n:Nat}{g:Pt->D}{C:Addr}:b9 (ou A n g C):=fun ds P a f ⟨p,e,c,h,q⟩=>⟨p,e,c,h,f _ q⟩
def q9{A:bq}{n:Nat}{g:Pt->D}{C:Addr}(ds:List D)(Q:D->Prop)(h:ou A n g C ds Q):ds.length=1:=by obtain⟨p,e,_⟩:=h;rw[e];rfl
def u6(A:bq)(C:Addr):Prop:=∃p:Pt,p.cls A=C
def sr(m:Str):Prop:=∀f∈(["value","name","part","sign","one","other","truth","first","head","rest"]:List Str),(m == f)=false
def aQ(A:bq){m:Str}(h:sr m)(p:Pt):∃a,p.d A=.obj (p.cls A) a/\a.lookup m=none:=by
 have l:∀{f:Str} {d:D} {r:List (Str × D)},f∈(["value","name","part","sign","one","other","truth","first","head","rest"]:List Str)->r.lookup m=none->((f,d)::r).lookup m=none:=λc b=>by
  rw[PV,h _ c]
  exact b
 cases p<;>refine⟨_,rfl,?_⟩<;>repeat (first|rfl|refine l (by decide) ?_)
def aM{K:j'}{δ:SD}{i:Nat}{C:Addr}{a:List (Str × D)}{f:Str}{r:D}{Q:D->Prop}(h:δ[i]?=some (some (.obj C a)))(c:uI K C)(n:eO K C f)(l:a.lookup f=some r)(q:Q r):GQ K (au i) f δ Q:=⟨_,h,C,a,r,rfl,c,n,l,q⟩
def i3{K:j'}{i:Nat}{f:Str}:bP (GQ K (au i) f):=fun δ P l g ⟨d,h,C,c,r,b,j,e,a,k⟩=>⟨d,h,C,c,r,b,j,e,a,g _ k⟩
def bQ{A:bq}{n:Nat}{g:Pt->D}{m:Str}{a:ED}{δ:SD}{p:Pt}{Q:D->Prop}(mt:bP a)(i:sr m)(h:a δ λd=>d=p.d A)(j:p.depth<=n)(q:Q (g p)) :
  lF (u6 A) m (ou A n g) [] a bG δ Q:=mt _ _ _ (λd e=>by
 obtain⟨c,f,b⟩:=aQ A i p
 exact⟨p.cls A,c,e.trans f,b,⟨p,rfl⟩,p,by rw[Pf,e],rfl,j,q⟩) h
def cJ:sr "told":=by unfold sr;decide +kernel
def nK:sr "inner":=by unfold sr;decide +kernel
def isVal(d:D):Prop:=(∃b,d=.bl b)\/∃i:Int,d=.int i/\-128<=i/\i<=127
def ef(d:D):Prop:=d=.ah\/isVal d
def Mi(A:bq)(n:Nat)(ok:Pt->Prop)(g:Pt->D)(C:Addr):cU:=λds Q=>∃p:Pt,ds=[p.d A]/\p.cls A=C/\p.depth<=n/\ok p/\Q (g p)
def Of{A:bq}{n:Nat}{ok:Pt->Prop}{g:Pt->D}{C:Addr}:b9 (Mi A n ok g C):=fun ds P a f ⟨p,e,c,h,o,q⟩=>⟨p,e,c,h,o,f _ q⟩
def Oe{A:bq}{n:Nat}{ok:Pt->Prop}{g:Pt->D}{C:Addr}(ds:List D)(Q:D->Prop)(h:Mi A n ok g C ds Q):ds.length=1:=by obtain⟨p,e,_⟩:=h;rw[e];rfl
def d7{A:bq}{n:Nat}{ok:Pt->Prop}{g:Pt->D}{m:Str}{a:ED}{δ:SD}{p:Pt}{Q:D->Prop}(mt:bP a)(j:sr m)(h:a δ λd=>d=p.d A)(l:p.depth<=n)(c:ok p)(q:Q (g p)) :
  lF (u6 A) m (Mi A n ok g) [] a bG δ Q:=mt _ _ _ (λd e=>by
 obtain⟨i,f,b⟩:=aQ A j p
 exact⟨p.cls A,i,e.trans f,b,⟨p,rfl⟩,p,by rw[Pf,e],rfl,l,c,q⟩) h
abbrev MQ(P:O0)(w:World)(K:j')(mg:Str->Option Value)(base:Heap)(A:bq)(j:Nat)(m:Str)(n:Nat)(ok:Pt->Prop)(g:Pt->D):Prop:=∀C,u6 A C->b_ P w K mg base j C m (Mi A n ok g C) []
section
seal wpAny
variable {P:O0}{w:World}{K:j'}{mg:Str->Option Value}{base:Heap}{A:bq}{n j:Nat}
abbrev MP(P:O0)(w:World)(K:j')(mg:Str->Option Value)(base:Heap)(A:bq)(j:Nat)(m:Str)(n:Nat)(g:Pt->D):Prop:=∀C,u6 A C->b_ P w K mg base j C m (ou A n g C) []
def Pt.bO(p:Pt):0<p.depth:=by cases p<;>simp only[Pt.depth]<;>omega
def Dm.never{C:Addr}{m a:Str}{st:Stmt}{l:List Str}{g:cU}(d:Dm K C m a st l)(p:b9 g)(h:∀ds Q,¬g ds Q):b_ P w K mg base j C m g []:=by
 obtain⟨f,o,F,M,c,b⟩:=d.ex
 exact⟨⟨f,o,l,[],[],c,M,⟨fun vs H Q E ⟨ds,_,q⟩=>(h _ _ q).elim,fun A e s H i us vs Q E _ _ _ _ ⟨ds,_,q⟩=>(h _ _ q).elim⟩,b,.nil,λ_=>.nil⟩,p⟩
def gK{g:Pt->D}{C:Addr}(ds:List D)(Q:D->Prop):¬ ou A 0 g C ds Q:=fun⟨p,_,_,h,_⟩=>absurd p.bO (by omega)
mutual
def Pt.size:Pt->Nat
 |.given _=>1|.named _=>1|.turned p=>p.size+1|.pair _ a b=>a.size+b.size+1|.choice t a b=>t.size+a.size+b.size+1
 |.before p _=>p.size+1|.led h r=>h.size+r.size+1|.bY p _=>p.size+1|.held p _ _=>p.size+1
end
def Pt.size_inner(p:Pt):(p.size:Int)=1+(p.inner.map λq=>(q.size:Int)).sum:=by
 cases p<;>simp only[Pt.size,Pt.inner,O1,QC,Vl,List.sum_nil]<;>omega
def Pt.uZ(p:Pt):(p.depth:Int)=1+qb 0 (p.inner.map λq=>(q.depth:Int)):=by
 cases p<;>simp only[Pt.depth,Pt.inner,O1,QC,qb,VN,List.foldl_nil]<;>omega
def Pt.l_{p q:Pt}(h:q∈p.inner){n:Nat}(a:p.depth<=n+1):q.depth<=n:=by
 cases p<;>simp only[Pt.inner,Pt.depth,B',C',or_false] at h a
 case turned=>subst h;omega
 case pair=>rcases h with rfl|rfl<;>omega
 case choice=>rcases h with rfl|rfl|rfl<;>omega
 case before=>subst h;omega
 case led=>rcases h with rfl|rfl<;>omega
 case bY=>subst h;omega
 case held=>subst h;omega
def Pt.nE(p:Pt):p.inner.length<=3:=by cases p<;>simp[Pt.inner]
def dJ(A:bq)(p:Pt):D:=.tup (p.inner.map (Pt.d A))
def vK:sr "size":=by unfold sr;decide +kernel
def rD:sr "depth":=by unfold sr;decide +kernel
def gT{i:Nat}:bP (au i):=fun δ P b f ⟨d,a,k⟩=>⟨d,a,f d k⟩
def uz{A:bq}{g:Pt->D}{a:List Pt}{i:Nat}{d:D}{o:Option D}(h1:(a.map (Pt.d A))[i]?=some d)(b:(a.map λq=>some (g q))[i]?=some o):∃q∈a,q.d A=d/\some (g q)=o:=by
 rw[O7] at h1 b
 cases e:a[i]? with
 |none=>rw[e] at h1;cases h1
 |some q =>
  rw[e] at h1 b
  exact⟨q,PY e,by simpa using h1,by simpa using b⟩
def filterMap_some{α β:Type}(f:α->β):∀l:List α,l.filterMap (id∘λq=>some (f q))=l.map f
 |[]=>rfl
 |a::l=>by rw[O1,<- filterMap_some f l];rfl
def size_of(d:∀C,u6 A C->Dm K C "size" "Part.size" bF ["self"])(c:mg "sum"=none)(a:MP P w K mg base A j "inner" (n+1) (dJ A))(b:MP P w K mg base A j "size" n λp=>.int p.size):MP P w K mg base A (j+1) "size" (n+1) λp=>.int p.size:=by
 intro C B
 refine(d C B).c_ mV lh q9 (λf y A g s H E e=>have J:=e.units;have z:=e.hd;have L:=mV
  (aE (aJ (aj aC (Kp z (by rfl) c (aA (zI (x:="part") (caps:=[]) (cn:=[]) (cl:=[]) (nq (by rfl) (by rfl) (by decide +kernel) (by decide +kernel) (by decide +kernel)) rfl (ny (eJ a e (by omega) (dv 0))) (λC m t l=>cT (i:=0) (show(["part"]:List Str).Nodup by decide +kernel) rfl (PN rfl) (.inr rfl)) (λC m t l=>iF) (λC m t l=>(eJ b e (by omega) (dv 0)))) aD)))))) ?_
 rintro ds Q ⟨p,rfl,M,u,q⟩
 refine bQ gT nK ⟨_,rfl,rfl⟩ u ?_
 refine⟨p.inner.map (Pt.d A),rfl,p.inner.map λq=>some (.int q.size),by simp,λi d o h I=>?_,?_,?_⟩
 ·obtain⟨r,e,F,G⟩:=uz h I
  subst F G
  exact⟨rfl,λ_=>bQ gT vK ⟨_,rfl,rfl⟩ (p.l_ e u) rfl⟩
 ·rw[G'];exact Pg p.nE (by decide)
 ·refine⟨p.inner.map λq=>(q.size:Int),?_,?_⟩
  ·rw[Rl,Pe]
   congr 2
   exact filterMap_some _ _
  ·have v:Q (.int (p.size:Int)):=q
   rw[Pt.size_inner] at v
   exact v
def BF(d:∀C,u6 A C->Dm K C "depth" "Part.depth" ax ["self"])(c:mg "max"=none)(a:MP P w K mg base A j "inner" (n+1) (dJ A))(b:MP P w K mg base A j "depth" n λp=>.int p.depth):MP P w K mg base A (j+1) "depth" (n+1) λp=>.int p.depth:=by
 intro C B
 refine(d C B).c_ kj lh q9 (λf y A g s H E e=>have J:=e.units;have z:=e.hd;have L:=kj
  (aE (aJ (aj aC (Hy z (by rfl) c (zI (x:="part") (caps:=[]) (cn:=[]) (cl:=[]) (nq (by rfl) (by rfl) (by decide +kernel) (by decide +kernel) (by decide +kernel)) rfl (ny (eJ a e (by omega) (dv 0))) (λC m t l=>cT (i:=0) (show(["part"]:List Str).Nodup by decide +kernel) rfl (PN rfl) (.inr rfl)) (λC m t l=>iF) (λC m t l=>(eJ b e (by omega) (dv 0)))) aC))))) ?_
 rintro ds Q ⟨p,rfl,M,u,q⟩
 refine bQ gT nK ⟨_,rfl,rfl⟩ u ?_
 refine⟨p.inner.map (Pt.d A),rfl,p.inner.map λq=>some (.int q.depth),by simp,λi d o h I=>?_,?_,?_⟩
 ·obtain⟨r,e,F,G⟩:=uz h I
  subst F G
  exact⟨rfl,λ_=>bQ gT rD ⟨_,rfl,rfl⟩ (p.l_ e u) rfl⟩
 ·rw[G'];exact Pg p.nE (by decide)
 ·refine⟨p.inner.map λq=>(q.depth:Int),0,?_,rfl,?_⟩
  ·rw[Rl,Pe]
   congr 1
   exact filterMap_some _ _
  ·have v:Q (.int (p.depth:Int)):=q
   rw[Pt.uZ] at v
   exact v
def Pt.EW{p q:Pt}(h:q∈p.inner):q.size<=p.size:=by
 cases p<;>simp only[Pt.inner,Pt.size,B',C',or_false] at h ⊢
 case turned=>subst h;omega
 case pair=>rcases h with rfl|rfl<;>omega
 case choice=>rcases h with rfl|rfl|rfl<;>omega
 case before=>subst h;omega
 case led=>rcases h with rfl|rfl<;>omega
 case bY=>subst h;omega
 case held=>subst h;omega
structure o6 (K:j') (A:bq):Prop where
 given:Dm K A.given "inner" "Part.inner" cG ["self"]
 named:Dm K A.named "inner" "Part.inner" cG ["self"]
 turned:Dm K A.turned "inner" "Turned.inner" dU ["self"]
 pair:Dm K A.pair "inner" "Pair.inner" fA ["self"]
 choice:Dm K A.choice "inner" "Choice.inner" dQ ["self"]
 before:Dm K A.before "inner" "Before.inner" dN ["self"]
 led:Dm K A.led "inner" "Led.inner" fm ["self"]
 bY:Dm K A.bY "inner" "When.inner" fD ["self"]
 held:Dm K A.held "inner" "Held.inner" eu ["self"]
def u3(b:cq K A)(d:Dm K A.given "inner" "Part.inner" cG ["self"]):b_ P w K mg base (j+1) A.given "inner" (ou A n (dJ A) A.given) []:=by
 refine d.c_ eF lh q9 (λf g A a s H E e=>have o:=e.units;have i:=e.hd;have l:=eF
  (aE (aJ (aa aD)))) ?_
 rintro ds Q ⟨p,rfl,h,r,q⟩
 have c:=b.cl _ (Pt.aq A p)
 have m:=b.d0 _ (Pt.aq A p)
 obtain⟨v,rfl⟩:=mC b h
 exact⟨zL0,q⟩
def u4(b:cq K A)(d:Dm K A.named "inner" "Part.inner" cG ["self"]):b_ P w K mg base (j+1) A.named "inner" (ou A n (dJ A) A.named) []:=by
 refine d.c_ eF lh q9 (λf g A a s H E e=>have o:=e.units;have i:=e.hd;have l:=eF
  (aE (aJ (aa aD)))) ?_
 rintro ds Q ⟨p,rfl,h,r,q⟩
 have c:=b.cl _ (Pt.aq A p)
 have m:=b.d0 _ (Pt.aq A p)
 obtain⟨s,rfl⟩:=mD b h
 exact⟨zL0,q⟩
def sL(b:cq K A)(d:Dm K A.turned "inner" "Turned.inner" dU ["self"]):b_ P w K mg base (j+1) A.turned "inner" (ou A n (dJ A) A.turned) []:=by
 refine d.c_ iR lh q9 (λf h A a s H E e=>have o:=e.units;have l:=e.hd;have m:=iR
  (aE (aJ (aa (aA (aT K rfl (dv 0) (by rfl)) aD))))) ?_
 rintro ds Q ⟨p,rfl,i,r,q⟩
 have c:=b.cl _ (Pt.aq A p)
 have g:=b.d0 _ (Pt.aq A p)
 obtain⟨x,rfl⟩:=j_ b i
 exact(aM rfl c (g _ (by decide)) (by kernel_rfl) ⟨zL1,q⟩)
def wo(b:cq K A)(d:Dm K A.pair "inner" "Pair.inner" fA ["self"]):b_ P w K mg base (j+1) A.pair "inner" (ou A n (dJ A) A.pair) []:=by
 refine d.c_ kh lh q9 (λf i A a s H E e=>have r:=e.units;have m:=e.hd;have o:=kh
  (aE (aJ (aa (aA (aT K rfl (dv 0) (by rfl)) (aA (aT K rfl (dv 0) (by rfl)) aD)))))) ?_
 rintro ds Q ⟨p,rfl,l,t,q⟩
 have c:=b.cl _ (Pt.aq A p)
 have h:=b.d0 _ (Pt.aq A p)
 obtain⟨g,x,y,rfl⟩:=om b l
 exact(aM rfl c (h _ (by decide)) (by kernel_rfl) (aM rfl c (h _ (by decide)) (by kernel_rfl) ⟨zL2,q⟩))
def sJ(e:cq K A)(d:Dm K A.choice "inner" "Choice.inner" dQ ["self"]):b_ P w K mg base (j+1) A.choice "inner" (ou A n (dJ A) A.choice) []:=by
 refine d.c_ iO lh q9 (λf h A a s H E g=>have o:=g.units;have l:=g.hd;have m:=iO
  (aE (aJ (aa (aA (aT K rfl (dv 0) (by rfl)) (aA (aT K rfl (dv 0) (by rfl)) (aA (aT K rfl (dv 0) (by rfl)) aD))))))) ?_
 rintro ds Q ⟨p,rfl,i,r,q⟩
 have c:=e.cl _ (Pt.aq A p)
 have b:=e.d0 _ (Pt.aq A p)
 obtain⟨x,y,z,rfl⟩:=jZ e i
 exact(aM rfl c (b _ (by decide)) (by kernel_rfl) (aM rfl c (b _ (by decide)) (by kernel_rfl) (aM rfl c (b _ (by decide)) (by kernel_rfl) ⟨zL3,q⟩)))
def sI(b:cq K A)(d:Dm K A.before "inner" "Before.inner" dN ["self"]):b_ P w K mg base (j+1) A.before "inner" (ou A n (dJ A) A.before) []:=by
 refine d.c_ iM lh q9 (λf h A a s H E e=>have o:=e.units;have l:=e.hd;have m:=iM
  (aE (aJ (aa (aA (aT K rfl (dv 0) (by rfl)) aD))))) ?_
 rintro ds Q ⟨p,rfl,i,r,q⟩
 have c:=b.cl _ (Pt.aq A p)
 have g:=b.d0 _ (Pt.aq A p)
 obtain⟨x,f,rfl⟩:=jY b i
 exact(aM rfl c (g _ (by decide)) (by kernel_rfl) ⟨zL1,q⟩)
def zX(b:cq K A)(d:Dm K A.led "inner" "Led.inner" fm ["self"]):b_ P w K mg base (j+1) A.led "inner" (ou A n (dJ A) A.led) []:=by
 refine d.c_ mQ lh q9 (λf h A a s H E e=>have o:=e.units;have l:=e.hd;have m:=mQ
  (aE (aJ (aa (aA (aT K rfl (dv 0) (by rfl)) (aA (aT K rfl (dv 0) (by rfl)) aD)))))) ?_
 rintro ds Q ⟨p,rfl,i,r,q⟩
 have c:=b.cl _ (Pt.aq A p)
 have g:=b.d0 _ (Pt.aq A p)
 obtain⟨x,y,rfl⟩:=sM b i
 exact(aM rfl c (g _ (by decide)) (by kernel_rfl) (aM rfl c (g _ (by decide)) (by kernel_rfl) ⟨zL2,q⟩))
def zY(b:cq K A)(d:Dm K A.bY "inner" "When.inner" fD ["self"]):b_ P w K mg base (j+1) A.bY "inner" (ou A n (dJ A) A.bY) []:=by
 refine d.c_ km lh q9 (λf h A a s H E e=>have o:=e.units;have l:=e.hd;have m:=km
  (aE (aJ (aa (aA (aT K rfl (dv 0) (by rfl)) aD))))) ?_
 rintro ds Q ⟨p,rfl,i,r,q⟩
 have c:=b.cl _ (Pt.aq A p)
 have g:=b.d0 _ (Pt.aq A p)
 obtain⟨x,s,rfl⟩:=sN b i
 exact(aM rfl c (g _ (by decide)) (by kernel_rfl) ⟨zL1,q⟩)
def wm(b:cq K A)(d:Dm K A.held "inner" "Held.inner" eu ["self"]):b_ P w K mg base (j+1) A.held "inner" (ou A n (dJ A) A.held) []:=by
 refine d.c_ ka lh q9 (λf h A a s H E e=>have o:=e.units;have l:=e.hd;have m:=ka
  (aE (aJ (aa (aA (aT K rfl (dv 0) (by rfl)) aD))))) ?_
 rintro ds Q ⟨p,rfl,i,r,q⟩
 have c:=b.cl _ (Pt.aq A p)
 have g:=b.d0 _ (Pt.aq A p)
 obtain⟨x,s,f,rfl⟩:=oj b i
 exact(aM rfl c (g _ (by decide)) (by kernel_rfl) ⟨zL1,q⟩)
def nD(a:cq K A)(d:o6 K A)(n:Nat):MP P w K mg base A (j+1) "inner" n (dJ A):=fun C ⟨p,e⟩=>by
 subst e
 cases p
 ·exact u3 a d.given
 ·exact u4 a d.named
 ·exact sL a d.turned
 ·exact wo a d.pair
 ·exact sJ a d.choice
 ·exact sI a d.before
 ·exact zX a d.led
 ·exact zY a d.bY
 ·exact wm a d.held
def pC{m a:Str}{st:Stmt}{c:List Str}{g:Pt->D}(d:∀C,u6 A C->Dm K C m a st c)(h:∀n j,MP P w K mg base A (j+1) m n g->MP P w K mg base A (j+2) m (n+1) g):∀n,MP P w K mg base A (n+1) m n g
 | 0=>λC b=>(Dm.never (j:=1) (d C b) lh gK)
 |n+1=>h n n (pC d h n)
def DB(c:cq K A)(b:o6 K A)(d:∀C,u6 A C->Dm K C "size" "Part.size" bF ["self"])(a:mg "sum"=none)(n:Nat):MP P w K mg base A (n+1) "size" n λp=>.int p.size :=
 pC d (λn j h=>size_of d a (nD (j:=j) c b _) h) n
def zK(c:cq K A)(b:o6 K A)(d:∀C,u6 A C->Dm K C "depth" "Part.depth" ax ["self"])(a:mg "max"=none)(n:Nat):MP P w K mg base A (n+1) "depth" n λp=>.int p.depth :=
 pC d (λn j h=>BF d a (nD (j:=j) c b _) h) n
structure GI (mg:Str->Option Value) (x:Str) (i:Int):Prop where
 ex:∃t,mg x=some (.int i t)
def HF:cU:=λds Q=>∃i:Int,ds=[.int i]/\Q (.bl (decide (-128<=i)&&decide (i<=127)))
def C8:cU:=λds Q=>(∃i:Int,ds=[.int i]/\Q (.bl (decide (-128<=i)&&decide (i<=127))))\/∃b,ds=[.bl b]/\Q (.bl true)
def cy:sr "need_bounds":=by unfold sr;decide +kernel
def oG(p:Pt):Prop:=p.depth<=10/\p.size<=40
def ik(d:Df K mg "is_number" jD ["thing"])(a:mg "isinstance"=none)(r:mg "bool"=none)(t:mg "int"=none)(y:GI mg "LOWEST" (-128))(B:GI mg "HIGHEST" 127):bL P w K mg base (j+1) "is_number" ["thing"] HF:=by
 obtain⟨C,o⟩:=y.ex
 obtain⟨x,c⟩:=B.ex
 have p:RelV (.int (-128)) (.int (-128) C):=⟨_,rfl⟩
 have l:RelV (.int 127) (.int 127 x):=⟨_,rfl⟩
 have m:∀H,Dv K H (.int (-128)) (.int (-128)):=λ_=>.int _
 have b:∀H,Dv K H (.int 127) (.int 127):=λ_=>.int _
 refine d.c_ mn (fun ds P G g ⟨i,e,q⟩=>⟨i,e,g _ q⟩) (fun ds Q ⟨d,e,_⟩=>by rw[e];rfl) (λf z A u s H E v=>have F:=v.units;have I:=v.hd;have J:=mn
  (aH (bN (o_.td (w_or (cV (gR (by rfl) a (by rfl) r (dv 0))) (qW (qQ (cV (Ea (by rfl) a (by rfl) t (dv 0))))))) (aE (aJ pG)) aR)
 (aE (aJ (Hv (dH (by rfl) o p m) (dv 0) (dH (by rfl) c l b)))))) ?_
 rintro ds Q ⟨i,rfl,q⟩
 refine⟨_,rfl,false,rfl,_,rfl,aF ⟨_,rfl,true,rfl,_,rfl,aF ⟨_,rfl,_,rfl,?_⟩⟩⟩
 by_cases h:(-128:Int)<=i
 ·rw[decide_eq_true h] at q ⊢
  exact aS q
 ·rw[decide_eq_false h] at q ⊢
  exact aF q
def fN(d:Df K mg "is_value" lV ["thing"])(a:mg "isinstance"=none)(c:mg "bool"=none)(ik:bL P w K mg base j "is_number" ["thing"] HF):bL P w K mg base (j+1) "is_value" ["thing"] C8:=by
 refine d.c_ oN (λds P p g h=>h.elim (fun⟨i,e,q⟩=>.inl ⟨i,e,g _ q⟩) fun⟨i,e,q⟩=>.inr ⟨i,e,g _ q⟩) (λds Q h=>h.elim (fun⟨d,e,_⟩=>by rw[e];rfl) fun⟨d,e,_⟩=>by rw[e];rfl) (λf o A l s H E m=>have u:=m.units;have r:=m.hd;have t:=oN
  (aE (aJ (H_ (gR (by rfl) a (by rfl) c (dv 0)) (ff (aN ik m (by omega) (by rfl) (aA (dv 0) aD))))))) ?_
 rintro ds Q (⟨i,rfl,q⟩|⟨b,rfl,q⟩)
 ·exact⟨_,rfl,false,rfl,_,rfl,aF ⟨_,rfl,i,rfl,q⟩⟩
 ·exact⟨_,rfl,true,rfl,_,rfl,aS q⟩
def y_(d:∀C,u6 A C->Dm K C "need_bounds" "Part.need_bounds" aV ["self"])(i:MP P w K mg base A j "depth" n λp=>.int p.depth)(l:MP P w K mg base A j "size" n λp=>.int p.size)(u:GI mg "DEEPEST" 10)(x:GI mg "LARGEST" 40) :
  MQ P w K mg base A (j+1) "need_bounds" n oG λ_=>.ah:=by
 obtain⟨B,b⟩:=u.ex
 obtain⟨t,a⟩:=x.ex
 have e:RelV (.int 10) (.int 10 B):=⟨_,rfl⟩
 have g:RelV (.int 40) (.int 40 t):=⟨_,rfl⟩
 have c:∀H,Dv K H (.int 10) (.int 10):=λ_=>.int _
 have h:∀H,Dv K H (.int 40) (.int 40):=λ_=>.int _
 intro C y
 refine(d C y).c_ eV Of Oe (λf v A o s H E m=>have J:=m.units;have L:=m.hd;have M:=eV
  (aE (bN (o_.td (w_or (GC (eJ i m (by omega) (dv 0)) (dH (by rfl) b e c)) (qW (GC (eJ l m (by omega) (dv 0)) (dH (by rfl) a g h))))) (aE mM) aR))) ?_
 rintro ds Q ⟨p,rfl,N,r,G,q⟩
 obtain⟨h1,I⟩:=G
 have z:decide ((10:Int)<p.depth)=false:=decide_eq_false (by omega)
 have F:decide ((40:Int)<p.size)=false:=decide_eq_false (by omega)
 refine bQ (p:=p) gT rD ⟨_,rfl,rfl⟩ r ⟨_,rfl,?_⟩
 show if decide ((10:Int)<p.depth)=true then _ else _
 rw[z]
 refine aF (bQ (p:=p) gT vK ⟨_,rfl,rfl⟩ r ⟨_,rfl,?_⟩)
 show if decide ((40:Int)<p.size)=true then _ else _
 rw[F]
 exact aF q
def wj(o:uI K A.given)(m:eO K A.given "value")(d:Di K mg "Given" A.given "Given.__init__" d3 ["self","value"] [])(fN:bL P w K mg base j "is_value" ["thing"] C8) :
  qX P w K mg base (j+1) "Given" A.given (λds Q=>∃v,ds=[v]/\isVal v/\Q [("value",v)]) []:=by
 refine d.E3 f_ (fun ds P u g ⟨v,e,h,q⟩=>⟨v,e,h,g _ q⟩) (fun ds Q ⟨v,e,_⟩=>by rw[e];rfl) (λf t A c s H E l=>have z:=l.units;have x:=l.hd;have y:=f_
  (bU (lN (bN (qQ (cV (aN fN l (by omega) (by rfl) (aA (dv 1) aD)))) (aE mM) aR))
 (bU (cL K rfl rfl (PN rfl) (dv 1))
 Gs))) ?_
 rintro a ds Q ⟨v,rfl,r,q⟩
 rcases r with⟨b,rfl⟩|⟨i,rfl,h1,p⟩
 ·exact⟨_,rfl,.inr ⟨b,rfl,_,rfl,⟨_,rfl,rfl,o,m,(by decide),q⟩⟩⟩
 ·refine⟨_,rfl,.inl ⟨i,rfl,true,by simp[GJ,h1,p],⟨_,rfl,rfl,o,m,(by decide),q⟩⟩⟩
def tP:cU:=λds Q=>∃f,ds=[f]/\ef f/\Q .ah
def mI(f:Str)(d:D):∀a:FD,(putD f d a).length<=a.length+1
 |[]=>O2 _
 | (g,e)::r=>by
  unfold putD
  split
  ·exact Sf _
  ·exact TL (mI f d r)
def vU:([]:FD).length<1000:=by decide
def vV{f:Str}{d:D}:(putD f d []).length<1000:=Pg (mI f d []) (by decide)
def vW{f g:Str}{d e:D}:(putD f d (putD g e [])).length<1000:=Pg (PB (mI f d _) (TL (mI g e []))) (by decide)
def uy(l:cq K A)(d:Di K mg "Turned" A.turned "Turned.__init__" dS ["self","part"] [])(b:MQ P w K mg base A j "need_bounds" n oG λ_=>.ah) :
  qX P w K mg base (j+1) "Turned" A.turned (λds Q=>∃p:Pt,ds=[p.d A]/\(Pt.turned p).depth<=n/\oG (.turned p)/\Q [("part",p.d A)]) []:=by
 have x:=l.cl A.turned (by simp)
 have r:=l.d0 A.turned (by simp)
 refine d.E3 fZ (fun ds P y g ⟨v,e,h,o,q⟩=>⟨v,e,h,o,g _ q⟩) (fun ds Q ⟨v,e,_⟩=>by rw[e];rfl) (λf t A c s H E i=>have C:=i.units;have z:=i.hd;have B:=fZ
  (bU (cL K rfl rfl (PN rfl) (dv 1))
 (lO (aE (eS (eJ b i (by omega) (dv 0))))))) ?_
 rintro a ds Q ⟨p,rfl,u,m,q⟩
 exact⟨_,rfl,rfl,x,r _ (by decide),(by first|exact vU|exact vV|exact vW),rfl,d7 (p:=.turned p) gT cy ⟨_,rfl,rfl⟩ u m q⟩
def ux(r:cq K A)(d:Di K mg "Choice" A.choice "Choice.__init__" dP ["self","truth","one","other"] [])(b:MQ P w K mg base A j "need_bounds" n oG λ_=>.ah) :
  qX P w K mg base (j+1) "Choice" A.choice (λds Q=>∃t x y:Pt,ds=[t.d A,x.d A,y.d A]/\(Pt.choice t x y).depth<=n/\oG (.choice t x y)/\Q [("truth",t.d A),("one",x.d A),("other",y.d A)]) []:=by
 have m:=r.cl A.choice (by simp)
 have l:=r.d0 A.choice (by simp)
 refine d.E3 fY (fun ds P F g ⟨t,v,u,e,h,o,q⟩=>⟨t,v,u,e,h,o,g _ q⟩) (fun ds Q ⟨t,v,u,e,_⟩=>by rw[e];rfl) (λf B A c s H E i=>have J:=i.units;have G:=i.hd;have I:=fY
  (bU (cL K rfl rfl (PN rfl) (dv 1))
 (bU (cL K rfl rfl (PN rfl) (dv 2))
 (bU (cL K rfl rfl (PN rfl) (dv 3))
 (lO (aE (eS (eJ b i (by omega) (dv 0))))))))) ?_
 rintro a ds Q ⟨t,x,y,rfl,C,z,q⟩
 exact⟨_,rfl,rfl,m,l _ (by decide),(by first|exact vU|exact vV|exact vW),_,rfl,rfl,m,l _ (by decide),(by first|exact vU|exact vV|exact vW),_,rfl,rfl,m,l _ (by decide),(by first|exact vU|exact vV|exact vW),rfl,d7 (p:=.choice t x y) gT cy ⟨_,rfl,rfl⟩ C z q⟩
def Bg(l:cq K A)(d:Di K mg "Led" A.led "Led.__init__" fU ["self","head","rest"] [])(b:MQ P w K mg base A j "need_bounds" n oG λ_=>.ah) :
  qX P w K mg base (j+1) "Led" A.led (λds Q=>∃x y:Pt,ds=[x.d A,y.d A]/\(Pt.led x y).depth<=n/\oG (.led x y)/\Q [("head",x.d A),("rest",y.d A)]) []:=by
 have r:=l.cl A.led (by simp)
 have m:=l.d0 A.led (by simp)
 refine d.E3 iQ (fun ds P C g ⟨v,u,e,h,o,q⟩=>⟨v,u,e,h,o,g _ q⟩) (fun ds Q ⟨v,u,e,_⟩=>by rw[e];rfl) (λf z A c s H E i=>have I:=i.units;have F:=i.hd;have G:=iQ
  (bU (cL K rfl rfl (PN rfl) (dv 1))
 (bU (cL K rfl rfl (PN rfl) (dv 2))
 (lO (aE (eS (eJ b i (by omega) (dv 0)))))))) ?_
 rintro a ds Q ⟨x,y,rfl,B,t,q⟩
 exact⟨_,rfl,rfl,r,m _ (by decide),(by first|exact vU|exact vV|exact vW),_,rfl,rfl,r,m _ (by decide),(by first|exact vU|exact vV|exact vW),rfl,d7 (p:=.led x y) gT cy ⟨_,rfl,rfl⟩ B t q⟩
def dG(d:Df K mg "need_first" iC ["first"])(fN:bL P w K mg base j "is_value" ["thing"] C8):bL P w K mg base (j+1) "need_first" ["first"] tP:=by
 refine d.c_ lC (fun ds P p g ⟨f,e,h,q⟩=>⟨f,e,h,g _ q⟩) (fun ds Q ⟨f,e,_⟩=>by rw[e];rfl) (λf m A a s H E c=>have u:=c.units;have r:=c.hd;have t:=lC
  (aE (bN (o_.td (w_and (GG (dv 0) Gh) (jR (qQ (cV (aN fN c (by omega) (by rfl) (aA (dv 0) aD))))))) (aE mM) aR))) ?_
 rintro ds Q ⟨f,rfl,o,q⟩
 rcases o with rfl|⟨b,rfl⟩|⟨i,rfl,h1,l⟩
 ·exact⟨_,rfl,_,rfl,q⟩
 ·exact⟨_,rfl,_,rfl,_,rfl,.inr ⟨b,rfl,_,rfl,q⟩⟩
 ·exact⟨_,rfl,_,rfl,_,rfl,.inl ⟨i,rfl,true,by simp[GJ,h1,l],q⟩⟩
def uw(l:cq K A)(d:Di K mg "Before" A.before "Before.__init__" cN ["self","part","first"] [])(dG:bL P w K mg base j "need_first" ["first"] tP)(b:MQ P w K mg base A j "need_bounds" n oG λ_=>.ah) :
  qX P w K mg base (j+1) "Before" A.before (λds Q=>∃(p:Pt) (f:D),ds=[p.d A,f]/\ef f/\(Pt.before p f).depth<=n/\oG (.before p f)/\Q [("part",p.d A),("first",f)]) []:=by
 have r:=l.cl A.before (by simp)
 have m:=l.d0 A.before (by simp)
 refine d.E3 fW (fun ds P B g ⟨v,u,e,k,h,o,q⟩=>⟨v,u,e,k,h,o,g _ q⟩) (fun ds Q ⟨v,u,e,_⟩=>by rw[e];rfl) (λf x A i s H E c=>have G:=c.units;have C:=c.hd;have F:=fW
  (bU (lN (eS (aN dG c (by omega) (by rfl) (aA (dv 2) aD))))
 (bU (cL K rfl rfl (PN rfl) (dv 1))
 (bU (cL K rfl rfl (PN rfl) (dv 2))
 (lO (aE (eS (eJ b c (by omega) (dv 0))))))))) ?_
 rintro a ds Q ⟨p,f,rfl,y,z,t,q⟩
 exact⟨_,rfl,_,rfl,y,_,rfl,rfl,r,m _ (by decide),(by first|exact vU|exact vV|exact vW),_,rfl,rfl,r,m _ (by decide),(by first|exact vU|exact vV|exact vW),rfl,d7 (p:=.before p f) gT cy ⟨_,rfl,rfl⟩ z t q⟩
def EX(n:Str)(l:List Str):inD (.str n) (l.map D.str)=l.contains n:=by
 unfold inD
 rw[V1,List.contains_eq_any_beq]
 congr 1
 funext x
 show(x == n)=(n == x)
 exact Vp
def zQ(l:List Str):(l.map D.str).all bo=true:=by
 rw[RT]
 intro d a
 obtain⟨x,_,rfl⟩:=O_.mp a
 rfl
def gv:Str:="abcdefghijklmnopqrstuvwxyz"
def signs(x:Str):List Str:=x.cps.toList.map λc=>⟨#[c]⟩
def KQ(c:Str):Bool:=xX c gv
def qa(x:Str):Bool:=decide ((0:Int)<(x.length:Int))&&(signs x).all KQ
def eK(x:Str):Bool:=decide ((x.length:Int)<=8)&&qa x
def n0:List Str:=["module","in","out","row","use","end","number","truth","on","yes","no","not","and","or","if","before","then","when","held"]
def lG(x:Str):Bool:=eK x&&!n0.contains x
def dot:Str:="."
def fS(x:Str):Bool:=if decide (((QD x dot).length:Int)=1)=true then lG x else decide (((QD x dot).length:Int)<=4)&&(QD x dot).all eK
structure GD (K:j') (mg:Str->Option Value) (x:Str) (d:D):Prop where
 ex:∃v u,mg x=some u/\RelV v u/\∀H,Dv K H v d
def C5(g:Str->D):cU:=λds Q=>∃x:Str,ds=[.str x]/\x.length<=100000/\Q (g x)
def Mg{g:Str->D}:b9 (C5 g):=fun ds P a f ⟨x,e,h,q⟩=>⟨x,e,h,f _ q⟩
def Mf{g:Str->D}(ds:List D)(Q:D->Prop)(h:C5 g ds Q):ds.length=1:=by obtain⟨x,e,_⟩:=h;rw[e];rfl
def str_len{x:Str}(h:x.length<=100000):x.length<=sizeLine:=PB h (by decide)
def ly{Q:D->Prop}{a b:Bool}(e:a=b)(q:Q (.bl a)):Q (.bl b):=e ▸ q
def Bt:∀{l:List Nat} {a:Nat},a∈l->a<=l.sum
 |b::l,a,h=>by
  rw[Vl]
  rcases B'.mp h with rfl|h
  ·exact Qo _ _
  ·exact PB (Bt h) (Nat.le_add_left _ _)
def M8:D->D
 |.str z=>.bl (KQ z)
 |_=>.ah
def Kx:D->D
 |.str z=>.bl (eK z)
 |_=>.ah
def gE(d:Df K mg "has_letters" gI ["text"])(p:mg "len"=none)(l:mg "all"=none)(L:GD K mg "LETTERS" (.str gv)):bL P w K mg base (j+1) "has_letters" ["text"] (C5 λx=>.bl (qa x)):=by
 obtain⟨m,r,a,g,b⟩:=L.ex
 refine d.c_ jM Mg Mf (λf G A t s H E B=>have M:=B.units;have I:=B.hd;have N:=jM
  (aE (aJ (ip (Kj (lz (by rfl) p (aA (dv 0) aD)) aC) (ff (A7 I (by rfl) l (aA (zI (x:="sign") (caps:=[]) (cn:=[]) (cl:=[]) (nq (by rfl) (by rfl) (by decide +kernel) (by decide +kernel) (by decide +kernel)) rfl (ny (dv 0)) (λC y v u=>cT (i:=0) (show(["sign"]:List Str).Nodup by decide +kernel) rfl (PN rfl) (.inr rfl)) (λC y v u=>iF) (λC y v u=>(Hs (dv 0) (dH (by rfl) a g b) (by rfl)))) aD))))))) ?_
 rintro ds Q ⟨x,rfl,z,q⟩
 refine⟨_,rfl,_,_,rfl,if_pos (str_len z),_,rfl,?_⟩
 cases h:decide ((0:Int)<(x.length:Int)) with
 |false =>
  have e:qa x=false:=by unfold qa;rw[h];rfl
  exact aF (ly e q)
 |true =>
  have e:qa x=((signs x).map KQ).all id:=by unfold qa;rw[h,V2];rfl
  refine aS ⟨_,rfl,_,rfl,mO M8 (x.cps.toList.map λc=>.str ⟨#[c]⟩),w_,λi d o h1 F=>?_,?_,?_⟩
  ·obtain⟨J,rfl⟩:=By h1 F
   obtain⟨c,_,rfl⟩:=O_.mp J
   exact⟨rfl,λ_=>⟨_,rfl,_,rfl,rfl⟩⟩
  ·rw[G',PZ]
   exact Pg z (by decide)
  ·rw[sZ]
   refine⟨(signs x).map KQ,?_,ly e q⟩
   unfold signs
   rw[Pe,Pe,Pe]
   rfl
def cI(d:Df K mg "has_word_form" eT ["text"])(i:mg "len"=none)(g:GI mg "LONGEST_WORD" 8)(gE:bL P w K mg base j "has_letters" ["text"] (C5 λx=>.bl (qa x))) :
  bL P w K mg base (j+1) "has_word_form" ["text"] (C5 λx=>.bl (eK x)):=by
 obtain⟨r,c⟩:=g.ex
 have a:RelV (.int 8) (.int 8 r):=⟨_,rfl⟩
 have b:∀H,Dv K H (.int 8) (.int 8):=λ_=>.int _
 refine d.c_ gc Mg Mf (λf p A l s H E m=>have v:=m.units;have t:=m.hd;have u:=gc
  (aE (aJ (ip (Hu (lz (by rfl) i (aA (dv 0) aD)) (dH (by rfl) c a b)) (ff (aN gE m (by omega) (by rfl) (aA (dv 0) aD))))))) ?_
 rintro ds Q ⟨x,rfl,o,q⟩
 refine⟨_,rfl,_,_,rfl,if_pos (str_len o),_,rfl,?_⟩
 cases h:decide ((x.length:Int)<=8) with
 |false =>
  have e:eK x=false:=by unfold eK;rw[h];rfl
  exact aF (ly e q)
 |true =>
  have e:eK x=qa x:=by unfold eK;rw[h];rfl
  exact aS ⟨_,rfl,x,rfl,o,ly e q⟩
def m7(d:Df K mg "is_word" nU ["thing"])(p:GD K mg "KEPT_WORDS" (.tup (n0.map D.str)))(cI:bL P w K mg base j "has_word_form" ["text"] (C5 λx=>.bl (eK x))) :
  bL P w K mg base (j+1) "is_word" ["thing"] (C5 λx=>.bl (lG x)):=by
 obtain⟨g,i,a,c,b⟩:=p.ex
 refine d.c_ qK Mg Mf (λf r A l s H E m=>have v:=m.units;have t:=m.hd;have u:=qK
  (aE (aJ (ip (aN cI m (by omega) (by rfl) (aA (dv 0) aD)) (ff (EC (dv 0) (dH (by rfl) a c b) (by rfl))))))) ?_
 rintro ds Q ⟨x,rfl,o,q⟩
 refine⟨_,rfl,x,rfl,o,_,rfl,?_⟩
 cases h:eK x with
 |false =>
  have e:lG x=false:=by unfold lG;rw[h];rfl
  exact aF (ly e q)
 |true =>
  have e:lG x=!inD (.str x) (n0.map D.str):=by unfold lG;rw[h,EX];rfl
  exact aS ⟨_,rfl,rfl,zQ _,ly e q⟩
def m6(d:Df K mg "is_name" nS ["thing"])(m:mg "len"=none)(p:mg "all"=none)(g:GI mg "MOST_WORDS" 4)(m7:bL P w K mg base j "is_word" ["thing"] (C5 λx=>.bl (lG x)))
  (cI:bL P w K mg base j "has_word_form" ["text"] (C5 λx=>.bl (eK x))):bL P w K mg base (j+1) "is_name" ["thing"] (C5 λx=>.bl (fS x)):=by
 obtain⟨N,l⟩:=g.ex
 have b:RelV (.int 4) (.int 4 N):=⟨_,rfl⟩
 have a:∀H,Dv K H (.int 4) (.int 4):=λ_=>.int _
 refine d.c_ qJ Mg Mf (λf G A u s H E t=>have I:=t.units;have L:=t.hd;have M:=qJ
  (aH (bA (i:=1) M.nd rfl (PN rfl) (EG (dv 0) (aA aZ aD)))
 (aH (bN (bx I (lz (by rfl) m (aA (dv 1) aD)) aC) (aE (aJ (aN m7 t (by omega) (by rfl) (aA (dv 0) aD)))) aR)
 (aE (aJ (ip (Hu (lz (by rfl) m (aA (dv 1) aD)) (dH (by rfl) l b a)) (ff (A7 L (by rfl) p (aA (zI (x:="word") (caps:=[]) (cn:=[]) (cl:=[]) (nq (by rfl) (by rfl) (by decide +kernel) (by decide +kernel) (by decide +kernel)) rfl (ny (dv 1)) (λC B F z=>cT (i:=0) (show(["word"]:List Str).Nodup by decide +kernel) rfl (PN rfl) (.inr rfl)) (λC B F z=>iF) (λC B F z=>(aN cI t (by omega) (by rfl) (aA (dv 0) aD)))) aD))))))))) ?_
 rintro ds Q ⟨x,rfl,v,q⟩
 have J:=split_le x dot
 refine⟨_,rfl,⟨x,rfl⟩,x,dot,rfl,rfl,rfl,PB (Q1 v 2) (by decide),?_⟩
 refine⟨_,rfl,_,_,rfl,rfl,_,rfl,?_⟩
 show if decide ((((QD x dot).map D.str).length:Int)=1)=true then _ else _
 rw[G']
 cases h:decide (((QD x dot).length:Int)=1) with
 |true =>
  have e:fS x=lG x:=by unfold fS;rw[h];rfl
  exact aS ⟨_,rfl,x,rfl,v,ly e q⟩
 |false =>
  refine aF ⟨_,rfl,_,_,rfl,rfl,_,rfl,?_⟩
  show if decide ((((QD x dot).map D.str).length:Int)<=4)=true then _ else _
  rw[G']
  cases r:decide (((QD x dot).length:Int)<=4) with
  |false =>
   have e:fS x=false:=by unfold fS;rw[h,r];rfl
   exact aF (ly e q)
  |true =>
   have e:fS x=((QD x dot).map eK).all id:=by unfold fS;rw[h,r,V2];rfl
   refine aS ⟨_,rfl,_,rfl,mO Kx ((QD x dot).map D.str),w_,λi d o h1 r=>?_,?_,?_⟩
   ·obtain⟨O,rfl⟩:=By h1 r
    obtain⟨c,R,rfl⟩:=O_.mp O
    refine⟨rfl,λ_=>⟨_,rfl,c,rfl,?_,rfl⟩⟩
    have S:=split_weight x dot (by decide)
    have y:c.length∈(QD x dot).map (·.length):=O_.mpr ⟨c,R,rfl⟩
    have:=Bt y
    have T:=split_pos x dot
    omega
   ·rw[G']
    exact Pg J (Pg (Q1 v 2) (by decide))
   ·rw[sZ]
    refine⟨(QD x dot).map eK,?_,ly e q⟩
    rw[Pe,Pe]
    rfl
def Fu:cU:=λds Q=>∃x:Str,ds=[.str x]/\x.length<=100000/\fS x=true/\Q .ah
def cP(d:Df K mg "need_name" jF ["name"])(m6:bL P w K mg base j "is_name" ["thing"] (C5 λx=>.bl (fS x))):bL P w K mg base (j+1) "need_name" ["name"] Fu:=by
 refine d.c_ mq (fun ds P l f ⟨x,e,h,z,q⟩=>⟨x,e,h,z,f _ q⟩) (fun ds Q ⟨x,e,_⟩=>by rw[e];rfl) (λf g A a s H E b=>have p:=b.units;have m:=b.hd;have o:=mq
  (aE (bN (qQ (cV (aN m6 b (by omega) (by rfl) (aA (dv 0) aD)))) (aE mM) aR))) ?_
 rintro ds Q ⟨x,rfl,c,i,q⟩
 exact⟨_,rfl,x,rfl,c,true,congrArg some i,aF q⟩
def nn:D:=.tup [.str "number",.str "number"]
def nt:D:=.tup [.str "number",.str "truth"]
def tt:D:=.tup [.str "truth",.str "truth"]
def tV:List (Str × D):=[("+",nn),("-",nn),("*",nn),("=",.tup [.ah,.str "truth"]),("<",nt),("<=",nt),("and",tt),("or",tt)]
def jP:List Str:=["+","-","*","=","<","<=","and","or"]
def Fz{g:Str}(h:g∈jP):(if true=true then !tV.any λp=>p.1 == g else tV.any λp=>p.1 == g)=false:=by
 simp only[jP,B',C',or_false] at h
 rcases h with rfl|rfl|rfl|rfl|rfl|rfl|rfl|rfl<;>decide +kernel
def iY(x:Str):Prop:=fS x=true/\x.length<=100/\T8 x=true
def wk(i:cq K A)(d:Di K mg "Named" A.named "Named.__init__" d4 ["self","name"] [])(cP:bL P w K mg base j "need_name" ["name"] Fu) :
  qX P w K mg base (j+1) "Named" A.named (λds Q=>∃x:Str,ds=[.str x]/\iY x/\Q [("name",.str x)]) []:=by
 have p:=i.cl A.named (by simp)
 have o:=i.d0 A.named (by simp)
 refine d.E3 gA (fun ds P r g ⟨v,e,h,q⟩=>⟨v,e,h,g _ q⟩) (fun ds Q ⟨v,e,_⟩=>by rw[e];rfl) (λf m A b s H E c=>have z:=c.units;have t:=c.hd;have u:=gA
  (bU (lN (eS (aN cP c (by omega) (by rfl) (aA (dv 1) aD))))
 (bU (cL K rfl rfl (PN rfl) (dv 1))
 Gs))) ?_
 rintro a ds Q ⟨x,rfl,⟨h1,l,y⟩,q⟩
 exact⟨_,rfl,x,rfl,PB l (by decide),h1,_,rfl,rfl,p,o _ (by decide),(by first|exact vU|exact vV|exact vW),q⟩
def zW(l:cq K A)(d:Di K mg "When" A.bY "When.__init__" eR ["self","part","name"] [])(cP:bL P w K mg base j "need_name" ["name"] Fu)(b:MQ P w K mg base A j "need_bounds" n oG λ_=>.ah) :
  qX P w K mg base (j+1) "When" A.bY (λds Q=>∃(p:Pt) (x:Str),ds=[p.d A,.str x]/\iY x/\(Pt.bY p x).depth<=n/\oG (.bY p x)/\Q [("part",p.d A),("name",.str x)]) []:=by
 have r:=l.cl A.bY (by simp)
 have m:=l.d0 A.bY (by simp)
 refine d.E3 gZ (fun ds P C g ⟨v,u,e,k,h,o,q⟩=>⟨v,u,e,k,h,o,g _ q⟩) (fun ds Q ⟨v,u,e,_⟩=>by rw[e];rfl) (λf z A i s H E c=>have J:=c.units;have F:=c.hd;have G:=gZ
  (bU (lN (eS (aN cP c (by omega) (by rfl) (aA (dv 2) aD))))
 (bU (cL K rfl rfl (PN rfl) (dv 1))
 (bU (cL K rfl rfl (PN rfl) (dv 2))
 (lO (aE (eS (eJ b c (by omega) (dv 0))))))))) ?_
 rintro a ds Q ⟨p,x,rfl,⟨h1,t,I⟩,B,y,q⟩
 exact⟨_,rfl,x,rfl,PB t (by decide),h1,_,rfl,rfl,r,m _ (by decide),(by first|exact vU|exact vV|exact vW),_,rfl,rfl,r,m _ (by decide),(by first|exact vU|exact vV|exact vW),rfl,d7 (p:=.bY p x) gT cy ⟨_,rfl,rfl⟩ B y q⟩
def zU(t:cq K A)(d:Di K mg "Held" A.held "Held.__init__" ck ["self","part","name","first"] [])(cP:bL P w K mg base j "need_name" ["name"] Fu)(dG:bL P w K mg base j "need_first" ["first"] tP)
  (b:MQ P w K mg base A j "need_bounds" n oG λ_=>.ah) :
  qX P w K mg base (j+1) "Held" A.held (λds Q=>∃(p:Pt) (x:Str) (f:D),ds=[p.d A,.str x,f]/\iY x/\ef f/\(Pt.held p x f).depth<=n/\oG (.held p x f)/\Q [("part",p.d A),("name",.str x),("first",f)]) []:=by
 have r:=t.cl A.held (by simp)
 have m:=t.d0 A.held (by simp)
 refine d.E3 gX (fun ds P G g ⟨v,u,f,e,k,l,h,o,q⟩=>⟨v,u,f,e,k,l,h,o,g _ q⟩) (fun ds Q ⟨v,u,f,e,_⟩=>by rw[e];rfl) (λf B A i s H E c=>have M:=c.units;have I:=c.hd;have J:=gX
  (bU (lN (eS (aN cP c (by omega) (by rfl) (aA (dv 2) aD))))
 (bU (lN (eS (aN dG c (by omega) (by rfl) (aA (dv 3) aD))))
 (bU (cL K rfl rfl (PN rfl) (dv 1))
 (bU (cL K rfl rfl (PN rfl) (dv 2))
 (bU (cL K rfl rfl (PN rfl) (dv 3))
 (lO (aE (eS (eJ b c (by omega) (dv 0))))))))))) ?_
 rintro a ds Q ⟨p,x,f,rfl,⟨h1,y,L⟩,C,F,z,q⟩
 exact⟨_,rfl,x,rfl,PB y (by decide),h1,_,rfl,_,rfl,C,_,rfl,rfl,r,m _ (by decide),(by first|exact vU|exact vV|exact vW),_,rfl,rfl,r,m _ (by decide),(by first|exact vU|exact vV|exact vW),_,rfl,rfl,r,m _ (by decide),(by first|exact vU|exact vV|exact vW),rfl,d7 (p:=.held p x f) gT cy ⟨_,rfl,rfl⟩ F z q⟩
def zV{B:Addr}(t:cq K A)(d:Di K mg "Pair" A.pair "Pair.__init__" eQ ["self","sign","one","other"] [])(c:Du w K mg "SIGNS" B tV)(b:MQ P w K mg base A j "need_bounds" n oG λ_=>.ah) :
  qX P w K mg base (j+1) "Pair" A.pair (λds Q=>∃(g:Str) (x y:Pt),ds=[.str g,x.d A,y.d A]/\g∈jP/\(Pt.pair g x y).depth<=n/\oG (.pair g x y)/\Q [("sign",.str g),("one",x.d A),("other",y.d A)]) []:=by
 have r:=t.cl A.pair (by simp)
 have m:=t.d0 A.pair (by simp)
 refine d.E3 gY (fun ds P I g ⟨v,u,f,e,k,h,o,q⟩=>⟨v,u,f,e,k,h,o,g _ q⟩) (fun ds Q ⟨v,u,f,e,_⟩=>by rw[e];rfl) (λf F A i s H E l=>have M:=l.units;have J:=l.hd;have L:=gY
  (bU (lN (bN (DJ c (by rfl) (dv 1)) (aE mM) aR))
 (bU (cL K rfl rfl (PN rfl) (dv 1))
 (bU (cL K rfl rfl (PN rfl) (dv 2))
 (bU (cL K rfl rfl (PN rfl) (dv 3))
 (lO (aE (eS (eJ b l (by omega) (dv 0)))))))))) ?_
 rintro a ds Q ⟨g,x,y,rfl,z,G,C,q⟩
 exact⟨_,rfl,g,rfl,false,congrArg D.bl (Fz z),aF ⟨_,rfl,rfl,r,m _ (by decide),(by first|exact vU|exact vV|exact vW),_,rfl,rfl,r,m _ (by decide),(by first|exact vU|exact vV|exact vW),_,rfl,rfl,r,m _ (by decide),(by first|exact vU|exact vV|exact vW),rfl,d7 (p:=.pair g x y) gT cy ⟨_,rfl,rfl⟩ G C q⟩⟩
def sh(a b:Int):D:=.tup [.int a,.int b]
def mv:List (Str × D):=[("given",sh 2 0),("named",sh 2 0),("not",sh 2 1),("if",sh 4 3),("before",sh 3 1),("then",sh 3 2),("when",sh 3 1),("held",sh 4 1)]
def Pt.ok:Pt->Prop
 |.given v=>isVal v
 |.named s=>iY s
 |.turned p=>p.ok
 |.pair g a b=>g∈jP/\a.ok/\b.ok
 |.choice t a b=>t.ok/\a.ok/\b.ok
 |.before p f=>p.ok/\ef f
 |.led h r=>h.ok/\r.ok
 |.bY p s=>p.ok/\iY s
 |.held p s f=>p.ok/\iY s/\ef f
def Pt.pW:Pt->Bool
 |.pair _ _ _=>true
 |_=>false
def Pt.isPlain:Pt->Bool
 |.given _=>true|.named _=>true|.turned _=>true|.choice _ _ _=>true|_=>false
def Pt.La{p q:Pt}(h:q∈p.inner)(o:p.ok):q.ok:=by
 cases p<;>simp only[Pt.inner,Pt.ok,B',C',or_false] at h o
 case turned=>subst h;exact o
 case pair=>rcases h with rfl|rfl<;>simp only[o]
 case choice=>rcases h with rfl|rfl|rfl<;>simp only[o]
 case before=>subst h;exact o.1
 case led=>rcases h with rfl|rfl<;>simp only[o]
 case bY=>subst h;exact o.1
 case held=>subst h;exact o.1
def tS(ok:Pt->Prop)(g:Pt->D):cU:=λds Q=>∃p:Pt,ds=[p.told]/\ok p/\Q (g p)
def LK{ok:Pt->Prop}{g:Pt->D}:b9 (tS ok g):=fun ds P a f ⟨p,e,h,q⟩=>⟨p,e,h,f _ q⟩
def LA{ok:Pt->Prop}{g:Pt->D}(ds:List D)(Q:D->Prop)(h:tS ok g ds Q):ds.length=1:=by obtain⟨x,e,_⟩:=h;rw[e];rfl
def xS(A:bq)(n:Nat)(b:Bool):cU:=λds Q=>∃p:Pt,ds=[p.told,.lst (p.inner.map (Pt.d A))]/\p.pW=false/\p.isPlain=b/\p.ok/\oG p/\p.depth<=n/\Q (p.d A)
def AJ(A:bq)(n:Nat):cU:=λds Q=>∃p:Pt,ds=[p.told]/\p.depth<=n/\p.ok/\oG p/\Q (p.d A)
def NP{A:bq}{n:Nat}:b9 (AJ A n):=fun ds P a f ⟨p,e,h,o,b,q⟩=>⟨p,e,h,o,b,f _ q⟩
def LG{A:bq}{n:Nat}{b:Bool}:b9 (xS A n b):=fun ds P a f ⟨p,e,h,o,b,i,d,q⟩=>⟨p,e,h,o,b,i,d,f _ q⟩
def CC{g:Str}(h:g∈jP):(if false=true then !mv.any λp=>p.1 == g else mv.any λp=>p.1 == g)=false:=by
 simp only[jP,B',C',or_false] at h
 rcases h with rfl|rfl|rfl|rfl|rfl|rfl|rfl|rfl<;>decide +kernel
def eI{h:Addr}(d:Df K mg "has_shape" jC ["told"])(b:mg "len"=none)(a:Du w K mg "SHAPES" h mv):bL P w K mg base (j+1) "has_shape" ["told"] (tS Pt.ok λp=>.bl (!p.pW)):=by
 refine d.c_ mm LK LA (λf l A c s H E e=>have m:=e.units;have o:=e.hd;have r:=mm
  (aE (aJ (ip (Kk a (by rfl) (aU (dv 0) aC (λ_ _=>rfl))) (ff (qY m (lz (by rfl) b (aA (dv 0) aD)) (aU (A9 a (by rfl) (aU (dv 0) aC (λ_ _=>rfl)) (λ_ _=>rfl)) aC (λ_ _=>rfl)))))))) ?_
 rintro ds Q ⟨p,rfl,i,q⟩
 cases p with
 |given v=>exact⟨_,rfl,_,rfl,"given",rfl,true,congrArg D.bl (by decide +kernel),aS ⟨_,rfl,_,_,rfl,rfl,_,rfl,_,rfl,"given",sh 2 0,rfl,(by kernel_rfl),_,rfl,q⟩⟩
 |named s=>exact⟨_,rfl,_,rfl,"named",rfl,true,congrArg D.bl (by decide +kernel),aS ⟨_,rfl,_,_,rfl,rfl,_,rfl,_,rfl,"named",sh 2 0,rfl,(by kernel_rfl),_,rfl,q⟩⟩
 |turned x=>exact⟨_,rfl,_,rfl,"not",rfl,true,congrArg D.bl (by decide +kernel),aS ⟨_,rfl,_,_,rfl,rfl,_,rfl,_,rfl,"not",sh 2 1,rfl,(by kernel_rfl),_,rfl,q⟩⟩
 |pair g x y=>exact⟨_,rfl,_,rfl,g,rfl,false,congrArg D.bl (CC i.1),aF q⟩
 |choice x y z=>exact⟨_,rfl,_,rfl,"if",rfl,true,congrArg D.bl (by decide +kernel),aS ⟨_,rfl,_,_,rfl,rfl,_,rfl,_,rfl,"if",sh 4 3,rfl,(by kernel_rfl),_,rfl,q⟩⟩
 |before x f=>exact⟨_,rfl,_,rfl,"before",rfl,true,congrArg D.bl (by decide +kernel),aS ⟨_,rfl,_,_,rfl,rfl,_,rfl,_,rfl,"before",sh 3 1,rfl,(by kernel_rfl),_,rfl,q⟩⟩
 |led x y=>exact⟨_,rfl,_,rfl,"then",rfl,true,congrArg D.bl (by decide +kernel),aS ⟨_,rfl,_,_,rfl,rfl,_,rfl,_,rfl,"then",sh 3 2,rfl,(by kernel_rfl),_,rfl,q⟩⟩
 |bY x s=>exact⟨_,rfl,_,rfl,"when",rfl,true,congrArg D.bl (by decide +kernel),aS ⟨_,rfl,_,_,rfl,rfl,_,rfl,_,rfl,"when",sh 3 1,rfl,(by kernel_rfl),_,rfl,q⟩⟩
 |held x s f=>exact⟨_,rfl,_,rfl,"held",rfl,true,congrArg D.bl (by decide +kernel),aS ⟨_,rfl,_,_,rfl,rfl,_,rfl,_,rfl,"held",sh 4 1,rfl,(by kernel_rfl),_,rfl,q⟩⟩
def lI(d:Df K mg "plain_by" lW ["told","inner"])
  {i:Nat}(L:i+1<=j)
  (h:qX P w K mg base i "Given" A.given (λds Q=>∃v,ds=[v]/\isVal v/\Q [("value",v)]) [])
  (c:qX P w K mg base i "Named" A.named (λds Q=>∃x:Str,ds=[.str x]/\iY x/\Q [("name",.str x)]) [])
  (b:qX P w K mg base i "Turned" A.turned (λds Q=>∃p:Pt,ds=[p.d A]/\(Pt.turned p).depth<=n/\oG (.turned p)/\Q [("part",p.d A)]) [])
  (a:qX P w K mg base i "Choice" A.choice (λds Q=>∃t x y:Pt,ds=[t.d A,x.d A,y.d A]/\(Pt.choice t x y).depth<=n/\oG (.choice t x y)/\Q [("truth",t.d A),("one",x.d A),("other",y.d A)]) [])
  : bL P w K mg base (j+1) "plain_by" ["told","inner"] (xS A n true):=by
 refine d.c_ oO LG (fun ds Q ⟨x,e,_⟩=>by rw[e];rfl) (λf G A o s H E l=>have r:=l.units;have J:=l.hd;have F:=oO
  (aH (bA (i:=2) F.nd rfl (PN rfl) (aU (dv 0) aC (λ_ _=>rfl)))
 (aH (bN (bx r (dv 2) aZ) (aE (aJ (rp h l (by omega) (by rfl) (aA (aU (dv 0) aC (λ_ _=>rfl)) aD)))) aR)
 (aH (bN (bx r (dv 2) aZ) (aE (aJ (rp c l (by omega) (by rfl) (aA (aU (dv 0) aC (λ_ _=>rfl)) aD)))) aR)
 (aH (bN (bx r (dv 2) aZ) (aE (aJ (rp b l (by omega) (by rfl) (aA (aU (dv 1) aC (λ_ _=>rfl)) aD)))) aR)
 (aE (aJ (rp a l (by omega) (by rfl) (aA (aU (dv 1) aC (λ_ _=>rfl)) (aA (aU (dv 1) aC (λ_ _=>rfl)) (aA (aU (dv 1) aC (λ_ _=>rfl)) aD))))))))))) ?_
 rintro ds Q ⟨p,rfl,I,m,B,u,C,q⟩
 cases p with
 |given v=>exact⟨_,rfl,_,rfl,⟨_,rfl,true,congrArg D.bl (by decide +kernel),aS ⟨_,rfl,_,rfl,v,rfl,B,q⟩⟩⟩
 |named s=>exact⟨_,rfl,_,rfl,⟨_,rfl,false,congrArg D.bl (by decide +kernel),aF ⟨_,rfl,true,congrArg D.bl (by decide +kernel),aS ⟨_,rfl,_,rfl,s,rfl,B,q⟩⟩⟩⟩
 |turned x=>exact⟨_,rfl,_,rfl,⟨_,rfl,false,congrArg D.bl (by decide +kernel),aF ⟨_,rfl,false,congrArg D.bl (by decide +kernel),aF ⟨_,rfl,true,congrArg D.bl (by decide +kernel),aS ⟨_,rfl,_,rfl,x,rfl,C,u,q⟩⟩⟩⟩⟩
 |pair g x y=>cases I
 |choice x y z=>exact⟨_,rfl,_,rfl,⟨_,rfl,false,congrArg D.bl (by decide +kernel),aF ⟨_,rfl,false,congrArg D.bl (by decide +kernel),aF ⟨_,rfl,false,congrArg D.bl (by decide +kernel),aF ⟨_,rfl,_,rfl,_,rfl,_,rfl,_,rfl,_,rfl,x,y,z,rfl,C,u,q⟩⟩⟩⟩⟩
 |before x f=>cases m
 |led x y=>cases m
 |bY x s=>cases m
 |held x s f=>cases m
def lJ(d:Df K mg "timed_by" lX ["told","inner"])
  {i:Nat}(J:i+1<=j)
  (a:qX P w K mg base i "Before" A.before (λds Q=>∃(p:Pt) (f:D),ds=[p.d A,f]/\ef f/\(Pt.before p f).depth<=n/\oG (.before p f)/\Q [("part",p.d A),("first",f)]) [])
  (h:qX P w K mg base i "Led" A.led (λds Q=>∃x y:Pt,ds=[x.d A,y.d A]/\(Pt.led x y).depth<=n/\oG (.led x y)/\Q [("head",x.d A),("rest",y.d A)]) [])
  (c:qX P w K mg base i "When" A.bY (λds Q=>∃(p:Pt) (x:Str),ds=[p.d A,.str x]/\iY x/\(Pt.bY p x).depth<=n/\oG (.bY p x)/\Q [("part",p.d A),("name",.str x)]) [])
  (b:qX P w K mg base i "Held" A.held (λds Q=>∃(p:Pt) (x:Str) (f:D),ds=[p.d A,.str x,f]/\iY x/\ef f/\(Pt.held p x f).depth<=n/\oG (.held p x f)/\Q [("part",p.d A),("name",.str x),("first",f)]) [])
  : bL P w K mg base (j+1) "timed_by" ["told","inner"] (xS A n false):=by
 refine d.c_ oP LG (fun ds Q ⟨x,e,_⟩=>by rw[e];rfl) (λf F A u s H E l=>have B:=l.units;have I:=l.hd;have C:=oP
  (aH (bA (i:=2) C.nd rfl (PN rfl) (aU (dv 0) aC (λ_ _=>rfl)))
 (aH (bN (bx B (dv 2) aZ) (aE (aJ (rp a l (by omega) (by rfl) (aA (aU (dv 1) aC (λ_ _=>rfl)) (aA (aU (dv 0) aC (λ_ _=>rfl)) aD))))) aR)
 (aH (bN (bx B (dv 2) aZ) (aE (aJ (rp h l (by omega) (by rfl) (aA (aU (dv 1) aC (λ_ _=>rfl)) (aA (aU (dv 1) aC (λ_ _=>rfl)) aD))))) aR)
 (aH (bN (bx B (dv 2) aZ) (aE (aJ (rp c l (by omega) (by rfl) (aA (aU (dv 1) aC (λ_ _=>rfl)) (aA (aU (dv 0) aC (λ_ _=>rfl)) aD))))) aR)
 (aE (aJ (rp b l (by omega) (by rfl) (aA (aU (dv 1) aC (λ_ _=>rfl)) (aA (aU (dv 0) aC (λ_ _=>rfl)) (aA (aU (dv 0) aC (λ_ _=>rfl)) aD))))))))))) ?_
 rintro ds Q ⟨p,rfl,G,m,r,o,t,q⟩
 cases p with
 |given v=>cases m
 |named s=>cases m
 |turned x=>cases m
 |pair g x y=>cases G
 |choice x y z=>cases m
 |before x f=>exact⟨_,rfl,_,rfl,⟨_,rfl,true,congrArg D.bl (by decide +kernel),aS ⟨_,rfl,_,rfl,_,rfl,_,rfl,x,f,rfl,r.2,t,o,q⟩⟩⟩
 |led x y=>exact⟨_,rfl,_,rfl,⟨_,rfl,false,congrArg D.bl (by decide +kernel),aF ⟨_,rfl,true,congrArg D.bl (by decide +kernel),aS ⟨_,rfl,_,rfl,_,rfl,_,rfl,x,y,rfl,t,o,q⟩⟩⟩⟩
 |bY x s=>exact⟨_,rfl,_,rfl,⟨_,rfl,false,congrArg D.bl (by decide +kernel),aF ⟨_,rfl,false,congrArg D.bl (by decide +kernel),aF ⟨_,rfl,true,congrArg D.bl (by decide +kernel),aS ⟨_,rfl,_,rfl,_,rfl,_,rfl,x,s,rfl,r.2,t,o,q⟩⟩⟩⟩⟩
 |held x s f=>exact⟨_,rfl,_,rfl,⟨_,rfl,false,congrArg D.bl (by decide +kernel),aF ⟨_,rfl,false,congrArg D.bl (by decide +kernel),aF ⟨_,rfl,false,congrArg D.bl (by decide +kernel),aF ⟨_,rfl,_,rfl,_,rfl,_,rfl,_,rfl,_,rfl,x,s,f,rfl,r.2.1,r.2.2,t,o,q⟩⟩⟩⟩⟩
def Nd(x:D)(xs:List D):HT.dF (x::xs).length 0 (some 1)=1:=by
 rw[show(1:Int)=((1:Nat):Int) from rfl,HT.Fs,Pb]
 omega
def gz{x:D}{xs:List D}{R:Prop}:¬ (HT.dF (x::xs).length 0 (some 1)=0/\R):=λz=>by
 rw[Nd] at z
 exact absurd z.1 (by decide)
def g6(p:Pt):(p.inner.map λq=>some (q.d A)).length=(p.inner.map Pt.told).length:=by simp
def ei{caps:List Nat}{δ:SD}(p:Pt)(l:p.depth<=n+1)(h:p.ok)(f:oG p)(i:Nat)(d:D)(o:Option D)(h1:(p.inner.map Pt.told)[i]?=some d)(c:(p.inner.map λq=>some (q.d A))[i]?=some o) :
  GL (some d::kI caps δ) λb=>b=o.isSome/\(b=true->gD (AJ A n) (ao (au 0) bG) (some d::kI caps δ) λy=>o=some y):=by
 rw[O7] at h1 c
 cases e:p.inner[i]? with
 |none=>rw[e] at h1;cases h1
 |some r =>
  rw[e] at h1 c
  cases h1
  cases c
  have a:=PY e
  have g:=Pt.EW a
  have m:=p.l_ a (n:=p.depth - 1) (by omega)
  exact⟨rfl,λ_=>⟨_,rfl,r,rfl,p.l_ a l,Pt.La a h,⟨by have:=f.1;omega,PB g f.2⟩,rfl⟩⟩
def of_lt(p:Pt):(p.inner.map Pt.told).length<sizeLine:=by rw[G'];exact Pg p.nE (by decide)
def g9(p:Pt):(p.inner.map λq=>some (q.d A)).filterMap id=p.inner.map (Pt.d A):=by rw[Rl,filterMap_some]
def gF{h:Addr}(d:Df K mg "many_within" gJ ["told"])(a:Du w K mg "SHAPES" h mv)(eI:bL P w K mg base j "has_shape" ["told"] (tS Pt.ok λp=>.bl (!p.pW))):bL P w K mg base (j+1) "many_within" ["told"] (tS Pt.ok λp=>.int p.inner.length):=by
 refine d.c_ jN LK LA (λf i A c s H E e=>have o:=e.units;have l:=e.hd;have m:=jN
  (aE (aJ (EA (cV (aN eI e (by omega) (by rfl) (aA (dv 0) aD))) (aU (A9 a (by rfl) (aU (dv 0) aC (λ_ _=>rfl)) (λ_ _=>rfl)) aC (λ_ _=>rfl)) aC)))) ?_
 rintro ds Q ⟨p,rfl,b,q⟩
 cases p with
 |given v=>exact⟨_,rfl,.given v,rfl,b,_,rfl,aS ⟨_,rfl,_,rfl,"given",sh 2 0,rfl,(by kernel_rfl),_,rfl,q⟩⟩
 |named s=>exact⟨_,rfl,.named s,rfl,b,_,rfl,aS ⟨_,rfl,_,rfl,"named",sh 2 0,rfl,(by kernel_rfl),_,rfl,q⟩⟩
 |turned x=>exact⟨_,rfl,.turned x,rfl,b,_,rfl,aS ⟨_,rfl,_,rfl,"not",sh 2 1,rfl,(by kernel_rfl),_,rfl,q⟩⟩
 |pair g x y=>exact⟨_,rfl,.pair g x y,rfl,b,_,rfl,aF q⟩
 |choice x y z=>exact⟨_,rfl,.choice x y z,rfl,b,_,rfl,aS ⟨_,rfl,_,rfl,"if",sh 4 3,rfl,(by kernel_rfl),_,rfl,q⟩⟩
 |before x f=>exact⟨_,rfl,.before x f,rfl,b,_,rfl,aS ⟨_,rfl,_,rfl,"before",sh 3 1,rfl,(by kernel_rfl),_,rfl,q⟩⟩
 |led x y=>exact⟨_,rfl,.led x y,rfl,b,_,rfl,aS ⟨_,rfl,_,rfl,"then",sh 3 2,rfl,(by kernel_rfl),_,rfl,q⟩⟩
 |bY x s=>exact⟨_,rfl,.bY x s,rfl,b,_,rfl,aS ⟨_,rfl,_,rfl,"when",sh 3 1,rfl,(by kernel_rfl),_,rfl,q⟩⟩
 |held x s f=>exact⟨_,rfl,.held x s f,rfl,b,_,rfl,aS ⟨_,rfl,_,rfl,"held",sh 4 1,rfl,(by kernel_rfl),_,rfl,q⟩⟩
def zx{i m N:Nat}(O:i+1<=j)(L:n<=N)(d:Df K mg "part_of" kG ["told"])(gF:bL P w K mg base j "many_within" ["told"] (tS Pt.ok λp=>.int p.inner.length))(eI:bL P w K mg base j "has_shape" ["told"] (tS Pt.ok λp=>.bl (!p.pW)))
  (l:bL P w K mg base j "part_of" ["told"] (AJ A m))(M:n<=m+1)
  (lI:bL P w K mg base j "plain_by" ["told","inner"] (xS A N true))(lJ:bL P w K mg base j "timed_by" ["told","inner"] (xS A N false))
  (o:qX P w K mg base i "Pair" A.pair (λds Q=>∃(g:Str) (x y:Pt),ds=[.str g,x.d A,y.d A]/\g∈jP/\(Pt.pair g x y).depth<=N/\oG (.pair g x y)/\Q [("sign",.str g),("one",x.d A),("other",y.d A)]) [])
  : bL P w K mg base (j+1) "part_of" ["told"] (AJ A n):=by
 refine d.c_ qL NP (fun ds Q ⟨x,e,_⟩=>by rw[e];rfl) (λf I A t s H E r=>have R:=r.units;have S:=r.hd;have J:=qL
  (aH (Jk (i:=1) J.nd rfl (PN rfl) (x:="one") (caps:=[]) (cn:=[]) (cl:=[]) (nq (by rfl) (by rfl) (by decide +kernel) (by decide +kernel) (by decide +kernel)) rfl (ny (oi (dv 0) (p7 aC) (p7 (aj aC (aN gF r (by omega) (by rfl) (aA (dv 0) aD)))))) (λC F B u=>cT (i:=0) (show(["one"]:List Str).Nodup by decide +kernel) rfl (PN rfl) (.inr rfl)) (λC F B u=>iF) (λC F B u=>(aN l r (by omega) (by rfl) (aA (dv 0) aD))))
 (aH (bN (qQ (cV (aN eI r (by omega) (by rfl) (aA (dv 0) aD)))) (aE (aJ (rp o r (by omega) (by rfl) (aA (aU (dv 0) aC (λ_ _=>rfl)) (aA (aU (dv 1) aC (λ_ _=>rfl)) (aA (aU (dv 1) aC (λ_ _=>rfl)) aD)))))) aR)
 (aH (bN (GF (aU (dv 0) aC (λ_ _=>rfl)) (aa (bg (by rfl))) (by rfl)) (aE (aJ (aN lI r (by omega) (by rfl) (aA (dv 0) (aA (dv 1) aD))))) aR)
 (aE (aJ (aN lJ r (by omega) (by rfl) (aA (dv 0) (aA (dv 1) aD))))))))) ?_
 rintro ds Q ⟨p,rfl,G,a,h,q⟩
 have b:p.depth<=m+1:=PB G M
 have c:p.depth<=N:=PB G L
 cases p with
 |given v =>
  refine⟨_,rfl,_,rfl,_,rfl,.given v,rfl,a,_,rfl,gz,(Pt.given v).inner.map Pt.told,rfl,_,g6 (.given v),ei (.given v) b a h,of_lt (.given v),?_⟩
  rw[g9]
  exact⟨_,rfl,.given v,rfl,a,_,rfl,aF ⟨_,rfl,_,rfl,(by decide),rfl,(by decide),true,congrArg D.bl (by decide +kernel),aS ⟨_,rfl,_,rfl,.given v,rfl,rfl,rfl,a,h,c,q⟩⟩⟩
 |named s =>
  refine⟨_,rfl,_,rfl,_,rfl,.named s,rfl,a,_,rfl,gz,(Pt.named s).inner.map Pt.told,rfl,_,g6 (.named s),ei (.named s) b a h,of_lt (.named s),?_⟩
  rw[g9]
  exact⟨_,rfl,.named s,rfl,a,_,rfl,aF ⟨_,rfl,_,rfl,(by decide),rfl,(by decide),true,congrArg D.bl (by decide +kernel),aS ⟨_,rfl,_,rfl,.named s,rfl,rfl,rfl,a,h,c,q⟩⟩⟩
 |turned x =>
  refine⟨_,rfl,_,rfl,_,rfl,.turned x,rfl,a,_,rfl,gz,(Pt.turned x).inner.map Pt.told,rfl,_,g6 (.turned x),ei (.turned x) b a h,of_lt (.turned x),?_⟩
  rw[g9]
  exact⟨_,rfl,.turned x,rfl,a,_,rfl,aF ⟨_,rfl,_,rfl,(by decide),rfl,(by decide),true,congrArg D.bl (by decide +kernel),aS ⟨_,rfl,_,rfl,.turned x,rfl,rfl,rfl,a,h,c,q⟩⟩⟩
 |pair g x y =>
  refine⟨_,rfl,_,rfl,_,rfl,.pair g x y,rfl,a,_,rfl,gz,(Pt.pair g x y).inner.map Pt.told,rfl,_,g6 (.pair g x y),ei (.pair g x y) b a h,of_lt (.pair g x y),?_⟩
  rw[g9]
  exact⟨_,rfl,.pair g x y,rfl,a,_,rfl,aS ⟨_,rfl,_,rfl,_,rfl,_,rfl,_,rfl,_,rfl,g,x,y,rfl,a.1,c,h,q⟩⟩
 |choice x y z =>
  refine⟨_,rfl,_,rfl,_,rfl,.choice x y z,rfl,a,_,rfl,gz,(Pt.choice x y z).inner.map Pt.told,rfl,_,g6 (.choice x y z),ei (.choice x y z) b a h,of_lt (.choice x y z),?_⟩
  rw[g9]
  exact⟨_,rfl,.choice x y z,rfl,a,_,rfl,aF ⟨_,rfl,_,rfl,(by decide),rfl,(by decide),true,congrArg D.bl (by decide +kernel),aS ⟨_,rfl,_,rfl,.choice x y z,rfl,rfl,rfl,a,h,c,q⟩⟩⟩
 |before x f =>
  refine⟨_,rfl,_,rfl,_,rfl,.before x f,rfl,a,_,rfl,gz,(Pt.before x f).inner.map Pt.told,rfl,_,g6 (.before x f),ei (.before x f) b a h,of_lt (.before x f),?_⟩
  rw[g9]
  exact⟨_,rfl,.before x f,rfl,a,_,rfl,aF ⟨_,rfl,_,rfl,(by decide),rfl,(by decide),false,congrArg D.bl (by decide +kernel),aF ⟨_,rfl,_,rfl,.before x f,rfl,rfl,rfl,a,h,c,q⟩⟩⟩
 |led x y =>
  refine⟨_,rfl,_,rfl,_,rfl,.led x y,rfl,a,_,rfl,gz,(Pt.led x y).inner.map Pt.told,rfl,_,g6 (.led x y),ei (.led x y) b a h,of_lt (.led x y),?_⟩
  rw[g9]
  exact⟨_,rfl,.led x y,rfl,a,_,rfl,aF ⟨_,rfl,_,rfl,(by decide),rfl,(by decide),false,congrArg D.bl (by decide +kernel),aF ⟨_,rfl,_,rfl,.led x y,rfl,rfl,rfl,a,h,c,q⟩⟩⟩
 |bY x s =>
  refine⟨_,rfl,_,rfl,_,rfl,.bY x s,rfl,a,_,rfl,gz,(Pt.bY x s).inner.map Pt.told,rfl,_,g6 (.bY x s),ei (.bY x s) b a h,of_lt (.bY x s),?_⟩
  rw[g9]
  exact⟨_,rfl,.bY x s,rfl,a,_,rfl,aF ⟨_,rfl,_,rfl,(by decide),rfl,(by decide),false,congrArg D.bl (by decide +kernel),aF ⟨_,rfl,_,rfl,.bY x s,rfl,rfl,rfl,a,h,c,q⟩⟩⟩
 |held x s f =>
  refine⟨_,rfl,_,rfl,_,rfl,.held x s f,rfl,a,_,rfl,gz,(Pt.held x s f).inner.map Pt.told,rfl,_,g6 (.held x s f),ei (.held x s f) b a h,of_lt (.held x s f),?_⟩
  rw[g9]
  exact⟨_,rfl,.held x s f,rfl,a,_,rfl,aF ⟨_,rfl,_,rfl,(by decide),rfl,(by decide),false,congrArg D.bl (by decide +kernel),aF ⟨_,rfl,_,rfl,.held x s f,rfl,rfl,rfl,a,h,c,q⟩⟩⟩
def mx{x y:Str}(h:x.cps.toList=y.cps.toList):x=y:=by
 obtain⟨⟨a⟩⟩:=x
 obtain⟨⟨b⟩⟩:=y
 have:a=b:=h
 rw[this]
def bR(x y:Str):(x++y).cps.toList=x.cps.toList++y.cps.toList:=by
 show(x.cps++y.cps).toList=_
 exact Array.toList_append
def kC(x:Str):x.length=x.cps.toList.length:=by
 show x.cps.size=_
 exact PZ.symm
def gj(x y:Str):(x++y).length=x.length+y.length:=by rw[kC,bR,O4,<- kC,<- kC]
def A6{c:Nat}:∀{a b r s:List Nat},c∉a->c∉b->a++c::r=b++c::s->a=b/\r=s
 |[],[],r,s,_,_,h=>⟨rfl,by simpa using h⟩
 |[],y::b,r,s,_,e,h=>by
  have:c=y:=by simpa using (TQ h).1
  exact(e (by rw[this];exact D')).elim
 |x::a,[],r,s,f,_,h=>by
  have:x=c:=by simpa using (TQ h).1
  exact(f (by rw[this];exact D')).elim
 |x::a,y::b,r,s,f,e,h=>by
  obtain⟨i,g⟩:=TQ h
  obtain⟨l,o⟩:=A6 (λm=>f (O5 _ m)) (λm=>e (O5 _ m)) g
  exact⟨by rw[i,l],o⟩
def jl(c:Nat):List (List Nat)->List Nat
 |[]=>[]
 |[a]=>a
 |a::b::r=>a++c::jl c (b::r)
def sQ(c:Nat):∀a:List Str,(RM ⟨#[c]⟩ a).cps.toList=jl c (a.map λw=>w.cps.toList)
 |[]=>rfl
 |[x]=>rfl
 |x::y::r=>by
  have b:=sQ c (y::r)
  show(x++⟨#[c]⟩++RM ⟨#[c]⟩ (y::r)).cps.toList=_
  rw[bR,bR,b]
  simp[jl]
def Bl(c:Nat):∀i vs:List (List Nat),i≠[]->vs≠[]->(∀w∈i,c∉w)->(∀v∈vs,c∉v)->jl c i=jl c vs->i=vs
 |[],_,h,_,_,_,_=>absurd rfl h
 |_::_,[],_,h,_,_,_=>absurd rfl h
 |[a],[b],_,_,_,_,h=>by rw[show a=b from h]
 |[a],b::b2::s,_,_,g,_,h=>by
  have e:a=b++c::jl c (b2::s):=h
  exact(g a D' (by rw[e];simp)).elim
 |a::f::r,[b],_,_,_,l,h=>by
  have e:a++c::jl c (f::r)=b:=h
  exact(l b D' (by rw[<- e];simp)).elim
 |a::f::r,b::b2::s,_,_,g,l,h=>by
  obtain⟨p,o⟩:=A6 (g a D') (l b D') (show a++c::jl c (f::r)=b++c::jl c (b2::s) from h)
  rw[p,Bl c (f::r) (b2::s) (by simp) (by simp) (λw m=>g w (O5 _ m)) (λw m=>l w (O5 _ m)) o]
def vk(c:Nat)(a:List Str)(b:a≠[])(free:∀w∈a,c∉w.cps.toList):QD (RM ⟨#[c]⟩ a) ⟨#[c]⟩=a:=by
 have j:=StrLaws.join_split (RM ⟨#[c]⟩ a) ⟨#[c]⟩
 have f:=StrLaws.split_free (RM ⟨#[c]⟩ a) c
 have p:=split_pos (RM ⟨#[c]⟩ a) ⟨#[c]⟩
 generalize QD (RM ⟨#[c]⟩ a) ⟨#[c]⟩=vs at j f p ⊢
 have e:jl c (vs.map λw=>w.cps.toList)=jl c (a.map λw=>w.cps.toList):=by rw[<- sQ,<- sQ,j]
 have i:vs≠[]:=λz=>by rw[z] at p;simp at p
 have q:=Bl c _ _ (by simpa using i) (by simpa using b) (λw m=>?_) (λw m=>?_) e
 ·exact(List.map_inj_right λx y h=>mx h).mp q
 ·obtain⟨x,g,rfl⟩:=O_.mp m;exact f x g
 ·obtain⟨x,g,rfl⟩:=O_.mp m;exact free x g
def AL{x:Str}{l u:Option Int}{c:Nat}(h:c∈(Pp x l u).cps.toList):c∈x.cps.toList:=by
 unfold Pp at h
 split at h
 ·exact h
 ·obtain⟨i,_,a⟩:=RH.mp (show c∈VX (x.cps[·]?) _ from by simpa using h)
  rw[<- QH] at a
  exact PY a
def rR{x:Str}{l u:Option Int}:(Pp x l u).length<=(QI l u 1 x.length).length:=by
 unfold Pp
 split
 ·rename_i h
  have a:(QI l u 1 x.length).length=x.length:=by simpa using h
  exact SN a.symm
 ·show(VX _ _).toArray.size<=_
  rw[PQ]
  exact R5 _ _
def EV:∀n:Fin 7,∀a:Fin 7,(QI none (some (a.val:Int)) 1 n.val).length+(QI (some (a.val:Int)) none 1 n.val).length<=n.val:=by decide +kernel
def AM{x:Str}{a:Int}(c:x.length<=6)(b:0<=a)(h1:a<7):(Pp x none (some a)).length+(Pp x (some a) none).length<=x.length:=by
 have q:=EV ⟨x.length,by omega⟩ ⟨a.toNat,by omega⟩
 rw[show((⟨a.toNat,by omega⟩:Fin 7).val:Int)=a from Int.toNat_of_nonneg b] at q
 have e:=rR (x:=x) (l:=none) (u:=some a)
 have g:=rR (x:=x) (l:=some a) (u:=none)
 have f:(QI none (some a) 1 x.length).length+(QI (some a) none 1 x.length).length<=x.length:=q
 omega
def ij{α:Type}{xs:List α}{i:Int}(a:0<=i)(h1:i<xs.length):∃r,r∈xs/\L2.fe xs i=some r:=by
 unfold L2.fe L2.Ec
 rw[if_pos a,if_pos h1]
 have h:i.toNat<xs.length:=by omega
 exact⟨xs[i.toNat],TJ h,by simp[O9 h]⟩
def oh{α:Type}{xs:List α}{i:Nat}{x:α}(h:xs[i]?=some x):L2.fe xs (i:Int)=some x:=by
 unfold L2.fe L2.Ec
 have a:i<xs.length:=(PJ.mp h).1
 rw[if_pos (by omega),if_pos (by omega),QY]
 exact h
def low(x:Str):Prop:=∀c∈x.cps.toList,97<=c/\c<=122
def mH:List Nat:=[99,103,106,107,112,113,118,120,122]
def Er{c:Nat}(h1:97<=c)(a:c<=122):KQ ⟨#[c]⟩=true:=by
 have all:∀k:Fin 26,KQ ⟨#[97+k.val]⟩=true:=by decide +kernel
 have q:=all ⟨c - 97,by omega⟩
 have e:97+(c - 97)=c:=by omega
 rw[show(97+(⟨c - 97,by omega⟩:Fin 26).val)=c from e] at q
 exact q
def Es{x:Str}(h:low x)(e:0<x.length):qa x=true:=by
 unfold qa
 rw[decide_eq_true (by omega),Vm,RT]
 intro s a
 unfold signs at a
 obtain⟨c,b,rfl⟩:=O_.mp a
 exact Er (h c b).1 (h c b).2
def Bv{x:Str}(h:low x)(a:0<x.length)(b:x.length<=8):eK x=true:=by
 unfold eK
 rw[Es h a,decide_eq_true (by omega)]
 rfl
def sW{x:Str}(h:low x):46∉x.cps.toList:=λm=>by have:=h 46 m;omega
def sV{x y:Str}(h:low x)(g:low y):low (x++y):=λc a=>by
 rw[bR] at a
 exact(O3.mp a).elim (h c) (g c)
def yQ{c:Nat}(h:97<=c/\c<=122):low ⟨#[c]⟩:=λd a=>by
 have:d=c:=by simpa using a
 rw[this];exact h
def rA{x:Str}{l u:Option Int}(h:low x):low (Pp x l u):=λc a=>h c (AL a)
def E_{c:Nat}(h:c∈mH):97<=c/\c<=122:=by
 have all:∀c∈mH,97<=c/\c<=122:=by decide
 exact all c h
def Eh{x:Str}{c:Nat}(a:c∈x.cps.toList)(hz:c∈mH):n0.contains x=false:=by
 have all:∀y∈n0,∀c∈mH,c∉y.cps.toList:=by decide +kernel
 rw[Bool.eq_false_iff]
 intro h
 exact all x (List.contains_iff_mem.mp h) c hz a
def BR:dot=⟨#[46]⟩:=by decide +kernel
def zq{x:Str}(b:46∉x.cps.toList)(a:lG x=true):fS x=true:=by
 have e:QD x dot=[x]:=by
  rw[BR]
  exact vk 46 [x] (by simp) (by simpa using b)
 unfold fS
 rw[e]
 exact a
def p6{a:List Str}(h1:2<=a.length)(c:a.length<=4)(b:∀w∈a,eK w=true/\46∉w.cps.toList):fS (RM ⟨#[46]⟩ a)=true:=by
 have e:QD (RM ⟨#[46]⟩ a) dot=a:=by
  rw[BR]
  exact vk 46 a (λz=>by rw[z] at h1;simp at h1) λw m=>(b w m).2
 unfold fS
 rw[e,decide_eq_false (by omega),if_neg A',decide_eq_true (by omega),Vm,RT]
 exact λw m=>(b w m).1
def DH{x:Str}(h:∀c∈x.cps.toList,c<0x110000):T8 x=true:=by
 unfold T8
 rw[<- S_,RT]
 exact λc a=>decide_eq_true (h c a)
def Ib{x:Str}(h:low x):∀c∈x.cps.toList,c<0x110000:=λc a=>by have:=h c a;omega
def nm(e b:Str)(a:Int)(c:Nat):Str:=e++Pp b none (some a)++⟨#[c]⟩++Pp b (some a) none
def E9{f b:Str}{a:Int}{c:Nat}(p:f∈(["","","row.","a.in."]:List Str))(v:b.length<=6)(r:low b)(x:0<=a)(h1:a<7)(t:c∈mH) :
  iY (nm f b a c):=by
 have B:=AM v x h1
 let g:Str:=Pp b none (some a)++⟨#[c]⟩++Pp b (some a) none
 have l:low g:=sV (sV (rA r) (yQ (E_ t))) (rA r)
 have z:c∈g.cps.toList:=by
  show c∈(Pp b none (some a)++⟨#[c]⟩++Pp b (some a) none).cps.toList
  rw[bR,bR]
  simp
 have C:g.length=(Pp b none (some a)).length+1+(Pp b (some a) none).length:=by
  show(Pp b none (some a)++⟨#[c]⟩++Pp b (some a) none).length=_
  rw[gj,gj]
  rfl
 have fw:eK g=true:=Bv l (by omega) (by omega)
 have o:nm f b a c=f++g:=mx (by
  show(f++Pp b none (some a)++⟨#[c]⟩++Pp b (some a) none).cps.toList=(f++(Pp b none (some a)++⟨#[c]⟩++Pp b (some a) none)).cps.toList
  simp only[bR,Ph])
 rw[o]
 clear_value g
 have u:(f++g).length<=100:=by
  have:f.length<=5:=by
   have all:∀y∈(["","","row.","a.in."]:List Str),y.length<=5:=by decide +kernel
   exact all _ p
  rw[gj]
  omega
 refine⟨?_,u,?_⟩
 ·have i:=p
  simp only[B',C',or_false] at i
  have s:("":Str)++g=g:=mx (by rw[bR];rfl)
  have one:fS g=true:=zq (sW l) (by unfold lG;rw[fw,Eh z t];rfl)
  rcases i with rfl|rfl|rfl|rfl
  ·rw[s];exact one
  ·rw[s];exact one
  ·have e:("row.":Str)++g=RM ⟨#[46]⟩ ["row",g]:=mx (by
    show _=(("row":Str)++⟨#[46]⟩++g).cps.toList
    rw[bR,bR,bR]
    rfl)
   rw[e]
   refine p6 (by simp) (by simp) λw m=>?_
   simp only[B',C',or_false] at m
   rcases m with rfl|rfl
   ·exact⟨by decide +kernel,by decide +kernel⟩
   ·exact⟨fw,sW l⟩
  ·have e:("a.in.":Str)++g=RM ⟨#[46]⟩ ["a","in",g]:=mx (by
    show _=(("a":Str)++⟨#[46]⟩++(("in":Str)++⟨#[46]⟩++g)).cps.toList
    rw[bR,bR,bR,bR,bR]
    rfl)
   rw[e]
   refine p6 (by simp) (by simp) λw m=>?_
   simp only[B',C',or_false] at m
   rcases m with rfl|rfl|rfl
   ·exact⟨by decide +kernel,by decide +kernel⟩
   ·exact⟨by decide +kernel,by decide +kernel⟩
   ·exact⟨fw,sW l⟩
 ·refine DH λd q=>?_
  rw[bR] at q
  rcases O3.mp q with h|h
  ·have all:∀y∈(["","","row.","a.in."]:List Str),∀d∈y.cps.toList,d<0x110000:=by decide +kernel
   exact all _ p d h
  ·exact Ib l d h
def xE(c k:Int):Int:=(c+7919*k+11)*48271%2147483647
def mixed(c k:Int):Int:=(xE c k*xE c k+40692*xE c k)%2147483399
def E2(c k:Int):0<=xE c k/\xE c k<2147483647:=⟨VY _ (by decide),U4 _ (by decide)⟩
def jO:cU:=λds Q=>∃c k:Int,ds=[.int c,.int k]/\Q (.int (mixed c k))
def LI:b9 jO:=fun ds P a f ⟨c,k,e,q⟩=>⟨c,k,e,f _ q⟩
def Cz:cU:=λds Q=>∃(a:List Int) (k:Nat),ds=[.lst (a.map D.int),.int (k:Int)]/\k<=10/\∀c:Int,Q (.int c)
def C4:cU:=λds Q=>∃m:Int,ds=[.int m]/\∀i:Int,-128<=i->i<=127->Q (.int i)
def Eo(b:Bool):Str:=if b then "truth" else "number"
def Eg(b:Bool):D:=.str (Eo b)
def vD:D->Bool
 |.bl _=>true
 |_=>false
def tU:cU:=λds Q=>∃(m:Int) (a:Bool),ds=[.int m,Eg a]/\∀v:D,isVal v->vD v=a->Q v
def yj:cU:=λds Q=>∃(c:Int) (m:Nat),ds=[.int c,.int (m:Int)]/\1<=m/\m<=9/\∀l:List Str,l.length=m->(∀x∈l,iY x)->l.Nodup->Q (.lst (l.map D.str))
def cd{i j:Int}(h:0<j)(a:j<1073741824):HP i j:=⟨h,a⟩
def cv(a:Int){b:Int}(h:0<b):0<=a%b:=VY _ (by omega)
def cu(a:Int){b:Int}(h:0<b):a%b<b:=U4 _ h
def OH(c b:Str)(a:Int):D->D
 |.int i=>.str (nm c b a (((L2.fe mH i)).getD 0))
 |_=>.ah
def Iq{z b:Str}{a:Int}{x y:Nat}(h:nm z b a x=nm z b a y):x=y:=by
 have c:=congrArg (λt:Str=>t.cps.toList) h
 simp only[nm,bR] at c
 have e:=List.append_cancel_right c
 have f:=UG e
 simpa using f
def zr(z b:Str)(a:Int){m:Nat}(h:m<=9):((Qj m).map λi:Nat=>nm z b a ((L2.fe mH (0+(i:Int))).getD 0)).Nodup:=by
 have c:∀i∈Qj 9,∀j∈Qj 9,(L2.fe mH (0+(i:Int))).getD 0=(L2.fe mH (0+(j:Int))).getD 0->i=j:=by decide +kernel
 refine R0.mpr (Sx (fun{i j} f g ne e=>ne ?_) (VC (n:=m)))
 rw[Rk] at f g
 exact c i (Rk.mpr (by omega)) j (Rk.mpr (by omega)) (Iq e)
def D5(d:Df K mg "_law_mixed" iA ["_law_cell","_law_k"]):bL P w K mg base (j+1) "_law_mixed" ["_law_cell","_law_k"] jO:=by
 refine d.c_ ku LI (fun ds Q ⟨c,k,e,_⟩=>by rw[e];rfl) (λf h A a s H E b=>have o:=b.units;have m:=b.hd;have g:=ku
  (aH (bA (i:=2) g.nd rfl (PN rfl) (ba (l4 (aj (aj (dv 0) (l4 aC (dv 1))) aC) aC) aC))
 (aE (aJ (ba (aj (l4 (dv 2) (dv 2)) (l4 aC (dv 2))) aC))))) ?_
 rintro ds Q ⟨c,k,rfl,q⟩
 have l:=E2 c k
 refine⟨_,rfl,_,rfl,oR.ok (.inl ⟨by decide,by decide⟩),oR.ok (.inr ⟨by decide,by decide⟩),iP2147483647,?_⟩
 exact⟨_,rfl,_,rfl,oR.ok (i:=xE c k) (j:=xE c k) (.inl ⟨by omega,by omega⟩),_,rfl,oR.ok (.inl ⟨by decide,by decide⟩),iP2147483399,q⟩
seal mixed
def He(d:Df K mg "_law_cell_at" fV ["_law_script","_law_k"])(a:mg "len"=none):bL P w K mg base (j+1) "_law_cell_at" ["_law_script","_law_k"] Cz:=by
 refine d.c_ iT (fun ds P p f ⟨c,k,e,h,q⟩=>⟨c,k,e,h,λc=>f _ (q c)⟩) (fun ds Q ⟨c,k,e,_⟩=>by rw[e];rfl) (λf o A g s H E m=>have v:=m.units;have t:=m.hd;have u:=iT
  (aH (bN (J0 (dv 1) (lz (by rfl) a (aA (dv 0) aD))) (aE (aJ (aU (dv 0) (dv 1) (λ_ _=>rfl)))) aR)
 (aE (aJ (l4 (l4 (aj (dv 1) aC) (aj (dv 1) aC)) aC))))) ?_
 rintro ds Q ⟨b,k,rfl,r,q⟩
 refine⟨_,rfl,_,rfl,_,_,rfl,rfl,_,rfl,?_⟩
 show if decide ((k:Int)<((b.map D.int).length:Int))=true then _ else _
 rw[G']
 cases h:decide ((k:Int)<(b.length:Int)) with
 |true =>
  have l:k<b.length:=by have:=of_decide_eq_true h;omega
  exact aS ⟨_,rfl,_,rfl,.int b[k],oh (by rw[O7,O9 l];rfl),q _⟩
 |false =>
  exact aF ⟨_,rfl,_,rfl,oR.ok (i:=(k:Int)+3) (.inl ⟨by omega,by omega⟩),oR.ok (.inr ⟨by decide,by decide⟩),q _⟩
def Ax(d:Df K mg "_law_number" eE ["_law_mix"]):bL P w K mg base (j+1) "_law_number" ["_law_mix"] C4:=by
 refine d.c_ dZ (fun ds P p f ⟨c,e,q⟩=>⟨c,e,λi h1 h=>f _ (q i h1 h)⟩) (fun ds Q ⟨c,e,_⟩=>by rw[e];rfl) (λf o A b s H E a=>have z:=a.units;have u:=a.hd;have v:=dZ
  (aE (aJ (aU (cC (aA (dC (ba (cM (dv 0) aC) aC) aC) (aA (dC (ba (cM (dv 0) aC) aC) aC) (aA (aU (cC (bg (by rfl))) (ba (cM (dv 0) aC) aC) (λ_ _=>rfl)) (aA (ba (cM (dv 0) aC) aC) aD))))) (ba (dv 0) aC) (λ_ _=>rfl))))) ?_
 rintro ds Q ⟨m,rfl,q⟩
 obtain⟨r,a,l⟩:=ij (xs:=[D.int (-128),.int 127,.int 0,.int 1]) (cv (m / 8) iP4) (cu (m / 8) iP4)
 obtain⟨s,g,es⟩:=ij (xs:=[D.int (m / 8%256 - 128),.int (m / 8%5 - 2),r,.int (m / 8%9)]) (cv m iP4) (cu m iP4)
 refine⟨_,rfl,cd (by decide) (by decide),iP256,_,rfl,cd (by decide) (by decide),iP5,zL4,_,rfl,cd (by decide) (by decide),iP4,r,l,_,rfl,cd (by decide) (by decide),iP9,zL4,_,rfl,iP4,s,es,?_⟩
 have y:=cv (m / 8) iP256
 have t:=cu (m / 8) iP256
 have C:=cv (m / 8) iP5
 have B:=cu (m / 8) iP5
 have he:=cv (m / 8) iP9
 have x:=cu (m / 8) iP9
 simp only[B',C',or_false] at a g
 rcases g with rfl|rfl|rfl|rfl
 ·exact q _ (by omega) (by omega)
 ·exact q _ (by omega) (by omega)
 ·rcases a with rfl|rfl|rfl|rfl<;>exact q _ (by decide) (by decide)
 ·exact q _ (by omega) (by omega)
def D7(d:Df K mg "_law_value" fG ["_law_mix","_law_kind"])(a:bL P w K mg base j "_law_number" ["_law_mix"] C4):bL P w K mg base (j+1) "_law_value" ["_law_mix","_law_kind"] tU:=by
 refine d.c_ eG (fun ds P p f ⟨c,k,e,q⟩=>⟨c,k,e,λi h1 g=>f _ (q i h1 g)⟩) (fun ds Q ⟨c,k,e,_⟩=>by rw[e];rfl) (λf o A b s H E h=>have l:=h.units;have r:=h.hd;have t:=eG
  (aH (bN (bx l (dv 1) aZ) (aE (aJ (qY l (ba (cM (dv 0) aC) aC) aC))) aR)
 (aE (aJ (aN a h (by omega) (by rfl) (aA (cM (dv 0) aC) aD)))))) ?_
 rintro ds Q ⟨m,k,rfl,q⟩
 cases k with
 |true=>exact⟨_,rfl,true,congrArg D.bl (by decide +kernel),aS ⟨_,rfl,cd (by decide) (by decide),iP2,q _ (.inl ⟨_,rfl⟩) rfl⟩⟩
 |false=>exact⟨_,rfl,false,congrArg D.bl (by decide +kernel),aF ⟨_,rfl,cd (by decide) (by decide),_,rfl,λi h1 g=>q _ (.inr ⟨i,rfl,h1,g⟩) rfl⟩⟩
def D6(d:Df K mg "_law_names" iB ["_law_cell","_law_many"])(g:mg "range"=none)(a:bL P w K mg base j "_law_mixed" ["_law_cell","_law_k"] jO):bL P w K mg base (j+1) "_law_names" ["_law_cell","_law_many"] yj:=by
 refine d.c_ kz (fun ds P P' f ⟨c,k,e,h1,M,q⟩=>⟨c,k,e,h1,M,λl h3 h4 h5=>f _ (q l h3 h4 h5)⟩) (fun ds Q ⟨c,k,e,_⟩=>by rw[e];rfl) (λf cdv A J s H E F=>have hu:=F.units;have hh:=F.hd;have t:=kz
  (aH (bA (i:=2) t.nd rfl (PN rfl) aZ)
 (aH (bA (i:=3) t.nd rfl (Sk rfl) aZ)
 (aH (Lw Q2 rfl (l9 (by rfl) g (aA (ba (dv 0) aC) aD)) (gu (i:=4) t.nd rfl (PN rfl)) (aE (bA (i:=3) t.nd rfl (Sk rfl) (aj (dv 3) (aU (dv 2) (ba (cM (aN a F (by omega) (by rfl) (aA (dv 0) (aA (aj aC (dv 4)) aD))) aC) aC) (λ_ _=>rfl))))))
 (aH (bA (i:=5) t.nd rfl (Sk rfl) (ba (cM (aN a F (by omega) (by rfl) (aA (dv 0) (aA aC aD))) aC) aC))
 (aH (bA (i:=6) t.nd rfl (Sk rfl) (aU (cC (bg (by rfl))) (ba (cM (aN a F (by omega) (by rfl) (aA (dv 0) (aA aC aD))) aC) aC) (λ_ _=>rfl)))
 (aE (aJ (zI (x:="_law_k") (caps:=[3,6,5]) (cn:=["_law_base","_law_ahead","_law_at"]) (cl:=[("_law_base",s.heap.objs.size+1),("_law_at",s.heap.objs.size+2),("_law_ahead",s.heap.objs.size+3)]) (Ge (by rfl) (by rfl) (by decide +kernel) (yI ["_law_base","_law_at","_law_ahead"] rfl (by decide +kernel)) (by decide +kernel) (gm (by rfl) (gm (by rfl) (gm (by rfl) qr))) (.cons ⟨rfl,.inl rfl,rfl⟩ (.cons ⟨rfl,.inl rfl,rfl⟩ (.cons ⟨rfl,.inl rfl,rfl⟩ .nil)))) rfl (l9 (by rfl) g (aA (dv 1) aD)) (λC fp s₂ Y=>cT (i:=0) (show(["_law_k","_law_base","_law_ahead","_law_at"]:List Str).Nodup by decide +kernel) rfl (PN rfl) (.inr rfl)) (λC fp s₂ Y=>iF) (λC fp s₂ Y=>(aj (aj (aj (dv 2) (oi (dv 1) xF (p7 (dv 3)))) (aU aZ (dv 0) (λ_ _=>rfl))) (oi (dv 1) (p7 (dv 3)) xF)))))))))))) ?_
 rintro ds Q ⟨c,m,rfl,hm1,R,q⟩
 have h7:=cv c iP7
 have h8:=cu c iP7
 refine⟨_,rfl,iP7,_,rfl,(by show -(2 ^ 62:Int)<=c%7;omega),(by show c%7<(2 ^ 62:Int);omega),λi δ=>∃(b:Str) (k:Option D),δ=[some (.int c),some (.int (m:Int)),some (.str gv),some (.str b),k,none,none]/\b.length<=i/\low b/\i<=6,?_,?_,?_⟩
 ·exact⟨"",none,rfl,(by decide +kernel),(λc hc=>by cases hc),(by decide)⟩
 ·rintro i dd δ B ⟨b,k,rfl,W,T,h⟩
  have S:i<(c%7).toNat:=by
   have:=(PJ.mp B).1
   simpa using this
  have N:D.int (0+(i:Int))=dd:=by
   rw[O7,Sl S] at B
   simpa using B
  subst N
  have L:gv.cps.toList.length=26:=by decide +kernel
  have U:=cu (mixed c (20+(0+(i:Int))) / 31) iP26
  obtain⟨x,O,ex⟩:=ij (xs:=gv.cps.toList) (cv (mixed c (20+(0+(i:Int))) / 31) iP26) (by rw[L];exact U)
  have lx:97<=x/\x<=122:=by
   have all:∀x∈gv.cps.toList,97<=x/\x<=122:=by decide +kernel
   exact all x O
  refine⟨_,rfl,_,rfl,_,rfl,_,rfl,_,_,rfl,cd (by decide) (by decide),iP26,(by decide +kernel),x,ex,?_,?_⟩
  ·show b.length+1<=sizeLine
   exact PB (show b.length+1<=7 by omega) (by decide)
  ·refine⟨b++⟨#[x]⟩,_,rfl,?_,sV T (yQ lx),by omega⟩
   rw[gj]
   exact Q1 W 1
 ·rintro δ ⟨b,k,rfl,W,T,h⟩
  have r:b.length<=6:=PB W h
  refine⟨_,rfl,_,_,rfl,cd (by decide) (by decide),iP7,?_⟩
  have a0:=cv (mixed c 30 / 7) iP7
  have a1:=cu (mixed c 30 / 7) iP7
  obtain⟨y,Z,ey⟩:=ij (xs:=[D.str "",.str "",.str "row.",.str "a.in."]) (cv (mixed c 31 / 7) iP4) (cu (mixed c 31 / 7) iP4)
  have hz:∃z,y=.str z/\z∈(["","","row.","a.in."]:List Str):=by
   simp only[B',C',or_false] at Z
   rcases Z with rfl|rfl|rfl|rfl
   ·exact⟨_,rfl,by simp⟩
   ·exact⟨_,rfl,by simp⟩
   ·exact⟨_,rfl,by simp⟩
   ·exact⟨_,rfl,by simp⟩
  obtain⟨z,rfl,hz⟩:=hz
  refine⟨zL4,_,rfl,_,_,rfl,cd (by decide) (by decide),iP4,_,ey,?_⟩
  have bJ:∀i:Nat,i<m->∃x,L2.fe mH (0+(i:Int))=some x/\x∈mH:=λi h=>by
   obtain⟨x,h1,M⟩:=ij (xs:=mH) (i:=0+(i:Int)) (by omega) (by show 0+(i:Int)<9;omega)
   exact⟨x,M,h1⟩
  refine⟨_,rfl,_,rfl,(by show -(2 ^ 62:Int)<=(m:Int);omega),(by show(m:Int)<(2 ^ 62:Int);omega),mO (OH z b (mixed c 30 / 7%7)) ((Qj (m:Int).toNat).map λi:Nat=>.int (0+(i:Int))),w_,λi0 d o g1 g2=>?_,?_,?_⟩
  ·obtain⟨B,rfl⟩:=By g1 g2
   obtain⟨i,h,rfl⟩:=O_.mp B
   have X:i<m:=by simpa using h
   obtain⟨x,I,h1⟩:=bJ i X
   have G:∀l u:Option Int,(Pp b l u).length<=6:=λl u=>PB (V_ b l u) r
   have p:z.length<=5:=by
    have all:∀y∈(["","","row.","a.in."]:List Str),y.length<=5:=by decide +kernel
    exact all _ hz
   have v:b.length<=sizeLine:=PB r (by decide)
   have l1:z.length+(Pp b none (some (mixed c 30 / 7%7))).length<=sizeLine:=PB (Sg p (G _ _)) (by decide)
   have l2:(z++Pp b none (some (mixed c 30 / 7%7))).length+1<=sizeLine:=by
    rw[gj]
    exact PB (Q1 (Sg p (G _ _)) 1) (by decide)
   have l3:(z++Pp b none (some (mixed c 30 / 7%7))++(⟨#[x]⟩:Str)).length+(Pp b (some (mixed c 30 / 7%7)) none).length<=sizeLine:=by
    rw[gj,gj]
    exact PB (Sg (Q1 (Sg p (G _ _)) 1) (G _ _)) (by decide)
   refine⟨rfl,λ_=>⟨_,rfl,_,rfl,_,rfl,_,rfl,v,l1,_,rfl,(by decide +kernel),x,I,l2,_,rfl,_,rfl,_,rfl,v,l3,?_⟩⟩
   show some (D.str (nm z b (mixed c 30 / 7%7) ((L2.fe mH (0+(i:Int))).getD 0)))=some (D.str (nm z b (mixed c 30 / 7%7) x))
   rw[I]
   rfl
  ·rw[G',List.length_range]
   exact Pg (show(m:Int).toNat<=9 by omega) (by decide)
  ·rw[sZ]
   have e:(((Qj (m:Int).toNat).map λi:Nat=>D.int (0+(i:Int))).map (OH z b (mixed c 30 / 7%7)))=((Qj m).map λi:Nat=>nm z b (mixed c 30 / 7%7) ((L2.fe mH (0+(i:Int))).getD 0)).map D.str:=by
    rw[QY,Pe,Pe]
    rfl
   rw[e]
   refine q _ (by simp) (λx O=>?_) (zr z b _ R)
   obtain⟨i,h,rfl⟩:=O_.mp O
   obtain⟨y,I,h1⟩:=bJ i (by simpa using h)
   rw[I]
   exact E9 hz r T a0 a1 h1
abbrev cf:=List (Key × D)
def look(w:cf)(x:Str):Option D:=dE w (.inr x)
def iZ(l:List Str)(b:Nat):Str:=l.getD (if b=0 then 0 else 2) ""
def LV(l:List Str)(b:Nat):Str:=if b=2 then l.getD 6 "" else iZ l b
def bj(l:List Str)(w:cf)(b:Nat):Bool:=(look w (LV l b)).isSome
def idx:Bool->Nat->List Nat
 |true,0=>[0,1]
 |false,0=>[3,4]
 |true,1=>[2]
 |false,1=>[5]
 |true,_=>[7]
 |false,_=>[6]
def Aq(l:List Str)(a:Bool)(b:Nat)(x:Str):Prop:=∃i∈idx a b,x=l.getD i ""
def eh:Option D->Bool
 |some (.bl true)=>true
 |_=>false
def za{o:Option D}(h:eh o=true):o=some (.bl true):=by
 unfold eh at h
 split at h
 ·rfl
 ·cases h
structure GN (l:List Str) (w:cf):Prop where
 nm:∀kd b x,b<=2->Aq l kd b x->if bj l w b=true then ∃v,look w x=some v/\isVal v/\vD v=kd else look w x=none
 c0:bj l w 0=true
 up:∀b,b<2->bj l w (b+1)=eh (look w (iZ l b))
def GN.dn{l:List Str}{w:cf}(g:GN l w){b:Nat}(a:b<2)(h:bj l w (b+1)=true):bj l w b=true:=by
 rw[g.up b a] at h
 have e:=za h
 unfold bj LV
 rw[if_neg (by omega),e]
 rfl
def m5(i:Int):Int:=(i+128)%256 - 128
def Iv:D->D
 |.bl b=>.bl (!b)
 |_=>.ah
def intD(g:Str)(i j:Int):D:=if g="+" then .int (m5 (i+j)) else if g="-" then .int (m5 (i - j)) else if g="*" then .int (m5 (i*j)) else if g="=" then .bl (decide (i=j)) else if g="<" then .bl (decide (i<j)) else .bl (decide (i<=j))
def rj(g:Str)(p q:Bool):D:=if g="and" then .bl (p&&q) else if g="or" then .bl (p||q) else .bl (decide (p=q))
def pairD(g:Str):D->D->D
 |.int i,.int j=>intD g i j
 |.bl p,.bl q=>rj g p q
 |_,_=>.ah
def Fx(c x y:D):D:=match c with
 |.bl true=>x
 |_=>y
def sgn(g:Str)(b a:Bool):Prop:=(g∈(["+","-","*"]:List Str)/\b=false/\a=false)\/(g∈(["and","or"]:List Str)/\b=true/\a=true)\/(g="="/\a=true)\/(g∈(["<","<="]:List Str)/\b=false/\a=true)
def Ty(l:List Str):Pt->Bool->Nat->Prop
 |.given v,a,_=>isVal v/\vD v=a
 |.named x,a,b=>Aq l a b x
 |.turned p,a,b=>a=true/\Ty l p true b
 |.pair g p q,a,b=>∃e,sgn g e a/\Ty l p e b/\Ty l q e b
 |.choice c p q,a,b=>Ty l c true b/\Ty l p a b/\Ty l q a b
 |.before p f,a,b=>Ty l p a b/\isVal f/\vD f=a
 |.led h r,a,b=>Ty l h a b/\Ty l r a b
 |.bY p x,a,b=>0<b/\x=iZ l (b - 1)/\Ty l p a (b - 1)
 |.held p x f,a,b=>b<2/\x=iZ l b/\Ty l p a (b+1)/\isVal f/\vD f=a
def KV(a:Bool)(v:D):Prop:=isVal v/\vD v=a
def KV.tr{v:D}(h:KV true v):∃b,v=.bl b:=by
 obtain⟨⟨b,rfl⟩|⟨i,rfl,_⟩,k⟩:=h
 ·exact⟨b,rfl⟩
 ·cases k
def KV.nu{v:D}(h:KV false v):∃i:Int,v=.int i/\-128<=i/\i<=127:=by
 obtain⟨⟨b,rfl⟩|⟨i,rfl,h1⟩,k⟩:=h
 ·cases k
 ·exact⟨i,rfl,h1⟩
def KV.bl(b:Bool):KV true (.bl b):=⟨.inl ⟨b,rfl⟩,rfl⟩
def wO(i:Int):-128<=m5 i/\m5 i<=127:=by unfold m5;omega
def KV.int{i:Int}(h:-128<=i/\i<=127):KV false (.int i):=⟨.inr ⟨i,rfl,h⟩,rfl⟩
def zw{g:Str}{f m:Bool}{x y:D}(h:sgn g f m)(a:KV f x)(b:KV f y):KV m (pairD g x y):=by
 have l:∀(a:KV false x) (b:KV false y),g∈(["+","-","*"]:List Str)->KV false (pairD g x y):=λa b c=>by
  obtain⟨i,rfl,_⟩:=a.nu
  obtain⟨j,rfl,_⟩:=b.nu
  simp only[B',C',or_false] at c
  rcases c with rfl|rfl|rfl
  ·show KV false (intD _ i j);unfold intD;rw[if_pos rfl];exact .int (wO _)
  ·show KV false (intD _ i j);unfold intD;rw[if_neg (by decide +kernel),if_pos rfl];exact .int (wO _)
  ·show KV false (intD _ i j);unfold intD;rw[if_neg (by decide +kernel),if_neg (by decide +kernel),if_pos rfl];exact .int (wO _)
 have Mn:∀(a:KV true x) (b:KV true y),KV true (pairD g x y):=λa b=>by
  obtain⟨i,rfl⟩:=a.tr
  obtain⟨j,rfl⟩:=b.tr
  show KV true (rj g i j)
  unfold rj
  split
  ·exact .bl _
  ·split<;>exact .bl _
 have e:∀(a:KV false x) (b:KV false y),g∉(["+","-","*"]:List Str)->KV true (pairD g x y):=λa b c=>by
  obtain⟨i,rfl,_⟩:=a.nu
  obtain⟨j,rfl,_⟩:=b.nu
  simp only[B',C',or_false,not_or] at c
  show KV true (intD g i j)
  unfold intD
  rw[if_neg c.1,if_neg c.2.1,if_neg c.2.2]
  split
  ·exact .bl _
  ·split<;>exact .bl _
 rcases h with⟨c,rfl,rfl⟩|⟨c,rfl,rfl⟩|⟨rfl,rfl⟩|⟨c,rfl,rfl⟩
 ·exact l a b c
 ·exact Mn a b
 ·cases f with
  |true=>exact Mn a b
  |false=>exact e a b (by decide +kernel)
 ·refine e a b λz=>?_
  simp only[B',C',or_false] at c z
  rcases c with rfl|rfl<;>revert z<;>decide +kernel
abbrev GM:=List (List Int × D)
def wv(w:cf)(m:GM):Pt->List Int->D
 |.given v,_=>v
 |.named x,_=>(look w x).getD .ah
 |.turned p,pl=>Iv (wv w m p (pl++[0]))
 |.pair g p q,pl=>pairD g (wv w m p (pl++[0])) (wv w m q (pl++[1]))
 |.choice c p q,pl=>Fx (wv w m c (pl++[0])) (wv w m p (pl++[1])) (wv w m q (pl++[2]))
 |.before _ f,pl=>(bh m pl).getD f
 |.led h r,pl=>if(bh m pl).isSome=true then wv w m r (pl++[1]) else wv w m h (pl++[0])
 |.bY p _,pl=>wv w m p (pl++[0])
 |.held p x f,pl=>if eh (look w x)=true then wv w m p (pl++[0]) else(bh m pl).getD f
def own(c:Bool)(pl:List Int)(v:D):GM:=if c=true then[(pl,v)] else[]
def kl(w:cf)(m:GM):Pt->Bool->List Int->GM
 |.given _,_,_=>[]
 |.named _,_,_=>[]
 |.turned p,c,pl=>kl w m p c (pl++[0])
 |.pair _ p q,c,pl=>kl w m p c (pl++[0])++kl w m q c (pl++[1])
 |.choice z p q,c,pl=>kl w m z c (pl++[0])++(kl w m p c (pl++[1])++kl w m q c (pl++[2]))
 |.before p _,c,pl=>own c pl (wv w m p (pl++[0]))++kl w m p c (pl++[0])
 |.led h r,c,pl=>own c pl (.bl true)++(kl w m h c (pl++[0])++kl w m r c (pl++[1]))
 |.bY p x,_,pl=>kl w m p (look w x).isSome (pl++[0])
 |.held p x _,_,pl=>own (eh (look w x)) pl (wv w m p (pl++[0]))++kl w m p (eh (look w x)) (pl++[0])
def fK(m:GM):Pt->List Int->Prop
 |.given _,_=>True
 |.named _,_=>True
 |.turned p,pl=>fK m p (pl++[0])
 |.pair _ p q,pl=>fK m p (pl++[0])/\fK m q (pl++[1])
 |.choice z p q,pl=>fK m z (pl++[0])/\fK m p (pl++[1])/\fK m q (pl++[2])
 |.before p f,pl=>(∀v,bh m pl=some v->KV (vD f) v)/\fK m p (pl++[0])
 |.led h r,pl=>fK m h (pl++[0])/\fK m r (pl++[1])
 |.bY p _,pl=>fK m p (pl++[0])
 |.held p _ f,pl=>(∀v,bh m pl=some v->KV (vD f) v)/\fK m p (pl++[0])
section
variable {l:List Str}{w:cf}{m:GM}
def bT(g:GN l w):∀{p:Pt} {i:Bool} {b:Nat} {pl:List Int},b<=2->Ty l p i b->bj l w b=true->fK m p pl->KV i (wv w m p pl)
 |.given v,i,b,pl,a,h,c,k=>h
 |.named x,i,b,pl,a,h,c,k=>by
  have:=g.nm i b x a h
  rw[if_pos c] at this
  obtain⟨v,e,h⟩:=this
  unfold wv
  rw[e];exact h
 |.turned p,i,b,pl,a,h,c,k=>by
  have u:=bT g a h.2 c k
  unfold wv
  obtain⟨v,e⟩:=u.tr
  rw[e,h.1]
  exact .bl _
 |.pair s p q,i,b,pl,a,h,c,k=>by
  obtain⟨B,y,h1,o⟩:=h
  unfold wv
  exact zw y (bT g a h1 c k.1) (bT g a o c k.2)
 |.choice z p q,i,b,pl,a,h,c,k=>by
  unfold wv Fx
  split
  ·exact bT g a h.2.1 c k.2.1
  ·exact bT g a h.2.2 c k.2.2
 |.before p f,i,b,pl,a,h,c,k=>by
  unfold wv
  cases e:bh m pl with
  |none=>exact h.2
  |some v=>have:=k.1 v e;rw[h.2.2] at this;exact this
 |.led p q,i,b,pl,a,h,c,k=>by
  unfold wv
  split
  ·exact bT g a h.2 c k.2
  ·exact bT g a h.1 c k.1
 |.bY p x,i,b,pl,a,h,c,k=>by
  obtain⟨r,rfl⟩:∃r,b=r+1:=⟨b - 1,by have:=h.1;omega⟩
  unfold wv
  exact bT g (b:=r) (by omega) h.2.2 (g.dn (by omega) c) k
 |.held p x f,i,b,pl,a,h,c,k=>by
  obtain⟨h1,rfl,o,t⟩:=h
  unfold wv
  split
  ·rename_i z
   exact bT g (b:=b+1) (by omega) o (by rw[g.up b h1];exact z) k.2
  ·cases e:bh m pl with
   |none=>exact t
   |some v=>have:=k.1 v e;rw[t.2] at this;exact this
end
def uK(pl:List Int):D:=.tup (pl.map D.int)
def i9(pl:List Int)(i:Int):D.tup (pl.map D.int++[.int i])=uK (pl++[i]):=by unfold uK;rw[QB];rfl
def Ly:cU:=λds Q=>∃i:Int,ds=[.int i]/\Q (.int (m5 i))
def L0:cU:=λds Q=>∃v,ds=[v]/\isVal v/\Q (Eg (vD v))
def vg:cU:=λds Q=>∃(g:Str) (a b:Bool) (x y:D),ds=[.str g,x,y]/\sgn g a b/\KV a x/\KV a y/\Q (pairD g x y)
def xU(A:bq)(n:Nat)(C:Addr):cU:=λds Q=>∃(l:List Str) (a:cf) (p:Pt) (c:Bool) (b:Nat) (pl:List Int) (m:GM),
 ds=[p.d A,.dK a,.dT m,uK pl]/\p.cls A=C/\p.depth<=n/\GN l a/\b<=2/\Ty l p c b/\bj l a b=true/\fK m p pl/\nj m/\pl.length+p.depth<=10/\Q (wv a m p pl)
def uJ{A:bq}{n:Nat}{C:Addr}:b9 (xU A n C):=fun ds P v f ⟨l,t,p,i,b,pl,m,e,h1,h,a,c,s,o,u,g,r,q⟩=>⟨l,t,p,i,b,pl,m,e,h1,h,a,c,s,o,u,g,r,f _ q⟩
def Ep{A:bq}{n:Nat}{C:Addr}(ds:List D)(Q:D->Prop)(h:xU A n C ds Q):ds.length=4:=by obtain⟨l,a,p,c,b,pl,m,e,_⟩:=h;rw[e];rfl
def ae:sr "worth":=by unfold sr;decide +kernel
def nJ:sr "comes_within":=by unfold sr;decide +kernel
def Jl(A:bq):cU:=λds Q=>∃(x:Pt) (y:Str) (f:D) (w:cf),ds=[(Pt.held x y f).d A,.dK w]/\(look w y=none\/∃b,look w y=some (.bl b))/\Q (.bl (eh (look w y)))
def oq{l:List Str}{w:cf}(g:GN l w){b:Nat}(a:b<2):look w (iZ l b)=none\/∃z,look w (iZ l b)=some (.bl z):=by
 have c:Aq l true b (iZ l b):=by
  match b,a with
  | 0,_=>exact⟨0,by simp[idx],rfl⟩
  | 1,_=>exact⟨2,by simp[idx],rfl⟩
 have h:=g.nm true b _ (by omega) c
 split at h
 ·obtain⟨v,e,h1,f⟩:=h
  obtain⟨z,rfl⟩:=KV.tr ⟨h1,f⟩
  exact .inr ⟨z,e⟩
 ·exact .inl h
def vL{x:D}{y:Str}{f:D}:QV ("comes_within":Str) [("part",x),("name",D.str y),("first",f)]=none:=by
 rw[PV,nJ _ (by decide),PV,nJ _ (by decide),PV,nJ _ (by decide)];rfl
abbrev MW(P:O0)(w:World)(K:j')(mg:Str->Option Value)(base:Heap)(A:bq)(j n:Nat):Prop:=∀C,u6 A C->b_ P w K mg base j C "worth" (xU A n C) []
def ar{pl:List Int}(h:pl.length<=10):(pl.map D.int).length+1<=sizeLine:=by rw[G'];exact PB (show pl.length+1<=11 by omega) (by decide)
def oV{l:List Str}{a:cf}{q:Pt}{e:Bool}{b:Nat}{pl:List Int}{i:Int}{m:GM}{Q:D->Prop}(h:q.depth<=n)(E:GN l a)(f:b<=2)(T:Ty l q e b)(c:bj l a b=true)(G:fK m q (pl++[i]))(g:nj m)(o:pl.length+(q.depth+1)<=10)
  (k:Q (wv a m q (pl++[i]))):xU A n (q.cls A) (q.d A::([.dK a,.dT m,.tup (pl.map D.int++[.int i])]++[])) Q :=
 ⟨l,a,q,e,b,pl++[i],m,by rw[i9];rfl,rfl,h,E,f,T,c,G,g,by rw[O4,P5];omega,k⟩
def v7(g:cq K A)(d:Dm K A.given "worth" "Given.worth" eB ["self","now","kept","place"])(a:MW P w K mg base A j n):b_ P w K mg base (j+1) A.given "worth" (xU A (n+1) A.given) []:=by
 refine d.c_ jJ uJ Ep (λf i A e s H E h=>have F:=h.units;have y:=h.hd;have z:=jJ
  (aE (aJ (aT K rfl (dv 0) (by rfl))))) ?_
 rintro ds Q ⟨l,C,p,u,b,pl,m,rfl,o,I,E,t,T,c,G,x,r,q⟩
 obtain⟨v,rfl⟩:=mC g o
 have B:pl.length<=10:=by omega
 change Q v at q
 exact aM rfl (g.cl _ (by simp)) (g.d0 _ (by simp) _ (by simp)) rfl q
def v8(i:cq K A)(d:Dm K A.named "worth" "Named.worth" eC ["self","now","kept","place"])(a:MW P w K mg base A j n):b_ P w K mg base (j+1) A.named "worth" (xU A (n+1) A.named) []:=by
 refine d.c_ jK uJ Ep (λf u A g s H E o=>have z:=o.units;have I:=o.hd;have J:=jK
  (aE (aJ (lK z (dv 1) (aT K rfl (dv 0) (by rfl)) (λ_ _=>rfl))))) ?_
 rintro ds Q ⟨l,y,p,t,b,pl,m,rfl,B,M,E,r,T,c,G,F,C,q⟩
 obtain⟨x,rfl⟩:=mD i B
 have L:pl.length<=10:=by omega
 have h:=E.nm t b x r T
 rw[if_pos c] at h
 obtain⟨v,e,_⟩:=h
 rw[show wv y m (.named x) pl=v by unfold wv;rw[e];rfl] at q
 exact⟨_,rfl,aM rfl (i.cl _ (by simp)) (i.d0 _ (by simp) _ (by simp)) rfl ⟨_,.inr x,v,rfl,rfl,e,q⟩⟩
def uG(h:cq K A)(d:Dm K A.turned "worth" "Turned.worth" dX ["self","now","kept","place"])(a:MW P w K mg base A j n):b_ P w K mg base (j+1) A.turned "worth" (xU A (n+1) A.turned) []:=by
 refine d.c_ iS uJ Ep (λf v A e s H E g=>have M:=g.units;have J:=g.hd;have L:=iS
  (aE (aJ (Gi (wU a g (by omega) (aT K rfl (dv 0) (by rfl)) (aA (dv 1) (aA (dv 2) (aA (aj (dv 3) (aa (bg (by rfl)))) aD)))))))) ?_
 rintro ds Q ⟨l,B,p,I,b,pl,m,rfl,F,C,E,i,T,c,G,u,t,q⟩
 obtain⟨x,rfl⟩:=j_ h F
 have y:pl.length<=10:=by omega
 have r:=bT E i T.2 c G
 obtain⟨z,o⟩:=r.tr
 change Q (Iv (wv B m x (pl++[0]))) at q
 rw[o] at q
 refine aM rfl (h.cl _ (by simp)) (h.d0 _ (by simp) _ (by simp)) rfl ⟨x.cls A,_,(aQ A ae x).choose_spec.1,(aQ A ae x).choose_spec.2,⟨x,rfl⟩,_,rfl,_,rfl,_,rfl,zL1,ar y,?_⟩
 simp only[bG,ai,a_,PM]
 refine oV (by simp only[Pt.depth] at C;omega) E i T.2 c G u (by simp only[Pt.depth] at t;omega) ⟨z,o,q⟩
def xo(e:cq K A)(d:Dm K A.pair "worth" "Pair.worth" fB ["self","now","kept","place"])(pD:bL P w K mg base j "paired" ["sign","one","other"] vg)(a:MW P w K mg base A j n):b_ P w K mg base (j+1) A.pair "worth" (xU A (n+1) A.pair) []:=by
 refine d.c_ ki uJ Ep (λf N A t s H E h=>have U:=h.units;have W:=h.hd;have B:=ki
  (aH (bA (i:=4) B.nd rfl (PN rfl) (wU a h (by omega) (aT K rfl (dv 0) (by rfl)) (aA (dv 1) (aA (dv 2) (aA (aj (dv 3) (aa (bg (by rfl)))) aD)))))
 (aH (bA (i:=5) B.nd rfl (PN rfl) (wU a h (by omega) (aT K rfl (dv 0) (by rfl)) (aA (dv 1) (aA (dv 2) (aA (aj (dv 3) (aa (bg (by rfl)))) aD)))))
 (aE (aJ (aN pD h (by omega) (by rfl) (aA (aT K rfl (dv 0) (by rfl)) (aA (dv 4) (aA (dv 5) aD))))))))) ?_
 rintro ds Q ⟨l,C,p,M,b,pl,m,rfl,S,F,E,r,T,c,G,z,v,q⟩
 obtain⟨g,x,y,rfl⟩:=om e S
 have I:pl.length<=10:=by omega
 obtain⟨J,O,h1,u⟩:=T
 have o:fK m x (pl++[0])/\fK m y (pl++[1]):=by
  exact G
 have R:=bT E r h1 c o.1
 have L:=bT E r u c o.2
 change Q (pairD g (wv C m x (pl++[0])) (wv C m y (pl++[1]))) at q
 refine aM rfl (e.cl _ (by simp)) (e.d0 _ (by simp) _ (by simp)) rfl ⟨x.cls A,_,(aQ A ae x).choose_spec.1,(aQ A ae x).choose_spec.2,⟨x,rfl⟩,_,rfl,_,rfl,_,rfl,zL1,ar I,?_⟩
 simp only[bG,ai,a_,PM]
 refine oV (by simp only[Pt.depth] at F;omega) E r h1 c o.1 z (by simp only[Pt.depth] at v;omega) ?_
 refine aM rfl (e.cl _ (by simp)) (e.d0 _ (by simp) _ (by simp)) rfl ⟨y.cls A,_,(aQ A ae y).choose_spec.1,(aQ A ae y).choose_spec.2,⟨y,rfl⟩,_,rfl,_,rfl,_,rfl,zL1,ar I,?_⟩
 simp only[bG,ai,a_,PM]
 refine oV (by simp only[Pt.depth] at F;omega) E r u c o.2 z (by simp only[Pt.depth] at v;omega) ?_
 exact aM rfl (e.cl _ (by simp)) (e.d0 _ (by simp) _ (by simp)) rfl ⟨_,rfl,_,rfl,g,J,M,_,_,rfl,O,R,L,q⟩
def uF(e:cq K A)(d:Dm K A.choice "worth" "Choice.worth" dR ["self","now","kept","place"])(a:MW P w K mg base A j n):b_ P w K mg base (j+1) A.choice "worth" (xU A (n+1) A.choice) []:=by
 refine d.c_ iP uJ Ep (λf I A i s H E g=>have O:=g.units;have M:=g.hd;have N:=iP
  (aH (bN (Nx (wU a g (by omega) (aT K rfl (dv 0) (by rfl)) (aA (dv 1) (aA (dv 2) (aA (aj (dv 3) (aa (bg (by rfl)))) aD)))) pG) (aE (aJ (wU a g (by omega) (aT K rfl (dv 0) (by rfl)) (aA (dv 1) (aA (dv 2) (aA (aj (dv 3) (aa (bg (by rfl)))) aD)))))) aR)
 (aE (aJ (wU a g (by omega) (aT K rfl (dv 0) (by rfl)) (aA (dv 1) (aA (dv 2) (aA (aj (dv 3) (aa (bg (by rfl)))) aD)))))))) ?_
 rintro ds Q ⟨l,u,p,L,b,pl,m,rfl,J,B,E,h,T,c,G,r,o,q⟩
 obtain⟨z,x,y,rfl⟩:=jZ e J
 have t:pl.length<=10:=by omega
 have F:=bT E h T.1 c G.1
 obtain⟨v,C⟩:=F.tr
 change Q (Fx (wv u m z (pl++[0])) (wv u m x (pl++[1])) (wv u m y (pl++[2]))) at q
 rw[C] at q
 refine aM rfl (e.cl _ (by simp)) (e.d0 _ (by simp) _ (by simp)) rfl ⟨z.cls A,_,(aQ A ae z).choose_spec.1,(aQ A ae z).choose_spec.2,⟨z,rfl⟩,_,rfl,_,rfl,_,rfl,zL1,ar t,?_⟩
 simp only[bG,ai,a_,PM]
 refine oV (by simp only[Pt.depth] at B;omega) E h T.1 c G.1 r (by simp only[Pt.depth] at o;omega) ?_
 rw[C]
 cases v with
 |true =>
  refine⟨true,rfl,true,rfl,aS ?_⟩
  refine aM rfl (e.cl _ (by simp)) (e.d0 _ (by simp) _ (by simp)) rfl ⟨x.cls A,_,(aQ A ae x).choose_spec.1,(aQ A ae x).choose_spec.2,⟨x,rfl⟩,_,rfl,_,rfl,_,rfl,zL1,ar t,?_⟩
  simp only[bG,ai,a_,PM]
  refine oV (by simp only[Pt.depth] at B;omega) E h T.2.1 c G.2.1 r (by simp only[Pt.depth] at o;omega) q
 |false =>
  refine⟨false,rfl,false,rfl,aF ?_⟩
  refine aM rfl (e.cl _ (by simp)) (e.d0 _ (by simp) _ (by simp)) rfl ⟨y.cls A,_,(aQ A ae y).choose_spec.1,(aQ A ae y).choose_spec.2,⟨y,rfl⟩,_,rfl,_,rfl,_,rfl,zL1,ar t,?_⟩
  simp only[bG,ai,a_,PM]
  refine oV (by simp only[Pt.depth] at B;omega) E h T.2.2 c G.2.2 r (by simp only[Pt.depth] at o;omega) q
def uE(g:cq K A)(d:Dm K A.before "worth" "Before.worth" dO ["self","now","kept","place"])(a:MW P w K mg base A j n):b_ P w K mg base (j+1) A.before "worth" (xU A (n+1) A.before) []:=by
 refine d.c_ iN uJ Ep (λf o A e s H E h=>have r:=h.units;have z:=h.hd;have B:=iN
  (aE (aJ (A_ r (dv 2) (dv 3) (aT K rfl (dv 0) (by rfl)) ⟨by rfl,by rfl,by rfl,by rfl⟩)))) ?_
 rintro ds Q ⟨l,F,p,y,b,pl,m,rfl,t,I,E,v,T,c,G,i,u,q⟩
 obtain⟨x,f,rfl⟩:=jY g t
 have C:pl.length<=10:=by omega
 change Q ((bh m pl).getD f) at q
 exact⟨_,rfl,m,rfl,i,_,rfl,pl,rfl,aM rfl (g.cl _ (by simp)) (g.d0 _ (by simp) _ (by simp)) rfl q⟩
def Ab(e:cq K A)(d:Dm K A.led "worth" "Led.worth" fq ["self","now","kept","place"])(a:MW P w K mg base A j n):b_ P w K mg base (j+1) A.led "worth" (xU A (n+1) A.led) []:=by
 refine d.c_ mR uJ Ep (λf B A i s H E g=>have C:=g.units;have J:=g.hd;have L:=mR
  (aH (bN (DK C (dv 3) (dv 2) (by rfl)) (aE (aJ (wU a g (by omega) (aT K rfl (dv 0) (by rfl)) (aA (dv 1) (aA (dv 2) (aA (aj (dv 3) (aa (bg (by rfl)))) aD)))))) aR)
 (aE (aJ (wU a g (by omega) (aT K rfl (dv 0) (by rfl)) (aA (dv 1) (aA (dv 2) (aA (aj (dv 3) (aa (bg (by rfl)))) aD)))))))) ?_
 rintro ds Q ⟨l,v,p,I,b,pl,m,rfl,F,z,E,t,T,c,G,o,r,q⟩
 obtain⟨x,y,rfl⟩:=sM e F
 have u:pl.length<=10:=by omega
 change Q (if(bh m pl).isSome=true then wv v m y (pl++[1]) else wv v m x (pl++[0])) at q
 refine⟨_,rfl,pl,rfl,_,rfl,m,rfl,o,(bh m pl).isSome,rfl,?_⟩
 cases h:(bh m pl).isSome with
 |true =>
  rw[h,if_pos rfl] at q
  refine aS ?_
  refine aM rfl (e.cl _ (by simp)) (e.d0 _ (by simp) _ (by simp)) rfl ⟨y.cls A,_,(aQ A ae y).choose_spec.1,(aQ A ae y).choose_spec.2,⟨y,rfl⟩,_,rfl,_,rfl,_,rfl,zL1,ar u,?_⟩
  simp only[bG,ai,a_,PM]
  refine oV (by simp only[Pt.depth] at z;omega) E t T.2 c G.2 o (by simp only[Pt.depth] at r;omega) q
 |false =>
  rw[h,if_neg A'] at q
  refine aF ?_
  refine aM rfl (e.cl _ (by simp)) (e.d0 _ (by simp) _ (by simp)) rfl ⟨x.cls A,_,(aQ A ae x).choose_spec.1,(aQ A ae x).choose_spec.2,⟨x,rfl⟩,_,rfl,_,rfl,_,rfl,zL1,ar u,?_⟩
  simp only[bG,ai,a_,PM]
  refine oV (by simp only[Pt.depth] at z;omega) E t T.1 c G.1 o (by simp only[Pt.depth] at r;omega) q
def Ac(i:cq K A)(d:Dm K A.bY "worth" "When.worth" fE ["self","now","kept","place"])(a:MW P w K mg base A j n):b_ P w K mg base (j+1) A.bY "worth" (xU A (n+1) A.bY) []:=by
 refine d.c_ kn uJ Ep (λf u A g s H E h=>have J:=h.units;have L:=h.hd;have M:=kn
  (aE (aJ (wU a h (by omega) (aT K rfl (dv 0) (by rfl)) (aA (dv 1) (aA (dv 2) (aA (aj (dv 3) (aa (bg (by rfl)))) aD))))))) ?_
 rintro ds Q ⟨l,o,p,I,b,pl,m,rfl,C,B,E,N,T,c,G,z,v,q⟩
 obtain⟨x,y,rfl⟩:=sN i C
 have F:pl.length<=10:=by omega
 obtain⟨h1,rfl,r⟩:=T
 obtain⟨e,rfl⟩:∃e,b=e+1:=⟨b - 1,by omega⟩
 have t:bj l o e=true:=E.dn (by omega) c
 change Q (wv o m x (pl++[0])) at q
 refine aM rfl (i.cl _ (by simp)) (i.d0 _ (by simp) _ (by simp)) rfl ⟨x.cls A,_,(aQ A ae x).choose_spec.1,(aQ A ae x).choose_spec.2,⟨x,rfl⟩,_,rfl,_,rfl,_,rfl,zL1,ar F,?_⟩
 simp only[bG,ai,a_,PM]
 refine oV (by simp only[Pt.depth] at B;omega) E (b:=e) (by omega) r t G z (by simp only[Pt.depth] at v;omega) q
def Kc(l:cq K A)(d:Dm K A.held "comes_within" "Held.comes_within" cA ["self","now"]):b_ P w K mg base (j+1) A.held "comes_within" (Jl A) []:=by
 refine d.c_ eN (fun ds P p g ⟨x,y,f,w,e,h,q⟩=>⟨x,y,f,w,e,h,g _ q⟩) (fun ds Q ⟨x,y,f,w,e,_⟩=>by rw[e];rfl) (λf m A c s H E i=>have o:=i.units;have r:=i.hd;have t:=eN
  (aE (aJ (Kl (D_ o (dv 1) (aT K rfl (dv 0) (by rfl)) ⟨by rfl,by rfl,by rfl,by rfl⟩) pG)))) ?_
 rintro ds Q ⟨x,y,f,w,rfl,h,q⟩
 refine⟨_,rfl,w,rfl,aM rfl (l.cl _ (by simp)) (l.d0 _ (by simp) _ (by simp)) rfl ⟨.inr y,rfl,?_⟩⟩
 refine⟨true,rfl,?_⟩
 show((look w y).getD .ah=.ah/\_)\/∃a,(look w y).getD .ah=.bl a/\_
 rcases h with e|⟨b,e⟩
 ·rw[e] at q ⊢;exact .inl ⟨rfl,q⟩
 ·rw[e] at q ⊢
  refine .inr ⟨b,rfl,?_⟩
  cases b<;>exact q
def xn(i:cq K A)(d:Dm K A.held "worth" "Held.worth" e9 ["self","now","kept","place"])(a:∀C,C=A.held->b_ P w K mg base j C "comes_within" (Jl A) [])(e:MW P w K mg base A j n):b_ P w K mg base (j+1) A.held "worth" (xU A (n+1) A.held) []:=by
 refine d.c_ kc uJ Ep (λf B A r s H E o=>have F:=o.units;have R:=o.hd;have S:=kc
  (aH (bN (cV (wU a o (by omega) (dv 0) (aA (dv 1) aD))) (aE (aJ (wU e o (by omega) (aT K rfl (dv 0) (by rfl)) (aA (dv 1) (aA (dv 2) (aA (aj (dv 3) (aa (bg (by rfl)))) aD)))))) aR)
 (aE (aJ (A_ F (dv 2) (dv 3) (aT K rfl (dv 0) (by rfl)) ⟨by rfl,by rfl,by rfl,by rfl⟩))))) ?_
 rintro ds Q ⟨l,g,p,O,b,pl,m,rfl,L,J,E,W,T,c,G,u,I,q⟩
 obtain⟨x,y,f,rfl⟩:=oj i L
 have N:pl.length<=10:=by omega
 obtain⟨h1,rfl,v,U⟩:=T
 change Q (if eh (look g (iZ l b))=true then wv g m x (pl++[0]) else(bh m pl).getD f) at q
 have M:bj l g (b+1)=eh (look g (iZ l b)):=E.up b h1
 have t:look g (iZ l b)=none\/∃z,look g (iZ l b)=some (.bl z):=oq E (by omega)
 refine⟨_,rfl,A.held,_,rfl,vL,rfl,_,rfl,x,iZ l b,f,g,rfl,t,?_⟩
 rw[<- M] at q ⊢
 cases h:bj l g (b+1) with
 |true =>
  rw[h,if_pos rfl] at q
  refine⟨true,rfl,aS ?_⟩
  refine aM rfl (i.cl _ (by simp)) (i.d0 _ (by simp) _ (by simp)) rfl ⟨x.cls A,_,(aQ A ae x).choose_spec.1,(aQ A ae x).choose_spec.2,⟨x,rfl⟩,_,rfl,_,rfl,_,rfl,zL1,ar N,?_⟩
  simp only[bG,ai,a_,PM]
  refine oV (by simp only[Pt.depth] at J;omega) E (b:=b+1) (by omega) v h G.2 u (by simp only[Pt.depth] at I;omega) q
 |false =>
  rw[h,if_neg A'] at q
  exact⟨false,rfl,aF ⟨_,rfl,m,rfl,u,_,rfl,pl,rfl,aM rfl (i.cl _ (by simp)) (i.d0 _ (by simp) _ (by simp)) rfl q⟩⟩
structure wF (K:j') (A:bq):Prop where
 given:Dm K A.given "worth" "Given.worth" eB ["self","now","kept","place"]
 named:Dm K A.named "worth" "Named.worth" eC ["self","now","kept","place"]
 turned:Dm K A.turned "worth" "Turned.worth" dX ["self","now","kept","place"]
 pair:Dm K A.pair "worth" "Pair.worth" fB ["self","now","kept","place"]
 choice:Dm K A.choice "worth" "Choice.worth" dR ["self","now","kept","place"]
 before:Dm K A.before "worth" "Before.worth" dO ["self","now","kept","place"]
 led:Dm K A.led "worth" "Led.worth" fq ["self","now","kept","place"]
 bY:Dm K A.bY "worth" "When.worth" fE ["self","now","kept","place"]
 held:Dm K A.held "worth" "Held.worth" e9 ["self","now","kept","place"]
 cw:Dm K A.held "comes_within" "Held.comes_within" cA ["self","now"]
def iH{A:bq}{C:Addr}(ds:List D)(Q:D->Prop):¬ xU A 0 C ds Q:=fun⟨l,a,p,c,b,pl,m,_,_,h,_⟩=>absurd p.bO (by omega)
def rC{i c:Int}(e:KV false (.int i))(g:KV false (.int c)):oR i c:=by
 obtain⟨a,f,h1,m⟩:=e.nu
 obtain⟨b,h,o,l⟩:=g.nu
 cases f
 cases h
 exact .inl ⟨by omega,by omega⟩
def gO(d:Df K mg "brought" nR ["number"])(t:GI mg "LOWEST" (-128))(u:GI mg "ROUND" 256):bL P w K mg base (j+1) "brought" ["number"] Ly:=by
 obtain⟨x,a⟩:=t.ex
 obtain⟨r,h⟩:=u.ex
 have b:RelV (.int (-128)) (.int (-128) x):=⟨_,rfl⟩
 have m:RelV (.int 256) (.int 256 r):=⟨_,rfl⟩
 have c:∀H,Dv K H (.int (-128)) (.int (-128)):=λ_=>.int _
 have l:∀H,Dv K H (.int 256) (.int 256):=λ_=>.int _
 refine d.c_ qI (fun ds P y g ⟨i,e,q⟩=>⟨i,e,g _ q⟩) (fun ds Q ⟨d,e,_⟩=>by rw[e];rfl) (λf v A o s H E p=>have C:=p.units;have z:=p.hd;have B:=qI
  (aE (aJ (aj (ba (dC (dv 0) (dH (by rfl) a b c)) (dH (by rfl) h m l)) (dH (by rfl) a b c))))) ?_
 rintro ds Q ⟨i,rfl,q⟩
 refine⟨_,rfl,iP256,?_⟩
 rw[show m5 i=(i - -128)%256+-128 by unfold m5;omega] at q
 exact q
def ee(d:Df K mg "value_kind" iD ["value"])(a:mg "isinstance"=none)(c:mg "bool"=none):bL P w K mg base (j+1) "value_kind" ["value"] L0:=by
 refine d.c_ lD (fun ds P r g ⟨d,e,h,q⟩=>⟨d,e,h,g _ q⟩) (fun ds Q ⟨d,e,_⟩=>by rw[e];rfl) (λf o A l s H E m=>have y:=m.units;have u:=m.hd;have x:=lD
  (aE (aJ (EA (cV (gR (by rfl) a (by rfl) c (dv 0))) aZ aZ)))) ?_
 rintro ds Q ⟨v,rfl,p,q⟩
 rcases p with⟨b,rfl⟩|⟨i,rfl,h1,t⟩
 ·exact⟨_,rfl,true,rfl,_,rfl,aS q⟩
 ·exact⟨_,rfl,false,rfl,_,rfl,aF q⟩
def pD(d:Df K mg "paired" qH ["sign","one","other"])(gO:bL P w K mg base j "brought" ["number"] Ly)(ee:bL P w K mg base j "value_kind" ["value"] L0):bL P w K mg base (j+1) "paired" ["sign","one","other"] vg:=by
 refine d.c_ rO (fun ds P C f ⟨g,o,r,x,y,e,h1,t,z,q⟩=>⟨g,o,r,x,y,e,h1,t,z,f _ q⟩) (fun ds Q ⟨g,o,r,x,y,e,_⟩=>by rw[e];rfl) (λf v A p s H E m=>have b:=m.units;have F:=m.hd;have G:=rO
  (aH (bN (bx b (dv 0) aZ) (aE (aJ (aN gO m (by omega) (by rfl) (aA (aj (dv 1) (dv 2)) aD)))) aR)
 (aH (bN (bx b (dv 0) aZ) (aE (aJ (aN gO m (by omega) (by rfl) (aA (dC (dv 1) (dv 2)) aD)))) aR)
 (aH (bN (bx b (dv 0) aZ) (aE (aJ (aN gO m (by omega) (by rfl) (aA (l4 (dv 1) (dv 2)) aD)))) aR)
 (aH (bN (bx b (dv 0) aZ) (aE (aJ (ip (qY b (aN ee m (by omega) (by rfl) (aA (dv 1) aD)) (aN ee m (by omega) (by rfl) (aA (dv 2) aD))) (ff (qY b (dv 1) (dv 2)))))) aR)
 (aH (bN (bx b (dv 0) aZ) (aE (aJ (M4 (dv 1) (dv 2)))) aR)
 (aH (bN (bx b (dv 0) aZ) (aE (aJ (Hu (dv 1) (dv 2)))) aR)
 (aH (bN (bx b (dv 0) aZ) (aE (aJ (ip (dv 1) (ff (dv 2))))) aR)
 (aE (aJ (H_ (dv 1) (ff (dv 2))))))))))))) ?_
 rintro ds Q ⟨g,o,r,x,y,rfl,u,c,l,q⟩
 rcases u with⟨h,rfl,rfl⟩|⟨h,rfl,rfl⟩|⟨rfl,rfl⟩|⟨h,rfl,rfl⟩
 ·obtain⟨i,rfl,_⟩:=c.nu
  obtain⟨a,rfl,_⟩:=l.nu
  change Q (intD g i a) at q
  simp only[B',C',or_false] at h
  rcases h with rfl|rfl|rfl
  ·rw[show intD "+" i a=.int (m5 (i+a)) by unfold intD;rw[if_pos rfl]] at q
   exact⟨_,rfl,true,congrArg D.bl (by decide +kernel),aS ⟨_,rfl,_,rfl,_,rfl,q⟩⟩
  ·rw[show intD "-" i a=.int (m5 (i - a)) by unfold intD;rw[if_neg (by decide +kernel),if_pos rfl]] at q
   exact⟨_,rfl,false,congrArg D.bl (by decide +kernel),aF ⟨_,rfl,true,congrArg D.bl (by decide +kernel),aS ⟨_,rfl,_,rfl,_,rfl,q⟩⟩⟩
  ·rw[show intD "*" i a=.int (m5 (i*a)) by unfold intD;rw[if_neg (by decide +kernel),if_neg (by decide +kernel),if_pos rfl]] at q
   have B:oR i a:=rC c l
   exact⟨_,rfl,false,congrArg D.bl (by decide +kernel),aF ⟨_,rfl,false,congrArg D.bl (by decide +kernel),aF ⟨_,rfl,true,congrArg D.bl (by decide +kernel),aS ⟨_,rfl,_,rfl,B.ok,_,rfl,q⟩⟩⟩⟩
 ·obtain⟨i,rfl⟩:=c.tr
  obtain⟨a,rfl⟩:=l.tr
  change Q (rj g i a) at q
  simp only[B',C',or_false] at h
  rcases h with rfl|rfl
  ·rw[show rj "and" i a=.bl (i&&a) by unfold rj;rw[if_pos rfl]] at q
   refine⟨_,rfl,false,congrArg D.bl (by decide +kernel),aF ⟨_,rfl,false,congrArg D.bl (by decide +kernel),aF ⟨_,rfl,false,congrArg D.bl (by decide +kernel),aF ⟨_,rfl,false,congrArg D.bl (by decide +kernel),aF ⟨_,rfl,false,congrArg D.bl (by decide +kernel),aF ⟨_,rfl,false,congrArg D.bl (by decide +kernel),aF ⟨_,rfl,true,congrArg D.bl (by decide +kernel),aS ⟨_,rfl,?_⟩⟩⟩⟩⟩⟩⟩⟩
   cases i with
   |true=>exact⟨true,rfl,aS ⟨_,rfl,q⟩⟩
   |false=>exact⟨false,rfl,aF q⟩
  ·rw[show rj "or" i a=.bl (i||a) by unfold rj;rw[if_neg (by decide +kernel),if_pos rfl]] at q
   refine⟨_,rfl,false,congrArg D.bl (by decide +kernel),aF ⟨_,rfl,false,congrArg D.bl (by decide +kernel),aF ⟨_,rfl,false,congrArg D.bl (by decide +kernel),aF ⟨_,rfl,false,congrArg D.bl (by decide +kernel),aF ⟨_,rfl,false,congrArg D.bl (by decide +kernel),aF ⟨_,rfl,false,congrArg D.bl (by decide +kernel),aF ⟨_,rfl,false,congrArg D.bl (by decide +kernel),aF ⟨_,rfl,?_⟩⟩⟩⟩⟩⟩⟩⟩
   cases i with
   |true=>exact⟨true,rfl,aS q⟩
   |false=>exact⟨false,rfl,aF ⟨_,rfl,q⟩⟩
 ·refine⟨_,rfl,false,congrArg D.bl (by decide +kernel),aF ⟨_,rfl,false,congrArg D.bl (by decide +kernel),aF ⟨_,rfl,false,congrArg D.bl (by decide +kernel),aF ⟨_,rfl,true,congrArg D.bl (by decide +kernel),aS ⟨_,rfl,x,rfl,c.1,_,rfl,y,rfl,l.1,?_⟩⟩⟩⟩⟩
  rw[c.2,l.2]
  refine⟨true,congrArg D.bl (by simp),aS ⟨_,rfl,_,rfl,?_⟩⟩
  cases o with
  |true =>
   obtain⟨i,rfl⟩:=c.tr
   obtain⟨a,rfl⟩:=l.tr
   change Q (rj "=" i a) at q
   rw[show rj "=" i a=.bl (decide (i=a)) by unfold rj;rw[if_neg (by decide +kernel),if_neg (by decide +kernel)]] at q
   cases i<;>cases a<;>exact q
  |false =>
   obtain⟨i,rfl,_⟩:=c.nu
   obtain⟨a,rfl,_⟩:=l.nu
   change Q (intD "=" i a) at q
   rw[show intD "=" i a=.bl (decide (i=a)) by unfold intD;rw[if_neg (by decide +kernel),if_neg (by decide +kernel),if_neg (by decide +kernel),if_pos rfl]] at q
   exact q
 ·obtain⟨i,rfl,_⟩:=c.nu
  obtain⟨a,rfl,_⟩:=l.nu
  change Q (intD g i a) at q
  simp only[B',C',or_false] at h
  rcases h with rfl|rfl
  ·rw[show intD "<" i a=.bl (decide (i<a)) by unfold intD;rw[if_neg (by decide +kernel),if_neg (by decide +kernel),if_neg (by decide +kernel),if_neg (by decide +kernel),if_pos rfl]] at q
   exact⟨_,rfl,false,congrArg D.bl (by decide +kernel),aF ⟨_,rfl,false,congrArg D.bl (by decide +kernel),aF ⟨_,rfl,false,congrArg D.bl (by decide +kernel),aF ⟨_,rfl,false,congrArg D.bl (by decide +kernel),aF ⟨_,rfl,true,congrArg D.bl (by decide +kernel),aS ⟨_,rfl,_,rfl,q⟩⟩⟩⟩⟩⟩
  ·rw[show intD "<=" i a=.bl (decide (i<=a)) by unfold intD;rw[if_neg (by decide +kernel),if_neg (by decide +kernel),if_neg (by decide +kernel),if_neg (by decide +kernel),if_neg (by decide +kernel)]] at q
   exact⟨_,rfl,false,congrArg D.bl (by decide +kernel),aF ⟨_,rfl,false,congrArg D.bl (by decide +kernel),aF ⟨_,rfl,false,congrArg D.bl (by decide +kernel),aF ⟨_,rfl,false,congrArg D.bl (by decide +kernel),aF ⟨_,rfl,false,congrArg D.bl (by decide +kernel),aF ⟨_,rfl,true,congrArg D.bl (by decide +kernel),aS ⟨_,rfl,_,rfl,q⟩⟩⟩⟩⟩⟩⟩
def nY(a:cq K A)(d:wF K A)(c:bL P w K mg base 2 "paired" ["sign","one","other"] vg):∀n,MW P w K mg base A (n+2) n
 | 0=>fun C ⟨p,e⟩=>by
  subst e
  cases p
  ·exact Dm.never d.given uJ iH
  ·exact Dm.never d.named uJ iH
  ·exact Dm.never d.turned uJ iH
  ·exact Dm.never d.pair uJ iH
  ·exact Dm.never d.choice uJ iH
  ·exact Dm.never d.before uJ iH
  ·exact Dm.never d.led uJ iH
  ·exact Dm.never d.bY uJ iH
  ·exact Dm.never d.held uJ iH
 |n+1=>fun C ⟨p,e⟩=>by
  have b:=nY a d c n
  subst e
  cases p
  ·exact v7 a d.given b
  ·exact v8 a d.named b
  ·exact uG a d.turned b
  ·exact xo a d.pair (c.up (by omega)) b
  ·exact uF a d.choice b
  ·exact uE a d.before b
  ·exact Ab a d.led b
  ·exact Ac a d.bY b
  ·exact xn a d.held (λC e=>by subst e;exact Kc a d.cw) b
def bW{pl k:List Int}{i:Int}(h:(pl++[i]) <+: k):pl <+: k:=(So pl [i]).trans h
def eL{pl:List Int}{i:Int}(h:(pl++[i]) <+: pl):False:=by
 have:=h.length_le
 rw[O4,P5] at this
 omega
def tK{pl k:List Int}{i j:Int}(a:i≠j)(h1:(pl++[i]) <+: k)(c:(pl++[j]) <+: k):False:=by
 obtain⟨f,b⟩:=h1
 obtain⟨g,e⟩:=c
 rw[<- e,Ph,Ph] at b
 have:=UG b
 simp at this
 exact a this.1
structure Pc (pl:List Int) (p:Pt):Prop where
 ok:∀i∈pl,(0:Int)<=i
 dp:pl.length+p.depth<=10
def Pc.lP{pl:List Int}{p q:Pt}{i:Int}(h:Pc pl p)(a:0<=i)(b:q.depth+1<=p.depth):Pc (pl++[i]) q:=⟨λz hz=>by
 rcases O3.mp hz with hz|hz
 ·exact h.ok z hz
 ·rw[O6.mp hz];exact a,by have:=h.dp;rw[O4];simp;omega⟩
def fh{pl:List Int}(h:∀i∈pl,(0:Int)<=i):pl≠xK:=λe=>by
 have:=h (-1) (by rw[e];exact D')
 omega
def Fr(pl:List Int)(a:GM):Prop:=∀g∈a,¬pl <+: g.1
def Fr.app{pl:List Int}{a b:GM}(h:Fr pl a)(h':Fr pl b):Fr pl (a++b):=λg c=>(O3.mp c).elim (h g) (h' g)
def get_none:∀{a:GM} {k:List Int},(∀g∈a,g.1≠k)->bh a k=none
 |[],_,_=>rfl
 |p::r,k,h=>by rw[fL,if_neg (h p D')];exact get_none λg b=>h g (O5 _ b)
def kE{a:GM}{k:List Int}{v:D}(h:∀g∈a,g.1≠k):mJ a k v=a++[(k,v)]:=by
 unfold mJ
 rw[get_none h]
 exact if_neg A'
def Fw(pl:List Int)(a:GM):Prop:=∀g∈a,g.1≠xK->¬ pl <+: g.1
def Fr.fw{pl:List Int}{gs:GM}(h:Fr pl gs):Fw pl gs:=λg a _=>h g a
def Fw.up{pl:List Int}{gs:GM}{i:Int}(h:Fw pl gs):Fw (pl++[i]) gs:=λg a n z=>h g a n (bW z)
def Fw.app{pl:List Int}{a b:GM}(h:Fw pl a)(h':Fw pl b):Fw pl (a++b):=λg c=>(O3.mp c).elim (h g) (h' g)
def Fw.ne{pl:List Int}{a:GM}(h:Fw pl a)(b:pl≠xK):∀g∈a,g.1≠pl:=λg c e=>h g c (by rw[e];exact b) (e ▸ Qn _)
def sj:∀{c b:GM},(∀g∈b,∀h∈c,g.1≠h.1)->(c.map (·.1)).Nodup->zo b c=b++c
 |[],b,_,_=>(Pf b).symm
 |h::r,b,l,f=>by
  rw[O1,QK] at f
  show zo (mJ b h.1 h.2) r=_
  rw[kE λg a=>l g a h D',sj (λg a k i=>?_) f.2,Ph]
  ·rfl
  ·rcases O3.mp a with a|a
   ·exact l g a k (O5 _ i)
   ·rw[O6.mp a]
    exact λe=>f.1 (by rw[show h.1=k.1 from e];exact O_.mpr ⟨k,i,rfl⟩)
section
variable {w:cf}{m:GM}
def fT{c:Bool}{pl:List Int}{v:D}{g:List Int × D}(h:g∈own c pl v):g=(pl,v):=by
 unfold own at h
 split at h
 ·exact O6.mp h
 ·cases h
def ot{c:Bool}{pl:List Int}{v:D}:(own c pl v).length<=1:=by unfold own;split<;>simp
def cD:∀{p:Pt} {c:Bool} {pl:List Int},∀g∈kl w m p c pl,pl <+: g.1
 |.given _,c,pl,g,h=>nomatch h
 |.named _,c,pl,g,h=>nomatch h
 |.turned p,c,pl,g,h=>bW (cD (p:=p) g h)
 |.pair _ p q,c,pl,g,h=>(O3.mp h).elim (λh=>bW (cD (p:=p) g h)) λh=>bW (cD (p:=q) g h)
 |.choice z p q,c,pl,g,h=>(O3.mp h).elim (λh=>bW (cD (p:=z) g h)) λh=>(O3.mp h).elim (λh=>bW (cD (p:=p) g h)) λh=>bW (cD (p:=q) g h)
 |.before p _,c,pl,g,h=>(O3.mp h).elim (λh=>by rw[fT h];exact Qn _) λh=>bW (cD (p:=p) g h)
 |.led p q,c,pl,g,h=>(O3.mp h).elim (λh=>by rw[fT h];exact Qn _) λh=>(O3.mp h).elim (λh=>bW (cD (p:=p) g h)) λh=>bW (cD (p:=q) g h)
 |.bY p _,c,pl,g,h=>bW (cD (p:=p) g h)
 |.held p _ _,c,pl,g,h=>(O3.mp h).elim (λh=>by rw[fT h];exact Qn _) λh=>bW (cD (p:=p) g h)
def dj:∀{p:Pt} {c:Bool} {pl:List Int},(kl w m p c pl).length<=p.size
 |.given _,c,pl=>P6 _
 |.named _,c,pl=>P6 _
 |.turned p,c,pl=>by have:=dj (p:=p) (c:=c) (pl:=pl++[0]);unfold kl;simp only[Pt.size];omega
 |.pair _ p q,c,pl=>by
  have h1:=dj (p:=p) (c:=c) (pl:=pl++[0])
  have b:=dj (p:=q) (c:=c) (pl:=pl++[1])
  unfold kl;simp only[Pt.size,O4];omega
 |.choice z p q,c,pl=>by
  have a:=dj (p:=z) (c:=c) (pl:=pl++[0])
  have h1:=dj (p:=p) (c:=c) (pl:=pl++[1])
  have b:=dj (p:=q) (c:=c) (pl:=pl++[2])
  unfold kl;simp only[Pt.size,O4];omega
 |.before p _,c,pl=>by
  have a:=ot (c:=c) (pl:=pl) (v:=wv w m p (pl++[0]))
  have h1:=dj (p:=p) (c:=c) (pl:=pl++[0])
  unfold kl;simp only[Pt.size,O4];omega
 |.led p q,c,pl=>by
  have a:=ot (c:=c) (pl:=pl) (v:=.bl true)
  have h1:=dj (p:=p) (c:=c) (pl:=pl++[0])
  have b:=dj (p:=q) (c:=c) (pl:=pl++[1])
  unfold kl;simp only[Pt.size,O4];omega
 |.bY p x,c,pl=>by have:=dj (p:=p) (c:=(look w x).isSome) (pl:=pl++[0]);unfold kl;simp only[Pt.size];omega
 |.held p x _,c,pl=>by
  have a:=ot (c:=eh (look w x)) (pl:=pl) (v:=wv w m p (pl++[0]))
  have h1:=dj (p:=p) (c:=eh (look w x)) (pl:=pl++[0])
  unfold kl;simp only[Pt.size,O4];omega
def pM{p:Pt}{c:Bool}{pl:List Int}{i j:Int}(h:i≠j):Fr (pl++[i]) (kl w m p c (pl++[j])):=λg a z=>tK h z (cD g a)
def wc{c:Bool}{pl:List Int}{v:D}{i:Int}:Fr (pl++[i]) (own c pl v):=λg a z=>by rw[fT a] at z;exact eL z
def zi(w:cf)(m:GM)(c:Bool)(pl:List Int):Nat->List Pt->GM
 |_,[]=>[]
 |i,p::r=>kl w m p c (pl++[(i:Int)])++zi w m c pl (i+1) r
def lR{xs ys:GM}{P:List Int->Prop}(h1:(xs.map (·.1)).Nodup)(i:(ys.map (·.1)).Nodup)(c:∀g∈xs,P g.1)(o:∀g∈ys,¬P g.1):((xs++ys).map (·.1)).Nodup:=by
 rw[QB,QP]
 refine⟨h1,i,λa p b l e=>?_⟩
 obtain⟨g,h,rfl⟩:=O_.mp p
 obtain⟨k,f,rfl⟩:=O_.mp l
 exact o k f (by rw[<- show g.1=k.1 from e];exact c g h)
def xJ{c:Bool}{pl:List Int}{v:D}:((own c pl v).map (·.1)).Nodup:=by unfold own;split<;>simp
def iL:∀{p:Pt} {c:Bool} {pl:List Int},((kl w m p c pl).map (·.1)).Nodup
 |.given _,c,pl=>RK
 |.named _,c,pl=>RK
 |.turned p,c,pl=>iL (p:=p)
 |.pair _ p q,c,pl=>lR (P:=λk=>(pl++[(0:Int)]) <+: k) (iL (p:=p)) (iL (p:=q)) (λg a=>cD g a) (pM (by decide))
 |.choice z p q,c,pl=>lR (P:=λk=>(pl++[(0:Int)]) <+: k) (iL (p:=z)) (lR (P:=λk=>(pl++[(1:Int)]) <+: k) (iL (p:=p)) (iL (p:=q)) (λg a=>cD g a) (pM (by decide))) (λg a=>cD g a) (Fr.app (pM (by decide)) (pM (by decide)))
 |.before p _,c,pl=>lR (P:=λk=>k=pl) xJ (iL (p:=p)) (λg a=>by rw[fT a]) λg a e=>eL (i:=0) (by have:=cD g a;rw[show g.1=pl from e] at this;exact this)
 |.led p q,c,pl=>lR (P:=λk=>k=pl) xJ (lR (P:=λk=>(pl++[(0:Int)]) <+: k) (iL (p:=p)) (iL (p:=q)) (λg a=>cD g a) (pM (by decide))) (λg a=>by rw[fT a]) λg a e=>by
   rcases O3.mp a with a|a
   ·exact eL (i:=0) (by have:=cD g a;rw[show g.1=pl from e] at this;exact this)
   ·exact eL (i:=1) (by have:=cD g a;rw[show g.1=pl from e] at this;exact this)
 |.bY p _,c,pl=>iL (p:=p)
 |.held p _ _,c,pl=>lR (P:=λk=>k=pl) xJ (iL (p:=p)) (λg a=>by rw[fT a]) λg a e=>eL (i:=0) (by have:=cD g a;rw[show g.1=pl from e] at this;exact this)
end
def Al(A:bq)(n:Nat)(C:Addr):Aj:=λds μ Q=>∃(l:List Str) (c:cf) (p:Pt) (f:Bool) (b:Nat) (pl:List Int) (m:GM) (a:Addr) (e:GM),
 ds=[p.d A,.dK c,.dT m,uK pl,.bl (bj l c b),.adr a]/\μ=[(a,.dT e)]/\p.cls A=C/\p.depth<=n/\GN l c/\b<=2/\Ty l p f b/\fK m p pl/\nj m/\Pc pl p/\Fw pl e/\e.length+p.size<=1000/\Q .ah [(a,.dT (e++kl c m p (bj l c b) pl))]
def wD{A:bq}{n:Nat}{C:Addr}:rf (Al A n C):=fun ds μ P B f ⟨l,y,p,s,b,pl,m,a,t,e,h1,r,h,i,x,u,z,o,v,g,c,q⟩=>⟨l,y,p,s,b,pl,m,a,t,e,h1,r,h,i,x,u,z,o,v,g,c,f _ _ q⟩
def K_{A:bq}{n:Nat}{C:Addr}(ds:List D)(μ:Mu)(Q:D->Mu->Prop)(h:Al A n C ds μ Q):ds.length=6:=by obtain⟨l,f,p,g,b,pl,m,a,c,e,_⟩:=h;rw[e];rfl
def bE:sr "keep":=by unfold sr;decide +kernel
abbrev MK(P:O0)(w:World)(K:j')(mg:Str->Option Value)(base:Heap)(A:bq)(j n:Nat):Prop:=∀C,u6 A C->gL P w K mg base j C "keep" (Al A n C)
def lE:List Pt->Nat
 |[]=>0
 |p::r=>p.size+lE r
structure KJ (l:List Str) (nw:cf) (p:Pt) (kd:Bool) (b:Nat) (pl:List Int) (m:GM):Prop where
 kp:∀c,kl nw m p c pl=zi nw m c pl 0 p.inner
 sz:lE p.inner<=p.size
 lP:∀(i:Nat) (q:Pt),p.inner[i]?=some q->(∃kq,Ty l q kq b/\fK m q (pl++[(i:Int)]))/\Pc (pl++[(i:Int)]) q/\q.depth+1<=p.depth
def uM{l:List Str}{c:cf}{q:Pt}{f:Bool}{b:Nat}{pl:List Int}{i:Int}{m:GM}{a:Addr}{e:GM}{Q:D->Mu->Prop}(r:q.depth<=n)(E:GN l c)(g:b<=2)(T:Ty l q f b)(G:fK m q (pl++[i]))(p:nj m)(pc:Pc (pl++[i]) q)(o:Fw (pl++[i]) e)(h:e.length+q.size<=1000)
  (k:Q .ah [(a,.dT (e++kl c m q (bj l c b) (pl++[i])))]):Al A n (q.cls A) (q.d A::[.dK c,.dT m,.tup (pl.map D.int++[.int i]),.bl (bj l c b),.adr a]) [(a,.dT e)] Q :=
 ⟨l,c,q,f,b,pl++[i],m,a,e,by rw[i9],rfl,rfl,r,E,g,T,G,p,pc,o,h,k⟩
def gS{C:Addr}(hA:cq K A)(d:Dm K C "keep" "Part.keep" cF ["self","now","kept","place","comes","more"])(e:mg "enumerate"=none)(r:MP P w K mg base A j "inner" (n+1) (dJ A))(t:MK P w K mg base A j n)
  (h5:∀l o p J b pl m,p.cls A=C->Ty l p J b->fK m p pl->Pc pl p->KJ l o p J b pl m):gL P w K mg base (j+1) C "keep" (Al A (n+1) C):=by
 refine d.Ay mU wD K_ (λf X A M s H E L=>have hu:=L.units;have hh:=L.hd;have O:=mU
  (bc (pz Q2 rfl (EU (by rfl) e (aA (eJ r L (by omega) (dv 0)) aD)) (Ba (n:=2) rfl (jU (gu (i:=6) O.nd rfl (PN rfl)) (jU (gu (i:=7) O.nd rfl (PN rfl)) wg))) (bc (fQ t L (by omega) (dv 7) (aA (dv 1) (aA (dv 2) (aA (aj (dv 3) (aa (aA (dv 6) aD))) (aA (dv 4) (aA (dv 5) aD)))))))))) ?_
 rintro ds μ Q ⟨l,o,p,J,b,pl,m,a,R,rfl,rfl,hc,hd,E,hb,T,G,Y,pc,fr,hs,q⟩
 have h:=h5 l o p J b pl m hc T G pc
 obtain⟨gi,Z,e2⟩:=aQ A nK p
 refine⟨_,rfl,p.cls A,gi,Z,e2,⟨p,rfl⟩,p,rfl,rfl,hd,?_⟩
 refine⟨_,rfl,λi δ μ=>∃(x y:Option D) (z:GM),δ=[some (p.d A),some (.dK o),some (.dT m),some (uK pl),some (.bl (bj l o b)),some (.adr a),x,y]/\μ=[(a,.dT z)]/\z++zi o m (bj l o b) pl i (p.inner.drop i)=R++kl o m p (bj l o b) pl/\(∀k:Nat,i<=k->Fw (pl++[(k:Int)]) z)/\z.length+lE (p.inner.drop i)<=1000,⟨none,none,R,rfl,rfl,by rw[h.kp];rfl,λk _=>fr.up,by rw[List.drop_zero];have:=h.sz;omega⟩,?_,?_⟩
 ·rintro i dd δ μ g ⟨x,y,z,rfl,rfl,B,F,u⟩
  rw[jS] at g
  rw[O7] at g
  cases hq:p.inner[i]? with
  |none=>rw[hq] at g;cases g
  |some v =>
   rw[hq] at g
   have I:D.tup [.int (i:Int),v.d A]=dd:=by simpa using g
   subst I
   obtain⟨⟨kq,Tq,Gq⟩,pq,dq⟩:=h.lP i v hq
   obtain⟨U,S,W⟩:=aQ A bE v
   have N:p.inner.drop i=v::p.inner.drop (i+1):=by rw[T3 (PJ.mp hq).1,(PJ.mp hq).2]
   rw[N] at B u
   refine⟨_,rfl,rfl,_,_,rfl,_,_,rfl,rfl,_,rfl,v.cls A,U,S,W,⟨v,rfl⟩,_,rfl,_,rfl,_,rfl,_,rfl,zL1,ar (by have:=pc.dp;omega),_,rfl,_,rfl,?_⟩
   simp only[bG]
   refine uM (by omega) E hb Tq Gq Y pq (F i (O2 _)) (by simp only[lE] at u;omega) ⟨_,_,_,rfl,rfl,?_,λk hk'=>(F k (by omega)).app (Fr.fw (pM (by omega))),?_⟩
   ·rw[<- B,Ph];rfl
   ·rw[O4]
    have:=dj (w:=o) (m:=m) (p:=v) (c:=bj l o b) (pl:=pl++[(i:Int)])
    simp only[lE] at u
    omega
 ·rintro δ μ ⟨x,y,z,rfl,rfl,B,_⟩
  rw[jT,G',VE] at B
  rw[<- B,show zi o m (bj l o b) pl p.inner.length []=[] from rfl,Pf] at q
  exact q
def ND{c:Prop} [Decidable c] {X Y:Prop} (h:c) (x:X):if c then X else Y:=by rw[if_pos h];exact x
def NC{c:Prop} [Decidable c] {X Y:Prop} (h:¬ c) (x:Y):if c then X else Y:=by rw[if_neg h];exact x
def bK(a:Addr)(m:MD):QV a [(a,m)]=some m:=by rw[PV,beq_self_eq_true]
def bu(a:Addr)(m b:MD):oZ a b [(a,m)]=[(a,b)]:=by simp[oZ]
def oH(pl:List Int)(v:D):own true pl v=[(pl,v)]:=if_pos rfl
def p8(pl:List Int)(v:D):own false pl v=[]:=if_neg A'
def sF{a:GM}{n:Nat}(h:a.length+n<=1000):a.length<sizeLine:=Pg (show a.length<=1000 by omega) (by decide)
def u_(g:cq K A)(d:Dm K A.before "keep" "Before.keep" d9 ["self","now","kept","place","comes","more"])(c:MW P w K mg base A j n)(e:MK P w K mg base A j n):gL P w K mg base (j+1) A.before "keep" (Al A (n+1) A.before):=by
 refine d.Ay jG wD K_ (λf L A t s H E r=>have M:=r.units;have R:=r.hd;have S:=jG
  (aY (i6 (cV (dv 4)) (bc (gw (i:=5) M rfl (PN rfl) (dv 3) (wU c r (by omega) (aT K rfl (dv 0) (by rfl)) (aA (dv 1) (aA (dv 2) (aA (aj (dv 3) (aa (bg (by rfl)))) aD)))))) fR)
 (bc (fQ e r (by omega) (aT K rfl (dv 0) (by rfl)) (aA (dv 1) (aA (dv 2) (aA (aj (dv 3) (aa (bg (by rfl)))) (aA (dv 4) (aA (dv 5) aD))))))))) ?_
 rintro ds μ Q ⟨l,I,p,O,b,pl,m,a,F,rfl,rfl,N,v,E,y,T,G,u,pc,B,C,q⟩
 obtain⟨x,f,rfl⟩:=jY g N
 have z:pl.length<=10:=by have:=pc.dp;omega
 have J:F.length<sizeLine:=sF C
 unfold kl at q
 simp only[Pt.size] at C
 have o:Pc (pl++[0]) x:=pc.lP (by decide) (by simp only[Pt.depth];omega)
 refine⟨_,rfl,bj l I b,rfl,?_⟩
 cases h:bj l I b with
 |true =>
  rw[h,oH] at q
  refine aS ?_
  refine aM rfl (g.cl _ (by simp)) (g.d0 _ (by simp) _ (by simp)) rfl ⟨x.cls A,_,(aQ A ae x).choose_spec.1,(aQ A ae x).choose_spec.2,⟨x,rfl⟩,_,rfl,_,rfl,_,rfl,zL1,ar z,?_⟩
  simp only[bG,ai,a_,PM]
  refine oV (by simp only[Pt.depth] at v;omega) E y T.1 h G.2 u (by have:=pc.dp;simp only[Pt.depth] at this;omega) ?_
  refine⟨a,F,rfl,bK _ _,J,_,rfl,pl,rfl,fh pc.ok,?_⟩
  rw[bu,kE (B.ne (fh pc.ok))]
  refine aM rfl (g.cl _ (by simp)) (g.d0 _ (by simp) _ (by simp)) rfl ⟨x.cls A,_,(aQ A bE x).choose_spec.1,(aQ A bE x).choose_spec.2,⟨x,rfl⟩,_,rfl,_,rfl,_,rfl,zL1,ar z,_,rfl,_,rfl,?_⟩
  simp only[bG,ai,a_,PM]
  rw[<- h]
  refine uM (by simp only[Pt.depth] at v;omega) E y T.1 G.2 u o (B.up.app (by rw[<- oH];exact wc.fw)) (by rw[O4,P5];omega) ?_
  rw[h,Ph]
  exact q
 |false =>
  rw[h,p8] at q
  refine aF ?_
  refine aM rfl (g.cl _ (by simp)) (g.d0 _ (by simp) _ (by simp)) rfl ⟨x.cls A,_,(aQ A bE x).choose_spec.1,(aQ A bE x).choose_spec.2,⟨x,rfl⟩,_,rfl,_,rfl,_,rfl,zL1,ar z,_,rfl,_,rfl,?_⟩
  simp only[bG,ai,a_,PM]
  rw[<- h]
  refine uM (by simp only[Pt.depth] at v;omega) E y T.1 G.2 u o B.up (by omega) ?_
  rw[h]
  exact q
def Bm(r:cq K A)(d:Dm K A.led "keep" "Led.keep" hW ["self","now","kept","place","comes","more"])(t:MW P w K mg base A j n)(g:MK P w K mg base A j n):gL P w K mg base (j+1) A.led "keep" (Al A (n+1) A.led):=by
 refine d.Ay oJ wD K_ (λf Y A C s H E v=>have Z:=v.units;have hh:=v.hd;have sc:=oJ
  (aY (i6 (cV (dv 4)) (bc (gw (i:=5) Z rfl (PN rfl) (dv 3) pG)) fR)
 (aY (fQ g v (by omega) (aT K rfl (dv 0) (by rfl)) (aA (dv 1) (aA (dv 2) (aA (aj (dv 3) (aa (bg (by rfl)))) (aA (dv 4) (aA (dv 5) aD))))))
 (bc (fQ g v (by omega) (aT K rfl (dv 0) (by rfl)) (aA (dv 1) (aA (dv 2) (aA (aj (dv 3) (aa (bg (by rfl)))) (aA (dv 4) (aA (dv 5) aD)))))))))) ?_
 rintro ds μ Q ⟨l,o,p,kd,b,pl,m,a,I,rfl,rfl,hc,U,E,W,T,G,R,pc,N,O,q⟩
 obtain⟨x,y,rfl⟩:=sM r hc
 have B:pl.length<=10:=by have:=pc.dp;omega
 have X:I.length<sizeLine:=sF O
 unfold kl at q
 simp only[Pt.size] at O
 have F:Pc (pl++[0]) x:=pc.lP (by decide) (by simp only[Pt.depth];omega)
 have L:Pc (pl++[1]) y:=pc.lP (by decide) (by simp only[Pt.depth];omega)
 have kx:=dj (w:=o) (m:=m) (p:=x) (c:=bj l o b) (pl:=pl++[0])
 have e:∀u:GM,u=own (bj l o b) pl (.bl true)->Al A n (x.cls A) (x.d A::[.dK o,.dT m,.tup (pl.map D.int++[.int 0]),.bl (bj l o b),.adr a]) [(a,.dT (I++u))] λ_ μ=>Al A n (y.cls A) (y.d A::[.dK o,.dT m,.tup (pl.map D.int++[.int 1]),.bl (bj l o b),.adr a]) μ Q:=by
  intro u M
  have l0:u.length<=1:=by rw[M];exact ot
  have S:∀i:Int,Fw (pl++[i]) u:=λi=>by rw[M];exact wc.fw
  refine uM (by simp only[Pt.depth] at U;omega) E W T.1 G.1 R F (N.up.app (S 0)) (by rw[O4];omega) ?_
  refine uM (by simp only[Pt.depth] at U;omega) E W T.2 G.2 R L ((N.up.app (S 1)).app (Fr.fw (pM (by decide)))) (by rw[O4,O4];omega) ?_
  rw[Ph,Ph,M]
  exact q
 refine⟨_,rfl,bj l o b,rfl,?_⟩
 cases h:bj l o b with
 |true =>
  have e:=e _ (by rw[h,oH])
  rw[h] at e
  refine aS ?_
  refine⟨a,I,rfl,bK _ _,X,_,rfl,pl,rfl,fh pc.ok,?_⟩
  rw[bu,kE (N.ne (fh pc.ok))]
  refine aM rfl (r.cl _ (by simp)) (r.d0 _ (by simp) _ (by simp)) rfl ⟨x.cls A,_,(aQ A bE x).choose_spec.1,(aQ A bE x).choose_spec.2,⟨x,rfl⟩,_,rfl,_,rfl,_,rfl,zL1,ar B,_,rfl,_,rfl,?_⟩
  simp only[bG,ai,a_,PM]
  refine wD _ _ _ _ (λz μ' J=>?_) e
  refine aM rfl (r.cl _ (by simp)) (r.d0 _ (by simp) _ (by simp)) rfl ⟨y.cls A,_,(aQ A bE y).choose_spec.1,(aQ A bE y).choose_spec.2,⟨y,rfl⟩,_,rfl,_,rfl,_,rfl,zL1,ar B,_,rfl,_,rfl,?_⟩
  simp only[bG,ai,a_,PM]
  exact J
 |false =>
  have e:=e _ (by rw[h,p8])
  rw[h,Pf] at e
  refine aF ?_
  refine aM rfl (r.cl _ (by simp)) (r.d0 _ (by simp) _ (by simp)) rfl ⟨x.cls A,_,(aQ A bE x).choose_spec.1,(aQ A bE x).choose_spec.2,⟨x,rfl⟩,_,rfl,_,rfl,_,rfl,zL1,ar B,_,rfl,_,rfl,?_⟩
  simp only[bG,ai,a_,PM]
  refine wD _ _ _ _ (λz μ' J=>?_) e
  refine aM rfl (r.cl _ (by simp)) (r.d0 _ (by simp) _ (by simp)) rfl ⟨y.cls A,_,(aQ A bE y).choose_spec.1,(aQ A bE y).choose_spec.2,⟨y,rfl⟩,_,rfl,_,rfl,_,rfl,zL1,ar B,_,rfl,_,rfl,?_⟩
  simp only[bG,ai,a_,PM]
  exact J
def Bn(i:cq K A)(d:Dm K A.bY "keep" "When.keep" fu ["self","now","kept","place","comes","more"])(g:MW P w K mg base A j n)(c:MK P w K mg base A j n):gL P w K mg base (j+1) A.bY "keep" (Al A (n+1) A.bY):=by
 refine d.Ay mX wD K_ (λf v A o s H E r=>have z:=r.units;have R:=r.hd;have S:=mX
  (bc (fQ c r (by omega) (aT K rfl (dv 0) (by rfl)) (aA (dv 1) (aA (dv 2) (aA (aj (dv 3) (aa (bg (by rfl)))) (aA (x5 z (aT K rfl (dv 0) (by rfl)) (dv 1) (by rfl)) (aA (dv 5) aD)))))))) ?_
 rintro ds μ Q ⟨l,h,p,O,b,pl,m,a,F,rfl,rfl,L,J,E,U,T,G,C,pc,N,B,q⟩
 obtain⟨x,y,rfl⟩:=sN i L
 have M:pl.length<=10:=by have:=pc.dp;omega
 obtain⟨h1,rfl,u⟩:=T
 obtain⟨e,rfl⟩:∃e,b=e+1:=⟨b - 1,by omega⟩
 simp only[Pt.size] at B
 have t:(dE h (.inr (iZ l (e+1 - 1)))).isSome=bj l h e:=by
  unfold bj LV look
  rw[if_neg (by omega)]
  rfl
 have I:Q .ah [(a,.dT (F++kl h m x (bj l h e) (pl++[0])))]:=by rw[<- t];exact q
 refine aM rfl (i.cl _ (by simp)) (i.d0 _ (by simp) _ (by simp)) rfl ⟨x.cls A,_,(aQ A bE x).choose_spec.1,(aQ A bE x).choose_spec.2,⟨x,rfl⟩,_,rfl,_,rfl,_,rfl,zL1,ar M,aM rfl (i.cl _ (by simp)) (i.d0 _ (by simp) _ (by simp)) rfl ⟨_,rfl,h,.inr (iZ l (e+1 - 1)),rfl,rfl,_,rfl,?_⟩⟩
 rw[if_neg A',t]
 simp only[bG,ai,a_,PM]
 exact uM (by simp only[Pt.depth] at J;omega) E (b:=e) (by omega) u G C (pc.lP (by decide) (by simp only[Pt.depth];omega)) N.up (by omega) I
def zd(r:cq K A)(d:Dm K A.held "keep" "Held.keep" fj ["self","now","kept","place","comes","more"])(c:∀C,C=A.held->b_ P w K mg base j C "comes_within" (Jl A) [])(e:MW P w K mg base A j n)(g:MK P w K mg base A j n):gL P w K mg base (j+1) A.held "keep" (Al A (n+1) A.held):=by
 refine d.Ay mN wD K_ (λf U A v s H E u=>have W:=u.units;have hh:=u.hd;have X:=mN
  (aY (bp (bA (i:=6) X.nd rfl (PN rfl) (wU c u (by omega) (dv 0) (aA (dv 1) aD))))
 (aY (i6 (cV (dv 6)) (bc (gw (i:=5) W rfl (PN rfl) (dv 3) (wU e u (by omega) (aT K rfl (dv 0) (by rfl)) (aA (dv 1) (aA (dv 2) (aA (aj (dv 3) (aa (bg (by rfl)))) aD)))))) fR)
 (bc (fQ g u (by omega) (aT K rfl (dv 0) (by rfl)) (aA (dv 1) (aA (dv 2) (aA (aj (dv 3) (aa (bg (by rfl)))) (aA (dv 6) (aA (dv 5) aD)))))))))) ?_
 rintro ds μ Q ⟨l,o,p,Z,b,pl,m,a,O,rfl,rfl,Y,J,E,hb,T,G,I,pc,M,N,q⟩
 obtain⟨x,y,f,rfl⟩:=oj r Y
 have L:pl.length<=10:=by have:=pc.dp;omega
 have S:O.length<sizeLine:=sF N
 obtain⟨h1,rfl,F,h3⟩:=T
 have t:Pc (pl++[0]) x:=pc.lP (by decide) (by simp only[Pt.depth];omega)
 have R:bj l o (b+1)=eh (look o (iZ l b)):=E.up b h1
 have B:look o (iZ l b)=none\/∃z,look o (iZ l b)=some (.bl z):=oq E (by omega)
 unfold kl at q
 simp only[Pt.size] at N
 rw[<- R] at q
 refine⟨_,rfl,A.held,_,rfl,vL,rfl,_,rfl,x,iZ l b,f,o,rfl,B,?_⟩
 rw[<- R]
 refine⟨_,rfl,bj l o (b+1),rfl,?_⟩
 cases h:bj l o (b+1) with
 |true =>
  rw[h,oH] at q
  refine aS ?_
  refine aM rfl (r.cl _ (by simp)) (r.d0 _ (by simp) _ (by simp)) rfl ⟨x.cls A,_,(aQ A ae x).choose_spec.1,(aQ A ae x).choose_spec.2,⟨x,rfl⟩,_,rfl,_,rfl,_,rfl,zL1,ar L,?_⟩
  simp only[bG,ai,a_,PM]
  refine oV (by simp only[Pt.depth] at J;omega) E (b:=b+1) (by omega) F h G.2 I (by have:=pc.dp;simp only[Pt.depth] at this;omega) ?_
  refine⟨a,O,rfl,bK _ _,S,_,rfl,pl,rfl,fh pc.ok,?_⟩
  rw[bu,kE (M.ne (fh pc.ok))]
  refine aM rfl (r.cl _ (by simp)) (r.d0 _ (by simp) _ (by simp)) rfl ⟨x.cls A,_,(aQ A bE x).choose_spec.1,(aQ A bE x).choose_spec.2,⟨x,rfl⟩,_,rfl,_,rfl,_,rfl,zL1,ar L,_,rfl,_,rfl,?_⟩
  simp only[bG,ai,a_,PM]
  rw[<- h]
  refine uM (by simp only[Pt.depth] at J;omega) E (b:=b+1) (by omega) F G.2 I t (M.up.app (by rw[<- oH];exact wc.fw)) (by rw[O4,P5];omega) ?_
  rw[h,Ph]
  exact q
 |false =>
  rw[h,p8] at q
  refine aF ?_
  refine aM rfl (r.cl _ (by simp)) (r.d0 _ (by simp) _ (by simp)) rfl ⟨x.cls A,_,(aQ A bE x).choose_spec.1,(aQ A bE x).choose_spec.2,⟨x,rfl⟩,_,rfl,_,rfl,_,rfl,zL1,ar L,_,rfl,_,rfl,?_⟩
  simp only[bG,ai,a_,PM]
  rw[<- h]
  refine uM (by simp only[Pt.depth] at J;omega) E (b:=b+1) (by omega) F G.2 I t M.up (by omega) ?_
  rw[h]
  exact q
structure GV (K:j') (A:bq):Prop where
 part:∀C∈[A.given,A.named,A.turned,A.pair,A.choice],Dm K C "keep" "Part.keep" cF ["self","now","kept","place","comes","more"]
 before:Dm K A.before "keep" "Before.keep" d9 ["self","now","kept","place","comes","more"]
 led:Dm K A.led "keep" "Led.keep" hW ["self","now","kept","place","comes","more"]
 bY:Dm K A.bY "keep" "When.keep" fu ["self","now","kept","place","comes","more"]
 held:Dm K A.held "keep" "Held.keep" fj ["self","now","kept","place","comes","more"]
def iG{A:bq}{C:Addr}(ds:List D)(μ:Mu)(Q:D->Mu->Prop):¬ Al A 0 C ds μ Q:=fun⟨l,e,p,f,b,pl,m,a,c,_,_,_,h,_⟩=>absurd p.bO (by omega)
def Dm.gx{C:Addr}{m a:Str}{st:Stmt}{i:List Str}{sd:Aj}(d:Dm K C m a st i)(o:rf sd)(h:∀ds μ Q,¬sd ds μ Q):gL P w K mg base j C m sd:=by
 obtain⟨f,l,F,M,c,b⟩:=d.ex
 exact⟨⟨f,l,i,c,M,⟨fun vs H Q E ⟨ds,μ,L,_,_,q⟩=>(h _ _ _ q).elim,fun A e s H g us vs Q E _ _ _ _ ⟨ds,μ,L,_,_,q⟩=>(h _ _ _ q).elim⟩,b⟩,o⟩
def Cd(f:cq K A)(l:List Str)(e:cf)(p:Pt)(a:Bool)(b:Nat)(pl:List Int)(m:GM)(g:p.cls A=A.given)(T:Ty l p a b)(G:fK m p pl)(pc:Pc pl p):KJ l e p a b pl m:=by
 obtain⟨v,rfl⟩:=mC f g
 exact⟨λc=>rfl,by simp only[Pt.inner,lE,Pt.size];omega,λi q h=>by cases h⟩
def Ce(f:cq K A)(l:List Str)(e:cf)(p:Pt)(a:Bool)(b:Nat)(pl:List Int)(m:GM)(g:p.cls A=A.named)(T:Ty l p a b)(G:fK m p pl)(pc:Pc pl p):KJ l e p a b pl m:=by
 obtain⟨v,rfl⟩:=mD f g
 exact⟨λc=>rfl,by simp only[Pt.inner,lE,Pt.size];omega,λi q h=>by cases h⟩
def AA(f:cq K A)(l:List Str)(e:cf)(p:Pt)(a:Bool)(b:Nat)(pl:List Int)(m:GM)(g:p.cls A=A.turned)(T:Ty l p a b)(G:fK m p pl)(pc:Pc pl p):KJ l e p a b pl m:=by
 obtain⟨v,rfl⟩:=j_ f g
 refine⟨λc=>by unfold kl;simp[Pt.inner,zi],by simp only[Pt.inner,lE,Pt.size];omega,λi q h=>?_⟩
 match i,h with
 | 0,h=>cases h;exact⟨⟨_,T.2,G⟩,pc.lP (by decide) (by simp only[Pt.depth];omega),by simp only[Pt.depth];omega⟩
 |i+1,h=>cases h
def FW(r:cq K A)(l:List Str)(s:cf)(p:Pt)(a:Bool)(b:Nat)(pl:List Int)(m:GM)(t:p.cls A=A.pair)(T:Ty l p a b)(G:fK m p pl)(pc:Pc pl p):KJ l s p a b pl m:=by
 obtain⟨g,x,y,rfl⟩:=om r t
 obtain⟨u,v,o,f⟩:=T
 have e:fK m x (pl++[0])/\fK m y (pl++[1]):=by
  exact G
 refine⟨λc=>by unfold kl;simp[Pt.inner,zi],by simp only[Pt.inner,lE,Pt.size];omega,λi q h=>?_⟩
 match i,h with
 | 0,h=>cases h;exact⟨⟨_,o,e.1⟩,pc.lP (by decide) (by simp only[Pt.depth];omega),by simp only[Pt.depth];omega⟩
 | 1,h=>cases h;exact⟨⟨_,f,e.2⟩,pc.lP (by decide) (by simp only[Pt.depth];omega),by simp only[Pt.depth];omega⟩
 |i+2,h=>cases h
def z_(f:cq K A)(l:List Str)(e:cf)(p:Pt)(a:Bool)(b:Nat)(pl:List Int)(m:GM)(g:p.cls A=A.choice)(T:Ty l p a b)(G:fK m p pl)(pc:Pc pl p):KJ l e p a b pl m:=by
 obtain⟨z,x,y,rfl⟩:=jZ f g
 refine⟨λc=>by unfold kl;simp[Pt.inner,zi],by simp only[Pt.inner,lE,Pt.size];omega,λi q h=>?_⟩
 match i,h with
 | 0,h=>cases h;exact⟨⟨_,T.1,G.1⟩,pc.lP (by decide) (by simp only[Pt.depth];omega),by simp only[Pt.depth];omega⟩
 | 1,h=>cases h;exact⟨⟨_,T.2.1,G.2.1⟩,pc.lP (by decide) (by simp only[Pt.depth];omega),by simp only[Pt.depth];omega⟩
 | 2,h=>cases h;exact⟨⟨_,T.2.2,G.2.2⟩,pc.lP (by decide) (by simp only[Pt.depth];omega),by simp only[Pt.depth];omega⟩
 |i+3,h=>cases h
def u9(b:cq K A)(l:o6 K A)(a:mg "enumerate"=none)(h:wF K A)(d:GV K A)(i:bL P w K mg base 2 "paired" ["sign","one","other"] vg):∀n,MK P w K mg base A (n+3) n
 | 0=>fun C ⟨p,e⟩=>by
  subst e
  cases p
  ·exact Dm.gx (d.part A.given (by simp)) wD iG
  ·exact Dm.gx (d.part A.named (by simp)) wD iG
  ·exact Dm.gx (d.part A.turned (by simp)) wD iG
  ·exact Dm.gx (d.part A.pair (by simp)) wD iG
  ·exact Dm.gx (d.part A.choice (by simp)) wD iG
  ·exact Dm.gx d.before wD iG
  ·exact Dm.gx d.led wD iG
  ·exact Dm.gx d.bY wD iG
  ·exact Dm.gx d.held wD iG
 |n+1=>fun C ⟨p,e⟩=>by
  have c:=u9 b l a h d i n
  have g:MW P w K mg base A (n+3) n:=λC m=>(nY b h i n C m).up (by omega)
  have f:MP P w K mg base A (n+3) "inner" (n+1) (dJ A):=nD (j:=n+2) b l _
  subst e
  cases p
  ·exact gS b (d.part A.given (by simp)) a f c (Cd b)
  ·exact gS b (d.part A.named (by simp)) a f c (Ce b)
  ·exact gS b (d.part A.turned (by simp)) a f c (AA b)
  ·exact gS b (d.part A.pair (by simp)) a f c (FW b)
  ·exact gS b (d.part A.choice (by simp)) a f c (z_ b)
  ·exact u_ b d.before g c
  ·exact Bm b d.led g c
  ·exact Bn b d.bY g c
  ·exact zd b d.held (λC e=>by subst e;exact Kc b h.cw) g c
def uL:Nat->Nat
 | 0=>1
 |d+1=>3*uL d+1
def gC:∀k,1<=uL k
 | 0=>O2 _
 |k+1=>by unfold uL;omega
structure GP (l:List Str) (k:Nat) (kd:Bool) (b:Nat) (p:Pt):Prop where
 ok:p.ok
 ty:Ty l p kd b
 dp:p.depth<=k+1
 sz:p.size<=uL k
section
variable {l:List Str}{k m b:Nat}{kd kw:Bool}{p q r:Pt}{x g:Str}{f v:D}
def GP.named(h:Aq l kd b x)(o:iY x):GP l k kd b (.named x):=⟨o,h,by show 1<=k+1;omega,gC k⟩
def GP.given(h:isVal v)(a:vD v=kd):GP l k kd b (.given v):=⟨h,⟨h,a⟩,by show 1<=k+1;omega,gC k⟩
def GP.turned(h:GP l m true b p):GP l (m+1) true b (.turned p):=⟨h.ok,⟨rfl,h.ty⟩,by have:=h.dp;simp only[Pt.depth];omega,by have:=h.sz;have:=gC m;have e:uL (m+1)=3*uL m+1:=rfl;simp only[Pt.size];omega⟩
def GP.before(h:GP l m kd b p)(a:isVal f)(c:vD f=kd):GP l (m+1) kd b (.before p f):=⟨⟨h.ok,.inr a⟩,⟨h.ty,a,c⟩,by have:=h.dp;simp only[Pt.depth];omega,by have:=h.sz;have:=gC m;have e:uL (m+1)=3*uL m+1:=rfl;simp only[Pt.size];omega⟩
def GP.bY(h:GP l m kd (b - 1) p)(a:0<b)(c:x=iZ l (b - 1))(o:iY x):GP l (m+1) kd b (.bY p x):=⟨⟨h.ok,o⟩,⟨a,c,h.ty⟩,by have:=h.dp;simp only[Pt.depth];omega,by have:=h.sz;have:=gC m;have e:uL (m+1)=3*uL m+1:=rfl;simp only[Pt.size];omega⟩
def GP.held(h:GP l m kd (b+1) p)(c:b<2)(i:x=iZ l b)(o:iY x)(a:isVal f)(s:vD f=kd):GP l (m+1) kd b (.held p x f):=⟨⟨h.ok,o,.inr a⟩,⟨c,i,h.ty,a,s⟩,by have:=h.dp;simp only[Pt.depth];omega,by have:=h.sz;have:=gC m;have e:uL (m+1)=3*uL m+1:=rfl;simp only[Pt.size];omega⟩
def GP.choice(c:GP l m true b p)(a:GP l m kd b q)(h:GP l m kd b r):GP l (m+1) kd b (.choice p q r):=⟨⟨c.ok,a.ok,h.ok⟩,⟨c.ty,a.ty,h.ty⟩,by have:=c.dp;have:=a.dp;have:=h.dp;simp only[Pt.depth];omega,by have:=c.sz;have:=a.sz;have:=h.sz;have e:uL (m+1)=3*uL m+1:=rfl;simp only[Pt.size];omega⟩
def GP.led(c:GP l m kd b p)(a:GP l m kd b q):GP l (m+1) kd b (.led p q):=⟨⟨c.ok,a.ok⟩,⟨c.ty,a.ty⟩,by have:=c.dp;have:=a.dp;simp only[Pt.depth];omega,by have:=c.sz;have:=a.sz;have:=gC m;have e:uL (m+1)=3*uL m+1:=rfl;simp only[Pt.size];omega⟩
def xW{g:Str}{a c:Bool}(h:sgn g a c):g∈jP:=by
 rcases h with⟨h,_⟩|⟨h,_⟩|⟨rfl,_⟩|⟨h,_⟩
 ·simp only[B',C',or_false] at h
  rcases h with rfl|rfl|rfl<;>decide +kernel
 ·simp only[B',C',or_false] at h
  rcases h with rfl|rfl<;>decide +kernel
 ·decide +kernel
 ·simp only[B',C',or_false] at h
  rcases h with rfl|rfl<;>decide +kernel
def GP.pair(h:sgn g kw kd)(c:GP l m kw b p)(a:GP l m kw b q):GP l (m+1) kd b (.pair g p q):=⟨⟨xW h,c.ok,a.ok⟩,⟨kw,h,c.ty,a.ty⟩,by have:=c.dp;have:=a.dp;simp only[Pt.depth];omega,by have:=c.sz;have:=a.sz;have:=gC m;have e:uL (m+1)=3*uL m+1:=rfl;simp only[Pt.size];omega⟩
end
def yU{a b2:Bool}{L R:Prop}{U:(Bool->Prop)->Prop}(f:∀Q:Bool->Prop,Q b2->U Q)(c:L)(e:a=false->R):if a=true then(if true=true then L else R) else U (λb=>if b=true then L else R):=by
 cases a with
 |true=>exact aS (aS c)
 |false =>
  refine aF (f _ ?_)
  cases b2 with
  |true=>exact aS c
  |false=>exact aF (e rfl)
def Aw{a b2:Bool}{L R:Prop}{U:(Bool->Prop)->Prop}(f:∀Q:Bool->Prop,Q b2->U Q)(e:a=true->b2=true->L)(c:R):if a=true then U (λb=>if b=true then L else R) else(if false=true then L else R):=by
 cases a with
 |true =>
  refine aS (f _ ?_)
  cases b2 with
  |true=>exact aS (e rfl rfl)
  |false=>exact aF c
 |false=>exact aF (aF c)
def zu{e b2 b3:Bool}{L R:Prop}{U V:(Bool->Prop)->Prop}(h:∀Q:Bool->Prop,Q b2->U Q)(f:∀Q:Bool->Prop,Q b3->V Q)(g:b3=true->L)(c:R) :
  if e=true then(if true=true then V (λb=>if b=true then L else R) else(if false=true then L else R)) else U (λb=>if b=true then V (λb=>if b=true then L else R) else(if false=true then L else R)):=by
 have a:V (λb=>if b=true then L else R):=by
  refine f _ ?_
  cases b3 with
  |true=>exact aS (g rfl)
  |false=>exact aF c
 cases e with
 |true=>exact aS (aS a)
 |false =>
  refine aF (h _ ?_)
  cases b2 with
  |true=>exact aS a
  |false=>exact aF (aF c)
def yY{l:List Str}(b:l.length=8)(a:∀x∈l,iY x){i:Nat}(h1:i<8):iY (l.getD i "")/\L2.fe (l.map D.str) (i:Int)=some (.str (l.getD i "")):=by
 have e:l.getD i ""=l[i]'(by omega):=by rw[QA,O9 (by omega)];rfl
 refine⟨by rw[e];exact a _ (TJ _),?_⟩
 refine L2.oh ?_
 rw[O7,O9 (by omega),e]
 rfl
def tQ:cU:=λds Q=>∃(c:Int) (l:List Str) (a:Bool) (b:Nat),ds=[.int c,.lst (l.map D.str),Eg a,.int (b:Int)]/\b<=2/\l.length=8/\(∀x∈l,iY x)/\∀p:Pt,(∀k,GP l k a b p)->Q p.told
def mr(n:Nat):cU:=λds Q=>∃(c:Int) (l:List Str) (a:Bool) (b k:Nat),ds=[.int c,.lst (l.map D.str),Eg a,.int (b:Int),.int (k:Int)]/\k<n/\b<=2/\l.length=8/\(∀x∈l,iY x)/\∀p:Pt,GP l k a b p->Q p.told
def Ig:b9 tQ:=fun ds P i f ⟨c,l,g,b,e,h1,h,a,q⟩=>⟨c,l,g,b,e,h1,h,a,λp o=>f _ (q p o)⟩
def Eu{n:Nat}:b9 (mr n):=fun ds P m f ⟨c,l,h,b,k,e,h1,g,i,a,q⟩=>⟨c,l,h,b,k,e,h1,g,i,a,λp o=>f _ (q p o)⟩
def vO{g:Str}(h:g∈jP):decide (g="not")=false:=by
 simp only[jP,B',C',or_false] at h
 rcases h with rfl|rfl|rfl|rfl|rfl|rfl|rfl|rfl<;>decide +kernel
def Df.never{x:Str}{st:Stmt}{e:List Str}{sd:cU}(d:Df K mg x st e)(h:∀ds Q,¬sd ds Q):bL P w K mg base j x e sd:=by
 obtain⟨f,i,F,m,b⟩:=d.ex
 exact⟨⟨f,i,⟨fun vs H Q E ⟨ds,_,q⟩=>(h _ _ q).elim,fun A a s H c us vs Q E _ _ _ _ ⟨ds,_,q⟩=>(h _ _ q).elim⟩,m,F.kp,b⟩,λds P l g q=>(h _ _ q).elim⟩
def Hf(d:Df K mg "_law_leaf" i_ ["_law_cell","_law_names_here","_law_kind","_law_beat"])(m:mg "int"=none)(a:bL P w K mg base j "_law_mixed" ["_law_cell","_law_k"] jO)(g:bL P w K mg base j "_law_value" ["_law_mix","_law_kind"] tU) :
  bL P w K mg base (j+1) "_law_leaf" ["_law_cell","_law_names_here","_law_kind","_law_beat"] tQ:=by
 refine d.c_ md Ig (fun ds Q ⟨c,l,kd,b,e,_⟩=>by rw[e];rfl) (λf O A x s H E t=>have B:=t.units;have T:=t.hd;have R:=md
  (aH (bA (i:=4) R.nd rfl (PN rfl) (qY B (dv 2) aZ))
 (aH (bN (bx B (ba (cM (aN a t (by omega) (by rfl) (aA (dv 0) (aA aC aD))) aC) aC) aC) (aE (aJ (aa (aA aZ (aA (aN g t (by omega) (by rfl) (aA (aN a t (by omega) (by rfl) (aA (dv 0) (aA aC aD))) (aA (dv 2) aD))) aD))))) aR)
 (aH (bN (bx B (dv 3) aC) (aE (aJ (aa (aA aZ (aA (aU (dv 1) (aU (cC (bg (by rfl))) (aj (ba (cM (aN a t (by omega) (by rfl) (aA (dv 0) (aA aC aD))) aC) aC) (l4 aC (gP (by rfl) m (aA (dv 4) aD)))) (λ_ _=>rfl)) (λ_ _=>rfl)) aD))))) aR)
 (aE (aJ (aa (aA aZ (aA (aU (dv 1) (aU (aU (cC (aA (cC (bg (by rfl))) (aA (cC (bg (by rfl))) aD))) (dC (dv 3) aC) (λ_ _=>rfl)) (gP (by rfl) m (aA (dv 4) aD)) (λ_ _=>rfl)) (λ_ _=>rfl)) aD))))))))) ?_
 rintro ds Q ⟨c,l,kd,b,rfl,X,J,M,q⟩
 have U:=cv (mixed c 23 / 7) iP2
 have W:=cu (mixed c 23 / 7) iP2
 have L:decide (Eo kd="number")=!kd:=by cases kd<;>decide +kernel
 refine⟨_,rfl,_,rfl,_,_,rfl,cd (by decide) (by decide),iP4,_,rfl,?_⟩
 cases h:decide (mixed c 21 / 7%4=0) with
 |true=>exact aS ⟨_,rfl,_,_,rfl,_,rfl,_,_,rfl,λv S N=>⟨zL2,q (.given v) λk=>.given S N⟩⟩
 |false =>
  refine aF ⟨_,rfl,_,rfl,?_⟩
  cases h0:decide ((b:Int)=0) with
  |true =>
   have u:b=0:=by have:=of_decide_eq_true h0;omega
   subst u
   have r:∃i:Nat,i<8/\i∈idx kd 0/\L2.fe [D.int 0,.int 1,.int 3,.int 4] (mixed c 23 / 7%2+2*(if(decide (Eo kd="number"))=true then 1 else 0))=some (.int (i:Int)):=by
    rw[L]
    have I:mixed c 23 / 7%2=0\/mixed c 23 / 7%2=1:=by omega
    cases kd<;>rcases I with e|e<;>rw[e]
    ·exact⟨3,by decide,by decide,rfl⟩
    ·exact⟨4,by decide,by decide,rfl⟩
    ·exact⟨0,by decide,by decide,rfl⟩
    ·exact⟨1,by decide,by decide,rfl⟩
   obtain⟨i,p,o,C⟩:=r
   obtain⟨y,G⟩:=yY J M p
   exact aS ⟨_,rfl,zL4,_,rfl,_,_,rfl,cd (by decide) (by decide),iP2,_,rfl,.inr ⟨_,rfl,oR.ok (.inl ⟨by decide,by decide⟩),_,C,_,G,zL2,q (.named (l.getD i "")) λk=>.named ⟨i,o,rfl⟩ y⟩⟩
  |false =>
   have u:¬ (b:Int)=0:=of_decide_eq_false h0
   have r:∃(xs:List D) (i:Nat),i<8/\i∈idx kd b/\L2.fe [D.lst [.int 2,.int 5],.lst [.int 7,.int 6]] ((b:Int) - 1)=some (.lst xs)/\L2.fe xs (if(decide (Eo kd="number"))=true then 1 else 0)=some (.int (i:Int)):=by
    rw[L]
    have z:b=1\/b=2:=by omega
    rcases z with rfl|rfl<;>cases kd
    ·exact⟨_,5,by decide,by decide,rfl,rfl⟩
    ·exact⟨_,2,by decide,by decide,rfl,rfl⟩
    ·exact⟨_,6,by decide,by decide,rfl,rfl⟩
    ·exact⟨_,7,by decide,by decide,rfl,rfl⟩
   obtain⟨xs,i,p,o,C,F⟩:=r
   obtain⟨y,G⟩:=yY J M p
   exact aF ⟨_,rfl,zL2,zL2,zL2,_,rfl,_,C,_,rfl,.inr ⟨_,rfl,_,F,_,G,zL2,q (.named (l.getD i "")) λk=>.named ⟨i,o,rfl⟩ y⟩⟩
def xi(d:Df K mg "_law_typed" fF ["_law_cell","_law_names_here","_law_kind","_law_beat","_law_deep"])(I:mg "range"=none)(g:bL P w K mg base j "_law_mixed" ["_law_cell","_law_k"] jO)(h:bL P w K mg base j "_law_value" ["_law_mix","_law_kind"] tU)
  (r:bL P w K mg base j "_law_leaf" ["_law_cell","_law_names_here","_law_kind","_law_beat"] tQ)(a:bL P w K mg base j "_law_typed" ["_law_cell","_law_names_here","_law_kind","_law_beat","_law_deep"] (mr n)) :
  bL P w K mg base (j+1) "_law_typed" ["_law_cell","_law_names_here","_law_kind","_law_beat","_law_deep"] (mr (n+1)):=by
 refine d.c_ k_ Eu (fun ds Q ⟨c,l,v,b,k,e,_⟩=>by rw[e];rfl) (λf cdv A outer s H E t=>have L:=t.units;have hh:=t.hd;have M:=k_
  (aH (bA (i:=5) M.nd rfl (PN rfl) (ba (cM (aN g t (by omega) (by rfl) (aA (dv 0) (aA aC aD))) aC) aC))
 (aH (bN (o_.td (w_or (bx L (dv 4) aC) (qW (J0 (dv 5) aC)))) (aE (aJ (aN r t (by omega) (by rfl) (aA (dv 0) (aA (dv 1) (aA (dv 2) (aA (dv 3) aD))))))) aR)
 (aH (Jk (i:=6) M.nd rfl (PN rfl) (x:="_law_k") (caps:=[0]) (cn:=["_law_cell"]) (cl:=[("_law_cell",s.heap.objs.size+1)]) (Ge (by rfl) (by rfl) (by decide +kernel) (yI ["_law_cell"] rfl (by decide +kernel)) (by decide +kernel) (gm (by rfl) qr) (.cons ⟨rfl,.inl rfl,rfl⟩ .nil)) rfl (l9 (by rfl) I (aA aC aD)) (λC fp s₂ H₂=>cT (i:=0) (show(["_law_k","_law_cell"]:List Str).Nodup by decide +kernel) rfl (PN rfl) (.inr rfl)) (λC fp s₂ H₂=>iF) (λC fp s₂ H₂=>(aN g t (by omega) (by rfl) (aA (dv 1) (aA (aj aC (dv 0)) aD)))))
 (aH (bA (i:=7) M.nd rfl (PN rfl) (aN h t (by omega) (by rfl) (aA (aN g t (by omega) (by rfl) (aA (dv 0) (aA aC aD))) (aA (dv 2) aD))))
 (aH (bN (o_.td (w_or (bx L (dv 5) aC) (qW (bx L (dv 5) aC)))) (aE (aJ (aa (aA aZ (aA (aN a t (by omega) (by rfl) (aA (aU (dv 6) aC (λ_ _=>rfl)) (aA (dv 1) (aA (dv 2) (aA (dv 3) (aA (dC (dv 4) aC) aD)))))) (aA (dv 7) aD)))))) aR)
 (aH (bN (o_.td (w_and (bx L (dv 5) aC) (jR (GC (dv 3) aC)))) (aE (aJ (aa (aA aZ (aA (aN a t (by omega) (by rfl) (aA (aU (dv 6) aC (λ_ _=>rfl)) (aA (dv 1) (aA (dv 2) (aA (dC (dv 3) aC) (aA (dC (dv 4) aC) aD)))))) (aA (aU (dv 1) (aU (cC (bg (by rfl))) (dC (dv 3) aC) (λ_ _=>rfl)) (λ_ _=>rfl)) aD)))))) aR)
 (aH (bN (o_.td (w_and (o_.td (w_or (bx L (dv 5) aC) (qW (bx L (dv 5) aC)))) (jR (J0 (dv 3) aC)))) (aE (aJ (aa (aA aZ (aA (aN a t (by omega) (by rfl) (aA (aU (dv 6) aC (λ_ _=>rfl)) (aA (dv 1) (aA (dv 2) (aA (aj (dv 3) aC) (aA (dC (dv 4) aC) aD)))))) (aA (aU (dv 1) (aU (cC (bg (by rfl))) (dv 3) (λ_ _=>rfl)) (λ_ _=>rfl)) (aA (dv 7) aD))))))) aR)
 (aH (bA (i:=8) M.nd rfl (PN rfl) (aN a t (by omega) (by rfl) (aA (aU (dv 6) aC (λ_ _=>rfl)) (aA (dv 1) (aA (dv 2) (aA (dv 3) (aA (dC (dv 4) aC) aD)))))))
 (aH (bN (bx L (dv 5) aC) (aE (aJ (aa (aA aZ (aA (dv 8) (aA (aN a t (by omega) (by rfl) (aA (aU (dv 6) aC (λ_ _=>rfl)) (aA (dv 1) (aA (dv 2) (aA (dv 3) (aA (dC (dv 4) aC) aD)))))) aD)))))) aR)
 (aH (bN (bx L (dv 5) aC) (aH (bA (i:=11) M.nd rfl (PN rfl) (aN a t (by omega) (by rfl) (aA (aU (dv 6) aC (λ_ _=>rfl)) (aA (dv 1) (aA (dv 2) (aA (dv 3) (aA (dC (dv 4) aC) aD)))))))
 (aE (aJ (aa (aA aZ (aA (aN a t (by omega) (by rfl) (aA (aU (dv 6) aC (λ_ _=>rfl)) (aA (dv 1) (aA aZ (aA (dv 3) (aA (dC (dv 4) aC) aD)))))) (aA (dv 8) (aA (dv 11) aD)))))))) aR)
 (aH (bA (i:=9) M.nd rfl (PN rfl) (aU (cC (bg (by rfl))) (ba (cM (aN g t (by omega) (by rfl) (aA (dv 0) (aA aC aD))) aC) aC) (λ_ _=>rfl)))
 (aH (bA (i:=10) M.nd rfl (PN rfl) (dv 2))
 (aH (bN (bx L (dv 2) aZ) (aH (bA (i:=9) M.nd rfl (PN rfl) (aU (cC (bg (by rfl))) (ba (cM (aN g t (by omega) (by rfl) (aA (dv 0) (aA aC aD))) aC) aC) (λ_ _=>rfl)))
 (aE (bA (i:=10) M.nd rfl (PN rfl) (aU (cC (bg (by rfl))) (ba (cM (aN g t (by omega) (by rfl) (aA (dv 0) (aA aC aD))) aC) aC) (λ_ _=>rfl))))) aR)
 (aH (bA (i:=8) M.nd rfl (PN rfl) (aN a t (by omega) (by rfl) (aA (aU (dv 6) aC (λ_ _=>rfl)) (aA (dv 1) (aA (dv 10) (aA (dv 3) (aA (dC (dv 4) aC) aD)))))))
 (aH (bN (bx L (dv 9) aZ) (aE (aJ (aa (aA aZ (aA (dv 8) aD))))) aR)
 (aE (aJ (aa (aA (dv 9) (aA (dv 8) (aA (aN a t (by omega) (by rfl) (aA (aU (dv 6) aC (λ_ _=>rfl)) (aA (dv 1) (aA (dv 10) (aA (dv 3) (aA (dC (dv 4) aC) aD)))))) aD)))))))))))))))))))))) ?_
 rintro ds Q ⟨c,l,v,b,k,rfl,hk,N,y,B,q⟩
 refine⟨_,rfl,_,_,rfl,cd (by decide) (by decide),iP13,?_⟩
 refine⟨_,rfl,_,rfl,yU (b2:=decide (mixed c 1 / 7%13<2)) (λQ q=>⟨_,rfl,_,rfl,q⟩) ?_ (λhz=>?_)⟩
 ·exact⟨_,rfl,_,rfl,_,rfl,_,rfl,c,l,v,b,rfl,N,y,B,λp hp=>q p (hp k)⟩
 ·have hk0:k≠0:=λz=>by subst z;cases hz
  obtain⟨m,rfl⟩:∃m,k=m+1:=⟨k - 1,by omega⟩
  have hm:((m+1:Nat):Int) - 1=(m:Int):=by omega
  have J:m<n:=by omega
  have F:∀(c':Int) (Y:Bool) (b':Nat) (bi:Int),bi=(b':Int)->[D.int c',D.lst (l.map D.str),Eg Y,D.int bi,D.int (((m+1:Nat):Int) - 1)]=[D.int c',D.lst (l.map D.str),Eg Y,D.int (b':Int),D.int (m:Int)]:=λc' Y b' bi e=>by rw[e,hm]
  refine⟨3,rfl,(by decide),(by decide),[some (.int (mixed c 11)),some (.int (mixed c 12)),some (.int (mixed c 13))],rfl,?_,(show 3<sizeLine by decide),?_⟩
  ·intro i d o h1 O
   match i,h1,O with
   | 0,h1,O=>cases h1;cases O;exact⟨rfl,λ_=>⟨_,rfl,_,rfl,_,_,rfl,congrArg (λz=>some (D.int (mixed c z))) (show(11:Int)=11+(0+((0:Nat):Int)) by decide)⟩⟩
   | 1,h1,O=>cases h1;cases O;exact⟨rfl,λ_=>⟨_,rfl,_,rfl,_,_,rfl,congrArg (λz=>some (D.int (mixed c z))) (show(12:Int)=11+(0+((1:Nat):Int)) by decide)⟩⟩
   | 2,h1,O=>cases h1;cases O;exact⟨rfl,λ_=>⟨_,rfl,_,rfl,_,_,rfl,congrArg (λz=>some (D.int (mixed c z))) (show(13:Int)=11+(0+((2:Nat):Int)) by decide)⟩⟩
   |i+3,h1,O=>cases O
  refine⟨_,rfl,_,_,rfl,_,rfl,_,_,rfl,λf hf hk=>?_⟩
  refine⟨_,rfl,_,rfl,yU (b2:=decide (mixed c 1 / 7%13=3)) (λQ q=>⟨_,rfl,_,rfl,q⟩) ?_ (λ_=>?_)⟩
  ·exact⟨_,rfl,_,rfl,_,rfl,_,rfl,_,rfl,_,rfl,_,l,v,b,m,F _ v b _ rfl,J,N,y,B,λS U=>⟨_,rfl,zL3,q (.before S f) (U.before hf hk)⟩⟩
  refine⟨_,rfl,_,rfl,Aw (b2:=decide ((0:Int)<(b:Int))) (λQ q=>⟨_,rfl,_,rfl,q⟩) (λ_ hb0=>?_) ?_⟩
  ·have hb1:(0:Int)<(b:Int):=of_decide_eq_true hb0
   have G:∃i:Nat,i<8/\iZ l (b - 1)=l.getD i ""/\L2.fe [D.int 0,.int 2] ((b:Int) - 1)=some (.int (i:Int)):=by
    have W:b=1\/b=2:=by omega
    rcases W with rfl|rfl
    ·exact⟨0,by decide,rfl,rfl⟩
    ·exact⟨2,by decide,rfl,rfl⟩
   obtain⟨i,X,hx,er⟩:=G
   obtain⟨ox,ex⟩:=yY y B X
   rw[<- hx] at ox ex
   exact⟨_,rfl,_,rfl,_,rfl,_,rfl,_,rfl,_,rfl,_,l,v,(b - 1),m,F _ v (b - 1) _ (by omega),J,(by omega),y,B,λS U=>⟨_,rfl,zL2,_,rfl,_,er,_,ex,zL3,q (.bY S _) (U.bY (by omega) rfl ox)⟩⟩
  refine⟨_,rfl,_,rfl,zu (b2:=decide (mixed c 1 / 7%13=4)) (b3:=decide ((b:Int)<2)) (λQ q=>⟨_,rfl,_,rfl,q⟩) (λQ q=>⟨_,rfl,_,rfl,q⟩) (λhb2=>?_) ?_⟩
  ·have hb1:(b:Int)<2:=of_decide_eq_true hb2
   have G:∃i:Nat,i<8/\iZ l b=l.getD i ""/\L2.fe [D.int 0,.int 2] (b:Int)=some (.int (i:Int)):=by
    have W:b=0\/b=1:=by omega
    rcases W with rfl|rfl
    ·exact⟨0,by decide,rfl,rfl⟩
    ·exact⟨2,by decide,rfl,rfl⟩
   obtain⟨i,X,hx,er⟩:=G
   obtain⟨ox,ex⟩:=yY y B X
   rw[<- hx] at ox ex
   exact⟨_,rfl,_,rfl,_,rfl,_,rfl,_,rfl,_,rfl,_,l,v,(b+1),m,F _ v (b+1) _ (by omega),J,(by omega),y,B,λS U=>⟨_,rfl,zL2,_,rfl,_,er,_,ex,_,rfl,zL4,q (.held S _ f) (U.held (by omega) rfl ox hf hk)⟩⟩
  refine⟨_,rfl,_,rfl,_,rfl,_,rfl,_,rfl,_,rfl,_,l,v,b,m,F _ v b _ rfl,J,N,y,B,λS U=>?_⟩
  refine⟨_,rfl,_,rfl,?_⟩
  cases h6:decide (mixed c 1 / 7%13=6) with
  |true=>exact aS ⟨_,rfl,_,rfl,_,rfl,_,rfl,_,rfl,_,rfl,_,rfl,_,l,v,b,m,F _ v b _ rfl,J,N,y,B,λp2 o2=>⟨zL3,q (.led S p2) (U.led o2)⟩⟩
  |false =>
   refine aF ⟨_,rfl,_,rfl,?_⟩
   cases h7:decide (mixed c 1 / 7%13=7) with
   |true=>exact aS ⟨_,rfl,_,rfl,_,rfl,_,rfl,_,rfl,_,rfl,_,l,v,b,m,F _ v b _ rfl,J,N,y,B,λp2 o2=>⟨_,rfl,_,rfl,_,rfl,_,rfl,_,rfl,_,l,true,b,m,F _ true b _ rfl,J,N,y,B,λZ o3=>⟨_,rfl,_,rfl,zL4,q (.choice Z S p2) (o3.choice U o2)⟩⟩⟩
   |false =>
    obtain⟨r3,hr3,er3⟩:=ij (xs:=[D.str "+",.str "-",.str "*"]) (cv (mixed c 5 / 7) iP3) (cu (mixed c 5 / 7) iP3)
    refine aF ⟨zL3,_,rfl,_,_,rfl,cd (by decide) (by decide),iP3,_,er3,?_⟩
    refine⟨_,rfl,?_⟩
    have hsg3:∃T,r3=.str T/\sgn T false false:=by
     simp only[B',C',or_false] at hr3
     rcases hr3 with rfl|rfl|rfl<;>exact⟨_,rfl,.inl ⟨by simp,rfl,rfl⟩⟩
    obtain⟨T,rfl,u⟩:=hsg3
    cases v with
    |false =>
     refine⟨_,rfl,false,congrArg D.bl (by decide +kernel),aF ?_⟩
     refine⟨_,rfl,_,rfl,_,rfl,_,rfl,_,rfl,_,rfl,_,l,false,b,m,F _ false b _ rfl,J,N,y,B,λZ o3=>?_⟩
     exact⟨_,rfl,false,congrArg D.bl (vO (xW u)),aF ⟨_,rfl,_,rfl,_,rfl,_,rfl,_,rfl,_,rfl,_,rfl,_,rfl,_,l,false,b,m,F _ false b _ rfl,J,N,y,B,λp4 o4=>⟨zL3,q (.pair T Z p4) (.pair u o3 o4)⟩⟩⟩
    |true =>
     clear u
     have G:∃(T:Str) (R:Bool),((T="not"/\R=true)\/sgn T R true)/\L2.fe [D.str "and",.str "or",.str "=",.str "=",.str "<",.str "<=",.str "not"] (mixed c 5 / 7%7)=some (.str T)/\L2.fe [D.str "truth",.str "truth",.str "truth",.str "number",.str "number",.str "number",.str "truth"] (mixed c 5 / 7%7)=some (Eg R):=by
      have u0:=cv (mixed c 5 / 7) iP7
      have u1:=cu (mixed c 5 / 7) iP7
      have h7:mixed c 5 / 7%7=0\/mixed c 5 / 7%7=1\/mixed c 5 / 7%7=2\/mixed c 5 / 7%7=3\/mixed c 5 / 7%7=4\/mixed c 5 / 7%7=5\/mixed c 5 / 7%7=6:=by omega
      rcases h7 with e|e|e|e|e|e|e<;>rw[e]
      ·exact⟨"and",true,.inr (.inr (.inl ⟨by simp,rfl,rfl⟩)),rfl,rfl⟩
      ·exact⟨"or",true,.inr (.inr (.inl ⟨by simp,rfl,rfl⟩)),rfl,rfl⟩
      ·exact⟨"=",true,.inr (.inr (.inr (.inl ⟨rfl,rfl⟩))),rfl,rfl⟩
      ·exact⟨"=",false,.inr (.inr (.inr (.inl ⟨rfl,rfl⟩))),rfl,rfl⟩
      ·exact⟨"<",false,.inr (.inr (.inr (.inr ⟨by simp,rfl,rfl⟩))),rfl,rfl⟩
      ·exact⟨"<=",false,.inr (.inr (.inr (.inr ⟨by simp,rfl,rfl⟩))),rfl,rfl⟩
      ·exact⟨"not",true,.inl ⟨rfl,rfl⟩,rfl,rfl⟩
     obtain⟨sg7,R,u,er7,er8⟩:=G
     refine⟨_,rfl,true,congrArg D.bl (by decide +kernel),aS ?_⟩
     refine⟨zL7,_,rfl,_,_,rfl,cd (by decide) (by decide),iP7,_,er7,?_⟩
     refine⟨zL7,_,rfl,_,_,rfl,cd (by decide) (by decide),iP7,_,er8,?_⟩
     refine⟨_,rfl,_,rfl,_,rfl,_,rfl,_,rfl,_,rfl,_,l,R,b,m,F _ R b _ rfl,J,N,y,B,λZ o3=>?_⟩
     rcases u with⟨rfl,rfl⟩|u
     ·exact⟨_,rfl,true,congrArg D.bl (by decide +kernel),aS ⟨_,rfl,zL2,q (.turned Z) o3.turned⟩⟩
     ·exact⟨_,rfl,false,congrArg D.bl (vO (xW u)),aF ⟨_,rfl,_,rfl,_,rfl,_,rfl,_,rfl,_,rfl,_,rfl,_,rfl,_,l,R,b,m,F _ R b _ rfl,J,N,y,B,λp4 o4=>⟨zL3,q (.pair sg7 Z p4) (.pair u o3 o4)⟩⟩⟩
def rT(d:Df K mg "_law_typed" fF ["_law_cell","_law_names_here","_law_kind","_law_beat","_law_deep"])(a:mg "range"=none)(e:bL P w K mg base 1 "_law_mixed" ["_law_cell","_law_k"] jO)(b:bL P w K mg base 2 "_law_value" ["_law_mix","_law_kind"] tU)
  (c:bL P w K mg base 3 "_law_leaf" ["_law_cell","_law_names_here","_law_kind","_law_beat"] tQ):∀n,bL P w K mg base (n+3) "_law_typed" ["_law_cell","_law_names_here","_law_kind","_law_beat","_law_deep"] (mr n)
 | 0=>Df.never d fun ds Q ⟨_,_,_,_,_,_,h,_⟩=>absurd h (by omega)
 |n+1=>xi d a (e.up (by omega)) (b.up (by omega)) (c.up (by omega)) (rT d a e b c n)
def di(p:Key × D)(w:cf)(k:Key):dE (p::w) k=if p.1=k then some p.2 else dE w k:=by
 unfold dE
 rw[P7]
 by_cases q:p.1=k
 ·simp[q]
 ·simp[q]
def Bb(w:cf)(k j:Key)(d:D):dE (w.map λb=>if b.1=k then(b.1,d) else b) j=if j=k then(dE w k).map (λ_=>d) else dE w j:=by
 induction w with
 |nil=>simp[dE]
 |cons p r e =>
  rw[O1,di,di,di,e]
  by_cases h1:p.1=k
  ·by_cases a:j=k
   ·subst a;simp[h1]
   ·have c:¬ k=j:=λz=>a z.symm
    simp[h1,a,c]
  ·by_cases a:j=k
   ·subst a;simp[h1]
   ·simp[h1,a]
def um(w:cf)(k j:Key)(d:D):dE (w++[(k,d)]) j=match dE w j with
  |some e=>some e
  |none=>if k=j then some d else none:=by
 induction w with
 |nil=>rw[Rb,di];rfl
 |cons p r a =>
  rw[Q4,di,di,a]
  by_cases h1:p.1=j
  ·simp[h1]
  ·simp[h1]
def D2(w:cf)(k:Key):(w.any λb=>decide (b.1=k))=(dE w k).isSome:=by
 induction w with
 |nil=>rfl
 |cons p r a =>
  rw[QJ,di,a]
  by_cases h1:p.1=k
  ·simp[h1]
  ·simp[h1]
def iz(w:cf)(x y:Str)(d:D):look (eM w (.inr x) d) y=if y=x then some d else look w y:=by
 unfold look eM
 rw[D2]
 by_cases h:(dE w (.inr x)).isSome=true
 ·rw[if_pos h,Bb]
  by_cases e:y=x
  ·obtain⟨z,hz⟩:=Q9.mp h
   rw[if_pos (by rw[e]),if_pos e,hz];rfl
  ·rw[if_neg (λz=>e (UB z)),if_neg e]
 ·rw[if_neg h,um]
  have b:dE w (.inr x)=none:=by simpa using h
  by_cases e:y=x
  ·subst e
   rw[b];simp
  ·rw[if_neg e]
   have a:¬ (RL x:Key)=.inr y:=λz=>e (UB z).symm
   cases q:dE w (.inr y) with
   |some z=>rfl
   |none=>simp[a]
structure Dg (l:List Str) (w:cf) (S:List (Nat × Bool)):Prop where
 yes:∀p∈S,∃v,look w (l.getD p.1 "")=some v/\KV p.2 v
 no:∀i,i<8->i∉S.map (·.1)->look w (l.getD i "")=none
def su{l:List Str}(h:l.length=8)(b:l.Nodup){i j:Nat}(a:i<8)(c:j<8)(e:l.getD i ""=l.getD j ""):i=j:=by
 have f:∀{k:Nat},k<8->l[k]?=some (l.getD k ""):=fun{k} g=>by rw[QA,O9 (by omega)];rfl
 exact vM b (f a) (by rw[e];exact f c)
def Dg.put{l:List Str}{w:cf}{S:List (Nat × Bool)}(h:Dg l w S)(c:l.length=8)(m:l.Nodup)(q:∀p∈S,p.1<8){j:Nat}{f:Bool}{v:D}(o:j<8)(r:j∉S.map (·.1))(s:KV f v):Dg l (eM w (.inr (l.getD j "")) v) ((j,f)::S):=by
 refine⟨λp a=>?_,λi g b=>?_⟩
 ·rcases B'.mp a with rfl|a
  ·exact⟨v,by rw[iz,if_pos rfl],s⟩
  ·obtain⟨u,e,t⟩:=h.yes p a
   refine⟨u,?_,t⟩
   rw[iz,if_neg (λz=>r (O_.mpr ⟨p,a,su c m (q p a) o z⟩))]
   exact e
 ·rw[O1,B',not_or] at b
  rw[iz,if_neg (λz=>b.1 (su c m g o z))]
  exact h.no i g b.2
def Dg.nil{l:List Str}:Dg l [] []:=⟨λp a=>(nomatch a),λi _ _=>rfl⟩
def S4:List (Nat × Bool):=[(4,false),(3,false),(1,true),(0,true)]
def S6:List (Nat × Bool):=(5,false)::(2,true)::S4
def S8:List (Nat × Bool):=(7,true)::(6,false)::S6
def Bd{l:List Str}{w:cf}{S:List (Nat × Bool)}{c e:Bool}(h:Dg l w S)(y:look w (l.getD 0 "")=some (.bl c))(F:(c=false/\S=S4)\/(c=true/\look w (l.getD 2 "")=some (.bl e)/\((e=false/\S=S6)\/(e=true/\S=S8)))):GN l w:=by
 have p:bj l w 0=true:=by
  show(look w (l.getD 0 "")).isSome=true
  rw[y];rfl
 have C:2∉S.map (·.1)->bj l w 1=false:=λz=>by
  show(look w (l.getD 2 "")).isSome=false
  rw[h.no 2 (by omega) z];rfl
 have t:6∉S.map (·.1)->bj l w 2=false:=λz=>by
  show(look w (l.getD 6 "")).isSome=false
  rw[h.no 6 (by omega) z];rfl
 have u:look w (l.getD 2 "")=some (.bl e)->bj l w 1=true:=λz=>by
  show(look w (l.getD 2 "")).isSome=true
  rw[z];rfl
 have E:(6,false)∈S->bj l w 2=true:=λz=>by
  obtain⟨v,B,_⟩:=h.yes _ z
  show(look w (l.getD 6 "")).isSome=true
  rw[show look w (l.getD 6 "")=some v from B];rfl
 have mk:∀b,((bj l w b=true/\∀a,∀i∈idx a b,(i,a)∈S)\/(bj l w b=false/\∀a,∀i∈idx a b,i<8/\i∉S.map (·.1)))->∀a x,Aq l a b x->if bj l w b=true then ∃v,look w x=some v/\isVal v/\vD v=a else look w x=none:=λb f a x o=>by
  obtain⟨i,r,rfl⟩:=o
  rcases f with⟨c,f⟩|⟨c,f⟩
  ·rw[c,if_pos rfl];exact h.yes _ (f a i r)
  ·rw[c,if_neg A'];exact h.no i (f a i r).1 (f a i r).2
 have s:eh (look w (iZ l 0))=c:=by
  show eh (look w (l.getD 0 ""))=c
  rw[y];cases c<;>rfl
 rcases F with⟨rfl,rfl⟩|⟨rfl,q,⟨rfl,rfl⟩|⟨rfl,rfl⟩⟩
 ·have m:=C (by decide)
  have g:=t (by decide)
  refine⟨λa b x f o=>mk b ?_ a x o,p,λb f=>?_⟩
  ·match b,f with
   | 0,_=>exact .inl ⟨p,by intro a;cases a<;>decide⟩
   | 1,_=>exact .inr ⟨m,by intro a;cases a<;>decide⟩
   | 2,_=>exact .inr ⟨g,by intro a;cases a<;>decide⟩
  ·match b,f with
   | 0,_=>rw[m,s]
   | 1,_ =>
    rw[g]
    show false=eh (look w (l.getD 2 ""))
    rw[h.no 2 (by omega) (by decide)];rfl
 ·have m:=u q
  have g:=t (by decide)
  refine⟨λa b x f o=>mk b ?_ a x o,p,λb f=>?_⟩
  ·match b,f with
   | 0,_=>exact .inl ⟨p,by intro a;cases a<;>decide⟩
   | 1,_=>exact .inl ⟨m,by intro a;cases a<;>decide⟩
   | 2,_=>exact .inr ⟨g,by intro a;cases a<;>decide⟩
  ·match b,f with
   | 0,_=>rw[m,s]
   | 1,_ =>
    rw[g]
    show false=eh (look w (l.getD 2 ""))
    rw[q];rfl
 ·have m:=u q
  have g:=E (by decide)
  refine⟨λa b x f o=>mk b ?_ a x o,p,λb f=>?_⟩
  ·match b,f with
   | 0,_=>exact .inl ⟨p,by intro a;cases a<;>decide⟩
   | 1,_=>exact .inl ⟨m,by intro a;cases a<;>decide⟩
   | 2,_=>exact .inl ⟨g,by intro a;cases a<;>decide⟩
  ·match b,f with
   | 0,_=>rw[m,s]
   | 1,_ =>
    rw[g]
    show true=eh (look w (l.getD 2 ""))
    rw[q];rfl
def yi:cU:=λds Q=>∃(l:List Str) (w:cf) (b:Nat),ds=[.dK w,.lst (l.map D.str),.int (b:Int)]/\l.length=8/\b<=2/\Q (.bl (bj l w b))
def nM{l:List Str}(a:l.length=8){i:Nat}(h1:i<8):L2.fe (l.map D.str) (i:Int)=some (.str (l.getD i "")):=by
 refine L2.oh ?_
 rw[O7,QA,O9 (by omega)]
 rfl
def yD(x y z:D)(k:Fin 3):dE (sk [(.inr "=",x),(.inr "<",y),(.inr "<=",z)]) (.inr ((["=","<","<="]:List Str).getD k.val ""))=some ([x,y,z].getD k.val x):=by
 have a:¬ (RL "=":Key)=.inr "<":=by decide +kernel
 have c:¬ (RL "=":Key)=.inr "<=":=by decide +kernel
 have b:¬ (RL "<":Key)=.inr "<=":=by decide +kernel
 have e:sk [(.inr "=",x),(.inr "<",y),(.inr "<=",z)]=[(.inr "=",x),(.inr "<",y),(.inr "<=",z)]:=by
  simp[sk,eM,a,c,b]
 rw[e]
 match k with
 | 0=>simp[dE]
 | 1=>simp[dE,a]
 | 2=>simp[dE,c,b]
def D4(d:Df K mg "_law_comes" hZ ["_law_now","_law_names_here","_law_beat"]):bL P w K mg base (j+1) "_law_comes" ["_law_now","_law_names_here","_law_beat"] yi:=by
 refine d.c_ ko (fun ds P v f ⟨l,w,b,e,h1,m,q⟩=>⟨l,w,b,e,h1,m,f _ q⟩) (fun ds Q ⟨l,w,b,e,_⟩=>by rw[e];rfl) (λf t A a s H E g=>have u:=g.units;have x:=g.hd;have y:=ko
  (aE (aJ (x5 u (aU (cC (aA (aU (dv 1) aC (λ_ _=>rfl)) (aA (aU (dv 1) aC (λ_ _=>rfl)) (aA (aU (dv 1) aC (λ_ _=>rfl)) aD)))) (dv 2) (λ_ _=>rfl)) (dv 0) (by rfl))))) ?_
 rintro ds Q ⟨l,w,b,rfl,c,o,q⟩
 have p:=nM c (i:=0) (by decide)
 have r:=nM c (i:=2) (by decide)
 have h:=nM c (i:=6) (by decide)
 refine⟨_,rfl,_,p,_,rfl,_,r,_,rfl,_,h,zL3,_,rfl,?_⟩
 match b,o with
 | 0,_=>exact⟨_,rfl,_,rfl,w,.inr (l.getD 0 ""),rfl,rfl,q⟩
 | 1,_=>exact⟨_,rfl,_,rfl,w,.inr (l.getD 2 ""),rfl,rfl,q⟩
 | 2,_=>exact⟨_,rfl,_,rfl,w,.inr (l.getD 6 ""),rfl,rfl,q⟩
def Hi(d:Df K mg "_law_pair" jA ["_law_sign","_law_one","_law_other"])(l:mg "int"=none):bL P w K mg base (j+1) "_law_pair" ["_law_sign","_law_one","_law_other"] vg:=by
 refine d.c_ mf (fun ds P J f ⟨g,p,u,x,y,e,h1,C,I,q⟩=>⟨g,p,u,x,y,e,h1,C,I,f _ q⟩) (fun ds Q ⟨g,p,u,x,y,e,_⟩=>by rw[e];rfl) (λf G A t s H E B=>have r:=B.units;have L:=B.hd;have z:=mf
  (aH (bN (GF (dv 0) (aa (bg (by rfl))) (by rfl)) (aH (bA (i:=3) z.nd rfl (PN rfl) (aU (cC (aA (aj (dv 1) (dv 2)) (aA (dC (dv 1) (dv 2)) (aA (l4 (dv 1) (dv 2)) aD)))) (BC (bg (by rfl)) (dv 0) ⟨by rfl,by rfl,by rfl,by rfl⟩) (λ_ _=>rfl)))
 (aH (bA (i:=4) z.nd rfl (PN rfl) (ba (dv 3) aC))
 (aE (aJ (aU (cC (aA (dv 4) (aA (dC (dv 4) aC) aD))) (gP (by rfl) l (aA (Kj (dv 4) aC) aD)) (λ_ _=>rfl)))))) aR)
 (aH (bN (bx r (dv 0) aZ) (aE (aJ (ip (dv 1) (ff (dv 2))))) aR)
 (aH (bN (bx r (dv 0) aZ) (aE (aJ (H_ (dv 1) (ff (dv 2))))) aR)
 (aE (aJ (lK r (Hq (tJ (qY r (dv 1) (dv 2)) (tJ (Ko (dv 1) (dv 2)) (tJ (Kn (dv 1) (dv 2)) JY))) (by rfl) (by rfl) (by decide) (by decide)) (dv 0) (λ_ _=>rfl)))))))) ?_
 rintro ds Q ⟨g,p,u,x,y,rfl,F,o,b,q⟩
 refine⟨_,rfl,zL3,?_⟩
 rcases F with⟨c,rfl,rfl⟩|⟨c,rfl,rfl⟩|⟨rfl,rfl⟩|⟨c,rfl,rfl⟩
 ·obtain⟨i,rfl,_⟩:=o.nu
  obtain⟨a,rfl,_⟩:=b.nu
  have v:oR i a:=rC o b
  change Q (intD g i a) at q
  simp only[B',C',or_false] at c
  rcases c with rfl|rfl|rfl
  ·rw[show intD "+" i a=.int (m5 (i+a)) by unfold intD;rw[if_pos rfl]] at q
   refine⟨rfl,rfl,true,congrArg D.bl (by decide +kernel),aS ?_⟩
   refine⟨_,rfl,_,rfl,_,rfl,_,rfl,_,rfl,_,rfl,v.ok,zL3,zL3,_,rfl,["+","-","*"],_,0,rfl,rfl,rfl,(λm y h=>absurd h (by omega)),_,rfl,?_⟩
   refine⟨_,rfl,iP256,?_⟩
   refine⟨_,rfl,_,rfl,zL2,_,rfl,.inr ⟨_,rfl,?_⟩⟩
   generalize i+a=n at q ⊢
   by_cases h:(127:Int)<n%256
   ·rw[decide_eq_true h]
    rw[show m5 n=n%256 - 256 by unfold m5;omega] at q
    exact⟨_,rfl,q⟩
   ·rw[decide_eq_false h]
    rw[show m5 n=n%256 by unfold m5;omega] at q
    exact⟨_,rfl,q⟩
  ·rw[show intD "-" i a=.int (m5 (i - a)) by unfold intD;rw[if_neg (by decide +kernel),if_pos rfl]] at q
   refine⟨rfl,rfl,true,congrArg D.bl (by decide +kernel),aS ?_⟩
   refine⟨_,rfl,_,rfl,_,rfl,_,rfl,_,rfl,_,rfl,v.ok,zL3,zL3,_,rfl,["+","-","*"],_,1,rfl,rfl,rfl,(λm y h b=>by match m,h with|0,_=>cases b;decide +kernel),_,rfl,?_⟩
   refine⟨_,rfl,iP256,?_⟩
   refine⟨_,rfl,_,rfl,zL2,_,rfl,.inr ⟨_,rfl,?_⟩⟩
   generalize i - a=n at q ⊢
   by_cases h:(127:Int)<n%256
   ·rw[decide_eq_true h]
    rw[show m5 n=n%256 - 256 by unfold m5;omega] at q
    exact⟨_,rfl,q⟩
   ·rw[decide_eq_false h]
    rw[show m5 n=n%256 by unfold m5;omega] at q
    exact⟨_,rfl,q⟩
  ·rw[show intD "*" i a=.int (m5 (i*a)) by unfold intD;rw[if_neg (by decide +kernel),if_neg (by decide +kernel),if_pos rfl]] at q
   refine⟨rfl,rfl,true,congrArg D.bl (by decide +kernel),aS ?_⟩
   refine⟨_,rfl,_,rfl,_,rfl,_,rfl,_,rfl,_,rfl,v.ok,zL3,zL3,_,rfl,["+","-","*"],_,2,rfl,rfl,rfl,(λm y h b=>by match m,h with|0,_=>cases b;decide +kernel|1,_=>cases b;decide +kernel),_,rfl,?_⟩
   refine⟨_,rfl,iP256,?_⟩
   refine⟨_,rfl,_,rfl,zL2,_,rfl,.inr ⟨_,rfl,?_⟩⟩
   generalize i*a=n at q ⊢
   by_cases h:(127:Int)<n%256
   ·rw[decide_eq_true h]
    rw[show m5 n=n%256 - 256 by unfold m5;omega] at q
    exact⟨_,rfl,q⟩
   ·rw[decide_eq_false h]
    rw[show m5 n=n%256 by unfold m5;omega] at q
    exact⟨_,rfl,q⟩
 ·obtain⟨i,rfl⟩:=o.tr
  obtain⟨a,rfl⟩:=b.tr
  change Q (rj g i a) at q
  simp only[B',C',or_false] at c
  rcases c with rfl|rfl
  ·rw[show rj "and" i a=.bl (i&&a) by unfold rj;rw[if_pos rfl]] at q
   refine⟨rfl,rfl,false,congrArg D.bl (by decide +kernel),aF ⟨_,rfl,true,congrArg D.bl (by decide +kernel),aS ⟨_,rfl,?_⟩⟩⟩
   cases i with
   |true=>exact⟨true,rfl,aS ⟨_,rfl,q⟩⟩
   |false=>exact⟨false,rfl,aF q⟩
  ·rw[show rj "or" i a=.bl (i||a) by unfold rj;rw[if_neg (by decide +kernel),if_pos rfl]] at q
   refine⟨rfl,rfl,false,congrArg D.bl (by decide +kernel),aF ⟨_,rfl,false,congrArg D.bl (by decide +kernel),aF ⟨_,rfl,true,congrArg D.bl (by decide +kernel),aS ⟨_,rfl,?_⟩⟩⟩⟩
   cases i with
   |true=>exact⟨true,rfl,aS q⟩
   |false=>exact⟨false,rfl,aF ⟨_,rfl,q⟩⟩
 ·refine⟨rfl,rfl,false,congrArg D.bl (by decide +kernel),aF ⟨_,rfl,false,congrArg D.bl (by decide +kernel),aF ⟨_,rfl,false,congrArg D.bl (by decide +kernel),aF ?_⟩⟩⟩
  cases p with
  |true =>
   obtain⟨i,rfl⟩:=o.tr
   obtain⟨a,rfl⟩:=b.tr
   change Q (rj "=" i a) at q
   rw[show rj "=" i a=.bl (decide (i=a)) by unfold rj;rw[if_neg (by decide +kernel),if_neg (by decide +kernel)]] at q
   refine⟨_,rfl,_,rfl,rfl,_,rfl,_,rfl,.inr ⟨i,a,rfl,rfl,rfl,_,rfl,_,rfl,.inr ⟨i,a,rfl,rfl,rfl,?_⟩⟩⟩
   exact⟨(show 3<=15 by decide),_,rfl,_,.inr "=",.bl (decide (i=a)),rfl,rfl,yD _ _ _ 0,q⟩
  |false =>
   obtain⟨i,rfl,_⟩:=o.nu
   obtain⟨a,rfl,_⟩:=b.nu
   change Q (intD "=" i a) at q
   rw[show intD "=" i a=.bl (decide (i=a)) by unfold intD;rw[if_neg (by decide +kernel),if_neg (by decide +kernel),if_neg (by decide +kernel),if_pos rfl]] at q
   refine⟨_,rfl,_,rfl,rfl,_,rfl,_,rfl,.inl ⟨i,a,rfl,rfl,rfl,_,rfl,_,rfl,.inl ⟨i,a,rfl,rfl,rfl,?_⟩⟩⟩
   exact⟨(show 3<=15 by decide),_,rfl,_,.inr "=",.bl (decide (i=a)),rfl,rfl,yD _ _ _ 0,q⟩
 ·refine ?_
  obtain⟨i,rfl,_⟩:=o.nu
  obtain⟨a,rfl,_⟩:=b.nu
  change Q (intD g i a) at q
  simp only[B',C',or_false] at c
  rcases c with rfl|rfl
  ·rw[show intD "<" i a=.bl (decide (i<a)) by unfold intD;rw[if_neg (by decide +kernel),if_neg (by decide +kernel),if_neg (by decide +kernel),if_neg (by decide +kernel),if_pos rfl]] at q
   refine⟨rfl,rfl,false,congrArg D.bl (by decide +kernel),aF ⟨_,rfl,false,congrArg D.bl (by decide +kernel),aF ⟨_,rfl,false,congrArg D.bl (by decide +kernel),aF ?_⟩⟩⟩
   refine⟨_,rfl,_,rfl,rfl,_,rfl,_,rfl,.inl ⟨i,a,rfl,rfl,rfl,_,rfl,_,rfl,.inl ⟨i,a,rfl,rfl,rfl,?_⟩⟩⟩
   exact⟨(show 3<=15 by decide),_,rfl,_,.inr "<",.bl (decide (i<a)),rfl,rfl,yD _ _ _ 1,q⟩
  ·rw[show intD "<=" i a=.bl (decide (i<=a)) by unfold intD;rw[if_neg (by decide +kernel),if_neg (by decide +kernel),if_neg (by decide +kernel),if_neg (by decide +kernel),if_neg (by decide +kernel)]] at q
   refine⟨rfl,rfl,false,congrArg D.bl (by decide +kernel),aF ⟨_,rfl,false,congrArg D.bl (by decide +kernel),aF ⟨_,rfl,false,congrArg D.bl (by decide +kernel),aF ?_⟩⟩⟩
   refine⟨_,rfl,_,rfl,rfl,_,rfl,_,rfl,.inl ⟨i,a,rfl,rfl,rfl,_,rfl,_,rfl,.inl ⟨i,a,rfl,rfl,rfl,?_⟩⟩⟩
   exact⟨(show 3<=15 by decide),_,rfl,_,.inr "<=",.bl (decide (i<=a)),rfl,rfl,yD _ _ _ 2,q⟩
def zt(m:Int):D:=(L2.fe [D.int (m / 8%256 - 128),.int (m / 8%5 - 2),(L2.fe [D.int (-128),.int 127,.int 0,.int 1] (m / 8%4)).getD .ah,.int (m / 8%9)] (m%4)).getD .ah
def lY(m:Int)(a:Bool):D:=if a=true then .bl (decide (m / 3%2=1)) else zt (m / 3)
def C3:cU:=λds Q=>∃m:Int,ds=[.int m]/\Q (zt m)
def tT:cU:=λds Q=>∃(m:Int) (a:Bool),ds=[.int m,Eg a]/\Q (lY m a)
def Iy(m:Int):KV false (zt m):=by
 have c:m%4=0\/m%4=1\/m%4=2\/m%4=3:=by omega
 have b:m / 8%4=0\/m / 8%4=1\/m / 8%4=2\/m / 8%4=3:=by omega
 unfold zt
 rcases c with e|e|e|e<;>rw[e]
 ·exact .int (by omega)
 ·exact .int (by omega)
 ·rcases b with a|a|a|a<;>rw[a]<;>exact .int (by decide)
 ·exact .int (by omega)
def bz(m:Int)(a:Bool):KV a (lY m a):=by
 cases a with
 |true=>exact .bl _
 |false=>exact Iy _
def put(l:List Str)(w:cf)(i:Nat)(c k:Int)(a:Bool):cf:=eM w (.inr (l.getD i "")) (lY (mixed c k) a)
def w4(c:Int)(l:List Str):cf:=put l (put l (put l (put l [] 0 c (60+0) true) 1 c (60+1) true) 3 c (60+3) false) 4 c (60+4) false
def w6(c:Int)(l:List Str):cf:=put l (put l (w4 c l) 2 c 66 true) 5 c 67 false
def w8(c:Int)(l:List Str):cf:=put l (put l (w6 c l) 6 c 68 false) 7 c 69 true
def tr(d:D):Bool:=match d with
 |.bl b=>b
 |_=>false
def d6(c:Int)(l:List Str):cf:=if tr (lY (mixed c (60+0)) true)=true then(if tr (lY (mixed c 66) true)=true then w8 c l else w6 c l) else w4 c l
def C6:cU:=λds Q=>∃(c:Int) (l:List Str),ds=[.int c,.lst (l.map D.str)]/\l.length=8/\l.Nodup/\Q (.dK (d6 c l))
def zj(w:cf)(k:Key)(d:D):(eM w k d).length<=w.length+1:=by
 unfold eM
 split
 ·rw[G'];omega
 ·rw[O4];exact O2 _
def qV(a:Addr)(w:cf)(c:Int)(l:List D)(k:Option D):dD [(a,MD.dK w)] [some (.int c),some (.lst l),some (.adr a),k]=[some (.int c),some (.lst l),some (.dK w),k.map (cb [(a,MD.dK w)])]:=by
 unfold dD
 simp only[O1,QC,Uz]
 rw[show cb [(a,MD.dK w)] (.adr a)=.dK w from by
  show(R9 MD.d (QV a [(a,MD.dK w)])).getD (D.adr a)=.dK w
  rw[bK];rfl]
 rfl
def wI(c:Int)(l:List Str):Nat->cf
 | 0=>[]
 | 1=>put l [] 0 c (60+0) true
 | 2=>put l (put l [] 0 c (60+0) true) 1 c (60+1) true
 | 3=>put l (put l (put l [] 0 c (60+0) true) 1 c (60+1) true) 3 c (60+3) false
 |_=>w4 c l
def cX{w:cf}{k:Key}{d:D}{n:Nat}(h:w.length<=n):(eM w k d).length<=n+1:=PB (zj w k d) (by omega)
def mL{w:cf}{n:Nat}(h:w.length<=n)(a:autoParam (n<=7) b7):w.length<sizeLine:=Pg (PB h a) (by decide)
def m4(c:Int)(l:List Str)(i:Nat):(wI c l i).length<=4:=by
 match i with
 | 0=>exact P6 _
 | 1 =>
  have h:(eM ([]:cf) (.inr (l.getD 0 "")) (lY (mixed c (60+0)) true)).length<=0+1:=cX (O2 0)
  exact PB h (by decide)
 | 2 =>
  have h:(wI c l 2).length<=0+1+1:=cX (cX (O2 0))
  omega
 | 3 =>
  have h:(wI c l 3).length<=0+1+1+1:=cX (cX (cX (O2 0)))
  omega
 |i+4 =>
  have h:(wI c l (i+4)).length<=0+1+1+1+1:=cX (cX (cX (cX (O2 0))))
  omega
def uD(c:Int)(l:List Str)(i:Nat):(wI c l i).length<sizeLine:=mL (m4 c l i)
section
seal lY
variable {l:List Str}(hl:l.length=8)(nd:l.Nodup)(c:Int)
include hl nd
def K0:Dg l (w4 c l) S4 :=
 (((Dg.nil.put hl nd (by decide) (j:=0) (by decide) (by decide) (bz _ true)).put hl nd (by decide) (j:=1) (by decide) (by decide) (bz _ true)).put hl nd (by decide) (j:=3) (by decide) (by decide) (bz _ false)).put hl nd (by decide) (j:=4) (by decide) (by decide) (bz _ false)
def K1:Dg l (w6 c l) S6:=((K0 hl nd c).put hl nd (by decide) (j:=2) (by decide) (by decide) (bz _ true)).put hl nd (by decide) (j:=5) (by decide) (by decide) (bz _ false)
def M9:Dg l (w8 c l) S8:=((K1 hl nd c).put hl nd (by decide) (j:=6) (by decide) (by decide) (bz _ false)).put hl nd (by decide) (j:=7) (by decide) (by decide) (bz _ true)
def br{w:cf}{i j:Nat}{k:Int}{e:Bool}(a:i<8)(b:j<8)(h:i≠j):look (put l w j c k e) (l.getD i "")=look w (l.getD i ""):=by
 unfold put
 rw[iz,if_neg (λz=>h (su hl nd a b z))]
theorem q_{w:cf}{i:Nat}{k:Int}{a:Bool}:look (put l w i c k a) (l.getD i "")=some (lY (mixed c k) a):=by
 unfold put
 rw[iz,if_pos rfl]
def Gx:look (w4 c l) (l.getD 0 "")=some (lY (mixed c (60+0)) true):=by
 unfold w4
 rw[br hl nd c (by decide) (by decide) (by decide),br hl nd c (by decide) (by decide) (by decide),br hl nd c (by decide) (by decide) (by decide),q_ hl nd c]
def Gy:look (w6 c l) (l.getD 2 "")=some (lY (mixed c 66) true):=by
 unfold w6
 rw[br hl nd c (by decide) (by decide) (by decide),q_ hl nd c]
def F7:GN l (d6 c l):=by
 obtain⟨o,m⟩:=(bz (mixed c (60+0)) true).tr
 obtain⟨p,h⟩:=(bz (mixed c 66) true).tr
 have b:=Gx hl nd c
 have a:=Gy hl nd c
 have f:look (w6 c l) (l.getD 0 "")=some (lY (mixed c (60+0)) true):=by
  unfold w6
  rw[br hl nd c (by decide) (by decide) (by decide),br hl nd c (by decide) (by decide) (by decide),b]
 have i:look (w8 c l) (l.getD 0 "")=some (lY (mixed c (60+0)) true):=by
  unfold w8
  rw[br hl nd c (by decide) (by decide) (by decide),br hl nd c (by decide) (by decide) (by decide),f]
 have g:look (w8 c l) (l.getD 2 "")=some (lY (mixed c 66) true):=by
  unfold w8
  rw[br hl nd c (by decide) (by decide) (by decide),br hl nd c (by decide) (by decide) (by decide),a]
 rw[m] at b f i
 rw[h] at a g
 unfold d6
 rw[m,h]
 cases o with
 |false=>exact Bd (e:=false) (K0 hl nd c) b (.inl ⟨rfl,rfl⟩)
 |true =>
  cases p with
  |false=>exact Bd (K1 hl nd c) f (.inr ⟨rfl,a,.inl ⟨rfl,rfl⟩⟩)
  |true=>exact Bd (M9 hl nd c) i (.inr ⟨rfl,g,.inr ⟨rfl,rfl⟩⟩)
end
def Hg(d:Df K mg "_law_number" eE ["_law_mix"]):bL P w K mg base (j+1) "_law_number" ["_law_mix"] C3:=by
 refine d.c_ dZ (fun ds P i f ⟨c,e,q⟩=>⟨c,e,f _ q⟩) (fun ds Q ⟨c,e,_⟩=>by rw[e];rfl) (λf h A a s H E b=>have t:=b.units;have o:=b.hd;have p:=dZ
  (aE (aJ (aU (cC (aA (dC (ba (cM (dv 0) aC) aC) aC) (aA (dC (ba (cM (dv 0) aC) aC) aC) (aA (aU (cC (bg (by rfl))) (ba (cM (dv 0) aC) aC) (λ_ _=>rfl)) (aA (ba (cM (dv 0) aC) aC) aD))))) (ba (dv 0) aC) (λ_ _=>rfl))))) ?_
 rintro ds Q ⟨m,rfl,q⟩
 obtain⟨r,b,g⟩:=ij (xs:=[D.int (-128),.int 127,.int 0,.int 1]) (cv (m / 8) iP4) (cu (m / 8) iP4)
 obtain⟨s,l,es⟩:=ij (xs:=[D.int (m / 8%256 - 128),.int (m / 8%5 - 2),r,.int (m / 8%9)]) (cv m iP4) (cu m iP4)
 have e:zt m=s:=by unfold zt;rw[g,PM,es];rfl
 rw[e] at q
 exact⟨_,rfl,cd (by decide) (by decide),iP256,_,rfl,cd (by decide) (by decide),iP5,zL4,_,rfl,cd (by decide) (by decide),iP4,r,g,_,rfl,cd (by decide) (by decide),iP9,zL4,_,rfl,iP4,s,es,q⟩
def Hl(d:Df K mg "_law_value" fG ["_law_mix","_law_kind"])(a:bL P w K mg base j "_law_number" ["_law_mix"] C3):bL P w K mg base (j+1) "_law_value" ["_law_mix","_law_kind"] tT:=by
 refine d.c_ eG (fun ds P l f ⟨c,k,e,q⟩=>⟨c,k,e,f _ q⟩) (fun ds Q ⟨c,k,e,_⟩=>by rw[e];rfl) (λf i A b s H E g=>have h:=g.units;have o:=g.hd;have p:=eG
  (aH (bN (bx h (dv 1) aZ) (aE (aJ (qY h (ba (cM (dv 0) aC) aC) aC))) aR)
 (aE (aJ (aN a g (by omega) (by rfl) (aA (cM (dv 0) aC) aD)))))) ?_
 rintro ds Q ⟨m,k,rfl,q⟩
 cases k with
 |true=>exact⟨_,rfl,true,congrArg D.bl (by decide +kernel),aS ⟨_,rfl,cd (by decide) (by decide),iP2,q⟩⟩
 |false=>exact⟨_,rfl,false,congrArg D.bl (by decide +kernel),aF ⟨_,rfl,cd (by decide) (by decide),_,rfl,q⟩⟩
seal lY
def Hk(d:Df K mg "_law_step" jB ["_law_cell","_law_names_here"])(h:bL P w K mg base j "_law_mixed" ["_law_cell","_law_k"] jO)(b:bL P w K mg base j "_law_value" ["_law_mix","_law_kind"] tT):bL P w K mg base (j+1) "_law_step" ["_law_cell","_law_names_here"] C6:=by
 refine d.M3 ml (fun ds P N f ⟨c,l,e,h1,G,q⟩=>⟨c,l,e,h1,G,f _ q⟩) (fun ds Q ⟨c,l,e,_⟩=>by rw[e];rfl) (λf I A v s H E p=>have t:=p.units;have O:=p.hd;have C:=ml
  (aY (mF (i:=2) C.nd rfl (PN rfl) ER)
 (aY (pz Q2 rfl (ny (cC (bg (by rfl)))) (gu (i:=3) C.nd rfl (PN rfl)) (bc (mE (i:=2) t rfl (PN rfl) (aU (dv 1) (dv 3) (λ_ _=>rfl)) (aN b p (by omega) (by rfl) (aA (aN h p (by omega) (by rfl) (aA (dv 0) (aA (aj aC (dv 3)) aD))) (aA (aU (cC (bg (by rfl))) (cM (dv 3) aC) (λ_ _=>rfl)) aD))))))
 (aY (i6 (cV (lK t (dv 2) (aU (dv 1) aC (λ_ _=>rfl)) (λ_ _=>rfl))) (aY (mE (i:=2) t rfl (PN rfl) (aU (dv 1) aC (λ_ _=>rfl)) (aN b p (by omega) (by rfl) (aA (aN h p (by omega) (by rfl) (aA (dv 0) (aA aC aD))) (aA aZ aD))))
 (aY (mE (i:=2) t rfl (PN rfl) (aU (dv 1) aC (λ_ _=>rfl)) (aN b p (by omega) (by rfl) (aA (aN h p (by omega) (by rfl) (aA (dv 0) (aA aC aD))) (aA aZ aD))))
 (bc (i6 (cV (lK t (dv 2) (aU (dv 1) aC (λ_ _=>rfl)) (λ_ _=>rfl))) (aY (mE (i:=2) t rfl (PN rfl) (aU (dv 1) aC (λ_ _=>rfl)) (aN b p (by omega) (by rfl) (aA (aN h p (by omega) (by rfl) (aA (dv 0) (aA aC aD))) (aA aZ aD))))
 (bc (mE (i:=2) t rfl (PN rfl) (aU (dv 1) aC (λ_ _=>rfl)) (aN b p (by omega) (by rfl) (aA (aN h p (by omega) (by rfl) (aA (dv 0) (aA aC aD))) (aA aZ aD)))))) fR)))) fR)
 (bc (Ip (dv 2))))))) ?_
 rintro ds Q ⟨c,l,rfl,o,F,q⟩
 intro a _
 refine⟨zL4,[.int 0,.int 1,.int 3,.int 4],rfl,λi δ μ=>∃(k:Option D),δ=[some (.int c),some (.lst (l.map D.str)),some (.adr a),k]/\μ=[(a,MD.dK (wI c l i))],⟨none,rfl,rfl⟩,?_,?_⟩
 ·rintro i R δ μ m ⟨k,rfl,rfl⟩
  match i,m with
  | 0,m =>
   cases m
   exact⟨_,rfl,_,rfl,_,_,rfl,zL2,_,rfl,cd (by decide) (by decide),_,rfl,_,true,rfl,a,_,rfl,bK _ _,uD c l 0,_,rfl,_,rfl,_,nM o (i:=0) (by decide),_,rfl,_,rfl,bu _ _ _⟩
  | 1,m =>
   cases m
   exact⟨_,rfl,_,rfl,_,_,rfl,zL2,_,rfl,cd (by decide) (by decide),_,rfl,_,true,rfl,a,_,rfl,bK _ _,uD c l 1,_,rfl,_,rfl,_,nM o (i:=1) (by decide),_,rfl,_,rfl,bu _ _ _⟩
  | 2,m =>
   cases m
   exact⟨_,rfl,_,rfl,_,_,rfl,zL2,_,rfl,cd (by decide) (by decide),_,rfl,_,false,rfl,a,_,rfl,bK _ _,uD c l 2,_,rfl,_,rfl,_,nM o (i:=3) (by decide),_,rfl,_,rfl,bu _ _ _⟩
  | 3,m =>
   cases m
   exact⟨_,rfl,_,rfl,_,_,rfl,zL2,_,rfl,cd (by decide) (by decide),_,rfl,_,false,rfl,a,_,rfl,bK _ _,uD c l 3,_,rfl,_,rfl,_,nM o (i:=4) (by decide),_,rfl,_,rfl,bu _ _ _⟩
  |i+4,m=>cases m
 ·rintro δ μ ⟨k,rfl,rfl⟩
  show zl _ _ _ _ [(a,MD.dK (w4 c l))]
  obtain⟨z,u⟩:=(bz (mixed c (60+0)) true).tr
  obtain⟨y,B⟩:=(bz (mixed c 66) true).tr
  have L:look (w4 c l) (l.getD 0 "")=some (.bl z):=by rw[<- u];exact Gx o F c
  have J:look (w6 c l) (l.getD 2 "")=some (.bl y):=by rw[<- B];exact Gy o F c
  have r:∀(k:Option D) (w:cf),d6 c l=w->LD (au 2) { nx:=λx M=>Q D.ah,rt:=λd μ=>Q (cb μ d)} [some (.int c),some (.lst (l.map D.str)),some (.adr a),k] [(a,MD.dK w)]:=λk w g=>by
   show au 2 (dD [(a,MD.dK w)] [some (.int c),some (.lst (l.map D.str)),some (.adr a),k]) _
   rw[qV]
   exact⟨_,rfl,g ▸ q⟩
  show uC (DU (au 2) (DV (au 1) (vC (D.int 0)))) (dD [(a,MD.dK (w4 c l))] [some (.int c),some (.lst (l.map D.str)),some (.adr a),k]) _
  rw[qV]
  refine⟨_,rfl,_,rfl,_,nM o (i:=0) (by decide),w4 c l,.inr (l.getD 0 ""),_,rfl,rfl,L,z,rfl,?_⟩
  cases z with
  |false=>exact aF (r k (w4 c l) (by unfold d6;rw[u];rfl))
  |true =>
   refine aS ?_
   refine⟨_,rfl,_,_,rfl,_,true,rfl,a,w4 c l,rfl,bK _ _,mL (m4 c l 4),_,rfl,_,nM o (i:=2) (by decide),_,rfl,?_⟩
   rw[bu]
   refine⟨_,rfl,_,_,rfl,_,false,rfl,a,_,rfl,bK _ _,mL (cX (m4 c l 4)),_,rfl,_,nM o (i:=5) (by decide),_,rfl,?_⟩
   rw[bu]
   show uC (DU (au 2) (DV (au 1) (vC (D.int 2)))) (dD [(a,MD.dK (w6 c l))] [some (.int c),some (.lst (l.map D.str)),some (.adr a),k]) _
   rw[qV]
   refine⟨_,rfl,_,rfl,_,nM o (i:=2) (by decide),w6 c l,.inr (l.getD 2 ""),_,rfl,rfl,J,y,rfl,?_⟩
   cases y with
   |false=>exact aF (r k (w6 c l) (by unfold d6;rw[u,B];rfl))
   |true =>
    refine aS ?_
    refine⟨_,rfl,_,_,rfl,_,false,rfl,a,w6 c l,rfl,bK _ _,mL (cX (cX (m4 c l 4))),_,rfl,_,nM o (i:=6) (by decide),_,rfl,?_⟩
    rw[bu]
    refine⟨_,rfl,_,_,rfl,_,true,rfl,a,_,rfl,bK _ _,mL (cX (cX (cX (m4 c l 4)))),_,rfl,_,nM o (i:=7) (by decide),_,rfl,?_⟩
    rw[bu]
    exact r k (w8 c l) (by unfold d6;rw[u,B];rfl)
def DD:Nat->D->Prop
 |_,.ah=>True
 |_,.bl _=>True
 |_,.int _=>True
 |_,.str _=>True
 |n+1,.lst xs=>xs.length<1000/\∀x∈xs,DD n x
 |n+1,.tup xs=>xs.length<1000/\∀x∈xs,DD n x
 |_,_=>False
def tX{v:D}{n:Nat}(h:ef v):DD n v:=by
 rcases h with rfl|⟨b,rfl⟩|⟨i,rfl,_⟩<;>cases n<;>trivial
def d5{s:Str}{n:Nat}:DD n (.str s):=by cases n<;>trivial
def F3:∀(p:Pt) (n:Nat),p.ok->p.depth<=n->DD n p.told:=by
 intro p
 induction p with
 |given v=>intro n i h;cases n with
  |zero=>simp only[Pt.depth] at h;omega
  |succ n=>exact⟨(by decide:2<1000),λx e=>by simp only[B',C',or_false] at e;rcases e with rfl|rfl;exact d5;exact tX (.inr i)⟩
 |named s=>intro n i h;cases n with
  |zero=>simp only[Pt.depth] at h;omega
  |succ n=>exact⟨(by decide:2<1000),λx e=>by simp only[B',C',or_false] at e;rcases e with rfl|rfl;exact d5;exact d5⟩
 |turned a c=>intro n i h;cases n with
  |zero=>simp only[Pt.depth] at h;omega
  |succ n=>exact⟨(by decide:2<1000),λx e=>by simp only[B',C',or_false] at e;simp only[Pt.depth] at h;rcases e with rfl|rfl;exact d5;exact c n i (by omega)⟩
 |pair g a b c l=>intro n i h;cases n with
  |zero=>simp only[Pt.depth] at h;omega
  |succ n=>exact⟨(by decide:3<1000),λx e=>by simp only[B',C',or_false] at e;simp only[Pt.depth] at h;rcases e with rfl|rfl|rfl;exact d5;exact c n i.2.1 (by omega);exact l n i.2.2 (by omega)⟩
 |choice t a b m c l=>intro n i h;cases n with
  |zero=>simp only[Pt.depth] at h;omega
  |succ n=>exact⟨(by decide:4<1000),λx e=>by simp only[B',C',or_false] at e;simp only[Pt.depth] at h;rcases e with rfl|rfl|rfl|rfl;exact d5;exact m n i.1 (by omega);exact c n i.2.1 (by omega);exact l n i.2.2 (by omega)⟩
 |before a f c=>intro n i h;cases n with
  |zero=>simp only[Pt.depth] at h;omega
  |succ n=>exact⟨(by decide:3<1000),λx e=>by simp only[B',C',or_false] at e;simp only[Pt.depth] at h;rcases e with rfl|rfl|rfl;exact d5;exact c n i.1 (by omega);exact tX i.2⟩
 |led a b c l=>intro n i h;cases n with
  |zero=>simp only[Pt.depth] at h;omega
  |succ n=>exact⟨(by decide:3<1000),λx e=>by simp only[B',C',or_false] at e;simp only[Pt.depth] at h;rcases e with rfl|rfl|rfl;exact d5;exact c n i.1 (by omega);exact l n i.2 (by omega)⟩
 |bY a s c=>intro n i h;cases n with
  |zero=>simp only[Pt.depth] at h;omega
  |succ n=>exact⟨(by decide:3<1000),λx e=>by simp only[B',C',or_false] at e;simp only[Pt.depth] at h;rcases e with rfl|rfl|rfl;exact d5;exact c n i.1 (by omega);exact d5⟩
 |held a s f c=>intro n i h;cases n with
  |zero=>simp only[Pt.depth] at h;omega
  |succ n=>exact⟨(by decide:4<1000),λx e=>by simp only[B',C',or_false] at e;simp only[Pt.depth] at h;rcases e with rfl|rfl|rfl|rfl;exact d5;exact c n i.1 (by omega);exact d5;exact tX i.2.2⟩
def iE(n:Nat):cU:=λds Q=>∃d k,ds=[d,d]/\k<n/\DD k d/\Q (.bl true)
def Ih{n:Nat}:b9 (iE n):=fun ds P a f ⟨d,k,e,l,h,q⟩=>⟨d,k,e,l,h,f _ q⟩
def De(xs:List D)(i:Nat)(d:D)(h:(Q3 (λx y=>D.tup [x,y]) xs xs)[i]?=some d):∃x∈xs,d=.tup [x,x]:=by
 rw[UU] at h
 cases e:xs[i]? with
 |none=>rw[e] at h;cases h
 |some x =>
  rw[e] at h
  exact⟨x,PY e,by simpa using h.symm⟩
def vf{xs:List D}{Q:D->Prop}{caps:List Nat}{δ:SD}{k:Nat}(f:k<n)(l:xs.length<1000)(h:∀x∈xs,DD k x)(q:Q (.bl true)) :
  ∃a:List (Option D),a.length=(Q3 (λx y=>D.tup [x,y]) xs xs).length /\
   (∀(i:Nat) (d:D) (o:Option D),(Q3 (λx y=>D.tup [x,y]) xs xs)[i]?=some d->a[i]?=some o->∃x y,d=.tup [x,y]/\GL (some x::some y::kI caps δ) λb=>b=o.isSome/\(b=true->gD (iE n) (ao (au 0) (ao (au 1) bG)) (some x::some y::kI caps δ) λr=>o=some r)) /\
   (Q3 (λx y=>D.tup [x,y]) xs xs).length<sizeLine/\bG δ (λds=>yh (D.lst (a.filterMap id)::ds) Q):=by
 have hz:(Q3 (λx y=>D.tup [x,y]) xs xs).length=xs.length:=by rw[Uo,WS]
 refine⟨RJ xs.length (some (.bl true)),by rw[hz,Qv],λi d o h1 g=>?_,by rw[hz];exact Pa l (by decide),RJ xs.length true,?_,?_⟩
 ·obtain⟨x,c,rfl⟩:=De xs i d h1
  have s:o=some (.bl true):=by
   have:=PY g
   exact(Uw.mp this).2
  subst s
  exact⟨x,x,rfl,rfl,λ_=>⟨_,rfl,_,rfl,x,k,rfl,f,h x c,rfl⟩⟩
 ·rw[List.map_replicate]
  congr 2
  generalize xs.length=k
  induction k with
  |zero=>rfl
  |succ k m=>rw[Um,Um,Q_];exact congrArg _ m
 ·have e:(RJ xs.length true).all id=true:=by
   rw[RT]
   intro b p
   exact(Uw.mp p).2
  rw[e]
  exact q
def Hj(d:Df K mg "_law_same" f9 ["_law_found","_law_due"])(a:mg "isinstance"=none)(c:mg "tuple"=none)(g:mg "list"=none)(o:mg "len"=none)(r:mg "all"=none)(u:mg "zip"=none)(l:mg "bool"=none)
  (h:bL P w K mg base j "_law_same" ["_law_found","_law_due"] (iE n)):bL P w K mg base (j+1) "_law_same" ["_law_found","_law_due"] (iE (n+1)):=by
 refine d.c_ mj Ih (fun ds Q ⟨p,_,e,_⟩=>by rw[e];rfl) (λf J A z s H E B=>have v:=B.units;have L:=B.hd;have N:=mj
  (aH (bN (cV (Ht (dv 1) (by rfl) a (by rfl) c DC.boot_tuple (by rfl) g DC.boot_list (by decide) (by decide))) (aH (bN (o_.td (w_or (ML v (nG (by rfl) a (by rfl) c (dv 1)) (nG (by rfl) a (by rfl) c (dv 0))) (qW (ML v (u7 (by rfl) a (by rfl) g (dv 1)) (u7 (by rfl) a (by rfl) g (dv 0)))))) (aE (aJ pG)) aR)
 (aE (aJ (ip (qY v (lz (by rfl) o (aA (dv 0) aD)) (lz (by rfl) o (aA (dv 1) aD))) (ff (A7 L (by rfl) r (aA (Km (x:="_law_one") (y:="_law_other") (caps:=[]) (cn:=[]) (cl:=[]) (nq (by rfl) (by rfl) (by decide +kernel) (by decide +kernel) (by decide +kernel)) rfl (K8 (by rfl) u (aA (dv 0) (aA (dv 1) aD))) (λC G I F=>Ca rfl (qB (cT (i:=0) (show(["_law_one","_law_other"]:List Str).Nodup by decide +kernel) rfl (PN rfl) (.inr rfl)) (qB (cT (i:=1) (show(["_law_one","_law_other"]:List Str).Nodup by decide +kernel) rfl (PN rfl) (.inr rfl)) yX))) (λC G I F=>iF) (λC G I F=>(aN h B (by omega) (by rfl) (aA (dv 0) (aA (dv 1) aD))))) aD))))))) aR)
 (aE (aJ (ip (qY v (gR (by rfl) a (by rfl) l (dv 0)) (gR (by rfl) a (by rfl) l (dv 1))) (ff (qY v (dv 0) (dv 1)))))))) ?_
 rintro ds Q ⟨d,k,rfl,M,t,q⟩
 cases d with
 |lst xs =>
  obtain⟨k,rfl⟩:∃m,k=m+1:=by
   cases k with
   |zero=>exact t.elim
   |succ k=>exact⟨k,rfl⟩
  refine⟨_,rfl,_,_,rfl,rfl,_,rfl,aS ⟨_,rfl,_,rfl,_,rfl,_,rfl,false,rfl,aF ⟨_,rfl,_,rfl,_,rfl,_,rfl,false,rfl,aF ?_⟩⟩⟩
  exact⟨_,rfl,_,_,rfl,rfl,_,rfl,_,_,rfl,rfl,true,congrArg D.bl (by simp),aS ⟨_,rfl,_,rfl,_,_,_,_,xs,xs,rfl,rfl,rfl,vf (by omega) t.1 t.2 q⟩⟩
 |tup xs =>
  obtain⟨k,rfl⟩:∃m,k=m+1:=by
   cases k with
   |zero=>exact t.elim
   |succ k=>exact⟨k,rfl⟩
  refine⟨_,rfl,_,_,rfl,rfl,_,rfl,aS ⟨_,rfl,_,rfl,_,rfl,_,rfl,false,rfl,aF ⟨_,rfl,_,rfl,_,rfl,_,rfl,false,rfl,aF ?_⟩⟩⟩
  exact⟨_,rfl,_,_,rfl,rfl,_,rfl,_,_,rfl,rfl,true,congrArg D.bl (by simp),aS ⟨_,rfl,_,rfl,_,_,_,_,xs,xs,rfl,rfl,rfl,vf (by omega) t.1 t.2 q⟩⟩
 |ah=>exact⟨_,rfl,_,_,rfl,rfl,_,rfl,aF ⟨_,rfl,_,rfl,_,rfl,_,rfl,true,rfl,aS ⟨_,rfl,_,rfl,q⟩⟩⟩
 |bl b=>exact⟨_,rfl,_,_,rfl,rfl,_,rfl,aF ⟨_,rfl,_,rfl,_,rfl,_,rfl,true,rfl,aS ⟨_,rfl,_,rfl,by simpa [m9,BW] using q⟩⟩⟩
 |int b=>exact⟨_,rfl,_,_,rfl,rfl,_,rfl,aF ⟨_,rfl,_,rfl,_,rfl,_,rfl,true,rfl,aS ⟨_,rfl,_,rfl,by simpa [m9,BW] using q⟩⟩⟩
 |str b=>exact⟨_,rfl,_,_,rfl,rfl,_,rfl,aF ⟨_,rfl,_,rfl,_,rfl,_,rfl,true,rfl,aS ⟨_,rfl,_,rfl,by simpa [m9,BW] using q⟩⟩⟩
 |_=>cases k<;>exact t.elim
def vd(d:Df K mg "_law_same" f9 ["_law_found","_law_due"])(a:mg "isinstance"=none)(b:mg "tuple"=none)(e:mg "list"=none)(i:mg "len"=none)(g:mg "all"=none)(f:mg "zip"=none)(c:mg "bool"=none) :
  ∀n,bL P w K mg base n "_law_same" ["_law_found","_law_due"] (iE n)
 | 0=>Df.never d fun ds Q ⟨_,_,_,h,_⟩=>absurd h (by omega)
 |n+1=>Hj d a b e i g f c (vd d a b e i g f c n)
def roots:List (List Int):=[[],[7],[1,2]]
def HG:List (List Int):=[[],[0],[1],[2],[0,0],[0,1],[0,2],[1,0],[1,1],[1,2],[2,0],[2,1],[2,2]]
def PL:List (List Int):=roots.flatMap λr=>HG.map (r++·)
def Js:∀{s:List Int},(∀i∈s,i=0\/i=1\/i=2)->s.length<=2->s∈HG
 |[],_,_=>by decide
 |[a],h,_=>by
  rcases h a D' with rfl|rfl|rfl<;>decide
 |[a,b],h,_=>by
  rcases h a D' with rfl|rfl|rfl<;>rcases h b (O5 _ D') with rfl|rfl|rfl<;>decide
 |_::_::_::_,_,h=>absurd h (by simp only[Pb];omega)
structure Rt (pl:List Int) (p:Pt):Prop where
 ex:∃r∈roots,∃s,pl=r++s/\(∀i∈s,i=0\/i=1\/i=2)/\s.length+p.depth<=4
def Rt.lP{pl:List Int}{p q:Pt}{i:Int}(h:Rt pl p)(c:i=0\/i=1\/i=2)(f:q.depth+1<=p.depth):Rt (pl++[i]) q:=by
 obtain⟨r,b,s,rfl,a,e⟩:=h.ex
 refine⟨r,b,s++[i],Ph ..,λz hz=>?_,by rw[O4,P5];omega⟩
 rcases O3.mp hz with hz|hz
 ·exact a z hz
 ·rw[O6.mp hz];exact c
def Rt.at_{pl:List Int}{p:Pt}(h:Rt pl p)(e:2<=p.depth):pl∈PL:=by
 obtain⟨r,a,s,rfl,b,c⟩:=h.ex
 exact List.mem_flatMap.mpr ⟨r,a,O_.mpr ⟨s,Js b (by omega),rfl⟩⟩
def Fp:∀r∈roots,(∀i∈r,(0:Int)<=i)/\r.length<=2:=by decide
def Rt.pc{pl:List Int}{p:Pt}(h:Rt pl p):Pc pl p:=by
 obtain⟨r,a,s,rfl,b,c⟩:=h.ex
 have h1:=Fp r a
 refine⟨λi hi=>?_,by rw[O4];have:=h1.2;omega⟩
 rcases O3.mp hi with hi|hi
 ·exact h1.1 i hi
 ·rcases b i hi with rfl|rfl|rfl<;>decide
def IJ:∀a∈PL,∀b∈PL,hT a=hT b->a=b:=by decide +kernel
def GY:∀a∈PL,a≠xK:=by decide +kernel
def HW:PL.length=39:=by decide +kernel
structure og (gs:GM):Prop where
 nd:(gs.map (·.1)).Nodup
 sub:∀g∈gs,g.1∈PL
def og.rJ{gs:GM}(h:og gs):nj gs:=λg a=>GY _ (h.sub g a)
def og.hash{c:GM}(h:og c):(c.map λg=>hT g.1).Nodup:=by
 have e:(c.map λg=>hT g.1)=(c.map (·.1)).map hT:=by rw[Pe];rfl
 rw[e]
 refine R0.mpr (Sx (fun{a b} m i ne z=>ne ?_) h.nd)
 obtain⟨x,f,rfl⟩:=O_.mp m
 obtain⟨y,l,rfl⟩:=O_.mp i
 exact IJ _ (h.sub x f) _ (h.sub y l) z
def rE{α:Type} [DecidableEq α]:∀{xs ys:List α},xs.Nodup->(∀x∈xs,x∈ys)->xs.length<=ys.length
 |[],_,_,_=>P6 _
 |x::xs,ys,h,s=>by
  rw[QK] at h
  have a:=s x D'
  have b:=rE (ys:=ys.erase x) h.2 λz hz=>(List.mem_erase_of_ne (λe=>h.1 (by rw[<- e];exact hz))).mpr (s z (O5 _ hz))
  rw[List.length_erase_of_mem a] at b
  have:=List.length_pos_of_mem a
  rw[Pb]
  omega
def og.len{a:GM}(h:og a):a.length<=39:=by
 have:=rE h.nd (ys:=PL) λx b=>by obtain⟨g,c,rfl⟩:=O_.mp b;exact h.sub g c
 rw[G',HW] at this
 exact this
section
variable {w:cf}{m:GM}
def iK:∀{p:Pt} {c:Bool} {pl:List Int},Rt pl p->∀g∈kl w m p c pl,g.1∈PL
 |.given _,c,pl,r,g,h=>nomatch h
 |.named _,c,pl,r,g,h=>nomatch h
 |.turned p,c,pl,r,g,h=>iK (p:=p) (r.lP (.inl rfl) (by simp only[Pt.depth];omega)) g h
 |.pair _ p q,c,pl,r,g,h=>(O3.mp h).elim (iK (p:=p) (r.lP (.inl rfl) (by simp only[Pt.depth];omega)) g) (iK (p:=q) (r.lP (.inr (.inl rfl)) (by simp only[Pt.depth];omega)) g)
 |.choice z p q,c,pl,r,g,h=>(O3.mp h).elim (iK (p:=z) (r.lP (.inl rfl) (by simp only[Pt.depth];omega)) g) λh=>(O3.mp h).elim (iK (p:=p) (r.lP (.inr (.inl rfl)) (by simp only[Pt.depth];omega)) g) (iK (p:=q) (r.lP (.inr (.inr rfl)) (by simp only[Pt.depth];omega)) g)
 |.before p _,c,pl,r,g,h=>(O3.mp h).elim (λh=>by rw[fT h];exact r.at_ (by have:=p.bO;simp only[Pt.depth];omega)) (iK (p:=p) (r.lP (.inl rfl) (by simp only[Pt.depth];omega)) g)
 |.led p q,c,pl,r,g,h=>(O3.mp h).elim (λh=>by rw[fT h];exact r.at_ (by have:=p.bO;simp only[Pt.depth];omega)) λh=>(O3.mp h).elim (iK (p:=p) (r.lP (.inl rfl) (by simp only[Pt.depth];omega)) g) (iK (p:=q) (r.lP (.inr (.inl rfl)) (by simp only[Pt.depth];omega)) g)
 |.bY p _,c,pl,r,g,h=>iK (p:=p) (r.lP (.inl rfl) (by simp only[Pt.depth];omega)) g h
 |.held p _ _,c,pl,r,g,h=>(O3.mp h).elim (λh=>by rw[fT h];exact r.at_ (by have:=p.bO;simp only[Pt.depth];omega)) (iK (p:=p) (r.lP (.inl rfl) (by simp only[Pt.depth];omega)) g)
def Bq{p:Pt}{c:Bool}{pl:List Int}(r:Rt pl p):og (kl w m p c pl):=⟨iL,iK r⟩
end
def qM:cU:=λds Q=>∃p:Pt,ds=[p.told]/\p.ok/\Q (.lst (p.inner.map Pt.told))
def DP(p:Pt):iX "tuple" p.told=some true:=by cases p<;>rfl
def yt{f:D}(h:isVal f):iX "tuple" f=some false:=by rcases h with⟨b,rfl⟩|⟨i,rfl,_⟩<;>rfl
inductive Af:List D->List (Option D)->Prop
 |nil:Af [] []
 |yes (p:Pt) {ds:List D} {os:List (Option D)}:Af ds os->Af (p.told::ds) (some p.told::os)
 |no {d:D} {ds:List D} {os:List (Option D)}:iX "tuple" d=some false->Af ds os->Af (d::ds) (none::os)
def Af.at{d:D}{o:Option D}:∀{ds:List D} {os:List (Option D)} {i:Nat},Af ds os->ds[i]?=some d->os[i]?=some o->∃b,iX "tuple" d=some b/\b=o.isSome/\(b=true->o=some d)
 |_,_,0,.yes p _,c,a=>by cases c;cases a;exact⟨true,DP p,rfl,λ_=>rfl⟩
 |_,_,0,.no h _,c,a=>by cases c;cases a;exact⟨false,h,rfl,λz=>nomatch z⟩
 |_,_,i+1,.yes p t,c,a=>Af.at (i:=i) (ds:=_) t c a
 |_,_,i+1,.no h t,c,a=>Af.at (i:=i) (ds:=_) t c a
def Af.len:∀{ds:List D} {os:List (Option D)},Af ds os->os.length=ds.length
 |_,_,.nil=>rfl
 |_,_,.yes _ t=>congrArg (·+1) t.len
 |_,_,.no _ t=>congrArg (·+1) t.len
def tj{s:Str}:iX "tuple" (.str s)=some false:=rfl
def yJ{f:D}(h:ef f):iX "tuple" f=some false:=by rcases h with rfl|h;rfl;exact yt h
def Kd(d:Df K mg "_law_inner" h_ ["_law_told"])(a:mg "isinstance"=none)(m:mg "tuple"=none):bL P w K mg base (j+1) "_law_inner" ["_law_told"] qM:=by
 refine d.c_ kr (fun ds P W f ⟨p,e,h,q⟩=>⟨p,e,h,f _ q⟩) (fun ds Q ⟨p,e,_⟩=>by rw[e];rfl) (λf L A r s H E G=>have U:=G.units;have X:=G.hd;have Y:=kr
  (aE (aJ (zI (x:="_law_one") (caps:=[]) (cn:=[]) (cl:=[]) (nq (by rfl) (by rfl) (by decide +kernel) (by decide +kernel) (by decide +kernel)) rfl (ny (oi (dv 0) (p7 aC) xF)) (λC F B u=>cT (i:=0) (show(["_law_one"]:List Str).Nodup by decide +kernel) rfl (PN rfl) (.inr rfl)) (λC F B u=>(J3 (cV (nG (by rfl) a (by rfl) m (dv 0))))) (λC F B u=>(dv 0)))))) ?_
 rintro ds Q ⟨p,rfl,ok,q⟩
 have c:∀{s:Str} {ds:List D} {os:List (Option D)},p.told=.tup (.str s::ds)->Af ds os->ds.length<10->os.filterMap id=p.inner.map Pt.told->Ku p.told (some 1) none λd=>∃ds,Bk d=some ds/\∃l:List (Option D),l.length=ds.length/\(∀(i:Nat) (d:D) (o:Option D),ds[i]?=some d->l[i]?=some o->uC (rV "tuple" (au 0)) (some d::kI [] (bw [QE "_law_told"] [p.told])) λb=>b=o.isSome/\(b=true->au 0 (some d::kI [] (bw [QE "_law_told"] [p.told])) λy=>o=some y))/\ds.length<sizeLine/\Q (.lst (l.filterMap id)):=by
  intro s ds os e t M S
  rw[e]
  have J:DC.cutD (.str s::ds) (some 1) none=ds:=by
   unfold DC.cutD
   simp[HT.dF]
  refine⟨λz=>by have:=z.1;simp[HT.dF] at this,ds,congrArg some J,os,t.len,λi d o h1 I=>?_,Pa M (by decide),by rw[S];exact q⟩
  obtain⟨b,N,R,T⟩:=t.at h1 I
  exact⟨_,rfl,b,N,b,rfl,R,λO=>⟨_,rfl,T O⟩⟩
 refine⟨_,rfl,1,rfl,?_⟩
 cases p with
 |given v=>exact c rfl (.no (yt ok) .nil) (by simp) rfl
 |named x=>exact c rfl (.no tj .nil) (by simp) rfl
 |turned x=>exact c rfl (.yes x .nil) (by simp) rfl
 |pair g x y=>exact c rfl (.yes x (.yes y .nil)) (by simp) rfl
 |choice z x y=>exact c rfl (.yes z (.yes x (.yes y .nil))) (by simp) rfl
 |before x f=>exact c rfl (.yes x (.no (yJ ok.2) .nil)) (by simp) rfl
 |led x y=>exact c rfl (.yes x (.yes y .nil)) (by simp) rfl
 |bY x y=>exact c rfl (.yes x (.no tj .nil)) (by simp) rfl
 |held x y f=>exact c rfl (.yes x (.no tj (.no (yJ ok.2.2) .nil))) (by simp) rfl
def tR(n:Nat):cU:=λds Q=>∃(l:List Str) (a:cf) (p:Pt) (c:Bool) (b:Nat) (pl:List Int) (m:GM),
 ds=[p.told,.dK a,.dT m,uK pl]/\p.depth<=n/\GN l a/\b<=2/\Ty l p c b/\bj l a b=true/\fK m p pl/\nj m/\pl.length+p.depth<=10/\Q (wv a m p pl)
def NN{n:Nat}:b9 (tR n):=fun ds P u f ⟨l,s,p,h,b,pl,m,e,h1,g,o,a,r,i,t,c,q⟩=>⟨l,s,p,h,b,pl,m,e,h1,g,o,a,r,i,t,c,f _ q⟩
def iJ{n:Nat}{l:List Str}{a:cf}{x:Pt}{e:Bool}{b:Nat}{pl:List Int}{i:Int}{m:GM}{Q:D->Prop}(h:x.depth<=n)(E:GN l a)(f:b<=2)(T:Ty l x e b)(c:bj l a b=true)(G:fK m x (pl++[i]))(g:nj m)(o:pl.length+(x.depth+1)<=10)
  (k:Q (wv a m x (pl++[i]))):tR n [x.told,.dK a,.dT m,.tup (pl.map D.int++[.int i])] Q :=
 ⟨l,a,x,e,b,pl++[i],m,by rw[i9],h,E,f,T,c,G,g,by rw[O4,P5];omega,k⟩
def iU{g:Str}{a b:Bool}(h:sgn g a b):∀y∈(["given","named","before","when","held","then","not","if"]:List Str),decide (g=y)=false:=by
 rcases h with⟨h,_⟩|⟨h,_⟩|⟨rfl,_⟩|⟨h,_⟩
 ·simp only[B',C',or_false] at h
  rcases h with rfl|rfl|rfl<;>decide +kernel
 ·simp only[B',C',or_false] at h
  rcases h with rfl|rfl<;>decide +kernel
 ·decide +kernel
 ·simp only[B',C',or_false] at h
  rcases h with rfl|rfl<;>decide +kernel
def Et(d:Df K mg "_law_worth" dY ["_law_told","_law_now","_law_memory","_law_place"])(C:mg "int"=none)(r:bL P w K mg base j "_law_pair" ["_law_sign","_law_one","_law_other"] vg)(a:bL P w K mg base j "_law_worth" ["_law_told","_law_now","_law_memory","_law_place"] (tR n)) :
  bL P w K mg base (j+1) "_law_worth" ["_law_told","_law_now","_law_memory","_law_place"] (tR (n+1)):=by
 refine d.c_ lA NN (fun ds Q ⟨l,o,p,W,b,pl,m,e,_⟩=>by rw[e];rfl) (λf cdv A S s H E M=>have t:=M.units;have hh:=M.hd;have R:=lA
  (aH (bA (i:=4) R.nd rfl (PN rfl) (aU (dv 0) aC (λ_ _=>rfl)))
 (aH (bN (bx t (dv 4) aZ) (aE (aJ (aU (dv 0) aC (λ_ _=>rfl)))) aR)
 (aH (bN (bx t (dv 4) aZ) (aE (aJ (lK t (dv 1) (aU (dv 0) aC (λ_ _=>rfl)) (λ_ _=>rfl)))) aR)
 (aH (bN (bx t (dv 4) aZ) (aE (aJ (EA (DK t (dv 3) (dv 2) (by rfl)) (Gf t (dv 2) (dv 3) (λ_ _=>rfl)) (aU (dv 0) aC (λ_ _=>rfl))))) aR)
 (aH (bN (bx t (dv 4) aZ) (aE (aJ (aN a M (by omega) (by rfl) (aA (aU (dv 0) aC (λ_ _=>rfl)) (aA (dv 1) (aA (dv 2) (aA (aj (dv 3) (aa (bg (by rfl)))) aD))))))) aR)
 (aH (bN (bx t (dv 4) aZ) (aH (bN (o_.td (w_and (MJ t (aU (dv 0) aC (λ_ _=>rfl)) (dv 1) (by rfl)) (jR (cV (lK t (dv 1) (aU (dv 0) aC (λ_ _=>rfl)) (λ_ _=>rfl)))))) (aE (aJ (aN a M (by omega) (by rfl) (aA (aU (dv 0) aC (λ_ _=>rfl)) (aA (dv 1) (aA (dv 2) (aA (aj (dv 3) (aa (bg (by rfl)))) aD))))))) aR)
 (aE (aJ (EA (DK t (dv 3) (dv 2) (by rfl)) (Gf t (dv 2) (dv 3) (λ_ _=>rfl)) (aU (dv 0) aC (λ_ _=>rfl)))))) aR)
 (aH (bN (bx t (dv 4) aZ) (aH (bA (i:=6) R.nd rfl (PN rfl) (gP (by rfl) C (aA (Kq t (dv 3) (dv 2) (by rfl)) aD)))
 (aE (aJ (aN a M (by omega) (by rfl) (aA (aU (dv 0) (aj aC (dv 6)) (λ_ _=>rfl)) (aA (dv 1) (aA (dv 2) (aA (aj (dv 3) (aa (aA (dv 6) aD))) aD)))))))) aR)
 (aH (bA (i:=5) R.nd rfl (PN rfl) (aN a M (by omega) (by rfl) (aA (aU (dv 0) aC (λ_ _=>rfl)) (aA (dv 1) (aA (dv 2) (aA (aj (dv 3) (aa (bg (by rfl)))) aD))))))
 (aH (bN (bx t (dv 4) aZ) (aE (aJ (Gi (dv 5)))) aR)
 (aH (bN (bx t (dv 4) aZ) (aH (bA (i:=6) R.nd rfl (PN rfl) (aU (cC (bg (by rfl))) (gP (by rfl) C (aA (dv 5) aD)) (λ_ _=>rfl)))
 (aE (aJ (aN a M (by omega) (by rfl) (aA (aU (dv 0) (aj aC (dv 6)) (λ_ _=>rfl)) (aA (dv 1) (aA (dv 2) (aA (aj (dv 3) (aa (aA (dv 6) aD))) aD)))))))) aR)
 (aE (aJ (aN r M (by omega) (by rfl) (aA (dv 4) (aA (dv 5) (aA (aN a M (by omega) (by rfl) (aA (aU (dv 0) aC (λ_ _=>rfl)) (aA (dv 1) (aA (dv 2) (aA (aj (dv 3) (aa (bg (by rfl)))) aD))))) aD))))))))))))))))) ?_
 rintro ds Q ⟨l,o,p,W,b,pl,m,rfl,I,E,B,T,c,G,u,F,q⟩
 have J:pl.length<=10:=by omega
 cases p with
 |given v=>exact⟨_,rfl,_,rfl,_,rfl,true,congrArg D.bl (by decide +kernel),aS ⟨_,rfl,_,rfl,q⟩⟩
 |named x =>
  have h:=E.nm W b x B T
  rw[if_pos c] at h
  obtain⟨v,e,_⟩:=h
  rw[show wv o m (.named x) pl=v by unfold wv;rw[e];rfl] at q
  exact⟨_,rfl,_,rfl,_,rfl,false,congrArg D.bl (by decide +kernel),aF ⟨_,rfl,true,congrArg D.bl (by decide +kernel),aS ⟨_,rfl,_,rfl,_,rfl,_,.inr x,v,rfl,rfl,e,q⟩⟩⟩
 |before x f =>
  refine⟨_,rfl,_,rfl,_,rfl,false,congrArg D.bl (by decide +kernel),aF ⟨_,rfl,false,congrArg D.bl (by decide +kernel),aF ⟨_,rfl,true,congrArg D.bl (by decide +kernel),aS ⟨_,rfl,pl,rfl,_,rfl,m,rfl,u,_,rfl,?_⟩⟩⟩⟩
  change Q ((bh m pl).getD f) at q
  cases e:bh m pl with
  |some v=>rw[e] at q;exact aS ⟨_,rfl,m,rfl,u,_,rfl,pl,v,rfl,e,q⟩
  |none=>rw[e] at q;exact aF ⟨_,rfl,_,rfl,q⟩
 |bY x y =>
  obtain⟨h1,rfl,N⟩:=T
  obtain⟨X,rfl⟩:∃X,b=X+1:=⟨b - 1,by omega⟩
  refine⟨_,rfl,_,rfl,_,rfl,false,congrArg D.bl (by decide +kernel),aF ⟨_,rfl,false,congrArg D.bl (by decide +kernel),aF ⟨_,rfl,false,congrArg D.bl (by decide +kernel),aF ⟨_,rfl,true,congrArg D.bl (by decide +kernel),aS ⟨_,rfl,_,rfl,_,rfl,_,rfl,_,rfl,zL1,ar J,?_⟩⟩⟩⟩⟩
  exact iJ (by simp only[Pt.depth] at I;omega) E (b:=X) (by omega) N (E.dn (by omega) c) G u (by simp only[Pt.depth] at F;omega) q
 |held x y f =>
  obtain⟨h1,rfl,N,h3⟩:=T
  change Q (if eh (look o (iZ l b))=true then wv o m x (pl++[0]) else(bh m pl).getD f) at q
  have hw:bj l o (b+1)=eh (look o (iZ l b)):=E.up b h1
  refine⟨_,rfl,_,rfl,_,rfl,false,congrArg D.bl (by decide +kernel),aF ⟨_,rfl,false,congrArg D.bl (by decide +kernel),aF ⟨_,rfl,false,congrArg D.bl (by decide +kernel),aF ⟨_,rfl,false,congrArg D.bl (by decide +kernel),aF ⟨_,rfl,true,congrArg D.bl (by decide +kernel),aS ?_⟩⟩⟩⟩⟩
  have U:look o (iZ l b)=none\/∃z,look o (iZ l b)=some (.bl z):=oq E (by omega)
  have O:Q ((bh m pl).getD f)->OP (cZ (DY (au 3) (au 2))) (MT (au 2) (au 3)) (DV (au 0) (vC (.int 3))) [some (Pt.held x (iZ l b) f).told,some (.dK o),some (.dT m),some (uK pl),some (.str "held"),none,none] Q:=by
   intro q
   refine⟨_,rfl,pl,rfl,_,rfl,m,rfl,u,_,rfl,?_⟩
   cases e:bh m pl with
   |some v=>rw[e] at q;exact aS ⟨_,rfl,m,rfl,u,_,rfl,pl,v,rfl,e,q⟩
   |none=>rw[e] at q;exact aF ⟨_,rfl,_,rfl,q⟩
  rcases U with e|⟨z,e⟩
  ·rw[e,show eh none=false from rfl,if_neg A'] at q
   refine⟨_,rfl,_,rfl,_,rfl,o,.inr (iZ l b),rfl,rfl,_,rfl,?_⟩
   show if(if false=true then !(look o (iZ l b)).isSome else(look o (iZ l b)).isSome)=true then _ else _
   rw[e]
   exact O q
  ·rw[e] at q
   refine⟨_,rfl,_,rfl,_,rfl,o,.inr (iZ l b),rfl,rfl,_,rfl,?_⟩
   show if(if false=true then !(look o (iZ l b)).isSome else(look o (iZ l b)).isSome)=true then _ else _
   rw[e]
   refine⟨_,rfl,_,rfl,_,rfl,_,.inr (iZ l b),.bl z,rfl,rfl,e,z,rfl,?_⟩
   cases z with
   |true =>
    refine aS ⟨_,rfl,_,rfl,_,rfl,_,rfl,_,rfl,zL1,ar J,?_⟩
    exact iJ (n:=n) (by simp only[Pt.depth] at I;omega) E (b:=b+1) (by omega) N (by rw[hw,e];rfl) G.2 u (by simp only[Pt.depth] at F;omega) q
   |false=>exact aF (O q)
 |led x y =>
  change Q (if(bh m pl).isSome=true then wv o m y (pl++[1]) else wv o m x (pl++[0])) at q
  refine⟨_,rfl,_,rfl,_,rfl,false,congrArg D.bl (by decide +kernel),aF ⟨_,rfl,false,congrArg D.bl (by decide +kernel),aF ⟨_,rfl,false,congrArg D.bl (by decide +kernel),aF ⟨_,rfl,false,congrArg D.bl (by decide +kernel),aF ⟨_,rfl,false,congrArg D.bl (by decide +kernel),aF ⟨_,rfl,true,congrArg D.bl (by decide +kernel),aS ⟨_,rfl,pl,rfl,_,rfl,m,rfl,u,.inr ⟨_,rfl,?_⟩⟩⟩⟩⟩⟩⟩⟩
  cases e:(bh m pl).isSome with
  |true =>
   rw[e,if_pos rfl] at q
   refine⟨_,rfl,_,rfl,_,rfl,_,rfl,_,rfl,_,rfl,_,rfl,zL1,ar J,?_⟩
   exact iJ (by simp only[Pt.depth] at I;omega) E B T.2 c G.2 u (by simp only[Pt.depth] at F;omega) q
  |false =>
   rw[e,if_neg A'] at q
   refine⟨_,rfl,_,rfl,_,rfl,_,rfl,_,rfl,_,rfl,_,rfl,zL1,ar J,?_⟩
   exact iJ (by simp only[Pt.depth] at I;omega) E B T.1 c G.1 u (by simp only[Pt.depth] at F;omega) q
 |turned x =>
  have hk:=bT E B T.2 c G
  obtain⟨z,ez⟩:=hk.tr
  change Q (Iv (wv o m x (pl++[0]))) at q
  refine⟨_,rfl,_,rfl,_,rfl,false,congrArg D.bl (by decide +kernel),aF ⟨_,rfl,false,congrArg D.bl (by decide +kernel),aF ⟨_,rfl,false,congrArg D.bl (by decide +kernel),aF ⟨_,rfl,false,congrArg D.bl (by decide +kernel),aF ⟨_,rfl,false,congrArg D.bl (by decide +kernel),aF ⟨_,rfl,false,congrArg D.bl (by decide +kernel),aF ⟨_,rfl,_,rfl,_,rfl,_,rfl,_,rfl,zL1,ar J,?_⟩⟩⟩⟩⟩⟩⟩
  simp only[bG,lq,ai,a_,PM]
  refine iJ (n:=n) (by simp only[Pt.depth] at I;omega) E B T.2 c G u (by simp only[Pt.depth] at F;omega) ?_
  rw[ez] at q ⊢
  refine⟨_,rfl,true,congrArg D.bl (by decide +kernel),aS ⟨_,rfl,z,rfl,q⟩⟩
 |choice z x y =>
  have Y:=bT E B T.1 c G.1
  obtain⟨v,ev⟩:=Y.tr
  change Q (Fx (wv o m z (pl++[0])) (wv o m x (pl++[1])) (wv o m y (pl++[2]))) at q
  refine⟨_,rfl,_,rfl,_,rfl,false,congrArg D.bl (by decide +kernel),aF ⟨_,rfl,false,congrArg D.bl (by decide +kernel),aF ⟨_,rfl,false,congrArg D.bl (by decide +kernel),aF ⟨_,rfl,false,congrArg D.bl (by decide +kernel),aF ⟨_,rfl,false,congrArg D.bl (by decide +kernel),aF ⟨_,rfl,false,congrArg D.bl (by decide +kernel),aF ⟨_,rfl,_,rfl,_,rfl,_,rfl,_,rfl,zL1,ar J,?_⟩⟩⟩⟩⟩⟩⟩
  simp only[bG,lq,ai,a_,PM]
  refine iJ (n:=n) (by simp only[Pt.depth] at I;omega) E B T.1 c G.1 u (by simp only[Pt.depth] at F;omega) ?_
  rw[ev] at q ⊢
  refine⟨_,rfl,false,congrArg D.bl (by decide +kernel),aF ⟨_,rfl,true,congrArg D.bl (by decide +kernel),aS ⟨zL2,_,rfl,.inr ⟨_,rfl,?_⟩⟩⟩⟩
  cases v with
  |true =>
   refine⟨_,rfl,_,rfl,_,rfl,_,rfl,_,rfl,_,rfl,_,rfl,_,rfl,zL1,ar J,?_⟩
   simp only[bG,lq,ai,a_,PM]
   exact iJ (n:=n) (by simp only[Pt.depth] at I;omega) E B T.2.1 c G.2.1 u (by simp only[Pt.depth] at F;omega) q
  |false =>
   refine⟨_,rfl,_,rfl,_,rfl,_,rfl,_,rfl,_,rfl,_,rfl,_,rfl,zL1,ar J,?_⟩
   simp only[bG,lq,ai,a_,PM]
   exact iJ (n:=n) (by simp only[Pt.depth] at I;omega) E B T.2.2 c G.2.2 u (by simp only[Pt.depth] at F;omega) q
 |pair g x y =>
  obtain⟨Z,L,h1,N⟩:=T
  have Y:=bT E B h1 c G.1
  have k2:=bT E B N c G.2
  change Q (pairD g (wv o m x (pl++[0])) (wv o m y (pl++[1]))) at q
  refine⟨_,rfl,_,rfl,_,rfl,false,congrArg D.bl (iU L _ (by simp)),aF ⟨_,rfl,false,congrArg D.bl (iU L _ (by simp)),aF ⟨_,rfl,false,congrArg D.bl (iU L _ (by simp)),aF ⟨_,rfl,false,congrArg D.bl (iU L _ (by simp)),aF ⟨_,rfl,false,congrArg D.bl (iU L _ (by simp)),aF ⟨_,rfl,false,congrArg D.bl (iU L _ (by simp)),aF ⟨_,rfl,_,rfl,_,rfl,_,rfl,_,rfl,zL1,ar J,?_⟩⟩⟩⟩⟩⟩⟩
  simp only[bG,lq,ai,a_,PM]
  refine iJ (n:=n) (by simp only[Pt.depth] at I;omega) E B h1 c G.1 u (by simp only[Pt.depth] at F;omega) ?_
  refine⟨_,rfl,false,congrArg D.bl (iU L _ (by simp)),aF ⟨_,rfl,false,congrArg D.bl (iU L _ (by simp)),aF ⟨_,rfl,_,rfl,_,rfl,_,rfl,_,rfl,_,rfl,_,rfl,zL1,ar J,?_⟩⟩⟩
  simp only[bG,lq,ai,a_,PM]
  refine iJ (n:=n) (by simp only[Pt.depth] at I;omega) E B N c G.2 u (by simp only[Pt.depth] at F;omega) ?_
  exact⟨g,Z,W,_,_,rfl,L,Y,k2,q⟩
def sY(d:Df K mg "_law_worth" dY ["_law_told","_law_now","_law_memory","_law_place"])(c:mg "int"=none)(a:bL P w K mg base 1 "_law_pair" ["_law_sign","_law_one","_law_other"] vg) :
  ∀n,bL P w K mg base (n+1) "_law_worth" ["_law_told","_law_now","_law_memory","_law_place"] (tR n)
 | 0=>Df.never d fun ds Q ⟨l,e,p,f,b,pl,m,_,h,_⟩=>absurd p.bO (by omega)
 |n+1=>Et d c (a.up (by omega)) (sY d c a n)
structure Dw (n:Nat) (l:List Str) (nw:cf) (p:Pt) (kd:Bool) (b:Nat) (pl:List Int) (m:GM):Prop where
 dp:p.depth<=n
 ok:p.ok
 gn:GN l nw
 hb:b<=2
 ty:Ty l p kd b
 me:fK m p pl
 pu:nj m
 rt:Rt pl p
def C1(n:Nat):Ai:=λds Q=>∃(l:List Str) (c:cf) (p:Pt) (e:Bool) (b:Nat) (pl:List Int) (m:GM),
 ds=[p.told,.dK c,.dT m,uK pl,.bl (bj l c b)]/\Dw n l c p e b pl m/\∀a,Q (.adr a) [(a,.dT (kl c m p (bj l c b) pl))]
def Ft(n:Nat):cU:=λds Q=>∃(l:List Str) (a:cf) (p:Pt) (c:Bool) (b:Nat) (pl:List Int) (m:GM),
 ds=[p.told,.dK a,.dT m,uK pl,.bl (bj l a b)]/\Dw n l a p c b pl m/\Q (.dT (kl a m p (bj l a b) pl))
def LH{n:Nat}:o9 (C1 n):=fun ds P i f ⟨l,c,p,g,b,pl,m,e,h,q⟩=>⟨l,c,p,g,b,pl,m,e,h,λa=>f _ _ (q a)⟩
def NM{n:Nat}:b9 (Ft n):=fun ds P g f ⟨l,a,p,c,b,pl,m,e,h,q⟩=>⟨l,a,p,c,b,pl,m,e,h,f _ q⟩
abbrev Gv:List Str:=["_law_told","_law_now","_law_memory","_law_place","_law_comes_here"]
def ow(a:cf)(m:GM)(c:Bool)(pl:List Int):Pt->GM
 |.before p _=>own c pl (wv a m p (pl++[0]))
 |.led _ _=>own c pl (.bl true)
 |.held p x _=>own (eh (look a x)) pl (wv a m p (pl++[0]))
 |_=>[]
def wi(a:cf)(c:Bool):Pt->Bool
 |.bY _ x=>(look a x).isSome
 |.held _ x _=>eh (look a x)
 |_=>c
def bt(b:Nat):Pt->Nat
 |.bY _ _=>b - 1
 |.held _ _ _=>b+1
 |_=>b
def K9{a:cf}{m:GM}{c:Bool}{pl:List Int}:∀p:Pt,kl a m p c pl=ow a m c pl p++zi a m (wi a c p) pl 0 p.inner:=by
 intro p
 cases p<;>simp[kl,ow,wi,Pt.inner,zi]
structure InK (n:Nat) (l:List Str) (nw:cf) (p:Pt) (b:Nat) (pl:List Int) (m:GM):Prop where
 wi:wi nw (bj l nw b) p=bj l nw (bt b p)
 lP:∀(i:Nat) (x:Pt),p.inner[i]?=some x->∃kq,Dw n l nw x kq (bt b p) (pl++[(i:Int)]) m
def Dw.Od{n:Nat}{l:List Str}{q:cf}{p:Pt}{E:Bool}{b:Nat}{pl:List Int}{m:GM}(h:Dw (n+1) l q p E b pl m):InK n l q p b pl m:=by
 obtain⟨Q,ok,u,o,e,a,G,I⟩:=h
 have mk:∀{x:Pt} {B:Bool} {t:Nat} {i:Int},(i=0\/i=1\/i=2)->x.depth+1<=p.depth->x.ok->t<=2->Ty l x B t->fK m x (pl++[i])->Dw n l q x B t (pl++[i]) m:=λF L N s M H=>⟨by omega,N,u,s,M,H,G,I.lP F L⟩
 cases p with
 |given v=>exact⟨rfl,λi x h=>by cases h⟩
 |named v=>exact⟨rfl,λi x h=>by cases h⟩
 |turned x =>
  refine⟨rfl,λi y h=>?_⟩
  match i,h with
  | 0,h=>cases h;exact⟨_,mk (.inl rfl) (by simp only[Pt.depth];omega) ok o e.2 a⟩
  |i+1,h=>cases h
 |pair g x y =>
  obtain⟨O,R,J,C⟩:=e
  refine⟨rfl,λi z h=>?_⟩
  match i,h with
  | 0,h=>cases h;exact⟨_,mk (.inl rfl) (by simp only[Pt.depth];omega) ok.2.1 o J a.1⟩
  | 1,h=>cases h;exact⟨_,mk (.inr (.inl rfl)) (by simp only[Pt.depth];omega) ok.2.2 o C a.2⟩
  |i+2,h=>cases h
 |choice c x y =>
  refine⟨rfl,λi z h=>?_⟩
  match i,h with
  | 0,h=>cases h;exact⟨_,mk (.inl rfl) (by simp only[Pt.depth];omega) ok.1 o e.1 a.1⟩
  | 1,h=>cases h;exact⟨_,mk (.inr (.inl rfl)) (by simp only[Pt.depth];omega) ok.2.1 o e.2.1 a.2.1⟩
  | 2,h=>cases h;exact⟨_,mk (.inr (.inr rfl)) (by simp only[Pt.depth];omega) ok.2.2 o e.2.2 a.2.2⟩
  |i+3,h=>cases h
 |before x f =>
  refine⟨rfl,λi y h=>?_⟩
  match i,h with
  | 0,h=>cases h;exact⟨_,mk (.inl rfl) (by simp only[Pt.depth];omega) ok.1 o e.1 a.2⟩
  |i+1,h=>cases h
 |led x y =>
  refine⟨rfl,λi z h=>?_⟩
  match i,h with
  | 0,h=>cases h;exact⟨_,mk (.inl rfl) (by simp only[Pt.depth];omega) ok.1 o e.1 a.1⟩
  | 1,h=>cases h;exact⟨_,mk (.inr (.inl rfl)) (by simp only[Pt.depth];omega) ok.2 o e.2 a.2⟩
  |i+2,h=>cases h
 |bY x y =>
  obtain⟨h1,rfl,r⟩:=e
  refine⟨?_,λi z h=>?_⟩
  ·show(look q (iZ l (b - 1))).isSome=bj l q (b - 1)
   unfold bj LV
   rw[if_neg (by omega)]
  ·match i,h with
   | 0,h=>cases h;exact⟨_,mk (.inl rfl) (by simp only[Pt.depth];omega) ok.1 (by show b - 1<=2;omega) r a⟩
   |i+1,h=>cases h
 |held x y f =>
  obtain⟨h1,rfl,r,S⟩:=e
  refine⟨(u.up b h1).symm,λi z h=>?_⟩
  match i,h with
  | 0,h=>cases h;exact⟨_,mk (.inl rfl) (by simp only[Pt.depth];omega) ok.1 (by show b+1<=2;omega) r a.2⟩
  |i+1,h=>cases h
def og.left{xs ys:GM}(h:og (xs++ys)):og xs:=⟨by have:=h.nd;rw[QB,QP] at this;exact this.1,λg a=>h.sub g (Pn _ a)⟩
def og.right{xs ys:GM}(h:og (xs++ys)):og ys:=⟨by have:=h.nd;rw[QB,QP] at this;exact this.2.1,λg a=>h.sub g (O8 _ a)⟩
def og.apart{xs ys:GM}(h:og (xs++ys)):∀g∈xs,∀k∈ys,g.1≠k.1:=λg b k a e=>by
 have:=h.nd
 rw[QB,QP] at this
 exact this.2.2 _ (O_.mpr ⟨g,b,rfl⟩) _ (O_.mpr ⟨k,a,rfl⟩) e
def yp(n:Nat):iW:=zl (Ic (Au (ao (gD qM (ao (au 0) bG)) bG)) (IK 2 (ur (hName 7) (ur (hName 8) II))) (B0 5 (gD (Ft n) (ao (au 8) (ao (au 1) (ao (au 2) (ao (DT (au 3) (DZ (ao (au 7) bG))) (ao (au 6) bG)))))))) (oB (vY (au 5)))
def fJ{n:Nat}{l:List Str}{c:cf}{p:Pt}{B:Bool}{b:Nat}{pl:List Int}{m:GM}{a:Addr}{E:kL}(h:Dw (n+1) l c p B b pl m)(q:E.rt (.adr a) [(a,.dT (kl c m p (bj l c b) pl))]) :
  yp n E [some p.told,some (.dK c),some (.dT m),some (uK pl),some (.bl (bj l c b)),some (.adr a),some (.bl (wi c (bj l c b) p)),none,none] [(a,.dT (ow c m (bj l c b) pl p))]:=by
 have k:=h.Od
 have C:pl.length<=10:=by have:=h.rt.pc.dp;omega
 have v:og (kl c m p (bj l c b) pl):=Bq h.rt
 rw[K9] at q v
 refine⟨_,rfl,p,rfl,h.ok,_,rfl,?_⟩
 refine⟨λi δ μ=>∃(x y:Option D) (f:GM),δ=[some p.told,some (.dK c),some (.dT m),some (uK pl),some (.bl (bj l c b)),some (.adr a),some (.bl (wi c (bj l c b) p)),x,y]/\μ=[(a,.dT f)]/\f++zi c m (wi c (bj l c b) p) pl i (p.inner.drop i)=ow c m (bj l c b) pl p++zi c m (wi c (bj l c b) p) pl 0 p.inner,⟨none,none,_,rfl,rfl,rfl⟩,?_,?_⟩
 ·rintro i dd δ μ e ⟨x,y,f,rfl,rfl,r⟩
  rw[jS,O7] at e
  cases hq:p.inner[i]? with
  |none=>rw[hq] at e;cases e
  |some o =>
   rw[hq] at e
   have t:D.tup [.int (i:Int),o.told]=dd:=by simpa using e
   subst t
   obtain⟨F,z⟩:=k.lP i o hq
   have u:p.inner.drop i=o::p.inner.drop (i+1):=by rw[T3 (PJ.mp hq).1,(PJ.mp hq).2]
   rw[u] at r
   have s:(f++kl c m o (wi c (bj l c b) p) (pl++[(i:Int)]))++zi c m (wi c (bj l c b) p) pl (i+1) (p.inner.drop (i+1))=_:=(Ph ..).trans r
   have g:og (f++kl c m o (wi c (bj l c b) p) (pl++[(i:Int)])):=(show og (_++_) by rw[s];exact v).left
   refine⟨_,rfl,rfl,_,_,rfl,_,_,rfl,rfl,a,f,rfl,bK _ _,g.left.rJ,_,rfl,_,rfl,_,rfl,_,rfl,_,rfl,zL1,ar C,_,rfl,?_⟩
   refine⟨l,c,o,F,bt b p,pl++[(i:Int)],m,by rw[<- k.wi,<- i9],z,_,rfl,?_,?_,?_,_,_,_,rfl,bu _ _ _,?_⟩
   all_goals rw[<- k.wi]
   ·exact g.right.rJ
   ·exact g.right.hash
   ·have:=g.len
    rw[O4] at this
    exact PB this (by decide)
   ·rw[sj g.apart g.right.nd]
    exact s
 ·rintro δ μ ⟨x,y,f,rfl,rfl,r⟩
  rw[jT,G',VE] at r
  rw[<- r,show zi c m (wi c (bj l c b) p) pl p.inner.length []=[] from rfl,Pf] at q
  exact⟨_,rfl,q⟩
def C_{g:Str}{a b:Bool}(h:sgn g a b):inD (.str g) [.str "before",.str "held"]=false:=by
 rcases h with⟨h,_⟩|⟨h,_⟩|⟨rfl,_⟩|⟨h,_⟩
 ·simp only[B',C',or_false] at h
  rcases h with rfl|rfl|rfl<;>decide +kernel
 ·simp only[B',C',or_false] at h
  rcases h with rfl|rfl<;>decide +kernel
 ·decide +kernel
 ·simp only[B',C',or_false] at h
  rcases h with rfl|rfl<;>decide +kernel
def Ek(c:o5 P w K mg base j "_law_kept" Gv (C1 n)):bL P w K mg base j "_law_kept" Gv (Ft n):=by
 obtain⟨f,i,F,h⟩:=c.ex
 refine⟨⟨f,i,F.imp (DF LH fun ds Q ⟨l,g,p,o,b,pl,m,e,h,q⟩=>⟨l,g,p,o,b,pl,m,e,h,λa=>?_⟩),h⟩,NM⟩
 show Q (cb [(a,MD.dT (kl g m p (bj l g b) pl))] (.adr a))
 simp only[cb,PV,beq_self_eq_true]
 exact q
def yM(d:Df K mg "_law_kept" f7 Gv)(B:mg "enumerate"=none)(o:bL P w K mg base j "_law_inner" ["_law_told"] qM)(c:bL P w K mg base j "_law_worth" ["_law_told","_law_now","_law_memory","_law_place"] (tR n))(u:bL P w K mg base j "_law_kept" Gv (Ft n)) :
  o5 P w K mg base (j+1) "_law_kept" Gv (C1 (n+1)):=by
 refine d.Kf mZ LH (fun ds Q ⟨l,C,p,R,b,pl,m,e,_⟩=>by rw[e];rfl) (λf S A L s H E I=>have F:=I.units;have hh:=I.hd;have G:=mZ
  (aY (mF (i:=5) G.nd rfl (PN rfl) Gn)
 (aY (bp (bA (i:=6) G.nd rfl (PN rfl) (dv 4)))
 (aY (i6 (bx F (aU (dv 0) aC (λ_ _=>rfl)) aZ) (bc (bp (bA (i:=6) G.nd rfl (PN rfl) (x5 F (aU (dv 0) aC (λ_ _=>rfl)) (dv 1) (by rfl))))) fR)
 (aY (i6 (bx F (aU (dv 0) aC (λ_ _=>rfl)) aZ) (bc (bp (bA (i:=6) G.nd rfl (PN rfl) (ip (x5 F (aU (dv 0) aC (λ_ _=>rfl)) (dv 1) (by rfl)) (ff (lK F (dv 1) (aU (dv 0) aC (λ_ _=>rfl)) (λ_ _=>rfl))))))) fR)
 (aY (i6 (o_.td (w_and (bx F (aU (dv 0) aC (λ_ _=>rfl)) aZ) (jR (cV (dv 4))))) (bc (gw (i:=5) F rfl (PN rfl) (dv 3) pG)) fR)
 (aY (i6 (o_.td (w_and (GF (aU (dv 0) aC (λ_ _=>rfl)) (aa (bg (by rfl))) (by rfl)) (jR (cV (dv 6))))) (bc (gw (i:=5) F rfl (PN rfl) (dv 3) (aN c I (by omega) (by rfl) (aA (aU (dv 0) aC (λ_ _=>rfl)) (aA (dv 1) (aA (dv 2) (aA (aj (dv 3) (aa (bg (by rfl)))) aD))))))) fR)
 (aY (pz Q2 rfl (Bf (by rfl) B (aA (aN o I (by omega) (by rfl) (aA (dv 0) aD)) aD)) (Ba (n:=2) rfl (jU (gu (i:=7) G.nd rfl (PN rfl)) (jU (gu (i:=8) G.nd rfl (PN rfl)) wg))) (bc (yS (n:=5) F rfl (PN rfl) (aN u I (by omega) (by rfl) (aA (dv 8) (aA (dv 1) (aA (dv 2) (aA (aj (dv 3) (aa (aA (dv 7) aD))) (aA (dv 6) aD)))))) ⟨by rfl,by rfl,by rfl,by rfl⟩)))
 (bc (bp (aJ (dv 5)))))))))))) ?_
 rintro ds Q ⟨l,C,p,R,b,pl,m,rfl,h,q⟩
 have N:pl.length<=10:=by have:=h.rt.pc.dp;omega
 intro a _
 cases p with
 |before x f =>
  refine⟨_,rfl,_,rfl,_,rfl,false,congrArg D.bl (by decide +kernel),aF ⟨_,rfl,_,rfl,false,congrArg D.bl (by decide +kernel),aF ⟨_,rfl,_,rfl,false,congrArg D.bl (by decide +kernel),aF (aF ⟨_,rfl,_,rfl,zL2,rfl,rfl,true,congrArg D.bl (show inD (.str "before") [.str "before",.str "held"]=true by decide +kernel),aS ⟨_,rfl,bj l C b,rfl,?_⟩⟩)⟩⟩⟩
  have t:=λW U=>fJ (a:=a) (E:=W) h U
  cases hc:bj l C b with
  |true =>
   refine aS ⟨_,rfl,_,rfl,_,rfl,_,rfl,_,rfl,zL1,ar N,?_⟩
   simp only[bG,lq,ai,a_,PM]
   refine iJ (n:=n) (by have:=h.dp;simp only[Pt.depth] at this;omega) h.gn h.hb h.ty.1 hc h.me.2 h.pu (by have:=h.rt.pc.dp;simp only[Pt.depth] at this;omega) ?_
   refine⟨a,[],rfl,bK _ _,by decide,_,rfl,pl,rfl,fh h.rt.pc.ok,?_⟩
   rw[Pf,bu]
   have t:=t { nx:=λ_ μ=>Q .ah μ,rt:=Q } (q a)
   simp only[ow,wi,hc,oH] at t
   exact t
  |false =>
   have t:=t { nx:=λ_ μ=>Q .ah μ,rt:=Q } (q a)
   simp only[ow,wi,hc,p8] at t
   exact aF t
 |given v =>
  exact⟨_,rfl,_,rfl,_,rfl,false,congrArg D.bl (by decide +kernel),aF ⟨_,rfl,_,rfl,false,congrArg D.bl (by decide +kernel),aF ⟨_,rfl,_,rfl,false,congrArg D.bl (by decide +kernel),aF (aF ⟨_,rfl,_,rfl,zL2,rfl,rfl,false,congrArg D.bl (show inD (.str "given") [.str "before",.str "held"]=false by decide +kernel),aF (aF (fJ h (q a)))⟩)⟩⟩⟩
 |named x =>
  exact⟨_,rfl,_,rfl,_,rfl,false,congrArg D.bl (by decide +kernel),aF ⟨_,rfl,_,rfl,false,congrArg D.bl (by decide +kernel),aF ⟨_,rfl,_,rfl,false,congrArg D.bl (by decide +kernel),aF (aF ⟨_,rfl,_,rfl,zL2,rfl,rfl,false,congrArg D.bl (show inD (.str "named") [.str "before",.str "held"]=false by decide +kernel),aF (aF (fJ h (q a)))⟩)⟩⟩⟩
 |turned x =>
  exact⟨_,rfl,_,rfl,_,rfl,false,congrArg D.bl (by decide +kernel),aF ⟨_,rfl,_,rfl,false,congrArg D.bl (by decide +kernel),aF ⟨_,rfl,_,rfl,false,congrArg D.bl (by decide +kernel),aF (aF ⟨_,rfl,_,rfl,zL2,rfl,rfl,false,congrArg D.bl (show inD (.str "not") [.str "before",.str "held"]=false by decide +kernel),aF (aF (fJ h (q a)))⟩)⟩⟩⟩
 |choice z x y =>
  exact⟨_,rfl,_,rfl,_,rfl,false,congrArg D.bl (by decide +kernel),aF ⟨_,rfl,_,rfl,false,congrArg D.bl (by decide +kernel),aF ⟨_,rfl,_,rfl,false,congrArg D.bl (by decide +kernel),aF (aF ⟨_,rfl,_,rfl,zL2,rfl,rfl,false,congrArg D.bl (show inD (.str "if") [.str "before",.str "held"]=false by decide +kernel),aF (aF (fJ h (q a)))⟩)⟩⟩⟩
 |pair g x y =>
  obtain⟨Z,J,t1,Y⟩:=id h.ty
  exact⟨_,rfl,_,rfl,_,rfl,false,congrArg D.bl (iU J _ (by simp)),aF ⟨_,rfl,_,rfl,false,congrArg D.bl (iU J _ (by simp)),aF ⟨_,rfl,_,rfl,false,congrArg D.bl (iU J _ (by simp)),aF (aF ⟨_,rfl,_,rfl,zL2,rfl,rfl,false,congrArg D.bl (C_ J),aF (aF (fJ h (q a)))⟩)⟩⟩⟩
 |led x y =>
  have r:yp n { nx:=λ_ μ=>Q .ah μ,rt:=Q } _ _:=fJ (a:=a) h (q a)
  refine⟨_,rfl,_,rfl,_,rfl,false,congrArg D.bl (by decide +kernel),aF ⟨_,rfl,_,rfl,false,congrArg D.bl (by decide +kernel),aF ⟨_,rfl,_,rfl,true,congrArg D.bl (by decide +kernel),aS ⟨_,rfl,bj l C b,rfl,?_⟩⟩⟩⟩
  cases hc:bj l C b with
  |true =>
   refine aS ⟨a,[],rfl,bK _ _,by decide,_,rfl,pl,rfl,fh h.rt.pc.ok,?_⟩
   rw[Pf,bu]
   simp only[ow,wi,hc,oH] at r
   exact⟨_,rfl,_,rfl,zL2,rfl,rfl,false,congrArg D.bl (show inD (.str "then") [.str "before",.str "held"]=false by decide +kernel),aF (aF r)⟩
  |false =>
   simp only[ow,wi,hc,p8] at r
   exact aF ⟨_,rfl,_,rfl,zL2,rfl,rfl,false,congrArg D.bl (show inD (.str "then") [.str "before",.str "held"]=false by decide +kernel),aF (aF r)⟩
 |bY x y =>
  exact⟨_,rfl,_,rfl,_,rfl,true,congrArg D.bl (by decide +kernel),aS ⟨_,rfl,_,rfl,_,rfl,C,.inr y,rfl,rfl,_,rfl,_,rfl,false,congrArg D.bl (by decide +kernel),aF ⟨_,rfl,_,rfl,false,congrArg D.bl (by decide +kernel),aF (aF ⟨_,rfl,_,rfl,zL2,rfl,rfl,false,congrArg D.bl (show inD (.str "when") [.str "before",.str "held"]=false by decide +kernel),aF (aF (fJ h (q a)))⟩)⟩⟩⟩
 |held x y f =>
  have r:yp n { nx:=λ_ μ=>Q .ah μ,rt:=Q } _ _:=fJ (a:=a) h (q a)
  have T:look C y=none\/∃z,look C y=some (.bl z):=by obtain⟨h1,rfl,_⟩:=id h.ty;exact oq h.gn (by omega)
  have X:eh (look C y)=true->bj l C (b+1)=true:=by obtain⟨h1,rfl,_⟩:=id h.ty;intro z;rw[h.gn.up b h1];exact z
  refine⟨_,rfl,_,rfl,_,rfl,false,congrArg D.bl (by decide +kernel),aF ⟨_,rfl,_,rfl,true,congrArg D.bl (by decide +kernel),aS ⟨_,rfl,_,rfl,_,rfl,C,.inr y,rfl,rfl,?_⟩⟩⟩
  have M:∀z:Bool,eh (look C y)=z->zl (NK (GK (cZ (vEq (DV (au 0) (vC (D.int 0))) (vC (D.str "then")))) (uC (au 4))) (Bz 5 (au 3) (vC (D.bl true))) Bw) (zl (NK (GK (cZ (N2 (DV (au 0) (vC (D.int 0))) (DZ (ao (vC (.str "before")) (ao (vC (.str "held")) bG))))) (uC (au 6))) (Bz 5 (au 3) (gD (tR n) (ao (DV (au 0) (vC (D.int 1))) (ao (au 1) (ao (au 2) (ao (DT (au 3) (DZ (ao (vC (.int 0)) bG))) bG)))))) Bw) (yp n)) { nx:=λ_ μ=>Q .ah μ,rt:=Q } [some (Pt.held x y f).told,some (.dK C),some (.dT m),some (uK pl),some (.bl (bj l C b)),some (.adr a),some (.bl z),none,none] [(a,.dT [])]:=by
   intro z hz
   refine⟨_,rfl,_,rfl,false,congrArg D.bl (by decide +kernel),aF (aF ⟨_,rfl,_,rfl,zL2,rfl,rfl,true,congrArg D.bl (show inD (.str "held") [.str "before",.str "held"]=true by decide +kernel),aS ⟨_,rfl,z,rfl,?_⟩⟩)⟩
   cases z with
   |true =>
    refine aS ⟨_,rfl,_,rfl,_,rfl,_,rfl,_,rfl,zL1,ar N,?_⟩
    obtain⟨h1,ey,O,h3⟩:=id h.ty
    simp only[bG]
    refine iJ (n:=n) (by have:=h.dp;simp only[Pt.depth] at this;omega) h.gn (b:=b+1) (by omega) O (X hz) h.me.2 h.pu (by have:=h.rt.pc.dp;simp only[Pt.depth] at this;omega) ?_
    refine⟨a,[],rfl,bK _ _,by decide,_,rfl,pl,rfl,fh h.rt.pc.ok,?_⟩
    rw[bu]
    simp only[ow,wi,hz,oH] at r
    exact r
   |false =>
    simp only[ow,wi,hz,p8] at r
    exact aF r
  rcases T with e|⟨z,e⟩
  ·refine⟨(look C y).isSome,rfl,?_⟩
   rw[e]
   exact M false (by rw[e];rfl)
  ·refine⟨(look C y).isSome,rfl,?_⟩
   rw[e]
   refine⟨_,rfl,_,rfl,_,rfl,C,.inr y,.bl z,rfl,rfl,e,?_⟩
   exact M z (by rw[e];cases z<;>rfl)
def Br(d:Df K mg "_law_kept" f7 Gv)(a:mg "enumerate"=none)(g:bL P w K mg base 1 "_law_inner" ["_law_told"] qM)(e:Df K mg "_law_worth" dY ["_law_told","_law_now","_law_memory","_law_place"])(c:mg "int"=none)(f:bL P w K mg base 1 "_law_pair" ["_law_sign","_law_one","_law_other"] vg) :
  ∀n,o5 P w K mg base (n+2) "_law_kept" Gv (C1 (n+1))
 | 0=>yM d a (g.up (by omega)) (sY e c f 0) (Df.never d fun ds Q ⟨l,o,p,i,b,pl,m,_,h,_⟩=>absurd p.bO (by have:=h.dp;omega))
 |n+1=>yM d a (g.up (by omega)) ((sY e c f (n+1)).up (by omega)) (Ek (Br d a g e c f n))
def fK.congr{m b:GM}:∀{p:Pt} {pl:List Int},(∀k,pl <+: k->bh m k=bh b k)->fK m p pl->fK b p pl
 |.given _,pl,h,k=>trivial
 |.named _,pl,h,k=>trivial
 |.turned p,pl,h,k=>fK.congr (p:=p) (λz hz=>h z (bW hz)) k
 |.pair _ p q,pl,h,k=>⟨fK.congr (p:=p) (λz hz=>h z (bW hz)) k.1,fK.congr (p:=q) (λz hz=>h z (bW hz)) k.2⟩
 |.choice c p q,pl,h,k=>⟨fK.congr (p:=c) (λz hz=>h z (bW hz)) k.1,fK.congr (p:=p) (λz hz=>h z (bW hz)) k.2.1,fK.congr (p:=q) (λz hz=>h z (bW hz)) k.2.2⟩
 |.before p f,pl,h,k=>⟨λv a=>k.1 v (by rw[h pl (Qn _)];exact a),fK.congr (p:=p) (λz hz=>h z (bW hz)) k.2⟩
 |.led p q,pl,h,k=>⟨fK.congr (p:=p) (λz hz=>h z (bW hz)) k.1,fK.congr (p:=q) (λz hz=>h z (bW hz)) k.2⟩
 |.bY p _,pl,h,k=>fK.congr (p:=p) (λz hz=>h z (bW hz)) k
 |.held p _ f,pl,h,k=>⟨λv a=>k.1 v (by rw[h pl (Qn _)];exact a),fK.congr (p:=p) (λz hz=>h z (bW hz)) k.2⟩
def pO:∀{xs ys:GM} {k:List Int},(∀g∈ys,g.1≠k)->bh (xs++ys) k=bh xs k
 |[],ys,k,h=>get_none h
 |x::xs,ys,k,h=>by rw[Q4,fL,fL,pO h]
def qu:∀{xs ys:GM} {k:List Int},(∀g∈xs,g.1≠k)->bh (xs++ys) k=bh ys k
 |[],ys,k,h=>rfl
 |x::xs,ys,k,h=>by rw[Q4,fL,if_neg (h x D')];exact qu λg a=>h g (O5 _ a)
structure Mem (p:Pt) (pl:List Int) (gs:GM):Prop where
 ok:og gs
 pre:∀g∈gs,pl <+: g.1
 vl:∀g∈gs,isVal g.2
 me:fK gs p pl
structure Ow (p:Pt) (pl:List Int) (o:GM):Prop where
 at_:∀g∈o,g.1=pl/\isVal g.2
 ok:og o
 kd:match p with
  |.before _ f=>∀v,bh o pl=some v->KV (vD f) v
  |.held _ _ f=>∀v,bh o pl=some v->KV (vD f) v
  |_=>True
structure Acc (p:Pt) (pl:List Int) (o:GM) (i:Nat) (gs:GM):Prop where
 ok:og gs
 vl:∀g∈gs,isVal g.2
 own:bh gs pl=bh o pl
 me:∀(k:Nat) (x:Pt),k<i->p.inner[k]?=some x->fK gs x (pl++[(k:Int)])
 pre:∀g∈gs,g.1=pl\/∃k:Nat,k<i/\(pl++[(k:Int)]) <+: g.1
def Acc.zero{p:Pt}{pl:List Int}{o:GM}(h:Ow p pl o):Acc p pl o 0 o:=⟨h.ok,λg a=>(h.at_ g a).2,rfl,λk x b=>absurd b (Nat.not_lt_zero _),λg a=>.inl (h.at_ g a).1⟩
def Acc.apart{p x:Pt}{pl:List Int}{o c b:GM}{i:Nat}(h:Acc p pl o i c)(m:Mem x (pl++[(i:Int)]) b):∀g∈c,∀k∈b,g.1≠k.1:=λg l k f e=>by
 have a:=m.pre k f
 rw[<- e] at a
 rcases h.pre g l with z|⟨j,q,z⟩
 ·rw[z] at a;exact eL a
 ·exact tK (by omega) z a
def Acc.step{p x:Pt}{pl:List Int}{o s r:GM}{i:Nat}(h:Acc p pl o i s)(t:p.inner[i]?=some x)(m:Mem x (pl++[(i:Int)]) r):Acc p pl o (i+1) (s++r):=by
 have B:=h.apart m
 refine⟨⟨?_,λg c=>(O3.mp c).elim (h.ok.sub g) (m.ok.sub g)⟩,λg c=>(O3.mp c).elim (h.vl g) (m.vl g),?_,λk y f l=>?_,λg c=>?_⟩
 ·rw[QB,QP]
  refine⟨h.ok.nd,m.ok.nd,λa v b u e=>?_⟩
  obtain⟨g,c,rfl⟩:=O_.mp v
  obtain⟨k,f,rfl⟩:=O_.mp u
  exact B g c k f e
 ·rw[pO λg c e=>eL (i:=(i:Int)) (by have:=m.pre g c;rw[e] at this;exact this)]
  exact h.own
 ·by_cases e:k=i
  ·subst e
   rw[t] at l
   cases l
   refine m.me.congr λz hz=>(qu λg c e=>?_).symm
   rw[<- e] at hz
   rcases h.pre g c with q|⟨j,E,q⟩
   ·rw[q] at hz;exact eL hz
   ·exact tK (by omega) q hz
  ·refine(h.me k y (by omega) l).congr λz hz=>(pO λg c C=>?_).symm
   rw[<- C] at hz
   exact tK (by omega) hz (m.pre g c)
 ·rcases O3.mp c with c|c
  ·exact(h.pre g c).imp id fun⟨k,f,z⟩=>⟨k,by omega,z⟩
  ·exact .inr ⟨i,by omega,m.pre g c⟩
def Acc.done{p:Pt}{pl:List Int}{o gs:GM}(w:Ow p pl o)(h:Acc p pl o p.inner.length gs):Mem p pl gs:=by
 refine⟨h.ok,λg i=>?_,h.vl,?_⟩
 ·rcases h.pre g i with z|⟨k,_,z⟩
  ·rw[z];exact Qn _
  ·exact bW z
 ·have a:=h.me
  have e:=w.kd
  have c:=h.own
  cases p with
  |given v=>trivial
  |named v=>trivial
  |turned x=>exact a 0 x (by simp[Pt.inner]) rfl
  |pair g x y=>exact⟨a 0 x (by simp[Pt.inner]) rfl,a 1 y (by simp[Pt.inner]) rfl⟩
  |choice z x y=>exact⟨a 0 z (by simp[Pt.inner]) rfl,a 1 x (by simp[Pt.inner]) rfl,a 2 y (by simp[Pt.inner]) rfl⟩
  |before x f=>exact⟨λv b=>e v (by rw[<- c];exact b),a 0 x (by simp[Pt.inner]) rfl⟩
  |led x y=>exact⟨a 0 x (by simp[Pt.inner]) rfl,a 1 y (by simp[Pt.inner]) rfl⟩
  |bY x y=>exact a 0 x (by simp[Pt.inner]) rfl
  |held x y f=>exact⟨λv b=>e v (by rw[<- c];exact b),a 0 x (by simp[Pt.inner]) rfl⟩
def Ow.nil(p:Pt)(pl:List Int):Ow p pl []:=by
 refine⟨(λg a=>nomatch a),⟨RK,(λg a=>nomatch a)⟩,?_⟩
 cases p<;>first|trivial|exact λv b=>nomatch b
structure HU (n:Nat) (l:List Str) (p:Pt) (kd:Bool) (b:Nat) (pl:List Int):Prop where
 dp:p.depth<=n
 ok:p.ok
 ty:Ty l p kd b
 rt:Rt pl p
def Jm(n:Nat):Ai:=λds Q=>∃(l:List Str) (p:Pt) (f:Bool) (b:Nat) (pl:List Int) (k:D) (c:Int),ds=[p.told,k,uK pl,.int c]/\HU n l p f b pl/\∀e,Mem p pl e->∀a,Q (.adr a) [(a,.dT e)]
def AI(n:Nat):cU:=λds Q=>∃(l:List Str) (p:Pt) (e:Bool) (b:Nat) (pl:List Int) (k:D) (c:Int),ds=[p.told,k,uK pl,.int c]/\HU n l p e b pl/\∀a,Mem p pl a->Q (.dT a)
def LJ{n:Nat}:o9 (Jm n):=fun ds P o f ⟨l,p,i,b,pl,k,c,e,h,q⟩=>⟨l,p,i,b,pl,k,c,e,h,λg m a=>f _ _ (q g m a)⟩
def NO{n:Nat}:b9 (AI n):=fun ds P i f ⟨l,p,g,b,pl,k,c,e,h,q⟩=>⟨l,p,g,b,pl,k,c,e,h,λa m=>f _ (q a m)⟩
abbrev G0:List Str:=["_law_told","_law_kind","_law_place","_law_cell"]
def HU.lP{n:Nat}{l:List Str}{p:Pt}{t:Bool}{b:Nat}{pl:List Int}(h:HU (n+1) l p t b pl)(i:Nat)(x:Pt)(e:p.inner[i]?=some x):∃o m,HU n l x o m (pl++[(i:Int)]):=by
 obtain⟨F,ok,a,r⟩:=h
 have mk:∀{x:Pt} {o:Bool} {m:Nat} {i:Int},(i=0\/i=1\/i=2)->x.depth+1<=p.depth->x.ok->Ty l x o m->HU n l x o m (pl++[i]):=λu C z s=>⟨by omega,z,s,r.lP u C⟩
 cases p with
 |given v=>cases e
 |named v=>cases e
 |turned x =>
  match i,e with
  | 0,h=>cases h;exact⟨_,_,mk (.inl rfl) (by simp only[Pt.depth];omega) ok a.2⟩
  |i+1,h=>cases h
 |pair g x y =>
  obtain⟨E,G,B,q⟩:=a
  match i,e with
  | 0,h=>cases h;exact⟨_,_,mk (.inl rfl) (by simp only[Pt.depth];omega) ok.2.1 B⟩
  | 1,h=>cases h;exact⟨_,_,mk (.inr (.inl rfl)) (by simp only[Pt.depth];omega) ok.2.2 q⟩
  |i+2,h=>cases h
 |choice c x y =>
  match i,e with
  | 0,h=>cases h;exact⟨_,_,mk (.inl rfl) (by simp only[Pt.depth];omega) ok.1 a.1⟩
  | 1,h=>cases h;exact⟨_,_,mk (.inr (.inl rfl)) (by simp only[Pt.depth];omega) ok.2.1 a.2.1⟩
  | 2,h=>cases h;exact⟨_,_,mk (.inr (.inr rfl)) (by simp only[Pt.depth];omega) ok.2.2 a.2.2⟩
  |i+3,h=>cases h
 |before x f =>
  match i,e with
  | 0,h=>cases h;exact⟨_,_,mk (.inl rfl) (by simp only[Pt.depth];omega) ok.1 a.1⟩
  |i+1,h=>cases h
 |led x y =>
  match i,e with
  | 0,h=>cases h;exact⟨_,_,mk (.inl rfl) (by simp only[Pt.depth];omega) ok.1 a.1⟩
  | 1,h=>cases h;exact⟨_,_,mk (.inr (.inl rfl)) (by simp only[Pt.depth];omega) ok.2 a.2⟩
  |i+2,h=>cases h
 |bY x y =>
  match i,e with
  | 0,h=>cases h;exact⟨_,_,mk (.inl rfl) (by simp only[Pt.depth];omega) ok.1 a.2.2⟩
  |i+1,h=>cases h
 |held x y f =>
  match i,e with
  | 0,h=>cases h;exact⟨_,_,mk (.inl rfl) (by simp only[Pt.depth];omega) ok.1 a.2.2.1⟩
  |i+1,h=>cases h
def HL(n:Nat):iW:=zl (Ic (Au (ao (gD qM (ao (au 0) bG)) bG)) (IK 2 (ur (hName 6) (ur (hName 7) II))) (B0 4 (gD (AI n) (ao (au 7) (ao (au 1) (ao (DT (au 2) (DZ (ao (au 6) bG))) (ao (gD jO (ao (au 3) (ao (DT (vC (.int 90)) (au 6)) bG))) bG))))))) (oB (vY (au 4)))
def DL{n:Nat}{l:List Str}{p:Pt}{B:Bool}{b:Nat}{pl:List Int}{a:Addr}{E:kL}{k x:D}{c:Int}{o:GM}(h:HU (n+1) l p B b pl)(w:Ow p pl o)(q:∀s,Mem p pl s->E.rt (.adr a) [(a,.dT s)]) :
  HL n E [some p.told,some k,some (uK pl),some (.int c),some (.adr a),some x,none,none] [(a,.dT o)]:=by
 have C:pl.length<=10:=by have:=h.rt.pc.dp;omega
 refine⟨_,rfl,p,rfl,h.ok,_,rfl,?_⟩
 refine⟨λi δ μ=>∃(y z:Option D) (f:GM),δ=[some p.told,some k,some (uK pl),some (.int c),some (.adr a),some x,y,z]/\μ=[(a,.dT f)]/\Acc p pl o i f,⟨none,none,_,rfl,rfl,.zero w⟩,?_,?_⟩
 ·rintro i dd δ μ e ⟨y,z,f,rfl,rfl,g⟩
  rw[jS,O7] at e
  cases hq:p.inner[i]? with
  |none=>rw[hq] at e;cases e
  |some t =>
   rw[hq] at e
   have r:D.tup [.int (i:Int),t.told]=dd:=by simpa using e
   subst r
   obtain⟨F,v,u⟩:=h.lP i t hq
   refine⟨_,rfl,rfl,_,_,rfl,_,_,rfl,rfl,a,f,rfl,bK _ _,g.ok.rJ,_,rfl,_,rfl,_,rfl,_,rfl,zL1,ar C,_,rfl,_,rfl,?_⟩
   refine⟨c,90+(i:Int),rfl,l,t,F,v,pl++[(i:Int)],k,_,by rw[<- i9],u,λs m=>⟨s,rfl,m.ok.rJ,m.ok.hash,?_,_,_,_,rfl,bu _ _ _,?_⟩⟩
   ·have h1:=g.ok.len
    have G:=m.ok.len
    exact PB (show f.length+s.length<=78 by omega) (by decide)
   ·rw[sj (g.apart m) m.ok.nd]
    exact g.step hq m
 ·rintro δ μ ⟨y,z,f,rfl,rfl,g⟩
  rw[jT,G'] at g
  exact⟨_,rfl,q f (g.done w)⟩
def sO{b:Bool}{A B:Prop}(x:A)(y:B):if b=true then A else B:=by cases b;exact y;exact x
def Ow.put{p:Pt}{pl:List Int}{v:D}(r:Rt pl p)(c:2<=p.depth)(b:isVal v)(k:match p with
  |.before _ f=>KV (vD f) v
  |.held _ _ f=>KV (vD f) v
  |_=>True):Ow p pl (mJ [] pl v):=by
 rw[kE (by intro g a;cases a),Rb]
 refine⟨λg a=>by rw[O6.mp a];exact⟨rfl,b⟩,⟨by simp,λg a=>by rw[O6.mp a];exact r.at_ c⟩,?_⟩
 have e:bh [(pl,v)] pl=some v:=by rw[fL,if_pos rfl]
 cases p with
 |before x f=>intro z hz;rw[e] at hz;cases hz;exact k
 |held x y f=>intro z hz;rw[e] at hz;cases hz;exact k
 |_=>trivial
def E4(c:o5 P w K mg base j "_law_memories" G0 (Jm n)):bL P w K mg base j "_law_memories" G0 (AI n):=by
 obtain⟨f,i,F,h⟩:=c.ex
 refine⟨⟨f,i,F.imp (DF LJ fun ds Q ⟨l,p,o,b,pl,k,c,e,h,q⟩=>⟨l,p,o,b,pl,k,c,e,h,λg m a=>?_⟩),h⟩,NO⟩
 show Q (cb [(a,MD.dT g)] (.adr a))
 simp only[cb,PV,beq_self_eq_true]
 exact q g m
def E5(d:Df K mg "_law_memories" cm G0)(G:mg "enumerate"=none)(L:mg "len"=none)(J:mg "int"=none)(F:mg "isinstance"=none)(I:mg "bool"=none)(B:bL P w K mg base j "_law_inner" ["_law_told"] qM)(r:bL P w K mg base j "_law_mixed" ["_law_cell","_law_k"] jO)(C:bL P w K mg base j "_law_value" ["_law_mix","_law_kind"] tT)(u:bL P w K mg base j "_law_memories" G0 (AI n)) :
  o5 P w K mg base (j+1) "_law_memories" G0 (Jm (n+1)):=by
 refine d.Kf gb LJ (fun ds Q ⟨l,p,W,b,pl,k,c,e,_⟩=>by rw[e];rfl) (λf X A R s H E M=>have N:=M.units;have hh:=M.hd;have O:=gb
  (aY (mF (i:=4) O.nd rfl (PN rfl) Gn)
 (aY (bp (bA (i:=5) O.nd rfl (PN rfl) (cM (aN r M (by omega) (by rfl) (aA (dv 3) (aA (aj aC (lz (by rfl) L (aA (dv 2) aD))) aD))) aC)))
 (aY (i6 (o_.td (w_and (GF (aU (dv 0) aC (λ_ _=>rfl)) (aa (bg (by rfl))) (by rfl)) (jR (GC (ba (dv 5) aC) aC)))) (bc (gw (i:=4) N rfl (PN rfl) (dv 2) (aN C M (by omega) (by rfl) (aA (dv 5) (aA (aU (cC (bg (by rfl))) (gP (by rfl) J (aA (gR (by rfl) F (by rfl) I (aU (dv 0) (Gg aC) (λ_ _=>rfl))) aD)) (λ_ _=>rfl)) aD))))) fR)
 (aY (i6 (o_.td (w_and (bx N (aU (dv 0) aC (λ_ _=>rfl)) aZ) (jR (bx N (ba (dv 5) aC) aC)))) (bc (gw (i:=4) N rfl (PN rfl) (dv 2) pG)) fR)
 (aY (pz Q2 rfl (Bf (by rfl) G (aA (aN B M (by omega) (by rfl) (aA (dv 0) aD)) aD)) (Ba (n:=2) rfl (jU (gu (i:=6) O.nd rfl (PN rfl)) (jU (gu (i:=7) O.nd rfl (PN rfl)) wg))) (bc (yS (n:=4) N rfl (PN rfl) (aN u M (by omega) (by rfl) (aA (dv 7) (aA (dv 1) (aA (aj (dv 2) (aa (aA (dv 6) aD))) (aA (aN r M (by omega) (by rfl) (aA (dv 3) (aA (aj aC (dv 6)) aD))) aD))))) ⟨by rfl,by rfl,by rfl,by rfl⟩)))
 (bc (bp (aJ (dv 4)))))))))) ?_
 rintro ds Q ⟨l,p,W,b,pl,k,c,rfl,h,q⟩
 intro a _
 have t:∀o x,Ow p pl o->HL n { nx:=λ_ μ=>Q .ah μ,rt:=Q } _ _:=λo x w=>DL (k:=k) (x:=x) (c:=c) (a:=a) h w λY m=>q Y m a
 refine⟨_,rfl,_,rfl,_,_,rfl,rfl,c,_,rfl,cd (by decide) (by decide),?_⟩
 cases p with
 |given v =>
  exact⟨_,rfl,_,rfl,zL2,rfl,rfl,false,congrArg D.bl (show inD (.str "given") [.str "before",.str "held"]=false by decide +kernel),aF (aF ⟨_,rfl,_,rfl,false,congrArg D.bl (by decide +kernel),aF (aF (t [] _ (.nil _ _)))⟩)⟩
 |named x =>
  exact⟨_,rfl,_,rfl,zL2,rfl,rfl,false,congrArg D.bl (show inD (.str "named") [.str "before",.str "held"]=false by decide +kernel),aF (aF ⟨_,rfl,_,rfl,false,congrArg D.bl (by decide +kernel),aF (aF (t [] _ (.nil _ _)))⟩)⟩
 |turned x =>
  exact⟨_,rfl,_,rfl,zL2,rfl,rfl,false,congrArg D.bl (show inD (.str "not") [.str "before",.str "held"]=false by decide +kernel),aF (aF ⟨_,rfl,_,rfl,false,congrArg D.bl (by decide +kernel),aF (aF (t [] _ (.nil _ _)))⟩)⟩
 |choice z x y =>
  exact⟨_,rfl,_,rfl,zL2,rfl,rfl,false,congrArg D.bl (show inD (.str "if") [.str "before",.str "held"]=false by decide +kernel),aF (aF ⟨_,rfl,_,rfl,false,congrArg D.bl (by decide +kernel),aF (aF (t [] _ (.nil _ _)))⟩)⟩
 |bY x y =>
  exact⟨_,rfl,_,rfl,zL2,rfl,rfl,false,congrArg D.bl (show inD (.str "when") [.str "before",.str "held"]=false by decide +kernel),aF (aF ⟨_,rfl,_,rfl,false,congrArg D.bl (by decide +kernel),aF (aF (t [] _ (.nil _ _)))⟩)⟩
 |pair g x y =>
  obtain⟨kw,T,t1,Z⟩:=id h.ty
  exact⟨_,rfl,_,rfl,zL2,rfl,rfl,false,congrArg D.bl (C_ T),aF (aF ⟨_,rfl,_,rfl,false,congrArg D.bl (iU T _ (by simp)),aF (aF (t [] _ (.nil _ _)))⟩)⟩
 |before x f =>
  refine⟨_,rfl,_,rfl,zL2,rfl,rfl,true,congrArg D.bl (show inD (.str "before") [.str "before",.str "held"]=true by decide +kernel),aS ⟨_,rfl,iP3,_,rfl,?_⟩⟩
  obtain⟨S,U⟩:=h.ty.2
  refine sO ?_ ⟨_,rfl,_,rfl,false,congrArg D.bl (by decide +kernel),aF (aF (t [] _ (.nil _ _)))⟩
  rcases id S with⟨z,rfl⟩|⟨z,rfl,hz⟩
  ·refine⟨_,rfl,zL2,_,rfl,_,rfl,_,rfl,true,rfl,.inr ⟨_,rfl,_,rfl,_,true,rfl,a,[],rfl,bK _ _,by decide,_,rfl,pl,rfl,fh h.rt.pc.ok,?_⟩⟩
   rw[Pf,bu]
   exact⟨_,rfl,_,rfl,false,congrArg D.bl (by decide +kernel),aF (aF (t _ _ (Ow.put h.rt (by have:=x.bO;simp only[Pt.depth];omega) (bz _ _).1 (bz _ _))))⟩
  ·refine⟨_,rfl,zL2,_,rfl,_,rfl,_,rfl,false,rfl,.inr ⟨_,rfl,_,rfl,_,false,rfl,a,[],rfl,bK _ _,by decide,_,rfl,pl,rfl,fh h.rt.pc.ok,?_⟩⟩
   rw[Pf,bu]
   exact⟨_,rfl,_,rfl,false,congrArg D.bl (by decide +kernel),aF (aF (t _ _ (Ow.put h.rt (by have:=x.bO;simp only[Pt.depth];omega) (bz _ _).1 (bz _ _))))⟩
 |held x y f =>
  refine⟨_,rfl,_,rfl,zL2,rfl,rfl,true,congrArg D.bl (show inD (.str "held") [.str "before",.str "held"]=true by decide +kernel),aS ⟨_,rfl,iP3,_,rfl,?_⟩⟩
  obtain⟨S,U⟩:=h.ty.2.2.2
  refine sO ?_ ⟨_,rfl,_,rfl,false,congrArg D.bl (by decide +kernel),aF (aF (t [] _ (.nil _ _)))⟩
  rcases id S with⟨z,rfl⟩|⟨z,rfl,hz⟩
  ·refine⟨_,rfl,zL2,_,rfl,_,rfl,_,rfl,true,rfl,.inr ⟨_,rfl,_,rfl,_,true,rfl,a,[],rfl,bK _ _,by decide,_,rfl,pl,rfl,fh h.rt.pc.ok,?_⟩⟩
   rw[Pf,bu]
   exact⟨_,rfl,_,rfl,false,congrArg D.bl (by decide +kernel),aF (aF (t _ _ (Ow.put h.rt (by have:=x.bO;simp only[Pt.depth];omega) (bz _ _).1 (bz _ _))))⟩
  ·refine⟨_,rfl,zL2,_,rfl,_,rfl,_,rfl,false,rfl,.inr ⟨_,rfl,_,rfl,_,false,rfl,a,[],rfl,bK _ _,by decide,_,rfl,pl,rfl,fh h.rt.pc.ok,?_⟩⟩
   rw[Pf,bu]
   exact⟨_,rfl,_,rfl,false,congrArg D.bl (by decide +kernel),aF (aF (t _ _ (Ow.put h.rt (by have:=x.bO;simp only[Pt.depth];omega) (bz _ _).1 (bz _ _))))⟩
 |led x y =>
  refine⟨_,rfl,_,rfl,zL2,rfl,rfl,false,congrArg D.bl (show inD (.str "then") [.str "before",.str "held"]=false by decide +kernel),aF (aF ⟨_,rfl,_,rfl,true,congrArg D.bl (by decide +kernel),aS ⟨_,rfl,iP2,_,rfl,?_⟩⟩)⟩
  refine sO ?_ (t [] _ (.nil _ _))
  refine⟨a,[],rfl,bK _ _,by decide,_,rfl,pl,rfl,fh h.rt.pc.ok,?_⟩
  rw[Pf,bu]
  exact t _ _ (Ow.put h.rt (by have:=x.bO;simp only[Pt.depth];omega) (.inl ⟨true,rfl⟩) trivial)
def B8(d:Df K mg "_law_memories" cm G0)(e:mg "enumerate"=none)(i:mg "len"=none)(g:mg "int"=none)(a:mg "isinstance"=none)(f:mg "bool"=none)(o:bL P w K mg base 1 "_law_inner" ["_law_told"] qM)(m:bL P w K mg base 1 "_law_mixed" ["_law_cell","_law_k"] jO)(q:bL P w K mg base 2 "_law_value" ["_law_mix","_law_kind"] tT) :
  ∀n,bL P w K mg base (n+2) "_law_memories" G0 (AI n)
 | 0=>Df.never d fun ds Q ⟨l,p,r,b,pl,k,c,_,h,_⟩=>absurd p.bO (by have:=h.dp;omega)
 |n+1=>E4 (E5 d e i g a f (o.up (by omega)) (m.up (by omega)) (q.up (by omega)) (B8 d e i g a f o m q n))
def vi{α:Type}(f:α->List Nat):∀{xs ys:List α},xs.Perm ys->xs.Pairwise (λx y=>¬ f y<f x)->ys.Pairwise (λx y=>¬ f y<f x)->(∀x∈xs,∀y∈xs,f x=f y->x=y)->xs=ys
 |[],ys,p,_,_,_=>(List.nil_perm.mp p).symm
 |a::xs,ys,p,h1,h,inj=>by
  cases ys with
  |nil=>exact absurd p.length_eq (by simp)
  |cons b ys =>
   have s:a∈b::ys:=p.mem_iff.mp D'
   have i:b∈a::xs:=p.mem_iff.mpr D'
   have e:a=b:=by
    rcases B'.mp s with e|c
    ·exact e
    ·rcases B'.mp i with e|g
     ·exact e.symm
     ·have l:=(Rj.mp h1).1 b g
      have m:=(Rj.mp h).1 a c
      refine inj a D' b i ?_
      exact List.le_antisymm (RX.mp l) (RX.mp m)
   subst e
   have q:=vi f (Xe p) (Rj.mp h1).2 (Rj.mp h).2 λx o y r=>inj x (O5 _ o) y (O5 _ r)
   rw[q]
def PX:List (List Int):=xK::PL
def J4(k:List Int):List Nat:=(("(":Str)++(HA k).shown++(", ":Str)).cps.toList
def AK(a b:PyData):(PyData.tuple [a,b]).shown=("(":Str)++(a.shown++(", ":Str)++b.shown)++(")":Str):=by
 rw[VP,TB,TB,TB]
 rfl
def xh(g:List Int × D):(nX g).cps.toList=J4 g.1++((Cp g.2).shown++(")":Str)).cps.toList:=by
 unfold nX Dr J4
 rw[AK]
 simp only[bR,Ph]
def vv:∀a∈PX,∀b∈PX,(J4 a).isPrefixOf (J4 b)=true->a=b:=by decide +kernel
def J5{g h:List Int × D}(b:g.1∈PX)(a:h.1∈PX)(e:(nX g).cps.toList=(nX h).cps.toList):g.1=h.1:=by
 rw[xh,xh] at e
 rcases List.prefix_or_prefix_of_prefix (So (J4 g.1) _) (show J4 h.1 <+: _ by rw[e];exact So _ _) with z|z
 ·exact vv _ b _ a (Tu.mpr z)
 ·exact(vv _ a _ b (Tu.mpr z)).symm
def Ei:∀a∈PX,(HA a).showable=true/\(J4 a).length<=40:=by decide +kernel
def EZ:∀n:Fin 256,((Si ((n.val:Int) - 128)).shown).length<=10:=by decide +kernel
def yr{v:D}(h:isVal v):bo v=true/\(Cp v).showable=true/\(Cp v).shown.length<=10:=by
 rcases h with⟨b,rfl⟩|⟨i,rfl,h1,a⟩
 ·refine⟨rfl,by rw[Cp,TC],?_⟩
  rw[Cp,VP]
  cases b<;>decide
 ·refine⟨rfl,?_,?_⟩
  ·rw[Cp,TC]
   exact decide_eq_true (Pg (Nat.log2_le_self _) (by omega))
  ·have:=EZ ⟨(i+128).toNat,by omega⟩
   have e:(((i+128).toNat:Nat):Int) - 128=i:=by omega
   simp only[e] at this
   exact this
def DA{g:List Int × D}(c:g.1∈PX)(h:isVal g.2):Mb g:=by
 obtain⟨f,i⟩:=Ei _ c
 obtain⟨a,b,l⟩:=yr h
 refine⟨a,?_,?_⟩
 ·unfold Dr
  rw[TC,Sh,Sh,Sh,f,b]
  rfl
 ·show(nX g).length<=sizeLine
  rw[kC,xh,O4,bR,O4,<- kC,<- kC]
  have e:(")":Str).length=1:=by decide
  rw[e]
  exact PB (show _<=51 by omega) (by decide)
def Cv{T c l:GM}{k:Int}(h:og T)(m:c.Perm ((xK,.int k)::T))(r:l.Perm (T++[(xK,.int k)]))(t:c.Pairwise λx y=>¬ (nX y).cps.toList<(nX x).cps.toList)(C:l.Pairwise λx y=>¬ (nX y).cps.toList<(nX x).cps.toList):c=l:=by
 have o:∀g∈c,g.1∈PX:=λg f=>by
  rcases B'.mp (m.mem_iff.mp f) with e|e
  ·rw[e];exact D'
  ·exact O5 _ (h.sub g e)
 have s:(c.map (·.1)).Nodup:=by
  refine(m.map (·.1)).nodup_iff.mpr ?_
  rw[O1,QK]
  refine⟨λz=>?_,h.nd⟩
  obtain⟨g,f,e⟩:=O_.mp z
  exact GY _ (h.sub g f) e
 refine vi (λg=>(nX g).cps.toList) (m.trans ((UT (l₁:=[(xK,D.int k)]) (l₂:=T)).trans r.symm)) t C λx a y b e=>?_
 have q:=J5 (o x a) (o y b) e
 obtain⟨i,u⟩:=SS.mp a
 obtain⟨j,B⟩:=SS.mp b
 obtain⟨v,F⟩:=x
 obtain⟨p,E⟩:=y
 cases(show v=p from q)
 rw[xH s u B]
def xa(b:cq K A)(d:Dm K A.given "told" "Given.told" el ["self"]):b_ P w K mg base (j+1) A.given "told" (ou A (n+1) Pt.told A.given) []:=by
 refine d.c_ kZ lh q9 (λf h A a s H E e=>have o:=e.units;have l:=e.hd;have m:=kZ
  (aE (aJ (aa (aA aZ (aA (aT K rfl (dv 0) (by rfl)) aD)))))) ?_
 rintro ds Q ⟨p,rfl,i,r,q⟩
 have c:=b.cl _ (Pt.aq A p)
 have g:=b.d0 _ (Pt.aq A p)
 obtain⟨v,rfl⟩:=mC b i
 exact aM rfl c (g _ (by decide)) (by kernel_rfl) ⟨zL2,q⟩
def vt(h:cq K A)(d:Dm K A.turned "told" "Turned.told" eD ["self"])(b:MP P w K mg base A j "told" n Pt.told):b_ P w K mg base (j+1) A.turned "told" (ou A (n+1) Pt.told A.turned) []:=by
 refine d.c_ jL lh q9 (λf l A e s H E g=>have u:=g.units;have r:=g.hd;have t:=jL
  (aE (aJ (aa (aA aZ (aA (eJ b g (by omega) (aT K rfl (dv 0) (by rfl))) aD)))))) ?_
 rintro ds Q ⟨p,rfl,o,m,q⟩
 have c:=h.cl _ (Pt.aq A p)
 have i:=h.d0 _ (Pt.aq A p)
 obtain⟨a,rfl⟩:=j_ h o
 exact bQ i3 cJ (aM rfl c (i _ (by decide)) (by kernel_rfl) rfl) (by simp only[Pt.depth] at m;omega) ⟨zL2,q⟩
def AU(m:cq K A)(d:Dm K A.pair "told" "Pair.told" ft ["self"])(e:MP P w K mg base A j "told" n Pt.told):b_ P w K mg base (j+1) A.pair "told" (ou A (n+1) Pt.told A.pair) []:=by
 refine d.c_ mS lh q9 (λf o A i s H E h=>have x:=h.units;have u:=h.hd;have v:=mS
  (aE (aJ (aa (aA (aT K rfl (dv 0) (by rfl)) (aA (eJ e h (by omega) (aT K rfl (dv 0) (by rfl))) (aA (eJ e h (by omega) (aT K rfl (dv 0) (by rfl))) aD))))))) ?_
 rintro ds Q ⟨p,rfl,t,r,q⟩
 have c:=m.cl _ (Pt.aq A p)
 have l:=m.d0 _ (Pt.aq A p)
 obtain⟨g,a,b,rfl⟩:=om m t
 simp only[Pt.depth] at r
 exact aM rfl c (l _ (by decide)) (by kernel_rfl) (bQ i3 cJ (aM rfl c (l _ (by decide)) (by kernel_rfl) rfl) (by omega)
  (bQ i3 cJ (aM rfl c (l _ (by decide)) (by kernel_rfl) rfl) (by omega) ⟨zL3,q⟩))
def xb(b:cq K A)(d:Dm K A.named "told" "Named.told" e_ ["self"]):b_ P w K mg base (j+1) A.named "told" (ou A (n+1) Pt.told A.named) []:=by
 refine d.c_ kg lh q9 (λf h A a s H E e=>have r:=e.units;have m:=e.hd;have o:=kg
  (aE (aJ (aa (aA aZ (aA (aT K rfl (dv 0) (by rfl)) aD)))))) ?_
 rintro ds Q ⟨p,rfl,l,i,q⟩
 have c:=b.cl _ (Pt.aq A p)
 have g:=b.d0 _ (Pt.aq A p)
 obtain⟨s,rfl⟩:=mD b l
 simp only[Pt.depth] at i
 exact(aM rfl c (g _ (by decide)) (by kernel_rfl) ⟨zL2,q⟩)
def vq(h:cq K A)(d:Dm K A.choice "told" "Choice.told" eA ["self"])(a:MP P w K mg base A j "told" n Pt.told):b_ P w K mg base (j+1) A.choice "told" (ou A (n+1) Pt.told A.choice) []:=by
 refine d.c_ jI lh q9 (λf i A e s H E b=>have t:=b.units;have o:=b.hd;have r:=jI
  (aE (aJ (aa (aA aZ (aA (eJ a b (by omega) (aT K rfl (dv 0) (by rfl))) (aA (eJ a b (by omega) (aT K rfl (dv 0) (by rfl))) (aA (eJ a b (by omega) (aT K rfl (dv 0) (by rfl))) aD)))))))) ?_
 rintro ds Q ⟨p,rfl,m,l,q⟩
 have c:=h.cl _ (Pt.aq A p)
 have g:=h.d0 _ (Pt.aq A p)
 obtain⟨x,y,z,rfl⟩:=jZ h m
 simp only[Pt.depth] at l
 exact(bQ i3 cJ (aM rfl c (g _ (by decide)) (by kernel_rfl) rfl) (by omega) (bQ i3 cJ (aM rfl c (g _ (by decide)) (by kernel_rfl) rfl) (by omega) (bQ i3 cJ (aM rfl c (g _ (by decide)) (by kernel_rfl) rfl) (by omega) ⟨zL4,q⟩)))
def vp(h:cq K A)(d:Dm K A.before "told" "Before.told" d_ ["self"])(b:MP P w K mg base A j "told" n Pt.told):b_ P w K mg base (j+1) A.before "told" (ou A (n+1) Pt.told A.before) []:=by
 refine d.c_ jH lh q9 (λf l A e s H E g=>have u:=g.units;have r:=g.hd;have t:=jH
  (aE (aJ (aa (aA aZ (aA (eJ b g (by omega) (aT K rfl (dv 0) (by rfl))) (aA (aT K rfl (dv 0) (by rfl)) aD))))))) ?_
 rintro ds Q ⟨p,rfl,o,m,q⟩
 have c:=h.cl _ (Pt.aq A p)
 have i:=h.d0 _ (Pt.aq A p)
 obtain⟨a,f,rfl⟩:=jY h o
 simp only[Pt.depth] at m
 exact(bQ i3 cJ (aM rfl c (i _ (by decide)) (by kernel_rfl) rfl) (by omega) (aM rfl c (i _ (by decide)) (by kernel_rfl) ⟨zL3,q⟩))
def DO(g:cq K A)(d:Dm K A.led "told" "Led.told" hX ["self"])(a:MP P w K mg base A j "told" n Pt.told):b_ P w K mg base (j+1) A.led "told" (ou A (n+1) Pt.told A.led) []:=by
 refine d.c_ oK lh q9 (λf i A e s H E b=>have t:=b.units;have o:=b.hd;have r:=oK
  (aE (aJ (aa (aA aZ (aA (eJ a b (by omega) (aT K rfl (dv 0) (by rfl))) (aA (eJ a b (by omega) (aT K rfl (dv 0) (by rfl))) aD))))))) ?_
 rintro ds Q ⟨p,rfl,m,l,q⟩
 have c:=g.cl _ (Pt.aq A p)
 have h:=g.d0 _ (Pt.aq A p)
 obtain⟨x,y,rfl⟩:=sM g m
 simp only[Pt.depth] at l
 exact(bQ i3 cJ (aM rfl c (h _ (by decide)) (by kernel_rfl) rfl) (by omega) (bQ i3 cJ (aM rfl c (h _ (by decide)) (by kernel_rfl) rfl) (by omega) ⟨zL3,q⟩))
def DQ(h:cq K A)(d:Dm K A.bY "told" "When.told" fz ["self"])(b:MP P w K mg base A j "told" n Pt.told):b_ P w K mg base (j+1) A.bY "told" (ou A (n+1) Pt.told A.bY) []:=by
 refine d.c_ mY lh q9 (λf l A e s H E g=>have u:=g.units;have r:=g.hd;have t:=mY
  (aE (aJ (aa (aA aZ (aA (eJ b g (by omega) (aT K rfl (dv 0) (by rfl))) (aA (aT K rfl (dv 0) (by rfl)) aD))))))) ?_
 rintro ds Q ⟨p,rfl,o,m,q⟩
 have c:=h.cl _ (Pt.aq A p)
 have i:=h.d0 _ (Pt.aq A p)
 obtain⟨a,s,rfl⟩:=sN h o
 simp only[Pt.depth] at m
 exact(bQ i3 cJ (aM rfl c (i _ (by decide)) (by kernel_rfl) rfl) (by omega) (aM rfl c (i _ (by decide)) (by kernel_rfl) ⟨zL3,q⟩))
def AS(i:cq K A)(d:Dm K A.held "told" "Held.told" fk ["self"])(b:MP P w K mg base A j "told" n Pt.told):b_ P w K mg base (j+1) A.held "told" (ou A (n+1) Pt.told A.held) []:=by
 refine d.c_ mP lh q9 (λf l A e s H E g=>have u:=g.units;have r:=g.hd;have t:=mP
  (aE (aJ (aa (aA aZ (aA (eJ b g (by omega) (aT K rfl (dv 0) (by rfl))) (aA (aT K rfl (dv 0) (by rfl)) (aA (aT K rfl (dv 0) (by rfl)) aD)))))))) ?_
 rintro ds Q ⟨p,rfl,o,m,q⟩
 have c:=i.cl _ (Pt.aq A p)
 have h:=i.d0 _ (Pt.aq A p)
 obtain⟨a,s,f,rfl⟩:=oj i o
 simp only[Pt.depth] at m
 exact(bQ i3 cJ (aM rfl c (h _ (by decide)) (by kernel_rfl) rfl) (by omega) (aM rfl c (h _ (by decide)) (by kernel_rfl) (aM rfl c (h _ (by decide)) (by kernel_rfl) ⟨zL4,q⟩)))
structure GW (K:j') (A:bq):Prop where
 given:Dm K A.given "told" "Given.told" el ["self"]
 named:Dm K A.named "told" "Named.told" e_ ["self"]
 turned:Dm K A.turned "told" "Turned.told" eD ["self"]
 pair:Dm K A.pair "told" "Pair.told" ft ["self"]
 choice:Dm K A.choice "told" "Choice.told" eA ["self"]
 before:Dm K A.before "told" "Before.told" d_ ["self"]
 led:Dm K A.led "told" "Led.told" hX ["self"]
 bY:Dm K A.bY "told" "When.told" fz ["self"]
 held:Dm K A.held "told" "Held.told" fk ["self"]
def vo(a:cq K A)(d:GW K A):∀n,MP P w K mg base A n "told" n Pt.told
 | 0=>fun C ⟨p,e⟩=>by
  subst e
  cases p
  ·exact Dm.never d.given lh gK
  ·exact Dm.never d.named lh gK
  ·exact Dm.never d.turned lh gK
  ·exact Dm.never d.pair lh gK
  ·exact Dm.never d.choice lh gK
  ·exact Dm.never d.before lh gK
  ·exact Dm.never d.led lh gK
  ·exact Dm.never d.bY lh gK
  ·exact Dm.never d.held lh gK
 |n+1=>fun C ⟨p,e⟩=>by
  have b:=vo a d n
  subst e
  cases p
  ·exact xa a d.given
  ·exact xb a d.named
  ·exact vt a d.turned b
  ·exact AU a d.pair b
  ·exact vq a d.choice b
  ·exact vp a d.before b
  ·exact DO a d.led b
  ·exact DQ a d.bY b
  ·exact AS a d.held b
end
def KV.vl{a:Bool}{v:D}(h:KV a v):isVal v:=h.1
def tE{c:Bool}{pl:List Int}{v:D}(h:c=true->isVal v):∀g∈own c pl v,isVal g.2:=λg a=>by
 cases c with
 |true=>rw[fT a];exact h rfl
 |false=>rw[p8] at a;cases a
def eP{l:List Str}{j:cf}{m:GM}(E:GN l j):∀{p:Pt} {i:Bool} {b:Nat} {pl:List Int},b<=2->Ty l p i b->fK m p pl->∀g∈kl j m p (bj l j b) pl,isVal g.2
 |.given _,i,b,pl,a,T,k,g,h=>nomatch h
 |.named _,i,b,pl,a,T,k,g,h=>nomatch h
 |.turned p,i,b,pl,a,T,k,g,h=>eP E (p:=p) a T.2 k g h
 |.pair _ p q,i,b,pl,a,T,k,g,h=>by
  obtain⟨s,_,r,o⟩:=T
  exact(O3.mp h).elim (eP E (p:=p) a r k.1 g) (eP E (p:=q) a o k.2 g)
 |.choice z p q,i,b,pl,a,T,k,g,h=>(O3.mp h).elim (eP E (p:=z) a T.1 k.1 g) λh=>(O3.mp h).elim (eP E (p:=p) a T.2.1 k.2.1 g) (eP E (p:=q) a T.2.2 k.2.2 g)
 |.before p f,i,b,pl,a,T,k,g,h=>(O3.mp h).elim (tE (λc=>(bT E a T.1 c k.2).vl) g) (eP E (p:=p) a T.1 k.2 g)
 |.led p q,i,b,pl,a,T,k,g,h=>(O3.mp h).elim (tE (λc=>.inl ⟨true,rfl⟩) g) λh=>(O3.mp h).elim (eP E (p:=p) a T.1 k.1 g) (eP E (p:=q) a T.2 k.2 g)
 |.bY p x,i,b,pl,a,T,k,g,h=>by
  obtain⟨h1,rfl,n⟩:=T
  have e:(look j (iZ l (b - 1))).isSome=bj l j (b - 1):=by unfold bj LV;rw[if_neg (by omega)]
  unfold kl at h
  rw[e] at h
  exact eP E (p:=p) (by omega) n k g h
 |.held p x f,i,b,pl,a,T,k,g,h=>by
  obtain⟨h1,rfl,n,_⟩:=T
  unfold kl at h
  rw[<- E.up b h1] at h
  exact(O3.mp h).elim (tE (λc=>(bT E (b:=b+1) (by omega) n c k.2).vl) g) (eP E (p:=p) (b:=b+1) (by omega) n k.2 g)
def vz{v:D}(h:isVal v):bo v=true:=(yr h).1
def AE{w:cf}{k:Key}{d:D}(h:∀b∈w,isVal b.2)(c:isVal d):∀b∈eM w k d,isVal b.2:=λb a=>by
 unfold eM at a
 split at a
 ·obtain⟨x,e,rfl⟩:=O_.mp a
  split
  ·exact c
  ·exact h x e
 ·rcases O3.mp a with z|z
  ·exact h b z
  ·rw[O6.mp z];exact c
def fi{l:List Str}{w:cf}{i:Nat}{c k:Int}{a:Bool}(h:∀kv∈w,isVal kv.2):∀kv∈put l w i c k a,isVal kv.2:=AE h (bz _ _).1
def DG(c:Int)(l:List Str):∀a∈d6 c l,isVal a.2:=by
 have f:∀a∈([]:cf),isVal a.2:=by intro a h;cases h
 have b:∀a∈w4 c l,isVal a.2:=fi (fi (fi (fi f)))
 have e:∀a∈w6 c l,isVal a.2:=fi (fi b)
 unfold d6
 split
 ·split
  ·exact fi (fi e)
  ·exact e
 ·exact b
def F4(M:GM):∃S:GM,S.Perm M/\S.Pairwise λx y=>¬ (nX y).cps.toList<(nX x).cps.toList:=by
 refine⟨M.mergeSort λx y=>!decide ((nX y).cps.toList<(nX x).cps.toList),List.mergeSort_perm _ _,?_⟩
 refine WV (fun{a b} h=>?_) (List.pairwise_mergeSort (λa b c h1 e=>?_) (λa b=>?_) M)
 ·simpa using h
 ·simp only[U5,decide_eq_false_iff_not] at h1 e ⊢
  exact RX.mpr (List.le_trans (RX.mp h1) (RX.mp e))
 ·simp only[Bool.or_eq_true,U5,decide_eq_false_iff_not]
  rcases List.le_total (nX a).cps.toList (nX b).cps.toList with z|z
  ·exact .inl (RX.mpr z)
  ·exact .inr (RX.mpr z)
def Lz:cU:=λds Q=>∃a:List Int,ds=[.lst (a.map D.int)]/\Q (.bl true)
def rS(μ:Mu)(p:Pt):cb μ p.told=p.told:=by cases p<;>rfl
def rH(A:bq)(μ:Mu)(p:Pt):cb μ (p.d A)=p.d A:=by cases p<;>rfl
def HE(A:bq):kQ:=Cq (Cr 14 (qR [] (Av (DW (ao (au 12) (ao (au 13) bG)))) GL (DX (au 0))))
 (Cq (KU (Ny (J7 (uC (gD (iE 6) (ao (DV (au 14) (vC (D.int 0))) (ao (DV (au 14) (vC (D.int 1))) bG))))) (cZ (mz zP (au 11) (DW (ao (au 7) (ao (au 9) bG)))))) (vY (vC (D.bl false))) rM)
 (Cq (KU (uC (au 10)) (Cq (Cr 15 (lF (u6 A) "worth" (xU A 4) [] (au 5) (ao (DV (au 11) (vC (D.int 0))) (ao (DV (au 11) (vC (D.int 1))) (ao (au 8) bG)))))
   (KU (J7 (uC (gD (iE 6) (ao (au 15) (ao (gD (tR 4) (ao (au 4) (ao (au 7) (ao (au 9) (ao (au 8) bG))))) bG))))) (vY (vC (D.bl false))) rM)) rM)
 (KU (cZ (mz zP (au 11) (DW (ao (au 7) (ao (au 9) bG))))) (vY (vC (D.bl false))) rM)))
def IA(A:bq)(p:Pt)(is:List Int)(c:Int)(l:List Str)(b:Nat)(k:Int)(h:cf)(r:List Int)(m:GM)(z:Bool)(a e g f:Option D):SD :=
 [some (.lst (is.map D.int)),some (.int c),some (.lst (l.map D.str)),some (.int (b:Int)),some p.told,some (p.d A),some (.int k),some (.dK h),some (uK r),some (.dT m),some (.bl z),some (.lst [.dK h,.dT m]),a,e,g,f]
def Dc{A:bq}{p:Pt}{is:List Int}{c:Int}{l:List Str}{b:Nat}{k:Int}{h:cf}{r:List Int}{m X Y:GM}{z:Bool}{g f:Option D}{a e:Addr}(ne:e≠a):dD [(e,MD.dT Y),(a,MD.dT X)] (IA A p is c l b k h r m z (some (.adr a)) (some (.adr e)) g f)
  = IA A p is c l b k h r m z (some (.dT X)) (some (.dT Y)) (g.map (cb [(e,MD.dT Y),(a,MD.dT X)])) (f.map (cb [(e,MD.dT Y),(a,MD.dT X)])):=by
 have j:cb [(e,MD.dT Y),(a,MD.dT X)] (.adr a)=.dT X:=by
  show(R9 MD.d (QV a [(e,MD.dT Y),(a,MD.dT X)])).getD (D.adr a)=.dT X
  rw[PV,show(a == e)=false from beq_eq_false_iff_ne.mpr (QS ne),PV,beq_self_eq_true]
  rfl
 have i:cb [(e,MD.dT Y),(a,MD.dT X)] (.adr e)=.dT Y:=by
  show(R9 MD.d (QV e [(e,MD.dT Y),(a,MD.dT X)])).getD (D.adr e)=.dT Y
  rw[PV,beq_self_eq_true]
  rfl
 unfold dD IA
 simp only[O1,QC,Uz]
 rw[rS,rH,j,i]
 rfl
def Jq{n:Nat}{i:Int}:DD n (.int i):=by cases n<;>trivial
def vh{v:D}{n:Nat}(h:isVal v):DD n v:=tX (.inr h)
def F1{g:List Int × D}(b:g.1.length<1000)(c:isVal g.2):DD 2 (zb g):=by
 refine⟨(show 2<1000 by decide),λx a=>?_⟩
 simp only[B',C',or_false] at a
 rcases a with rfl|rfl
 ·unfold Bo
  split
  ·exact d5
  ·refine⟨by rw[G'];exact b,λx a=>?_⟩
   obtain⟨i,_,rfl⟩:=O_.mp a
   exact Jq
 ·exact vh c
def HX:∀a∈PX,a.length<1000:=by decide +kernel
def B_{a b:Addr}{x y:MD}:QV b ([(b,x)]++[(a,y)])=some x:=by
 rw[Q4,PV,beq_self_eq_true]
def E8{a b:Addr}{x y z:MD}(h:b≠a):oZ b z [(b,x),(a,y)]=[(b,z),(a,y)]:=by
 unfold oZ
 simp[QS h]
def Fo{A:bq}{E:o7}{p:Pt}{is:List Int}{c:Int}{l:List Str}{I:Bool}{b:Nat}{k:Int}{a:cf}{r:List Int}{m T:GM}{s q:Option D}(h:Dw 4 l a p I b r m)(hm:Mem p r m)(O:∀B∈a,isVal B.2)(hT:T=kl a m p (bj l a b) r)(W:isVal (.int k))
  (Z:∀s q,E.nx (IA A p is c l b k a r m (bj l a b) (some (.dT ((xK,.int k)::T))) (some (.dT (T++[(xK,.int k)]))) s q)):HE A E (IA A p is c l b k a r m (bj l a b) (some (.dT ((xK,.int k)::T))) (some (.dT (T++[(xK,.int k)]))) s q):=by
 have P:og T:=by rw[hT];exact Bq h.rt
 have vT:∀g∈T,isVal g.2:=by rw[hT];exact eP h.gn h.hb h.ty h.me
 obtain⟨S,N,sS⟩:=F4 ((xK,.int k)::T)
 have f:∀g∈(xK,D.int k)::T,g.1∈PX/\isVal g.2:=λg j=>by
  rcases B'.mp j with e|e
  ·rw[e];exact⟨D',W⟩
  ·exact⟨O5 _ (P.sub g e),vT g e⟩
 have pc:(T++[(xK,D.int k)]).Perm ((xK,D.int k)::T):=UT
 have Q:((xK,D.int k)::T).length<=40:=by have:=P.len;rw[Pb];omega
 have w:∀{M:GM},M.Perm ((xK,D.int k)::T)->∀{u:GM},u.Perm M->u.Pairwise (λx y=>¬ (nX y).cps.toList<(nX x).cps.toList)->u=S:=λhM u H z=>Cv P (H.trans hM) (N.trans pc.symm) z sS
 have L:DD 3 (.lst (S.map zb)):=by
  refine⟨by rw[G',N.length_eq];omega,λx hx=>?_⟩
  obtain⟨g,j,rfl⟩:=O_.mp hx
  have:=f g (N.mem_iff.mp j)
  exact F1 (HX _ this.1) this.2
 refine⟨_,rfl,_,rfl,zL2,_,rfl,[some (.lst (S.map zb)),some (.lst (S.map zb))],rfl,λi d o h1 t=>?_,(show 2<sizeLine by decide),?_⟩
 ·match i,h1,t with
  | 0,h1,t =>
   cases h1;cases t
   exact⟨rfl,λ_=>⟨_,rfl,_,rfl,λg j=>DA (f g j).1 (f g j).2,by omega,λu H z=>by rw[w (Xd _) H z]⟩⟩
  | 1,h1,t =>
   cases h1;cases t
   exact⟨rfl,λ_=>⟨_,rfl,_,rfl,λg j=>DA (f g (pc.mem_iff.mp j)).1 (f g (pc.mem_iff.mp j)).2,by rw[pc.length_eq];omega,λu H z=>by rw[w pc H z]⟩⟩
  |i+2,h1,t=>cases h1
 have C:∀B∈a,bo B.2=true:=λB J=>vz (O B J)
 have F:∀g∈m,bo g.2=true:=λg j=>vz (hm.vl g j)
 obtain⟨X,U,Y⟩:=aQ A ae p
 refine⟨_,rfl,_,rfl,_,rfl,_,rfl,.lst (S.map zb),3,rfl,by decide,L,true,rfl,?_⟩
 refine⟨_,rfl,_,rfl,_,rfl,zL2,a,m,rfl,rfl,C,F,h.pu,false,rfl,aF ?_⟩
 have v:∀n,KU (cZ (mz zP (au 11) (DW (ao (au 7) (ao (au 9) bG))))) (vY (vC (D.bl false))) rM E (IA A p is c l b k a r m (bj l a b) (some (.dT ((xK,.int k)::T))) (some (.dT (T++[(xK,.int k)]))) (some (.lst [.lst (S.map zb),.lst (S.map zb)])) n):=λn =>
  ⟨_,rfl,_,rfl,_,rfl,zL2,a,m,rfl,rfl,C,F,h.pu,false,rfl,aF (Z _ _)⟩
 refine⟨_,rfl,bj l a b,rfl,?_⟩
 by_cases G:bj l a b=true
 ·refine ND G ?_
  have R:r.length+p.depth<=10:=h.rt.pc.dp
  refine⟨_,rfl,p.cls A,X,U,Y,⟨p,rfl⟩,_,rfl,_,rfl,_,rfl,_,rfl,_,rfl,l,a,p,I,b,r,m,rfl,rfl,h.dp,h.gn,h.hb,h.ty,G,h.me,h.pu,R,?_⟩
  refine⟨_,rfl,_,rfl,_,rfl,_,rfl,_,rfl,l,a,p,I,b,r,m,rfl,h.dp,h.gn,h.hb,h.ty,G,h.me,h.pu,R,wv a m p r,0,rfl,by decide,vh (bT h.gn h.hb h.ty G h.me).vl,true,rfl,aF ?_⟩
  exact v _
 ·exact NC G (v _)
section
seal wpAny mixed lY d6
variable {P:O0}{w:World}{K:j'}{mg:Str->Option Value}{base:Heap}{A:bq}{n j:Nat}
def Iz{x a:Str}{st:Stmt}{f:Addr}{h:Pw}{N g:List Str}{k:Nat}{e:cU}{t:iW}(F:wA K x a st f h)(S:aG N g (aB st))(len:∀ds Q,e ds Q->ds.length=g.length)
  (i:∀(f:Addr) (c:Value) (A:Around) (b:List PySem.Env) (s:Shared) (H:Hp) (E:XK),bf k (A.deeper (envOfC a (aB st) s.heap.objs.size f c))->uO (Bx P w K mg base N a st f c A b s H E) (aw st) t)
  (l:∀ds Q,e ds Q->t { nx:=λ_ _=>Q .ah,rt:=λd μ=>Q (cb μ d)} (bw N ds) []):cH P w K mg base nZ (k+1) f h g (qO K e):=OJ F S len (i f) l
def I_{f:Addr}{fd:Pw}(F:wA K "law" "law" jE f fd)(X:mg "range"=none)(R:mg "dict"=none)(U:mg "sorted"=none)(n_str:mg "str"=none)
  (h:bL P w K mg base j "_law_cell_at" ["_law_script","_law_k"] Cz)(y:bL P w K mg base j "_law_names" ["_law_cell","_law_many"] yj)(G:bL P w K mg base j "_law_mixed" ["_law_cell","_law_k"] jO)
  (B:bL P w K mg base j "_law_typed" ["_law_cell","_law_names_here","_law_kind","_law_beat","_law_deep"] (mr 4))(O:bL P w K mg base j "part_of" ["told"] (AJ A 4))(L:bL P w K mg base j "_law_step" ["_law_cell","_law_names_here"] C6)
  (t:bL P w K mg base j "_law_memories" G0 (AI 4))(v:bL P w K mg base j "_law_comes" ["_law_now","_law_names_here","_law_beat"] yi)(o:bL P w K mg base j "_law_same" ["_law_found","_law_due"] (iE 6))
  (J:o5 P w K mg base j "_law_kept" Gv (C1 4))(I:bL P w K mg base j "_law_worth" ["_law_told","_law_now","_law_memory","_law_place"] (tR 4))
  (Y:MW P w K mg base A j 4)(m_keep:MK P w K mg base A j 4)(m_told:MP P w K mg base A j "told" 4 Pt.told):cH P w K mg base nZ (j+1) f fd ["_law_script"] (qO K Lz):=by
 refine Iz F Cy (fun ds Q ⟨ns,e,_⟩=>by rw[e];rfl) (λf cdv A outer s H E u=>have hu:=u.units;have hh:=u.hd;have M:=Cy
  (aY (bp (bA (i:=1) M.nd rfl (PN rfl) (aN h u (by omega) (by rfl) (aA (dv 0) (aA aC aD)))))
 (aY (bp (bA (i:=2) M.nd rfl (PN rfl) (aN y u (by omega) (by rfl) (aA (aN h u (by omega) (by rfl) (aA (dv 0) (aA aC aD))) (aA aC aD)))))
 (aY (bp (bA (i:=3) M.nd rfl (PN rfl) (ba (cM (aN G u (by omega) (by rfl) (aA (dv 1) (aA aC aD))) aC) aC)))
 (aY (bp (bA (i:=4) M.nd rfl (PN rfl) (aN B u (by omega) (by rfl) (aA (dv 1) (aA (dv 2) (aA (aU (cC (bg (by rfl))) (ba (dv 1) aC) (λ_ _=>rfl)) (aA (dv 3) (aA aC aD))))))))
 (aY (bp (bA (i:=5) M.nd rfl (PN rfl) (aN O u (by omega) (by rfl) (aA (dv 4) aD))))
 (aY (pz Q2 rfl (l9 (by rfl) X (aA aC aD)) (gu (i:=6) M.nd rfl (PN rfl)) (aY (bp (bA (i:=7) M.nd rfl (PN rfl) (aN L u (by omega) (by rfl) (aA (aj (aN h u (by omega) (by rfl) (aA (dv 0) (aA (aj aC (dv 6)) aD))) (dv 6)) (aA (dv 2) aD)))))
 (aY (bp (bA (i:=8) M.nd rfl (PN rfl) (aU (cC (aA (aa aD) (aA (aa (bg (by rfl))) (aA (aa (bg (by rfl))) aD)))) (ba (dv 6) aC) (λ_ _=>rfl))))
 (aY (bp (bA (i:=9) M.nd rfl (PN rfl) (aN t u (by omega) (by rfl) (aA (dv 4) (aA aZ (aA (dv 8) (aA (aj (aN h u (by omega) (by rfl) (aA (dv 0) (aA (aj aC (dv 6)) aD))) (dv 6)) aD)))))))
 (aY (bp (bA (i:=10) M.nd rfl (PN rfl) (aN v u (by omega) (by rfl) (aA (dv 7) (aA (dv 2) (aA (dv 3) aD))))))
 (aY (bp (bA (i:=11) M.nd rfl (PN rfl) (cC (aA (zG (by rfl) R (aA (dv 7) aD)) (aA (D9 (by rfl) R (dv 9)) aD)))))
 (aY (mF (i:=12) M.nd rfl (PN rfl) (OW (dv 6)))
 (aY (fQ m_keep u (by omega) (dv 5) (aA (aU (dv 11) aC (λ_ _=>rfl)) (aA (aU (dv 11) aC (λ_ _=>rfl)) (aA (dv 8) (aA (dv 10) (aA (dv 12) aD))))))
 (aY (mF (i:=13) M.nd rfl (PN rfl) (Kv J u (by omega) (by rfl) (aA (dv 4) (aA (dv 7) (aA (dv 9) (aA (dv 8) (aA (dv 10) aD)))))))
 (aY (E7 (n:=13) hu rfl (PN rfl) (dv 6))
 (vI (vJ (aH (Jk (i:=14) M.nd rfl (PN rfl) (x:="_law_one") (caps:=[]) (cn:=[]) (cl:=[]) (nq (by rfl) (by rfl) (by decide +kernel) (by decide +kernel) (by decide +kernel)) rfl (ny (cC (aA (dv 12) (aA (dv 13) aD)))) (λC fp s₂ H₂=>cT (i:=0) (show(["_law_one"]:List Str).Nodup by decide +kernel) rfl (PN rfl) (.inr rfl)) (λC fp s₂ H₂=>iF) (λC fp s₂ H₂=>(EE hh u.gd hu (by rfl) U (by rfl) n_str (dv 0))))
 (aH (bN (o_.td (w_or (qQ (cV (aN o u (by omega) (by rfl) (aA (aU (dv 14) aC (λ_ _=>rfl)) (aA (aU (dv 14) aC (λ_ _=>rfl)) aD))))) (qW (HJ hu (dv 11) (cC (aA (dv 7) (aA (dv 9) aD))))))) (aE (aJ pG)) aR)
 (aH (bN (cV (dv 10)) (aH (bA (i:=15) M.nd rfl (PN rfl) (wU Y u (by omega) (dv 5) (aA (aU (dv 11) aC (λ_ _=>rfl)) (aA (aU (dv 11) aC (λ_ _=>rfl)) (aA (dv 8) aD)))))
 (aE (bN (qQ (cV (aN o u (by omega) (by rfl) (aA (dv 15) (aA (aN I u (by omega) (by rfl) (aA (dv 4) (aA (dv 7) (aA (dv 9) (aA (dv 8) aD))))) aD))))) (aE (aJ pG)) aR))) aR)
 (aE (bN (HJ hu (dv 11) (cC (aA (dv 7) (aA (dv 9) aD)))) (aE (aJ pG)) aR)))))))))))))))))
 (vI (vJ (aE (aJ (aN o u (by omega) (by rfl) (aA (eJ m_told u (by omega) (dv 5)) (aA (dv 4) aD)))))))))))))) ?_
 rintro ds Q ⟨is,rfl,q⟩
 refine⟨_,rfl,is,1,rfl,by decide,λc=>?_⟩
 refine⟨_,rfl,is,0,rfl,by decide,λc0=>⟨c0,8,rfl,by decide,by decide,λl hl ho nd=>?_⟩⟩
 refine⟨_,rfl,c,8,rfl,cd (by decide) (by decide),iP3,?_⟩
 have b0:=cv (mixed c 8 / 7) iP3
 have b1:=cu (mixed c 8 / 7) iP3
 obtain⟨b,eb⟩:∃b:Nat,mixed c 8 / 7%3=(b:Int):=⟨(mixed c 8 / 7%3).toNat,by omega⟩
 dsimp only
 rw[eb]
 have hb:b<=2:=by omega
 have key:∃kd:Bool,L2.fe [D.str "truth",.str "number"] (c%2)=some (Eg kd):=by
  have h01:c%2=0\/c%2=1:=by omega
  rcases h01 with e|e<;>rw[e]
  ·exact⟨true,rfl⟩
  ·exact⟨false,rfl⟩
 obtain⟨kd,ekd⟩:=key
 refine⟨_,rfl,_,rfl,zL2,_,rfl,iP2,_,ekd,_,rfl,c,l,kd,b,3,rfl,by decide,hb,hl,ho,λp Z=>?_⟩
 have W:p.depth<=4:=by have:=Z.dp;omega
 refine⟨_,rfl,p,rfl,W,Z.ok,⟨by omega,PB Z.sz (by decide)⟩,?_⟩
 refine⟨4,rfl,by decide,by decide,λi δ μ=>∃x6 x7 x8 x9 x10 x11 x12 x13 S T:Option D,δ=[some (.lst (is.map D.int)),some (.int c),some (.lst (l.map D.str)),some (.int (b:Int)),some p.told,some (p.d A),x6,x7,x8,x9,x10,x11,x12,x13,S,T]/\μ=[],⟨none,none,none,none,none,none,none,none,none,none,rfl,rfl⟩,?_,?_⟩
 ·rintro i dd δ μ hdd ⟨x6,x7,x8,x9,x10,x11,x12,x13,S,T,rfl,rfl⟩
  have hi:i<4:=by
   have:=(PJ.mp hdd).1
   simpa using this
  have hd:D.int (0+(i:Int))=dd:=by
   rw[O7,Sl (by simpa using hi)] at hdd
   simpa using hdd
  subst hd
  obtain⟨g1,f1,f2⟩:=aQ A ae p
  obtain⟨g2,f3,f4⟩:=aQ A bE p
  have root:∃r∈roots,L2.fe [D.tup [],.tup [.int 7],.tup [.int 1,.int 2]] ((0+(i:Int))%3)=some (uK r):=by
   match i,hi with
   | 0,_=>exact⟨[],by decide,rfl⟩
   | 1,_=>exact⟨[7],by decide,rfl⟩
   | 2,_=>exact⟨[1,2],by decide,rfl⟩
   | 3,_=>exact⟨[],by decide,rfl⟩
  obtain⟨r,u,er⟩:=root
  have rt:Rt r p:=⟨r,u,[],(Pf r).symm,λz hz=>(nomatch hz),by show 0+p.depth<=4;omega⟩
  refine⟨_,rfl,_,rfl,is,2+i,by rw[WW];rfl,by omega,λc2=>⟨_,rfl,_,rfl,c2+(0+(i:Int)),l,rfl,hl,nd,?_⟩⟩
  have E:GN l (d6 (c2+(0+(i:Int))) l):=F7 hl nd _
  have hnv:∀kv∈d6 (c2+(0+(i:Int))) l,isVal kv.2:=DG _ _
  generalize d6 (c2+(0+(i:Int))) l=N at E hnv ⊢
  refine⟨zL0,zL1,zL2,zL3,_,rfl,iP3,_,er,?_⟩
  refine⟨_,rfl,_,rfl,_,rfl,_,rfl,is,6+i,by rw[WW];rfl,by omega,λc3=>⟨_,rfl,l,p,kd,b,r,.str "",c3+(0+(i:Int)),rfl,⟨W,Z.ok,Z.ty,rt⟩,λm hm=>?_⟩⟩
  refine⟨_,rfl,_,rfl,_,rfl,l,N,b,rfl,hl,hb,?_⟩
  refine⟨_,rfl,N,rfl,_,rfl,m,rfl,hm.ok.rJ,hm.ok.hash,zL2,?_⟩
  refine⟨_,rfl,rfl,λa _=>?_⟩
  have kt:Dw 4 l N p kd b r m:=⟨W,Z.ok,E,hb,Z.ty,hm.me,hm.ok.rJ,rt⟩
  have frx:Fw r [(xK,D.int (0+(i:Int)))]:=λg hg n=>absurd (show g.1=xK by rw[O6.mp hg]) n
  have hsz:p.size<=40:=PB Z.sz (by decide)
  refine⟨_,rfl,p.cls A,g2,f3,f4,⟨p,rfl⟩,_,rfl,_,rfl,_,rfl,_,rfl,_,rfl,_,rfl,_,rfl,l,N,p,kd,b,r,m,a,[(xK,.int (0+(i:Int)))],rfl,rfl,rfl,W,E,hb,Z.ty,hm.me,hm.ok.rJ,rt.pc,frx,by rw[P5];omega,?_⟩
  have kT:og (kl N m p (bj l N b) r):=Bq rt
  refine⟨_,rfl,_,rfl,_,rfl,_,rfl,_,rfl,l,N,p,kd,b,r,m,rfl,kt,λa2 nd2=>?_⟩
  have ne:a2≠a:=by
   simp only[Q4,Rb,O1,QC,QK,O6] at nd2
   exact nd2.1
  refine⟨_,rfl,a2,kl N m p (bj l N b) r,rfl,B_,kT.rJ,Pg kT.len (by decide),?_⟩
  rw[Q4,Rb,E8 ne,kE kT.rJ]
  have hk:isVal (.int (0+(i:Int))):=.inr ⟨_,rfl,by omega,by omega⟩
  show oB (HE A) _ (dD [(a2,MD.dT (kl N m p (bj l N b) r++[(xK,D.int (0+(i:Int)))])),(a,MD.dT ([(xK,D.int (0+(i:Int)))]++kl N m p (bj l N b) r))] (IA A p is c l b (0+(i:Int)) N r m (bj l N b) (some (.adr a)) (some (.adr a2)) S T)) []
  rw[Dc ne]
  exact Fo kt hm hnv rfl hk λS T=>⟨_,_,_,_,_,_,_,_,S,T,rfl,rfl⟩
 ·rintro δ μ ⟨x6,x7,x8,x9,x10,x11,x12,x13,S,T,rfl,rfl⟩
  show oB (vY (gD (iE 6) (ao (lF (u6 A) "told" (ou A 4 Pt.told) [] (au 5) bG) (ao (au 4) bG)))) { nx:=λx x_1=>Q D.ah,rt:=λd μ=>Q (cb μ d)} (dD [] _) []
  obtain⟨g1,f1,f2⟩:=aQ A cJ p
  refine⟨p.d A,congrArg (λz=>some (some z)) (rH A [] p),p.cls A,g1,f1,f2,⟨p,rfl⟩,p,rfl,rfl,W,?_⟩
  exact⟨p.told,congrArg (λz=>some (some z)) (rS [] p),p.told,4,rfl,by decide,F3 p 4 Z.ok W,q⟩
end
/-! ### where things lie -/
def Ao(x a:Str)(st:Stmt)(e:List Str):Prop:=∀(kV b g:Value) (f:Option Addr) (c h:Value) (us:List Value),us.length=e.length->W2 (fnOf x a (cR st) (aw st) (aB st) .none kV b g f c h) ⟨us,[]⟩=pure (e.zip us)
section
variable {w:World}{K:j'}{h:Heap}{mg:Str->Option Value}{x m qual:Str}{st:Stmt}{ps:List Str}{f C:Addr}{od an:Option Addr}{sl:Array (Option Value)}{oc kV dc pm cd ct dV:Value}
def bb(X:K.In h)(G:h.Ns PH mg)(a:autoParam (nsIn K PH x=some (some (.ref f))) c5)(l:autoParam (K.lookup f=some ⟨oc,od,.func (fnOf x x (cR st) (aw st) (aB st) .none kV dc pm an cd ct),sl⟩) c5)
  (c:autoParam (codeIn K cd x=true) c5)(k:autoParam (keepIn K (.ref f)=true) c5)(b:Ao x x st ps:=by first|exact(λ_ _ _ _ _ _ us e=>match us,e with|[_],_=>rfl)|exact(λ_ _ _ _ _ _ us e=>match us,e with|[_,_],_=>rfl)|exact(λ_ _ _ _ _ _ us e=>match us,e with|[_,_,_],_=>rfl)|exact(λ_ _ _ _ _ _ us e=>match us,e with|[_,_,_,_],_=>rfl)|exact(λ_ _ _ _ _ _ us e=>match us,e with|[_,_,_,_,_],_=>rfl)|exact(λ_ _ _ _ _ _ us e=>match us,e with|[_,_,_,_,_,_],_=>rfl)):Df K mg x st ps:=⟨⟨f,_,m_ (st:=st) l c k,mg_of X G a,(m_ (st:=st) l c k).binds b⟩⟩
def pI(X:K.In h)(G:h.Ns PH mg)(j:autoParam (nsIn K PH x=some (some (.ref C))) c5)(mk:autoParam (Vt K C=true) c5)(e:autoParam (findIn K (.ref C) "__init__"=some (some (.ref f))) c5)(i:autoParam (isFn K (.ref f)=true) c5)(g:autoParam (keepIn K (.ref C)=true) c5)
  (l:autoParam (K.lookup f=some ⟨oc,od,.func (fnOf "__init__" qual (cR st) (aw st) (aB st) .none kV dc pm an cd ct),sl⟩) c5)(c:autoParam (codeIn K cd qual=true) c5)(k:autoParam (keepIn K (.ref f)=true) c5)
  (b:Ao "__init__" qual st ps:=by first|exact(λ_ _ _ _ _ _ us a=>match us,a with|[_,_],_=>rfl)|exact(λ_ _ _ _ _ _ us a=>match us,a with|[_,_,_],_=>rfl)|exact(λ_ _ _ _ _ _ us a=>match us,a with|[_,_,_,_],_=>rfl)|exact(λ_ _ _ _ _ _ us a=>match us,a with|[_,_,_,_,_],_=>rfl)):Di K mg x C qual st ps [] :=
 ⟨⟨f,_,[],[],⟨⟨oc,od,.none,kV,dc,pm,an,cd,ct,sl,rfl,l,c⟩,k⟩,⟨mk,e,i,g⟩,mg_of X G j,(m_ (st:=st) l c k).binds b,.nil,λ_=>.nil⟩⟩
def An(x a:Str)(st:Stmt)(j:List Str):Prop:=∀(K:j') (T:Addr) (ob:Obj) (v:Value) (n:Nat),K.lookup T=some ob->ob.data=.seq #[v] n->∀(kV b g:Value) (e:Option Addr) (c i:Value),Binds K (fnOf x a (cR st) (aw st) (aB st) (.ref T) kV b g e c i) j []
def BG{a:Addr}{n v:Value}{td:Option Addr}{i:Nat}{g:Array (Option Value)}(X:K.In h)(G:h.Ns PH mg)(b:An "__init__" qual st ps)(p:autoParam (nsIn K PH x=some (some (.ref C))) c5)(mk:autoParam (Vt K C=true) c5)(e:autoParam (findIn K (.ref C) "__init__"=some (some (.ref f))) c5)
  (o:autoParam (isFn K (.ref f)=true) c5)(j:autoParam (keepIn K (.ref C)=true) c5)(l:autoParam (K.lookup f=some ⟨oc,od,.func (fnOf "__init__" qual (cR st) (aw st) (aB st) (.ref a) kV dc pm an cd ct),sl⟩) c5)(c:autoParam (codeIn K cd qual=true) c5)(k:autoParam (keepIn K (.ref f)=true) c5)
  (lt:autoParam (K.lookup a=some ⟨n,td,.seq #[v] i,g⟩) c5):Di K mg x C qual st ps [] :=
 ⟨⟨f,_,[],[],⟨⟨oc,od,.ref a,kV,dc,pm,an,cd,ct,sl,rfl,l,c⟩,k⟩,⟨mk,e,o,j⟩,mg_of X G p,b K a _ v i lt rfl kV dc pm an cd ct,.nil,λ_=>.nil⟩⟩
def g_(a:autoParam (UO K C XA=true) c5)(b:autoParam (Us K C=true) c5)(c:autoParam (V8 K C=true) c5)(d:autoParam (findIn K (.ref C) "__setattr__"=some (some (.builtin "object.__setattr__"))) c5)
  (e:autoParam (findIn K (.ref C) "__class__"=some (some (.builtin "object.__class__"))) c5)(f:autoParam (Ua K (.builtin "object.__class__") "__get__"=some (some (.builtin "getset_descriptor.__get__"))) c5)(g:autoParam (Ur K (.builtin "object.__class__")=some true) c5)(h:autoParam (U7 K C (.type "object")=some true) c5):ig K C:=⟨⟨a,b,c,d⟩,e,f,g,h⟩
def pP{i:Int}{t:Tok}(X:K.In h)(G:h.Ns PH mg)(e:nsIn K PH x=some (some (.int i t))):GI mg x i:=⟨⟨t,mg_of X G e⟩⟩
def Ky{y:Str}{t:Tok}(X:K.In h)(G:h.Ns PH mg)(e:nsIn K PH x=some (some (.str y t))):GD K mg x (.str y):=⟨⟨.str y,.str y t,mg_of X G e,⟨_,rfl⟩,λ_=>.str y⟩⟩
def Kb(K:j')(t:Addr)(ds:List D):Prop:=∀H,Dv K H (.ref t) (.tup ds)
def cQ{t:Addr}{a:Array Value}{n:Nat}(vs:List V){ds:List D}(l:K.lookup t=some ⟨.type "tuple",od,.seq a n,sl⟩)(z:a.size<=1000)(v:Vals vs a.toList)(d:∀H,bZ K H vs ds):Kb K t ds :=
 λH=>.tup (.inr ⟨_,a,n,l,rfl,rfl,Q7 (AN z),v⟩) (d H)
def Kz{t:Addr}{ds:List D}(X:K.In h)(G:h.Ns PH mg)(e:nsIn K PH x=some (some (.ref t)))(l:Kb K t ds):GD K mg x (.tup ds):=⟨⟨.ref t,.ref t,mg_of X G e,rfl,l⟩⟩
def Gw{s:Addr}{es:Array Pj}{n:Nat}{a:List (Str × V)}{tab:List (Str × D)}(X:K.In h)(G:h.Ns PH mg)(e:nsIn K PH x=some (some (.ref s)))(l:K.lookup s=some ⟨.type "dict",none,.dict es n,#[]⟩)(c:Uu w.params es.toList)
  (he:eW a es.toList)(b:(s == Pm)=false)(t:Tb K a tab):Du w K mg x s tab:=⟨mg_of X G e,a,⟨⟨es,n,l,c,he⟩,b⟩,t⟩
def bV{y:Str}{t:Tok}{r:Addr}{b:Pj}{a:List (Str × V)}{es:List Pj}(e:b.key=.str y t)(c:b.val=.ref r)(q:eW a es):eW ((y,.ref r)::a) (b::es):=.cons e c q
def zO(a:List Str):∀H,bZ K H (a.map V.str) (a.map D.str):=λ_=>pJ a
def Ar(K:j')(C:Addr):Prop:=∀f∈(["value","name","part","sign","one","other","truth","first","head","rest"]:List Str),eO K C f
def gy(g:autoParam (findIn K (.ref C) "value"=some none) c5)(h1:autoParam (findIn K (.ref C) "name"=some none) c5)(e:autoParam (findIn K (.ref C) "part"=some none) c5)(a:autoParam (findIn K (.ref C) "sign"=some none) c5)(c:autoParam (findIn K (.ref C) "one"=some none) c5)(l:autoParam (findIn K (.ref C) "other"=some none) c5)(i:autoParam (findIn K (.ref C) "truth"=some none) c5)(n:autoParam (findIn K (.ref C) "first"=some none) c5)(b:autoParam (findIn K (.ref C) "head"=some none) c5)(j:autoParam (findIn K (.ref C) "rest"=some none) c5):Ar K C:=by
 unfold Ar
 simp only[B',C',or_false,forall_eq_or_imp,forall_eq]
 exact⟨g,h1,e,a,c,l,i,n,b,j⟩
structure cW (K:j') (C:Addr) (m qual:Str) (st:Stmt) (ps:List Str):Prop where
 ex:∃f fd,wA K m qual st f fd/\Meth K C m f/\Binds K fd ps []
def aP(a:autoParam (findIn K (.ref C) m=some (some (.ref f))) c5)(l:autoParam (K.lookup f=some ⟨oc,od,.func (fnOf m qual (cR st) (aw st) (aB st) .none kV dc pm an cd ct),sl⟩) c5)
  (c:autoParam (codeIn K cd qual=true) c5)(k:autoParam (keepIn K (.ref f)=true) c5)(n:autoParam (isFn K (.ref f)=true) c5)(b:Ao m qual st ps:=by first|exact(λ_ _ _ _ _ _ us e=>match us,e with|[_],_=>rfl)|exact(λ_ _ _ _ _ _ us e=>match us,e with|[_,_],_=>rfl)|exact(λ_ _ _ _ _ _ us e=>match us,e with|[_,_,_,_],_=>rfl)|exact(λ_ _ _ _ _ _ us e=>match us,e with|[_,_,_,_,_,_],_=>rfl)|exact(λ_ _ _ _ _ _ us e=>match us,e with|[_,_,_,_],_=>rfl)):cW K C m qual st ps:=⟨⟨f,_,m_ (st:=st) l c k,⟨a,n,k⟩,(m_ (st:=st) l c k).binds b⟩⟩
def cW.dm(d:cW K C m qual st ps)(c:uI K C):Dm K C m qual st ps:=let ⟨f,a,F,M,b⟩:=d.ex;⟨⟨f,a,F,M,c,b⟩⟩
end
def lu:An "__init__" "Before.__init__" cN ["self","part","first"]:=λK T ob v n a c _ _ _ _ _ _ s us X b=>match us,b with|[_,_,_],_=>Ut X rfl a c rfl rfl
def oW:An "__init__" "Held.__init__" ck ["self","part","name","first"]:=λK T ob v n a c _ _ _ _ _ _ s us X b=>match us,b with|[_,_,_,_],_=>Ut X rfl a c rfl rfl
/-- the law's promise over values -/
def vj(K:j'):Sp:=λvs H Q _=>∃(q:Addr) (a:List Int),vs=[.ref q]/\eX K H q (a.map V.int)/\a.length<=63/\∀b,Q (.bl true) b
def iq{K:j'}{H:Hp}:∀a:List Int,bZ K H (a.map V.int) (a.map D.int)
 |[]=>.nil
 |n::a=>.cons (.int n) (iq a)
section
variable {P:O0}{w:World}{K:j'}{mg:Str->Option Value}{base:Heap}{A:bq}{j k:Nat}{x:Str}{ps:List Str}
def vS(d:Df K mg "part_of" kG ["told"])(e:bL P w K mg base 2 "many_within" ["told"] (tS Pt.ok λp=>.int p.inner.length))(b:bL P w K mg base 1 "has_shape" ["told"] (tS Pt.ok λp=>.bl (!p.pW)))
  (c:bL P w K mg base 15 "plain_by" ["told","inner"] (xS A 10 true))(a:bL P w K mg base 15 "timed_by" ["told","inner"] (xS A 10 false))
  (k:qX P w K mg base 13 "Pair" A.pair (λds Q=>∃(g:Str) (x y:Pt),ds=[.str g,x.d A,y.d A]/\g∈jP/\(Pt.pair g x y).depth<=10/\oG (.pair g x y)/\Q [("sign",.str g),("one",x.d A),("other",y.d A)]) []) :
  ∀n,n<=10->bL P w K mg base (n+15) "part_of" ["told"] (AJ A n)
 | 0,_=>Df.never d fun ds Q ⟨p,_,h,_⟩=>absurd p.bO (by omega)
 |n+1,h=>zx (m:=n) (N:=10) (by omega) h d (e.up (by omega)) (b.up (by omega)) (vS d e b c a k n (by omega)) (by omega) (c.up (by omega)) (a.up (by omega)) k
end
def Hb{w:World}{K:j'}{h:Heap}{mg:Str->Option Value}{g r m l u t s o i sa sb:Addr}(X:K.In h)(G:h.Ns PH mg)
  (j0:nsIn K PH "Given"=some (some (.ref g)))
  (j1:nsIn K PH "Named"=some (some (.ref r)))
  (j2:nsIn K PH "Turned"=some (some (.ref m)))
  (j3:nsIn K PH "Pair"=some (some (.ref l)))
  (j4:nsIn K PH "Choice"=some (some (.ref u)))
  (j5:nsIn K PH "Before"=some (some (.ref t)))
  (j6:nsIn K PH "Led"=some (some (.ref s)))
  (j7:nsIn K PH "When"=some (some (.ref o)))
  (j8:nsIn K PH "Held"=some (some (.ref i)))
  (j9:[g,r,m,l,u,t,s,o,i].Nodup)
  (ja:ig K g)
  (jb:Ar K g)
  (jc:cW K g "inner" "Part.inner" cG ["self"])
  (jd:cW K g "size" "Part.size" bF ["self"])
  (je:cW K g "depth" "Part.depth" ax ["self"])
  (jf:cW K g "need_bounds" "Part.need_bounds" aV ["self"])
  (jg:cW K g "worth" "Given.worth" eB ["self","now","kept","place"])
  (jh:cW K g "keep" "Part.keep" cF ["self","now","kept","place","comes","more"])
  (ji:cW K g "told" "Given.told" el ["self"])
  (jj:Di K mg "Given" g "Given.__init__" d3 ["self","value"] [])
  (jk:ig K r)
  (jl:Ar K r)
  (jm:cW K r "inner" "Part.inner" cG ["self"])
  (jn:cW K r "size" "Part.size" bF ["self"])
  (jo:cW K r "depth" "Part.depth" ax ["self"])
  (jp:cW K r "need_bounds" "Part.need_bounds" aV ["self"])
  (jq:cW K r "worth" "Named.worth" eC ["self","now","kept","place"])
  (jr:cW K r "keep" "Part.keep" cF ["self","now","kept","place","comes","more"])
  (js:cW K r "told" "Named.told" e_ ["self"])
  (jt:Di K mg "Named" r "Named.__init__" d4 ["self","name"] [])
  (ju:ig K m)
  (jv:Ar K m)
  (jw:cW K m "inner" "Turned.inner" dU ["self"])
  (jx:cW K m "size" "Part.size" bF ["self"])
  (jy:cW K m "depth" "Part.depth" ax ["self"])
  (jz:cW K m "need_bounds" "Part.need_bounds" aV ["self"])
  (j10:cW K m "worth" "Turned.worth" dX ["self","now","kept","place"])
  (j11:cW K m "keep" "Part.keep" cF ["self","now","kept","place","comes","more"])
  (j12:cW K m "told" "Turned.told" eD ["self"])
  (j13:Di K mg "Turned" m "Turned.__init__" dS ["self","part"] [])
  (j14:ig K l)
  (j15:Ar K l)
  (j16:cW K l "inner" "Pair.inner" fA ["self"])
  (j17:cW K l "size" "Part.size" bF ["self"])
  (j18:cW K l "depth" "Part.depth" ax ["self"])
  (j19:cW K l "need_bounds" "Part.need_bounds" aV ["self"])
  (j1a:cW K l "worth" "Pair.worth" fB ["self","now","kept","place"])
  (j1b:cW K l "keep" "Part.keep" cF ["self","now","kept","place","comes","more"])
  (j1c:cW K l "told" "Pair.told" ft ["self"])
  (j1d:Di K mg "Pair" l "Pair.__init__" eQ ["self","sign","one","other"] [])
  (j1e:ig K u)
  (j1f:Ar K u)
  (j1g:cW K u "inner" "Choice.inner" dQ ["self"])
  (j1h:cW K u "size" "Part.size" bF ["self"])
  (j1i:cW K u "depth" "Part.depth" ax ["self"])
  (j1j:cW K u "need_bounds" "Part.need_bounds" aV ["self"])
  (j1k:cW K u "worth" "Choice.worth" dR ["self","now","kept","place"])
  (j1l:cW K u "keep" "Part.keep" cF ["self","now","kept","place","comes","more"])
  (j1m:cW K u "told" "Choice.told" eA ["self"])
  (j1n:Di K mg "Choice" u "Choice.__init__" dP ["self","truth","one","other"] [])
  (j1o:ig K t)
  (j1p:Ar K t)
  (j1q:cW K t "inner" "Before.inner" dN ["self"])
  (j1r:cW K t "size" "Part.size" bF ["self"])
  (j1s:cW K t "depth" "Part.depth" ax ["self"])
  (j1t:cW K t "need_bounds" "Part.need_bounds" aV ["self"])
  (j1u:cW K t "worth" "Before.worth" dO ["self","now","kept","place"])
  (j1v:cW K t "keep" "Before.keep" d9 ["self","now","kept","place","comes","more"])
  (j1w:cW K t "told" "Before.told" d_ ["self"])
  (j1x:Di K mg "Before" t "Before.__init__" cN ["self","part","first"] [])
  (j1y:ig K s)
  (j1z:Ar K s)
  (j20:cW K s "inner" "Led.inner" fm ["self"])
  (j21:cW K s "size" "Part.size" bF ["self"])
  (j22:cW K s "depth" "Part.depth" ax ["self"])
  (j23:cW K s "need_bounds" "Part.need_bounds" aV ["self"])
  (j24:cW K s "worth" "Led.worth" fq ["self","now","kept","place"])
  (j25:cW K s "keep" "Led.keep" hW ["self","now","kept","place","comes","more"])
  (j26:cW K s "told" "Led.told" hX ["self"])
  (j27:Di K mg "Led" s "Led.__init__" fU ["self","head","rest"] [])
  (j28:ig K o)
  (j29:Ar K o)
  (j2a:cW K o "inner" "When.inner" fD ["self"])
  (j2b:cW K o "size" "Part.size" bF ["self"])
  (j2c:cW K o "depth" "Part.depth" ax ["self"])
  (j2d:cW K o "need_bounds" "Part.need_bounds" aV ["self"])
  (j2e:cW K o "worth" "When.worth" fE ["self","now","kept","place"])
  (j2f:cW K o "keep" "When.keep" fu ["self","now","kept","place","comes","more"])
  (j2g:cW K o "told" "When.told" fz ["self"])
  (j2h:Di K mg "When" o "When.__init__" eR ["self","part","name"] [])
  (j2i:ig K i)
  (j2j:Ar K i)
  (j2k:cW K i "inner" "Held.inner" eu ["self"])
  (j2l:cW K i "size" "Part.size" bF ["self"])
  (j2m:cW K i "depth" "Part.depth" ax ["self"])
  (j2n:cW K i "need_bounds" "Part.need_bounds" aV ["self"])
  (j2o:cW K i "worth" "Held.worth" e9 ["self","now","kept","place"])
  (j2p:cW K i "keep" "Held.keep" fj ["self","now","kept","place","comes","more"])
  (j2q:cW K i "told" "Held.told" fk ["self"])
  (j2r:Di K mg "Held" i "Held.__init__" ck ["self","part","name","first"] [])
  (j2s:cW K i "comes_within" "Held.comes_within" cA ["self","now"])
  (j2t:Df K mg "has_letters" gI ["text"])
  (j2u:Df K mg "has_word_form" eT ["text"])
  (j2v:Df K mg "is_word" nU ["thing"])
  (j2w:Df K mg "is_name" nS ["thing"])
  (j2x:Df K mg "is_number" jD ["thing"])
  (j2y:Df K mg "is_value" lV ["thing"])
  (j2z:Df K mg "brought" nR ["number"])
  (j30:Df K mg "value_kind" iD ["value"])
  (j31:Df K mg "paired" qH ["sign","one","other"])
  (j32:Df K mg "need_name" jF ["name"])
  (j33:Df K mg "need_first" iC ["first"])
  (j34:Df K mg "has_shape" jC ["told"])
  (j35:Df K mg "many_within" gJ ["told"])
  (j36:Df K mg "plain_by" lW ["told","inner"])
  (j37:Df K mg "timed_by" lX ["told","inner"])
  (j38:Df K mg "part_of" kG ["told"])
  (j39:Df K mg "_law_cell_at" fV ["_law_script","_law_k"])
  (j3a:Df K mg "_law_mixed" iA ["_law_cell","_law_k"])
  (j3b:Df K mg "_law_names" iB ["_law_cell","_law_many"])
  (j3c:Df K mg "_law_number" eE ["_law_mix"])
  (j3d:Df K mg "_law_value" fG ["_law_mix","_law_kind"])
  (j3e:Df K mg "_law_same" f9 ["_law_found","_law_due"])
  (j3f:Df K mg "_law_leaf" i_ ["_law_cell","_law_names_here","_law_kind","_law_beat"])
  (j3g:Df K mg "_law_typed" fF ["_law_cell","_law_names_here","_law_kind","_law_beat","_law_deep"])
  (j3h:Df K mg "_law_step" jB ["_law_cell","_law_names_here"])
  (j3i:Df K mg "_law_comes" hZ ["_law_now","_law_names_here","_law_beat"])
  (j3j:Df K mg "_law_pair" jA ["_law_sign","_law_one","_law_other"])
  (j3k:Df K mg "_law_inner" h_ ["_law_told"])
  (j3l:Df K mg "_law_worth" dY ["_law_told","_law_now","_law_memory","_law_place"])
  (j3m:Df K mg "_law_kept" f7 ["_law_told","_law_now","_law_memory","_law_place","_law_comes_here"])
  (j3n:Df K mg "_law_memories" cm ["_law_told","_law_kind","_law_place","_law_cell"])
  (j3o:GI mg "LONGEST_WORD" 8)
  (j3p:GI mg "MOST_WORDS" 4)
  (j3q:GI mg "LOWEST" (-128))
  (j3r:GI mg "HIGHEST" 127)
  (j3s:GI mg "DEEPEST" 10)
  (j3t:GI mg "LARGEST" 40)
  (j3u:GI mg "ROUND" 256)
  (j3v:GD K mg "LETTERS" (.str gv))
  (j3w:GD K mg "KEPT_WORDS" (.tup (n0.map D.str)))
  (j3x:Du w K mg "SHAPES" sa mv)
  (j3y:Du w K mg "SIGNS" sb tV)
  (j3z:nsIn K PH "isinstance"=some none)
  (j40:nsIn K PH "bool"=some none)
  (j41:nsIn K PH "int"=some none)
  (j42:nsIn K PH "len"=some none)
  (j43:nsIn K PH "all"=some none)
  (j44:nsIn K PH "sum"=some none)
  (j45:nsIn K PH "max"=some none)
  (j46:nsIn K PH "range"=some none)
  (j47:nsIn K PH "tuple"=some none)
  (j48:nsIn K PH "list"=some none)
  (j49:nsIn K PH "enumerate"=some none)
  (j4a:nsIn K PH "dict"=some none)
  (j4b:nsIn K PH "sorted"=some none)
  (j4c:nsIn K PH "str"=some none)
  (j4d:nsIn K PH "zip"=some none)
  (P:O0)(base:Heap)(f:Addr)(fd:Pw)(F:wA K "law" "law" jE f fd):cH P w K mg base nZ 20 f fd ["_law_script"] (vj K):=by
 have M:=ja.cl
 have Z:=jk.cl
 have c3:=ju.cl
 have Y:=j14.cl
 have W:=j1e.cl
 have U:=j1o.cl
 have T:=j1y.cl
 have c8:=j28.cl
 have O:=j2i.cl
 have y0:=QW X G j3z
 have y1:=QW X G j40
 have y2:=QW X G j41
 have y3:=QW X G j42
 have y4:=QW X G j43
 have y5:=QW X G j44
 have y6:=QW X G j45
 have y7:=QW X G j46
 have y8:=QW X G j47
 have y9:=QW X G j48
 have ya:=QW X G j49
 have yb:=QW X G j4a
 have yc:=QW X G j4b
 have yd:=QW X G j4c
 have ye:=QW X G j4d
 have y:cq K (bq.mk g r m l u t s o i):=⟨j9,?_,?_⟩
 rotate_left
 ·simp only[B',C',or_false,forall_eq_or_imp,forall_eq]
  exact⟨M,Z,c3,Y,W,U,T,c8,O⟩
 ·intro C z f I
  simp only[B',C',or_false] at z
  rcases z with rfl|rfl|rfl|rfl|rfl|rfl|rfl|rfl|rfl
  ·exact jb f I
  ·exact jl f I
  ·exact jv f I
  ·exact j15 f I
  ·exact j1f f I
  ·exact j1p f I
  ·exact j1z f I
  ·exact j29 f I
  ·exact j2j f I
 have b:o6 K (bq.mk g r m l u t s o i):=⟨jc.dm M,jm.dm Z,jw.dm c3,j16.dm Y,j1g.dm W,j1q.dm U,j20.dm T,j2a.dm c8,j2k.dm O⟩
 have J:GW K (bq.mk g r m l u t s o i):=⟨ji.dm M,js.dm Z,j12.dm c3,j1c.dm Y,j1m.dm W,j1w.dm U,j26.dm T,j2g.dm c8,j2q.dm O⟩
 have x:wF K (bq.mk g r m l u t s o i):=⟨jg.dm M,jq.dm Z,j10.dm c3,j1a.dm Y,j1k.dm W,j1u.dm U,j24.dm T,j2e.dm c8,j2o.dm O,j2s.dm O⟩
 have N:GV K (bq.mk g r m l u t s o i):=⟨λC z=>by
  simp only[B',C',or_false] at z
  rcases z with rfl|rfl|rfl|rfl|rfl
  ·exact jh.dm M
  ·exact jr.dm Z
  ·exact j11.dm c3
  ·exact j1b.dm Y
  ·exact j1l.dm W
  ,j1v.dm U,j25.dm T,j2f.dm c8,j2p.dm O⟩
 have L:∀C,u6 (bq.mk g r m l u t s o i) C->Dm K C "size" "Part.size" bF ["self"]:=fun C ⟨p,e⟩=>by
  subst e
  cases p
  ·exact jd.dm M
  ·exact jn.dm Z
  ·exact jx.dm c3
  ·exact j17.dm Y
  ·exact j1h.dm W
  ·exact j1r.dm U
  ·exact j21.dm T
  ·exact j2b.dm c8
  ·exact j2l.dm O
 have B:∀C,u6 (bq.mk g r m l u t s o i) C->Dm K C "depth" "Part.depth" ax ["self"]:=fun C ⟨p,e⟩=>by
  subst e
  cases p
  ·exact je.dm M
  ·exact jo.dm Z
  ·exact jy.dm c3
  ·exact j18.dm Y
  ·exact j1i.dm W
  ·exact j1s.dm U
  ·exact j22.dm T
  ·exact j2c.dm c8
  ·exact j2m.dm O
 have c:∀C,u6 (bq.mk g r m l u t s o i) C->Dm K C "need_bounds" "Part.need_bounds" aV ["self"]:=fun C ⟨p,e⟩=>by
  subst e
  cases p
  ·exact jf.dm M
  ·exact jp.dm Z
  ·exact jz.dm c3
  ·exact j19.dm Y
  ·exact j1j.dm W
  ·exact j1t.dm U
  ·exact j23.dm T
  ·exact j2d.dm c8
  ·exact j2n.dm O
 have s1:=ik (P:=P) (w:=w) (base:=base) (j:=0) j2x y0 y1 y2 j3q j3r
 have s2:=fN j2y y0 y1 s1
 have s3:=dG j33 s2
 have w1:=gE (P:=P) (w:=w) (base:=base) (j:=0) j2t y3 y4 j3v
 have w2:=cI j2u y3 j3o w1
 have w3:=m7 j2v j3w w2
 have w4:=m6 j2w y3 y4 j3p w3 (w2.up (by omega))
 have w5:=cP j32 w4
 have mSize:=DB (P:=P) (w:=w) (base:=base) y b L y5 10
 have S:=zK (P:=P) (w:=w) (base:=base) y b B y6 10
 have a:=y_ c S mSize j3s j3t
 have k1:=wj (j:=12) (A:=(bq.mk g r m l u t s o i)) M (y.d0 g (by simp) "value" (by decide)) jj (s2.up (by omega))
 have k2:=wk (j:=12) y jt (w5.up (by omega))
 have k3:=uy (j:=12) y j13 a
 have k4:=zV (j:=12) y j1d j3y a
 have k5:=ux (j:=12) y j1n a
 have k6:=uw (j:=12) y j1x (s3.up (by omega)) a
 have k7:=Bg (j:=12) y j27 a
 have k8:=zW (j:=12) y j2h (w5.up (by omega)) a
 have k9:=zU (j:=12) y j2r (w5.up (by omega)) (s3.up (by omega)) a
 have p1:=eI (P:=P) (base:=base) (j:=0) j34 y3 j3x
 have p0:=gF j35 j3x p1
 have p2:=lI (n:=10) (j:=14) j36 (by omega) k1 k2 k3 k5
 have p3:=lJ (n:=10) (j:=14) j37 (by omega) k6 k7 k8 k9
 have p4:=vS j38 p0 p1 p2 p3 k4 4 (by omega)
 have x1:=gO (P:=P) (w:=w) (base:=base) (j:=0) j2z j3q j3u
 have x2:=ee (P:=P) (w:=w) (base:=base) (j:=0) j30 y0 y1
 have x3:=pD j31 x1 x2
 have mW:=nY y x x3 4
 have mK:=u9 y b ya x N x3 4
 have t1:=λj=>D5 (P:=P) (w:=w) (base:=base) (j:=j) j3a
 have t2:=He (P:=P) (w:=w) (base:=base) (j:=0) j39 y3
 have t3:=Ax (P:=P) (w:=w) (base:=base) (j:=0) j3c
 have t4:=D7 j3d t3
 have t5:=D6 (j:=1) j3b y7 (t1 0)
 have t6:=Hf (j:=2) j3f y2 (t1 1) t4
 have t7:=rT j3g y7 (t1 0) t4 t6 4
 have t8:=Hg (P:=P) (w:=w) (base:=base) (j:=0) j3c
 have t9:=Hl j3d t8
 have ta:=Hk (j:=2) j3h (t1 1) t9
 have tb:=D4 (P:=P) (w:=w) (base:=base) (j:=0) j3i
 have tc:=Hi (P:=P) (w:=w) (base:=base) (j:=0) j3j y2
 have te:=vd (P:=P) (w:=w) (base:=base) j3e y0 y8 y9 y3 y4 ye y1 6
 have ti:=Kd (P:=P) (w:=w) (base:=base) (j:=0) j3k y0 y8
 have tw:=sY j3l y2 tc 4
 have tk:=Br j3m ya ti j3l y2 tc 3
 have tm:=B8 j3n ya y3 y2 y0 y1 ti (t1 0) t9 4
 have mT:=vo (P:=P) (w:=w) (mg:=mg) (base:=base) y J 4
 have R:=I_ (j:=19) F y7 yb yc yd (t2.up (by omega)) (t5.up (by omega)) (t1 18) (t7.up (by omega)) p4 (ta.up (by omega)) (tm.up (by omega)) (tb.up (by omega)) (te.up (by omega)) (tk.up (by omega)) (tw.up (by omega)) (λC z=>(mW C z).up (by omega)) (λC z=>(mK C z).up (by omega)) (λC z=>(mT C z).up (by omega))
 exact cH.sub R fun vs H Q E ⟨q,ns,e,hS,hl,k⟩=>⟨[.lst (ns.map D.int)],e ▸ .cons (.lst hS (iq ns)) .nil,ns,rfl,λv H' _ dv=>by cases dv;exact k H'⟩
def all_mk{l:R1}{w:World}{K:j'}{h:Heap}{mg:Str->Option Value}{t n:Addr}(X:K.In h)(G:h.Ns PH mg)(p:mg "law"=some (.ref t))
  {r i:Option Addr}{o:Array (Option Value)}{q c j g a m:Value}
  (z:nsIn K PH "law"=some (some (.ref n)))(y:K.lookup n=some ⟨q,r,.func (fnOf "law" "law" (cR jE) (aw jE) (aB jE) .none c j g i a m),o⟩)(u:codeIn K a "law"=true)(x:keepIn K (.ref n)=true)
  (R:∀(P:O0) (base:Heap) (f:Addr) (b:Pw),wA K "law" "law" jE f b->cH P w K mg base nZ 20 f b ["_law_script"] (vj K))
  : ∃b:Pw,(∀(s:Shared) (v:Value),BindsTo s b ⟨[v],[]⟩ [("_law_script",v)])/\∀base:Heap,K.In base->base.Ns PH mg->cH l.prog w K mg base nZ 20 t b ["_law_script"] (vj K):=by
 have e:=p.symm.trans (mg_of X G z)
 cases e
 exact⟨fnOf "law" "law" (cR jE) (aw jE) (aB jE) .none c j g i a m,λs v=>.of_eq rfl,λbase _ _=>R _ base _ _ (m_ (st:=jE) y u x)⟩
def walk{l:R1}{q:O0}{b:List Str}{o:(Str->Option Value)->Heap->Prop}{i:World->Heap->Prop}{d:DefRec}{K:Params->j'}(t:l.most=some 63)(c:d.params.defaults=[])
  (p:∀(w:World) (h:Heap),i w h->(K w.params).In h)
  (F:∀(w:World) (mg:Str->Option Value) (g:Addr) (h:Heap),(K w.params).In h->h.Ns PH mg->mg d.name=some (.ref g) ->
   ∃e:Pw,(∀(s:Shared) (u:Value),BindsTo s e ⟨[u],[]⟩ [("_law_script",u)])/\∀base:Heap,(K w.params).In base->base.Ns PH mg->cH l.prog w (K w.params) mg base nZ 20 g e ["_law_script"] (vj (K w.params))) :
  U8 q b o i l.row.toRowW d [] (λf vs=>Uj f vs) :=
 L2.GS (n:=63) (k:=20) (x:="_law_script") (CX:=λ_=>nZ) (sp:=λw=>vj (K w.params)) t (by decide) c ⟨rfl,by decide,by decide,rfl⟩ p F (λ_ _ a r m _ j=>⟨a,r,rfl,j,m,λ_=>rfl⟩) λ_ _ _ _ _ z=>z
end K07
open PySem PySem.W PyProof.Rows
set_option maxRecDepth 100000 in
set_option maxHeartbeats 0 in
theorem PySem.Challenge.cw_runrows_k07_one_step_holds : PySem.Challenge.rw_runrows_k07_one_step.Holds := by
 refine HK.hd ?_
 k_fill
 refine K07.walk (l:=Vi) rfl rfl (λw h Y=>HK.fIn_of Y) ?F
 case F =>
  intro w mg fa h KX G hmg
  refine' K07.all_mk KX G hmg ?la ?ll ?lc ?lk (K07.Hb KX G ?j0 ?j1 ?j2 ?j3 ?j4 ?j5 ?j6 ?j7 ?j8 ?j9 ?ja ?jb ?jc ?jd ?je ?jf ?jg ?jh ?ji ?jj ?jk ?jl ?jm ?jn ?jo ?jp ?jq ?jr ?js ?jt ?ju ?jv ?jw ?jx ?jy ?jz ?j10 ?j11 ?j12 ?j13 ?j14 ?j15 ?j16 ?j17 ?j18 ?j19 ?j1a ?j1b ?j1c ?j1d ?j1e ?j1f ?j1g ?j1h ?j1i ?j1j ?j1k ?j1l ?j1m ?j1n ?j1o ?j1p ?j1q ?j1r ?j1s ?j1t ?j1u ?j1v ?j1w ?j1x ?j1y ?j1z ?j20 ?j21 ?j22 ?j23 ?j24 ?j25 ?j26 ?j27 ?j28 ?j29 ?j2a ?j2b ?j2c ?j2d ?j2e ?j2f ?j2g ?j2h ?j2i ?j2j ?j2k ?j2l ?j2m ?j2n ?j2o ?j2p ?j2q ?j2r ?j2s ?j2t ?j2u ?j2v ?j2w ?j2x ?j2y ?j2z ?j30 ?j31 ?j32 ?j33 ?j34 ?j35 ?j36 ?j37 ?j38 ?j39 ?j3a ?j3b ?j3c ?j3d ?j3e ?j3f ?j3g ?j3h ?j3i ?j3j ?j3k ?j3l ?j3m ?j3n ?j3o ?j3p ?j3q ?j3r ?j3s ?j3t ?j3u ?j3v ?j3w ?j3x ?j3y ?j3z ?j40 ?j41 ?j42 ?j43 ?j44 ?j45 ?j46 ?j47 ?j48 ?j49 ?j4a ?j4b ?j4c ?j4d)
  (case la=>k_is)
  (case ll=>k_is)
  (case lc=>k_is)
  (case lk=>k_is)
  (case j0=>k_is)
  (case j1=>k_is)
  (case j2=>k_is)
  (case j3=>k_is)
  (case j4=>k_is)
  (case j5=>k_is)
  (case j6=>k_is)
  (case j7=>k_is)
  (case j8=>k_is)
  (case j9=>decide)
  (case ja=>exact K07.g_)
  (case jb=>exact K07.gy)
  (case jc=>exact K07.aP)
  (case jd=>exact K07.aP)
  (case je=>exact K07.aP)
  (case jf=>exact K07.aP)
  (case jg=>exact K07.aP)
  (case jh=>exact K07.aP)
  (case ji=>exact K07.aP)
  (case jj=>exact K07.pI KX G)
  (case jk=>exact K07.g_)
  (case jl=>exact K07.gy)
  (case jm=>exact K07.aP)
  (case jn=>exact K07.aP)
  (case jo=>exact K07.aP)
  (case jp=>exact K07.aP)
  (case jq=>exact K07.aP)
  (case jr=>exact K07.aP)
  (case js=>exact K07.aP)
  (case jt=>exact K07.pI KX G)
  (case ju=>exact K07.g_)
  (case jv=>exact K07.gy)
  (case jw=>exact K07.aP)
  (case jx=>exact K07.aP)
  (case jy=>exact K07.aP)
  (case jz=>exact K07.aP)
  (case j10=>exact K07.aP)
  (case j11=>exact K07.aP)
  (case j12=>exact K07.aP)
  (case j13=>exact K07.pI KX G)
  (case j14=>exact K07.g_)
  (case j15=>exact K07.gy)
  (case j16=>exact K07.aP)
  (case j17=>exact K07.aP)
  (case j18=>exact K07.aP)
  (case j19=>exact K07.aP)
  (case j1a=>exact K07.aP)
  (case j1b=>exact K07.aP)
  (case j1c=>exact K07.aP)
  (case j1d=>exact K07.pI KX G)
  (case j1e=>exact K07.g_)
  (case j1f=>exact K07.gy)
  (case j1g=>exact K07.aP)
  (case j1h=>exact K07.aP)
  (case j1i=>exact K07.aP)
  (case j1j=>exact K07.aP)
  (case j1k=>exact K07.aP)
  (case j1l=>exact K07.aP)
  (case j1m=>exact K07.aP)
  (case j1n=>exact K07.pI KX G)
  (case j1o=>exact K07.g_)
  (case j1p=>exact K07.gy)
  (case j1q=>exact K07.aP)
  (case j1r=>exact K07.aP)
  (case j1s=>exact K07.aP)
  (case j1t=>exact K07.aP)
  (case j1u=>exact K07.aP)
  (case j1v=>exact K07.aP)
  (case j1w=>exact K07.aP)
  (case j1x=>exact K07.BG KX G K07.lu)
  (case j1y=>exact K07.g_)
  (case j1z=>exact K07.gy)
  (case j20=>exact K07.aP)
  (case j21=>exact K07.aP)
  (case j22=>exact K07.aP)
  (case j23=>exact K07.aP)
  (case j24=>exact K07.aP)
  (case j25=>exact K07.aP)
  (case j26=>exact K07.aP)
  (case j27=>exact K07.pI KX G)
  (case j28=>exact K07.g_)
  (case j29=>exact K07.gy)
  (case j2a=>exact K07.aP)
  (case j2b=>exact K07.aP)
  (case j2c=>exact K07.aP)
  (case j2d=>exact K07.aP)
  (case j2e=>exact K07.aP)
  (case j2f=>exact K07.aP)
  (case j2g=>exact K07.aP)
  (case j2h=>exact K07.pI KX G)
  (case j2i=>exact K07.g_)
  (case j2j=>exact K07.gy)
  (case j2k=>exact K07.aP)
  (case j2l=>exact K07.aP)
  (case j2m=>exact K07.aP)
  (case j2n=>exact K07.aP)
  (case j2o=>exact K07.aP)
  (case j2p=>exact K07.aP)
  (case j2q=>exact K07.aP)
  (case j2r=>exact K07.BG KX G K07.oW)
  (case j2s=>exact K07.aP)
  (case j2t=>exact K07.bb KX G)
  (case j2u=>exact K07.bb KX G)
  (case j2v=>exact K07.bb KX G)
  (case j2w=>exact K07.bb KX G)
  (case j2x=>exact K07.bb KX G)
  (case j2y=>exact K07.bb KX G)
  (case j2z=>exact K07.bb KX G)
  (case j30=>exact K07.bb KX G)
  (case j31=>exact K07.bb KX G)
  (case j32=>exact K07.bb KX G)
  (case j33=>exact K07.bb KX G)
  (case j34=>exact K07.bb KX G)
  (case j35=>exact K07.bb KX G)
  (case j36=>exact K07.bb KX G)
  (case j37=>exact K07.bb KX G)
  (case j38=>exact K07.bb KX G)
  (case j39=>exact K07.bb KX G)
  (case j3a=>exact K07.bb KX G)
  (case j3b=>exact K07.bb KX G)
  (case j3c=>exact K07.bb KX G)
  (case j3d=>exact K07.bb KX G)
  (case j3e=>exact K07.bb KX G)
  (case j3f=>exact K07.bb KX G)
  (case j3g=>exact K07.bb KX G)
  (case j3h=>exact K07.bb KX G)
  (case j3i=>exact K07.bb KX G)
  (case j3j=>exact K07.bb KX G)
  (case j3k=>exact K07.bb KX G)
  (case j3l=>exact K07.bb KX G)
  (case j3m=>exact K07.bb KX G)
  (case j3n=>exact K07.bb KX G)
  (case j3o=>exact K07.pP KX G (by k_is))
  (case j3p=>exact K07.pP KX G (by k_is))
  (case j3q=>exact K07.pP KX G (by k_is))
  (case j3r=>exact K07.pP KX G (by k_is))
  (case j3s=>exact K07.pP KX G (by k_is))
  (case j3t=>exact K07.pP KX G (by k_is))
  (case j3u=>exact K07.pP KX G (by k_is))
  (case j3v=>exact K07.Ky KX G (by k_is))
  (case j3w=>refine' K07.Kz KX G ?e (K07.cQ (K07.n0.map L2.V.str) ?l ?z ?v (K07.zO K07.n0));(case e=>k_is);(case l=>k_is);(case z=>exact PU rfl);(case v=>exact(.cons ⟨_,rfl⟩ (.cons ⟨_,rfl⟩ (.cons ⟨_,rfl⟩ (.cons ⟨_,rfl⟩ (.cons ⟨_,rfl⟩ (.cons ⟨_,rfl⟩ (.cons ⟨_,rfl⟩ (.cons ⟨_,rfl⟩ (.cons ⟨_,rfl⟩ (.cons ⟨_,rfl⟩ (.cons ⟨_,rfl⟩ (.cons ⟨_,rfl⟩ (.cons ⟨_,rfl⟩ (.cons ⟨_,rfl⟩ (.cons ⟨_,rfl⟩ (.cons ⟨_,rfl⟩ (.cons ⟨_,rfl⟩ (.cons ⟨_,rfl⟩ (.cons ⟨_,rfl⟩ (.nil))))))))))))))))))))))
  (case j3x=>refine' K07.Gw KX G ?e ?l ?k ?h ?s ?t;(case e=>k_is);(case l=>k_is);(case k=>k_keys);(case h=>exact(K07.bV rfl rfl (K07.bV rfl rfl (K07.bV rfl rfl (K07.bV rfl rfl (K07.bV rfl rfl (K07.bV rfl rfl (K07.bV rfl rfl (K07.bV rfl rfl (.nil))))))))));(case s=>exact rfl);(case t=>refine' (.cons ?q0 (.cons ?q1 (.cons ?q2 (.cons ?q3 (.cons ?q4 (.cons ?q5 (.cons ?q6 (.cons ?q7 (.nil)))))))));(case q0=>refine' K07.cQ [(.int 2),(.int 0)] ?l ?z ?v ?d;(case l=>k_is);(case z=>exact PU rfl);(case v=>exact .cons ⟨_,rfl⟩ (.cons ⟨_,rfl⟩ .nil));(case d=>exact λ_=>.cons (.int _) (.cons (.int _) .nil)));(case q1=>refine' K07.cQ [(.int 2),(.int 0)] ?l ?z ?v ?d;(case l=>k_is);(case z=>exact PU rfl);(case v=>exact .cons ⟨_,rfl⟩ (.cons ⟨_,rfl⟩ .nil));(case d=>exact λ_=>.cons (.int _) (.cons (.int _) .nil)));(case q2=>refine' K07.cQ [(.int 2),(.int 1)] ?l ?z ?v ?d;(case l=>k_is);(case z=>exact PU rfl);(case v=>exact .cons ⟨_,rfl⟩ (.cons ⟨_,rfl⟩ .nil));(case d=>exact λ_=>.cons (.int _) (.cons (.int _) .nil)));(case q3=>refine' K07.cQ [(.int 4),(.int 3)] ?l ?z ?v ?d;(case l=>k_is);(case z=>exact PU rfl);(case v=>exact .cons ⟨_,rfl⟩ (.cons ⟨_,rfl⟩ .nil));(case d=>exact λ_=>.cons (.int _) (.cons (.int _) .nil)));(case q4=>refine' K07.cQ [(.int 3),(.int 1)] ?l ?z ?v ?d;(case l=>k_is);(case z=>exact PU rfl);(case v=>exact .cons ⟨_,rfl⟩ (.cons ⟨_,rfl⟩ .nil));(case d=>exact λ_=>.cons (.int _) (.cons (.int _) .nil)));(case q5=>refine' K07.cQ [(.int 3),(.int 2)] ?l ?z ?v ?d;(case l=>k_is);(case z=>exact PU rfl);(case v=>exact .cons ⟨_,rfl⟩ (.cons ⟨_,rfl⟩ .nil));(case d=>exact λ_=>.cons (.int _) (.cons (.int _) .nil)));(case q6=>refine' K07.cQ [(.int 3),(.int 1)] ?l ?z ?v ?d;(case l=>k_is);(case z=>exact PU rfl);(case v=>exact .cons ⟨_,rfl⟩ (.cons ⟨_,rfl⟩ .nil));(case d=>exact λ_=>.cons (.int _) (.cons (.int _) .nil)));(case q7=>refine' K07.cQ [(.int 4),(.int 1)] ?l ?z ?v ?d;(case l=>k_is);(case z=>exact PU rfl);(case v=>exact .cons ⟨_,rfl⟩ (.cons ⟨_,rfl⟩ .nil));(case d=>exact λ_=>.cons (.int _) (.cons (.int _) .nil)))))
  (case j3y=>refine' K07.Gw KX G ?e ?l ?k ?h ?s ?t;(case e=>k_is);(case l=>k_is);(case k=>k_keys);(case h=>exact(K07.bV rfl rfl (K07.bV rfl rfl (K07.bV rfl rfl (K07.bV rfl rfl (K07.bV rfl rfl (K07.bV rfl rfl (K07.bV rfl rfl (K07.bV rfl rfl (.nil))))))))));(case s=>exact rfl);(case t=>refine' (.cons ?q0 (.cons ?q1 (.cons ?q2 (.cons ?q3 (.cons ?q4 (.cons ?q5 (.cons ?q6 (.cons ?q7 (.nil)))))))));(case q0=>refine' K07.cQ [(.str "number"),(.str "number")] ?l ?z ?v ?d;(case l=>k_is);(case z=>exact PU rfl);(case v=>exact .cons ⟨_,rfl⟩ (.cons ⟨_,rfl⟩ .nil));(case d=>exact λ_=>.cons (.str _) (.cons (.str _) .nil)));(case q1=>refine' K07.cQ [(.str "number"),(.str "number")] ?l ?z ?v ?d;(case l=>k_is);(case z=>exact PU rfl);(case v=>exact .cons ⟨_,rfl⟩ (.cons ⟨_,rfl⟩ .nil));(case d=>exact λ_=>.cons (.str _) (.cons (.str _) .nil)));(case q2=>refine' K07.cQ [(.str "number"),(.str "number")] ?l ?z ?v ?d;(case l=>k_is);(case z=>exact PU rfl);(case v=>exact .cons ⟨_,rfl⟩ (.cons ⟨_,rfl⟩ .nil));(case d=>exact λ_=>.cons (.str _) (.cons (.str _) .nil)));(case q3=>refine' K07.cQ [.ah,(.str "truth")] ?l ?z ?v ?d;(case l=>k_is);(case z=>exact PU rfl);(case v=>exact .cons rfl (.cons ⟨_,rfl⟩ .nil));(case d=>exact λ_=>.cons .ah (.cons (.str _) .nil)));(case q4=>refine' K07.cQ [(.str "number"),(.str "truth")] ?l ?z ?v ?d;(case l=>k_is);(case z=>exact PU rfl);(case v=>exact .cons ⟨_,rfl⟩ (.cons ⟨_,rfl⟩ .nil));(case d=>exact λ_=>.cons (.str _) (.cons (.str _) .nil)));(case q5=>refine' K07.cQ [(.str "number"),(.str "truth")] ?l ?z ?v ?d;(case l=>k_is);(case z=>exact PU rfl);(case v=>exact .cons ⟨_,rfl⟩ (.cons ⟨_,rfl⟩ .nil));(case d=>exact λ_=>.cons (.str _) (.cons (.str _) .nil)));(case q6=>refine' K07.cQ [(.str "truth"),(.str "truth")] ?l ?z ?v ?d;(case l=>k_is);(case z=>exact PU rfl);(case v=>exact .cons ⟨_,rfl⟩ (.cons ⟨_,rfl⟩ .nil));(case d=>exact λ_=>.cons (.str _) (.cons (.str _) .nil)));(case q7=>refine' K07.cQ [(.str "truth"),(.str "truth")] ?l ?z ?v ?d;(case l=>k_is);(case z=>exact PU rfl);(case v=>exact .cons ⟨_,rfl⟩ (.cons ⟨_,rfl⟩ .nil));(case d=>exact λ_=>.cons (.str _) (.cons (.str _) .nil)))))
  (case j3z=>k_is)
  (case j40=>k_is)
  (case j41=>k_is)
  (case j42=>k_is)
  (case j43=>k_is)
  (case j44=>k_is)
  (case j45=>k_is)
  (case j46=>k_is)
  (case j47=>k_is)
  (case j48=>k_is)
  (case j49=>k_is)
  (case j4a=>k_is)
  (case j4b=>k_is)
  (case j4c=>k_is)
  (case j4d=>k_is)
#print axioms PySem.Challenge.cw_runrows_k07_one_step_holds