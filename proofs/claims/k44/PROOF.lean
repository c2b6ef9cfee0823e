import PyProof.Rows.All
import Wide.All
import OpenK.AllK
import Wide.FinOn
import Lean
import PyProof.EqAt
import PyProof.EqKinds
import PyProof.TupleCall
import PyProof.ExcAttrAll.ValueError
import PyProof.EnumMake
import PyProof.EnumStmt
import PyProof.Rows.EnumRows
import KE.KDictOf
import KE.KEqDict
import PyProof.Draws
import KE.KDictSum
import PyProof.Rows.SortStr
import PyProof.Rows.SetFrom
import PyProof.WalksMore
import PyProof.TupleIter
import PyProof.DictIter
import PyProof.DictWalks
import KE.KDictList
import PyProof.SeqRoads2
import PyProof.EnumIter
import PySem.Challenge.RW_runrows_k44_rings
set_option Elab.async false
set_option linter.all false
set_option maxRecDepth 100000
set_option maxHeartbeats 4000000
open PySem.W renaming Frag->l',mg_none_of->Ux,hasDictIn->Vh,callWith_K->V_,OpenLaw->WV,cellsFrom_some->Wa,methodCall_KW->Wg,hideAll_get->XA,hideAll_none->X1,findObj_own->X7,findObj->X8,callWith_K0->X9,plainGet->YH,of_hideAll->YI,looks_find->YJ,codeRec_of->YK,kitx_dict->YX,handed_on->YY,specialIn->Yw,kia_one->Yx,hideAll->Yy,KeysLit->Yz,makesIn->Y6,WalkO->ZK,handedIn->ZT,any_some->ZU,KitX->ZV,takesIn->Zy,binds_K->Zz,set_plain->Z9,plainOver->Z_,sub->aAr,takerIn->aB7
open List renaming length_map->tz,mem_singleton->D',getElem?_eq_getElem->F',mem_cons->Gc,mem_of_getElem?->K',mem_cons_self->N',map_cons->TM,mem_cons_of_mem->TR,getElem?_map->TX,length_append->TY,getElem?_eq_some_iff->Te,mem_append_right->Tf,length_cons->Tg,contains_iff_mem->Th,size_toArray->Ti,mem_map->Tj,mem_append_left->To,mem_iff_getElem?->Tp,not_mem_nil->Tt,length_take->Tu,map_append->Tv,lookup_cons->Tx,length_nil->Tz,take_length->T2,sum_cons->T3,mem_append->T4,replicate->T_,map_nil->T',length_drop->UC,append_nil->UD,map_map->UG,sum_nil->UJ,find?_cons->UK,getElem?_append_right->UL,getElem?_append_left->UM,nodup_cons->UN,append_assoc->US,filterMap_map->UW,take_succ->UX,map_congr_left->UY,range->Ua,mem_of_mem_take->Ub,lookup->Uc,any_cons->Ud,filterMap_append->Uh,all_eq_true->Ul,getD_eq_getElem?_getD->Uo,mem_filter->Uq,getElem?_eq_none_iff->Ur,flatMap_cons->Uy,replicate_succ->U5,flatMap_append->U6,mem_range->U7,getElem?_take->U8,take_append_drop->U9,nodup_append->VD,filterMap_cons->VH,getElem?_cons_succ->VI,reverse_cons->VS,flatten_cons->VT,length->VZ,length_filterMap_le->Vg,mem_filterMap->Vi,zipWith->Vm,take_of_length_le->Vn,length_replicate->Vv,getElem?_toArray->Vw,mem_flatMap->Vx,cons_append->Vy,all_cons->V2,length_take_le'->V4,of_mem_zip->V7,length_set->V8,foldl_cons->V9,length_zipWith->WA,length_reverse->WB,take_zero->WE,nodup_nil->WG,getElem?_drop->WH,take_sublist->WS,length_range->WT,getElem?_set->WU,map_take->WW,mem_toArray->Wd,getElem?_replicate->We,filter_cons->Wf,nil_append->Wo,getElem?_zipWith->Wt,getElem?_reverse->Wu,map_drop->W5,find?_toArray->W_,getElem?_nil->XH,getElem?_inj->XI,drop_sublist->XJ,countP_cons->XQ,any_eq_true->XS,mem_zipIdx_iff_getElem?->Xb,length_zip->Xc,getElem?_zip_eq_some->Xu,getElem?_cons_zero->X6,getElem?_set_self->YC,all_map->YD,not_lt->Yd,mem_of_mem_drop->Ye,getElem?_set_ne->Yf,contains_eq_mem->Yg,lt_of_le_of_lt->Yq,length_flatMap->Yr,filter_eq_self->Ys,length_zipIdx->Y2,foldl->Y3,find?_eq_none->Y4,foldl_append->ZE,zipIdx_cons->ZO,map_reverse->ZP,getElem_mem->ZQ,flatMap_nil->ZR,zipIdx_nil->Zb,forIn_cons->Zc,forIn_nil->Zk,drop_zero->Zl,any_map->Z6
open PySem.Heap renaming get?_push_of_some->B',get?_push_size->TN,lt_size->TU,get?_update_other->T6,get?_update_self->UO,size_push->UQ,ExtBut->UU,SameBut->Vl,get?_none_of_le->Wx,get?_update_ne->Yo,get?_push_at->Y8,MadeExcOf->Ze
open Bool renaming false_ne_true->Fk,and_eq_true->Tw,false_eq_true->Vj,eq_iff_iff->Wp,beq_comm->Zv
open Nat renaming le_trans->G',le_refl->S',lt_of_le_of_lt->Tc,ne_of_lt->Tq,le_of_ble_eq_true->Ts,lt_of_lt_of_le->UB,succ_le_succ->UH,zero_le->UP,ne_of_gt->Uj,lt_irrefl->Uw,lt_succ_of_lt->U0,le_succ->Va,min_le_right->Vc,lt_trans->Vd,le_add_right->Ve,le_of_lt->Vp,mod_eq_of_lt->V1,succ->V5,add_le_add_right->V6,lt_succ_self->Wi,mod_lt->XC,max_le->XD,succ_ne_self->XY,succ_mul->YS,mod_self->YT,min_self->YU,le_of_eq->YV,ble_eq_true_of_le->Yc,mul_le_mul_right->Yp,sub_add_cancel->ZA,not_lt->ZC,not_le->ZD,not_lt_zero->Zi,min_eq_left->Zj,sub_self->aAF,lt_or_ge->aAG,beq->aAH,add_comm->aAI
open Or renaming inl->TQ,inr->Wc
open PySem renaming Program->TV,mainGlobals->TZ,FuncData->UE,bootBuiltins->UR,attributeBase->UZ,swapsWith->Ue,wpAny_Call_Name_kw->Ug,firstArgMember->U3,sysModules->U_,Keyword->VN,codeAny->VQ,wpAny_passesOwn->VX,mem_of_lookup->Vb,Within->Vk,sizeLine_eq->Vq,DictEntry->Vr,wpAny_loadPart_at->Vz,PassesOwn->V',wpAny_execs_nil->WI,slot_listiter_next->WY,isSubtype_stop->WZ,standAt->Wj,callWith->W',scanBound->XE,wpAny_pyIter_tuple->XW,slot_list_getitem->Xd,concat_meets->Xe,callerA->Xf,ZipApart->Xg,NameKind->Xh,plainObj_wpAny_Assign_Attribute->Xl,pastItsLine_dict->Xr,noFill_tuple_add->Xs,IsRangeIter->Xx,wpAny_newFunctionEnv_cells->YE,newTuple->YF,boot_len->YG,GenState->YM,seq_tuple_add->Yh,eval_ListComp->Yi,evalPart_none->Yj,call->Yk,slicePick->Yv,wpAny_pyNext_list_item->Y5,wpAny_pyIter_listiter->ZG,wpAny_nextOf_list_end->ZH,wpAny_isTrue_Compare1->ZI,codeAny_call_function->ZJ,compPost->ZS,entry_listiter_next->Zd,wpAny_Name->Zn,closureFor->Zo,builtinsNs->Zp,wpAny_pyIter_enum->Zx,OwnTail->Z4,wpAny_pyIter_zip->Z7,wpAny_execs_cons->Z8,wpAny_notIn_of->aAf,wpAny_Compare1->aAg,recursionLimit->aAh,bindArgs->aAi,IntMulOk->aAl,evalPart_some->aAo,call_list_seq->aAp,call_all_walk->aAq,ExceptHandler->aB5,operate->aB6
open PySem.Value renaming ref->Td,none->T5,str->Um,isStrOf->VE,type->VY,int->Vt,bool->Vu,builtin->WO,isInt->Z1,float->Z2,bytes->Z3
open PySem.PassesOwn renaming never->T7,leaving->W1
open PySem.Builtin.SmallTypes renaming nextOf->T8,ownedTupleIsFree->Uu,ownedTupleHandOut->WD,stopIteration->ZN
open True renaming intro->T9
open Option.some renaming inj->UA,injEq->Xz
open False renaming elim->UI
open PySem.Obj renaming mapFields->UT,data_mapFields->Uk,isFreed_of_fields->Ut,cls_mapFields->VU,mapSeq->aAk
open PySem.F renaming plainAttrs_list->Ui,slot_tuple_iterator_next->Up,plain_max_loop->VM,called_set->Vf,slot_list_index->V3,args_tuple_iterator_next_1->WC,entry_tuple_iterator_next->WJ,args_tuple_add_2->WK,slot_str_split->WQ,entry_tuple_add->WR,slot_tuple_add->Wb,slot_zip_next->Wy,args_str_split_2->XN,entry_str_split->XX,entry_max_loop->Xi,type_list_index->Xn,slot_list_count->Xo,attr_ValueError->Xp,slot_range_iterator_next->X4,slot_list_reverse->X_,slot_list_remove->YN,slot_list_extend->YO,slot_list_append->YQ,slot_enumerate_next->Y0,args_list_index_2->ZM,entry_list_index->ZZ,args_zip_next_1->Zg,entry_zip_next->Zs,slot_int_rmul->Z5
open PySem.PyData renaming eqv->Us,canLay0->Ws,strOk->W6,depth->W7,canLayAll0->Yn,depthAll->Y7,eqvAll->ZY
open PySem.Txt renaming split->Uv,slice->VB
open Sum renaming inr->Uz,inl->XM
open List.Sublist renaming nodup->U1
open Int renaming toNat_natCast->U2,le_trans->XO,le_refl->Yt,emod_lt_of_pos->ZF,emod_nonneg->Zm,zero_add->aAL,ediv_one->aAM
open Array renaming length_toList->U4,getElem?_toList->Vs,size_append->WN,getElem?_eq_some_iff->Xk,toArray_toList->YW,find?_toList->Yu,toList->Zw
open PySem.SeqAt renaming shaped->U',canLay_of_shaped->X2,list_indexAt->Ym,in_listAt->ZL,eqv_refl->ZX,EqAt->aA0
open PySem.Builtin.Str renaming occurrences->VA,tooLong->Xq
open Option renaming isSome_iff_exists->VC,map->W3,isSome_map->W9,getD_some->XF,bind_some->XG,map_eq_some_iff->X0,none->YB,getD_none->Y1,map_some->Y'
open PySem.Str renaming ofString->VF,length->XB,empty->aAs
open Ne renaming symm->VG
open PyProof.Rows renaming callWith_type1->VJ,slot_tuple_getitem->VL,AllBare->Wk,boot_isinstance->W2,sortedS->YA,Subscript_->YR,subscriptTail_builtinR->Y9,tail_any->Za,callWith_builtin1->aAd,Assign_Tuple->aAe
open PySem.Builtin.Slice renaming slicePlaces->VO,sliceAdjust->V0,sliceApplied->W4,slicePartIndex->aAC,sliceFields->aAD
open PySem.Heap.SameBut renaming update->VP
open PySem.Builtin.Tuple renaming tupleExact->VR,tupleItemsOf->aAA,tupleHashOf->aAB
open PySem.Builtin.List renaming listTooLong->VV,listFitsIndex->aAc
open PySem.Around renaming under_plainId->VW,under->Xy
open PySem.NameKind renaming free->Vo,cell->Wv
open Classical renaming propDecidable->WL,byContradiction->XU,em->aBC
open PySem.Paired renaming length->WM,snoc->Zq
open ForInStep renaming yield->WX
open PySem.W.Looks renaming here->Wh,ld->Z'
open Sum.inr renaming inj->Wl
open PySem.Builtin.Frozenset renaming updateFrom->Wm
open PyProof.Rows.F renaming plain_set_update_loop->Wn,entry_set_update_loop->Yb
open PySem.SeqAt.EqAt renaming str_str->Wq,bool_bool->Xm,str_int->Xv,int_str->Xw,str_none->aAt,str_bool->aAu,same->aAv,none_str->aAw,none_int->aAx,none_bool->aAy,int_none->aAz,int_int->aB0,int_bool->aB1,bool_str->aB2,bool_none->aB3,bool_int->aB4
open PySem.Builtin.Builtins renaming bindParams->Ww
open PySem.Bind renaming checkArgs->Wz
open PyProof.Rows.LSm renaming kept_iter->W0,range_all->Zh
open PySem.Code renaming quiet_builtin->W8,isFrame->X',frames->aA9
open PySem.Within renaming cons->XZ
open PySem.Heap.IsSliceOf renaming new->Xa
open PySem.Calls renaming Name_function_global->Xj,callWith_builtin->X5
open PySem.EntryCells renaming newEntry->Xt
open PySem.Manifest renaming signature?->X3
open PySem.Heap.Ns1 renaming of_empty->YL
open PySem.W.S renaming sub->YZ
open PySem.Data renaming seq->Ya
open PySem.Walks renaming list->Yl
open PyProof.Rows.IsTup renaming new->Y_
open PySem.SeqRoads2.EqGives renaming str->ZW
open PySem.Heap.IsTupleIter renaming «at»->Zf
open PySem.Heap.IsListIter renaming «at»->Zr
open PySem.Challenge renaming rw_runrows_k44_rings->Zt,pw_runrows_k44_rings->Zu
open PySem.W.WShape renaming has->Z0
open PySem.EqMixed renaming ne_str_int->aA1,ne_str_bool->aA2,ne_int_str->aA3,ne_bool_str->aA4,eq_str_int->aA5,eq_str_bool->aA6,eq_int_str->aA7,eq_bool_str->aA8
open PySem.Builtin.Range renaming rangeSize->aAE
open List.Pairwise renaming nil->aAJ,imp->aAK
open PySem.W.WData renaming int->aAN
open PySem.EqNone renaming ne_str_none->aAO,ne_none_str->aAP,ne_none_none->aAQ,ne_none_int->aAR,ne_none_bool->aAS,ne_int_none->aAT,ne_bool_none->aAU,eq_str_none->aAV,eq_none_str->aAW,eq_none_none->aAX,eq_none_int->aAY,eq_none_bool->aAZ,eq_int_none->aAa,eq_bool_none->aAb
open PySem.SeqAt.Reads renaming unique->aAj
open PySem.Heap.IsList renaming push->aAm
open PySem.Heap.DictOf renaming new->aAn
open PySem.Value.ref renaming inj->aB8
open PySem.IsL renaming update->aB9
open PySem.DictEntry renaming refKey->aBA
open PySem.AutoListH renaming list___mul___list_int_3->aBB
open PySem.W (instObj methodObj hideAll_get lookIn InstAt plainGet hasDictIn findIn handedIn plainGet_of isFn plainOver takerIn set_plain any_some looks_clsIn makesIn typeIn emptyDict looks_findIn keepIn callWith_K fnOf codeIn specialIn takesIn mroIn kitOne mapOf_K kitCls looks_mroIn Looks findObj clsIn notCls nsIn mg_of binds_K mg_none_of)
namespace HK
open PySem PySem.W PyProof.Rows
def cK(o:Obj):Option Obj:=match o with
 |⟨_,_,.freed,_⟩=>none
 |o=>some o
theorem get_look(h:Heap)(a:Addr):h.get? a=(h.objs.toList[a]?).bind cK:=by
 unfold Heap.get?
 rw[Vs]
 cases h.objs[a]? with
 |none=>rfl
 |some o =>
  obtain⟨c,d,x,s⟩:=o
  cases x<;>rfl
noncomputable def pick (os:List Obj):Nat->List Addr->List (Option Obj) :=
 List.rec (motive:=λ_=>Nat->List Addr->List (Option Obj)) (λ_ b=>b.map λ_=>none)
  (λo _ c i b=>List.casesOn (motive:=λ_=>List (Option Obj)) b [] λa r=>cond (aAH i a) (cK o::c (V5 i) r) (c (V5 i) (a::r))) os
def upB:Nat->List Addr->Bool
 |_,[]=>true
 |i,a::r=>Nat.ble i a&&upB (V5 a) r
theorem upB_mono:∀{b:List Addr} {i j:Nat},i<=j->upB j b=true->upB i b=true
 |[],_,_,_,_=>rfl
 |a::r,i,j,h,u=>by
  unfold upB at u ⊢
  rw[Tw] at u ⊢
  exact⟨Yc (G' h (Ts u.1)),u.2⟩
theorem pick_of:∀(os:List Obj) (i:Nat) (f:List Addr),upB i f=true->pick os i f=f.map λa=>(os[a - i]?).bind cK
 |[],i,f,_=>by
  show f.map (λ_=>none)=_
  apply UY
  intro a _
  simp
 |o::os,i,[],_=>rfl
 |o::os,i,a::r,u=>by
  have p:=u
  unfold upB at u
  rw[Tw] at u
  have h:=Ts u.1
  show cond (aAH i a) (cK o::pick os (V5 i) r) (pick os (V5 i) (a::r))=_
  have step:∀l:List Addr,upB (V5 i) l=true->(l.map λa=>(os[a - V5 i]?).bind cK)=l.map λa=>((o::os)[a - i]?).bind cK:=by
   intro l g
   apply UY
   intro b hb
   have n:i+1<=b:=by
    clear u p h
    induction l generalizing i with
    |nil=>cases hb
    |cons c l m =>
     unfold upB at g
     rw[Tw] at g
     have h1:=Ts g.1
     rcases Gc.mp hb with rfl|hb
     ·exact h1
     ·exact G' (by omega) (m (i:=c) g.2 hb)
   rw[show b - i=(b - (i+1))+1 by omega]
   rfl
  cases e:aAH i a with
  |true =>
   have:i=a:=Nat.eq_of_beq_eq_true e
   subst this
   show cK o::pick os (V5 i) r=_
   rw[pick_of os _ r u.2,step r u.2,TM,aAF]
   rfl
  |false =>
   have s:i≠a:=Nat.ne_of_beq_eq_false e
   show pick os (V5 i) (a::r)=_
   have j:upB (V5 i) (a::r)=true:=by
    unfold upB
    rw[Tw]
    exact⟨Yc (by omega),u.2⟩
   rw[pick_of os _ (a::r) j,step _ j]
noncomputable def fHook (K:Params->Frag)(b:List Addr)(e:∀P,b=(K P).map (·.1))(u:upB 0 b=true)(_:Unit):Hook :=
 ⟨List (Option Obj),λs=>pick s.heap.objs.toList 0 b,λw=>(K w.params).map λp=>some p.2,InK K,λw s x=>InK.of e w s (by
  rw[<- x,pick_of _ _ _ u]
  apply UY
  intro a _
  exact get_look _ _),InK.keeps⟩
theorem fIn_of{K:Params->Frag}{e:∀P,a=(K P).map (·.1)}(Y:(fHook K a e u x).says w h):(K w.params).In h:=Y
end HK
set_option compiler.extract_closed false
namespace PySem.W.Fast
open Lean in
local macro_rules
 |`(universe $_) => do
  let w:=λs:String=>s.splitOn " "
  let e:=w "45 48 49 51 53 63 73 79 88 94 103 109 113 125 131 140 146 150 162 168 172 184 190 194 206 212 221 227 236 242 251 257 267 272 279 286 288 293 300 307 323 330 336 337 339 344 348 355 362 367 372 379 384 389 396 403 410 424 430 434 441 448 455 462 474 480 484 491 498 505 512 519 526 538 544 548 555 562 569 576 583 595 601 605 612 619 626 633 640 652 658 662 669 676 683 690 697 709 711 718 725 732 739 746 751 756 763 770 777 791 796 801 808 815 822 836 841 845 852 859 866 873 887 894 896 903 910 917 924 931 938 945 950 955 960 967 974 976 981 988 995 1002 1008 1013 1020 1027 1034 1041 1048 1055 1062 1074 1080 1084 1091 1098 1105 1112 1119 1126 1138 1144 1148 1155 1162 1169 1176 1183 1190 1197 1204 1216 1222 1227 1234 1241 1248 1255 1262 1269 1276 1283 1290 1302 1313 1320 1327 1334 1341 1346 1353 1359 1360 1362 1364 1369 1376 1381 1388 1393 1398 1405 1412 1419 1424"
  let n:=w "heap_39 heap_47 heap_1428 view_39 env_42 tree_48 tree_71 tree_86 tree_101 tree_123 tree_138 tree_160 tree_182 tree_204 tree_219 tree_234 tree_249 tree_284 tree_335 tree_422 tree_472 tree_536 tree_593 tree_650 tree_707 tree_744 tree_789 tree_834 tree_892 tree_972 tree_1000 tree_1072 tree_1136 tree_1214 tree_1300 tree_1358 tree_1427 sts_50 sts_72 sts_87 sts_102 sts_124 sts_139 sts_161 sts_183 sts_205 sts_220 sts_235 sts_250 sts_285 sts_338 sts_423 sts_473 sts_537 sts_594 sts_651 sts_708 sts_745 sts_790 sts_835 sts_893 sts_973 sts_1001 sts_1073 sts_1137 sts_1215 sts_1301 sts_1361"++((List.range 1384).filterMap λi=>let s:=toString (i+44);if e.contains s then none else some ("o_"++s))
  return mkNullNode (←n.toArray.mapM λs=>`(def $(mkIdent (.mkSimple ("tw"++toString (Name.mkStr `HK.hd s).hash))):ident:True:=trivial))
universe x
def tw17564608227882755769:True:=trivial
def tw14557923327801015275:True:=trivial
end PySem.W.Fast
namespace HK
open PySem PySem.W PyProof.Rows
local macro_rules
 | `(tactic| o_head ($_:ident $k $a $e)) => `(tactic| o_head (HK.fHook $k $a $e (by decide +kernel) ()))
 | `(tactic| o_head ($_:ident $k $a $e $_)) => `(tactic| o_head (HK.fHook $k $a $e (by decide +kernel) ()))
set_option maxHeartbeats 0 in
open_top hd for PySem.Challenge.rw_runrows_k44_rings
end HK
noncomputable section
open Lean Parser Syntax in
local macro_rules
 |`(def $i:declId $s:optDeclSig $v:declVal)=>`(noncomputable def $i:declId $s:optDeclSig $v:declVal)
 |`(abbrev $i:declId $s:optDeclSig $v:declVal)=>`(noncomputable abbrev $i:declId $s:optDeclSig $v:declVal)
local macro_rules
 |`(tactic|omega)=>`(tactic|first|decide|with_reducible first|exact Nat.le_refl _|assumption|exact Nat.le_add_right _ _|exact Nat.le_add_left _ _|exact Nat.zero_le _|exact Nat.succ_pos _|exact Nat.le_of_lt (by assumption)|exact Nat.le_succ_of_le (by assumption)|omega +splitNatSub)
open Lean Parser Syntax in
local macro_rules (kind:=Lean.Parser.Term.fun)
 |s=>do
  let ok:=λp:Syntax=>p.isOfKind ``Term.anonymousCtor&&(p.find? λn=>[``Term.app,``Term.dotIdent,``Term.typeAscription,`num,``Term.paren,`«term_+_»].contains n.getKind).isNone
  let bs:=s[1][0].getArgs
  unless s[0].getAtomVal=="fun"&&bs.any ok do Macro.throwUnsupported
  let P:=λk a=>mkNode (`Lean.Parser.Tactic++k) a
  let t:=λn:Syntax=>if n.isIdent then (P `rcasesPat.one #[n]:Syntax) else if n.isOfKind ``Term.hole then P `rcasesPat.ignore n.getArgs else if n.isOfKind ``Term.anonymousCtor then P `rcasesPat.tuple #[n[0],mkNullNode (n[1].getArgs.map λa=>if a.isAtom then a else P `rcasesPatLo #[P `rcasesPatMed #[mkNullNode #[a]],mkNullNode]),n[2]] else n
  let mut c:=#[]
  let mut r:=⟨s[1][3]⟩
  for x in bs.reverse do
   let y:=mkIdent (.mkSimple ("_"++toString c.size))
   if ok x then
    if (s[1][3].find? (·.isOfKind ``Term.syntheticHole)).isSome then
     let a:=x[1].getSepArgs
     let z:=λi=>if i==0 then y.getId else Name.mkSimple ("_z"++toString i)
     for j in [1:a.size] do
      let i:=a.size-1-j
      r←`($(mkIdent (z i++`casesOn)) fun $(⟨a[i]!⟩) $(if j==1 then ⟨a[i+1]!⟩ else mkIdent (z (i+1)))=>$r)
    else r←`(by obtain $(⟨x.rewriteBottomUp t⟩):rcasesPat:=$y;exact $r)
    c:=#[y.1]++c
   else c:=#[x]++c
  return s.setArg 1 (s[1].setArg 0 (mkNullNode c)|>.setArg 3 r)
open PySem PySem.Spec PyProof.Rows
theorem b3(h:True:=by rfl):True:=h
namespace b3
end b3
open b3 renaming _auto_1->dI
theorem dL(h:True:=by k_is):True:=h
namespace dL
end dL
open dL renaming _auto_1->dO
theorem e5(h:True:=by decide):True:=h
namespace e5
end e5
open e5 renaming _auto_1->e7
theorem e8(h:True:=by intro _;rfl):True:=h
namespace e8
end e8
open e8 renaming _auto_1->eH
theorem eR(h:True:=by first|exact .inl rfl|exact .inr rfl|assumption):True:=h
namespace eR
end eR
open eR renaming _auto_1->eS
theorem f0(h:True:=by intro _ _ _ _ _ _;refine K44.a9 ?_;(repeat intro _);exact rfl):True:=h
namespace f0
end f0
open f0 renaming _auto_1->f3
theorem f4(h:True:=by decide +kernel):True:=h
namespace f4
end f4
open f4 renaming _auto_1->f6
namespace L2
abbrev Key:=Sum Int Str
def uq:Key->Value->Bool
 |.inl k,v=>Z1 k v
 |.inr x,v=>VE x v
def Q8(w:World):Key->Int
 |.inl k=>hashInt k
 |.inr x=>hashStr w x
def cC:∀{k:Key} {v:Value},uq k v=true->(∃i t,k=XM i/\v=Vt i t)\/(∃x t,k=Uz x/\v=Um x t)
 |.inl i,v,h=>by
  obtain⟨t,e⟩:=Value.isInt_shape (k:=i) (v:=v) h
  exact .inl ⟨i,t,rfl,e⟩
 |.inr x,v,h=>by
  obtain⟨t,e⟩:=Value.isStrOf_shape (x:=x) (v:=v) h
  exact .inr ⟨x,t,rfl,e⟩
def DI(i:Int)(t:Tok):uq (.inl i) (.int i t)=true:=by simp[uq,Z1]
def DJ(x:Str)(t:Tok):uq (.inr x) (.str x t)=true:=by simp[uq,VE]
def MB(a b:Int):decide ((XM a:Key)=XM b)=(a == b):=by
 by_cases e:a=b
 ·subst e;simp
 ·have h:¬ (XM a:Key)=XM b:=λq=>e (Sum.inl.inj q)
  rw[decide_eq_false h]
  exact(beq_eq_false_iff_ne.mpr e).symm
def MG(a b:Str):decide ((Uz a:Key)=Uz b)=decide (a=b):=by
 by_cases e:a=b
 ·subst e;simp
 ·have h:¬ (Uz a:Key)=Uz b:=λq=>e (Wl q)
  rw[decide_eq_false h,decide_eq_false e]
def MC(a:Int)(b:Str):decide ((XM a:Key)=Uz b)=false:=decide_eq_false (λq=>nomatch q)
def ME(a:Str)(b:Int):decide ((Uz a:Key)=XM b)=false:=decide_eq_false (λq=>nomatch q)
def cL(prog:TV)(w:World):PySem.KeyKind prog w Key where
 is:=uq
 hash:=Q8 w
 inj:=λv a b m g=>by
  rcases cC m with⟨i,t,rfl,rfl⟩|⟨x,t,rfl,rfl⟩
  ·rcases cC g with⟨j,u,rfl,e⟩|⟨y,u,rfl,e⟩
   ·injection e with c _;rw[c]
   ·exact nomatch e
  ·rcases cC g with⟨j,u,rfl,e⟩|⟨y,u,rfl,e⟩
   ·exact nomatch e
   ·injection e with c _;rw[c]
 byValue:=λk v h=>by
  rcases cC h with⟨i,t,rfl,rfl⟩|⟨x,t,rfl,rfl⟩<;>rfl
 pyHash:=λf h=>by
  rcases cC f with⟨i,t,rfl,rfl⟩|⟨x,t,rfl,rfl⟩
  ·exact wpAny_pyHash_int h
  ·exact wpAny_pyHash_str h
 eqBool:=λl f h=>by
  rcases cC l with⟨i,t,rfl,rfl⟩|⟨x,t,rfl,rfl⟩
  ·rcases cC f with⟨j,u,rfl,rfl⟩|⟨y,u,rfl,rfl⟩
   ·rw[MB] at h;exact wpAny_eqBool_int h
   ·rw[MC] at h;exact Xw i t y u _ _ _ _ h
  ·rcases cC f with⟨j,u,rfl,rfl⟩|⟨y,u,rfl,rfl⟩
   ·rw[ME] at h;exact Xv x t j u _ _ _ _ h
   ·rw[MG] at h;exact wpAny_eqBool_str h
 «strs»:=λk x t v h=>by
  rcases cC h with⟨i,u,rfl,e⟩|⟨y,u,rfl,e⟩
  ·exact nomatch e
  ·injection e with c _
   subst c
   cases v<;>rfl
def yX(prog:TV)(w:World)(i:Int)(t:Tok):(cL prog w).is (.inl i) (.int i t)=true:=DI i t
def yY(prog:TV)(w:World)(x:Str)(t:Tok):(cL prog w).is (.inr x) (.str x t)=true:=DJ x t
inductive V where
 |ae|bl (b:Bool)|int (i:Int)|str (x:Str)|zc (b:Array UInt8)|QS (b:UInt64)|ref (a:Addr)|ty (n:String)
 deriving DecidableEq
def RelV:V->Value->Prop
 |.ae,u=>u=T5
 |.bl b,u=>u=Vu b
 |.int i,u=>∃t,u=Vt i t
 |.str x,u=>∃t,u=Um x t
 |.zc b,u=>∃t,u=Z3 b t
 |.QS b,u=>∃t,u=Z2 b t
 |.ref a,u=>u=Td a
 |.ty n,u=>u=VY n
abbrev Vals:List V->List Value->Prop:=Paired RelV
def Vals.length(r:Vals xs a):xs.length=a.length:=WM r
def Vals.get:∀{xs:List V} {us:List Value} {i:Nat} {x:V},Vals xs us->xs[i]?=some x->∃u,us[i]?=some u/\RelV x u
 |_,_,_,_,.nil,e=>by simp at e
 |_,_,0,_,.cons r _,e=>by simp at e;subst e;exact⟨_,rfl,r⟩
 |_,_,i+1,x,.cons _ t,e=>by
  obtain⟨u,h1,a⟩:=Vals.get (i:=i) (x:=x) t (by simpa using e)
  exact⟨u,by simpa using h1,a⟩
def Vals.append:∀{xs ys:List V} {us a:List Value},Vals xs us->Vals ys a->Vals (xs++ys) (us++a)
 |_,_,_,_,.nil,s=>s
 |_,_,_,_,.cons r t,s=>.cons r (Vals.append t s)
def Vals.take:∀{xs:List V} {us:List Value} (n:Nat),Vals xs us->Vals (xs.take n) (us.take n)
 |_,_,0,_=>.nil
 |_,_,_+1,.nil=>.nil
 |_,_,n+1,.cons r t=>.cons r (Vals.take n t)
def Vals.drop:∀{xs:List V} {us:List Value} (n:Nat),Vals xs us->Vals (xs.drop n) (us.drop n)
 |_,_,0,r=>r
 |_,_,_+1,.nil=>.nil
 |_,_,n+1,.cons _ t=>Vals.drop n t
def gJ:Option V->Option Value->Prop
 |some v,some u=>RelV v u
 |none,none=>True
 |_,_=>False
def KV{κ:Type}:List (κ × V)->List (κ × Value)->Prop:=Paired fun(p:κ × V) (q:κ × Value)=>p.1=q.1/\RelV p.2 q.2
def kV:Key->V
 |.inl i=>.int i
 |.inr x=>.str x
inductive HO where
 /-- a list -/
 |lst (xs:List V)
 /-- a tuple (never changes) -/
 |tup (xs:List V)
 /-- a dict whose keys are ints and texts;one whose keys are tuples of ints and texts (the empty one is both) -/
 |dK (kvs:List (Key × V))|dT (kvs:List (List Key × V))
 /-- a set of ints: its members,its size -/
 |set (S:Int->Bool) (n:Nat)
 /-- an instance of the class at C,its dict at dx,its attributes -/
 |ins (C dx:Addr) (fs:List (Str × V))
 /-- the dict of the instance at x -/
 |own (x:Addr)
 /-- the dict of an exception -/
 |xd (fs:List (Str × V))
 /-- a bound method,f of x -/
 |met (f x:Addr)
 /-- a range object lo,lo+1,.. below hi -/
 |QZ (lo hi:Int)
 /-- a thing that is known to the object (the script;a dict while a loop walks it): read,never written while it is so -/
 |eu (o:Obj) (u:HO)
 /-- a code object's table -/
 |HP (ps:Array Value)
 /-- any other thing,by what is true of its one object (a def of one's own: xU a S n:=HO.ext λh=>..) -/
 |ext (φ:Heap->Prop)
abbrev Hp:=Addr->Option HO
def upd(H:Hp)(a:Addr)(o:HO):Hp:=λb=>if b=a then some o else H b
def aF :upd H a o a=some o:=by unfold upd;rw[if_pos rfl]
def aG(h:b≠a):upd H a o b=H b:=by unfold upd;rw[if_neg h]
def pH :upd (upd H a o) a u=upd H a u:=by
 funext b;unfold upd;split<;>rfl
def O5{H:Hp}(h:H a=some o)(c:H b=some u)(d:o≠u):a≠b:=by
 intro e;subst e;rw[h] at c;exact d (UA c)
def aQ{H:Hp}(h:H a=some o)(c:H b=none):a≠b:=by
 intro e;subst e;rw[h] at c;cases c
section
variable (P:TV)(w:World)
def aO(H:Hp)(h:Heap)(a:Addr):HO->Prop
 |.lst e=>e.length<=sizeLine/\∃(c:List Value) (n:Nat),Vals e c/\h.get? a=some { cls:=.type "list",data:=.seq c.toArray n }
 |.tup e=>e.length<=sizeLine/\∃c:List Value,Vals e c/\IsTup h a c.toArray
 |.dK b=>b.length<=sizeLine/\(a == U_)=false/\∃i,KV b i/\h.DictOf (cL P w) a i
 |.dT b=>b.length<=sizeLine/\(a == U_)=false/\∃e:List (List Key × Addr × Value),
   Paired (fun(p:List Key × V) (q:List Key × Addr × Value)=>p.1=q.1/\H q.2.1=some (.tup (p.1.map kV))/\RelV p.2 q.2.2) b e /\
   ∃o m s,h.get? a=some o/\o.ExactDict/\o.data=.dict m s/\m.toList=e.map (entryOfKey (tupleKind (cL P w)))/\(e.map (·.1)).Nodup
 |.set S n=>h.SetOf (intKind P w) a S n
 |.ins C dx fs=>H dx=some (.own a)/\fs.length<=1000/\dx≠a/\h.get? a=some (instObj C dx) /\
   ∃g,h.Ns1 dx g/\(∀f,gJ (fs.lookup f) (g f))/\Vk g (fs.map (·.1))
 |.own _=>∃o,h.get? a=some o
 |.xd fs=>∃g,h.Ns1 a g/\∀f,gJ (fs.lookup f) (g f)
 |.QZ lo r=>∃t u v,h.get? a=some { cls:=.type "range",data:=.fields #[.int lo t,.int r u,.int 1 v] }
 |.eu o u=>h.get? a=some o/\aO H h a u
 |.HP y=>h.get? a=some { cls:=.none,data:=.fields y }
 |.met f x=>h.get? a=some (methodObj (.ref f) (.ref x))
 |.ext φ=>φ h/\(∃o,h.get? a=some o)/\∀j l:Heap,φ j->(∀o,j.get? a=some o->l.get? a=some o)->φ l
def dz(H:Hp)(h:Heap):Prop:=∀a o,H a=some o->aO P w H h a o
end
section
variable {P:TV}{w:World}{H H':Hp}{h h':Heap}{a:Addr}{o:HO}
def aO.lt(x:aO P w H h a o):a<h.objs.size:=by
 cases o with
 |lst c=>obtain⟨_,_,_,_,e⟩:=x;exact TU e
 |tup c=>obtain⟨_,_,_,p⟩:=x;exact p.lt
 |dK b=>obtain⟨_,_,_,_,o,_,_,e,_⟩:=x;exact TU e
 |dT b=>obtain⟨_,_,_,_,o,_,_,e,_⟩:=x;exact TU e
 |set S n=>obtain⟨o,_,_,_,e,_⟩:=x;exact TU e
 |ins C j fs=>obtain⟨_,_,_,e,_⟩:=x;exact TU e
 |own y=>obtain⟨_,e⟩:=x;exact TU e
 |xd fs=>obtain⟨_,⟨_,_,_,e,_⟩,_⟩:=x;exact TU e
 |QZ lo g=>obtain⟨_,_,_,e⟩:=x;exact TU e
 |eu i u=>obtain⟨e,_⟩:=x;exact TU e
 |HP l=>exact TU (show h.get? a=some _ from x)
 |met f y=>exact TU (show h.get? a=some _ from x)
 |ext φ=>obtain⟨_,⟨_,e⟩,_⟩:=x;exact TU e
def Paired.Fb{α β:Type}{F G:α->β->Prop}:∀{c:List α} {e:List β},Paired F c e->(∀a b,F a b->G a b)->Paired G c e
 |_,_,.nil,_=>.nil
 |_,_,.cons r t,f=>.cons (f _ _ r) (Paired.Fb t f)
def Paired.imp'{c:List α}{e:List β}(f:∀a b,F a b->G a b)(r:Paired F c e):Paired G c e:=Paired.Fb r f
def aO.qH(x:aO P w H h a o)(k:∀b u,(b=a\/H b=some (.own a))->h.get? b=some u->h'.get? b=some u)
  (F:∀b,H b=some (.own a)->H' b=some (.own a))(J:∀b m,H b=some (.tup m)->H' b=some (.tup m)):aO P w H' h' a o:=by
 induction o with
 |lst m=>obtain⟨z,l,n,r,e⟩:=x;exact⟨z,l,n,r,k _ _ (.inl rfl) e⟩
 |tup m=>obtain⟨z,l,r,g,e,c⟩:=x;exact⟨z,l,r,g,k _ _ (.inl rfl) e,c⟩
 |dK A=>obtain⟨z,y,G,r,g,i,j,e,c⟩:=x;exact⟨z,y,G,r,g,i,j,k _ _ (.inl rfl) e,c⟩
 |dT A =>
  obtain⟨z,y,m,r,g,i,j,e,c⟩:=x
  exact⟨z,y,m,Paired.Fb r λp q z=>⟨z.1,J _ _ z.2.1,z.2.2⟩,g,i,j,k _ _ (.inl rfl) e,c⟩
 |set S n=>obtain⟨g,i,j,t,e,c⟩:=x;exact⟨g,i,j,t,k _ _ (.inl rfl) e,c⟩
 |ins C O fs =>
  obtain⟨d,z,I,e,s,⟨B,i,j,M,c⟩,r⟩:=x
  exact⟨F _ d,z,I,k _ _ (.inl rfl) e,s,⟨B,i,j,k _ _ (.inr d) M,c⟩,r⟩
 |own y=>obtain⟨g,e⟩:=x;exact⟨g,k _ _ (.inl rfl) e⟩
 |xd fs=>obtain⟨s,⟨B,i,j,e,c⟩,r⟩:=x;exact⟨s,⟨B,i,j,k _ _ (.inl rfl) e,c⟩,r⟩
 |QZ lo N=>obtain⟨t,u,v,e⟩:=x;exact⟨t,u,v,k _ _ (.inl rfl) e⟩
 |eu g u L=>obtain⟨e,q⟩:=x;exact⟨k _ _ (.inl rfl) e,L q⟩
 |HP E =>
  have e:h.get? a=some { cls:=.none,data:=.fields E }:=x
  show h'.get? a=some { cls:=.none,data:=.fields E }
  exact k a _ (.inl rfl) e
 |met f y =>
  have e:h.get? a=some (methodObj (.ref f) (.ref y)):=x
  show h'.get? a=some (methodObj (.ref f) (.ref y))
  exact k a _ (.inl rfl) e
 |ext φ=>obtain⟨p,⟨o,e⟩,st⟩:=x;exact⟨st _ _ p λo q=>k _ _ (.inl rfl) q,⟨o,k _ _ (.inl rfl) e⟩,st⟩
def dz.lt(x:dz P w H h)(e:H a=some o):a<h.objs.size:=(x a o e).lt
def dz.fresh(x:dz P w H h)(e:h.objs.size<=a):H a=none:=by
 cases q:H a with
 |none=>rfl
 |some u=>exact absurd (UB (x.lt q) e) (Uw _)
def dz.kept(x:dz P w H h)(k:∀b u,h.get? b=some u->h'.get? b=some u):dz P w H h':=λa o e =>
 (x a o e).qH (λb u _ q=>k b u q) (λ_ q=>q) λ_ _ q=>q
def dz.laid(x:dz P w H h)(k:∀b u,h.get? b=some u->h'.get? b=some u)(j:h.objs.size<=a)(f:aO P w (upd H a o) h' a o):dz P w (upd H a o) h':=λb u e=>by
 have i:=x.fresh j
 by_cases g:b=a
 ·subst g;rw[aF] at e;cases e;exact f
 ·rw[aG g] at e
  exact(x b u e).qH (λc v _ q=>k c v q) (λc q=>by rw[aG (aQ q i)];exact q) λc l q=>by rw[aG (aQ q i)];exact q
end
def Rd(H:Hp)(a:Addr)(u:HO):Prop:=H a=some u\/∃o,H a=some (.eu o u)
def Rd.of(h:H a=some u):Rd H a u:=.inl h
def Rd.ok(r:Rd H a u)(x:dz P w H h):aO P w H h a u:=by
 rcases r with r|⟨o,r⟩
 ·exact x a u r
 ·obtain⟨_,q⟩:=x a _ r
  exact q
def N3:Option HO->Prop
 |some (.lst _)=>True
 |some (.dK _)=>True
 |some (.dT _)=>True
 |some (.set _ _)=>True
 |some (.ins _ _ _)=>True
 |some (.ext _)=>True
 |_=>False
def dz.write(ok:dz P w H h)(j:N3 (H x))(t:e=x\/H e=some (.own x))(k:∀b u,b≠e->h.get? b=some u->o.get? b=some u)(m:∃u,o.get? e=some u)
  (n:aO P w (upd H x s) o x s):dz P w (upd H x s) o:=λb u q=>by
 have f:∀c y,H c=some (.own y)->c≠x:=λc y r z=>by subst z;rw[r] at j;exact j
 have g:∀c l,H c=some (.tup l)->c≠x:=λc l r z=>by subst z;rw[r] at j;exact j
 by_cases i:b=x
 ·subst i;rw[aF] at q;cases q;exact n
 ·rw[aG i] at q
  by_cases a:b=e
  ·have p:H b=some (.own x):=by
    rcases t with z|z
    ·exact absurd (a.trans z) i
    ·rw[a];exact z
   rw[q] at p;cases p
   obtain⟨v,A⟩:=m
   exact⟨v,by rw[a];exact A⟩
  ·refine(ok b u q).qH (λc v hc r=>k c v ?_ r) (λc r=>by rw[aG (f c b r)];exact r) λc l r=>by rw[aG (g c l r)];exact r
   rcases hc with rfl|hc
   ·exact a
   ·rintro rfl
    rcases t with z|z
    ·exact f c b hc z
    ·rw[hc] at z;cases z;exact i rfl
structure Un (fs ex:List Addr) (H H':Hp) (h h':Heap):Prop where
 keep:∀b o,h.get? b=some o->H b=none->b∉fs->b∉ex->h'.get? b=some o
 slot:∀b o,h.get? b=some o->H b=none->b∈fs->b∉ex->∃sl,h'.get? b=some { o with slots:=sl }
 free:∀b o,h.get? b=some o->H b=none->b∉ex->H' b=none
 there:∀b o,h.get? b=some o->b∉ex->∃o',h'.get? b=some o'
 hU:∀b xs,H b=some (.tup xs)->H' b=some (.tup xs)
 dZ:∀b o u,H b=some (.eu o u)->H' b=some (.eu o u)
 mC:∀b ps,H b=some (.HP ps)->∃more,H' b=some (.HP (ps++more))
section
variable {fs fs' ex ex':List Addr}{H H1 H2:Hp}{h h1 h2 h':Heap}{a x e:Addr}{o:HO}
def Un.any(u:Un fs ex H H1 h h1)(q:h.get? b=some c)(n:H b=none)(f:b∉ex):∃i,h1.get? b=some { c with slots:=i }:=by
 by_cases g:b∈fs
 ·exact u.slot b c q n g f
 ·exact⟨c.slots,u.keep b c q n g f⟩
def Un.kept(k:∀b u,h.get? b=some u->h'.get? b=some u):Un fs ex H H h h' :=
 ⟨λb c q _ _ _=>k b c q,λb c q _ _ _=>⟨c.slots,k b c q⟩,λ_ _ _ n _=>n,λb c q _=>⟨c,k b c q⟩,λ_ _ q=>q,λ_ _ _ q=>q,λ_ f q=>⟨#[],by rw[q];simp⟩⟩
def Un.refl:Un fs ex H H h h:=Un.kept λ_ _ q=>q
def Un.laid(k:∀b u,h.get? b=some u->h'.get? b=some u)(f:h.objs.size<=a)(c:H a=none):Un fs ex H (upd H a o) h h' where
 keep:=λb u q _ _ _=>k b u q
 slot:=λb u q _ _ _=>⟨u.slots,k b u q⟩
 free:=λb u q n _=>by rw[aG (Tq (UB (TU q) f))];exact n
 there:=λb u q _=>⟨u,k b u q⟩
 hU:=λb g q=>by rw[aG (aQ q c)];exact q
 dZ:=λb u g q=>by rw[aG (aQ q c)];exact q
 mC:=λb i q=>⟨#[],by rw[aG (aQ q c),q];simp⟩
def Un.write(f:N3 (H x))(p:e=x\/H e=some (.own x))(k:∀b u,b≠e->h.get? b=some u->h'.get? b=some u)(g:∃u,h'.get? e=some u):Un fs ex H (upd H x o) h h':=by
 have j:∀b,H b=none->b≠x:=λb n z=>by subst z;rw[n] at f;exact f
 have l:∀b,H b=none->b≠e:=λb n z=>by
  subst z
  rcases p with r|r
  ·exact j b n r
  ·rw[n] at r;cases r
 have i:∀b u,H b=some u->¬ N3 (some u)->b≠x:=λb u q nm z=>by subst z;rw[q] at f;exact nm f
 refine⟨λb u q n _ _=>k b u (l b n) q,λb u q n _ _=>⟨u.slots,k b u (l b n) q⟩,λb u q n _=>by rw[aG (j b n)];exact n,λb u q _=>?_,
  λb m q=>by rw[aG (i b _ q λz=>z)];exact q,λb u m q=>by rw[aG (i b _ q λz=>z)];exact q,λb s q=>⟨#[],by rw[aG (i b _ q λz=>z),q];simp⟩⟩
 by_cases c:b=e
 ·subst c;exact g
 ·exact⟨u,k b u c q⟩
end
def Qc(h:Heap)(H:Hp):List Addr:=(Ua h.objs.size).filter λa=>(H a).isSome
def wB(h:Heap)(H:Hp):Heap:=Yy h (Qc h H)
def C9(h:Heap)(H:Hp):(wB h H).objs.size=h.objs.size:=PySem.W.hideAll_size _ _
def FC(e:h.get? b=some o)(n:H b=none):(wB h H).get? b=some o :=
 XA _ e λa=>by
  have q:(H b).isSome=true:=(Uq.mp a).2
  rw[n] at q;simp at q
def JA(e:(wB h H).get? b=some o):h.get? b=some o/\H b=none:=by
 have a:h.get? b=some o:=YI (Qc h H) e
 refine⟨a,?_⟩
 cases q:H b with
 |none=>rfl
 |some x =>
  have c:b∈Qc h H:=Uq.mpr ⟨U7.mpr (TU a),by simp[q]⟩
  have z:(wB h H).get? b=none:=X1 (Qc h H) c
  rw[z] at e;cases e
structure Mod (K:l') (mg:Str->Option Value) (base:Heap):Prop where
 FN:K.In base
 glob:base.Ns TZ mg
 blt:∃mb,base.Ns Zp mb/\∀x:Str,x≠"__name__"->mb x=UR x
 nolimit:base.NoLimit
structure Cx where
 prog:TV
 w:World
 K:l'
 mg:Str->Option Value
 base:Heap
 A:Around
 N:List Str
 s₀:Shared
 H₀:Hp
 env:Env
 outer:List Env
 stack:List Env
 ex:List Addr
 fn:Str->Bool
 calm:Bool
 pn:List (Addr × Obj)
 xe:Value->Shared->Prop
def uf(l:List Env):List Addr:=l.filterMap (·.frame)
abbrev Cx.fs(X:Cx):List Addr:=uf X.outer
def Cb(a:Scope)(x:Str):Prop:=a.names.lookup x=some .local\/a.names.lookup x=some .cell\/a.names.lookup x=some .free
def Loc(a:Scope)(x:Str):Prop:=a.names.lookup x=some .local\/a.names.lookup x=some .cell
def Look(env:Env)(h:Heap)(m:Str->Option Value)(x:Str)(u:Value):Prop :=
 (env.kindOf x=some .local/\m x=some u)\/((env.kindOf x=some .cell\/env.kindOf x=some .free)/\∃c,env.cells.lookup x=some c/\h.IsCell c (some u))
structure Cx.Ok (X:Cx):Prop where
 mod:Mod X.K X.mg X.base
 kind:X.env.scope.kind=.function
 glob:X.env.globals=TZ
 blt:X.env.builtins=Zp
 above:X.s₀.heap.objs.size<=X.env.locals
 inj:∀x y c,X.env.cells.lookup x=some c->X.env.cells.lookup y=some c->x=y
 has:∀x,(X.env.kindOf x=some .cell\/X.env.kindOf x=some .free)->∃c,X.env.cells.lookup x=some c
 KP:∀x c,X.fn x=true->X.env.cells.lookup x=some c->X.s₀.heap.objs.size<=c
 hd:X.calm=true->X.A.handled=none
 frames:X.A.frames=some X.stack
 NS:X.stack=X.outer\/(X.stack=X.env::X.outer/\X.env.frame=some X.env.locals)
 OQ:∀b∈X.ex,b≠X.env.locals/\∀x c,X.env.cells.lookup x=some c->c≠b
 bs:∀b o,X.base.get? b=some o->X.s₀.heap.get? b=some o/\X.H₀ b=none
 Ci:X.base.objs.size<=X.s₀.heap.objs.size
 yq:∀b o,X.base.get? b=some o->b∉X.ex
 xv:∀b∈X.ex,b∉X.fs
 ip:X.s₀.heap.FunFrames X.base X.outer
 C7:∀b∈X.fs,X.H₀ b=none
structure Inv (X:Cx) (pins:List (Addr × Obj)) (σ:List (Option V)) (H:Hp) (s:Shared):Prop where
 ok:X.Ok
 os:s.os=X.s₀.os
 bare:Wk s.gens
 base:Un X.fs X.ex X.H₀ H X.s₀.heap s.heap
 loc:∃m,s.heap.Ns X.env.locals m/\∀(i:Nat) (x:Str) (v:V),X.N[i]?=some x->σ[i]?=some (some v)->Cb X.env.scope x->∃u,RelV v u/\Look X.env s.heap m x u
 cell:∀x c,X.env.cells.lookup x=some c->∃v,s.heap.IsCell c v
 free:H X.env.locals=none
 cZ:∀x c,X.env.cells.lookup x=some c->H c=none
 pin:∀p∈X.pn++pins,s.heap.get? p.1=some p.2/\H p.1=none/\p.1≠X.env.locals/\p.1∉X.fs/\∀v,p.2.data≠.cell v
 au:dz X.prog X.w H s.heap
 len:σ.length=X.N.length
section
variable {X:Cx}{pins:List (Addr × Obj)}{σ:List (Option V)}{H H':Hp}{s:Shared}{h':Heap}
def Cx.Ok.RI(ok:X.Ok)(e:X.base.get? b=some o):b∉X.fs:=λa=>by
 have:=(ok.ip.mem a).1
 rw[e] at this;cases this
def Inv.bs(I:Inv X pins σ H s):∀b o,X.base.get? b=some o->s.heap.get? b=some o/\H b=none:=λb o e =>
 ⟨I.base.keep b o (I.ok.bs b o e).1 (I.ok.bs b o e).2 (I.ok.RI e) (I.ok.yq b o e),I.base.free b o (I.ok.bs b o e).1 (I.ok.bs b o e).2 (I.ok.yq b o e)⟩
def Inv.bk(I:Inv X pins σ H s):∀b o,X.base.get? b=some o->s.heap.get? b=some o:=λb o e=>(I.bs b o e).1
def Inv.mod(I:Inv X pins σ H s):Mod X.K X.mg X.base:=I.ok.mod
def Inv.lQ(I:Inv X pins σ H s):X.K.In s.heap:=I.ok.mod.FN.keeps I.bk
def Inv.lt(I:Inv X pins σ H s):X.env.locals<s.heap.objs.size:=let ⟨_,a,_⟩:=I.loc;a.lt
def Inv.sz(I:Inv X pins σ H s):X.s₀.heap.objs.size<=s.heap.objs.size:=G' I.ok.above (Vp I.lt)
def Inv.RJ(I:Inv X pins σ H s){a:Addr}(h:s.heap.objs.size<=a):a∉X.fs:=λc=>by
 obtain⟨_,o,b,_⟩:=I.ok.ip.mem c
 exact absurd (UB (TU b) (G' I.sz h)) (Uw _)
def Inv.EY(I:Inv X pins σ H s):∀x c,X.env.cells.lookup x=some c->c≠X.env.locals:=λx c e z=>by
 obtain⟨v,o,f,g⟩:=I.cell x c e
 obtain⟨m,⟨h,i,j,a,b,_⟩,_⟩:=I.loc
 rw[z,a] at f;cases f;rw[b] at g;cases g
def Inv.ip(I:Inv X pins σ H s):s.heap.FunFrames X.base X.outer:=by
 have all:∀(l:List Env),(∀b∈uf l,b∈X.fs)->X.s₀.heap.FunFrames X.base l->s.heap.FunFrames X.base l:=by
  intro l
  induction l with
  |nil=>intro _ _;trivial
  |cons p r i =>
   intro g j
   obtain⟨m,⟨L,o,a,t,h,u⟩,n⟩:=j
   have f:L∈X.fs:=g L (by unfold uf;rw[VH,a];exact N')
   obtain⟨v,e⟩:=I.base.slot L o h (I.ok.C7 L f) f λz=>I.ok.xv L z f
   exact⟨m,⟨L,_,a,t,e,u⟩,i (λb c=>g b (by unfold uf;rw[VH,a];exact TR _ c)) n⟩
 exact all X.outer (λ_ c=>c) I.ok.ip
def Inv.stack(I:Inv X pins σ H s):s.heap.FunFrames X.base X.stack:=by
 rcases I.ok.NS with e|⟨e,a⟩
 ·rw[e];exact I.ip
 ·rw[e]
  obtain⟨m,b,_⟩:=I.loc
  refine .cons (by rw[I.ok.kind];decide) a b ?_ I.ip
  exact Wx (G' I.ok.Ci I.ok.above)
def Inv.qI(I:Inv X pins σ H s):∀b∈uf X.stack,b∈X.env.locals::X.fs:=λb a=>by
 rcases I.ok.NS with e|⟨e,c⟩
 ·rw[e] at a;exact TR _ a
 ·rw[e] at a
  unfold uf at a
  rw[VH,c] at a
  exact a
def Inv.xC(I:Inv X pins σ H s):∀b∈uf X.stack,H b=none:=λb hb=>by
 rcases Gc.mp (I.qI b hb) with e|hb
 ·rw[e];exact I.free
 ·obtain⟨_,o,a,_⟩:=I.ok.ip.mem hb
  exact I.base.free b o a (I.ok.C7 b hb) λz=>I.ok.xv b z hb
def Inv.step{ch:List Addr}(I:Inv X pins σ H s)
  (g:∀b∈ch,(b∈X.ex\/X.s₀.heap.objs.size<=b)/\b≠X.env.locals/\(∀x c,X.env.cells.lookup x=some c->c≠b)/\∀p∈X.pn++pins,p.1≠b)
  (keep:∀b o,b≠X.env.locals->b∉X.fs->b∉ch->s.heap.get? b=some o->H b=none->h'.get? b=some o)
  (A:∀b o,b≠X.env.locals->b∈X.fs->b∉ch->s.heap.get? b=some o->H b=none->∃N,h'.get? b=some { o with slots:=N })(free:∀b o,b∉ch->s.heap.get? b=some o->H b=none->H' b=none)
  (there:∀b o,b∉ch->s.heap.get? b=some o->∃E,h'.get? b=some E)
  (U:∀b y,H b=some (.tup y)->H' b=some (.tup y))(T:∀b o u,H b=some (.eu o u)->H' b=some (.eu o u))(mC:∀b L,H b=some (.HP L)->∃F,H' b=some (.HP (L++F)))
  (ns:∀m,s.heap.Ns X.env.locals m->h'.Ns X.env.locals m)(Z:dz X.prog X.w H' h')(hg:Wk g') :
  Inv X pins σ H' { s with heap:=h',gens:=g',drawn:=d',toks:=t' }:=by
 have G:∀b o,X.s₀.heap.get? b=some o->b≠X.env.locals:=λb o e=>Tq (UB (TU e) I.ok.above)
 have t:∀b o,X.s₀.heap.get? b=some o->b∉X.ex->b∉ch:=λb o e a B=>by
  rcases(g b B).1 with z|z
  ·exact a z
  ·exact absurd (UB (TU e) z) (Uw _)
 have h:∀x c,X.env.cells.lookup x=some c->∀v,s.heap.IsCell c v->h'.IsCell c v:=fun x c e v ⟨o,C,O⟩=>by
  have f:c∉ch:=λz=>(g c z).2.2.1 x c e rfl
  by_cases P:c∈X.fs
  ·obtain⟨N,q⟩:=A c o (I.EY x c e) P f C (I.cZ x c e)
   exact⟨_,q,O⟩
  ·exact⟨o,keep c o (I.EY x c e) P f C (I.cZ x c e),O⟩
 refine⟨I.ok,I.os,hg,⟨λb o e n B a=>?_,λb o e n B a=>?_,λb o e n a=>?_,λb o e a=>?_,λb y e=>U b y (I.base.hU b y e),λb o y e=>T b o y (I.base.dZ b o y e),λb L e=>?_⟩,?_,λx c e=>?_,?_,λx c e=>?_,λp Q=>?_,Z,I.len⟩
 ·exact keep b o (G b o e) B (t b o e a) (I.base.keep b o e n B a) (I.base.free b o e n a)
 ·obtain⟨N,j⟩:=I.base.slot b o e n B a
  obtain⟨M,J⟩:=A b _ (G b o e) B (t b o e a) j (I.base.free b o e n a)
  exact⟨M,J⟩
 ·obtain⟨E,j⟩:=I.base.there b o e a
  exact free b E (t b o e a) j (I.base.free b o e n a)
 ·obtain⟨E,j⟩:=I.base.there b o e a
  exact there b E (t b o e a) j
 ·obtain⟨m1,j⟩:=I.base.mC b L e
  obtain⟨W,J⟩:=mC b _ j
  exact⟨m1++W,by rw[J,Array.append_assoc]⟩
 ·obtain⟨m,Y,hl⟩:=I.loc
  refine⟨m,ns m Y,λi x v j J e3=>?_⟩
  obtain⟨u,r,l⟩:=hl i x v j J e3
  refine⟨u,r,?_⟩
  rcases l with l|⟨k,c,e,z⟩
  ·exact .inl l
  ·exact .inr ⟨k,c,e,h x c e _ z⟩
 ·obtain⟨v,z⟩:=I.cell x c e
  exact⟨v,h x c e v z⟩
 ·obtain⟨m,⟨o,_,_,C,_⟩,_⟩:=I.loc
  exact free _ o (λz=>(g _ z).2.1 rfl) C I.free
 ·obtain⟨v,o,C,O⟩:=I.cell x c e
  exact free c o (λz=>(g c z).2.2.1 x c e rfl) C (I.cZ x c e)
 ·obtain⟨e,n,S,R,d⟩:=I.pin p Q
  have f:p.1∉ch:=λz=>(g p.1 z).2.2.2 p Q rfl
  exact⟨keep p.1 p.2 S R f e n,free p.1 p.2 f e n,S,R,d⟩
def Inv.un(I:Inv X pins σ H s)(u:Un X.fs [] H H' s.heap h')(i:dz X.prog X.w H' h'):Inv X pins σ H' { s with heap:=h',toks:=t' }:=by
 obtain⟨m,⟨o,y,A,h,r⟩,_⟩:=id I.loc
 obtain⟨x,p⟩:=u.any h I.free (by simp)
 exact I.step (g':=s.gens) (d':=s.drawn) (ch:=[]) (λ_ z=>nomatch z) (λb o _ c _ e n=>u.keep b o e n c (by simp)) (λb o _ c _ e n=>u.slot b o e n c (by simp)) (λb o _ e n=>u.free b o e n (by simp)) (λb o _ e=>u.there b o e (by simp)) u.hU u.dZ u.mC (λt l=>by
  obtain⟨v,g,f,a,j⟩:=l
  rw[h] at a;cases a
  exact⟨_,g,f,p,j⟩) i I.bare
def Inv.call(I:Inv X pins σ H s)(u:Un (uf X.stack) ch H H' s.heap h')(t:dz X.prog X.w H' h')(B:Wk g')
  (f:∀b∈ch,(b∈X.ex\/X.s₀.heap.objs.size<=b)/\b≠X.env.locals/\(∀x c,X.env.cells.lookup x=some c->c≠b)/\∀p∈X.pn++pins,p.1≠b) :
  Inv X pins σ H' { s with heap:=h',gens:=g',drawn:=d',toks:=t' }:=by
 obtain⟨m,⟨o,G,J,l,r⟩,_⟩:=id I.loc
 obtain⟨F,j⟩:=u.any l I.free λz=>(f _ z).2.1 rfl
 exact I.step (ch:=ch) f (λb o j y a e n=>u.keep b o e n (λz=>(Gc.mp (I.qI b z)).elim j y) a) (λb o _ _ a e n=>u.any e n a) (λb o a e n=>u.free b o e n a) (λb o a e=>u.there b o e a) u.hU u.dZ u.mC (λC A=>by
  obtain⟨E,i,h,g,v⟩:=A
  rw[l] at g;cases g
  exact⟨_,i,h,j,v⟩) t B
def Inv.turned(I:Inv X pins σ H s)(k:∀b o,b≠it->s.heap.get? b=some o->h'.get? b=some o)(t:H it=none)(g:it≠X.env.locals)
  (l:it∈X.ex\/X.s₀.heap.objs.size<=it)(w:∀x c,X.env.cells.lookup x=some c->c≠it)(y:∀p∈X.pn++pins,p.1≠it):Inv X pins σ H { s with heap:=h',toks:=t' }:=by
 have f:∀b u,H b=some u->b≠it:=λb u e z=>by rw[z,t] at e;cases e
 refine I.step (g':=s.gens) (d':=s.drawn) (ch:=[it]) (λb i=>?_) (λb o _ _ a e _=>k b o (λz=>a (by simp[z])) e) (λb o _ _ a e _=>⟨o.slots,k b o (λz=>a (by simp[z])) e⟩) (λ_ _ _ _ n=>n)
  (λb o a e=>⟨o,k b o (λz=>a (by simp[z])) e⟩) (λ_ _ e=>e) (λ_ _ _ e=>e) (λb C e=>⟨#[],by rw[e];simp⟩) (λm j=>?_) (λb u e=>?_) I.bare
 ·have e:b=it:=by simpa using i
  subst e
  exact⟨l,g,w,y⟩
 ·obtain⟨o,A,B,h,r⟩:=j
  exact⟨o,A,B,k _ o (VG g) h,r⟩
 ·refine(I.au b u e).qH (λc v a q=>k c v ?_ q) (λ_ q=>q) λ_ _ q=>q
  rcases a with z|z
  ·rw[z];exact f b u e
  ·exact f c _ z
def Inv.tok(I:Inv X pins σ H s)(t:Nat):Inv X pins σ H { s with toks:=t }:=I.un (h':=s.heap) (t':=t) Un.refl I.au
def Inv.kept(I:Inv X pins σ H s)(k:∀b u,s.heap.get? b=some u->h'.get? b=some u):Inv X pins σ H { s with heap:=h',toks:=t' }:=I.un (Un.kept k) (I.au.kept k)
def Inv.laid{a:Addr}(I:Inv X pins σ H s)(k:∀b u,s.heap.get? b=some u->h'.get? b=some u)(c:s.heap.objs.size<=a)(e:aO X.prog X.w (upd H a o) h' a o) :
  Inv X pins σ (upd H a o) { s with heap:=h',toks:=t' }:=I.un (Un.laid k c (I.au.fresh c)) (I.au.laid k c e)
def Inv.write(I:Inv X pins σ H s)(g:N3 (H x))(f:e=x\/H e=some (.own x))(k:∀b u,b≠e->s.heap.get? b=some u->h'.get? b=some u)(a:∃u,h'.get? e=some u)
  (c:aO X.prog X.w (upd H x o) h' x o):Inv X pins σ (upd H x o) { s with heap:=h',toks:=h }:=I.un (Un.write g f k a) (I.au.write g f k a c)
def Inv.weak(I:Inv X pins σ H s)(e:b.length=σ.length)(w:∀(i:Nat) v,b[i]?=some (some v)->σ[i]?=some (some v)):Inv X pins b H s :=
 ⟨I.ok,I.os,I.bare,I.base,let ⟨m,h,a⟩:=I.loc;⟨m,h,λi x v c f g=>a i x v c (w i v f) g⟩,I.cell,I.free,I.cZ,I.pin,I.au,e.trans I.len⟩
def Inv.wb(I:Inv X pins σ H s)(h:∀p∈a,s.heap.get? p.1=some p.2/\H p.1=none/\p.1≠X.env.locals/\p.1∉X.fs/\∀v,p.2.data≠.cell v):Inv X a σ H s :=
 ⟨I.ok,I.os,I.bare,I.base,I.loc,I.cell,I.free,I.cZ,λp b=>(T4.mp b).elim (λz=>I.pin p (To _ z)) (h p),I.au,I.len⟩
def yp{N:List Str}{i j:Nat}(e:N.Nodup)(a:N[i]?=some x)(b:N[j]?=some x):i=j:=by
 obtain⟨g,c⟩:=Te.mp a
 obtain⟨h,f⟩:=Te.mp b
 exact(List.getElem_inj e).mp (c.trans f.symm)
def Dr(I:Inv X pins σ H s)(hN:X.N.Nodup)(W:X.N[i]?=some x)(t:Loc X.env.scope x)(r:RelV v u)
  (h:∀s',Inv X pins (σ.set i (some v)) H s'->(∃a,Vl a s.heap s'.heap/\(a=X.env.locals\/X.env.cells.lookup x=some a))->Q () s')(hf:autoParam (X.fn x=true\/X.env.scope.names.lookup x=some .local) eS):wpAny M A (storeName X.env x u) Q E s:=by
 obtain⟨m,hn,hl⟩:=id I.loc
 have U:(X.env.scope.kind == .class||(X.env.scope.kind == .module&&X.env.locals != X.env.globals))=false:=by rw[I.ok.kind];rfl
 have T:i<σ.length:=by rw[I.len];exact(Te.mp W).1
 have EY:=I.EY
 have g:∀{a:Addr} {O:Heap},(∃o,s.heap.get? a=some o/\H a=none)->Vl a s.heap O->dz X.prog X.w H O:=fun{a O} ha f b ob e=>by
  obtain⟨_,_,B⟩:=ha
  refine(I.au b ob e).qH (λc Z hc q=>(f.2 c ?_).trans q) (λ_ q=>q) λ_ _ q=>q
  rintro rfl
  rcases hc with rfl|hc
  ·rw[B] at e;cases e
  ·rw[B] at hc;cases hc
 rcases t with F|F
 ·refine wpAny_storeName_local F hn (λO hn' f=>?_) U
  obtain⟨oL,_,_,hoL,_⟩:=id hn
  refine h _ ⟨I.ok,I.os,I.bare,⟨λb o e n L t=>?_,λb o e n L t=>?_,I.base.free,λb o e t=>?_,I.base.hU,I.base.dZ,I.base.mC⟩,⟨_,hn',λj y v' l C e3=>?_⟩,λy c e=>?_,I.free,I.cZ,λp hp=>?_,g ⟨oL,hoL,I.free⟩ f,by simpa using I.len⟩ ⟨_,f,.inl rfl⟩
  ·exact(f.2 b (Tq (UB (TU e) I.ok.above))).trans (I.base.keep b o e n L t)
  ·obtain⟨sl,l⟩:=I.base.slot b o e n L t
   exact⟨sl,(f.2 b (Tq (UB (TU e) I.ok.above))).trans l⟩
  ·obtain⟨o',l⟩:=I.base.there b o e t
   exact⟨o',(f.2 b (Tq (UB (TU e) I.ok.above))).trans l⟩
  ·by_cases G:j=i
   ·subst G
    rw[W] at l;cases l
    rw[YC T] at C
    cases C
    exact⟨u,r,.inl ⟨F,by simp⟩⟩
   ·rw[Yf (VG G)] at C
    obtain⟨u',r',q⟩:=hl j y v' l C e3
    refine⟨u',r',?_⟩
    rcases q with⟨k,e⟩|⟨k,c,e,z⟩
    ·refine .inl ⟨k,?_⟩
     have:y≠x:=λe=>G (yp hN l (e ▸ W))
     simp[this,e]
    ·exact .inr ⟨k,c,e,z.sameBut f (EY y c e)⟩
  ·obtain⟨Z,z⟩:=I.cell y c e
   exact⟨Z,z.sameBut f (EY y c e)⟩
  ·obtain⟨e,n,ne,nf,d⟩:=I.pin p hp
   exact⟨(f.2 p.1 ne).trans e,n,ne,nf,d⟩
 ·have J:X.fn x=true:=by
   rcases hf with z|z
   ·exact z
   ·rw[z] at F;cases F
  obtain⟨c,hc⟩:=I.ok.has x (.inl F)
  obtain⟨Z,z⟩:=I.cell x c hc
  refine wpAny_storeName_cell I.ok.kind F hc z (λO Y f=>?_)
  obtain⟨oc,S,P⟩:=id z
  refine h { s with heap:=O } ⟨I.ok,I.os,I.bare,⟨λb o e n L t=>?_,λb o e n L t=>?_,I.base.free,λb o e t=>?_,I.base.hU,I.base.dZ,I.base.mC⟩,⟨m,hn.sameBut f (VG (EY x c hc)),λj y v' l C e3=>?_⟩,λy c' e=>?_,I.free,I.cZ,λp hp=>?_,g ⟨oc,S,I.cZ x c hc⟩ f,by simpa using I.len⟩ ⟨c,f,.inr hc⟩
  ·exact(f.2 b (Tq (UB (TU e) (I.ok.KP x c J hc)))).trans (I.base.keep b o e n L t)
  ·obtain⟨sl,l⟩:=I.base.slot b o e n L t
   exact⟨sl,(f.2 b (Tq (UB (TU e) (I.ok.KP x c J hc)))).trans l⟩
  ·obtain⟨o',l⟩:=I.base.there b o e t
   exact⟨o',(f.2 b (Tq (UB (TU e) (I.ok.KP x c J hc)))).trans l⟩
  ·by_cases G:j=i
   ·subst G
    rw[W] at l;cases l
    rw[YC T] at C
    cases C
    exact⟨u,r,.inr ⟨.inl F,c,hc,Y⟩⟩
   ·rw[Yf (VG G)] at C
    obtain⟨u',r',q⟩:=hl j y v' l C e3
    refine⟨u',r',?_⟩
    rcases q with q|⟨k,c',e,z'⟩
    ·exact .inl q
    ·refine .inr ⟨k,c',e,z'.sameBut f ?_⟩
     rintro rfl
     exact G (yp hN l (I.ok.inj _ _ _ e hc ▸ W))
  ·by_cases R:c'=c
   ·subst R;exact⟨_,Y⟩
   ·obtain⟨w2,z2⟩:=I.cell y c' e
    exact⟨w2,z2.sameBut f R⟩
  ·obtain⟨e,n,ne,nf,d⟩:=I.pin p hp
   refine⟨(f.2 p.1 ?_).trans e,n,ne,nf,d⟩
   intro q
   rw[q,S] at e
   have q':oc=p.2:=UA e
   exact d Z (by rw[<- q'];exact P)
def tL(I:Inv X pins σ H s)(b:X.N.Nodup)(c:X.N[i]?=some x)(f:Loc X.env.scope x)(r:RelV v u)
  (h:∀a,Inv X pins (σ.set i (some v)) H a->Q () a)(e:autoParam (X.fn x=true\/X.env.scope.names.lookup x=some .local) eS):wpAny M A (storeName X.env x u) Q E s :=
 Dr I b c f r (λa g _=>h a g) e
def Inv.uW(I:Inv X pins σ H s)(j:a.os=s.os)(u:Un (uf X.stack) ch H H' s.heap a.heap)(l:dz X.prog X.w H' a.heap)(n:Wk a.gens)
  (f:∀b∈ch,(b∈X.ex\/X.s₀.heap.objs.size<=b)/\b≠X.env.locals/\(∀x c,X.env.cells.lookup x=some c->c≠b)/\∀p∈X.pn++pins,p.1≠b):Inv X pins σ H' a:=by
 obtain⟨o,h,g,i,m⟩:=a
 have e:m=s.os:=j
 subst e
 exact I.call (g':=h) (t':=i) (d':=g) u l n f
end
abbrev XK:=Value->Option Addr->Hp->Prop
abbrev St:=List (Option V)
abbrev VK:=V->Hp->Prop
abbrev TE:=St->Hp->VK->Prop
abbrev TT:=St->Hp->(Bool->Hp->Prop)->Prop
abbrev TA:=St->Hp->(List V->Hp->Prop)->Prop
structure Ends where
 nx:St->Hp->Prop
 rt:VK
 bk:St->Hp->Prop:=λ_ _=>False
 ct:St->Hp->Prop:=λ_ _=>False
abbrev TS:=Ends->St->Hp->Prop
def EP(X:Cx)(a:List (Addr × Obj))(σ:St)(Q:VK)(u:Value)(c:Shared):Prop:=∃v b,Inv X a σ b c/\RelV v u/\Q v b
def TP(X:Cx)(a:List (Addr × Obj))(σ:St)(Q:Bool->Hp->Prop)(b:Bool)(e:Shared):Prop:=∃c,Inv X a σ c e/\Q b c
def AP(X:Cx)(a:List (Addr × Obj))(σ:St)(Q:List V->Hp->Prop)(us:List Value)(c:Shared):Prop:=∃vs b,Inv X a σ b c/\Vals vs us/\Q vs b
def SP(X:Cx)(a:List (Addr × Obj))(D:Ends)(f:Flow)(e:Shared):Prop :=
 match f with
 |.next=>∃ c b,Inv X a c b e/\D.nx c b
 |.brk=>∃ c b,Inv X a c b e/\D.bk c b
 |.cont=>∃ c b,Inv X a c b e/\D.ct c b
 |.ret u=>∃v c b,Inv X a c b e/\RelV v u/\D.rt v b
def PE(X:Cx)(e:Expr)(t:TE):Prop :=
 ∀(a:List (Addr × Obj)) (s:Shared) (σ:St) (H:Hp) (Q:VK),Inv X a σ H s->t σ H Q->wpAny (model X.prog X.w) X.A (eval e X.env) (EP X a σ Q) X.xe s
def PT(X:Cx)(e:Expr)(t:TT):Prop :=
 ∀(a:List (Addr × Obj)) (s:Shared) (σ:St) (H:Hp) (Q:Bool->Hp->Prop),Inv X a σ H s->t σ H Q->wpAny (model X.prog X.w) X.A (isTrue e X.env (eval e X.env)) (TP X a σ Q) X.xe s
def PW(X:Cx)(e:Expr)(t:TT):Prop :=
 ∀(b:Sem Value) (a:List (Addr × Obj)) (s:Shared) (σ:St) (H:Hp) (Q:Bool->Hp->Prop),Inv X a σ H s->t σ H Q->wpAny (model X.prog X.w) X.A (isTrue e X.env b) (TP X a σ Q) X.xe s
def PW.pt(h:PW X e t):PT X e t:=h _
def PA(X:Cx)(b:List Expr)(t:TA):Prop :=
 ∀(pos:Pos) (a:List (Addr × Obj)) (s:Shared) (σ:St) (H:Hp) (Q:List V->Hp->Prop),Inv X a σ H s->t σ H Q->wpAny (model X.prog X.w) X.A (spliced (backTo pos (starEach b X.env))) (AP X a σ Q) X.xe s
def PS(X:Cx)(st:Stmt)(t:TS):Prop :=
 ∀(a:List (Addr × Obj)) (s:Shared) (σ:St) (H:Hp) (D:Ends),Inv X a σ H s->t D σ H->wpAny (model X.prog X.w) X.A (exec st X.env) (SP X a D) X.xe s
def kq(X:Cx)(st:List Stmt)(t:TS):Prop :=
 ∀(a:List (Addr × Obj)) (s:Shared) (σ:St) (H:Hp) (D:Ends),Inv X a σ H s->t D σ H->wpAny (model X.prog X.w) X.A (execs st X.env) (SP X a D) X.xe s
def bg{Q Q':α->Shared->Prop}(h:wpAny M A t Q E s)(b:∀a s,Q a s->Q' a s):wpAny M A t Q' E s:=wpAny_mono h b λ_ _ x=>x
def NW(i:Nat):TE:=λσ H Q=>∃v,σ[i]?=some (some v)/\Q v H
def tC(v:V):TE:=λ_ H Q=>Q v H
def kL{X:Cx}{j:Pos}(t:X.N[i]?=some x)(w:Cb X.env.scope x)(o:autoParam ((x == ("__debug__":Str))=false) e7)(n:autoParam ((x == ("__classdict__":Str))=false) e7):PE X (.Name x j) (NW i):=by
 intro g s σ H Q I h
 obtain⟨v,e,h⟩:=h
 obtain⟨m,A,y⟩:=I.loc
 obtain⟨u,r,l⟩:=y i x v t e w
 have f:EP X g σ Q u s:=⟨v,H,I,r,h⟩
 rcases l with⟨b,z⟩|⟨b,c,p,a⟩
 ·exact Zn (wpAny_loadName_local I.ok.kind b A z f) o
 ·rcases b with b|b
  ·exact Zn (wpAny_loadName_cell I.ok.kind b p a f) o
  ·exact Zn (wpAny_loadName_free I.ok.kind b p a f n) o
def GA :PE X (.Constant (.int i) j a) (tC (.int i)):=λ_ _ _ H _ I h=>wpAny_Constant_int ⟨.int i,H,I.tok _,⟨_,rfl⟩,h⟩
def PQ :PE X (.Constant (.bool b) j a) (tC (.bl b)):=λ_ _ _ H _ I h=>Constant_bool ⟨.bl b,H,I,rfl,h⟩
def Mv :PE X (.Constant .none j a) (tC .ae):=λ_ _ _ H _ I h=>Constant_none ⟨.ae,H,I,rfl,h⟩
def Mz :PE X (.Constant (.str x) j a) (tC (.str x)):=λ_ _ _ H _ I h=>Calls.Constant_str ⟨.str x,H,I.tok _,⟨_,rfl⟩,h⟩
def Gl(X:Cx)(x:Str):Prop:=X.env.kindOf x=some .globalImplicit
def fv{σ:St}(I:Inv X a σ H s)(e:Gl X x)(c:X.mg x=some u)(h:Q u s)
  (f:autoParam ((x == ("__debug__":Str))=false) e7):wpAny (model X.prog X.w) X.A (eval (.Name x b) X.env) Q E s :=
 Xj I.ok.kind e (Calls.loadGlobal_global (by rw[I.ok.glob];exact I.mod.glob.keeps I.bk) c h) f
def nK{E:Value->Shared->Prop}{σ:St}{b:Pos}(I:Inv X a σ H s)(j:Gl X x)(e:X.mg x=none)(c:UR x=some u)(h:Q u s)
  (g:autoParam (x≠"__name__") e7)(l:autoParam ((x == ("__debug__":Str))=false) e7):wpAny (model X.prog X.w) X.A (eval (.Name x b) X.env) Q E s:=by
 obtain⟨m,f,i⟩:=I.mod.blt
 exact Xj I.ok.kind j (Calls.loadGlobal_builtin (by rw[I.ok.glob];exact I.mod.glob.keeps I.bk) e (by rw[I.ok.blt];exact f.keeps I.bk) ((i x g).trans c) h) l
def wZ(c:Gl X x)(b:X.mg x=some u)(r:RelV v u)(e:autoParam ((x == ("__debug__":Str))=false) e7):PE X (.Name x a) (tC v) :=
 λ_ _ _ H _ I h=>fv I c b ⟨v,H,I,r,h⟩ e
def B4{a:Pos}(f:Gl X x)(c:X.mg x=none)(b:UR x=some u)(r:RelV v u)(e:autoParam (x≠"__name__") e7)(g:autoParam ((x == ("__debug__":Str))=false) e7):PE X (.Name x a) (tC v) :=
 λ_ _ _ H _ I h=>nK I f c b ⟨v,H,I,r,h⟩ e g
def PC(X:Cx)(g:CmpOp)(a b:Expr)(t:TE):Prop :=
 ∀(c:List (Addr × Obj)) (s:Shared) (σ:St) (H:Hp) (Q:VK),Inv X c σ H s->t σ H Q ->
  wpAny (model X.prog X.w) X.A (eval a X.env) (λv f=>wpAny (model X.prog X.w) X.A (eval b X.env) (λu e=>wpAny (model X.prog X.w) X.A (compareOp g v u) (EP X c σ Q) X.xe e) X.xe f) X.xe s
def tB(t:TE):TT:=λσ H Q=>t σ H λx a=>∃c,x=.bl c/\Q c a
def F7(h:PC X e a b t)(i:behindInMarks e b=false:=by first|exact Fp _ (by decide) (by decide)|rfl):PE X (.Compare a [e] [b] f) t:=λc s σ H Q I g=>aAg (h c s σ H Q I g) i
def M9(h:PC X g a b t)(f:behindInMarks g b=false:=by first|exact Fp _ (by decide) (by decide)|rfl):PT X (.Compare a [g] [b] i) (tB t):=by
 intro e s σ H Q I m
 refine ZI (bg (h e s σ H _ I m) λv y f=>bg f λu w o=>bg o ?_) f;rintro c r ⟨x,l,p,j,n⟩
 obtain⟨d,rfl,q⟩:=n
 cases j
 exact wpAny_truthy_bool ⟨l,p,q⟩
def Ra(t u:TT):TT:=λσ H Q=>t σ H λc a=>if c=true then u σ a Q else Q false a
def S6(t u:TT):TT:=λσ H Q=>t σ H λc a=>if c=true then Q true a else u σ a Q
def Rj(t:TT):TT:=λσ H Q=>t σ H λc a=>Q (!c) a
def Jd(i:PT X a f):PW X (.BoolOp .And [a] g) f:=by
 intro j b s σ H Q I h
 refine isTrue_and (bg (i b s σ H Q I h) λc l e=>?_)
 cases c with
 |true=>exact isTrue_and_nil e
 |false=>exact e
def NB(i:PT X a f):PW X (.BoolOp .Or [a] g) f:=by
 intro j b s σ H Q I h
 refine isTrue_or (bg (i b s σ H Q I h) λc l e=>?_)
 cases c with
 |false=>exact isTrue_or_nil e
 |true=>exact e
def NA(r:PT X a n)(o:PW X (.BoolOp .And (b::f) g) i):PW X (.BoolOp .And (a::b::f) g) (Ra n i):=by
 intro p e s σ H Q I h
 refine isTrue_and (bg (r e s σ H _ I h) ?_);rintro c t ⟨j,m,l⟩
 cases c with
 |true=>exact o p e t σ j Q m l
 |false=>exact⟨j,m,l⟩
def PV(r:PT X a n)(o:PW X (.BoolOp .Or (b::f) g) i):PW X (.BoolOp .Or (a::b::f) g) (S6 n i):=by
 intro p e s σ H Q I h
 refine isTrue_or (bg (r e s σ H _ I h) ?_);rintro c t ⟨j,m,l⟩
 cases c with
 |true=>exact⟨j,m,l⟩
 |false=>exact o p e t σ j Q m l
def M_(i:PT X a e):PT X (.UnaryOp .Not a f) (Rj e):=by
 intro b s σ H Q I h
 exact isTrue_not (i b s σ H (λc g=>Q (!c) g) I h)
def Px(b e:TE):TE:=λσ H Q=>b σ H λx a=>∃c,x=.bl c/\if c=true then e σ a Q else Q (.bl false) a
def Rk(b e:TE):TE:=λσ H Q=>b σ H λx a=>∃c,x=.bl c/\if c=true then Q (.bl true) a else e σ a Q
def P8(b:TE):TE:=λσ H Q=>b σ H λx a=>∃c,x=.bl c/\Q (.bl (!c)) a
def Mx(h:PE X a t):PE X (.BoolOp op [a] c) t:=λb s σ H Q I e=>BoolOp_one (h b s σ H Q I e)
def Ms(r:PE X a o)(n:PE X (.BoolOp .And (b::f) i) p):PE X (.BoolOp .And (a::b::f) i) (Px o p):=by
 intro e s σ H Q I h
 refine BoolOp_and (bg (r e s σ H _ I h) ?_);rintro v t ⟨x,j,l,m,g⟩
 obtain⟨c,rfl,g⟩:=g
 cases m
 refine wpAny_truthy_bool ?_
 cases c with
 |true=>exact n e t σ j Q l g
 |false=>exact⟨.bl false,j,l,rfl,g⟩
def PR(r:PE X a o)(n:PE X (.BoolOp .Or (b::f) i) p):PE X (.BoolOp .Or (a::b::f) i) (Rk o p):=by
 intro e s σ H Q I h
 refine BoolOp_or (bg (r e s σ H _ I h) ?_);rintro v t ⟨x,j,l,m,g⟩
 obtain⟨c,rfl,g⟩:=g
 cases m
 refine wpAny_truthy_bool ?_
 cases c with
 |false=>exact n e t σ j Q l g
 |true=>exact⟨.bl true,j,l,rfl,g⟩
def Mw(l:PE X a j):PE X (.UnaryOp .Not a f) (P8 j):=by
 intro b s σ H Q I h
 refine UnaryOp_ (bg (l b s σ H _ I h) ?_);rintro v n ⟨x,i,m,g,e⟩
 obtain⟨c,rfl,e⟩:=e
 cases g
 exact not_of (wpAny_truthy_bool ⟨.bl (!c),i,m,rfl,e⟩)
def S5(t:TT)(b e:TE):TE:=λσ H Q=>t σ H λc a=>if c=true then b σ a Q else e σ a Q
def yz(m:PT X c l)(t:PE X a p)(o:PE X b r):PE X (.IfExp c a b n) (S5 l p r):=by
 intro e s σ H Q I h
 refine wpAny_IfExp (bg (m e s σ H _ I h) ?_);rintro d i ⟨f,j,g⟩
 cases d with
 |true=>exact t e i σ f Q j g
 |false=>exact o e i σ f Q j g
def cW(K:l')(H:Hp)(a:Addr)(xs:List V):Prop :=
 Rd H a (.lst xs) \/
  ∃(o:Obj) (b:Array Value) (n:Nat),K.lookup a=some o/\o.cls=.type "list"/\o.dict=none/\o.data=.seq b n/\b.size<=sizeLine/\Vals xs b.toList
def iN(K:l')(H:Hp)(a:Addr)(xs:List V):Prop :=
 Rd H a (.tup xs) \/
  ∃(o:Obj) (b:Array Value) (n:Nat),K.lookup a=some o/\o.cls=.type "tuple"/\o.data=.seq b n/\b.size<=sizeLine/\Vals xs b.toList
def Qr:Value->Option V
 |.none=>some .ae
 |.bool b=>some (.bl b)
 |.int i _=>some (.int i)
 |.str x _=>some (.str x)
 |.bytes b _=>some (.zc b)
 |.float b _=>some (.QS b)
 |.ref a=>some (.ref a)
 |.type n=>some (.ty n)
 |_=>none
def RelV.abs(r:RelV x u):Qr u=some x:=by
 cases x with
 |ae=>cases r;rfl
 |bl _=>cases r;rfl
 |int _=>obtain⟨t,rfl⟩:=r;rfl
 |str _=>obtain⟨t,rfl⟩:=r;rfl
 |zc _=>obtain⟨t,rfl⟩:=r;rfl
 |QS _=>obtain⟨t,rfl⟩:=r;rfl
 |ref _=>cases r;rfl
 |ty _=>cases r;rfl
def RelV.inj(r:RelV x u)(q:RelV y u):x=y:=UA (r.abs.symm.trans q.abs)
def Vals.inj:∀{xs ys:List V} {us:List Value},Vals xs us->Vals ys us->xs=ys
 |_,_,_,.nil,.nil=>rfl
 |_,_,_,.cons r t,.cons r' t'=>by rw[r.inj r',Vals.inj t t']
section
variable {X:Cx}{pins:List (Addr × Obj)}{σ:St}{H:Hp}{s:Shared}{a:Addr}{xs ys:List V}
def cW.of{K:l'}(h:H a=some (.lst xs)):cW K H a xs:=.inl (.inl h)
def iN.of{K:l'}(h:H a=some (.tup xs)):iN K H a xs:=.inl (.inl h)
def Inv.list(I:Inv X pins σ H s)(h:cW X.K H a xs):∃b:List Value,Vals xs b/\PlainL s.heap a b.toArray/\xs.length<=sizeLine:=by
 rcases h with h|⟨o,b,n,f,c,g,i,j,r⟩
 ·obtain⟨z,b,n,r,e⟩:=h.ok I.au
  exact⟨b,r,⟨_,n,e,rfl,rfl,rfl⟩,z⟩
 ·refine⟨b.toList,r,⟨o,n,I.lQ a o f,c,g,by simpa using i⟩,?_⟩
  have e:=r.length
  simp only[U4] at e
  omega
def Inv.tuple(I:Inv X pins σ H s)(h:iN X.K H a xs):∃b:List Value,Vals xs b/\IsTup s.heap a b.toArray/\xs.length<=sizeLine:=by
 rcases h with h|⟨o,b,n,g,c,f,i,r⟩
 ·obtain⟨z,b,r,p⟩:=h.ok I.au
  exact⟨b,r,p,z⟩
 ·refine⟨b.toList,r,⟨o,I.lQ a o g,c,n,by simpa using f⟩,?_⟩
  have e:=r.length
  simp only[U4] at e
  omega
def Inv.sH(I:Inv X pins σ H s)(h:cW X.K H a xs)(l:cW X.K H a ys):xs=ys:=by
 obtain⟨c,r,⟨o,n,e,_,_,d⟩,_⟩:=I.list h
 obtain⟨b,i,⟨m,p,g,_,_,f⟩,_⟩:=I.list l
 rw[e] at g;cases g
 rw[d] at f
 injection f with j _
 have:c=b:=by simpa using congrArg Zw j
 subst this
 exact r.inj i
def Inv.vT(I:Inv X pins σ H s)(h:iN X.K H a xs)(l:iN X.K H a ys):xs=ys:=by
 obtain⟨c,r,⟨o,e,_,n,d⟩,_⟩:=I.tuple h
 obtain⟨b,i,⟨m,g,_,p,f⟩,_⟩:=I.tuple l
 rw[e] at g;cases g
 rw[d] at f
 injection f with j _
 have:c=b:=by simpa using congrArg Zw j
 subst this
 exact r.inj i
end
abbrev Cx.uM(X:Cx)(E:Value->Shared->Prop):Cx:={ X with xe:=E }
abbrev Cx.Mb(X:Cx):Cx:=X.uM λ_ _=>False
def Cx.Ok.uM{X:Cx}(ok:X.Ok)(E:Value->Shared->Prop):(X.uM E).Ok :=
 ⟨ok.mod,ok.kind,ok.glob,ok.blt,ok.above,ok.inj,ok.has,ok.KP,ok.hd,ok.frames,ok.NS,ok.OQ,ok.bs,ok.Ci,ok.yq,ok.xv,ok.ip,ok.C7⟩
def Cx.Ok.mF{X:Cx}(ok:(X.uM E).Ok):X.Ok :=
 ⟨ok.mod,ok.kind,ok.glob,ok.blt,ok.above,ok.inj,ok.has,ok.KP,ok.hd,ok.frames,ok.NS,ok.OQ,ok.bs,ok.Ci,ok.yq,ok.xv,ok.ip,ok.C7⟩
section
variable {X:Cx}{pins:List (Addr × Obj)}{σ:St}{H:Hp}{s:Shared}{E:Value->Shared->Prop}
def Inv.uM(I:Inv X pins σ H s)(E:Value->Shared->Prop):Inv (X.uM E) pins σ H s:=⟨I.ok.uM E,I.os,I.bare,I.base,I.loc,I.cell,I.free,I.cZ,I.pin,I.au,I.len⟩
def Inv.mF(I:Inv (X.uM E) pins σ H s):Inv X pins σ H s:=⟨I.ok.mF,I.os,I.bare,I.base,I.loc,I.cell,I.free,I.cZ,I.pin,I.au,I.len⟩
def SP.mF(h:SP (X.uM E) pins D f c):SP X pins D f c:=by
 cases f with
 |next=>obtain⟨b,a,I,q⟩:=h;exact⟨b,a,I.mF,q⟩
 |brk=>obtain⟨b,a,I,q⟩:=h;exact⟨b,a,I.mF,q⟩
 |cont=>obtain⟨b,a,I,q⟩:=h;exact⟨b,a,I.mF,q⟩
 |ret u=>obtain⟨v,b,a,I,r,q⟩:=h;exact⟨v,b,a,I.mF,r,q⟩
def kq.Mb{st:List Stmt}(h:kq X.Mb st t):kq X st t:=λa s σ H D I b =>
 wpAny_mono (h a s σ H D (I.uM _) b) (λ_ _ q=>q.mF) λ_ _ z=>UI z
end
section
variable {X:Cx}{st:Stmt}{rest:List Stmt}{t u:TS}{e:Expr}{te:TE}{pos:Pos}
def P7:TS:=λD σ H=>D.nx σ H
def Rn(t u:TS):TS:=λD σ H=>t { D with nx:=u D } σ H
def we:kq X [] P7:=λ_ _ σ H _ I h=>WI ⟨σ,H,I,h⟩
def oi(c:PS X st t)(g:kq X rest u):kq X (st::rest) (Rn t u):=by
 intro a s σ H D I h
 refine Z8 (bg (c a s σ H { D with nx:=u D } I h) λf l q=>?_)
 cases f with
 |next =>
  obtain⟨b,i,j,q⟩:=q
  exact g a l b i D j q
 |ret v=>exact q
 |brk=>exact q
 |cont=>exact q
def wg(b:PS X st t):kq X [st] t:=by
 intro a s σ H D I h
 refine Z8 (bg (b a s σ H D I h) λf c q=>?_)
 cases f with
 |next=>exact WI q
 |ret v=>exact q
 |brk=>exact q
 |cont=>exact q
def Inv.quiet{σ:St}(I:Inv X a σ H s):interactive X.env=false:=by simp[interactive,I.ok.kind]
def P4(a:TE):TS:=λD σ H=>a σ H λ_ b=>D.nx σ b
def mP(f:PE X e te)(i:autoParam (Ue e none pos.line X.env=pure false) dI):PS X (.Expr e pos) (P4 te):=by
 intro a s σ H D I h
 exact wpAny_Expr_any (bg (f a s σ H _ I h) fun v l ⟨x,b,g,j,c⟩=>⟨σ,b,g,c⟩) I.quiet i
def Rl(a:TE):TS:=λD σ H=>a σ H D.rt
def Aq(g:PE X e te):PS X (.Return (some e) pos) (Rl te):=by
 intro a s σ H D I h
 exact wpAny_Return_some (bg (g a s σ H _ I h) fun v j ⟨x,c,i,b,f⟩=>⟨x,σ,c,i,b,f⟩)
def Rh(c:TT)(t u:TS):TS:=λD σ H=>c σ H λb a=>if b=true then t D σ a else u D σ a
def Kq(n:PT X c i)(p:kq X a t)(o:kq X b u):PS X (.If c a b pos) (Rh i t u):=by
 intro f s σ H D I h
 refine wpAny_If (bg (n f s σ H _ I h) ?_);rintro d l ⟨g,m,j⟩
 cases d with
 |true=>exact p f l σ g D m j
 |false=>exact o f l σ g D m j
def NU:TS:=λ_ _ _=>False
def GP:PS X st NU:=λ_ _ _ _ _ _ h=>h.elim
end
abbrev TG:=V->St->Hp->(St->Hp->Prop)->Prop
abbrev HY:=List V->St->Hp->(St->Hp->Prop)->Prop
def PG(X:Cx)(a:Expr)(t:TG):Prop :=
 ∀(b:List (Addr × Obj)) (s:Shared) (σ:St) (H:Hp) (v:V) (u:Value) (Q:St->Hp->Prop),Inv X b σ H s->RelV v u->t v σ H Q ->
  wpAny (model X.prog X.w) X.A (assign a X.env u) (λ_ f=>∃ c e,Inv X b c e f/\Q c e) X.xe s
def EI(X:Cx)(e:List Expr)(t:HY):Prop :=
 ∀(a:List (Addr × Obj)) (s:Shared) (σ:St) (H:Hp) (vs:List V) (us:List Value) (Q:St->Hp->Prop),Inv X a σ H s->Vals vs us->t vs σ H Q ->
  wpAny (model X.prog X.w) X.A (assignInOrder ((assignEach e X.env).map (·.2)) us) (λ_ f=>∃ b c,Inv X a b c f/\Q b c) X.xe s
def cz(i:Nat):TG:=λv σ H Q=>Q (σ.set i (some v)) H
def az(b:X.N.Nodup)(f:X.N[i]?=some x)(g:Loc X.env.scope x)(e:autoParam (X.fn x=true\/X.env.scope.names.lookup x=some .local) eS):PG X (.Name x c) (cz i):=by
 intro a s σ H v u Q I r h
 exact wpAny_assign_Name (tL I b f g r (λl j=>⟨_,H,j,h⟩) e)
def L3:HY:=λa σ H Q=>a=[]/\Q σ H
def oN(t:TG)(u:HY):HY:=λa σ H Q=>∃v r,a=v::r/\t v σ H λc b=>u r c b Q
def B5:EI X [] L3:=by
 intro a s σ H c b Q I r h
 obtain⟨e,h⟩:=h
 subst e
 cases r
 exact assignInOrder_nil ⟨σ,H,I,h⟩
def lX(i:PG X e t)(m:EI X b u)
  (p:autoParam ((assignEach (e::b) X.env).map (·.2)=assign e X.env::(assignEach b X.env).map (·.2)) dI):EI X (e::b) (oN t u):=by
 intro a s σ H w y Q I r h
 obtain⟨v,x,f,h⟩:=h
 subst f
 cases r with
 |cons r l =>
  rw[p]
  refine assignInOrder_cons (bg (i a s σ H _ _ _ I r h) ?_);rintro _ n ⟨c,g,o,j⟩
  exact m a n c g _ _ Q o l j
def IH(K:l')(n:Nat)(t:HY):TG:=λv σ H Q=>∃a b,v=.ref a/\iN K H a b/\b.length=n/\t b σ H Q
def GC{p:Pos}{k:Nat}(l:X.calm=true)(h:EI X f t)
  (B:autoParam ((assignEach f X.env).length=n) dI)(i:autoParam ((assignEach f X.env).findIdx? (·.1)=none) dI):PG X (.Tuple f k p) (IH X.K n t):=by
 intro c s σ H v u Q I r g
 obtain⟨a,F,m,z,y,g⟩:=g
 subst m
 cases r
 obtain⟨A,j,w,G⟩:=I.tuple z
 refine assign_Tuple_tuple (I.ok.hd l) w (by simp[B,<- y,j.length]) i λC x=>?_
 have E:Inv X c σ H { s with heap:=C }:=I.kept (t':=s.toks) λb o e=>x b o (Tq (TU e)) e
 exact h c _ σ H F _ Q E (by simpa using j) g
def Rb(a:TE)(g:TG):TS:=λD σ H=>a σ H λx b=>g x σ b D.nx
def Ar{c:Pos}(m:X.N.Nodup)(o:X.N[i]?=some x)(p:Loc X.env.scope x)(t:PE X e f)(w:autoParam (Ue e (some (.Name x a)) c.line X.env=pure false) dI)(g:autoParam (X.fn x=true\/X.env.scope.names.lookup x=some .local) eS) :
  PS X (.Assign [.Name x a] e c) (Rb f (cz i)):=by
 intro b s σ H D I h
 refine wpAny_Assign_Name (bg (t b s σ H _ I h) ?_) w;rintro v A ⟨y,l,u,j,r⟩
 exact tL u m o p j (λz n=>⟨_,l,n,r⟩) g
def NX(c:TT)(h:TS):TS:=λD σ H=>∃W:Nat->St->Hp->Prop,(∃m,W m σ H)/\∀m σ H,W m σ H ->
 c σ H λb a=>if b=true then ∃N:St->Hp->Prop,(∀ f g,N f g->∃e,e<m/\W e f g)/\h { D with nx:=N,ct:=N,bk:=D.nx } σ a else D.nx σ a
def zA(F:V' (model X.prog X.w) X.A X.env X.xe)(R:PT X c G)(Y:kq X e J):PS X (.While c e [] S) (NX G J):=by
 intro a s σ H D I h
 obtain⟨W,⟨T,U⟩,i⟩:=h
 refine wpAny_While (codeAny_whileLoop (λn Q=>∃ B L,Inv X a B L Q/\W n B L) ?_ T ⟨σ,H,I,U⟩)
 rintro n Z ⟨l,C,O,P⟩
 refine VX F (bg (R a Z l C _ O (i n l C P)) ?_);rintro b M ⟨E,y,m⟩
 cases b with
 |true =>
  obtain⟨N,z,m⟩:=m
  rw[if_pos rfl]
  refine VX F (bg (Y a M l E _ y m) λf s3 o=>?_)
  cases f with
  |next =>
   obtain⟨g,j,p,u⟩:=o
   obtain⟨r,t,x⟩:=z g j u
   exact⟨r,t,g,j,p,x⟩
  |cont =>
   obtain⟨g,j,p,u⟩:=o
   obtain⟨r,t,x⟩:=z g j u
   exact⟨r,t,g,j,p,x⟩
  |brk=>exact o
  |ret v=>exact o
 |false =>
  rw[if_neg Fk]
  exact WI ⟨l,E,y,m⟩
structure It where
 go:Nat->Hp->Prop
 BC:Nat->Hp->V->Hp->Prop
 stop:Nat->Hp->Prop
 u:Bool
def bp(A:Around)(H:Hp):Prop:=A.handled=none\/∃a o u b,A.handled=some (.ref a)/\H a=some (.eu o u)/\o.data=.fields b/\b[2]?=some .none
def jO(A:Around)(h:Heap):Prop:=A.handled=none\/∃a o b,A.handled=some (.ref a)/\h.get? a=some o/\o.data=.fields b/\b[2]?=some .none
def uE:entryFor table "proto.unchain"=some Builtin.«proto.unchain»:=entryFor_of_tree (by kernel_rfl)
def kN(r:A.handled=some (.ref a))(p:a≠e)(l:s.heap.get? a=some j)(o:j.data=.fields f)(n:f[2]?=some .none)(m:s.heap.get? e=some on)(c:on.data=.fields i)(t:2<i.size)
  (h:E (.ref e) { s with heap:=s.heap.update e (UT (·.setIfInBounds 2 (.ref a)))}):wpAny (model g w) A (raiseNew (.ref e):Sem α) Q E s:=by
 unfold raiseNew
 refine wpAny_bind (wpAny_handled ?_)
 rw[r]
 have b:(Td a != Td e)=true:=by simpa using p
 dsimp only
 rw[if_pos b]
 refine wpAny_bind (wpAny_holding (wpAny_runValue (codeAny_builtin uE ?_)))
 unfold Builtin.«proto.unchain»
 refine wpAny_bind (wpAny_field l o n ?_)
 rw[if_pos (show(T5 == T5)=true from rfl)]
 refine wpAny_pure ?_
 show wpAny _ _ (do setField (Td e) 2 (Td a);throw (Td e)) _ _ _
 exact wpAny_bind (wpAny_setField m c t (wpAny_throw h))
def zS(n:jO A s.heap)(f:s.heap.IsTupleIter e t i)(S:s.heap.IsTuple t c)(N:c[i]?=none)(X:∀g,A.handled=some (.ref g)->g≠e)
  (G:∀J,UU e s.heap J->Q none { s with heap:=J }):wpAny (model I w) A (pyNext (.ref e)) Q E s:=by
 rcases n with n|⟨g,Y,vs,P,Z,u,h2⟩
 ·exact wpAny_pyNext_tuple_end n f S N G
 have F:=X g P
 obtain⟨o,z,hc,v⟩:=id f;obtain⟨ol,l,_,nl,B⟩:=S
 unfold pyNext
 refine wpAny_bind (wpAny_attempt (wpAny_callSpecial?_slot (name:=VF "__next__") f.typeIs Up (wpAny_call_entry Up f.typeIs WJ ?_ (WC _))))
 show wpAny _ _ (field (.ref e) 0 >>= _) _ _ s;refine wpAny_bind (wpAny_field z v (x:=.ref t) rfl ?_)
 show wpAny _ _ (if(Td t == T5)=true then _ else _) _ _ s;rw[if_neg (show¬((Td t == T5)=true) from Fk)]
 show wpAny _ _ (field (.ref e) 1 >>= _) _ _ s;refine wpAny_bind (wpAny_field z v (x:=.int i 0) rfl ?_)
 show wpAny _ _ (seqItems? (.ref t) >>= _) _ _ s;refine wpAny_bind (wpAny_seqItems l B ?_);simp only[U2,N]
 refine wpAny_bind (wpAny_rule (wpAny_bind (wpAny_setField z v (by simp) ?_)));show wpAny _ _ (newExc (.type "StopIteration") [] >>= _) _ _ _
 refine wpAny_bind ?_;simp only[newExc,YF];refine wpAny_bind (wpAny_newObj_type ?_ (by size_fits))
 refine wpAny_bind (m:=U3 _ _) (wpAny_of_eq (a:=T5) (by first|rfl|(simp only[U3];rfl)) ?_);refine wpAny_newObj_type ?_ (by size_fits)
 generalize y:s.heap.update e (UT (·.setIfInBounds 0 T5))=M
 have W:UU e s.heap M:=by rw[<- y];exact(VP ..).extBut
 generalize C:M.push _=h
 have r:UU e s.heap h:=by rw[<- C];exact W.push _
 have R:=r g Y F Z
 refine kN (A:=A.in1) P (Tq (TU R)) (B' _ R) u h2 (TN _ rfl) rfl (by rw[WN];show 2<6+_;omega) ?_
 generalize j:h.push _=p
 have k2:UU e s.heap p:=by rw[<- j];exact r.push _
 have n2:∃on H,p.get? h.objs.size=some on/\on.cls=.type "StopIteration"/\on.data=.fields H:=by rw[<- j];exact⟨_,_,TN _ rfl,rfl,rfl⟩
 obtain⟨on,H,n3,U,n6⟩:=n2
 have n5:(p.update h.objs.size (UT (·.setIfInBounds 2 (Td g)))).get? h.objs.size=some (on.mapFields (·.setIfInBounds 2 (Td g))):=UO _ n3 (Ut (Uk n6 _))
 refine wpAny_bind (wpAny_isInstance (T:="StopIteration") (b:=true) ⟨_,n5,by rw[VU];exact U⟩ WZ ?_)
 refine wpAny_pure (G _ λb O L q=>?_)
 exact(T6 _ _ (Uj (TU (r b O L q)))).trans (k2 b O L q)
def uu(n:jO A s.heap)(f:s.heap.IsListIter e t i)(S:s.heap.IsList t c)(N:c[i]?=none)(X:∀g,A.handled=some (.ref g)->g≠e)
  (G:∀J,UU e s.heap J->Q none { s with heap:=J }):wpAny (model I w) A (pyNext (.ref e)) Q E s:=by
 rcases n with n|⟨g,Y,vs,P,Z,u,h2⟩
 ·exact wpAny_pyNext_list_end n f S N G
 have F:=X g P
 obtain⟨o,z,hc,v⟩:=id f
 obtain⟨ol,l,_,nl,B⟩:=S
 unfold pyNext
 refine wpAny_bind (wpAny_attempt (wpAny_callSpecial?_slot (name:=VF "__next__") f.typeIs WY (wpAny_call_entry WY f.typeIs Zd ?_ (args_listiter_next _))))
 show wpAny _ _ (field (.ref e) 0 >>= _) _ _ s;refine wpAny_bind (wpAny_field z v (x:=.ref t) rfl ?_)
 show wpAny _ _ (if(Td t == T5)=true then _ else _) _ _ s;rw[if_neg (show¬((Td t == T5)=true) from Fk)]
 show wpAny _ _ (field (.ref e) 1 >>= _) _ _ s;refine wpAny_bind (wpAny_field z v (x:=.int i 0) rfl ?_)
 show wpAny _ _ (seqItems? (.ref t) >>= _) _ _ s;refine wpAny_bind (wpAny_seqItems l B ?_);simp only[U2,N]
 refine wpAny_bind (wpAny_rule (wpAny_bind (wpAny_setField z v (by simp) ?_)));show wpAny _ _ (newExc (.type "StopIteration") [] >>= _) _ _ _
 refine wpAny_bind ?_;simp only[newExc,YF];refine wpAny_bind (wpAny_newObj_type ?_ (by size_fits))
 refine wpAny_bind (m:=U3 _ _) (wpAny_of_eq (a:=T5) (by first|rfl|(simp only[U3];rfl)) ?_);refine wpAny_newObj_type ?_ (by size_fits)
 generalize y:s.heap.update e (UT (·.setIfInBounds 0 T5))=M
 have W:UU e s.heap M:=by rw[<- y];exact(VP ..).extBut
 generalize C:M.push _=h
 have r:UU e s.heap h:=by rw[<- C];exact W.push _
 have R:=r g Y F Z
 refine kN (A:=A.in1) P (Tq (TU R)) (B' _ R) u h2 (TN _ rfl) rfl (by rw[WN];show 2<6+_;omega) ?_
 generalize j:h.push _=p
 have k2:UU e s.heap p:=by rw[<- j];exact r.push _
 have n2:∃on H,p.get? h.objs.size=some on/\on.cls=.type "StopIteration"/\on.data=.fields H:=by rw[<- j];exact⟨_,_,TN _ rfl,rfl,rfl⟩
 obtain⟨on,H,n3,U,n6⟩:=n2
 have n5:(p.update h.objs.size (UT (·.setIfInBounds 2 (Td g)))).get? h.objs.size=some (on.mapFields (·.setIfInBounds 2 (Td g))):=UO _ n3 (Ut (Uk n6 _))
 refine wpAny_bind (wpAny_isInstance (T:="StopIteration") (b:=true) ⟨_,n5,by rw[VU];exact U⟩ WZ ?_)
 refine wpAny_pure (G _ λb O L q=>?_)
 exact(T6 _ _ (Uj (TU (r b O L q)))).trans (k2 b O L q)
def Av{x left step:Int}(j:jO A s.heap)(c:Xx s.heap f x left step)(C:left<=0)(L:∀g,A.handled=some (.ref g)->g≠f)
  (u:∀z,UU f s.heap z->Q none { s with heap:=z }):wpAny (model v w) A (pyNext (.ref f)) Q E s:=by
 rcases j with j|⟨g,M,X,H,N,p,W⟩
 ·exact wpAny_pyNext_range_end j c C u
 have t:=L g H
 unfold pyNext
 refine wpAny_bind (wpAny_attempt (wpAny_callSpecial?_slot (name:=VF "__next__") ⟨_,c,rfl⟩ X4 (wpAny_call_entry X4 ⟨_,c,rfl⟩ F.entry_range_iterator_next ?_ (F.args_range_iterator_next_1 _))))
 show wpAny _ _ (field (.ref f) 0 >>= _) _ _ s;refine wpAny_bind (wpAny_field c rfl (x:=rawInt x) rfl ?_)
 show wpAny _ _ (field (.ref f) 1 >>= _) _ _ s;refine wpAny_bind (wpAny_field c rfl (x:=rawInt left) rfl ?_)
 show wpAny _ _ (field (.ref f) 2 >>= _) _ _ s;refine wpAny_bind (wpAny_field c rfl (x:=rawInt step) rfl ?_)
 show wpAny _ _ (if left<=0 then _ else _) _ _ s
 rw[if_pos C]
 refine wpAny_bind (wpAny_rule ?_)
 refine wpAny_bind ?_
 unfold ZN
 refine wpAny_bind ?_;simp only[newExc,YF];refine wpAny_bind (wpAny_newObj_type ?_ (by size_fits))
 refine wpAny_bind (m:=U3 _ _) (wpAny_of_eq (a:=T5) (by first|rfl|(simp only[U3];rfl)) ?_);refine wpAny_newObj_type ?_ (by size_fits)
 generalize r:s.heap.push _=h
 have n:UU f s.heap h:=by rw[<- r];exact λb o _ e=>B' _ e
 have I:=n g M t N
 refine kN (A:=A.in1) H (Tq (TU I)) (B' _ I) p W (TN _ rfl) rfl (by rw[WN];show 2<6+_;omega) ?_
 generalize i:h.push _=l
 have S:UU f s.heap l:=by rw[<- i];exact n.push _
 have U:∃on y,l.get? h.objs.size=some on/\on.cls=.type "StopIteration"/\on.data=.fields y:=by rw[<- i];exact⟨_,_,TN _ rfl,rfl,rfl⟩
 obtain⟨on,y,R,J,P⟩:=U
 have O:(l.update h.objs.size (UT (·.setIfInBounds 2 (Td g)))).get? h.objs.size=some (on.mapFields (·.setIfInBounds 2 (Td g))):=UO _ R (Ut (Uk P _))
 refine wpAny_bind (wpAny_isInstance (T:="StopIteration") (b:=true) ⟨_,O,by rw[VU];exact J⟩ WZ ?_)
 refine wpAny_pure (u _ λb G B q=>?_)
 exact(T6 _ _ (Uj (TU (n b G B q)))).trans (S b G B q)
def EC(X:Cx)(J:It)(H:Hp):Prop:=X.calm=true\/(J.u=true/\bp X.A H)
def lF(X:Cx)(a:List (Addr × Obj))(H:Hp)(b:Addr):Prop :=
 H b=none/\b≠X.env.locals/\b∉X.fs/\(b∈X.ex\/X.s₀.heap.objs.size<=b)/\(∀x c,X.env.cells.lookup x=some c->c≠b)/\∀p∈X.pn++a,p.1≠b
def Inv.E8{σ:St}{b:Addr}(I:Inv X a σ H s)(f:s.heap.objs.size<=b)(i:g b=none):lF X a g b:=by
 refine⟨i,Uj (UB I.lt f),I.RJ f,.inr (G' I.sz f),λx c e z=>?_,λp h z=>?_⟩
 ·obtain⟨v,q⟩:=I.cell x c e
  exact absurd (UB q.lt (by rw[z];exact f)) (Uw _)
 ·exact absurd (UB (TU (I.pin p h).1) (by rw[z];exact f)) (Uw _)
def Inv.hand{σ:St}{g:List Addr}(I:Inv X a σ H s)(f:EC X J H)(l:∀b∈g,lF X a H b):jO X.A s.heap/\∀c,X.A.handled=some (.ref c)->∀b∈g,c≠b:=by
 rcases f with f|⟨_,f|⟨c,o,u,j,h,i,n,p⟩⟩
 ·exact⟨.inl (I.ok.hd f),λc e=>by rw[I.ok.hd f] at e;cases e⟩
 ·exact⟨.inl f,λc e=>by rw[f] at e;cases e⟩
 ·refine⟨.inr ⟨c,o,j,h,(show aO X.prog X.w H s.heap c (.eu o u) from I.au c _ i).1,n,p⟩,λr e b m z=>?_⟩
  rw[h] at e
  cases e
  have:=(l b m).1
  rw[<- z,i] at this
  cases this
def EC.now{σ:St}(h:EC X J X.H₀)(I:Inv X a σ H s):EC X J H:=by
 rcases h with h|⟨u,h|⟨b,o,v,c,e,f,g⟩⟩
 ·exact .inl h
 ·exact .inr ⟨u,.inl h⟩
 ·exact .inr ⟨u,.inr ⟨b,o,v,c,e,I.base.dZ b o v f,g⟩⟩
structure Turn (P:TV) (w:World) (K:l') (tg:Expr) (J:It) (fp:List Addr) (it:Addr) (tn:Nat->Heap->Prop):Prop where
 mem:it∈fp
 obj:∀i h,tn i h->∀b∈fp,∃o,h.get? b=some o/\∀v,o.data≠.cell v
 keep:∀i h h',tn i h->(∀b∈fp,∀o,h.get? b=some o->h'.get? b=some o)->tn i h'
 item:∀(X:Cx),X.prog=P->X.w=w->X.K=K->∀(i:Nat) (pins:List (Addr × Obj)) (s:Shared) (σ:St) (H:Hp) (E:Value->Shared->Prop),EC X J H->Inv X pins σ H s->(∀b∈fp,lF X pins H b)->tn i s.heap->J.go i H ->
  wpAny (model P w) X.A (pyNext (.ref it)) (λr s1=>∃u,r=some u /\
   wpAny (model P w) X.A (letOwnedTupleGo tg (.ref it) u) (λ_ s2=>∃x H',Inv X pins σ H' s2/\RelV x u/\J.BC i H x H'/\tn (i+1) s2.heap/\∀b∈fp,H' b=none) E s1) E s
 done:∀(X:Cx),X.prog=P->X.w=w->X.K=K->∀(i:Nat) (pins:List (Addr × Obj)) (s:Shared) (σ:St) (H:Hp) (E:Value->Shared->Prop),EC X J H->Inv X pins σ H s->(∀b∈fp,lF X pins H b)->tn i s.heap->J.stop i H ->
  wpAny (model P w) X.A (pyNext (.ref it)) (λr s1=>r=none/\Inv X pins σ H s1) E s
 self:∀(A:Around) (i:Nat) (s:Shared) (Q:Value->Shared->Prop) (E:Value->Shared->Prop),tn i s.heap->Q (.ref it) s->wpAny (model P w) A (pyIter (.ref it)) Q E s
abbrev TI:=St->Hp->(It->Hp->Prop)->Prop
def SH(X:Cx)(a:List (Addr × Obj))(σ:St)(j:Expr)(R:It->Hp->Prop)(c:Value)(h:Shared):Prop :=
 ∃(i:Addr) (g:List Addr) (f:Nat->Heap->Prop) (J:It) (e:Hp),c=.ref i/\Inv X a σ e h/\Turn X.prog X.w X.K j J g i f/\f 0 h.heap/\(∀b∈g,lF X a e b)/\R J e
def PI(X:Cx)(e b:Expr)(f:TI):Prop :=
 ∀(a:List (Addr × Obj)) (s:Shared) (σ:St) (H:Hp) (R:It->Hp->Prop),Inv X a σ H s->f σ H R ->
  wpAny (model X.prog X.w) X.A (eval b X.env) (λv c=>wpAny (model X.prog X.w) X.A (pyIter v) (SH X a σ e R) X.xe c) X.xe s
def yB(f:s.heap.get? c=some o)(g:o.cls=.type n)(j:o.data=.fields b)
    (i:["enumerate","zip","dict_itemiterator","dict_reverseitemiterator","odict_iterator","itertools.zip_longest","itertools.pairwise"].contains n=false)(a:Q () s):wpAny M A (letOwnedTupleGo e (.ref c) u) Q E s:=by
  unfold letOwnedTupleGo
  cases e<;>first
    |exact wpAny_pure a
    | (cases u<;>first
        |exact wpAny_pure a
        | (refine wpAny_bind (wpAny_load f ?_)
           rw[g,j]
           show wpAny M A (if(["enumerate","zip","dict_itemiterator","dict_reverseitemiterator","odict_iterator","itertools.zip_longest","itertools.pairwise"].contains n&&b[0]? == some (rawInt _))=true then _ else _) Q E s
           rw[if_neg (by intro h;rw[i,Bool.false_and] at h;cases h)]
           exact wpAny_pure a))
def SA(K:l')(a:Addr):It :=
 ⟨λi H=>∃xs x,cW K H a xs/\xs[i]?=some x,λi H x b=>b=H/\∀xs,cW K H a xs->xs[i]?=some x,λi H=>∃xs,cW K H a xs/\xs.length<=i,true⟩
def SE(K:l')(a:Addr):It :=
 ⟨λi H=>∃xs x,iN K H a xs/\xs[i]?=some x,λi H x b=>b=H/\∀xs,iN K H a xs->xs[i]?=some x,λi H=>∃xs,iN K H a xs/\xs.length<=i,true⟩
def QM(lo:Int)(n:Nat):It:=⟨λi _=>i<n,λi H x a=>a=H/\x=.int (lo+i),λi _=>n<=i,true⟩
def Dy{K:l'}(a it:Addr):Turn P w K R (SA K a) [it] it (λi h=>h.IsListIter it a i) where
 mem:=by simp
 obj:=λi h st b g=>by
  have e:b=it:=by simpa using g
  subst e
  obtain⟨o,e,c,d⟩:=st
  exact⟨o,e,λv z=>by rw[d] at z;cases z⟩
 keep:=λi h m st k=>st.at λo e=>k it (by simp) o e
 item:=by
  intro X J L t i f s σ H E A I j st O
  subst J L t
  obtain⟨W,x,n,y⟩:=O
  obtain⟨M,C,p,hz⟩:=I.list n
  obtain⟨u,Y,Z⟩:=C.get y
  obtain⟨G,N,f2,F,B,r⟩:=j it (by simp)
  refine Y5 st p.isList (x:=u) (by simpa using Y) λm l sb=>?_
  have Q:Inv X f σ H { s with heap:=m }:=I.turned (t':=s.toks) (λb o g e=>(sb.2 b g).trans e) G N F B r
  obtain⟨o,e,c,d⟩:=id l
  exact⟨u,rfl,yB (s:={ s with heap:=m }) e c d (by decide) ⟨x,H,Q,Z,⟨rfl,λys T=>by rw[I.sH T n];exact y⟩,l,λb g=>(j b g).1⟩⟩
 done:=by
  intro X J L t i f s σ H E A I j st O
  subst J L t
  obtain⟨W,n,y⟩:=O
  obtain⟨M,C,p,hz⟩:=I.list n
  obtain⟨G,N,f2,F,B,r⟩:=j it (by simp)
  have hl:=C.length
  exact uu (I.hand A j).1 st p.isList (by simp;omega) (λU e=>(I.hand A j).2 U e it (by simp)) λm S=>⟨rfl,I.turned (t':=s.toks) (λb o g e=>S b o g e) G N F B r⟩
 self:=λ_ _ _ _ _ st h=>ZG st h
def A_{K:l'}(a it:Addr):Turn P w K R (SE K a) [it] it (λi h=>h.IsTupleIter it a i) where
 mem:=by simp
 obj:=λi h st b g=>by
  have e:b=it:=by simpa using g
  subst e
  obtain⟨o,e,c,d⟩:=st
  exact⟨o,e,λv z=>by rw[d] at z;cases z⟩
 keep:=λi h n st k=>st.at λo e=>k it (by simp) o e
 item:=by
  intro X L M y i f s σ H E B I l st O
  subst L M y
  obtain⟨W,x,r,A⟩:=O
  obtain⟨j,F,p,hz⟩:=I.tuple r
  obtain⟨u,Y,Z⟩:=F.get A
  obtain⟨J,N,f2,G,C,t⟩:=l it (by simp)
  refine wpAny_pyNext_tuple_item st (show s.heap.IsTuple a j.toArray from p) (x:=u) (by simpa using Y) λn m sb=>?_
  have Q:Inv X f σ H { s with heap:=n }:=I.turned (t':=s.toks) (λb o g e=>(sb.2 b g).trans e) J N G C t
  obtain⟨o,e,c,d⟩:=id m
  exact⟨u,rfl,yB (s:={ s with heap:=n }) e c d (by decide) ⟨x,H,Q,Z,⟨rfl,λys T=>by rw[I.vT T r];exact A⟩,m,λb g=>(l b g).1⟩⟩
 done:=by
  intro X L M y i f s σ H E B I l st O
  subst L M y
  obtain⟨W,r,A⟩:=O
  obtain⟨j,F,p,hz⟩:=I.tuple r
  obtain⟨J,N,f2,G,C,t⟩:=l it (by simp)
  have hl:=F.length
  exact zS (I.hand B l).1 st (show s.heap.IsTuple a j.toArray from p) (by simp;omega) (λU e=>(I.hand B l).2 U e it (by simp)) λn S=>⟨rfl,I.turned (t':=s.toks) (λb o g e=>S b o g e) J N G C t⟩
 self:=λ_ _ _ _ _ st h=>wpAny_pyIter_tupleiter st h
def A9{K:l'}(it:Addr)(lo:Int)(n:Nat):Turn P w K G (QM lo n) [it] it (λi h=>Xx h it (lo+(i:Nat)*1) ((n:Int) - (i:Nat)) 1) where
 mem:=by simp
 obj:=λi h st b c=>by
  have e:b=it:=by simpa using c
  subst e
  exact⟨_,st,λv z=>by
   have Q:Data.fields _=Data.cell v:=z
   cases Q⟩
 keep:=λi h j st k=>k it (by simp) _ st
 item:=by
  intro X y A m i a s σ H E p I f st C
  subst y A m
  obtain⟨x,B,R,u,r,l⟩:=f it (by simp)
  have F:i<n:=C
  refine wpAny_pyNext_range_item st (by omega) λj zM S=>?_
  have g:Xx j it (lo+((i+1:Nat):Nat)*1) ((n:Int) - ((i+1:Nat):Nat)) 1:=by
   have O:lo+((i+1:Nat):Int)*1=lo+(i:Int)*1+1:=by omega
   have N:(n:Int) - ((i+1:Nat):Int)=(n:Int) - (i:Int) - 1:=by omega
   rw[O,N];exact zM
  have t:Tok:=s.toks
  have J:Inv X a σ H { s with heap:=j,toks:=s.toks+1 }:=I.turned (λb o c e=>(S.2 b c).trans e) x B u r l
  refine⟨_,rfl,yB (s:={ s with heap:=j,toks:=s.toks+1 }) (n:="range_iterator") g rfl rfl (by decide) ⟨.int (lo+i),H,J,⟨s.toks,?_⟩,⟨rfl,rfl⟩,g,λb c=>(f b c).1⟩⟩
  rw[Int.mul_one]
 done:=by
  intro X y A m i a s σ H E p I f st C
  subst y A m
  obtain⟨x,B,R,u,r,l⟩:=f it (by simp)
  exact Av (I.hand p f).1 st (by have:n<=i:=C;omega) (λM e=>(I.hand p f).2 M e it (by simp)) λj L=>⟨rfl,I.turned (t':=s.toks) (λb o c e=>L b o c e) x B u r l⟩
 self:=λ_ _ _ _ _ st h=>wpAny_pyIter_rangeiter st h
def GW{σ:St}{lo a:Int}(I:Inv X c σ H s)(j:-(2 ^ 62)<=lo)(m:lo<2 ^ 62)(n:-(2 ^ 62)<=a)(p:a<2 ^ 62)
  (q:R (QM lo (a - lo).toNat) H):wpAny (model X.prog X.w) X.A (pyIter (.ref s.heap.objs.size)) (SH X c σ r R) E { s with heap:=s.heap.push { cls:=.type "range",data:=.fields #[.int lo t,.int a u,.int 1 v] },toks:=f }:=by
 refine wpAny_pyIter_range (IsRange.new ..) (small_one j m n p) ?_
 have g:Inv X c σ H { s with heap:=s.heap.push { cls:=.type "range",data:=.fields #[.int lo t,.int a u,.int 1 v] },toks:=f }:=I.kept λb o e=>B' _ e
 refine⟨(s.heap.push { cls:=.type "range",data:=.fields #[.int lo t,.int a u,.int 1 v] }).objs.size,[(s.heap.push { cls:=.type "range",data:=.fields #[.int lo t,.int a u,.int 1 v] }).objs.size],_,_,H,rfl,
  g.kept (t':=f) λb o e=>B' _ e,A9 _ lo (a - lo).toNat,?_,λb i=>?_,q⟩
 ·have h:lo+((0:Nat):Int)*1=lo:=by simp
  have l:(((a - lo).toNat:Nat):Int) - ((0:Nat):Int)=aAE lo a 1:=by rw[rangeSize_one];split<;>omega
  show Xx _ _ (lo+((0:Nat):Int)*1) ((((a - lo).toNat:Nat):Int) - ((0:Nat):Int)) 1
  rw[h,l]
  exact TN _ rfl
 ·have e:b=(s.heap.push { cls:=.type "range",data:=.fields #[.int lo t,.int a u,.int 1 v] }).objs.size:=by simpa using i
  subst e
  exact g.E8 (S' _) (g.au.fresh (S' _))
def Od(a:TA):TI:=λσ H R=>a σ H λb c=>∃j:Int,b=[.int j]/\-(2 ^ 62)<=j/\j<2 ^ 62/\R (QM 0 j.toNat) c
def vH(l:Gl X "range")(m:X.mg "range"=none)(u:PA X [a] g)(w:autoParam (starEach [a] X.env=[(false,eval a X.env)]) dI):PI X B (.Call (.Name "range" p) [a] [] b) (Od g):=by
 intro c s σ H R I h
 refine Call_ (nK I l m boot_range (VJ (bg (u b c s σ H _ I h) ?_) w rfl));rintro A z ⟨x,y,v,i,f⟩
 obtain⟨j,e,f,n,q⟩:=f
 subst e
 cases i with
 |cons r o =>
  cases o
  obtain⟨t,rfl⟩:=r
  exact call_range_1 (GW v (by omega) (by omega) f n (by simpa using q))
def Rf(l:TI)(g:TG)(j:TS):TS:=λD σ H=>l σ H λJ f=>∃W:Nat->Nat->St->Hp->Prop,(∃m,W 0 m σ f)/\∀i m σ H,W i m σ H ->
 (J.stop i H/\D.nx σ H)\/(J.go i H/\∃N:St->Hp->Prop,(∀ c a,N c a->∃b,b<m/\W (i+1) b c a)/\∀x a,J.BC i H x a->g x σ a λh e=>j { D with nx:=N,ct:=N,bk:=D.nx } h e)
def Gv(C:It->Prop)(l:TI)(g:TG)(j:TS):TS:=λD σ H=>l σ H λJ f=>C J/\∃W:Nat->Nat->St->Hp->Prop,(∃m,W 0 m σ f)/\∀i m σ H,W i m σ H ->
 (J.stop i H/\D.nx σ H)\/(J.go i H/\∃N:St->Hp->Prop,(∀ c a,N c a->∃b,b<m/\W (i+1) b c a)/\∀x a,J.BC i H x a->g x σ a λh e=>j { D with nx:=N,ct:=N,bk:=D.nx } h e)
def nO(a:List Addr)(h:Heap):List (Addr × Obj):=a.filterMap λb=>(h.get? b).map λo=>(b,o)
def gQ(c:b∈a)(e:h.get? b=some o):(b,o)∈nO a h:=Vi.mpr ⟨b,c,by rw[e];rfl⟩
def pk(f:p∈nO a h):p.1∈a/\h.get? p.1=some p.2:=by
 obtain⟨b,g,e⟩:=Vi.mp f
 cases q:h.get? b with
 |none=>rw[q] at e;cases e
 |some o =>
  rw[q] at e
  have c:(b,o)=p:=UA e
  subst c
  exact⟨g,q⟩
def Inv.pinned{σ:St}(I:Inv X a σ H s)(i:∀b∈c,lF X a H b)(h:∀b∈c,∃o,s.heap.get? b=some o/\∀v,o.data≠.cell v):Inv X (a++nO c s.heap) σ H s :=
 I.wb λp j=>(T4.mp j).elim (λz=>I.pin p (Tf _ z)) λz=>by
  obtain⟨g,e⟩:=pk z
  obtain⟨m,n,l,_⟩:=i p.1 g
  obtain⟨o,f,d⟩:=h p.1 g
  rw[e] at f;cases f
  exact⟨e,m,n,l,d⟩
def Inv.fR{σ:St}(I:Inv X (a++c) σ H s):Inv X a σ H s:=I.wb λp b=>I.pin p (Tf _ (To _ b))
def B7(S:V' (model X.prog X.w) X.A X.env X.xe)(hc:∀J,C J->EC X J X.H₀)(hi:PI X tg j wi)(hg:PG X tg g)(t:kq X E tb)
  (hs:autoParam (∀x,foldedSetIterable j X.env x=pure x) eH):PS X (.For tg j E [] pos) (Gv C wi g tb):=by
 intro a s σ H D I h
 refine wpAny_For (bg (hi a s σ H _ I h) λv s1 h1=>bg h1 λitv s2 h2=>?_) hs
 obtain⟨it,Q,tn,J,H2,e,I2,T,st2,f2,hC,W,⟨m0,w0⟩,U⟩:=h2
 subst e
 -- what stays true of the iterator's objects through the loop
 have p:∀{z:Hp},(∀b∈Q,z b=none)->∀b∈Q,lF X a z b:=λhn b t=>⟨hn b t,(f2 b t).2⟩
 refine codeAny_forLoop_any (λn s'=>∃i M z,Inv X a M z s'/\tn i s'.heap/\(∀b∈Q,z b=none)/\W i n M z) ?_ m0 ⟨0,σ,H2,I2,st2,λb t=>(f2 b t).1,w0⟩
 rintro n s3 ⟨i,R,Z,Y,L,O,w3⟩
 rcases U i n R Z w3 with⟨G,qn⟩|⟨go,N,hN,step⟩
 ·refine VX S (bg (T.done X rfl rfl rfl i a s3 R Z X.xe ((hc J hC).now Y) Y (p O) L G) ?_);rintro r s4 ⟨hr,I4⟩
  subst hr
  exact WI ⟨R,Z,I4,qn⟩
 ·refine VX S (bg (T.item X rfl rfl rfl i a s3 R Z X.xe ((hc J hC).now Y) Y (p O) L go) ?_);rintro r s4 ⟨u,hr,h4⟩
  subst hr
  refine VX S (bg h4 ?_);rintro _ s5 ⟨x,H5,I5,r5,y5,F,fr5⟩
  have I5':=I5.pinned (p fr5) (T.obj _ _ F)
  refine VX S (bg (hg _ s5 R H5 x u _ I5' r5 (step x H5 y5)) ?_);rintro _ s6 ⟨σ6,H6,I6,q6⟩
  refine VX S (bg (t _ s6 σ6 H6 _ I6 q6) λf s7 B=>?_)
  have again:∀{l:St} {y:Hp},Inv X (a++nO Q s5.heap) l y s7->N l y->∃m,m<n/\∃i M z,Inv X a M z s7/\tn i s7.heap/\(∀b∈Q,z b=none)/\W i m M z:=fun{l y} c P=>by
   obtain⟨m',hm,w7⟩:=hN l y P
   refine⟨m',hm,i+1,l,y,c.fR,T.keep _ _ _ F λb t o e=>(c.pin (b,o) (Tf _ (Tf _ (gQ t e)))).1,λb t=>?_,w7⟩
   obtain⟨o,e,d⟩:=T.obj _ _ F b t
   exact(c.pin (b,o) (Tf _ (Tf _ (gQ t e)))).2.1
  cases f with
  |next=>obtain⟨l,y,c,P⟩:=B;exact again c P
  |cont=>obtain⟨l,y,c,P⟩:=B;exact again c P
  |brk=>obtain⟨l,y,c,B⟩:=B;exact⟨l,y,c.fR,B⟩
  |ret v=>obtain⟨x7,l,y,c,r7,B⟩:=B;exact⟨x7,l,y,c.fR,r7,B⟩
def GN(m:V' (model X.prog X.w) X.A X.env X.xe)(j:X.calm=true)(l:PI X f a i)(o:PG X f g)(n:kq X b e)
  (p:autoParam (∀x,foldedSetIterable a X.env x=pure x) eH):PS X (.For f a b [] c) (Rf i g e):=by
 have h:=B7 (C:=λ_=>True) (pos:=c) m (λ_ _=>.inl j) l o n p
 unfold Gv at h
 simp only[true_and] at h
 exact h
def JX(l:V' (model X.prog X.w) X.A X.env X.xe)(i:bp X.A X.H₀)(j:PI X f a h)(n:PG X f g)(m:kq X b e)
  (o:autoParam (∀x,foldedSetIterable a X.env x=pure x) eH):PS X (.For f a b [] c) (Gv (λJ=>J.u=true) h g e):=B7 l (λ_ u=>.inr ⟨u,i⟩) j n m o
abbrev R2:=V->V->Hp->VK->Prop
def g9(X:Cx)(f:Value->Value->Sem Value)(r:R2):Prop :=
 ∀(a:List (Addr × Obj)) (s:Shared) (σ:St) (H:Hp) (x y:V) (v u:Value) (Q:VK),Inv X a σ H s->RelV x v->RelV y u->r x y H Q ->
  wpAny (model X.prog X.w) X.A (f v u) (EP X a σ Q) X.xe s
def Qn(X:Cx)(f:Value->Sem Value)(r:V->Hp->VK->Prop):Prop :=
 ∀(a:List (Addr × Obj)) (s:Shared) (σ:St) (H:Hp) (x:V) (v:Value) (Q:VK),Inv X a σ H s->RelV x v->r x H Q ->
  wpAny (model X.prog X.w) X.A (f v) (EP X a σ Q) X.xe s
def gH(X:Cx)(f:Value)(r:List V->Hp->VK->Prop):Prop :=
 ∀(a:List (Addr × Obj)) (s:Shared) (σ:St) (H:Hp) (xs:List V) (us:List Value) (Q:VK),Inv X a σ H s->Vals xs us->r xs H Q ->
  wpAny (model X.prog X.w) X.A (call f us) (EP X a σ Q) X.xe s
def Qm(X:Cx)(r:V->Hp->(Bool->Hp->Prop)->Prop):Prop :=
 ∀(a:List (Addr × Obj)) (s:Shared) (σ:St) (H:Hp) (x:V) (v:Value) (Q:Bool->Hp->Prop),Inv X a σ H s->RelV x v->r x H Q ->
  wpAny (model X.prog X.w) X.A (truthy v) (TP X a σ Q) X.xe s
def NV(r:R2)(a e:TE):TE:=λσ H Q=>a σ H λx c=>e σ c λy b=>r x y b Q
def S8(r:V->Hp->VK->Prop)(a:TE):TE:=λσ H Q=>a σ H λx b=>r x b Q
def rI(C:Int->Int->Prop)(g:Int->Int->V):R2:=λx y H Q=>∃i j,x=.int i/\y=.int j/\C i j/\Q (g i j) H
def HN(g:Int->Int->V):R2:=λx y H Q=>∃i j,x=.int i/\y=.int j/\Q (g i j) H
def rU(g:Int->V):V->Hp->VK->Prop:=λx H Q=>∃i,x=.int i/\Q (g i) H
section
variable {X:Cx}{a b c:Expr}{ta tb tc:TE}{pos:Pos}
def LL{σ:St}{R:V->V->Hp->Prop}{f:Value->Value->Sem Value}(z:PE X a ta)(p:PE X b tb)(I:Inv X e σ H s)
  (h:ta σ H λx j=>tb σ j λy g=>R x y g)
  (m:∀v u i x y g,Inv X e σ g i->RelV x v->RelV y u->R x y g->wpAny (model X.prog X.w) X.A (f v u) Q X.xe i) :
  wpAny (model X.prog X.w) X.A (eval a X.env) (λv E=>wpAny (model X.prog X.w) X.A (eval b X.env) (λu o=>wpAny (model X.prog X.w) X.A (f v u) Q X.xe o) X.xe E) X.xe s:=by
 refine bg (z e s σ H _ I h) ?_;rintro v B ⟨x,j,C,n,r⟩
 refine bg (p e B σ j _ C r) ?_;rintro u i ⟨y,g,l,F,t⟩
 exact m v u i x y g l n F t
def Kp(g:g9 X (binaryOp f) r)(p:PE X a ta)(n:PE X b tb):PE X (.BinOp a f b pos) (NV r ta tb):=by
 intro e s σ H Q I h
 exact wpAny_BinOp (LL p n I h λv u o x y j l m i q=>g e o σ j x y v u Q l m i q)
def PU(g:Qn X (unaryOp f) r)(m:PE X a ta):PE X (.UnaryOp f a pos) (S8 r ta):=by
 intro e s σ H Q I h
 exact UnaryOp_ (bg (m e s σ H _ I h) fun v n ⟨x,j,o,i,l⟩=>g e n σ j x v Q o i l)
def RN{g:Int->Int->Int}
  (rule:∀(i j:Int) (t u:Tok) (s:Shared) (Q:Value->Shared->Prop) (E:Value->Shared->Prop),C i j->Q (.int (g i j) s.toks) { s with toks:=s.toks+1 }->wpAny (model X.prog X.w) X.A (f (.int i t) (.int j u)) Q E s) :
  g9 X f (rI C λi j=>.int (g i j)):=by
 intro e s σ H x y v u Q I n l h
 obtain⟨i,j,rfl,rfl,m,q⟩:=h
 obtain⟨t,rfl⟩:=n
 obtain⟨o,rfl⟩:=l
 exact rule i j t o s _ _ m ⟨.int (g i j),H,I.tok _,⟨_,rfl⟩,q⟩
def PL{g:Int->Int->Int}
  (rule:∀(i j:Int) (t u:Tok) (s:Shared) (Q:Value->Shared->Prop) (E:Value->Shared->Prop),Q (.int (g i j) s.toks) { s with toks:=s.toks+1 }->wpAny (model X.prog X.w) X.A (f (.int i t) (.int j u)) Q E s) :
  g9 X f (HN λi j=>.int (g i j)):=by
 intro e s σ H x y v u Q I l n h
 obtain⟨i,j,rfl,rfl,q⟩:=h
 obtain⟨t,rfl⟩:=l
 obtain⟨m,rfl⟩:=n
 exact rule i j t m s _ _ ⟨.int (g i j),H,I.tok _,⟨_,rfl⟩,q⟩
def Mh{g:Int->Int->Bool}
  (rule:∀(i j:Int) (t u:Tok) (s:Shared) (Q:Value->Shared->Prop) (E:Value->Shared->Prop),Q (.bool (g i j)) s->wpAny (model X.prog X.w) X.A (f (.int i t) (.int j u)) Q E s) :
  g9 X f (HN λi j=>.bl (g i j)):=by
 intro e s σ H x y v u Q I l n h
 obtain⟨i,j,rfl,rfl,q⟩:=h
 obtain⟨t,rfl⟩:=l
 obtain⟨m,rfl⟩:=n
 exact rule i j t m s _ _ ⟨.bl (g i j),H,I,rfl,q⟩
def K8(i j:Int):Prop:=0<j/\j<1073741824
def CY(i j:Int):Prop:=(-(2 ^ 64)<i/\i<2 ^ 64)\/(-(2 ^ 64)<j/\j<2 ^ 64)
def CY.ok(h:CY i j):aAl i j:=by
 rcases h with⟨e,f⟩|⟨e,f⟩
 ·exact .of_left (intBits_le_64 e f)
 ·exact .of_right (intBits_le_64 e f)
def Mi:g9 X (binaryOp .Add) (HN λi j=>.int (i+j)):=PL λ_ _ _ _ _ _ _ q=>add_int q
def Mo:g9 X (binaryOp .Sub) (HN λi j=>.int (i - j)):=PL λ_ _ _ _ _ _ _ q=>sub_int q
def JG:g9 X (binaryOp .FloorDiv) (rI K8 λi j=>.int (i / j)):=RN λi j _ _ _ _ _ e q=>by
 have f:(0:Int)<j:=e.1
 have g:j<1073741824:=e.2
 exact floordiv_int (by omega) (by rw[Int.fdiv_eq_ediv_of_nonneg i (by omega)];exact q) (.inl (PyProof.noPylong_small (by omega)))
def Ml:g9 X (binaryOp .Mod) (rI (λ_ j=>0<j) λi j=>.int (i%j)):=RN λi j _ _ _ _ _ e q=>by
 have f:(0:Int)<j:=e
 exact mod_int' (by omega) (by rw[Int.fmod_eq_emod_of_nonneg i (by omega)];exact q)
def TB{g:Int->Int}
  (rule:∀(i:Int) (t:Tok) (s:Shared) (Q:Value->Shared->Prop) (E:Value->Shared->Prop),Q (.int (g i) s.toks) { s with toks:=s.toks+1 }->wpAny (model X.prog X.w) X.A (f (.int i t)) Q E s) :
  Qn X f (rU λi=>.int (g i)):=by
 intro e s σ H x v Q I j h
 obtain⟨i,rfl,q⟩:=h
 obtain⟨t,rfl⟩:=j
 exact rule i t s _ _ ⟨.int (g i),H,I.tok _,⟨_,rfl⟩,q⟩
def Nc:Qn X (unaryOp .USub) (rU λi=>.int (-i)):=TB λ_ _ _ _ _ q=>neg_int q
end
def Pm:V->V->Bool
 |.ae,.ae=>true|.ae,.int _=>true|.int _,.ae=>true|.ae,.bl _=>true|.bl _,.ae=>true|.ae,.str _=>true|.str _,.ae=>true
 |.int _,.int _=>true|.bl _,.bl _=>true|.str _,.str _=>true|.zc _,.zc _=>true
 |.int _,.str _=>true|.str _,.int _=>true|.bl _,.str _=>true|.str _,.bl _=>true
 |_,_=>false
def SX:R2:=λx y H Q=>Pm x y=true/\Q (.bl (decide (x=y))) H
def Sa:R2:=λx y H Q=>Pm x y=true/\Q (.bl (!decide (x=y))) H
def BU :decide (V.int i=V.int j)=(i == j):=by
 rw[Wp]
 simp
def El :decide (V.bl i=V.bl j)=(i == j):=by
 rw[Wp]
 simp
def BV :decide (V.str i=V.str j)=(i == j):=by
 rw[Wp]
 simp
def BS :decide (V.zc i=V.zc j)=(i.toList == j.toList):=by
 rw[Wp]
 cases i
 cases j
 simp
def aw{σ:St}(I:Inv X a σ H s)(q:Q (.bl k) H)(e:k=b):EP X a σ Q (.bool b) s:=by
 subst e
 exact⟨.bl k,H,I,rfl,q⟩
def Km:g9 X (compareOp .Eq) SX:=by
 intro f s σ H x y v u Q I e a h
 obtain⟨c,q⟩:=h
 cases x with
 |ae =>
  cases e
  cases y with
  |ae=>cases a;exact aAX (aw I q (by simp))
  |bl j=>cases a;exact aAZ (aw I q (by simp))
  |int j=>obtain⟨b,rfl⟩:=a;exact aAY (aw I q (by simp))
  |str j=>obtain⟨b,rfl⟩:=a;exact aAW (aw I q (by simp))
  |_=>exact absurd (show false=true from c) Fk
 |bl i =>
  cases e
  cases y with
  |ae=>cases a;exact aAb (aw I q (by simp))
  |bl j=>cases a;exact eq_bool (aw I q El)
  |str j=>obtain⟨b,rfl⟩:=a;exact aA8 (aw I q (by simp))
  |_=>exact absurd (show false=true from c) Fk
 |int i =>
  obtain⟨t,rfl⟩:=e
  cases y with
  |ae=>cases a;exact aAa (aw I q (by simp))
  |int j=>obtain⟨b,rfl⟩:=a;exact eq_int (aw I q BU)
  |str j=>obtain⟨b,rfl⟩:=a;exact aA7 (aw I q (by simp))
  |_=>exact absurd (show false=true from c) Fk
 |str i =>
  obtain⟨t,rfl⟩:=e
  cases y with
  |ae=>cases a;exact aAV (aw I q (by simp))
  |bl j=>cases a;exact aA6 (aw I q (by simp))
  |int j=>obtain⟨b,rfl⟩:=a;exact aA5 (aw I q (by simp))
  |str j=>obtain⟨b,rfl⟩:=a;exact eq_str (aw I q BV)
  |_=>exact absurd (show false=true from c) Fk
 |zc i =>
  obtain⟨t,rfl⟩:=e
  cases y with
  |zc j=>obtain⟨b,rfl⟩:=a;exact PySem.W.eq_bytes (aw I q BS)
  |_=>exact absurd (show false=true from c) Fk
 |_=>cases y<;>exact absurd (show false=true from c) Fk
def PN:g9 X (compareOp .NotEq) Sa:=by
 intro f s σ H x y v u Q I e a h
 obtain⟨c,q⟩:=h
 cases x with
 |ae =>
  cases e
  cases y with
  |ae=>cases a;exact aAQ (aw I q (by simp))
  |bl j=>cases a;exact aAS (aw I q (by simp))
  |int j=>obtain⟨b,rfl⟩:=a;exact aAR (aw I q (by simp))
  |str j=>obtain⟨b,rfl⟩:=a;exact aAP (aw I q (by simp))
  |_=>exact absurd (show false=true from c) Fk
 |bl i =>
  cases e
  cases y with
  |ae=>cases a;exact aAU (aw I q (by simp))
  |bl j=>cases a;exact ne_bool (aw I q (congrArg not El))
  |str j=>obtain⟨b,rfl⟩:=a;exact aA4 (aw I q (by simp))
  |_=>exact absurd (show false=true from c) Fk
 |int i =>
  obtain⟨t,rfl⟩:=e
  cases y with
  |ae=>cases a;exact aAT (aw I q (by simp))
  |int j=>obtain⟨b,rfl⟩:=a;exact ne_int (aw I q (congrArg not BU))
  |str j=>obtain⟨b,rfl⟩:=a;exact aA3 (aw I q (by simp))
  |_=>exact absurd (show false=true from c) Fk
 |str i =>
  obtain⟨t,rfl⟩:=e
  cases y with
  |ae=>cases a;exact aAO (aw I q (by simp))
  |bl j=>cases a;exact aA2 (aw I q (by simp))
  |int j=>obtain⟨b,rfl⟩:=a;exact aA1 (aw I q (by simp))
  |str j=>obtain⟨b,rfl⟩:=a;exact ne_str (aw I q (congrArg not BV))
  |_=>exact absurd (show false=true from c) Fk
 |zc i =>
  obtain⟨t,rfl⟩:=e
  cases y with
  |zc j=>obtain⟨b,rfl⟩:=a;exact PySem.W.ne_bytes (aw I q (congrArg not BS))
  |_=>exact absurd (show false=true from c) Fk
 |_=>cases y<;>exact absurd (show false=true from c) Fk
def PM:g9 X (compareOp .Lt) (HN λi j=>.bl (decide (i<j))):=Mh λ_ _ _ _ _ _ _ q=>lt_int q
def Fy:g9 X (compareOp .LtE) (HN λi j=>.bl (decide (i<=j))):=Mh λ_ _ _ _ _ _ _ q=>le_int q
def Kn:g9 X (compareOp .Gt) (HN λi j=>.bl (decide (j<i))):=Mh λ_ _ _ _ _ _ _ q=>gt_int q
def vE:g9 X (compareOp .In) (λx y H Q=>∃i j,x=.str i/\y=.str j/\Q (.bl (!(VA j i 0 j.length 1).isEmpty)) H):=by
 intro a s σ H x y v u Q I c b h
 obtain⟨i,j,rfl,rfl,q⟩:=h
 obtain⟨t,rfl⟩:=c
 obtain⟨e,rfl⟩:=b
 exact in_str (aw I q rfl)
def Fx:g9 X (compareOp .Is) (λx y H Q=>y=.ae/\Q (.bl (decide (x=.ae))) H):=by
 intro b s σ H x y v u Q I a c h
 obtain⟨rfl,q⟩:=h
 cases c
 refine is_none_gen (aw I q ?_)
 cases x<;>first
  | (cases a;rfl)
  | (obtain⟨t,rfl⟩:=a;rfl)
def JJ:g9 X (compareOp .IsNot) (λx y H Q=>y=.ae/\Q (.bl (!decide (x=.ae))) H):=by
 intro b s σ H x y v u Q I a c h
 obtain⟨rfl,q⟩:=h
 cases c
 refine isnot_none_gen (aw I q ?_)
 cases x<;>first
  | (cases a;rfl)
  | (obtain⟨t,rfl⟩:=a;rfl)
def oh:g9 X (compareOp .NotIn) (λx y H Q=>∃i j,x=.str i/\y=.str j/\Q (.bl (!(!(VA j i 0 j.length 1).isEmpty))) H):=by
 intro a s σ H x y v u Q I c b h
 obtain⟨i,j,rfl,rfl,q⟩:=h
 obtain⟨t,rfl⟩:=c
 obtain⟨e,rfl⟩:=b
 exact notIn_str (aw I q rfl)
def g9.or(h:g9 X f r)(g:g9 X f c):g9 X f (λx y H Q=>r x y H Q\/c x y H Q):=by
 intro a s σ H x y v u Q I e b q
 rcases q with q|q
 ·exact h a s σ H x y v u Q I e b q
 ·exact g a s σ H x y v u Q I e b q
def iS(b:Expr)(h:autoParam (a≠.In) e7)(f:autoParam (a≠.NotIn) e7):behindInMarks a b=false:=by
 have c:(a == CmpOp.In)=false:=by cases a<;>first|rfl|exact absurd rfl h
 have e:(a == CmpOp.NotIn)=false:=by cases a<;>first|rfl|exact absurd rfl f
 cases b<;>simp[behindInMarks,c,e]
def JM(f:g9 X (compareOp e) r)(z:PE X a p)(n:PE X b t)(o:behindInMarks e b=false):PE X (.Compare a [e] [b] l) (NV r p t):=by
 intro c s σ H Q I h
 exact aAg (LL z n I h λv u w x y i j m g q=>f c w σ i x y v u Q j m g q) o
def K3(t:TE):TT:=λσ H Q=>t σ H λx a=>∃k,x=.bl k/\Q k a
def JZ(F:g9 X (compareOp g) r)(M:PE X a o)(J:PE X b L)(w:behindInMarks g b=false):PT X (.Compare a [g] [b] p) (K3 (NV r o L)):=by
 intro f s σ H Q I h
 refine ZI (bg (M f s σ H _ I h) fun v P ⟨x,t,m,i,B⟩=>bg (J f P σ t _ m B) fun u l ⟨y,G,n,E,C⟩ =>
  bg (F f l σ G x y v u _ n i E C) fun c R ⟨z,O,j,A,k,e,N⟩=>?_) w
 subst e
 cases A
 exact wpAny_truthy_bool ⟨O,j,N⟩
def Gu(r f:R2)(i j h:TE):TE:=λσ H Q=>i σ H λx e=>j σ e λy b=>r x y b λz a=>∃k,z=.bl k /\
 (if k=true then h σ a λg c=>f y g c Q else Q (.bl false) a)
def F6(W:g9 X (compareOp i) r)(j:g9 X (compareOp g) m)(ha:PE X a J)(hb:PE X b tb)(N:PE X c tc)
  (R:lastMarks [i,g] [b,c]=false:=by with_unfolding_all rfl):PE X (.Compare a [i,g] [b,c] O) (Gu r m J tb tc):=by
 intro f s σ H Q I h
 refine Compare_chain (bg (ha f s σ H _ I h) fun v s1 ⟨x,P,E,t,T⟩=>chain_link (bg (hb f s1 σ P _ E T) fun u C ⟨y,Y,G,n,U⟩ =>
  bg (W f C σ Y x y v u _ G t n U) fun d F ⟨z,p,l,S,k,e,o⟩=>?_)) R
 subst e
 cases S
 refine wpAny_truthy_bool ?_
 cases k with
 |false=>exact ite_ff ⟨.bl false,p,l,rfl,o⟩
 |true=>exact ite_tt (chain_last (bg (N f F σ p _ l o) fun B Z ⟨z',w,A,M,L⟩=>j f Z σ w y z' u B Q A n M L))
def LH(K:l')(x:V)(H:Hp)(k:Bool):Prop :=
 match x with
 |.ae=>k=false
 |.bl b=>k=b
 |.int i=>k=(i != 0)
 |.str y=>y.length<=sizeLine/\k=((y.length:Int) != 0)
 |.zc y=>y.size<=sizeLine/\k=((y.size:Int) != 0)
 |.ref p=>(∃c,cW K H p c/\k=!c.isEmpty)\/(∃c,iN K H p c/\k=!c.isEmpty)\/∃a,H p=some (.dK a)/\k=!a.isEmpty
 |_=>False
def AH{b:List (κ × Value)}(r:KV a b):(!b.isEmpty)=!a.isEmpty:=by
 cases r<;>rfl
def rq(r:Vals b a):(!a.toArray.isEmpty)=!b.isEmpty:=by
 cases r<;>simp
def sG:(sizeLine:Nat)<2 ^ 63:=by rw[Vq];decide
def Nb:Qm X (λx H Q=>∃k,LH X.K x H k/\Q k H):=by
 intro u s σ H x v Q I j h
 obtain⟨k,e,q⟩:=h
 have C:=sG
 have E:sizeLine=16777216:=Vq
 cases x with
 |ae =>
  cases j
  have a:k=false:=e
  subst a
  exact truthy_none ⟨H,I,q⟩
 |bl b =>
  cases j
  have a:k=b:=e
  subst a
  exact wpAny_truthy_bool ⟨H,I,q⟩
 |int i =>
  obtain⟨t,rfl⟩:=j
  have a:k=(i != 0):=e
  subst a
  exact PySem.P.truthy_int ⟨H,I,q⟩
 |str y =>
  obtain⟨t,rfl⟩:=j
  obtain⟨A,a⟩:y.length<=sizeLine/\k=((y.length:Int) != 0):=e
  subst a
  exact PySem.P.truthy_str (by omega) ⟨H,I.tok _,q⟩
 |zc y =>
  obtain⟨t,rfl⟩:=j
  obtain⟨A,a⟩:y.size<=sizeLine/\k=((y.size:Int) != 0):=e
  subst a
  exact PySem.W.truthy_bytes (by omega) ⟨H,I.tok _,q⟩
 |ref p =>
  cases j
  have a:(∃g,cW X.K H p g/\k=!g.isEmpty)\/(∃g,iN X.K H p g/\k=!g.isEmpty)\/∃c,H p=some (.dK c)/\k=!c.isEmpty:=e
  rcases a with⟨g,l,a⟩|⟨g,l,a⟩|⟨c,l,a⟩
  ·subst a
   obtain⟨o,r,n,z⟩:=I.list l
   have f:=r.length
   exact wpAny_truthy_list n.isList (by simp only[Ti];omega) ⟨H,I.tok _,by rw[rq r];exact q⟩
  ·subst a
   obtain⟨o,r,n,z⟩:=I.tuple l
   have f:=r.length
   exact truthy_tuple n (by simp only[Ti];omega) ⟨H,I.tok _,by rw[rq r];exact q⟩
  ·subst a
   obtain⟨z,B,vs,r,m⟩:c.length<=sizeLine/\(p == U_)=false/\∃vs,KV c vs/\s.heap.DictOf (cL X.prog X.w) p vs:=I.au p _ l
   have f:c.length=vs.length:=WM r
   exact wpAny_truthy_dict B m (by omega) ⟨H,I.tok _,by rw[AH r];exact q⟩
 |_=>exact(show False from e).elim
def GQ(m:PE X a j)(l:∀b,isTrue a X.env b=(do let v <- b;Wj a.pos;holding [v] (truthy v))) :
  PT X a (λσ H Q=>j σ H λx e=>∃k,LH X.K x e k/\Q k e):=by
 intro c s σ H Q I h
 exact isTrue_plain (bg (m c s σ H _ I h) fun v n ⟨x,g,o,f,i⟩=>Nb c n σ g x v Q o f i) (l _)
def Ah:g9 X (binaryOp .Add) (λx y H Q=>∃i j,x=.str i/\y=.str j/\i.length+j.length<=sizeLine/\Q (.str (i++j)) H):=by
 intro a s σ H x y v u Q I c b h
 obtain⟨i,j,rfl,rfl,f,q⟩:=h
 obtain⟨t,rfl⟩:=c
 obtain⟨e,rfl⟩:=b
 exact add_str (λe g=>⟨.str (i++j),H,I.tok _,⟨_,rfl⟩,q⟩) f
def vals1(r:Vals [x] a):∃u,a=[u]/\RelV x u:=by
 cases r with
 |cons b c=>cases c;exact⟨_,rfl,b⟩
def vals2(r:Vals [x,y] b):∃u a,b=[u,a]/\RelV x u/\RelV y a:=by
 cases r with
 |cons c g =>
  cases g with
  |cons e f=>cases f;exact⟨_,_,rfl,c,e⟩
def N0(K:l')(x:V)(H:Hp)(n:Nat):Prop :=
 match x with
 |.str y=>y.length<=sizeLine/\n=y.length
 |.zc y=>y.size<=sizeLine/\n=y.size
 |.ref p=>(∃a,cW K H p a/\n=a.length)\/∃a,iN K H p a/\n=a.length
 |_=>False
def ER:gH X (.builtin "len") (λa H Q=>∃x n,a=[x]/\N0 X.K x H n/\Q (.int n) H):=by
 intro m s σ H a A Q I r h
 obtain⟨x,n,rfl,e,q⟩:=h
 obtain⟨u,rfl,j⟩:=vals1 r
 have z:=sG
 have w:sizeLine=16777216:=Vq
 cases x with
 |str y =>
  obtain⟨t,rfl⟩:=j
  obtain⟨o,c⟩:y.length<=sizeLine/\n=y.length:=e
  subst c
  exact len_str (by omega) ⟨.int _,H,I.tok _,⟨_,rfl⟩,q⟩
 |zc y =>
  obtain⟨t,rfl⟩:=j
  obtain⟨o,c⟩:y.size<=sizeLine/\n=y.size:=e
  subst c
  exact PySem.W.len_bytes (by omega) ⟨.int _,H,I.tok _,⟨_,rfl⟩,q⟩
 |ref p =>
  cases j
  have c:(∃a,cW X.K H p a/\n=a.length)\/∃a,iN X.K H p a/\n=a.length:=e
  rcases c with⟨a,i,c⟩|⟨a,i,c⟩
  ·subst c
   obtain⟨l,g,f,v⟩:=I.list i
   have b:=g.length
   exact Calls.call_len_list f.isList (by simp only[Ti];omega) ⟨.int a.length,H,I.tok _,⟨_,by simp only[Ti];rw[b]⟩,q⟩
  ·subst c
   obtain⟨l,g,f,v⟩:=I.tuple i
   have b:=g.length
   exact len_tuple f (by simp only[Ti];omega) ⟨.int a.length,H,I.tok _,⟨_,by simp only[Ti];rw[b]⟩,q⟩
 |_=>exact(show False from e).elim
structure xR (h:Heap) (x dx C:Addr) (mA:Str->Option Value):Prop where
 obj:h.get? x=some (instObj C dx)
 ns:h.Ns1 dx mA
 ne:dx≠x
def pX{h:Heap}(n:h.Ns1 j f):∃g,h.get? j=some g/\∀b,lookIn b g=some (f b):=by
 obtain⟨o,i,v,l,u,m,_,p⟩:=n
 refine⟨o,l,λb=>?_⟩
 have e:=p b
 unfold nsFind findBy at e
 rw[<- Yu] at e
 unfold lookIn
 rw[u]
 dsimp only
 split
 ·rename_i y q
  rw[q] at e
  exact congrArg some e
 ·rename_i q
  rw[q] at e
  have a:i.toList.any (·.refKey)=false:=by
   rw[List.any_eq_false]
   intro y s
   obtain⟨z,t,c⟩:=m y (Array.mem_toList_iff.mp s)
   simp[aBA,c]
  have r:¬ i.toList.any (·.refKey)=true:=by rw[a];exact Fk
  rw[if_neg r]
  exact congrArg some e
def xR.look(I:xR h x e C c):∃b,InstAt h x (instObj C e) C (some b)/\∀a,lookIn a b=some (c a) :=by
 obtain⟨b,f,g⟩:=pX I.ns
 exact⟨b,⟨I.obj,rfl,rfl,f⟩,g⟩
section
variable {prog:TV}{w:World}{A:Around}{E:Value->Shared->Prop}{s:Shared}{K:l'}{x dx C f:Addr}{mA:Str->Option Value}{name:Str}{v:Value}
def get_map(X:K.In s.heap)(I:xR s.heap x dx C mA)(j:YH K C name=true)(c:Vh K C=true)
  (i:findIn K (.ref C) name=some none)(e:mA name=some v)(b:ZT v=true)(h:Q v { s with toks:=s.toks+1 }) :
  wpAny (model prog w) A (getAttr (.ref x) name a) Q E s:=by
 obtain⟨l,J,g⟩:=I.look
 exact PySem.W.get_value X J (plainGet_of j).1 (X7 c i rfl (by rw[g,e])) b h
def FA(X:K.In s.heap)(I:xR s.heap x dx C mA)(a:YH K C name=true)
  (b:findIn K (.ref C) name=some (some (.ref f)))(g:isFn K (.ref f)=true)(c:mA name=none)(h:Q (.ref f,[.ref x]) s) :
  wpAny (model prog w) A (getMethod (.ref x) name e) Q E s:=by
 obtain⟨j,J,i⟩:=I.look
 exact PySem.W.method_fn X J (plainGet_of a).1 (plainGet_of a).2 b (beq_iff_eq.mp g) (by show(lookIn name j).map (·.isSome)=some false;rw[i,c];rfl) h
def Jr(X:K.In s.heap)(I:xR s.heap x dx C mA)
  (t:findIn K (.ref C) "__setattr__"=some (some (.builtin "object.__setattr__")))(G:Z_ K C=true)(F:aB7 K C name=some none)(p:Vh K C=true)
  (H:Vk mA n)(z:n.length<=sizeLine)
  (h:∀g,xR g x dx C (λy=>if y=name then some v else mA y)->Vl dx s.heap g->Q () { s with heap:=g,toks:=s.toks+2 }) :
  wpAny (model prog w) A (setAttr (.ref x) name v) Q E s:=by
 obtain⟨O,J,M⟩:=I.look
 refine Z9 X J t (PySem.W.osa_open (s:={ s with toks:=s.toks+1 }) (r:=none) X J G F λb=>?_)
 obtain⟨cd,B,m⟩:=ZU p
 have u:s.heap.get? x=some ⟨.ref C,some dx,.plain,#[]⟩:=I.obj
 refine wpAny_bind (wpAny_pure (wpAny_bind (wpAny_bind (wpAny_loadPart u (wpAny_bind (Wh (s:={ s with toks:=s.toks+1 }) (looks_clsIn X B) ?_))))))
 rw[m]
 refine wpAny_pure (a:=some dx) (wpAny_bind (wpAny_pure (wpAny_bind ?_)))
 refine wpAny_nsSet1 (s:={ s with toks:=s.toks+1 }) I.ns λg e c=>?_
 obtain⟨N,o,L,l,i,j⟩:=e.count (XZ name v H)
 refine wpAny_bind (wpAny_lookBehind l (by rw[i];exact Xr (G' j (by rw[Tg];omega))) ?_)
 exact wpAny_pure (h _ ⟨(c.2 _ (VG I.ne)).trans I.obj,e,I.ne⟩ c)
def FZ(X:K.In s.heap)(j:Y6 K C=true)
  (e:findIn K (.ref C) "__init__"=some (some (.ref f)))(i:typeIn K (.ref f)=some (.type "function"))
  (h:VQ (model prog w) (A.under (.builtin "type.__call__" ⟨.ref C::c,b⟩)) (.call (.ref f) ⟨.ref (s.heap.objs.size+1)::c,b⟩) (PySem.W.InitBack (s.heap.objs.size+1) R)
   { s with heap:=(s.heap.push emptyDict).push (instObj C s.heap.objs.size)}) :
  VQ (model prog w) A (.call (.ref C) ⟨c,b⟩) R s:=by
 obtain⟨l,g,d,t,os⟩:=s
 exact PySem.W.make_core (PySem.W.makes_of X j) (looks_findIn X e) (λa=>PySem.W.bind_fn X a i) (.inl rfl) h
end
def g_(f:Str)(v:V):List (Str × V)->List (Str × V)
 |[]=>[(f,v)]
 | (g,x)::r=>if g=f then(g,v)::r else(g,x)::g_ f v r
def lS(f g:Str)(v:V):∀fs:List (Str × V),(g_ f v fs).lookup g=if g=f then some v else fs.lookup g
 |[]=>by
  show Uc g [(f,v)]=_
  by_cases h:g=f
  ·have a:(g == f)=true:=beq_iff_eq.mpr h
   simp only[Uc,a,if_pos h]
  ·have a:(g == f)=false:=beq_eq_false_iff_ne.mpr h
   simp only[Uc,a,if_neg h]
 | (k,x)::r=>by
  have c:=lS f g v r
  rw[show g_ f v ((k,x)::r)=(if k=f then(k,v)::r else(k,x)::g_ f v r) from rfl]
  by_cases b:k=f
  ·rw[if_pos b]
   by_cases h:g=k
   ·have a:(g == k)=true:=beq_iff_eq.mpr h
    simp only[Uc,a,if_pos (h.trans b)]
   ·have a:(g == k)=false:=beq_eq_false_iff_ne.mpr h
    simp only[Uc,a,if_neg (λe:g=f=>h (e.trans b.symm))]
  ·rw[if_neg b]
   by_cases h:g=k
   ·have a:(g == k)=true:=beq_iff_eq.mpr h
    simp only[Uc,a,if_neg (λe:g=f=>b (h.symm.trans e))]
   ·have a:(g == k)=false:=beq_eq_false_iff_ne.mpr h
    simp only[Uc,a]
    exact c
def iy(f:Str)(v:V):∀fs:List (Str × V),f∈(g_ f v fs).map (·.1)/\∀g,g∈fs.map (·.1)->g∈(g_ f v fs).map (·.1)
 |[]=>⟨by simp[g_],λg h=>by simp at h⟩
 | (k,x)::r=>by
  obtain⟨b,c⟩:=iy f v r
  rw[show g_ f v ((k,x)::r)=(if k=f then(k,v)::r else(k,x)::g_ f v r) from rfl]
  by_cases a:k=f
  ·rw[if_pos a]
   subst a
   exact⟨by simp,λg h=>by simpa using h⟩
  ·rw[if_neg a]
   refine⟨?_,λg h=>?_⟩
   ·rw[TM]
    exact TR _ b
   ·rw[TM] at h ⊢
    rcases Gc.mp h with e|e
    ·exact Gc.mpr (.inl e)
    ·exact TR _ (c g e)
def qS(f:Str)(v:V):∀fs:List (Str × V),(g_ f v fs).length<=fs.length+1
 |[]=>by simp[g_]
 | (k,x)::r=>by
  have b:=qS f v r
  rw[show g_ f v ((k,x)::r)=(if k=f then(k,v)::r else(k,x)::g_ f v r) from rfl]
  by_cases a:k=f
  ·rw[if_pos a,Tg,Tg];omega
  ·rw[if_neg a,Tg,Tg];omega
def gJ.some_of(r:gJ (some v) o):∃u,o=some u/\RelV v u:=by
 cases o with
 |none=>exact(show False from r).elim
 |some u=>exact⟨u,rfl,r⟩
def gJ.none_of(r:gJ none o):o=none:=by
 cases o with
 |none=>rfl
 |some u=>exact(show False from r).elim
def uh(r:RelV v u):ZT u=true:=by
 cases v with
 |ae=>cases(show u=T5 from r);rfl
 |bl b=>cases(show u=Vu b from r);rfl
 |int i=>obtain⟨t,e⟩:=(show ∃t,u=Vt i t from r);cases e;rfl
 |str x=>obtain⟨t,e⟩:=(show ∃t,u=Um x t from r);cases e;rfl
 |zc b=>obtain⟨t,e⟩:=(show ∃t,u=Z3 b t from r);cases e;rfl
 |QS b=>obtain⟨t,e⟩:=(show ∃t,u=Z2 b t from r);cases e;rfl
 |ref a=>cases(show u=Td a from r);rfl
 |ty n=>cases(show u=VY n from r);rfl
def IL(g:dz P w H h)(e:H a=some (.ins C c fs)):∃b,xR h a c C b/\(∀f,gJ (fs.lookup f) (b f))/\Vk b (fs.map (·.1))/\fs.length<=1000/\H c=some (.own a):=by
 obtain⟨d,z,i,j,b,n,r,q⟩:=(show aO P w H h a (.ins C c fs) from g a _ e)
 exact⟨b,⟨j,n,i⟩,r,q,z,d⟩
structure tY (K:l') (C:Addr):Prop where
 pg:YH K C aAs=true
 hd:Vh K C=true
 po:Z_ K C=true
 sa:findIn K (.ref C) "__setattr__"=some (some (.builtin "object.__setattr__"))
def tY.get{K:l'}(c:tY K C)(f:Str):YH K C f=true:=c.pg
def dP(K:l')(C:Addr)(f:Str):Prop:=findIn K (.ref C) f=some none
def dP.QA{K:l'}(n:dP K C f):aB7 K C f=some none:=by
 unfold aB7
 rw[show findIn K (.ref C) f=some none from n]
 rfl
structure Meth (K:l') (C:Addr) (m:Str) (f:Addr):Prop where
 at_:findIn K (.ref C) m=some (some (.ref f))
 fn:isFn K (.ref f)=true
 kp:keepIn K (.ref f)=true
section
variable {X:Cx}{pins:List (Addr × Obj)}{σ:St}{H:Hp}{s:Shared}{a C dx:Addr}{fs:List (Str × V)}{f:Str}{v:V}{A:Around}{E:Value->Shared->Prop}
def A4(I:Inv X pins σ H s)(e:H a=some (.ins C dx fs))(c:tY X.K C)(n:dP X.K C f)(P:fs.length<1000)(t:RelV y u)
  (h:∀p,Inv X pins σ (upd H a (.ins C dx (g_ f y fs))) p->Q () p):wpAny (model X.prog X.w) A (setAttr (.ref a) f u) Q E s:=by
 obtain⟨l,O,r,m,_,j⟩:=IL I.au e
 have N:(fs.map (·.1)).length<=sizeLine:=by rw[tz,Vq];omega
 refine Jr I.lQ O c.sa c.po n.QA c.hd m N λJ i G=>h _ ?_
 have M:∃o,J.get? dx=some o:=let ⟨o,_,_,B,_⟩:=i.ns;⟨o,B⟩
 refine I.write (x:=a) (e:=dx) (by rw[e];exact T9) (.inr j) (λb q F z=>(G.2 b F).trans z) M ?_
 refine⟨by rw[aG O.ne];exact j,?_,O.ne,i.obj,_,i.ns,λg=>?_,λg L=>?_⟩
 ·have:=qS f y fs;omega
 ·show gJ ((g_ f y fs).lookup g) (if g=f then some u else l g)
  rw[lS]
  by_cases q:g=f
  ·rw[if_pos q,if_pos q];exact t
  ·rw[if_neg q,if_neg q];exact r g
 ·by_cases q:g=f
  ·rw[q];exact(iy f y fs).1
  ·refine(iy f y fs).2 g (m g λz=>L ?_)
   show(if g=f then some u else l g)=none
   rw[if_neg q];exact z
def Inv.made(I:Inv X pins σ H s):Inv X pins σ (upd (upd H s.heap.objs.size (.own (s.heap.objs.size+1))) (s.heap.objs.size+1) (.ins C s.heap.objs.size []))
  { s with heap:=(s.heap.push emptyDict).push (instObj C s.heap.objs.size)}:=by
 have c:(s.heap.push emptyDict).get? s.heap.objs.size=some emptyDict:=TN s.heap rfl
 have h:((s.heap.push emptyDict).push (instObj C s.heap.objs.size)).get? (s.heap.objs.size+1)=some (instObj C s.heap.objs.size):=by
  have:=TN (s.heap.push emptyDict) (o:=instObj C s.heap.objs.size) rfl
  rwa [UQ] at this
 have i:(s.heap.push emptyDict).Ns s.heap.objs.size (λ_=>none):=⟨emptyDict,#[],_,c,rfl,(λe j=>absurd j (by simp)),λ_=>rfl⟩
 have m:=I.laid (a:=s.heap.objs.size) (o:=.own (s.heap.objs.size+1)) (h':=s.heap.push emptyDict) (t':=s.toks) (λb u q=>B' _ q) (S' _) ⟨_,c⟩
 refine m.laid (a:=s.heap.objs.size+1) (o:=.ins C s.heap.objs.size []) (t':=s.toks) (λb u q=>B' _ q) (YV (UQ _ _)) ?_
 have g:s.heap.objs.size≠s.heap.objs.size+1:=Tq (Wi _)
 refine⟨by rw[aG g,aF],UP _,g,h,λ_=>none,(YL i).at λo q=>B' _ q,λ_=>T9,λy l=>absurd rfl l⟩
def BL(i:UZ e f c (eval e c)=eval e c)
  (h:wpAny (model b w) A (eval e c) (λo j=>wpAny (model b w) A (getAttr o f true) Q E j) E s):wpAny (model b w) A (eval (.Attribute e f g) c) Q E s :=
 Attribute_any_ h (by rw[arm_eval_Attribute,i])
end
def RU(K:l')(c e:TE)(f:Str):TS:=λD σ H=>e σ H λy g=>c σ g λx b=>∃a C dx fs,x=.ref a/\b a=some (.ins C dx fs)/\tY K C/\dP K C f/\fs.length<1000 /\
 D.nx σ (upd b a (.ins C dx (g_ f y fs)))
def M8(L:PE X o A)(j:PE X b z)(t:Ue b (some (.Attribute o f g)) i.line X.env=pure false):PS X (.Assign [.Attribute o f g] b i) (RU X.K A z f):=by
 intro e s σ H D I h
 refine Xl (bg (j e s σ H _ I h) fun u M ⟨y,F,p,v,q⟩=>bg (L e M σ F _ p q) ?_) t;rintro E N ⟨x,Q,w,J,a,C,P,fs,r,B,c,n,l,G⟩
 subst r
 obtain rfl:E=Td a:=J
 exact A4 w B c n l v λO m=>⟨σ,_,m,G⟩
structure bZ (k:Nat) (A:Around):Prop where
 hd:A.handled=none
 dp:A.depth+3*k+5<aAh
 un:A.units+16*k+200<cLine
def bZ.mono(r:bZ k A)(h:j<=k):bZ j A:=⟨r.hd,by have:=r.dp;omega,by have:=r.un;omega⟩
def bZ.deeper(r:bZ (k+1) A)(a:Env):bZ k (A.deeper a) :=
 ⟨r.hd,by have:=r.dp;show A.depth+1+3*k+5<_;omega,by have:=r.un;show A.units+3+16*k+200<_;omega⟩
def AV{A:Around}:(A.under (.builtin "type.__call__" ⟨.ref C::a,b⟩)).depth=A.depth+1:=by
 first|rfl|simp[Xy,Code.weight,Code.isCreation,Code.isGuard,Code.isCaller,aA9,X',guardIds]
def AW{A:Around}:(A.under (.builtin "type.__call__" ⟨.ref C::a,b⟩)).units=A.units+1:=by
 first|rfl|simp[Xy,Code.cUnits,aA9,X']
def bZ.make(r:bZ (k+1) A)(C:Addr)(a:List Value)(b:List (Str × Value)):bZ k (A.under (.builtin "type.__call__" ⟨.ref C::a,b⟩)) :=
 ⟨r.hd,by have:=r.dp;rw[AV];omega,by have:=r.un;rw[AW];omega⟩
def bZ.depth(r:bZ k A):A.depth<recursionLimit:=by have:=r.dp;omega
def bZ.units(r:bZ k A):A.units+64<cLine:=by have:=r.un;omega
def Gw:TA:=λ_ H Q=>Q [] H
def vS(a:TE)(e:TA):TA:=λσ H Q=>a σ H λx c=>e σ c λxs b=>Q (x::xs) b
def gX:PA X [] Gw:=λ_ _ _ _ H Q I h=>Calls.spliced_nil ⟨[],H,I,.nil,h⟩
def cU(y:PE X e l)(o:PA X c t)(i:autoParam (starEach (e::c) X.env=(false,eval e X.env)::starEach c X.env) dI):PA X (e::c) (vS l t):=by
 intro b a s σ H Q I h
 rw[i]
 show wpAny _ _ (spliced ((false,eval e X.env)::backTo b (starEach c X.env))) _ _ s
 refine Calls.spliced_cons (bg (y a s σ H _ I h) ?_);rintro u z ⟨x,n,g,f,p⟩
 exact bg (o b a z σ n _ g p) fun B A ⟨m,w,j,v,r⟩=>⟨x::m,w,j,.cons f v,r⟩
def Ro(t:TA):TE:=λσ H Q=>t σ H λb a=>b.length<=sizeLine/\∀p,a p=none->Q (.ref p) (upd a p (.tup b))
def Ri(t:TA):TE:=λσ H Q=>t σ H λb a=>b.length<=sizeLine/\∀p,a p=none->Q (.ref p) (upd a p (.lst b))
def M0(h:PA X m t):PE X (.Tuple m x1 f) (Ro t):=by
 intro a s σ H Q I l
 refine wpAny_Tuple_spliced (bg (h f a s σ H _ I l) fun n c ⟨o,g,i,r,z,q⟩=>⟨by rw[<- r.length];exact z,?_⟩)
 have j:g c.heap.objs.size=none:=i.au.fresh (S' _)
 refine⟨.ref c.heap.objs.size,upd g c.heap.objs.size (.tup o),i.laid (t':=c.toks) (λb u e=>B' _ e) (S' _) ?_,rfl,q _ j⟩
 exact⟨z,n,r,⟨_,TN _ rfl,rfl,_,rfl⟩⟩
def wa(h:PA X m t):PE X (.List m f) (Ri t):=by
 intro a s σ H Q I l
 refine wpAny_List_spliced (bg (h f a s σ H _ I l) fun n c ⟨o,g,i,r,z,q⟩=>⟨by rw[<- r.length];exact z,?_⟩)
 have j:g c.heap.objs.size=none:=i.au.fresh (S' _)
 refine⟨.ref c.heap.objs.size,upd g c.heap.objs.size (.lst o),i.laid (t':=c.toks) (λb u e=>B' _ e) (S' _) ?_,rfl,q _ j⟩
 exact⟨z,n,0,r,TN _ rfl⟩
abbrev Sp:=List V->Hp->VK->XK->Prop
abbrev zf:=List Env->Hp->Shared->XK->Value->Shared->Prop
structure qj (P:TV) (w:World) (K:l') (mg:Str->Option Value) (base:Heap) (A:Around) (outer:List Env) (s:Shared) (H:Hp):Prop where
 frames:A.frames=some outer
 mod:Mod K mg base
 bs:∀b o,base.get? b=some o->s.heap.get? b=some o/\H b=none
 Ci:base.objs.size<=s.heap.objs.size
 ip:s.heap.FunFrames base outer
 C7:∀b∈uf outer,H b=none
 au:dz P w H s.heap
 bare:Wk s.gens
def CE(outer:List Env)(P:TV)(w:World)(H:Hp)(s:Shared)(Q:VK)(u:Value)(a:Shared):Prop :=
 ∃v b,a.os=s.os/\Wk a.gens/\Un (uf outer) [] H b s.heap a.heap/\dz P w b a.heap/\RelV v u/\Q v b
def CR(CX:zf)(outer:List Env)(P:TV)(w:World)(H:Hp)(s:Shared)(Q:VK)(E:XK)(r:Result)(a:Shared):Prop :=
 match r with
 |.ok (.ret u)=>CE outer P w H s Q u a
 |.ok _=>False
 |.error e=>CX outer H s E e a
structure cE (P:TV) (w:World) (K:l') (mg:Str->Option Value) (base:Heap) (CX:zf) (k:Nat) (f:Addr) (fd:UE) (ps:List Str) (sp:Sp):Prop where
 len:∀vs H Q E,sp vs H Q E->vs.length=ps.length
 run:∀(A:Around) (outer:List Env) (s:Shared) (H:Hp) (args:Args) (us:List Value) (vs:List V) (Q:VK) (E:XK),bZ k A->qj P w K mg base A outer s H->BindsTo s fd args (ps.zip us)->Vals vs us->sp vs H Q E ->
  VQ (model P w) A (.call (.ref f) args) (CR CX outer P w H s Q E) s
def cE.mono{K:l'}(F:cE P w K e a g j f i l sp)(h:j<=k) :
  cE P w K e a g k f i l sp:=⟨F.len,λA b s H c o m Q E n=>F.run A b s H c o m Q E (n.mono h)⟩
def cE.imp{K:l'}(F:cE P w K l a m k f n j i)
  (h:∀c H Q E,e c H Q E->i c H Q E):cE P w K l a m k f n j e :=
 ⟨λc H Q E q=>F.len c H Q E (h _ _ _ _ q),λA b s H g u c Q E r t p o v=>F.run A b s H g u c Q E r t p o (h _ _ _ _ v)⟩
def qj.make{K:l'}(e:qj P w K c b A a s H)(C:Addr)(g:List Value)(f:List (Str × Value)) :
  qj P w K c b (A.under (.builtin "type.__call__" ⟨.ref C::g,f⟩)) a s H:=⟨by first|exact e.frames|(simpa [Xy,Code.envs,X',pushEnvs] using e.frames),e.mod,e.bs,e.Ci,e.ip,e.C7,e.au,e.bare⟩
section
variable {X:Cx}{pins:List (Addr × Obj)}{σ:St}{H:Hp}{s s':Shared}
def Inv.Ew(I:Inv X pins σ H s):qj X.prog X.w X.K X.mg X.base X.A X.stack s H :=
 ⟨I.ok.frames,I.ok.mod,I.bs,G' I.ok.Ci I.sz,I.stack,I.xC,I.au,I.bare⟩
def Inv.after(I:Inv X pins σ H s)(h:CE X.stack X.prog X.w H s Q u s'):EP X pins σ Q u s':=by
 obtain⟨v,f,os,a,un,e,r,q⟩:=h
 obtain⟨i,g,d,t,c⟩:=s'
 obtain rfl:c=s.os:=os
 exact⟨v,f,I.call (h':=i) (g':=g) (d':=d) (t':=t) (ch:=[]) un e a (λb z=>absurd z (by simp)),r,q⟩
end
def K2(sp:Sp)(dvs:List V)(E:XK)(t:TA):TE:=λσ H Q=>t σ H λvs a=>sp (vs++dvs) a Q E
def P6(C:Addr)(sp:Sp)(dvs:List V)(E:XK)(t:TA):TE:=λσ H Q=>t σ H λvs a=>∀x dx,a x=none->a dx=none->dx≠x ->
 sp (.ref x::(vs++dvs)) (upd (upd a dx (.own x)) x (.ins C dx [])) (λv b=>v=.ae/\Q (.ref x) b) E
def Binds(K:l')(a:UE)(ps:List Str)(ds:List Value):Prop :=
 ∀(s:Shared) (us:List Value),K.In s.heap->(us++ds).length=ps.length->BindsTo s a ⟨us,[]⟩ (ps.zip (us++ds))
def Binds.all{K:l'}(h:∀a:List Value,a.length=b.length->aAi c ⟨a,[]⟩=pure (b.zip a)):Binds K c b []:=λs a _ e=>by
 rw[UD] at e ⊢
 exact .of_eq (h a e)
def Passes(CX:zf)(X:Cx)(E:XK):Prop:=∀(a:List (Addr × Obj)) (σ:St) (H:Hp) (s:Shared) (e:Value) (b:Shared),Inv X a σ H s->CX X.stack H s E e b->X.xe e b
section
variable {X:Cx}{CX:zf}{k:Nat}{f C:Addr}{fd:UE}{ps:List Str}{sp:Sp}{dvs:List V}{ds:List Value}{E:XK}{x m:Str}{p pos apos:Pos}{e o:Expr}{es:List Expr}{ta:TE}{t:TA}
def wk{σ:St}(F:cE X.prog X.w X.K X.mg X.base CX k f fd ps sp)(n:bZ k X.A)(l:Binds X.K fd ps ds)(v:Vals dvs ds)(i:Passes CX X E)
  (I:Inv X a σ H s)(r:Vals vs us)(h:sp (vs++dvs) H Q E):wpAny (model X.prog X.w) X.A (call (.ref f) us) (EP X a σ Q) X.xe s:=by
 have c:Vals (vs++dvs) (us++ds):=r.append v
 have j:(us++ds).length=ps.length:=by rw[<- c.length];exact F.len _ _ _ _ h
 refine wpAny_call (codeAny_mono (F.run X.A X.stack s H ⟨us,[]⟩ (us++ds) (vs++dvs) Q E n I.Ew (l s us I.lQ j) c h) λr y b=>?_)
 cases r with
 |error e=>exact i a σ H s e y I b
 |ok g =>
  cases g with
  |ret u=>exact I.after b
  |next=>exact UI b
  |brk=>exact UI b
  |cont=>exact UI b
def wY(F:cE X.prog X.w X.K X.mg X.base CX k f fd ps sp)(u:bZ k X.A)(B:Gl X x)(n:X.mg x=some (.ref f))(l:keepIn X.K (.ref f)=true)(j:Binds X.K fd ps ds)(y:Vals dvs ds)(i:Passes CX X E)
  (z:PA X (e::es) t)(b:autoParam ((x == ("__debug__":Str))=false) e7)(v:autoParam (starEach (e::es) X.env=(false,eval e X.env)::starEach es X.env) dI)(c:autoParam ((backTo pos (starEach es X.env)).any (·.1)=false) dI) :
  PE X (.Call (.Name x p) (e::es) [] pos) (K2 sp dvs E t):=by
 intro a s σ H Q I h
 refine Ug (fv I B n ?_ b)
 refine V_ (h₀:=X.base) I.ok.mod.FN l (bg (z pos a s σ H _ I h) fun M L ⟨G,J,g,r,q⟩=>⟨g.lQ,?_⟩) v c
 exact wk F u j y i g r q
structure Mk (K:l') (C f:Addr):Prop where
 makes:Y6 K C=true
 init:findIn K (.ref C) "__init__"=some (some (.ref f))
 fn:isFn K (.ref f)=true
 kp:keepIn K (.ref C)=true
def Ga{σ:St}(M:Mk X.K C f)(F:cE X.prog X.w X.K X.mg X.base CX k f fd ps sp)(N:bZ (k+1) X.A)(S:Binds X.K fd ps ds)(P:Vals dvs ds)
  (G:Passes CX X E)(I:Inv X a σ H s)(r:Vals j c)
  (h:∀x i,H x=none->H i=none->i≠x->sp (.ref x::(j++dvs)) (upd (upd H i (.own x)) x (.ins C i [])) (λv R=>v=.ae/\Q (.ref x) R) E) :
  wpAny (model X.prog X.w) X.A (call (.ref C) c) (EP X a σ Q) X.xe s:=by
 have l:=h (s.heap.objs.size+1) s.heap.objs.size (I.au.fresh (Va _)) (I.au.fresh (S' _)) (Tq (Wi _))
 have g:=Inv.made (C:=C) I
 have n:Vals (V.ref (s.heap.objs.size+1)::(j++dvs)) (Td (s.heap.objs.size+1)::(c++ds)):=.cons rfl (r.append P)
 have J:(Td (s.heap.objs.size+1)::c++ds).length=ps.length:=by
  have e:=n.length
  rw[F.len _ _ _ _ l] at e
  exact e.symm
 refine wpAny_call (FZ (f:=f) I.lQ M.makes M.init (beq_iff_eq.mp M.fn) (codeAny_mono (F.run _ X.stack _ _ ⟨Td (s.heap.objs.size+1)::c,[]⟩ (Td (s.heap.objs.size+1)::(c++ds)) _ _ E (N.make C c [])
  (g.Ew.make C c []) (S _ (Td (s.heap.objs.size+1)::c) g.lQ J) n l) λr z b=>?_))
 cases r with
 |error e=>exact G a σ _ _ e z g b
 |ok B =>
  cases B with
  |ret u =>
   obtain⟨v,T,y,L,O,U⟩:=g.after b
   subst O
   exact⟨L,⟨V.ref (s.heap.objs.size+1),T,y,rfl,U⟩⟩
  |next=>exact UI b
  |brk=>exact UI b
  |cont=>exact UI b
def JQ(M:Mk X.K C f)(F:cE X.prog X.w X.K X.mg X.base CX k f fd ps sp)(n:bZ (k+1) X.A)(z:Gl X x)(l:X.mg x=some (.ref C))(j:Binds X.K fd ps ds)(v:Vals dvs ds)(i:Passes CX X E)
  (y:PA X (e::es) t)(b:autoParam ((x == ("__debug__":Str))=false) e7)(u:autoParam (starEach (e::es) X.env=(false,eval e X.env)::starEach es X.env) dI)(c:autoParam ((backTo pos (starEach es X.env)).any (·.1)=false) dI) :
  PE X (.Call (.Name x p) (e::es) [] pos) (P6 C sp dvs E t):=by
 intro a s σ H Q I h
 refine Ug (fv I z l ?_ b)
 refine V_ (h₀:=X.base) I.ok.mod.FN M.kp (bg (y pos a s σ H _ I h) fun L J ⟨B,G,g,r,q⟩=>⟨g.lQ,?_⟩) u c
 exact Ga M F n j v i g r q
end
def PK(X:Cx)(b:List VN)(t:TA):Prop :=
 ∀(pos:Pos) (a:List (Addr × Obj)) (s:Shared) (σ:St) (H:Hp) (Q:List V->Hp->Prop),Inv X a σ H s->t σ H Q->wpAny (model X.prog X.w) X.A (evalAll ((backToKw pos (keywordEach b X.env)).map (·.2))) (AP X a σ Q) X.xe s
def M6:PK X [] Gw:=λ_ _ _ _ H Q I h=>wpAny_evalAll_nil ⟨[],H,I,.nil,h⟩
def JT(y:PE X e j)(n:PK X c t):PK X (⟨nm,e,kpos⟩::c) (vS j t):=by
 intro b a s σ H Q I h
 show wpAny _ _ (evalAll ((do let v <- eval e X.env;Wj b;pure v)::(backToKw b (keywordEach c X.env)).map (·.2))) _ _ s
 refine wpAny_evalAll_cons (wpAny_bind (bg (y a s σ H _ I h) fun u z ⟨x,m,g,f,o⟩=>wpAny_bind (wpAny_standAt (wpAny_pure ?_))))
 exact bg (n b a z σ m _ g o) fun B A ⟨l,w,i,r,p⟩=>⟨x::l,w,i,.cons f r,p⟩
structure aD (N P:List Str) (sc:Scope):Prop where
 kind:sc.kind=.function
 co:sc.isCoroutine=false
 gen:sc.isGenerator=false
 nd:N.Nodup
 pre:N.take P.length=P
 par:∀x∈P,sc.names.lookup x=some .local\/sc.names.lookup x=some .cell
 Ma:∀y∈sc.names,y.2≠.free
def uT{kindOf:Str->Option Xh}:∀{binds:List (Str × Value)} {m:Str->Option Value},(∀v,(x,v)∉binds)->bindL kindOf binds m x=m x
 |[],_,_=>rfl
 | (n,v)::r,m,h=>by
  unfold bindL
  rw[uT λw a=>h w (TR _ a)]
  split
  ·have:x≠n:=by rintro rfl;exact h v N'
   simp[this]
  ·rfl
def uR{kindOf:Str->Option Xh}:∀{binds:List (Str × Value)} {m:Str->Option Value},(∀v,(x,v)∉binds)->bindC kindOf binds m x=m x
 |[],_,_=>rfl
 | (n,v)::r,m,h=>by
  unfold bindC
  rw[uR λw a=>h w (TR _ a)]
  split
  ·rfl
  ·have:x≠n:=by rintro rfl;exact h v N'
   simp[this]
def uS{kindOf:Str->Option Xh}{x:Str}{v:Value}:∀{P:List Str} {a:List Value} {i:Nat} {m:Str->Option Value},P.Nodup->P[i]?=some x->a[i]?=some v->kindOf x=some .local ->
  bindL kindOf (P.zip a) m x=some v
 |[],_,_,_,_,h,_,_=>by simp at h
 |_::_,[],_,_,_,_,h,_=>by simp at h
 |p::P,w::a,0,m,e,b,c,f=>by
  simp at b c;subst b;subst c
  show bindL kindOf ((p,w)::P.zip a) m p=_
  unfold bindL
  rw[uT λv g=>(UN.mp e).1 (V7 g).1,if_pos f]
  simp
 |p::P,w::a,i+1,m,e,b,c,f=>by
  show bindL kindOf ((p,w)::P.zip a) m x=_
  unfold bindL
  exact uS (i:=i) (UN.mp e).2 (by simpa using b) (by simpa using c) f
def uQ{kindOf:Str->Option Xh}{x:Str}{v:Value}:∀{P:List Str} {a:List Value} {i:Nat} {m:Str->Option Value},P.Nodup->P[i]?=some x->a[i]?=some v->kindOf x≠some .local ->
  bindC kindOf (P.zip a) m x=some v
 |[],_,_,_,_,h,_,_=>by simp at h
 |_::_,[],_,_,_,_,h,_=>by simp at h
 |p::P,w::a,0,m,e,b,c,f=>by
  simp at b c;subst b;subst c
  show bindC kindOf ((p,w)::P.zip a) m p=_
  unfold bindC
  rw[uR λv g=>(UN.mp e).1 (V7 g).1,if_neg f]
  simp
 |p::P,w::a,i+1,m,e,b,c,f=>by
  show bindC kindOf ((p,w)::P.zip a) m x=_
  unfold bindC
  exact uQ (i:=i) (UN.mp e).2 (by simpa using b) (by simpa using c) f
def start(N:List Str)(vs:List V):St:=vs.map some++T_ (N.length - vs.length) none
def n9(CX:zf)(P:TV)(w:World)(K:l')(mg:Str->Option Value)(base:Heap)(N:List Str)(b:Str)(a:Scope)(f:Addr)(cd:Value)(A:Around)(outer:List Env)(s:Shared)(H:Hp)(E:XK):Cx where
 prog:=P
 w:=w
 K:=K
 mg:=mg
 base:=base
 A:=A.deeper (envOfC b a s.heap.objs.size f cd)
 N:=N
 s₀:=s
 H₀:=H
 env:=envOfC b a s.heap.objs.size f cd
 outer:=outer
 stack:=envOfC b a s.heap.objs.size f cd::outer
 ex:=[]
 calm:=true
 fn:=λ_=>true
 pn:=[]
 xe:=λe h=>wpAny (model P w) (A.deeper (envOfC b a s.heap.objs.size f cd)) (leaving (envOfC b a s.heap.objs.size f cd) e) (λ_ c=>CX outer H s E e c) (λg c=>CX outer H s E g c) h
def xZ{a:Scope}(h:a.names.lookup x=some .cell):∃c,(cellsFrom n a.names []).lookup x=some c:=by
 have q:=Wa a.names n [] (.inl h)
 exact VC.mp q
def ui{K:l'}
  (S:aD N G g)(Y:A.handled=none)(t:qj P w K Q o A j s H)(hl:B.length=G.length)(r:Vals B O)
  (x:InCallC s s.heap.objs.size (bindL (envOfC l g s.heap.objs.size f cd).kindOf (G.zip O) λ_=>none) (cellsFrom (s.heap.objs.size+1) g.names []) (bindC (envOfC l g s.heap.objs.size f cd).kindOf (G.zip O) λ_=>none) W) :
  Inv (n9 T P w K Q o N l g f cd A j s H E) [] (start N B) H W:=by
 have Z:G.length<=N.length:=by have:=congrArg VZ S.pre;rw[Tu] at this;omega
 obtain⟨L,tk,rfl,R⟩:=x.done
 have F:∀b:Addr,b∉(n9 T P w K Q o N l g f cd A j s H E).ex:=λb z=>absurd (show b∈([]:List Addr) from z) (by simp)
 refine⟨⟨t.mod,S.kind,rfl,rfl,S' _,λy z c L m=>?_,λy C=>?_,λy c _ h=>?_,λ_=>Y,Around.frames_deeper t.frames,.inr ⟨rfl,rfl⟩,λb z=>absurd z (F b),t.bs,t.Ci,λb _ _=>F b,λb z=>absurd z (F b),t.ip,t.C7⟩,
  rfl,t.bare,Un.kept R,⟨_,x.toInCall.ns,λi y v L m h3=>?_⟩,λy c h=>⟨_,x.cell y c h⟩,t.au.fresh (S' _),λy c h=>?_,λp J=>absurd (show p∈([]:List (Addr × Obj)) from J) (by simp),t.au.kept R,?_⟩
 ·exact name_of_addr x.apart (Vb L) (Vb m)
 ·have C:g.names.lookup y=some .cell\/g.names.lookup y=some .free:=C
  rcases C with C|C
  ·exact xZ C
  ·exact absurd rfl (S.Ma _ (Vb C))
 ·exact Vp (x.above y c (Vb h))
 ·have M:i<B.length:=by
   unfold start at m
   by_cases M:i<B.length
   ·exact M
   ·rw[UL (by simpa using M)] at m
    rw[We] at m
    split at m<;>cases m
  have ha:B[i]?=some v:=by
   unfold start at m
   rw[UM (by simpa using M),TX] at m
   cases e:B[i]? with
   |none=>rw[e] at m;cases m
   |some a=>rw[e] at m;cases m;rfl
  obtain⟨u,U,X⟩:=r.get ha
  have J:G[i]?=some y:=by
   rw[<- S.pre,List.getElem?_take_of_lt (by omega)];exact L
  have I:G.Nodup:=by rw[<- S.pre];exact S.nd.sublist (WS _ _)
  refine⟨u,X,?_⟩
  rcases S.par y (K' J) with k|k
  ·exact .inl ⟨k,uS I J U k⟩
  ·obtain⟨c,e⟩:=xZ (n:=s.heap.objs.size+1) k
   refine .inr ⟨.inl k,c,e,?_⟩
   have q:=x.cell y c e
   rw[uQ I J U (by show g.names.lookup y≠_;rw[k];decide)] at q
   exact q
 ·exact t.au.fresh (Vp (x.above y c (Vb h)))
 ·unfold start
  show _=N.length
  rw[TY,tz,Vv]
  omega
def Be{K:l'}{dV kV R pm h ct oc:Value}
  (lk:K.lookup f=some ⟨oc,od,.func (fnOf p g j l a dV kV R pm an h ct),osl⟩)(hcd:codeIn K h g=true)(S:aD N W a)
  (O:∀m H Q E,sp m H Q E->m.length=W.length)
  (B:∀(A:Around) (c:List Env) (s:Shared) (H:Hp) (m:List V) (Q:VK) (E:XK),bZ k (A.deeper (envOfC g a s.heap.objs.size f h))->sp m H Q E ->
   ∃t,kq (n9 T P w K X i N g a f h A c s H E) l t/\t { nx:=λ_ z=>Q .ae z,rt:=Q } (start N m) H) :
  cE P w K X i T (k+1) f (fnOf p g j l a dV kV R pm an h ct) W sp:=by
 refine⟨O,λA c s H args us m Q E hr M hb r G=>?_⟩
 have hl:=O _ _ _ _ G
 have KX:K.In s.heap:=M.mod.FN.keeps λb o e=>(M.bs b o e).1
 have lim:s.heap.NoLimit:=M.mod.nolimit.keeps λb o e=>(M.bs b o e).1
 have C:∀y∈W.zip us,a.names.lookup y.1=some .local\/(a.names.lookup y.1=some .cell/\((cellsFrom (s.heap.objs.size+1) a.names []).lookup y.1).isSome=true):=fun⟨n,v⟩ hy=>by
  rcases S.par n (V7 hy).1 with q|q
  ·exact .inl q
  ·exact .inr ⟨q,Wa _ _ _ (.inl q)⟩
 refine ZJ hr.depth (KX _ _ lk) rfl S.co S.gen rfl (YK KX hcd) (hb _ _ _ _ ?_)
 refine YE S.kind C λenv he s1 x=>?_
 subst he
 refine⟨lim.keeps x.toInCall.keep,codeAny_func ?_⟩
 obtain⟨t,ht,hq⟩:=B A c s H m Q E (hr.deeper _) G
 have I:Inv (n9 T P w K X i N g a f h A c s H E) [] (start N m) H s1:=ui S hr.hd M hl r x
 refine wpAny_mono (ht [] s1 (start N m) H _ I hq) (λfl Y F=>?_) λe Y F=>F
 have L:∀{U:St} {z:Hp} {v:V} {u:Value},Inv (n9 T P w K X i N g a f h A c s H E) [] U z Y->RelV v u->Q v z->CE c P w H s Q u Y :=
  fun{U z v u} J Z q=>⟨v,z,J.os,J.bare,J.base,J.au,Z,q⟩
 cases fl with
 |ret u =>
  obtain⟨v,U,z,J,Z,q⟩:=F
  exact L J Z q
 |next =>
  obtain⟨U,z,J,q⟩:=F
  exact L (v:=V.ae) (u:=T5) J rfl q
 |brk =>
  obtain⟨_,_,_,q⟩:=F
  exact UI q
 |cont =>
  obtain⟨_,_,_,q⟩:=F
  exact UI q
section
variable {X:Cx}{x:Str}{p pos:Pos}{e:Expr}{es:List Expr}{t:TA}{id T:String}{r:List V->Hp->VK->Prop}
def Py(r:List V->Hp->VK->Prop)(t:TA):TE:=λσ H Q=>t σ H λa b=>r a b Q
def dA(c:gH X (.builtin id) r)(v:Gl X x)(m:X.mg x=none)(g:UR x=some (.builtin id))(u:PA X (e::es) t)(o:autoParam (x≠"__name__") e7)(b:autoParam ((x == ("__debug__":Str))=false) e7)
  (he:autoParam (starEach (e::es) X.env=(false,eval e X.env)::starEach es X.env) dI)(hpl:autoParam ((backTo pos (starEach es X.env)).any (·.1)=false) dI):PE X (.Call (.Name x p) (e::es) [] pos) (Py r t):=by
 intro a s σ H Q I h
 refine Ug (nK I v m g ?_ o b)
 exact aAd (bg (u pos a s σ H _ I h) fun w l ⟨f,j,y,i,n⟩=>c a l σ j f w Q y i n) he hpl
def i9(c:gH X (.type T) r)(v:Gl X x)(m:X.mg x=none)(g:UR x=some (.type T))(u:PA X (e::es) t)(o:autoParam (x≠"__name__") e7)(b:autoParam ((x == ("__debug__":Str))=false) e7)
  (he:autoParam (starEach (e::es) X.env=(false,eval e X.env)::starEach es X.env) dI)(hpl:autoParam ((backTo pos (starEach es X.env)).any (·.1)=false) dI):PE X (.Call (.Name x p) (e::es) [] pos) (Py r t):=by
 intro a s σ H Q I h
 refine Ug (nK I v m g ?_ o b)
 exact VJ (bg (u pos a s σ H _ I h) fun w l ⟨f,j,y,i,n⟩=>c a l σ j f w Q y i n) he hpl
end
end L2
open L2
namespace HT
open PySem PyProof.Rows
section
open PySem.SeqAt
open PySem.AutoSeq1 (wpAny_loadPart')
open PySem.MeetsSeq PySem.MeetsSeq2 PySem.MeetsSeq3
end
def Hi(F:IsTup s.heap t f.toArray)(G:IsTup s.heap b a.toArray)(p:f≠[])
  (C:a=[]->Q (.ref t) s)(H:a≠[]->Q (.ref s.heap.objs.size) { s with heap:=s.heap.push { cls:=.type "tuple",data:=.seq (f++a).toArray }})
  (o:f.length+a.length<=sizeLine):wpAny (model u w) A (binaryOp .Add (.ref t) (.ref b)) Q E s:=by
 obtain⟨⟨cls,B,data,x⟩,l,v,n,y⟩:=id F
 obtain⟨⟨r,h,data2,g⟩,c,j,z,i⟩:=id G
 simp only at v y j i
 subst v y j i
 have e:f.toArray++a.toArray=(f++a).toArray:=by simp
 by_cases m:a=[]
 ·exact Xe ⟨_,l,rfl⟩ ⟨_,c,rfl⟩ Xs Yh Wb WR (WK _ _)
   (tuple_addW1 t b f.toArray a.toArray n z B h x g (by simpa using p) (by simp[m])) ⟨l,c,C m⟩
 ·refine Xe ⟨_,l,rfl⟩ ⟨_,c,rfl⟩ Xs Yh Wb WR (WK _ _)
   (tuple_addW2 t b f.toArray a.toArray n z B h x g (by simpa using p) (by simpa using m) (by rw[Ti,Ti];exact o)) ⟨l,c,?_⟩
  rw[e]
  exact H m
def dX(n d:Nat):Option Int->Nat
 |none=>d
 |some v=>if v<0 then(v+(n:Int)).toNat else min v.toNat n
def zC(n d:Nat):dX n d none=d:=rfl
def wo(n d k:Nat):dX n d (some (k:Int))=min k n:=by
 show(if(k:Int)<0 then((k:Int)+(n:Int)).toNat else min (k:Int).toNat n)=min k n
 rw[if_neg (by omega),U2]
def NH(n d:Nat)(b:d<=n)(o:Option Int):dX n d o<=n:=by
 cases o with
 |none=>exact b
 |some v =>
  show(if v<0 then(v+(n:Int)).toNat else min v.toNat n)<=n
  by_cases a:v<0
  ·rw[if_pos a];omega
  ·rw[if_neg a];exact Vc _ _
def BP(v:Int)(n d:Nat):(if v<0 then max (v+(n:Int)) 0 else min v (n:Int))=((dX n d (some v):Nat):Int):=by
 show(if v<0 then max (v+(n:Int)) 0 else min v (n:Int))=(((if v<0 then(v+(n:Int)).toNat else min v.toNat n):Nat):Int)
 by_cases a:v<0
 ·simp only[if_pos a];omega
 ·simp only[if_neg a];omega
def zi(lo a:Option Int)(n:Nat):V0 lo a 1 (n:Int)=(((dX n 0 lo:Nat):Int),((dX n n a:Nat):Int)):=by
 have b:¬ ((1:Int)<0):=by omega
 unfold V0
 simp only[b,if_false]
 refine Prod.ext ?_ ?_
 ·cases lo with
  |none=>rfl
  |some v=>exact BP v n 0
 ·cases a with
  |none=>rfl
  |some v=>exact BP v n n
def Ao(i j:Nat):VO (i:Int) (j:Int) 1=j - i:=by
 unfold VO
 have a:(1:Int) > 0:=by omega
 simp only[a,if_true,aAM]
 split<;>omega
def tJ(p:IsPart v o)(h:Q o s):wpAny (model a w) A (aAC v) Q E s:=by
 cases p with
 |none=>exact slicePart_none h
 |int i t=>exact slicePart_int h
def qF{lo a:Option Int}{Q:Int × Int × Nat->Shared->Prop}(o:s.heap.IsSliceOf i e f .none)(j:IsPart e lo)(m:IsPart f a)
  (h:Q (((dX n 0 lo:Nat):Int),1,dX n n a - dX n 0 lo) s):wpAny (model g w) A (W4 (.ref i) (pure (n:Int))) Q E s:=by
 obtain⟨os,b,l,c⟩:=id o
 unfold W4 aAD
 refine wpAny_bind (wpAny_bind (wpAny_field b c (x:=e) rfl (wpAny_bind (wpAny_field b c (x:=f) rfl (wpAny_bind (wpAny_field b c (x:=.none) rfl (wpAny_pure ?_)))))))
 refine wpAny_bind (slicePart_none ?_)
 show wpAny _ _ (if((1:Int) == 0)=true then _ else _) _ _ s
 rw[if_neg (by decide)]
 refine wpAny_bind (tJ j (wpAny_bind (tJ m (wpAny_bind (wpAny_pure ?_)))))
 show wpAny _ _ (match V0 lo a 1 (n:Int) with|(lo,a)=>pure (lo,(1:Int),VO lo a 1)) _ _ s
 rw[zi lo a n]
 show wpAny _ _ (pure (((dX n 0 lo:Nat):Int),(1:Int),VO ((dX n 0 lo:Nat):Int) ((dX n n a:Nat):Int) 1)) _ _ s
 rw[Ao]
 exact wpAny_pure h
def GG(a:Array Value)(i k:Nat):((Ua k).filterMap fun(m:Nat)=>a[((i:Int)+(m:Int)*1).toNat]?).toArray=((a.toList.drop i).take k).toArray:=by
 have e:(fun(m:Nat)=>a[((i:Int)+(m:Int)*1).toNat]?)=λm=>a[i+m]?:=by
  funext m
  have:((i:Int)+(m:Int)*1).toNat=i+m:=by omega
  rw[this]
 rw[e]
 have:=pick_run a i k
 rw[UW] at this
 have b:((λx=>a[x]?)∘λx=>i+x)=λm=>a[i+m]?:=rfl
 rw[b] at this
 rw[this]
def oO{lo c:Option Int}(e:IsTup s.heap t a)(o:s.heap.IsSliceOf l r p .none)(u:IsPart r lo)(v:IsPart p c)
  (z:¬ (dX a.size 0 lo=0/\dX a.size a.size c=a.size))
  (h:Q (.ref s.heap.objs.size) { s with heap:=s.heap.push { cls:=.type "tuple",data:=.seq ((a.toList.drop (dX a.size 0 lo)).take (dX a.size a.size c - dX a.size 0 lo)).toArray }})
  (y:a.size<=sizeLine):wpAny (model n w) A (getItem (.ref t) (.ref l)) Q E s:=by
 have b:sizeOk (.seq ((a.toList.drop (dX a.size 0 lo)).take (dX a.size a.size c - dX a.size 0 lo)).toArray):=by
  show((a.toList.drop (dX a.size 0 lo)).take (dX a.size a.size c - dX a.size 0 lo)).toArray.size<=sizeLine
  rw[Ti,Tu,UC,U4]
  omega
 have B:dX a.size a.size c<=a.size:=NH _ _ (S' _) c
 obtain⟨os,g,i,x⟩:=id o
 have j:s.TypeIs (.ref l) "slice":=⟨os,g,i⟩
 unfold getItem
 try with_reducible refine wpAny_holding ?_
 first|refine wpAny_bind (wpAny_pure ?_)|skip
 refine wpAny_bind (wpAny_sequenceKey e.typeIs (by decide) ?_)
 refine wpAny_bind (wpAny_callSpecial?_slot (name:=VF "__getitem__") e.typeIs VL
  (wpAny_call_entry VL e.typeIs entry_tuple_getitem ?_ (args_tuple_getitem _ _)))
 show wpAny _ _ (aAA (.ref t) >>= _) _ _ s
 refine wpAny_bind (tupleItemsOf_ e ?_)
 refine wpAny_bind (wpAny_typeOf j ?_)
 rw[if_pos (by decide)]
 refine wpAny_bind (qF o u v ?_)
 have f:¬ ((((dX a.size 0 lo:Nat):Int) == 0&&(1:Int) == 1&&(dX a.size a.size c - dX a.size 0 lo) == a.size)=true):=by
  intro q
  rw[Tw,Tw] at q
  have C:((dX a.size 0 lo:Nat):Int)=0:=eq_of_beq q.1.1
  have F:dX a.size a.size c - dX a.size 0 lo=a.size:=eq_of_beq q.2
  exact z ⟨by omega,by omega⟩
 show wpAny _ _ (if(((dX a.size 0 lo:Nat):Int) == 0&&(1:Int) == 1&&(dX a.size a.size c - dX a.size 0 lo) == a.size)=true then _ else _) _ _ s
 rw[if_neg f,GG]
 first
  |exact wpAny_bind (m:=VR _) (wpAny_newObj_type (wpAny_pure ⟨_,rfl,wpAny_pure h⟩) b)
  |exact wpAny_bind (m:=VR _) (wpAny_newObj_type (wpAny_bind (wpAny_pure (wpAny_pure ⟨_,rfl,wpAny_pure h⟩))) b)
  |exact wpAny_bind (wpAny_bind (m:=VR _) (wpAny_newObj_type (wpAny_pure (wpAny_pure ⟨_,rfl,wpAny_pure h⟩)) b))
  |exact wpAny_bind (wpAny_bind (m:=VR _) (wpAny_newObj_type (wpAny_pure ⟨_,rfl,wpAny_pure h⟩) b))
end HT
namespace L2
abbrev TO:=St->Hp->(Option Int->Hp->Prop)->Prop
def PO(X:Cx)(e:Option Expr)(t:TO):Prop :=
 ∀(a:List (Addr × Obj)) (s:Shared) (σ:St) (H:Hp) (Q:Option Int->Hp->Prop),Inv X a σ H s->t σ H Q ->
  wpAny (model X.prog X.w) X.A (evalPart e X.env) (λu c=>∃o b,Inv X a σ b c/\IsPart u o/\Q o b) X.xe s
def Jy:TO:=λ_ H Q=>Q none H
def P9(t:TE):TO:=λσ H Q=>t σ H λx a=>∃i,x=.int i/\Q (some i) a
section
variable {X:Cx}{e:Expr}{te:TE}{lo hi:Option Expr}{tl th:TO}{pos p2:Pos}
def JU:PO X none Jy:=by
 intro a s σ H Q I h
 rw[Yj]
 exact wpAny_pure ⟨none,H,I,.none,h⟩
def JV(h:PE X e te):PO X (some e) (P9 te):=by
 intro a s σ H Q I f
 rw[aAo]
 refine bg (h a s σ H _ I f) ?_;rintro u l ⟨x,c,j,b,g⟩
 obtain⟨i,rfl,q⟩:=g
 obtain⟨t,rfl⟩:=b
 exact⟨some i,c,j,.int i t,q⟩
def HX(X:Cx)(r:V->Option Int->Option Int->Hp->VK->Prop):Prop :=
 ∀(a:List (Addr × Obj)) (s:Shared) (σ:St) (H:Hp) (x:V) (v b c:Value) (lo f:Option Int) (g:Addr) (Q:VK),Inv X a σ H s->RelV x v->s.heap.IsSliceOf g b c .none->IsPart b lo->IsPart c f->r x lo f H Q ->
  ∃T id,typeLookup (.type T) "__getitem__"=pure (some (.builtin id))/\s.TypeIs v T/\wpAny (model X.prog X.w) X.A (getItem v (.ref g)) (EP X a σ Q) X.xe s
def HX.or(h:HX X r)(o:HX X i):HX X (λx lo b H Q=>r x lo b H Q\/i x lo b H Q):=by
 intro a s σ H x v c f lo b m Q I j n g l q
 rcases q with q|q
 ·exact h a s σ H x v c f lo b m Q I j n g l q
 ·exact o a s σ H x v c f lo b m Q I j n g l q
def S7(r:V->Option Int->Option Int->Hp->VK->Prop)(c:TE)(a g:TO):TE:=λσ H Q=>c σ H λx f=>a σ f λl b=>g σ b λu h=>r x l u h Q
def y_(G:HX X r)(M:PE X e te)(C:PO X lo tl)(F:PO X hi th):PE X (.Subscript e (.Slice lo hi none p2) pos) (S7 r te tl th):=by
 intro a s σ H Q I h
 refine YR (bg (M a s σ H _ I h) ?_);rintro v R ⟨x,E,z,j,J⟩
 refine wpAny_Slice (bg (C a R σ E _ z J) fun g y ⟨l,N,B,m,L⟩=>bg (F a y σ N _ B L) ?_);rintro f c ⟨u,i,t,p,P⟩
 rw[Yj]
 refine wpAny_pure ?_
 have o:Inv X a σ i { c with heap:=c.heap.push { cls:=.type "slice",data:=.fields #[g,f,.none] }}:=t.kept (t':=c.toks) λb S q=>B' _ q
 obtain⟨T,id,hT,O,n⟩:=G a { c with heap:=c.heap.push { cls:=.type "slice",data:=.fields #[g,f,.none] }} σ i x v g f l u c.heap.objs.size Q o j (Xa ..) m p P
 show wpAny (model X.prog X.w) X.A (subscriptTail e (.Slice lo hi none p2) v (.ref c.heap.objs.size)) (EP X a σ Q) X.xe { c with heap:=c.heap.push { cls:=.type "slice",data:=.fields #[g,f,.none] }}
 exact Za (ops:=[.ref c.heap.objs.size,v]) O hT n (by with_unfolding_all rfl)
def xc(a:List V)(lo b:Option Int):List V:=(a.drop (HT.dX a.length 0 lo)).take (HT.dX a.length a.length b - HT.dX a.length 0 lo)
def qO(a:List V)(lo b:Option Int):(xc a lo b).length<=a.length:=by
 unfold xc
 rw[Tu,UC]
 omega
def Pg(K:l'):V->Option Int->Option Int->Hp->VK->Prop:=λx lo c H Q=>∃a b,x=.ref a/\iN K H a b /\
 ¬ (HT.dX b.length 0 lo=0/\HT.dX b.length b.length c=b.length)/\∀p,H p=none->Q (.ref p) (upd H p (.tup (xc b lo c)))
def NP:HX X (Pg X.K):=by
 intro l s σ H x v z A lo g B Q I w n p u h
 obtain⟨a,f,rfl,t,y,q⟩:=h
 cases w
 obtain⟨i,r,j,m⟩:=I.tuple t
 have c:i.toArray.size=f.length:=by rw[Ti];exact r.length.symm
 refine⟨"tuple",_,VL.lookup,j.typeIs,?_⟩
 refine HT.oO j n p u (by rw[c];exact y) ?_ (by rw[c];exact m)
 rw[c]
 refine⟨.ref s.heap.objs.size,_,I.laid (t':=s.toks) (o:=.tup (xc f lo g)) (λb C q=>B' _ q) (S' _) ?_,rfl,q _ (I.au.fresh (S' _))⟩
 exact⟨G' (qO f lo g) m,_,(r.drop (HT.dX f.length 0 lo)).take (HT.dX f.length f.length g - HT.dX f.length 0 lo),Y_ _ _⟩
def Ks(K:l'):R2:=λx y H Q=>∃a b f c,x=.ref a/\y=.ref b/\iN K H a f/\iN K H b c/\f≠[]/\f.length+c.length<=sizeLine /\
 (c=[]->Q (.ref a) H)/\(c≠[]->∀p,H p=none->Q (.ref p) (upd H p (.tup (f++c))))
def Vals.wQ(r:Vals b a):a=[] ↔ b=[]:=by
 cases r with
 |nil=>simp
 |cons _ _=>simp
def JF:g9 X (binaryOp .Add) (Ks X.K):=by
 intro i s σ H x y v u Q I n l h
 obtain⟨a,b,G,E,rfl,rfl,C,p,m,j,t,A⟩:=h
 cases n
 cases l
 obtain⟨B,f,F,_⟩:=I.tuple C
 obtain⟨g,c,r,_⟩:=I.tuple p
 refine HT.Hi F r (λz=>m (f.wQ.mp z)) (λz=>⟨.ref a,H,I,rfl,t (c.wQ.mp z)⟩) (λz=>?_) (by rw[<- f.length,<- c.length];exact j)
 refine⟨.ref s.heap.objs.size,_,I.laid (t':=s.toks) (o:=.tup (G++E)) (λb J q=>B' _ q) (S' _) ?_,rfl,A (λw=>z (c.wQ.mpr w)) _ (I.au.fresh (S' _))⟩
 exact⟨by rw[TY];exact j,_,f.append c,Y_ _ _⟩
end
def L8(n:Nat)(i:Int):Option Nat:=if 0<=i then(if i<n then some i.toNat else none) else if -(n:Int)<=i then some (i+n).toNat else none
def tZ{α:Type}(xs:List α)(i:Int):Option α:=(L8 xs.length i).bind λj=>xs[j]?
def IP(h:L8 n i=some j):seqIndex? i n=some j/\j<n/\-(n:Int)<=i/\i<n:=by
 unfold L8 at h
 by_cases b:0<=i
 ·rw[if_pos b] at h
  by_cases a:i<n
  ·rw[if_pos a] at h
   have e:i.toNat=j:=UA h
   exact⟨by rw[seqIndex_of b a,e],by omega,by omega,a⟩
  ·rw[if_neg a] at h;cases h
 ·rw[if_neg b] at h
  by_cases a:-(n:Int)<=i
  ·rw[if_pos a] at h
   have e:(i+n).toNat=j:=UA h
   exact⟨by rw[seqIndex_neg (by omega) a,e],by omega,a,by omega⟩
  ·rw[if_neg a] at h;cases h
def vo{v:α}(h:tZ a i=some v):∃j,seqIndex? i a.length=some j/\a[j]?=some v/\j<a.length/\-(a.length:Int)<=i/\i<a.length:=by
 unfold tZ at h
 cases e:L8 a.length i with
 |none=>rw[e] at h;cases h
 |some j =>
  rw[e] at h
  obtain⟨b,c,f,g⟩:=IP e
  exact⟨j,b,h,c,f,g⟩
def vi(b:Expr):Prop:=∀o i,subscripted b false o i=aB6 [o,i] (getItem o i)
def HJ(X:Cx)(r:R2):Prop :=
 ∀(c a:Expr) (b:List (Addr × Obj)) (s:Shared) (σ:St) (H:Hp) (x y:V) (v u:Value) (Q:VK),Inv X b σ H s->RelV x v->RelV y u->r x y H Q ->
  subscripted a false v u=aB6 [v,u] (getItem v u)->wpAny (model X.prog X.w) X.A (subscriptTail c a v u) (EP X b σ Q) X.xe s
def N2(X:Cx)(id:String)(r:V->List V->Hp->VK->Prop):Prop :=
 ∀(a:List (Addr × Obj)) (s:Shared) (σ:St) (H:Hp) (x:V) (xs:List V) (v:Value) (us:List Value) (Q:VK),Inv X a σ H s->RelV x v->Vals xs us->r x xs H Q ->
  wpAny (model X.prog X.w) X.A (call (.builtin id) (v::us)) (EP X a σ Q) X.xe s
section
variable {X:Cx}{a b:Expr}{ta tb:TE}{pos:Pos}
def HJ.or(h:HJ X r)(m:HJ X i):HJ X (λx y H Q=>r x y H Q\/i x y H Q):=by
 intro e c f s σ H x y v u Q I j g q l
 rcases q with q|q
 ·exact h e c f s σ H x y v u Q I j g q l
 ·exact m e c f s σ H x y v u Q I j g q l
def Ko(l:HJ X r)(n:PE X a ta)(j:PE X b tb)(o:vi b):PE X (.Subscript a b pos) (NV r ta tb):=by
 intro c s σ H Q I h
 exact YR (LL n j I h λv u m x y f g i e q=>l a b c m σ f x y v u Q g i e q (o _ _))
def Pb(K:l'):R2:=λx y H Q=>∃p c i v,x=.ref p/\y=.int i/\cW K H p c/\tZ c i=some v/\Q v H
def Pd(K:l'):R2:=λx y H Q=>∃p c i v,x=.ref p/\y=.int i/\iN K H p c/\tZ c i=some v/\Q v H
def Pc:R2:=λx y H Q=>∃z i c,x=.str z/\y=.int i/\z.length<=sizeLine/\tZ z.cps.toList i=some c/\Q (.str ⟨#[c]⟩) H
def IS:HJ X (Pb X.K):=by
 intro A n c s σ H x y v u Q I P G h C
 obtain⟨p,T,i,z,rfl,rfl,L,M,q⟩:=h
 cases P
 obtain⟨t,rfl⟩:=G
 obtain⟨o,r,l,U⟩:=I.list L
 obtain⟨j,f,R,W,O,N⟩:=vo M
 obtain⟨w,B,m⟩:=r.get R
 have J:=r.length
 have S:=sG
 have e:EP X c σ Q w s:=⟨z,H,I,m,q⟩
 by_cases E:0<=i
 ·have g:i.toNat=j:=by
   rw[seqIndex_of E N] at f
   exact UA f
  exact item_listR l.isList E (by omega) (by rw[g];simpa using B) e C
 ·have g:(i+(o.toArray.size:Int)).toNat=j:=by
   rw[seqIndex_neg (by omega) O] at f
   rw[Ti,<- J]
   exact UA f
  exact Y9 (x:=w) l.isList.typeIs Xd.lookup
   (wpAny_getItem_list_neg (Q:=λr F=>r=w/\EP X c σ Q r F) l.isList (by omega) (by rw[Ti]<;>omega) (by omega) (by rw[g];simpa using B) ⟨rfl,e⟩) C
def MA:HJ X (Pd X.K):=by
 intro l f c s σ H x y v u Q I J B h o
 obtain⟨p,O,i,z,rfl,rfl,E,G,q⟩:=h
 cases J
 obtain⟨t,rfl⟩:=B
 obtain⟨L,r,m,S⟩:=I.tuple E
 obtain⟨j,F,M,T,R,P⟩:=vo G
 obtain⟨w,n,e⟩:=r.get M
 have C:=r.length
 have N:=sG
 have g:EP X c σ Q w s:=⟨z,H,I,e,q⟩
 exact Y9 (x:=w) m.typeIs VL.lookup
  (getItem_tuple (j:=j) (Q:=λr A=>r=w/\EP X c σ Q r A) m (by omega) (by omega) (by rw[Ti,<- C];exact F) (by simpa using n) ⟨rfl,g⟩) o
def L_:HJ X Pc:=by
 intro f e l s σ H x y v u Q I o m h E
 obtain⟨z,i,c,rfl,rfl,J,w,q⟩:=h
 obtain⟨t,rfl⟩:=o
 obtain⟨L,rfl⟩:=m
 obtain⟨j,g,A,G,C,B⟩:=vo w
 have p:z.cps.toList.length=z.length:=by simp[XB]
 rw[p] at g C B
 have F:=sG
 exact Za (typeIs_str s z t) slot_str_getitem.lookup (getItem_str (c:=c) (by
  have n:decide (i < -(2 ^ 63:Int))=false:=decide_eq_false (by omega)
  have r:decide (i ≥ 2 ^ 63)=false:=decide_eq_false (by omega)
  rw[n,r,Bool.or_false]) (by rw[g];simpa using A) ⟨.str ⟨#[c]⟩,H,I.tok _,⟨_,rfl⟩,q⟩) E
def SY(K:l'):R2:=λx y H Q=>Pb K x y H Q\/Pd K x y H Q\/Pc x y H Q
def L9:HJ X (SY X.K):=IS.or (MA.or L_)
def w_(lo c:Option Int)(n:Nat):(sliceBounds lo c none n).1=((HT.dX n 0 lo:Nat):Int)/\(sliceBounds lo c none n).2.1=((HT.dX n n c:Nat):Int)/\(sliceBounds lo c none n).2.2=1:=by
 refine⟨?_,?_,rfl⟩
 ·cases lo with
  |none=>simp[sliceBounds,HT.dX]
  |some i =>
   simp only[sliceBounds,HT.dX,Y1,show(1:Int) > 0 by decide,if_true]
   by_cases h:i<0
   ·simp only[h,if_true]<;>omega
   ·simp only[h,if_false]<;>omega
 ·cases c with
  |none=>simp[sliceBounds,HT.dX]
  |some i =>
   simp only[sliceBounds,HT.dX,Y1,show(1:Int) > 0 by decide,if_true]
   by_cases h:i<0
   ·simp only[h,if_true]<;>omega
   ·simp only[h,if_false]<;>omega
def uK(c:List Value)(lo e:Option Int):Yv c.toArray lo e none=((c.drop (HT.dX c.length 0 lo)).take (HT.dX c.length c.length e - HT.dX c.length 0 lo)).toArray:=by
 obtain⟨f,g,h⟩:=w_ lo e c.toArray.size
 unfold Yv
 rw[f,g,h]
 simp only[sliceRange_one,pick_run,Ti]<;>rfl
def Pf(K:l'):V->Option Int->Option Int->Hp->VK->Prop:=λx lo e H Q=>∃a c,x=.ref a/\cW K H a c/\∀p,H p=none->Q (.ref p) (upd H p (.lst (xc c lo e)))
def CJ:HX X (Pf X.K):=by
 intro i s σ H x v w y lo f z Q I p j l n h
 obtain⟨a,c,rfl,m,q⟩:=h
 cases p
 obtain⟨t,r,g,u⟩:=I.list m
 have e:=r.length
 refine⟨"list",_,Xd.lookup,g.isList.typeIs,?_⟩
 refine wpAny_getItem_list_slice g.isList j l n .none (by simp) ?_ (by rw[Ti]<;>omega)
 rw[uK,<- e]
 refine⟨.ref s.heap.objs.size,_,I.laid (t':=s.toks) (o:=.lst (xc c lo f)) (λb A q=>B' _ q) (S' _) ?_,rfl,q _ (I.au.fresh (S' _))⟩
 exact⟨G' (qO c lo f) u,_,0,(r.drop (HT.dX c.length 0 lo)).take (HT.dX c.length c.length f - HT.dX c.length 0 lo),TN _ rfl⟩
def mX:V->Bool
 |.ae=>true
 |.bl _=>true
 |.int _=>true
 |.str _=>true
 |_=>false
def H_:V->V->Bool
 |.ae,.ae=>true
 |.bl a,.bl b=>a == b
 |.bl a,.int b=>(if a then 1 else 0) == b
 |.int a,.bl b=>a == (if b then 1 else 0)
 |.int a,.int b=>a == b
 |.str a,.str b=>a == b
 |_,_=>false
def Lo(f:RelV y u)(c:RelV x v)(h:mX y=true)(g:mX x=true):aA0 A s u v (H_ y x):=by
 cases y with
 |ae =>
  cases f
  cases x with
  |ae=>cases c;exact aAv _
  |bl b=>cases c;exact aAy b
  |int b=>obtain⟨t,rfl⟩:=c;exact aAx b t
  |str b=>obtain⟨t,rfl⟩:=c;exact aAw b t
  |_=>exact absurd (show false=true from g) Fk
 |bl a =>
  cases f
  cases x with
  |ae=>cases c;exact aB3 a
  |bl b=>cases c;exact Xm a b
  |int b=>obtain⟨t,rfl⟩:=c;exact aB4 a b t
  |str b=>obtain⟨t,rfl⟩:=c;exact aB2 a b t
  |_=>exact absurd (show false=true from g) Fk
 |int a =>
  obtain⟨e,rfl⟩:=f
  cases x with
  |ae=>cases c;exact aAz a e
  |bl b=>cases c;exact aB1 a e b
  |int b=>obtain⟨t,rfl⟩:=c;exact aB0 a e b t
  |str b=>obtain⟨t,rfl⟩:=c;exact Xw a e b t
  |_=>exact absurd (show false=true from g) Fk
 |str a =>
  obtain⟨e,rfl⟩:=f
  cases x with
  |ae=>cases c;exact aAt a e
  |bl b=>cases c;exact aAu a e b
  |int b=>obtain⟨t,rfl⟩:=c;exact Xv a e b t
  |str b=>obtain⟨t,rfl⟩:=c;exact Wq a e b t
  |_=>exact absurd (show false=true from g) Fk
 |_=>exact absurd (show false=true from h) Fk
def z_(x:V)(u:Value):Bool:=match u with
 |.none=>H_ .ae x
 |.bool b=>H_ (.bl b) x
 |.int i _=>H_ (.int i) x
 |.str z _=>H_ (.str z) x
 |_=>false
def Ex(r:RelV y u)(f:mX y=true):z_ x u=H_ y x:=by
 cases y with
 |ae=>cases r;rfl
 |bl b=>cases r;rfl
 |int i=>obtain⟨t,rfl⟩:=r;rfl
 |str z=>obtain⟨t,rfl⟩:=r;rfl
 |_=>exact absurd (show false=true from f) Fk
def ni{x:V}:∀{c:List V} {e:List Value},Vals c e->c.all mX=true->e.any (z_ x)=c.any λy=>H_ y x
 |_,_,.nil,_=>rfl
 |y::c,u::e,.cons r t,f=>by
  rw[V2,Tw] at f
  rw[Ud,Ud,Ex r f.1,ni t f.2]
def lT{A:Around}{s:Shared}{x:V}{v:Value}(i:RelV x v)(h:mX x=true):∀{g:List V} {e:List Value},Vals g e->g.all mX=true->∀u∈e,aA0 A s u v (z_ x u)
 |_,_,.nil,_=>λu c=>by cases c
 |y::g,u::e,.cons r t,f=>λj c=>by
  rw[V2,Tw] at f
  rcases Gc.mp c with rfl|c
  ·rw[Ex r f.1];exact Lo r i f.1 h
  ·exact lT i h t f.2 j c
def HM(x:V)(c:List V):Bool:=c.any λy=>H_ y x
def QY(K:l')(e:Bool):R2:=λx y H Q=>∃p c,y=.ref p/\(cW K H p c\/iN K H p c)/\mX x=true/\c.all mX=true/\Q (.bl (if e then !HM x c else HM x c)) H
def vD:g9 X (compareOp .In) (QY X.K false):=by
 intro l s σ H x y v u Q I j m h
 obtain⟨p,o,rfl,e,i,fs,q⟩:=h
 cases m
 rcases e with e|e
 ·obtain⟨c,r,f,n⟩:=I.list e
  refine ZL (z_ x) f.isList (λw g=>lT j i r fs w (by simpa using g)) ⟨.bl _,H,I,rfl,?_⟩
  rw[show c.toArray.any (z_ x)=c.any (z_ x) by simp,ni r fs]
  exact q
 ·obtain⟨c,r,f,n⟩:=I.tuple e
  refine SeqAt.in_tupleAt (z_ x) f (λw g=>lT j i r fs w (by simpa using g)) ⟨.bl _,H,I,rfl,?_⟩
  rw[show c.toArray.any (z_ x)=c.any (z_ x) by simp,ni r fs]
  exact q
def og:g9 X (compareOp .NotIn) (QY X.K true):=by
 intro l s σ H x y v u Q I j m h
 obtain⟨p,o,rfl,e,i,fs,q⟩:=h
 cases m
 rcases e with e|e
 ·obtain⟨c,r,f,n⟩:=I.list e
  refine SeqAt.notIn_listAt (z_ x) f.isList (λw g=>lT j i r fs w (by simpa using g)) ⟨.bl _,H,I,rfl,?_⟩
  rw[show c.toArray.any (z_ x)=c.any (z_ x) by simp,ni r fs]
  exact q
 ·obtain⟨c,r,f,n⟩:=I.tuple e
  refine SeqAt.notIn_tupleAt (z_ x) f (λw g=>lT j i r fs w (by simpa using g)) ⟨.bl _,H,I,rfl,?_⟩
  rw[show c.toArray.any (z_ x)=c.any (z_ x) by simp,ni r fs]
  exact q
def nq:gH X (.type "list") (λG H Q=>∃p g,G=[.ref p]/\(cW X.K H p g\/iN X.K H p g)/\∀l,H l=none->Q (.ref l) (upd H l (.lst g))):=by
 intro m s σ H G L Q I r h
 obtain⟨p,g,rfl,v,q⟩:=h
 obtain⟨u,rfl,J⟩:=vals1 r
 cases J
 have x:∀(c:List Value),Vals g c->g.length<=sizeLine->∀(f:Heap) (i:Nat),(∀b F,s.heap.get? b=some F->f.get? b=some F) ->
   f.get? s.heap.objs.size=some { cls:=.type "list",dict:=none,data:=.seq c.toArray i,slots:=#[] }->EP X m σ Q (.ref s.heap.objs.size) { s with heap:=f }:=λc j z f i t e =>
  ⟨.ref s.heap.objs.size,_,I.laid (t':=s.toks) t (S' _) (show aO X.prog X.w _ f _ (.lst g) from⟨z,c,i,j,e⟩),rfl,q _ (I.au.fresh (S' _))⟩
 rcases v with v|v
 ·obtain⟨c,j,A,z⟩:=I.list v
  have y:=j.length
  obtain⟨o,E,B,n,C⟩:=A.isList
  exact aAp p (.inl rfl) E B C (λf i t e=>x c j z f i t e) (by simp only[Ti]<;>omega)
 ·obtain⟨c,j,A,z⟩:=I.tuple v
  have y:=j.length
  obtain⟨o,E,B,n,C⟩:=A
  exact aAp p (.inr rfl) E B C (λf i t e=>x c j z f i t e) (by simp only[Ti]<;>omega)
def uD:gH X (.type "tuple") (λt H Q=>∃p g,t=[.ref p]/\((cW X.K H p g/\∀l,H l=none->Q (.ref l) (upd H l (.tup g)))\/(iN X.K H p g/\Q (.ref p) H))):=by
 intro c s σ H t C Q I r h
 obtain⟨p,g,rfl,h⟩:=h
 obtain⟨u,rfl,A⟩:=vals1 r
 cases A
 rcases h with⟨n,q⟩|⟨n,q⟩
 ·obtain⟨f,m,j,y⟩:=I.list n
  have x:=m.length
  refine call_tuple_list j.isList (λi B=>?_) (by simp only[Ti]<;>omega)
  have v:Inv X c σ H { s with heap:=i }:=I.kept (t':=s.toks) B
  have z:Inv X c σ (upd H i.objs.size (.tup g)) { s with heap:=i.push { cls:=.type "tuple",data:=.seq f.toArray }} :=
   v.laid (t':=s.toks) (λb o e=>B' _ e) (S' _) (show aO X.prog X.w _ _ _ (.tup g) from⟨y,f,m,Y_ _ _⟩)
  exact⟨.ref i.objs.size,_,z,rfl,q _ (v.au.fresh (S' _))⟩
 ·obtain⟨f,m,j,y⟩:=I.tuple n
  exact call_tuple_same j ⟨.ref p,H,I,rfl,q⟩
def Rr(K:l')(T:String)(x:V)(H:Hp):Prop:=match x with
 |.str _=>T="str"
 |.int _=>T="int"
 |.ref p=>(T="list"/\∃e,cW K H p e)\/(T="tuple"/\∃o,K.lookup p=some o/\o.cls=.type "tuple"/\o.dict=none) \/
   (T="dict"/\((∃c,H p=some (.dK c))\/∃c,H p=some (.dT c)))\/(T="set"/\∃S n,H p=some (.set S n))
 |_=>False
def G_{σ:St}(I:Inv X h σ H s)(r:RelV x v)(j:Rr X.K T x H) :
  s.TypeIs v T/\∀a,v=.ref a->∃y,s.heap.get? a=some y/\y.dict=none:=by
 cases x with
 |str z =>
  obtain⟨t,rfl⟩:=r
  cases(show T="str" from j)
  exact⟨typeIs_str s z t,λ_ e=>nomatch e⟩
 |int i =>
  obtain⟨t,rfl⟩:=r
  cases(show T="int" from j)
  exact⟨typeIs_int s i t,λ_ e=>nomatch e⟩
 |ref p =>
  cases r
  rcases j with⟨rfl,E,B⟩|⟨rfl,o,f,A,u⟩|⟨rfl,f⟩|⟨rfl,S,n,f⟩
  ·obtain⟨C,_,w,_⟩:=I.list B
   refine⟨w.isList.typeIs,λa e=>?_⟩
   cases e
   obtain⟨o,n,e,c,u,_⟩:=w
   exact⟨o,e,u⟩
  ·refine⟨⟨o,I.lQ p o f,A⟩,λa e=>?_⟩
   cases e
   exact⟨o,I.lQ _ o f,u⟩
  ·have z:∃o,s.heap.get? p=some o/\o.ExactDict:=by
    rcases f with⟨l,f⟩|⟨l,f⟩
    ·obtain⟨_,_,_,_,o,_,_,e,g,_⟩:=I.au p _ f
     exact⟨o,e,g⟩
    ·obtain⟨_,_,_,_,o,_,_,e,g,_⟩:=I.au p _ f
     exact⟨o,e,g⟩
   obtain⟨o,e,g⟩:=z
   refine⟨⟨o,e,g.1⟩,λa m=>?_⟩
   cases m
   exact⟨o,e,g.2.1⟩
  ·obtain⟨o,_,_,_,e,g,_⟩:=I.au p _ f
   refine⟨⟨o,e,g.1⟩,λa m=>?_⟩
   cases m
   exact⟨o,e,g.2.1⟩
 |_=>exact UI j
def Rc(K:l')(T:String)(r:V->List V->Hp->VK->Prop)(e:TE):TE:=λσ H Q=>e σ H λx c=>Rr K T x c/\r x [] c Q
def S4(K:l')(T:String)(r:V->List V->Hp->VK->Prop)(f:TE)(t:TA):TE:=λσ H Q=>f σ H λx c=>Rr K T x c/\t σ c λg e=>r x g e Q
variable {o e:Expr}{es:List Expr}{to:TE}{t:TA}{name:Str}{apos cpos:Pos}{T id:String}{r:V->List V->Hp->VK->Prop}
def Mt(y:PlainAttrs T)(i:Slot T name id)(j:typeOf (.builtin id)=pure (.type "method_descriptor"))(z:N2 X id r)(n:PE X o to)
  (f:autoParam (UZ o name X.env (eval o X.env)=eval o X.env) dI)(g:autoParam ((apos.endLine == cpos.line)=true) dI):PE X (.Call (.Attribute o name apos) [] [] cpos) (Rc X.K T r to):=by
 intro c s σ H Q I h
 refine wpAny_Call_method0_late f g (bg (n c s σ H _ I h) ?_);rintro v u ⟨x,p,m,l,w,A⟩
 obtain⟨B,C⟩:=G_ m l w
 exact⟨T,id,y,i,j,B,C,X5 rfl (PySem.evalArgs_none (z c u σ p x [] v [] Q m l .nil A))⟩
def sS(C:PlainAttrs T)(l:Slot T name id)(m:typeOf (.builtin id)=pure (.type "method_descriptor"))(F:N2 X id r)(O:PE X o to)(S:PA X (e::es) t)
  (i:autoParam (UZ o name X.env (eval o X.env)=eval o X.env) dI)
  (j:autoParam (((backTo cpos (starEach (e::es) X.env)).all (λx=>!x.1)&&(backToKw cpos (keywordEach [] X.env)).all (λx=>x.1.isSome)
   && decide ((e::es).length+([]:List VN).length+(if([]:List VN).isEmpty then 0 else 1)<30))=true) dI)
  (g:autoParam ((apos.endLine == cpos.line)=true) dI)(A:autoParam (starEach (e::es) X.env=(false,eval e X.env)::starEach es X.env) dI)(f:autoParam ((backTo cpos (starEach es X.env)).any (·.1)=false) dI) :
  PE X (.Call (.Attribute o name apos) (e::es) [] cpos) (S4 X.K T r to t):=by
 intro c s σ H Q I h
 refine wpAny_Call_method_late i j g rfl (bg (O c s σ H _ I h) ?_);rintro v U ⟨x,E,p,n,y,G⟩
 obtain⟨L,R⟩:=G_ p n y
 refine⟨T,id,C,l,m,L,R,?_⟩
 have u:=S cpos c U σ E _ p G
 rw[A] at u ⊢
 refine X5 (by show(false||(backTo cpos (starEach es X.env)).any (·.1))=false;rw[f]<;>rfl) (Calls.evalArgs_plain ?_)
 exact bg u fun M z ⟨w,P,B,N,J⟩=>F c z σ P x w v M Q B n N J
end
def N1(X:Cx)(id:String)(r:V->List V->Hp->VK->Prop):Prop :=
 ∀(a:List (Addr × Obj)) (s:Shared) (σ:St) (H:Hp) (x:V) (xs:List V) (v:Value) (us:List Value) (Q:VK),Inv X a σ H s->RelV x v->Vals xs us->r x xs H Q ->
  wpAny (model X.prog X.w) X.A (call (.builtin id) (v::us)) (EP X a σ Q) X.xe s
def Vals.one:∀{x:V} {us:List Value},Vals [x] us->∃u,us=[u]/\RelV x u
 |_,_,.cons r .nil=>⟨_,rfl,r⟩
def Vals.zero:∀{us:List Value},Vals [] us->us=[]
 |_,.nil=>rfl
def Vals.eraseIdx:∀{xs:List V} {us:List Value} (i:Nat),Vals xs us->Vals (xs.eraseIdx i) (us.eraseIdx i)
 |_,_,_,.nil=>.nil
 |_,_,0,.cons _ t=>t
 |_,_,i+1,.cons r t=>.cons r (Vals.eraseIdx i t)
def Vals.reverse(h:Vals b a):Vals b.reverse a.reverse:=by
 induction h with
 |nil=>exact .nil
 |cons r t c=>rw[VS,VS];exact Vals.append c (.cons r .nil)
def Vals.rep(h:Vals b a):∀k:Nat,Vals (T_ k b).flatten (T_ k a).flatten
 | 0=>.nil
 |k+1=>by
  rw[U5,U5,VT,VT]
  exact Vals.append h (Vals.rep h k)
def foldl_rep(a:List Value):∀(k:Nat) (b:List Value),
  Y3 (λg f=>g++f) b.toArray (T_ k a.toArray)=(b++(T_ k a).flatten).toArray
 | 0,b=>by simp
 |k+1,b=>by
  have e:b.toArray++a.toArray=(b++a).toArray:=by simp
  have c:(b++a)++(T_ k a).flatten=b++(T_ (k+1) a).flatten:=by
   rw[U5,VT,US]
  rw[<- c,<- foldl_rep a k (b++a),<- e,U5,V9]
section
variable {X:Cx}{pins:List (Addr × Obj)}{σ:St}{H:Hp}{s:Shared}{l b:Addr}{xs ys zs:List V}
def Inv.Ih{a its':List Value}(I:Inv X pins σ H s)(h:H l=some (.lst xs))
  (e:s.heap.get? l=some { cls:=.type "list",data:=.seq a.toArray n })(c:f a.toArray=its'.toArray)(g:Vals ys its')(o:ys.length<=sizeLine) :
  Inv X pins σ (upd H l (.lst ys)) { s with heap:=s.heap.update l (aAk f),toks:=m }:=by
 have q:=aB9 e f
 rw[c] at q
 refine I.write (x:=l) (e:=l) (by rw[h];exact trivial) (.inl rfl) (λp u j i=>(T6 s.heap (aAk f) (VG j)).trans i) ⟨_,q⟩ ?_
 exact⟨o,its',_,g,q⟩
def Inv.Om(I:Inv X pins σ H s)(c:Vals ys a)(e:ys.length<=sizeLine) :
  Inv X pins σ (upd H s.heap.objs.size (.lst ys)) { s with heap:=s.heap.push { cls:=.type "list",data:=.seq a.toArray },toks:=t' } :=
 I.laid (λ_ _ q=>B' _ q) (S' _) ⟨e,a,0,c,TN _ rfl⟩
def Inv.fresh(I:Inv X pins σ H s):H s.heap.objs.size=none:=I.au.fresh (S' _)
def Inv.DP(I:Inv X pins σ H s)(c:H l=some (.lst xs)):xs.length<=sizeLine/\∃(a:List Value) (n:Nat),Vals xs a/\xs.length=a.length/\s.heap.get? l=some { cls:=.type "list",data:=.seq a.toArray n }:=by
 obtain⟨z,a,n,r,e⟩:=I.au l _ c
 exact⟨z,a,n,r,r.length,e⟩
def yr(h:n<=sizeLine):VV n=false:=by
 unfold VV
 exact decide_eq_false (by omega)
end
section
variable {X:Cx}
def Jh:V->List V->Hp->VK->Prop:=λx b H Q=>∃l a y,x=.ref l/\b=[y]/\H l=some (.lst a)/\a.length<sizeLine/\Q .ae (upd H l (.lst (a++[y])))
def ux:N1 X "list.append" Jh:=by
 intro c s σ H x j v p Q I f g h
 obtain⟨l,o,y,rfl,rfl,b,t,q⟩:=h
 cases f
 obtain⟨u,rfl,i⟩:=g.one
 obtain⟨z,a,n,r,m,e⟩:=I.DP b
 refine call_meets YQ ⟨_,e,rfl⟩ F.entry_list_append (F.args_list_append_2 _ _) (PySem.list_append l a.toArray n u (by rw[Ti];omega)) ⟨e,?_⟩
 refine⟨.ae,_,I.Ih (its':=a++[u]) b e (by simp) (r.append (.cons i .nil)) ?_,rfl,q⟩
 rw[TY,List.length_singleton]
 omega
def Jj:V->List V->Hp->VK->Prop:=λx e H Q=>∃l b c a,x=.ref l/\e=[.ref b]/\H l=some (.lst c)/\H b=some (.lst a)/\c.length+a.length<=sizeLine/\Q .ae (upd H l (.lst (c++a)))
def DU:N1 X "list.extend" Jj:=by
 intro i s σ H x C v L Q I A p h
 obtain⟨l,b,G,M,rfl,rfl,j,o,N,q⟩:=h
 cases A
 obtain⟨u,rfl,t⟩:=p.one
 cases t
 obtain⟨z,c,n,r,E,e⟩:=I.DP j
 obtain⟨J,a,B,y,m,w⟩:=I.DP o
 have g:c.toArray.size+a.toArray.size<=sizeLine:=by rw[Ti,Ti];omega
 have f:¬ (!c.toArray.isEmpty&&VV (c.toArray.size+a.toArray.size))=true:=by
  rw[yr g,Bool.and_false]
  exact Fk
 refine call_meets YO ⟨_,e,rfl⟩ F.entry_list_extend (F.args_list_extend_2 _ _)
  (AutoSeq1.list_extend_list_list_0 l c.toArray n b a.toArray B f (by rw[Ti];omega) (by omega)) ⟨e,w,?_⟩
 refine⟨.ae,_,I.Ih (its':=c++a) j e (by simp) (r.append y) ?_,rfl,q⟩
 rw[TY]
 omega
def GV:V->List V->Hp->VK->Prop:=λx b H Q=>∃l a,x=.ref l/\b=[]/\H l=some (.lst a)/\Q .ae (upd H l (.lst a.reverse))
def Aa:N1 X "list.reverse" GV:=by
 intro f s σ H x j v o Q I g i h
 obtain⟨l,p,rfl,rfl,c,q⟩:=h
 cases g
 have b:=i.zero
 subst b
 obtain⟨z,a,n,r,m,e⟩:=I.DP c
 refine call_meets X_ ⟨_,e,rfl⟩ F.entry_list_reverse (F.args_list_reverse_1 _) (AutoSeq1.list_reverse_list_0 l a.toArray n (by rw[Ti];omega)) ⟨e,?_⟩
 refine⟨.ae,_,I.Ih (its':=a.reverse) c e (by simp) r.reverse ?_,rfl,q⟩
 rw[WB]
 omega
def RS:R2:=λx y H Q=>∃l k a,x=.ref l/\y=.int k/\H l=some (.lst a)/\-(2 ^ 63)<=k/\k<2 ^ 63/\a.length*k.toNat<=sizeLine /\
 ∀p,H p=none->Q (.ref p) (upd H p (.lst (T_ k.toNat a).flatten))
def len_rep{α:Type}(a:List α)(k:Nat):(T_ k a).flatten.length=k*a.length:=by
 induction k with
 |zero=>simp
 |succ k b=>rw[U5,VT,TY,b,YS,aAI]
def Mn:g9 X (binaryOp .Mult) RS:=by
 intro w s σ H x y v u Q I M C h
 obtain⟨l,k,P,rfl,rfl,G,J,N,A,q⟩:=h
 cases M
 obtain⟨t,rfl⟩:=C
 obtain⟨z,b,n,r,E,e⟩:=I.DP G
 have g:b.toArray.size*k.toNat<=sizeLine:=by rw[Ti,<- E];exact A
 have f:¬ b.toArray.size*k.toNat > (2 ^ 63 - 1) / 8:=by
  have:(sizeLine:Nat)<=(2 ^ 63 - 1) / 8:=by decide
  omega
 have i:¬ (!aAc k)=true:=by
  rw[fitsIndex_both J N]
  exact Fk
 have c:¬ VV (b.toArray.size*k.toNat)=true:=by
  rw[yr g]
  exact Fk
 have j:Y3 (λp o=>p++o) #[] (T_ (if b.toArray.isEmpty=true then 0 else k.toNat) b.toArray)=(T_ k.toNat b).flatten.toArray:=by
  have L:∀m:Nat,Y3 (λp o=>p++o) #[] (T_ m b.toArray)=(T_ m b).flatten.toArray:=λm=>by
   have:=foldl_rep b m []
   rw[Wo] at this
   exact this
  rw[L]
  cases b with
  |nil=>simp
  |cons a O=>rw[if_neg (by simp)]
 refine wpAny_binaryOp_repeat_ref (T:="list") (U:="int") (by decide) ⟨_,e,rfl⟩ (λB=>typeIs_int B k t) noFill_list_mul F.fills_int_mul Z5 repeat_list F.slot_int_index.lookup
  (call_meets Z5 (typeIs_int s k t) F.entry_int_rmul (F.args_int_rmul_2 _ _) (int___rmul___int_list k t l b.toArray n)
   ⟨e,rfl,⟨_,e,rfl⟩,call_meets F.slot_list_mul ⟨_,e,rfl⟩ F.entry_list_mul (F.args_list_mul_2 _ _) (aBB l b.toArray n k t i f c) ⟨e,?_⟩⟩)
 rw[j]
 exact⟨.ref _,_,I.Om (t':=s.toks) (r.rep k.toNat) (by rw[len_rep,Nat.mul_comm];exact A),rfl,q _ I.fresh⟩
end
end L2
namespace R_
open PySem PySem.W PySem.Calls PyProof.Rows
def qq :∀(ns:List Int) (c:List Value),WellAll P h c (ns.map aAN)->IntsAre c ns:=by
 intro ns
 induction ns with
 |nil =>
  intro c w
  rw[T'] at w
  cases w
  exact .nil
 |cons n ns e =>
  intro c w
  rw[TM] at w
  cases w with
  |cons a b =>
   cases a
   exact .cons _ _ (e _ b)
def Dn{l:WV}(u:l.most=some n)
  (c:l.row.toRowW.claim.pre args=true)(m:WellAll P h e args) :
  ∃a p b,e=[Td a]/\args=[WData.list (b.map aAN)]/\h.get? a=some { cls:=.type "list",data:=.seq p.toArray }/\IntsAre p b/\b.length<=n:=by
 have o:WShape.hasAll [] args [.list .int]=true:=(pre_splitW c).1
 have s:l.pre.holds [] { args:=args }=true:=(pre_splitW c).2
 obtain⟨d,r,rfl,x,z⟩:=hasAllW_cons o
 obtain rfl:=hasAllW_nil z
 obtain⟨B,rfl,A⟩:=hasW_list x
 obtain⟨b,rfl⟩:=items_int A
 have g:b.length<=n:=by
  unfold OpenLaw.pre at s
  have j:(WTm.not (.lt (.lit (.int (n:Int))) (.len (.arg 0)))).holds [] { args:=[.list (b.map .int)] }=true:=by
   have j:=(holds_andW s).1
   rw[u] at j
   exact j
  have i:=condW_of j (w_not (w_lt w_lit (w_len_list (w_arg rfl))))
  rw[tz] at i
  refine Nat.le_of_not_lt λq=>?_
  have w:(n:Int)<((b.length:Nat):Int):=by omega
  first
   | (rw[decide_eq_true w] at i;exact absurd i (by decide))
   | (simp at i;omega)
 cases m with
 |cons v t =>
  cases t
  cases v with
  |list y f=>exact⟨_,_,b,rfl,rfl,y,qq b _ f,g⟩
def Dk(l:WV)(args:List WData):l.row.toRowW.claim.post args (.bool true) args=true :=
 postW_of (r:=l.row.toRowW) (X:=(true == true))
  (show Z0 [] (.bool true) .bool=true by first|rfl|decide|simp[Z0,WShape.arms,WShape.armsAll])
  (show(WTm.eq .res (.lit (.bool true))).value [] { args:=args,res:=some (.bool true),after:=args }=some (.bool (true == true)) from w_eq_bool (w_res rfl) w_lit) rfl
def xW{l:WV}
  (O:l.most=some n)(A:d.params.defaults=[])
  (call:∀(w:World) (C b:Shared) (u y:Str->Option Value) (j:Addr) (o:Obj) (z cd g:Value) (a:Addr) (h:List Value) (t:List Int),
   Ground q c [] E w C u y b.heap->H w b.heap ->
   b.heap.get? j=some o->o.data=.func (docDef d.name d.params d.body d.scope z cd g)->b.heap.CodeRec cd d.name->u d.name=some (.ref j) ->
   b.heap.get? a=some { cls:=.type "list",data:=.seq h.toArray }->IntsAre h t->t.length<=n->b.gens=#[] ->
   VQ (model l.prog w) Xf (.call (.ref j) ⟨[.ref a],[]⟩) (λr s=>r=.ok (.ret (.bool true))/\OldK b.heap s.heap/\s.os=b.os/\Wk s.gens) b) :
  WalkO q c E H l.row.toRowW d [] (λf h=>Yk f h):=by
 intro w C b u y G Y j o z cd g P kV W T B J x N I L as i F R v M
 obtain rfl:P=.none:=Dflts.none J A
 obtain rfl:kV=.none:=Dflts.noKw J
 obtain⟨a,h,t,rfl,rfl,m,e,p⟩:=Dn O i v
 refine enter_call (codeAny_mono (call w C b u y j o z cd g a h t G Y W (fd_plain T) B x m e p N) λr s Q=>?_)
 obtain⟨rfl,X,Z,U⟩:=Q
 exact⟨.inl ⟨.bool true,.bool true,[],rfl,λ_=>rfl,.bool true,Dk l _,λ_=>⟨aAJ,λ_ S=>(nomatch S)⟩⟩,X,Z,U⟩
end R_
namespace L2
def vU:∀{vs:List Value} {a:List Int},IntsAre vs a->Vals (a.map V.int) vs
 |_,_,.nil=>.nil
 |_,_,.cons n t h=>.cons ⟨t,rfl⟩ (vU h)
def LF(H:Hp):Prop:=∀b,H b=none\/∃o xs,H b=some (.eu o (.lst xs))
def FP{K:l'}
  (KX:K.In c.heap)(N:c.heap.Ns TZ L)(g:c.heap.Ns Zp T)(R:∀x:Str,x≠"__name__"->T x=UR x)(I:c.heap.NoLimit)(hg:c.gens=#[])
  (Q:c.heap.get? a=some { cls:=.type "list",data:=.seq t.toArray })(hi:IntsAre t J)(hl:J.length<=sizeLine)(hr:bZ k Xf)
  (F:∀i:Heap,K.In i->i.Ns TZ L->cE P w K L i CX k U fd [x] Z)(y:∀(s:Shared) (u:Value),BindsTo s fd ⟨[u],[]⟩ [(x,u)])
  (S:∀H:Hp,LF H->cW K H a (J.map V.int)->Z [.ref a] H (λv _=>v=.bl true) λ_ _ _=>False)
  (Y:∀H e j,CX [] H c (λ_ _ _=>False) e j->False) :
  VQ (model P w) Xf (.call (.ref U) ⟨[.ref a],[]⟩) (λr j=>r=.ok (.ret (.bool true))/\OldK c.heap j.heap/\j.os=c.os/\Wk j.gens) c:=by
 have rv:=vU hi
 have B:=hi.length
 -- from an abstract heap in which nothing but the script may be tracked
 have p:∀H:Hp,LF H->cW K H a (J.map V.int)->dz P w H c.heap->(∀b,H b≠none->b=a)->(H a≠none->K.lookup a=none) ->
   VQ (model P w) Xf (.call (.ref U) ⟨[.ref a],[]⟩) (λr j=>r=.ok (.ret (.bool true))/\OldK c.heap j.heap/\j.os=c.os/\Wk j.gens) c:=by
  intro H hO hS au hA hK
  have f:∀{b:Addr} {o:Obj},c.heap.get? b=some o->H b=none->(wB c.heap H).get? b=some o:=λe n=>FC e n
  have W:∀{b:Addr} {o:Obj} {G:Array Vr} {O:Nat},c.heap.get? b=some o->o.data=.dict G O->H b=none:=fun{b o G O} e d=>by
   cases q:H b with
   |none=>rfl
   |some u =>
    have X:b=a:=hA b (by rw[q];simp)
    subst X
    rw[Q] at e;cases e
    have d':Ya t.toArray _=Data.dict G O:=d
    cases d'
  have l:∀{b:Addr} {m:Str->Option Value},c.heap.Ns b m->(wB c.heap H).Ns b m:=fun{b m} ⟨o,G,O,e,d,r⟩=>⟨o,G,O,f e (W e d),d,r⟩
  have E:K.In (wB c.heap H):=λb o e=>f (KX b o e) (by
   cases q:H b with
   |none=>rfl
   |some u =>
    have X:b=a:=hA b (by rw[q];simp)
    subst X
    rw[hK (by rw[q];simp)] at e;cases e)
  have hM:Mod K L (wB c.heap H):=⟨E,l N,⟨T,l g,R⟩,let ⟨mc,h1,h2⟩:=I;⟨mc,l h1,h2⟩⟩
  have e0:qj P w K L (wB c.heap H) Xf [] c H:=⟨rfl,hM,λb o e=>JA e,YV (C9 _ _),trivial,λb g=>absurd (show b∈([]:List Addr) from g) (by simp),au,.of_eq hg⟩
  refine codeAny_mono ((F _ E (l N)).run Xf [] c H ⟨[.ref a],[]⟩ [.ref a] [.ref a] _ _ hr e0 (y c (.ref a)) (.cons rfl .nil) (S H hO hS)) λr j h=>?_
  cases r with
  |error e=>exact(Y H e j h).elim
  |ok fl =>
   cases fl with
   |next=>exact UI h
   |brk=>exact UI h
   |cont=>exact UI h
   |ret u =>
    obtain⟨v,H',os,C,un,A,r',q⟩:=h
    have q':v=.bl true:=q
    subst q'
    obtain rfl:u=Vu true:=r'
    refine⟨rfl,OldK.of_keep λb o e=>?_,os,C⟩
    cases q:H b with
    |none=>exact un.keep b o e q (by intro z;exact absurd (show b∈([]:List Addr) from z) (by simp)) (by simp)
    |some u =>
     rcases hO b with z|⟨ob,xs,z⟩
     ·rw[q] at z;cases z
     ·have z2:=un.dZ b ob _ z
      obtain⟨e1,_⟩:=au b _ z
      obtain⟨e2,_⟩:=A b _ z2
      rw[e] at e1;cases e1
      exact e2
 cases hk:K.lookup a with
 |some o =>
  -- the script is one of the module's own objects
  have e:=KX a o hk
  rw[Q] at e
  cases e
  refine p (λ_=>none) (λ_=>.inl rfl) (.inr ⟨_,t.toArray,_,hk,rfl,rfl,rfl,by rw[Ti,B];exact hl,by simpa using rv⟩) (λb u z=>by have M:(none:Option HO)=some u:=z;cases M) (λb z=>absurd rfl z) λz=>absurd rfl z
 |none =>
  refine p (λb=>if b=a then some (.eu { cls:=.type "list",data:=.seq t.toArray } (.lst (J.map V.int))) else none) (λb=>?_) (.inl (.inr ⟨{ cls:=.type "list",data:=.seq t.toArray },if_pos rfl⟩)) (λb u z=>?_) (λb z=>?_) λ_=>hk
  ·by_cases g:b=a
   ·exact .inr ⟨_,_,if_pos g⟩
   ·exact .inl (if_neg g)
  ·by_cases g:b=a
   ·have M:=(if_pos g).symm.trans z
    cases M
    subst g
    exact⟨Q,by rw[tz];exact hl,t,_,rv,Q⟩
   ·have M:=(if_neg g).symm.trans z
    cases M
  ·by_cases g:b=a
   ·exact g
   ·exact absurd (if_neg g) z
def KA{l:WV}{K:Params->l'}{CX:World->zf}{sp:World->Sp}
  (P:l.most=some n)(I:n<=sizeLine)(E:d.params.defaults=[])(Z:bZ k Xf)
  (U:∀(w:World) (h:Heap),N w h->(K w.params).In h)
  (F:∀(w:World) (p:Str->Option Value) (t:Addr) (h:Heap),(K w.params).In h->h.Ns TZ p->p d.name=some (.ref t) ->
   ∃C:UE,(∀(s:Shared) (u:Value),BindsTo s C ⟨[u],[]⟩ [(x,u)]) /\
    ∀c:Heap,(K w.params).In c->c.Ns TZ p->cE l.prog w (K w.params) p c (CX w) k t C [x] (sp w))
  (A:∀(w:World) (H:Hp) (a:Addr) (y:List Int),y.length<=n->LF H->cW (K w.params) H a (y.map V.int)->sp w [.ref a] H (λv _=>v=.bl true) λ_ _ _=>False)
  (J:∀(w:World) (H:Hp) (s:Shared) (e:Value) (B:Shared),CX w [] H s (λ_ _ _=>False) e B->False) :
  ZK q m Q N l.row.toRowW d [] (λf L=>Yk f L):=by
 refine R_.xW P E λw s₀ R p mb t o pm cd doc a L y G Y ho hd hcd z r j i O=>?_
 have M:=U w _ Y
 obtain⟨C,hb,S⟩:=F w p t _ M G.T.g z
 exact FP M G.T.g G.T.b G.T.builtins G.T.nolimit O r j (G' i I) Z S hb (λH W X=>A w H a y i W X) λH e B=>J w H R e B
def cJ(s:Stmt):Arguments:=match s with
 |.FunctionDef _ a _ _ _ _ _ _ _ _=>a
 |_=>{ posonlyargs:=[],args:=[],vararg:=none,kwonlyargs:=[],kw_defaults:=[],kwarg:=none,defaults:=[] }
def af(s:Stmt):List Stmt:=match s with
 |.FunctionDef _ _ b _ _ _ _ _ _ _=>b
 |_=>[]
def aB(s:Stmt):Scope:=match s with
 |.FunctionDef _ _ _ _ _ _ a _ _ _=>a
 |_=>{ kind:=.function,names:=[],isGenerator:=false,isCoroutine:=false }
abbrev nY:zf:=λ_ _ _ _ _ _=>False
abbrev E0:XK:=λ_ _ _=>False
def sR :Passes nY X E0:=λ_ _ _ _ _ _ _ h=>h.elim
structure xO (K:l') (x qual:Str) (st:Stmt) (f:Addr) (fd:UE):Prop where
 ex:∃(oc:Value) (od:Option Addr) (kV doc pm:Value) (an:Option Addr) (cdv ct:Value) (osl:Array (Option Value)),
  fd=fnOf x qual (cJ st) (af st) (aB st) .none kV doc pm an cdv ct/\K.lookup f=some ⟨oc,od,.func fd,osl⟩/\codeIn K cdv qual=true
 kp:keepIn K (.ref f)=true
def xO.ok{K:l'}{st:Stmt}(F:xO K x a st f m)(S:aD N j (aB st))(l:∀vs H Q E,sp vs H Q E->vs.length=j.length)
  (c:∀(b:Value) (A:Around) (outer:List Env) (s:Shared) (H:Hp) (vs:List V) (Q:VK) (E:XK),bZ k (A.deeper (envOfC a (aB st) s.heap.objs.size f b))->sp vs H Q E ->
   ∃t,kq (n9 nY P w K p e N a (aB st) f b A outer s H E).Mb (af st) t/\t { nx:=λ_ u=>Q .ae u,rt:=Q } (start N vs) H):cE P w K p e nY (k+1) f m j sp:=by
 obtain⟨y,G,kV,v,z,B,b,C,r,rfl,n,i⟩:=F.ex
 refine Be n i S l λA outer s H vs Q E o g=>?_
 obtain⟨t,h,q⟩:=c b A outer s H vs Q E o g
 exact⟨t,h.Mb,q⟩
def xO.binds{K:l'}{st:Stmt}(F:xO K x a st f m)
  (h:∀(kV c e:Value) (g:Option Addr) (b j:Value) (i:List Value),i.length=l.length->aAi (fnOf x a (cJ st) (af st) (aB st) .none kV c e g b j) ⟨i,[]⟩=pure (l.zip i)):Binds K m l []:=by
 obtain⟨r,s,kV,c,e,g,b,j,n,rfl,p,o⟩:=F.ex
 exact .all (h kV c e g b j)
def j_{K:l'}{st:Stmt}{kV e h b j:Value}(l:K.lookup f=some ⟨m,n,.func (fnOf x a (cJ st) (af st) (aB st) .none kV e h i b j),g⟩)
  (c:codeIn K b a=true)(k:keepIn K (.ref f)=true):xO K x a st f (fnOf x a (cJ st) (af st) (aB st) .none kV e h i b j):=⟨⟨m,n,kV,e,h,i,b,j,g,rfl,l,c⟩,k⟩
def Dq(h:n<=1000):n<sizeLine:=Tc h (by decide)
def pv{X:Cx}{a:Pos}(i:Nat)(c:autoParam (X.N[i]?=some x) dI)(e:Cb X.env.scope x:=by first|exact TQ rfl|exact Wc (TQ rfl)|exact Wc (Wc rfl))(f:autoParam ((x == ("__debug__":Str))=false) e7)
  (b:autoParam ((x == ("__classdict__":Str))=false) e7):PE X (.Name x a) (NW i):=kL c e f b
def aU{A B:Prop}(h:B):if false=true then A else B:=by
 rw[if_neg Fk]
 exact h
def aq{A B:Prop}(h:A):if true=true then A else B:=by
 rw[if_pos rfl]
 exact h
def aH(H a:Hp):Prop:=∀b o,H b=some o->a b=some o
def aH.refl(H:Hp):aH H H:=λ_ _ h=>h
def aH.trans(a:aH H f)(b:aH f e):aH H e:=λc o h=>b c o (a c o h)
def aH.free(e:aH H a)(h:a l=YB):H l=Option.none:=by
 cases q:H l with
 |none=>rfl
 |some o =>
  rw[e l o q] at h
  cases h
def aH.seq{K:l'}(e:aH H b)(h:cW K H a xs):cW K b a xs:=by
 rcases h with(h|⟨o,h⟩)|h
 ·exact .inl (.inl (e _ _ h))
 ·exact .inl (.inr ⟨o,e _ _ h⟩)
 ·exact .inr h
section
variable {κ:Type} [DecidableEq κ]
def pI(a:List (κ × V))(k:κ):Option V:=(a.find? λb=>decide (b.1=k)).map (·.2)
def putK(a:List (κ × V))(k:κ)(v:V):List (κ × V) :=
 if(a.any λb=>decide (b.1=k))=true then a.map (λb=>if b.1=k then(b.1,v) else b) else a++[(k,v)]
def tU{k:κ}(e:p.1=k):pI (p::r) k=some p.2:=by simp[pI,UK,e]
def tT{k:κ}(e:¬ p.1=k):pI (p::r) k=pI r k:=by simp[pI,UK,e]
def zU(k:κ):∀a:List (κ × V),(a.any λb=>decide (b.1=k))=(pI a k).isSome
 |[]=>rfl
 |p::r=>by
  rw[Ud]
  by_cases e:p.1=k
  ·simp only[tU e,decide_eq_true e,Bool.true_or,Option.isSome_some]
  ·rw[tT e,decide_eq_false e,Bool.false_or];exact zU k r
def qT(a:List (κ × V))(k:κ)(v:V):(putK a k v).length<=a.length+1:=by
 unfold putK
 split
 ·rw[tz];omega
 ·rw[TY,Tg,Tz];omega
def gJ.iw(r:gJ o u):o.isSome=u.isSome:=by
 cases o with
 |none=>cases u with
  |none=>rfl
  |some _=>exact(show False from r).elim
 |some _=>cases u with
  |none=>exact(show False from r).elim
  |some _=>rfl
def KV.val(r:KV a g)(k:κ):gJ (pI a k) (valueAt g k):=by
 unfold KV at r
 induction r with
 |nil=>exact T9
 | @cons p q m f h t j =>
  obtain⟨i,l⟩:=h
  by_cases e:p.1=k
  ·have c:q.1=k:=i.symm.trans e
   have b:valueAt (q::f) k=some q.2:=by simp[valueAt,UK,c]
   rw[tU e,b];exact l
  ·have c:¬ q.1=k:=λz=>e (i.trans z)
   have b:valueAt (q::f) k=valueAt f k:=by simp[valueAt,UK,c]
   rw[tT e,b];exact j
def KV.any(r:KV a c)(k:κ):(a.any λb=>decide (b.1=k))=c.any λb=>decide (b.1=k):=by
 unfold KV at r
 induction r with
 |nil=>rfl
 |cons h t e=>rw[Ud,Ud,e,h.1]
def KV.NF(r:KV b f)(k:κ)(g:RelV y u) :
  KV (b.map λa=>if a.1=k then(a.1,y) else a) (f.map λa=>if a.1=k then(a.1,u) else a):=by
 unfold KV at r ⊢
 induction r with
 |nil=>exact .nil
 | @cons p q m l h t i =>
  rw[TM,TM]
  refine .cons ?_ i
  obtain⟨c,j⟩:=h
  by_cases e:p.1=k
  ·rw[if_pos e,if_pos (c.symm.trans e)];exact⟨c,g⟩
  ·rw[if_neg e,if_neg (λz=>e (c.trans z))];exact⟨c,j⟩
def KV.put(r:KV a b)(k:κ)(c:RelV y u):KV (putK a k y) (stored b k u):=by
 unfold putK stored
 rw[r.any k]
 by_cases e:(b.any λf=>decide (f.1=k))=true
 ·rw[if_pos e,if_pos e];exact r.NF k c
 ·rw[if_neg e,if_neg e];exact Zq r ⟨rfl,c⟩
def KV.keys{b:List (κ × Value)}(r:KV a b):a.map (·.1)=b.map (·.1):=by
 unfold KV at r
 induction r with
 |nil=>rfl
 |cons h t c=>rw[TM,TM,c,h.1]
def KV.length{a:List (κ × Value)}(r:KV kvs a):kvs.length=a.length:=WM r
end
def yO(r:RelV (kV k) u):(cL P w).is k u=true:=by
 cases k with
 |inl i=>obtain⟨t,e⟩:=(show ∃t,u=Vt i t from r);subst e;exact yX P w i t
 |inr x=>obtain⟨t,e⟩:=(show ∃t,u=Um x t from r);subst e;exact yY P w x t
def um :∀{a:List Key} {b:List Value},Vals (a.map kV) b->ItemsAre (cL P w) a b
 |[],_,r=>by rw[T'] at r;cases r;exact .nil
 |k::a,_,r=>by
  rw[TM] at r
  cases r with
  |cons h t=>exact .cons (yO h) (um t)
abbrev KT(H:Hp):List (List Key × V)->List (List Key × Addr × Value)->Prop:=Paired λp q=>p.1=q.1/\H q.2.1=some (.tup (p.1.map kV))/\RelV p.2 q.2.2
def KT.val(r:KT H a g)(k:List Key):gJ (pI a k) ((atKey g k).map (·.2)):=by
 induction r with
 |nil=>exact T9
 | @cons p q m f h t j =>
  obtain⟨i,_,l⟩:=h
  by_cases e:p.1=k
  ·have c:q.1=k:=i.symm.trans e
   have b:atKey (q::f) k=some q.2:=by simp[atKey,UK,c]
   rw[tU e,b];exact l
  ·have c:¬ q.1=k:=λz=>e (i.trans z)
   have b:atKey (q::f) k=atKey f k:=by simp[atKey,UK,c]
   rw[tT e,b];exact j
def KT.NF(r:KT H a f)(k:List Key)(i:RelV y u) :
  KT H (a.map λc=>if c.1=k then(c.1,y) else c) (f.map (putAt k u)):=by
 induction r with
 |nil=>exact .nil
 | @cons p q n m h t j =>
  rw[TM,TM]
  refine .cons ?_ j
  obtain⟨b,g,l⟩:=h
  unfold putAt
  by_cases e:p.1=k
  ·rw[if_pos e,if_pos (b.symm.trans e)];exact⟨b,g,i⟩
  ·rw[if_neg e,if_neg (λz=>e (b.trans z))];exact⟨b,g,l⟩
def KT.put(r:KT H a c)(k:List Key)(g:H b=some (.tup (k.map kV)))(f:RelV y u) :
  KT H (putK a k y) (storedH c k b u):=by
 have e:(a.any λh=>decide (h.1=k))=(atKey c k).isSome:=by
  rw[zU,(r.val k).iw,W9]
 unfold putK storedH
 rw[e]
 by_cases q:(atKey c k).isSome=true
 ·rw[if_pos q,if_pos q];exact r.NF k f
 ·rw[if_neg q,if_neg q];exact Zq r ⟨rfl,g,f⟩
def KT.keeps(r:KT H a xs)(f:∀b c,H b=some (.tup c)->e b=some (.tup c)):KT e a xs :=
 Paired.Fb r λ_ _ z=>⟨z.1,f _ _ z.2.1,z.2.2⟩
def Kt(ok:dz P w H h)(e:Rd H a u):aO P w H h a u:=e.ok ok
def rY(ok:dz P w H h)(e:Rd H a (.dK kvs)):kvs.length<=sizeLine/\(a == U_)=false/\∃vs,KV kvs vs/\h.DictOf (cL P w) a vs :=
 show aO P w H h a (.dK kvs) from Kt ok e
def OO(ok:dz P w H h)(e:H a=some (.dK b)):b.length<=sizeLine/\(a == U_)=false/\∃vs,KV b vs/\h.DictOf (cL P w) a vs:=rY ok (.inl e)
def sE(ok:dz P w H h)(e:H a=some (.tup (c.map kV))):(tupleKind (cL P w)).is h c a:=by
 obtain⟨_,b,r,o,f,g,n,i⟩:=(show aO P w H h a (.tup (c.map kV)) from ok a _ e)
 exact⟨o,b.toArray,n,f,g,i,by simpa using um r⟩
def xq(ok:dz P w H h)(e:Rd H a (.dT b)):b.length<=sizeLine/\(a == U_)=false /\
  ∃xs,KT H b xs/\h.DictOfH (tupleKind (cL P w)) a xs:=by
 obtain⟨z,y,xs,r,o,s,A,i,j,n,v,u⟩:=(show aO P w H h a (.dT b) from Kt ok e)
 refine⟨z,y,xs,r,o,s,A,i,j,n,v,λx c=>?_,u⟩
 have all:∀{l:List (List Key × V)} {m:List (List Key × Addr × Value)},KT H l m->∀x∈m,(tupleKind (cL P w)).is h x.1 x.2.1:=by
  intro l m q
  induction q with
  |nil=>intro x c;exact nomatch c
  | @cons p q C B f t g =>
   intro x c
   rcases Gc.mp c with e|c
   ·subst e
    exact sE ok (by rw[<- f.1];exact f.2.1)
   ·exact g x c
 exact all r x c
def OP(ok:dz P w H h)(e:H a=some (.dT b)):b.length<=sizeLine/\(a == U_)=false /\
  ∃xs,KT H b xs/\h.DictOfH (tupleKind (cL P w)) a xs:=xq ok (.inl e)
def xN(H:Hp)(a:Addr)(y:V)(r:Option V):Prop :=
 (∃kvs k,Rd H a (.dK kvs)/\y=kV k/\r=pI kvs k)\/∃kvs k b,Rd H a (.dT kvs)/\y=.ref b/\H b=some (.tup (k.map kV))/\r=pI kvs k
def EB(H:Hp)(a:Addr)(y v:V)(c:Hp):Prop :=
 (∃kvs k,H a=some (.dK kvs)/\y=kV k/\kvs.length<sizeLine/\c=upd H a (.dK (putK kvs k v))) \/
 ∃kvs k b,H a=some (.dT kvs)/\y=.ref b/\H b=some (.tup (k.map kV))/\kvs.length<sizeLine/\c=upd H a (.dT (putK kvs k v))
def EB.k{k:Key}(e:H a=some (.dK b))(c:b.length<sizeLine):EB H a (kV k) v (upd H a (.dK (putK b k v))):=.inl ⟨b,k,e,rfl,c,rfl⟩
section
variable {X:Cx}{pins:List (Addr × Obj)}{σ:St}{H:Hp}{s:Shared}{a:Addr}{y v:V}{u r:Value}{o:Option V}{A:Around}{E:Value->Shared->Prop}
def Inv.big(I:Inv X pins σ H s):U_<s.heap.objs.size:=by
 have h:TZ<s.heap.objs.size:=(I.mod.glob.keeps I.bk).lt
 exact Vd (by decide) h
def Cp(G:A.units+1<cLine)(I:Inv X pins σ H s)(g:xN H a y (some v))(B:RelV y u)(h:∀i C,Inv X pins σ H C->RelV v i->Q i C) :
  wpAny (model X.prog X.w) A (getItem (.ref a) u) Q E s:=by
 rcases g with⟨j,k,e,m,l⟩|⟨j,k,b,e,m,M,l⟩
 ·subst m
  obtain⟨z,N,F,f,x⟩:=rY I.au e
  obtain⟨i,n,c⟩:=gJ.some_of (v:=v) (o:=valueAt F k) (by rw[l];exact f.val k)
  exact wpAny_getItem_of (yO B) x.mapOf n (h i _ (I.tok _) c)
 ·subst m
  cases(show u=Td b from B)
  obtain⟨z,N,L,f,x⟩:=xq I.au e
  obtain⟨i,n,c⟩:=gJ.some_of (v:=v) (o:=(atKey L k).map (·.2)) (by rw[l];exact f.val k)
  obtain⟨p,J,t⟩:=X0.mp n
  refine wpAny_getItem_heap (tupleKind_room_in1 G) (sE I.au M) x J ?_
  rw[t]
  exact h i _ (I.tok _) c
def Cq(t:A.units+1<cLine)(I:Inv X pins σ H s)(g:xN H a y o)(n:RelV y u)(h:∀p,Inv X pins σ H p->Q (.bool o.isSome) p) :
  wpAny (model X.prog X.w) A (compareOp .In u (.ref a)) Q E s:=by
 rcases g with⟨f,k,e,i,l⟩|⟨f,k,b,e,i,x,l⟩
 ·subst i
  obtain⟨z,m,B,c,j⟩:=rY I.au e
  refine wpAny_in_of (yO n) m j.mapOf ?_
  rw[<- (c.val k).iw,<- l]
  exact h _ (I.tok _)
 ·subst i
  cases(show u=Td b from n)
  obtain⟨z,m,C,c,j⟩:=xq I.au e
  refine wpAny_in_heap (tupleKind_room_in1 t) (sE I.au x) m j ?_
  have q:=(c.val k).iw
  rw[W9] at q
  rw[<- q,<- l]
  exact h _ (I.tok _)
def Ht(t:A.units+1<cLine)(I:Inv X pins σ H s)(g:xN H a y o)(n:RelV y u)(h:∀p,Inv X pins σ H p->Q (.bool (!o.isSome)) p) :
  wpAny (model X.prog X.w) A (compareOp .NotIn u (.ref a)) Q E s:=by
 rcases g with⟨f,k,e,i,l⟩|⟨f,k,b,e,i,x,l⟩
 ·subst i
  obtain⟨z,m,B,c,j⟩:=rY I.au e
  refine aAf (yO n) m j.mapOf ?_
  rw[<- (c.val k).iw,<- l]
  exact h _ (I.tok _)
 ·subst i
  cases(show u=Td b from n)
  obtain⟨z,m,C,c,j⟩:=xq I.au e
  refine wpAny_notIn_heap (tupleKind_room_in1 t) (sE I.au x) m j ?_
  have q:=(c.val k).iw
  rw[W9] at q
  rw[<- q,<- l]
  exact h _ (I.tok _)
def BR(I:Inv X pins σ H s)(j:N3 (H a))(m:Vl a s.heap c)(i:∃q,c.get? a=some q)(f:aO X.prog X.w (upd H a g) c a g) :
  Inv X pins σ (upd H a g) { s with heap:=c,toks:=l } :=
 I.write (x:=a) (e:=a) j (.inl rfl) (λb q h z=>(m.2 b h).trans z) i f
def Lk(z:b.length<=sizeLine)(i:(a == U_)=false)(e:KV b c)(h:f.DictOf (cL P w) a c) :
  aO P w g f a (.dK b):=⟨z,i,c,e,h⟩
def Ct(U:A.units+1<cLine)(I:Inv X pins σ H s)(g:EB H a y v P)(L:RelV y u)(O:RelV v r)(h:∀J,Inv X pins σ P J->Q () J) :
  wpAny (model X.prog X.w) A (setItem (.ref a) u r) Q E s:=by
 rcases g with⟨i,k,e,p,l,x⟩|⟨i,k,b,e,p,M,l,x⟩
 ·subst p x
  obtain⟨z,B,R,f,C⟩:=OO I.au e
  have F:R.length<=sizeLine:=by rw[<- f.length];exact z
  have t:(putK i k v).length<=sizeLine:=by have:=qT i k v;omega
  refine wpAny_setItem_pairs (hsz:=F) (yO L) C λG j n=>h _ ?_
  have W:∃q,G.get? a=some q:=let ⟨q,_,_,m,_⟩:=j;⟨q,m⟩
  exact BR I (by rw[e];exact T9) n W (Lk t B (f.put k O) j)
 ·subst p x
  cases(show u=Td b from L)
  obtain⟨z,B,T,f,C⟩:=OP I.au e
  have F:T.length<=sizeLine:=by rw[<- WM f];exact z
  have t:(putK i k v).length<=sizeLine:=by have:=qT i k v;omega
  refine wpAny_setItem_heap (hsz:=F) (tupleKind_room_in1 U) (sE I.au M) C λG j n=>h _ ?_
  obtain⟨q,S,ep,m,h2,h3,Z,_,Y⟩:=j
  refine BR I (by rw[e];exact T9) n ⟨q,m⟩ ⟨t,B,_,(f.put k M O).keeps λc ys N=>?_,q,S,ep,m,h2,h3,Z,Y⟩
  rw[aG (O5 N e (λz=>nomatch z))]
  exact N
end
def di{σ:St}(I:Inv X b σ H s)(e:Rd H a (.dK f))(h:∀t g,Inv X b σ H g->Q (.int f.length t) g):wpAny (model X.prog X.w) A (call (.builtin "len") [.ref a]) Q E s:=by
 obtain⟨z,j,l,c,i⟩:=rY I.au e
 refine call_len_dict j i (by rw[<- c.length];rw[Vq] at z;omega) ?_
 rw[<- c.length]
 exact h _ _ (I.tok _)
def LD(i:Expr):Prop:=∀a b,subscripted i false a b=aB6 [a,b] (getItem a b)
def Jw{T id:String}
  (t:typeLookup (.type T) "__getitem__"=pure (some (.builtin id)))(v:LD b)
  (h:wpAny (model a w) A (eval c f) (λo n=>wpAny (model a w) A (eval b f) (λi g=>g.TypeIs o T/\wpAny (model a w) A (getItem o i) Q E g) E n) E s) :
  wpAny (model a w) A (eval (.Subscript c b l) f) Q E s:=by
 refine YR (wpAny_mono h (λo n p=>wpAny_mono p (λi g j=>?_) λ_ _ x=>x) λ_ _ x=>x)
 obtain⟨hT,j⟩:=j
 unfold subscriptTail
 refine wpAny_bind ?_
 rw[getitemInPython_of_ne hT.not_modules]
 refine wpAny_bind (wpAny_specialOf hT t ?_)
 have e:wpAny (model a w) A (subscripted b false o i) (λr m=>wpAny (model a w) A (letTemporaryGo c o r >>= λ_=>pure r) Q E m) E g:=by
  rw[v o i]
  exact wpAny_operating (wpAny_mono j (λr m u=>wpAny_bind (wpAny_letTemporaryGo (wpAny_pure u))) λ_ _ x=>x)
 first
  |exact wpAny_pure (wpAny_bind e)
  |exact wpAny_bind (wpAny_pure (wpAny_bind e))
  |exact wpAny_bind e
def xo{σ:St}(I:Inv X c σ H s)(g:xN H a y o):s.TypeIs (.ref a) "dict":=by
 rcases g with⟨f,k,e,_,_⟩|⟨f,k,b,e,_,_,_⟩
 ·obtain⟨_,_,i,_,h⟩:=rY I.au e
  exact h.typeIs
 ·obtain⟨_,_,j,_,h⟩:=xq I.au e
  exact h.typeIs
def Pz(td c:TE):TE:=λσ H Q=>td σ H λx e=>c σ e λy b=>∃a v,x=.ref a/\xN b a y (some v)/\Q v b
def P0(c td:TE):TE:=λσ H Q=>c σ H λy e=>td σ e λx b=>∃a o,x=.ref a/\xN b a y o/\Q (.bl o.isSome) b
def CQ(c td:TE):TE:=λσ H Q=>c σ H λy e=>td σ e λx b=>∃a o,x=.ref a/\xN b a y o/\Q (.bl (!o.isSome)) b
def Pk(td g e:TE):TS:=λD σ H=>e σ H λv f=>td σ f λx c=>g σ c λy h=>∃a b,x=.ref a/\EB h a y v b/\D.nx σ b
def JO(w:X.A.units+1<cLine)(C:PE X o td)(G:PE X i f)(n:LD i):PE X (.Subscript o i r) (Pz td f):=by
 intro b s σ H Q I h
 refine Jw PySem.F.slot_dict_getitem.lookup n (bg (C b s σ H _ I h) fun u L ⟨x,t,l,J,z⟩=>bg (G b L σ t _ l z) ?_);rintro M O ⟨y,E,e,p,a,v,m,g,B⟩
 subst m
 obtain rfl:u=Td a:=J
 exact⟨xo e g,Cp w e g p λN P j c=>⟨v,E,j,c,B⟩⟩
def Mr(r:X.A.units+1<cLine)(B:PE X i c)(w:PE X o td):PC X .In i o (P0 c td):=by
 intro b s σ H Q I h
 refine bg (B b s σ H _ I h) fun F E ⟨y,p,f,l,t⟩=>bg (w b E σ p _ f t) ?_;rintro u G ⟨x,z,m,C,a,n,j,g,v⟩
 subst j
 obtain rfl:u=Td a:=C
 exact Cq r m g l λJ e=>⟨.bl n.isSome,z,e,rfl,v⟩
def vG(r:X.A.units+1<cLine)(B:PE X i c)(w:PE X o td):PC X .NotIn i o (CQ c td):=by
 intro b s σ H Q I h
 refine bg (B b s σ H _ I h) fun F E ⟨y,p,f,l,t⟩=>bg (w b E σ p _ f t) ?_;rintro u G ⟨x,z,m,C,a,n,j,g,v⟩
 subst j
 obtain rfl:u=Td a:=C
 exact Ht r m g l λJ e=>⟨.bl (!n.isSome),z,e,rfl,v⟩
def JW(J:X.A.units+1<cLine)(O:PE X o td)(Q:PE X i n)(j:PE X c F)(B:Ue c (some (.Subscript o i e)) f.line X.env=pure false) :
  PS X (.Assign [.Subscript o i e] c f) (Pk td n F):=by
 intro b s σ H D I h
 refine wpAny_Assign_Subscript (bg (j b s σ H _ I h) fun r T ⟨v,G,w,L,M⟩=>bg (O b T σ G _ w M) fun u t ⟨x,P,E,R,N⟩=>bg (Q b t σ P _ E N) ?_) B;rintro U W ⟨y,Z,p,C,a,l,z,g,S⟩
 subst z
 obtain rfl:u=Td a:=R
 exact Ct J p g C L λY m=>⟨σ,l,m,S⟩
def Eo(h:Heap)(a:U_<h.objs.size):aO P w H (h.push { cls:=.type "dict",data:=.dict #[] }) h.objs.size (.dK []) :=
 ⟨UP _,beq_eq_false_iff_ne.mpr (VG (Tq a)),[],.nil,aAn h⟩
def NT:TE:=λ_ H Q=>∀p,H p=none->Q (.ref p) (upd H p (.dK []))
def F_:PE X (.Dict [] [] c) NT:=λb s σ H Q I h =>
 wpAny_Dict_empty ⟨.ref s.heap.objs.size,_,I.laid (a:=s.heap.objs.size) (o:=.dK []) (t':=s.toks) (λ_ _ q=>B' _ q) (S' _) (Eo s.heap I.big),rfl,h _ (I.au.fresh (S' _))⟩
def aZ(X:Cx)(a:Scope)(cl:List (Str × Addr))(C:Addr)(N:List Str)(b:List Addr)(e:Shared)(c:Hp):Cx where
 prog:=X.prog
 w:=X.w
 K:=X.K
 mg:=X.mg
 base:=X.base
 A:=X.A
 N:=N
 s₀:=e
 H₀:=c
 env:=compEnvC a cl C X.env
 outer:=X.stack
 stack:=X.stack
 ex:=b
 fn:=λ_=>false
 calm:=X.calm
 pn:=[]
 xe:=λ_ _=>False
def wj(j:∀z∈a.names,z.2≠.cell)(h:(relabel a b).names.lookup y=some .cell\/(relabel a b).names.lookup y=some .free):a.names.lookup y=some .free:=by
 have e:∀(l:List (Str × Xh)),(∀z∈l,z.2≠.cell)->((l.map fun(n,k)=>if(k == Vo&&b.scope.kind == .function&&b.kindOf n == some .cell) then(n,Wv) else(n,k)).lookup y=some .cell \/
   (l.map fun(n,k)=>if(k == Vo&&b.scope.kind == .function&&b.kindOf n == some .cell) then(n,Wv) else(n,k)).lookup y=some .free)->l.lookup y=some .free:=by
  intro l
  induction l with
  |nil=>intro _ h;rcases h with h|h<;>simp at h
  |cons p r i =>
   obtain⟨n,k⟩:=p
   intro g h
   have f:=i (λz s=>g z (TR _ s))
   have m:k≠.cell:=g (n,k) N'
   by_cases c:(k == Vo&&b.scope.kind == .function&&b.kindOf n == some .cell)=true
   ·have o:k=.free:=by
     rw[Tw,Tw] at c
     exact eq_of_beq c.1.1
    subst o
    simp only[TM,if_pos c] at h
    cases hx:y == n with
    |true=>simp only[Tx,hx]
    |false =>
     simp only[Tx,hx] at h ⊢
     exact f h
   ·simp only[TM,if_neg c] at h
    cases hx:y == n with
    |true =>
     simp only[Tx,hx] at h ⊢
     rcases h with h|h
     ·cases h;exact absurd rfl m
     ·exact h
    |false =>
     simp only[Tx,hx] at h ⊢
     exact f h
 exact e a.names j h
def wA(h:a.names.lookup y=some .free):(relabel a b).names.lookup y=some .cell\/(relabel a b).names.lookup y=some .free:=by
 have c:∀(l:List (Str × Xh)),l.lookup y=some .free->((l.map fun(n,k)=>if(k == Vo&&b.scope.kind == .function&&b.kindOf n == some .cell) then(n,Wv) else(n,k)).lookup y=some .cell \/
   (l.map fun(n,k)=>if(k == Vo&&b.scope.kind == .function&&b.kindOf n == some .cell) then(n,Wv) else(n,k)).lookup y=some .free):=by
  intro l
  induction l with
  |nil=>intro h;simp at h
  |cons p r f =>
   obtain⟨n,k⟩:=p
   intro h
   by_cases e:(k == Vo&&b.scope.kind == .function&&b.kindOf n == some .cell)=true
   ·simp only[TM,if_pos e]
    cases hx:y == n with
    |true=>simp only[Tx,hx];exact .inl trivial
    |false =>
     simp only[Tx,hx] at h ⊢
     exact f h
   ·simp only[TM,if_neg e]
    cases hx:y == n with
    |true=>simp only[Tx,hx] at h ⊢;exact .inr h
    |false =>
     simp only[Tx,hx] at h ⊢
     exact f h
 exact c a.names h
structure bY (X:Cx) (scope:Scope) (cl:List (Str × Addr)) (T:List Str) (caps:List Nat) (cn:List Str):Prop where
 kind:scope.kind=.function
 Hj:Zo scope X.env=pure cl
 Kh:∀y∈scope.names,y.2≠.cell
 names:∀y∈scope.names,y.2=.local->scope.names.lookup y.1=some .local
 sub:∀y c,cl.lookup y=some c->X.env.cells.lookup y=some c
 has:∀y,scope.names.lookup y=some .free->∃c,cl.lookup y=some c
 SK:Paired (fun(j:Nat) (y:Str)=>X.N[j]?=some y/\(X.env.kindOf y=some .cell\/X.env.kindOf y=some .free)/\scope.names.lookup y=some .free) caps cn
def zM(n:Nat)(caps:List Nat)(σ:St):St:=T_ n none++caps.map λj=>(σ[j]?).getD none
def Le(σ a:St):Prop:=σ.length=a.length/\∀(i:Nat) v,σ[i]?=some (some v)->a[i]?=some (some v)
def Le.one{r:St}:Le (none::r) (x::r):=⟨rfl,λi v h=>by
 cases i with
 |zero=>simp at h
 |succ i=>simpa using h⟩
def zZ(X:Cx)(b:List Expr)(t:TT):Prop :=
 ∀(a:List (Addr × Obj)) (s:Shared) (σ:St) (H:Hp) (Q:Bool->Hp->Prop),Inv X a σ H s->t σ H Q ->
  wpAny (model X.prog X.w) X.A (forIn b true λc r=>if r=true then do let ok <- isTrue c X.env (eval c X.env);pure (WX ok) else pure (WX r)) (TP X a σ Q) X.xe s
def Rp:TT:=λ_ H Q=>Q true H
def Jb :zZ X [] Rp:=λa s σ H Q I h=>wpAny_tests_nil ⟨H,I,h⟩
def Jc(h:PT X c t):zZ X [c] t:=λa s σ H Q I q=>wpAny_tests_one (h a s σ H Q I q)
def vt(I:Nat->Shared->Prop)
  (t:∀n s,I n s->wpAny (model b w) A (pyNext u) (λr z=>match r with
   |none=>R (.ok .next) z
   |some v=>wpAny (model b w) A (letOwnedTupleGo a u v) (λ_ H=>wpAny (model b w) A (assign a e v) (λ_ E =>
     wpAny (model b w) A (forIn j true λc r=>if r=true then do let ok <- isTrue c e (eval c e);pure (WX ok) else pure (WX r)) (λok y =>
      if ok=true then wpAny (model b w) A (eval o e) (λx C =>
       wpAny (model b w) A (call (.builtin "list.append") [l,x]) (λ_ G=>∃m,m<n/\I m G) (λ_ _=>False) C) (λ_ _=>False) y
      else ∃m,m<n/\I m y) (λ_ _=>False) E) (λ_ _=>False) H) (λ_ _=>False) z) (λ_ _=>False) s)
  (n:Nat)(h:I n s) :
  VQ (model b w) A (.compLoop (.ListComp o [⟨a,i,j,0⟩] g p) 0 u l e) R s:=by
 refine codeAny_loop rfl I (λn s N=>?_) n h
 show wpAny _ A ((compTurn (.ListComp o [⟨a,i,j,0⟩] g p) 0 u l e).onRaise (λx=>do noteFrame x e;theTreesLotGoes x)) _ _ s
 refine wpAny_noted ?_
 rw[compTurn_list]
 refine wpAny_bind (wpAny_standAt (wpAny_bind (wpAny_mono (t n s N) (λr z F=>?_) λ_ _ f=>f.elim)))
 cases r with
 |none=>exact wpAny_pure F
 |some v =>
  refine wpAny_bind (wpAny_mono F (λ_ H L=>?_) λ_ _ f=>f.elim)
  refine wpAny_bind (wpAny_mono L (λ_ E J=>wpAny_bind (wpAny_mono J (λok y B=>?_) λ_ _ f=>f.elim)) λ_ _ f=>f.elim)
  cases ok with
  |false=>exact wpAny_pure ⟨rfl,B⟩
  |true =>
   exact wpAny_bind (wpAny_bind (wpAny_mono B (λx C M=>wpAny_bind (wpAny_mono M (λ_ G O=>wpAny_pure (wpAny_pure ⟨rfl,O⟩)) λ_ _ f=>f.elim)) λ_ _ f=>f.elim))
def zm{σ:St}{C:Addr}{fp:List Addr}(S:bY X g cl T l O)(f:Inv X I σ M h)(Q:∀b∈fp,lF X I M b)(fo:∀b∈fp,b<h.heap.objs.size)
  (R:C=h.heap.objs.size+1)(s:∀b o,h.heap.get? b=some o->Y.get? b=some o)(J:∃n,Y.get? h.heap.objs.size=some { cls:=.type "list",data:=.seq #[] n })(hns:Y.Ns C λ_=>none) :
  Inv (aZ X g cl C (T++O) fp h M) [] (zM T.length l σ) (upd M h.heap.objs.size (.lst [])) { h with heap:=Y,toks:=tk }:=by
 have U:M h.heap.objs.size=none:=f.fresh
 have B:∀y c,cl.lookup y=some c->c<h.heap.objs.size:=λy c e=>by
  obtain⟨v,o,L,_⟩:=f.cell y c (S.sub y c e)
  exact TU L
 refine⟨⟨f.ok.mod,S.kind,f.ok.glob,f.ok.blt,by show h.heap.objs.size<=C;rw[R];exact Va _,λy z c h1 h2=>f.ok.inj y z c (S.sub y c h1) (S.sub z c h2),λy hy=>S.has y (wj S.Kh hy),λy c hf _=>(Fk hf).elim,
  f.ok.hd,f.ok.frames,.inl rfl,λb E=>⟨?_,λy c e=>?_⟩,f.bs,G' f.ok.Ci f.sz,λb o e E=>?_,λb E hs=>?_,f.stack,f.xC⟩,rfl,f.bare,Un.laid s (S' _) U,⟨_,hns,λi y v e1 A e3=>?_⟩,λy c e=>?_,?_,λy c e=>?_,λp hp=>?_,f.au.laid s (S' _) ?_,?_⟩
 ·show b≠C
  rw[R]
  exact Tq (U0 (fo b E))
 ·exact(Q b E).2.2.2.2.1 y c (S.sub y c e)
 ·have h0:=f.ok.bs b o e
  rcases(Q b E).2.2.2.1 with z|z
  ·exact f.ok.yq b o e z
  ·exact absurd (UB (TU h0.1) z) (Uw _)
 ·rcases Gc.mp (f.qI b hs) with z|z
  ·exact(Q b E).2.1 z
  ·exact(Q b E).2.2.1 z
 ·-- the slots
  have hT:T.length<=i:=by
   by_cases hi:i<T.length
   ·unfold zM at A
    rw[UM (by simpa using hi),We] at A
    split at A<;>cases A
   ·omega
  obtain⟨k,rfl⟩:∃k,i=T.length+k:=⟨i - T.length,by omega⟩
  have W:O[k]?=some y:=by
   have q:(T++O)[T.length+k]?=some y:=e1
   rw[UL (by omega)] at q
   simpa using q
  have e2':(l.map λj=>(σ[j]?).getD none)[k]?=some (some v):=by
   unfold zM at A
   rw[UL (by simp)] at A
   simpa using A
  have pr:∀{G:List Nat} {H:List Str} {k:Nat},Paired (fun(j:Nat) (y:Str)=>X.N[j]?=some y/\(X.env.kindOf y=some .cell\/X.env.kindOf y=some .free)/\g.names.lookup y=some .free) G H ->
    H[k]?=some y->(G.map λj=>(σ[j]?).getD none)[k]?=some (some v)->∃(j:Nat),X.N[j]?=some y/\(X.env.kindOf y=some .cell\/X.env.kindOf y=some .free)/\g.names.lookup y=some .free/\σ[j]?=some (some v):=by
   intro G H k p
   induction p generalizing k with
   |nil=>intro q;simp at q
   |cons a t ih =>
    rename_i j0 y0 l1 l2
    cases k with
    |zero =>
     intro P w
     simp at P w
     subst P
     refine⟨j0,a.1,a.2.1,a.2.2,?_⟩
     cases e:σ[j0]? with
     |none=>rw[e] at w;simp at w
     |some z=>rw[e] at w;simp at w;rw[w]
    |succ k=>intro P w;exact ih (by simpa using P) (by simpa using w)
  obtain⟨j,n1,kd,fr,sv⟩:=pr S.SK W e2'
  obtain⟨m,hn,hl⟩:=f.loc
  obtain⟨u,r,lk⟩:=hl j y v n1 sv (by rcases kd with z|z;exact .inr (.inl z);exact .inr (.inr z))
  refine⟨u,r,.inr ⟨wA fr,?_⟩⟩
  obtain⟨c,hc⟩:=S.has y fr
  rcases lk with⟨z,_⟩|⟨_,c',hc',x⟩
  ·rcases kd with q|q<;>(rw[z] at q;cases q)
  ·have:c=c':=by
    have:=S.sub y c hc
    rw[hc'] at this
    exact(UA this).symm
   subst this
   obtain⟨o,L,Z⟩:=x
   exact⟨c,hc,o,s c o L,Z⟩
 ·obtain⟨v,o,L,Z⟩:=f.cell y c (S.sub y c e)
  exact⟨v,o,s c o L,Z⟩
 ·show upd M h.heap.objs.size (.lst []) C=none
  rw[aG (by rw[R];exact XY _)]
  exact f.au.fresh (by rw[R];exact Va _)
 ·rw[aG (Tq (B y c e))]
  exact f.cZ y c (S.sub y c e)
 ·exact absurd (show p∈([]:List (Addr × Obj)) from hp) (by simp)
 ·obtain⟨n,e⟩:=J
  exact⟨UP _,[],n,.nil,e⟩
 ·have hp:∀{G:List Nat} {H:List Str} {F:Nat->Str->Prop},Paired F G H->G.length=H.length:=λp=>WM p
  show(zM T.length l σ).length=(T++O).length
  unfold zM
  rw[TY,Vv,tz,TY,hp S.SK]
def EZ{σ:St}{C:Addr}{y:St}(t:Inv X a σ x s)(j:∀b∈u,lF X a x b)(E:s.heap.objs.size<=C)(J:Inv (aZ X n G C N u s x) [] y g f) :
  ∃c m,f.heap.get? C=some c/\f.heap.Ns C m/\Inv X (a++[(C,c)]) σ g f/\lF X a g C:=by
 obtain⟨m,r,_⟩:=J.loc
 obtain⟨c,F,H,w,A,l⟩:=id r
 have o:Inv X a σ g f:=t.uW (ch:=u) J.os J.base J.au J.bare λb i=>⟨(j b i).2.2.2.1,(j b i).2.1,(j b i).2.2.2.2.1,(j b i).2.2.2.2.2⟩
 have h:lF X a g C:=t.E8 E J.free
 refine⟨c,m,w,r,o.wb λp B=>?_,h⟩
 rcases T4.mp B with z|z
 ·exact o.pin p (Tf _ z)
 ·have e:p=(C,c):=by simpa using z
  subst e
  exact⟨w,h.1,h.2.1,h.2.2.1,λv q=>by rw[A] at q;cases q⟩
def BF(J:It)(D:Addr)(o:Hp)(e:St)(g:TG)(tt:TT)(n:TE)(Q:VK):Prop:=∃W:Nat->Nat->List V->Hp->Prop,(∃m,W 0 m [] (upd o D (.lst []))) /\
 ∀i m ys H,W i m ys H->H D=some (.lst ys)/\((J.stop i H/\Q (.ref D) H)\/(J.go i H/\∀x h,J.BC i H x h->g x e h λc l=>Le e c/\tt c l λb j =>
  if b=true then n c j λy f=>f D=some (.lst ys)/\ys.length<sizeLine/\∃a,a<m/\W (i+1) a (ys++[y]) (upd f D (.lst (ys++[y]))) else ∃a,a<m/\W (i+1) a ys j))
def vN(n:Nat)(caps:List Nat)(b:TI)(g:TG)(tt:TT)(c:TE):TE:=λσ H Q=>b σ H λJ a=>∀D,a D=none->BF J D a (zM n caps σ) g tt c Q
def GR(n:Nat)(caps:List Nat)(b:TI)(g:TG)(tt:TT)(c:TE):TE:=λσ H Q=>b σ H λJ a=>J.u=true/\∀D,a D=none->BF J D a (zM n caps σ) g tt c Q
def bp.now{σ:St}(h:bp X.A X.H₀)(I:Inv X a σ H s):bp X.A H:=by
 rcases h with h|⟨b,o,v,c,e,f,g⟩
 ·exact .inl h
 ·exact .inr ⟨b,o,v,c,e,I.base.dZ b o v f,g⟩
def jV{σ:St}{RR:Value->Addr->Result->Shared->Prop}(S:bY X scope F T h G)(hc:EC X J j)(hg:∀C f s₂ H₂,PG (aZ X scope F C (T++G) f s₂ H₂) tg g)(ht:∀C f s₂ H₂,zZ (aZ X scope F C (T++G) f s₂ H₂) ifs tt)
  (he:∀C f s₂,PE (aZ X scope F C (T++G) f s₂ j) elt te)
  (I2:Inv X v σ j a)(M:Turn X.prog X.w X.K tg J f it tn)(st2:tn 0 a.heap)(f2:∀b∈f,lF X v j b)
  (q:∀D,j D=none->BF J D j (zM T.length h σ) g tt te Q)
  (fin:∀D C oC m s Z,Inv X (v++[(C,oC)]) σ s Z->Z.heap.get? C=some oC->Z.heap.Ns C m->lF X v s C->Q (.ref D) s->RR (.ref D) C (.ok .next) Z) :
  wpAny (model X.prog X.w) X.A (newList []) (λacc P=>wpAny (model X.prog X.w) X.A (newFunctionEnv scope X.env.globals F [] X.env.qual none .none (some X.env)) (λO s₄ =>
   VQ (model X.prog X.w) X.A (.compStart (.ListComp elt [⟨tg,iter,ifs,0⟩] scope pos) 0 (.ref it) acc { O with scope:=relabel scope X.env }) (RR acc O.locals) s₄) E P) E a:=by
 refine wpAny_newObj_type (wpAny_newFunctionEnv S.Kh (by intro y hy;simp at hy) (λh₁ L t=>?_) S.kind)
 dsimp only at L t ⊢
 generalize U:a.heap.push { cls:=.type "list",dict:=none,data:=.seq ([]:List Value).toArray }=B at L t ⊢
 have hC:B.objs.size=a.heap.objs.size+1:=by rw[<- U,UQ]
 have hDC:a.heap.objs.size≠B.objs.size:=by omega
 have old:∀b o,a.heap.get? b=some o->h₁.get? b=some o:=λb o e=>t.extBut b o (by rw[hC];exact Tq (U0 (TU e))) (B' _ (U ▸ B' _ e))
 have hacc:∃n,h₁.get? a.heap.objs.size=some { cls:=.type "list",data:=.seq #[] n }:=⟨_,t.extBut _ _ hDC (B' _ (U ▸ TN _ rfl))⟩
 have fo:∀b∈f,b<a.heap.objs.size:=λb l=>by
  obtain⟨o,e,_⟩:=M.obj 0 _ st2 b l
  exact TU e
 obtain⟨W,⟨m0,w0⟩,turn⟩:=q a.heap.objs.size I2.fresh
 have st1:tn 0 h₁:=M.keep 0 _ _ st2 λb l o e=>old b o e
 have fr0:∀b∈f,upd j a.heap.objs.size (.lst []) b=none:=λb l=>by rw[aG (Tq (fo b l))];exact(f2 b l).1
 have N:∀P:Shared,P={ a with heap:=h₁,toks:=a.toks+([]:List (Str × Value)).length } ->
   VQ (model X.prog X.w) X.A (.compLoop (.ListComp elt [⟨tg,iter,ifs,0⟩] scope pos) 0 (.ref it) (.ref a.heap.objs.size) (compEnvC scope F B.objs.size X.env)) (RR (.ref a.heap.objs.size) B.objs.size) P:=by
  intro P hs3
  have I0:Inv (aZ X scope F B.objs.size (T++G) f a j) [] (zM T.length h σ) (upd j a.heap.objs.size (.lst [])) P:=by
   rw[hs3]
   exact zm S I2 f2 fo hC old hacc (by simpa using L)
  have st3:tn 0 P.heap:=by rw[hs3];exact st1
  have I:∀{s:Hp},(∀b∈f,s b=none)->∀b∈f,lF (aZ X scope F B.objs.size (T++G) f a j) [] s b:=fun{s} hn b l=>by
   refine⟨hn b l,?_,λhs=>?_,.inl l,λy c e=>(f2 b l).2.2.2.2.1 y c (S.sub y c e),λp hp=>absurd (show p∈([]:List (Addr × Obj)) from hp) (by simp)⟩
   ·show b≠B.objs.size
    rw[hC]
    exact Tq (U0 (fo b l))
   ·rcases Gc.mp (I2.qI b hs) with z|z
    ·exact(f2 b l).2.1 z
    ·exact(f2 b l).2.2.1 z
  refine vt (λn Z=>∃i Y s,Inv (aZ X scope F B.objs.size (T++G) f a j) [] (zM T.length h σ) s Z/\tn i Z.heap/\(∀b∈f,s b=none)/\W i n Y s) ?_ m0 ⟨0,[],_,I0,st3,fr0,w0⟩
  rintro n s4 ⟨i,Y,H4,I4,st4,fr4,w4⟩
  obtain⟨hD,tr⟩:=turn i n Y H4 w4
  rcases tr with⟨stop,qn⟩|⟨go,step⟩
  ·refine bg (M.done (aZ X scope F B.objs.size (T++G) f a j) rfl rfl rfl i [] s4 (zM T.length h σ) H4 (λ_ _=>False) (EC.now (X:=aZ X scope F B.objs.size (T++G) f a j) hc I4) I4 (I fr4) st4 stop) ?_;rintro r s5 ⟨hr,I5⟩
   subst hr
   obtain⟨oC,m,a1,a2,a3,a4⟩:=EZ I2 f2 (by omega) I5
   exact fin _ _ oC m H4 s5 a3 a1 a2 a4 qn
  ·refine bg (M.item (aZ X scope F B.objs.size (T++G) f a j) rfl rfl rfl i [] s4 (zM T.length h σ) H4 (λ_ _=>False) (EC.now (X:=aZ X scope F B.objs.size (T++G) f a j) hc I4) I4 (I fr4) st4 go) ?_;rintro r s5 ⟨u,hr,h5⟩
   subst hr
   refine bg h5 ?_;rintro _ s6 ⟨x,H6,I6,r6,y6,R,fr6⟩
   have I6':=I6.pinned (I fr6) (M.obj _ _ R)
   refine bg (hg _ f a j _ s6 _ H6 x u _ I6' r6 (step x H6 y6)) ?_;rintro _ s7 ⟨σ7,H7,I7,le7,q7⟩
   have again:∀{σ8:St} {H8:Hp} {s8:Shared} {zs:List V} {m':Nat},Le (zM T.length h σ) σ8->Inv (aZ X scope F B.objs.size (T++G) f a j) ([]++nO f s6.heap) σ8 H8 s8->m'<n->W (i+1) m' zs H8 ->
     ∃m,m<n/\∃i Y s,Inv (aZ X scope F B.objs.size (T++G) f a j) [] (zM T.length h σ) s s8/\tn i s8.heap/\(∀b∈f,s b=none)/\W i m Y s:=fun{σ8 H8 s8 zs m'} le I8 hm w8=>by
    refine⟨m',hm,i+1,zs,H8,I8.fR.weak le.1 le.2,M.keep _ _ _ R λb l o e=>(I8.pin (b,o) (Tf _ (Tf _ (gQ l e)))).1,λb l=>?_,w8⟩
    obtain⟨o,e,d⟩:=M.obj _ _ R b l
    exact(I8.pin (b,o) (Tf _ (Tf _ (gQ l e)))).2.1
   refine bg (ht _ f a j _ s7 σ7 H7 _ I7 q7) ?_;rintro ok s8 ⟨H8,I8,q8⟩
   cases ok with
   |false =>
    rw[if_neg Fk] at q8 ⊢
    obtain⟨m',hm,w8⟩:=q8
    exact again le7 I8 hm w8
   |true =>
    rw[if_pos rfl] at q8 ⊢
    refine bg (he _ f a _ s8 σ7 H8 _ I8 q8) ?_;rintro v9 s9 ⟨y,H9,I9,r9,hD9,hz9,m',hm,w9⟩
    refine bg (ux _ s9 σ7 H9 (.ref a.heap.objs.size) [y] (.ref a.heap.objs.size) [v9] (λ_ H=>H=upd H9 a.heap.objs.size (.lst (Y++[y]))) I9 rfl (.cons r9 .nil) ⟨_,Y,y,rfl,rfl,hD9,hz9,rfl⟩) ?_;rintro _ s10 ⟨_,H10,I10,_,e10⟩
    subst e10
    exact again le7 I10 hm w9
 exact codeAny_compStart_list (N _ rfl) (M.self X.A 0 _ _ _ st1 (N _ rfl))
def JN(S:bY X a F T l E)(Z:X.calm=true)(hi:PI X G c Y)(L:∀C i j p,PG (aZ X a F C (T++E) i j p) G g)(ht:∀C i j p,zZ (aZ X a F C (T++E) i j p) r tt)
  (he:∀C i j p,PE (aZ X a F C (T++E) i j p) B W)(R:autoParam (∀x,foldedSetIterable c X.env x=pure x) eH) :
  PE X (.ListComp B [⟨G,c,r,0⟩] a pos) (vN T.length l Y g tt W):=by
 intro f s σ H Q I h
 rw[Yi]
 refine wpAny_comprehension_free (use:=none) rfl R S.Hj S.kind S.names (bg (hi f s σ H _ I h) λv s1 h1=>bg h1 λN s2 h2=>?_)
 obtain⟨it,i,tn,J,H2,e,U,Tn,z,f2,q⟩:=h2
 subst e
 refine jV (RR:=λy C=>ZS (model X.prog X.w) X.A X.xe none (EP X f σ Q) y C) S (.inl Z) L ht (λC i j=>he C i j H2) U Tn z f2 q λD C oC m H' P I' ho O n M=>?_
 refine⟨m,O,λh' u=>⟨.ref D,H',?_,rfl,M⟩⟩
 obtain⟨hp,g,d,t,os⟩:=P
 exact I'.fR.turned (λb o hb e=>(u.2 b hb).trans e) n.1 n.2.1 n.2.2.2.1 n.2.2.2.2.1 n.2.2.2.2.2
def F8(S:bY X a G T n F)(L:bp X.A X.H₀)(hi:PI X M c Y)(hg:∀C i j l,PG (aZ X a G C (T++F) i j l) M g)(ht:∀C i j l,zZ (aZ X a G C (T++F) i j l) r tt)
  (he:∀C i j l,bp X.A l->PE (aZ X a G C (T++F) i j l) E W)(U:autoParam (∀x,foldedSetIterable c X.env x=pure x) eH) :
  PE X (.ListComp E [⟨M,c,r,0⟩] a Z) (GR T.length n Y g tt W):=by
 intro f s σ H Q I h
 rw[Yi]
 refine wpAny_comprehension_free (use:=none) rfl U S.Hj S.kind S.names (bg (hi f s σ H _ I h) λv s1 h1=>bg h1 λO s2 h2=>?_)
 obtain⟨it,i,tn,J,H2,e,z,Tn,B,f2,ju,q⟩:=h2
 subst e
 refine jV (RR:=λy C=>ZS (model X.prog X.w) X.A X.xe none (EP X f σ Q) y C) S (EC.now (.inr ⟨ju,L⟩) z) hg ht (λC i j=>he C i j H2 (L.now z)) z Tn B f2 q λD C oC m H' R I' ho P p N=>?_
 refine⟨m,P,λh' u=>⟨.ref D,H',?_,rfl,N⟩⟩
 obtain⟨hp,g,d,t,os⟩:=R
 exact I'.fR.turned (λb o hb e=>(u.2 b hb).trans e) p.1 p.2.1 p.2.2.2.1 p.2.2.2.2.1 p.2.2.2.2.2
def Kv(i:Nat)(t:TE):TS:=λD σ H=>t σ H λx a=>D.nx (σ.set i (some x)) a
def wc{B l:Pos}(hN:X.N.Nodup)(hi':X.N[i]?=some y)(hy:Loc X.env.scope y)(S:bY X a cl T E cn)(hc:X.calm=true)(hi:PI X W c wi)
  (hg:∀C j z P,PG (aZ X a cl C (T++cn) j z P) W g)(ht:∀C j z P,zZ (aZ X a cl C (T++cn) j z P) n tt)
  (he:∀C j z P,PE (aZ X a cl C (T++cn) j z P) u te)(hsw:autoParam (Ue (.ListComp u [⟨W,c,n,0⟩] a L) (some (.Name y B)) l.line X.env=pure true) dI)
  (hf:autoParam (X.fn y=true\/X.env.scope.names.lookup y=some .local) eS)
  (hs:autoParam (∀x,foldedSetIterable c X.env x=pure x) eH) :
  PS X (.Assign [.Name y B] (.ListComp u [⟨W,c,n,0⟩] a L) l) (Kv i (vN T.length E wi g tt te)):=by
 intro f s σ H D I h
 rw[exec_Assign_Name_used _ _ _ _ hsw]
 refine wpAny_bind (wpAny_standAt (wpAny_bind ?_))
 show wpAny _ X.A (do let _ <- comprehension (.ListComp u [⟨W,c,n,0⟩] a L) a X.env _ (newList []) false (eval c X.env) (some (assign (.Name y B) X.env))) _ _ s
 refine wpAny_bind (wpAny_mono (wpAny_comprehension_free (use:=some (assign (.Name y B) X.env)) (Q:=λ_ p=>SP X f D .next p) rfl hs S.Hj S.kind S.names
  (bg (hi f s σ H _ I h) λv s1 h1=>bg h1 λitv s2 h2=>?_)) (λ_ p hq=>wpAny_pure (wpAny_pure hq)) λ_ _ e=>e)
 obtain⟨it,j,tn,J,H2,e,I2,Tn,st2,f2,q⟩:=h2
 subst e
 refine jV (Q:=λx H1=>D.nx (σ.set i (some x)) H1) (RR:=λZ C=>ZS (model X.prog X.w) X.A X.xe (some (assign (.Name y B) X.env)) (λ_ p=>SP X f D .next p) Z C) S (.inl hc) hg ht (λC j z=>he C j z H2) I2 Tn st2 f2 q λR C U m H' p I' ho hn F qD=>?_
 show wpAny _ X.A (assign (.Name y B) X.env (.ref R)) _ _ p
 refine bg (az (i:=i) hN hi' hy hf (f++[(C,U)]) p σ H' (.ref R) (.ref R) (λσ' H1=>σ'=σ.set i (some (.ref R))/\H1=H') I' rfl ⟨rfl,rfl⟩) ?_;rintro _ O ⟨σ'',H'',G,e1,e2⟩
 subst e1 e2
 have hoC:O.heap.get? C=some U:=(G.pin (C,U) (Tf _ (Tf _ (D'.mpr rfl)))).1
 obtain⟨oC',es,ep,M,r⟩:=hn
 rw[ho] at M
 cases M
 refine⟨m,⟨U,es,ep,hoC,r⟩,λh' Y=>⟨σ.set i (some (.ref R)),H'',?_,qD⟩⟩
 obtain⟨hp,g,d,t,os⟩:=O
 exact G.fR.turned (λb o hb e=>(Y.2 b hb).trans e) F.1 F.2.1 F.2.2.2.1 F.2.2.2.2.1 F.2.2.2.2.2
def yu:g9 X (compareOp .Is) (λx y H Q=>∃a b,x=.bl a/\y=.bl b/\Q (.bl (a == b)) H):=by
 intro c s σ H x y v u Q I e f h
 obtain⟨a,b,rfl,rfl,q⟩:=h
 cases e
 cases f
 exact is_bool (aw I q rfl)
def yv:g9 X (compareOp .IsNot) (λx y H Q=>∃a b,x=.bl a/\y=.bl b/\Q (.bl (a != b)) H):=by
 intro c s σ H x y v u Q I e f h
 obtain⟨a,b,rfl,rfl,q⟩:=h
 cases e
 cases f
 exact isnot_bool (aw I q rfl)
def JH:g9 X (binaryOp .Mult) (rI aAl λi j=>.int (i*j)):=RN λ_ _ _ _ _ _ _ a q=>mul_int q a
mutual
inductive mU (K:l') (H:Hp):V->PyData->Prop
 |ae:mU K H .ae .none
 |bl (b:Bool):mU K H (.bl b) (.bool b)
 |int (i:Int):mU K H (.int i) (.int i)
 |str (x:Str):mU K H (.str x) (.str x)
 |lst {a:Addr} {xs:List V} {ds:List PyData}:cW K H a xs->km K H xs ds->mU K H (.ref a) (.list ds)
 |tup {a:Addr} {xs:List V} {ds:List PyData}:iN K H a xs->km K H xs ds->mU K H (.ref a) (.tuple ds)
inductive km (K:l') (H:Hp):List V->List PyData->Prop
 |nil:km K H [] []
 |cons {x:V} {d:PyData} {xs:List V} {ds:List PyData}:mU K H x d->km K H xs ds->km K H (x::xs) (d::ds)
end
def IsTup.of_get(p:IsTup h a b):∃o n,h.get? a=some o/\o.cls=.type "tuple"/\o.data=.seq b n:=by
 obtain⟨o,c,e,n,f⟩:=p
 exact⟨o,n,c,e,f⟩
mutual
def mU.reads{X:Cx}{c:List (Addr × Obj)}{σ:St}{H:Hp}{s:Shared}(I:Inv X c σ H s):∀{v:V} {d:PyData} {u:Value},mU X.K H v d->RelV v u->∃m,Reads s.heap u d m
 |_,_,u,.ae,r=>by cases(show u=T5 from r);exact⟨_,.none⟩
 |_,_,u,.bl b,r=>by cases(show u=Vu b from r);exact⟨_,.bool b⟩
 |_,_,u,.int i,r=>by obtain⟨t,q⟩:=(show ∃t,u=Vt i t from r);cases q;exact⟨_,.int i t⟩
 |_,_,u,.str x,r=>by obtain⟨t,q⟩:=(show ∃t,u=Um x t from r);cases q;exact⟨_,.str x t⟩
 |_,_,u,@mU.lst _ _ a xs ds h1 l,r=>by
  cases(show u=Td a from r)
  obtain⟨j,f,pl,_⟩:=I.list h1
  obtain⟨m,q⟩:=km.reads I l f
  obtain⟨o,n,e,g,_,h⟩:=pl
  exact⟨_,reads_list_at e g h (by simpa using q)⟩
 |_,_,u,@mU.tup _ _ a xs ds h1 l,r=>by
  cases(show u=Td a from r)
  obtain⟨j,f,pl,_⟩:=I.tuple h1
  obtain⟨m,q⟩:=km.reads I l f
  obtain⟨o,n,e,g,h⟩:=IsTup.of_get pl
  exact⟨_,reads_tuple_at e g h (by simpa using q)⟩
def km.reads{X:Cx}{a:List (Addr × Obj)}{σ:St}{H:Hp}{s:Shared}(I:Inv X a σ H s):∀{vs:List V} {ds:List PyData} {us:List Value},km X.K H vs ds->Vals vs us->∃b,ReadsAll s.heap us ds b
 |_,_,us,.nil,r=>by cases r;exact⟨_,.nil⟩
 |_,_,us,.cons h1 e,r=>by
  cases r with
  |cons c f =>
   obtain⟨b,q⟩:=mU.reads I h1 c
   obtain⟨bs,p⟩:=km.reads I e f
   exact⟨_,.cons q p⟩
end
def Ji(K:l')(neg:Bool):R2:=λx y H Q=>∃d e,mU K H x d/\mU K H y e/\U' d=true/\U' e=true/\Q (.bl (if neg then !Us d e else Us d e)) H
section
variable {X:Cx}
def Fv(f:X.A.units+64<cLine):g9 X (compareOp .Eq) (Ji X.K false):=by
 intro a s σ H x y v u Q I i b h
 obtain⟨d,e,g,m,c,l,q⟩:=h
 obtain⟨o,n⟩:=g.reads I i
 obtain⟨bs,j⟩:=m.reads I b
 exact eq_dataH n j c l f ⟨.bl _,H,I,rfl,q⟩
def Mm(f:X.A.units+64<cLine):g9 X (compareOp .NotEq) (Ji X.K true):=by
 intro a s σ H x y v u Q I i b h
 obtain⟨d,e,g,m,c,l,q⟩:=h
 obtain⟨o,n⟩:=g.reads I i
 obtain⟨bs,j⟩:=m.reads I b
 exact ne_dataH n j c l f ⟨.bl _,H,I,rfl,q⟩
def uU{bs:List Bool}:∀{a:List Value},Vals (bs.map V.bl) a->∀(i:Nat) (v:Value),a[i]?=some v->∃b,bs[i]?=some b/\v=.bool b:=by
 intro a r i v e
 have g:=r.length
 rw[tz] at g
 have j:i<a.length:=(Te.mp e).1
 have c:bs[i]?=some bs[i]:=F' (by omega)
 obtain⟨u,f,h⟩:=r.get (i:=i) (x:=V.bl bs[i]) (by rw[TX,c];rfl)
 rw[e] at f
 cases f
 exact⟨_,c,h⟩
def sZ(bs:List Bool):((Ua bs.length).all λi=>(bs[i]?).getD true)=bs.all id:=Zh bs
def xY:gH X (.builtin "all") (λn H Q=>∃(p:Addr) (bs:List Bool),n=[.ref p]/\X.A.handled=none/\cW X.K H p (bs.map V.bl)/\Q (.bl (bs.all id)) H):=by
 intro l s σ H n G Q I r h
 obtain⟨p,bs,rfl,w,x,q⟩:=h
 obtain⟨u,rfl,y⟩:=vals1 r
 cases(show u=Td p from y)
 obtain⟨a,o,j,_⟩:=I.list x
 have m:=j.isList
 have f:p<s.heap.objs.size:=j.lt
 have z:=uU o
 have c:a.length=bs.length:=by have:=o.length;rw[tz] at this;exact this.symm
 refine aAq (wpAny_pyIter_list m ?_)
 refine⟨s.heap.objs.size,[s.heap.objs.size,p],[s.heap.objs.size],a.toArray.size,_,_,λi=>(bs[i]?).getD true,rfl,Yl (A:=X.A.in1) w _ p (Tq f) a.toArray,
  ⟨⟨_,TN _ rfl,rfl,rfl⟩,m.push _⟩,λi v F J L B g=>?_,λE C t=>?_⟩
 ·obtain⟨b,e,rfl⟩:=z i v (by simpa using B)
  simp only[e,XF] at g
  exact wpAny_truthy_bool g
 ·have e:((Ua a.toArray.size).all λi=>(bs[i]?).getD true)=bs.all id:=by
   rw[Ti,c];exact sZ bs
  rw[e]
  exact⟨.bl (bs.all id),H,I.kept (W0 t),rfl,q⟩
end
def aL(h:H p=none):aH H (upd H p o):=λb u e=>by
 rw[aG (aQ e h)]
 exact e
def PE.imp(h:PE X e t)(f:∀ σ H Q,b σ H Q->t σ H Q):PE X e b:=λa s σ H Q I q=>h a s σ H Q I (f σ H Q q)
def Qk(x:Str):It:=⟨λi _=>i<x.cps.size,λi H v a=>a=H/\∃c,x.cps[i]?=some c/\v=.str ⟨#[c]⟩,λi _=>x.cps.size<=i,false⟩
def Dz{K:l'}(x:Str)(t:Tok)(it:Addr):Turn P w K M (Qk x) [it] it (λi h=>h.IsStrIter it "str_ascii_iterator" x t i) where
 mem:=by simp
 obj:=λi h st b g=>by
  have e:b=it:=by simpa using g
  subst e
  obtain⟨o,e,c,d⟩:=st
  exact⟨o,e,λv z=>by rw[d] at z;cases z⟩
 keep:=λi h l st k=>by
  obtain⟨o,e,r⟩:=st
  exact⟨o,k it (by simp) o e,r⟩
 item:=by
  intro X C F u i a s σ H E f I m st J
  have L:X.calm=true:=f.resolve_right λz=>absurd (show false=true from z.1) (by decide)
  subst C F u
  obtain⟨B,G,R,A,y,p⟩:=m it (by simp)
  have n:i<x.cps.size:=J
  refine wpAny_pyNext_ascii_item st (c:=x.cps[i]) (by simp[n]) λl j Q=>?_
  have N:Inv X a σ H { s with heap:=l,toks:=s.toks+1 }:=I.turned (λb o g e=>(Q.2 b g).trans e) B G A y p
  obtain⟨o,e,c,d⟩:=id j
  exact⟨_,rfl,yB (s:={ s with heap:=l,toks:=s.toks+1 }) e c d (by decide) ⟨.str ⟨#[x.cps[i]]⟩,H,N,⟨_,rfl⟩,⟨rfl,_,by simp[n],rfl⟩,j,λb g=>(m b g).1⟩⟩
 done:=by
  intro X C F u i a s σ H E f I m st J
  have L:X.calm=true:=f.resolve_right λz=>absurd (show false=true from z.1) (by decide)
  subst C F u
  obtain⟨B,G,R,A,y,p⟩:=m it (by simp)
  have n:x.cps.size<=i:=J
  exact wpAny_pyNext_ascii_end (I.ok.hd L) st (by simp[n]) λl O=>⟨rfl,I.turned (t':=s.toks) (λb o g e=>O b o g e) B G A y p⟩
 self:=λ_ _ _ _ _ st h=>wpAny_pyIter_striter_ascii st h
def D0{K:l'}(x:Str)(t:Tok)(it:Addr):Turn P w K M (Qk x) [it] it (λi h=>h.IsStrIter it "str_iterator" x t i) where
 mem:=by simp
 obj:=λi h st b g=>by
  have e:b=it:=by simpa using g
  subst e
  obtain⟨o,e,c,d⟩:=st
  exact⟨o,e,λv z=>by rw[d] at z;cases z⟩
 keep:=λi h l st k=>by
  obtain⟨o,e,r⟩:=st
  exact⟨o,k it (by simp) o e,r⟩
 item:=by
  intro X C F u i a s σ H E f I m st J
  have L:X.calm=true:=f.resolve_right λz=>absurd (show false=true from z.1) (by decide)
  subst C F u
  obtain⟨B,G,R,A,y,p⟩:=m it (by simp)
  have n:i<x.cps.size:=J
  refine wpAny_pyNext_wide_item st (c:=x.cps[i]) (by simp[n]) λl j Q=>?_
  have N:Inv X a σ H { s with heap:=l,toks:=s.toks+1 }:=I.turned (λb o g e=>(Q.2 b g).trans e) B G A y p
  obtain⟨o,e,c,d⟩:=id j
  exact⟨_,rfl,yB (s:={ s with heap:=l,toks:=s.toks+1 }) e c d (by decide) ⟨.str ⟨#[x.cps[i]]⟩,H,N,⟨_,rfl⟩,⟨rfl,_,by simp[n],rfl⟩,j,λb g=>(m b g).1⟩⟩
 done:=by
  intro X C F u i a s σ H E f I m st J
  have L:X.calm=true:=f.resolve_right λz=>absurd (show false=true from z.1) (by decide)
  subst C F u
  obtain⟨B,G,R,A,y,p⟩:=m it (by simp)
  have n:x.cps.size<=i:=J
  exact wpAny_pyNext_wide_end (I.ok.hd L) st (by simp[n]) λl O=>⟨rfl,I.turned (t':=s.toks) (λb o g e=>O b o g e) B G A y p⟩
 self:=λ_ _ _ _ _ st h=>wpAny_pyIter_striter_wide st h
def vW:∀l:List (Str × Tok),Vals ((l.map (·.1)).map V.str) (strValues l)
 |[]=>.nil
 | (x,t)::r=>.cons ⟨t,rfl⟩ (vW r)
def D3(b:Nat)(a:List Str):Vals (a.map V.str) (strsFrom b a):=by
 have h:=vW (numbered b a)
 rw[numbered_texts,<- strsFrom_eq] at h
 exact h
section
variable {X:Cx}
open Builtin Builtin.Str in
def Ff:N1 X "str.split" (λx vs H Q=>∃z y,x=.str z/\vs=[.str y]/\(y.length == 0)=false/\z.length+2<=sizeLine/\∀p,H p=none->Q (.ref p) (upd H p (.lst ((Uv z y).map V.str)))):=by
 intro f s σ H x vs v us Q I j l h
 obtain⟨z,y,rfl,rfl,g,m,q⟩:=h
 obtain⟨t,rfl⟩:=j
 obtain⟨n,rfl,u,rfl⟩:=l.one
 have a:(Uv z y).length<=sizeLine:=G' (split_le z y) m
 have c:z.length<=sizeLine:=by omega
 have q:=q s.heap.objs.size I.fresh
 cases h1:(decide (z.length<y.length)||decide (strKind z<strKind y)) with
 |true =>
  have e:Uv z y=[z]:=if_pos h1
  rw[e] at q
  refine call_meets WQ (typeIs_str _ _ _) XX (XN _ _) (meets_str_split_cannot_occur z y t u h1) ?_
  exact⟨.ref s.heap.objs.size,_,I.laid (t':=s.toks) (o:=.lst [.str z]) (λb i q=>B' _ q) (S' _) ⟨by show 1<=sizeLine;decide,_,0,.cons ⟨t,rfl⟩ .nil,TN _ rfl⟩,rfl,q⟩
 |false =>
  cases hf:(occurrences z y 0 z.length (z.length+1)).isEmpty with
  |true =>
   have e:Uv z y=[z]:=(if_neg (ne_true_of_eq_false h1)).trans (if_pos hf)
   rw[e] at q
   refine call_meets WQ (typeIs_str _ _ _) XX (XN _ _) (meets_str_split_not_found z y t u h1 g hf) ?_
   exact⟨.ref s.heap.objs.size,_,I.laid (t':=s.toks) (o:=.lst [.str z]) (λb i q=>B' _ q) (S' _) ⟨by show 1<=sizeLine;decide,_,0,.cons ⟨t,rfl⟩ .nil,TN _ rfl⟩,rfl,q⟩
  |false =>
   have e:Uv z y=partsBetween z (occurrences z y 0 z.length (z.length+1)) y.length:=(if_neg (ne_true_of_eq_false h1)).trans (if_neg (ne_true_of_eq_false hf))
   rw[e] at q a
   refine call_meets WQ (typeIs_str _ _ _) XX (XN _ _) (meets_str_split_sep z y t u h1 g hf c a) ?_
   exact⟨.ref s.heap.objs.size,_,I.laid (o:=.lst ((partsBetween z (occurrences z y 0 z.length (z.length+1)) y.length).map V.str)) (λb i q=>B' _ q) (S' _)
    ⟨by rw[tz];exact a,_,0,D3 _ _,TN _ rfl⟩,rfl,q⟩
def r_(p:IsPart v o):∃l:Option (Int × Tok),v=partValue l/\o=l.map (·.1):=by
 cases p with
 |none=>exact⟨none,rfl,rfl⟩
 |int i t=>exact⟨some (i,t),rfl,rfl⟩
def NO:HX X (λx lo a H Q=>∃z,x=.str z/\z.length<=sizeLine/\Q (.str (VB z lo a)) H):=by
 intro b s σ H x v m n lo a o Q I e j c f h
 obtain⟨z,rfl,g,q⟩:=h
 obtain⟨t,rfl⟩:=e
 obtain⟨l,rfl,rfl⟩:=r_ c
 obtain⟨u,rfl,rfl⟩:=r_ f
 refine⟨"str",_,F.slot_str_getitem.lookup,typeIs_str _ _ _,wpAny_getItem_str_slice (l:=l) (u:=u) (st:=none) j rfl ?_⟩
 exact post_val_or_str ⟨G' (Txt.slice_le z _ _) g,λi k=>⟨.str (VB z _ _),H,I.tok _,⟨i,rfl⟩,q⟩⟩
end
def mem_of_lookup{β:Type}{v:β}:∀{l:List (Str × β)},l.lookup y=some v->(y,v)∈l
 |[],h=>by simp at h
 | (x,u)::r,h=>by
  rw[Tx] at h
  cases e:y == x with
  |true =>
   rw[e] at h
   have a:=UA h
   have b:=eq_of_beq e
   subst a b
   exact N'
  |false =>
   rw[e] at h
   exact TR _ (mem_of_lookup h)
def h_(e:a.kind=.function)(b:Zo a X.env=pure [])(f:∀y∈a.names,y.2≠.cell)(g:∀y∈a.names,y.2≠.free)
  (i:∀y∈a.names,y.2=.local->a.names.lookup y.1=some .local):bY X a [] T [] [] :=
 ⟨e,b,f,i,λy c h=>by simp at h,λy h=>absurd rfl (g _ (mem_of_lookup h)),.nil⟩
def nz(i:a.kind=.function)(f:Zo a X.env=pure e)(l:∀y∈a.names,y.2≠.cell)
  (m:∀y∈a.names,y.2=.free->(e.lookup y.1).isSome=true)(n:∀y∈a.names,y.2=.local->a.names.lookup y.1=some .local)(o:∀p∈e,X.env.cells.lookup p.1=some p.2)
  (g:Paired (fun(j:Nat) (y:Str)=>X.N[j]?=some y/\(X.env.kindOf y=some .cell\/X.env.kindOf y=some .free)/\a.names.lookup y=some .free) b cn):bY X a e T b cn :=
 ⟨i,f,l,n,λy c h=>o (y,c) (mem_of_lookup h),λy h=>VC.mp (m _ (mem_of_lookup h) rfl),g⟩
def del(H:Hp)(a:Addr):Hp:=λb=>if b=a then none else H b
def rW :del H a a=none:=if_pos rfl
def cy(h:b≠a):del H a b=H b:=if_neg h
def l_(c:TE):TE:=λσ H Q=>∃D a,H D=some (.lst a)/\c σ (del H D) λy b=>b D=none->Q y (upd b D (.lst a))
def mE(tt:TT):TT:=λσ H Q=>∃D a,H D=some (.lst a)/\tt σ (del H D) λb c=>c D=none->Q b (upd c D (.lst a))
def qu(h:H a=none):del (upd H a o) a=H:=by
 funext b
 unfold del upd
 by_cases c:b=a
 ·rw[if_pos c,c,h]
 ·rw[if_neg c,if_neg c]
def eZ(H:Hp)(a dx:Addr):Hp:=λb=>if b=a\/b=dx then none else H b
def shown(H:Hp)(a dx C:Addr)(fs:List (Str × V)):Hp:=upd (upd H dx (.own a)) a (.ins C dx fs)
section
variable {X:Cx}{pins:List (Addr × Obj)}{σ:St}{H:Hp}{s:Shared}{a dx C:Addr}{fs:List (Str × V)}
def Inv.Fs(I:Inv X pins σ H s)(e:H a=some o):a∉X.fs/\(∀b o,X.s₀.heap.get? b=some o->X.H₀ b=none->b∉X.ex->b≠a)/\(∀p∈X.pn++pins,p.1≠a)/\∀x c,X.env.cells.lookup x=some c->c≠a:=by
 refine⟨λg=>?_,λb o q n f z=>?_,λp i z=>?_,λx c q z=>?_⟩
 ·have j:=I.ok.C7 a g
  obtain⟨_,o,h,_⟩:=I.ok.ip.mem g
  have f:a∉X.ex:=λf=>I.ok.xv a f g
  have:=I.base.free a o h j f
  rw[e] at this
  cases this
 ·have:=I.base.free b o q n f
  rw[z,e] at this
  cases this
 ·have:=(I.pin p i).2.1
  rw[z,e] at this
  cases this
 ·have:=I.cZ x c q
  rw[z,e] at this
  cases this
end
def Jx(e:TE):TE:=λσ H Q=>∃a b C fs,H a=some (.ins C b fs)/\e σ (eZ H a b) λy c=>c a=none->c b=none->b≠a->Q y (shown c a b C fs)
def Jm(f:TS):TS:=λD σ H=>∃a c C fs,H a=some (.ins C c fs) /\
 f ⟨λe b=>b a=none->b c=none->c≠a->D.nx e (shown b a c C fs),λv b=>b a=none->b c=none->c≠a->D.rt v (shown b a c C fs),
  λe b=>b a=none->b c=none->c≠a->D.bk e (shown b a c C fs),λe b=>b a=none->b c=none->c≠a->D.ct e (shown b a c C fs)⟩ σ (eZ H a c)
def mJ(g:H a=none)(h:H f=none):eZ (shown H a f C fs) a f=H:=by
 funext b
 unfold eZ shown upd
 by_cases e:b=a
 ·rw[if_pos (.inl e),e,g]
 ·by_cases c:b=f
  ·rw[if_pos (.inr c),c,h]
  ·rw[if_neg (λz=>z.elim e c),if_neg e,if_neg c]
def D2 :upd (shown H a c C fs) a (.ins C c b)=shown H a c C b:=pH
def pC :shown H a b C fs a=some (.ins C b fs):=aF
def aa(H:Hp)(L:List Addr):Hp:=λb=>if b∈L then none else H b
def ao(a H:Hp)(L:List Addr):Hp:=λb=>if b∈L then H b else a b
def dH(h:b∈L):aa H L b=none:=if_pos h
def bf(h:b∉L):aa H L b=H b:=if_neg h
def ir(h:H b=none):aa H L b=none:=by unfold aa;split<;>first|rfl|exact h
def pT(h:aa H L b=some o):b∉L/\H b=some o:=by
 unfold aa at h
 split at h
 ·cases h
 ·rename_i z;exact⟨z,h⟩
def bJ :aH (aa H L) H:=λb o h=>(pT h).2
def bO :aa H []=H:=by funext b;exact if_neg (λh=>nomatch h)
def aV(h:b∈L):ao a H L b=H b:=if_pos h
def aS(h:b∉L):ao a H L b=a b:=if_neg h
def bh(h:∀b∈L,c b=none):aa (ao c H L) L=c:=by
 funext b
 by_cases a:b∈L
 ·rw[dH a,h b a]
 ·rw[bf a,aS a]
inductive fh (H:Hp) (L:List Addr) (a:Addr):Prop
 |lst (xs:List V) (h:H a=some (.lst xs))
 |dK (kvs:List (Key × V)) (h:H a=some (.dK kvs))
 |ext (φ:Heap->Prop) (h:H a=some (.ext φ)) (hc:∀g,φ g->∃o,g.get? a=some o/\∀v,o.data≠.cell v)
 |ins (C dx:Addr) (fs:List (Str × V)) (h:H a=some (.ins C dx fs)) (hd:dx∈L)
 |own (C b:Addr) (fs:List (Str × V)) (h:H a=some (.own b)) (hb:b∈L) (hi:H b=some (.ins C a fs))
def fh.there(h:fh H L a):∃o,H a=some o:=by cases h<;>exact⟨_,by assumption⟩
def fh.yt(h:fh H L a):(∀e,H a≠some (.tup e))/\(∀o u,H a≠some (.eu o u))/\(∀g,H a≠some (.HP g))/\∀b,H a=some (.own b)->b∈L:=by
 cases h with
 |lst e h=>rw[h];exact⟨λ_ q=>(nomatch q),λ_ _ q=>(nomatch q),λ_ q=>(nomatch q),λ_ q=>(nomatch q)⟩
 |dK e h=>rw[h];exact⟨λ_ q=>(nomatch q),λ_ _ q=>(nomatch q),λ_ q=>(nomatch q),λ_ q=>(nomatch q)⟩
 |ext φ h i=>rw[h];exact⟨λ_ q=>(nomatch q),λ_ _ q=>(nomatch q),λ_ q=>(nomatch q),λ_ q=>(nomatch q)⟩
 |ins C m fs h l=>rw[h];exact⟨λ_ q=>(nomatch q),λ_ _ q=>(nomatch q),λ_ q=>(nomatch q),λ_ q=>(nomatch q)⟩
 |own C b fs h f j=>rw[h];exact⟨λ_ q=>(nomatch q),λ_ _ q=>(nomatch q),λ_ q=>(nomatch q),λc q=>by cases q;exact f⟩
def fh.obj{σ:St}(h:fh H L a)(I:Inv X g σ H s):∃o,s.heap.get? a=some o/\∀v,o.data≠.cell v:=by
 cases h with
 |lst xs h =>
  obtain⟨_,p,n,_,i⟩:=(show aO X.prog X.w H s.heap a (.lst xs) from I.au a _ h)
  exact⟨_,i,λv q=>by cases q⟩
 |dK f h =>
  obtain⟨_,_,vs,_,B,t,x,e,c⟩:=(show aO X.prog X.w H s.heap a (.dK f) from I.au a _ h)
  exact⟨_,e,λv q=>by rw[c.2.1] at q;cases q⟩
 |ext φ h j=>exact j _ (show aO X.prog X.w H s.heap a (.ext φ) from I.au a _ h).1
 |ins C u fs h E =>
  obtain⟨_,_,_,e,_⟩:=(show aO X.prog X.w H s.heap a (.ins C u fs) from I.au a _ h)
  exact⟨_,e,λv q=>by cases q⟩
 |own C b fs h z l =>
  obtain⟨_,_,_,_,y,⟨A,t,x,m,c⟩,r⟩:=(show aO X.prog X.w H s.heap b (.ins C a fs) from I.au b _ l)
  exact⟨_,m,λv q=>by rw[c.1] at q;cases q⟩
def pS{σ:St}{G:Prop}(I:Inv X m σ H s)(i:∀a∈L,fh H L a)
  (h:∀S:List (Addr × Obj),Inv X (m++S) σ (aa H L) s->(∀b∈L,∃o,(b,o)∈S)->(∀(Z:St) (F:Hp) (N:Shared),Inv X (m++S) Z F N->(∀b∈L,F b=none)/\Inv X m Z (ao F H L) N)->G):G:=by
 have y:∀{b:Addr} {o:Obj},(b,o)∈nO L s.heap ↔ b∈L/\s.heap.get? b=some o:=fun{b o}=>⟨λq=>pk q,λq=>gQ q.1 q.2⟩
 refine h (nO L s.heap) ?_ (λb l=>let ⟨o,e,_⟩:=(i b l).obj I;⟨o,y.mpr ⟨l,e⟩⟩) λZ F N J=>?_
 ·refine⟨I.ok,I.os,I.bare,⟨I.base.keep,I.base.slot,λb o q n O=>ir (I.base.free b o q n O),I.base.there,λb A q=>?_,λb o u q=>?_,λb ps q=>?_⟩,I.loc,I.cell,ir I.free,λx c q=>ir (I.cZ x c q),λp B=>?_,λb o q=>?_,I.len⟩
  ·have z:=I.base.hU b A q
   rw[bf (λw=>(i b w).yt.1 _ z)];exact z
  ·have z:=I.base.dZ b o u q
   rw[bf (λw=>(i b w).yt.2.1 _ _ z)];exact z
  ·obtain⟨t,z⟩:=I.base.mC b ps q
   exact⟨t,by rw[bf (λw=>(i b w).yt.2.2.1 _ z)];exact z⟩
  ·rw[<- US] at B
   rcases T4.mp B with z|z
   ·obtain⟨p1,T,U,p4,W⟩:=I.pin p z
    exact⟨p1,ir T,U,p4,W⟩
   ·obtain⟨E,Q⟩:=pk z
    obtain⟨o,e⟩:=(i p.1 E).there
    refine⟨Q,dH E,λw=>?_,(I.Fs e).1,λv q=>?_⟩
    ·have f:=I.free
     rw[<- w,e] at f
     cases f
    ·obtain⟨ob,P,nc⟩:=(i p.1 E).obj I
     rw[Q] at P
     cases P
     exact nc v q
  ·obtain⟨l,q⟩:=pT q
   refine(I.au b o q).qH (λ_ _ _ z=>z) (λc j=>?_) (λc A j=>?_)
   ·rw[bf (λw=>l ((i c w).yt.2.2.2 _ j))];exact j
   ·rw[bf (λw=>(i c w).yt.1 _ j)];exact j
 ·have g:∀b∈L,F b=none/\∀o,s.heap.get? b=some o->N.heap.get? b=some o:=λb l=>by
   obtain⟨o,e,_⟩:=(i b l).obj I
   obtain⟨g1,g2,_⟩:=J.pin (b,o) (Tf _ (Tf _ (y.mpr ⟨l,e⟩)))
   exact⟨g2,λM e'=>by rw[e] at e';cases e';exact g1⟩
  refine⟨λb l=>(g b l).1,⟨J.ok,J.os,J.bare,⟨J.base.keep,J.base.slot,λb o q n O=>?_,J.base.there,λb A q=>?_,λb o u q=>?_,λb ps q=>?_⟩,J.loc,J.cell,?_,λx c q=>?_,λp B=>?_,λb o q=>?_,J.len⟩⟩
  ·rw[aS (λw=>let ⟨M,e⟩:=(i b w).there;(I.Fs e).2.1 b o q n O rfl)]
   exact J.base.free b o q n O
  ·have z:=J.base.hU b A q
   rw[aS (λw=>by rw[(g b w).1] at z;cases z)];exact z
  ·have z:=J.base.dZ b o u q
   rw[aS (λw=>by rw[(g b w).1] at z;cases z)];exact z
  ·obtain⟨t,z⟩:=J.base.mC b ps q
   exact⟨t,by rw[aS (λw=>by rw[(g b w).1] at z;cases z)];exact z⟩
  ·rw[aS (λw=>let ⟨M,e⟩:=(i _ w).there;by rw[I.free] at e;cases e)]
   exact J.free
  ·rw[aS (λw=>let ⟨M,e⟩:=(i _ w).there;by rw[I.cZ x c q] at e;cases e)]
   exact J.cZ x c q
  ·obtain⟨p1,T,U,p4,W⟩:=J.pin p (by rw[<- US];exact To _ B)
   refine⟨p1,?_,U,p4,W⟩
   rw[aS (λw=>let ⟨M,e⟩:=(i _ w).there;(I.Fs e).2.2.1 p B rfl)]
   exact T
  ·by_cases l:b∈L
   ·rw[aV l] at q
    have k:=(g b l).2
    have w:=i b l
    cases w with
    |lst A h =>
     rw[h] at q;cases q
     obtain⟨hz,its,n,R,ho⟩:=(show aO X.prog X.w H s.heap b (.lst A) from I.au b _ h)
     exact⟨hz,its,n,R,k _ ho⟩
    |dK Y h =>
     rw[h] at q;cases q
     obtain⟨E,Q,vs,R,ob,es,ep,e,c⟩:=(show aO X.prog X.w H s.heap b (.dK Y) from I.au b _ h)
     exact⟨E,Q,vs,R,ob,es,ep,k _ e,c⟩
    |ext φ h j =>
     rw[h] at q;cases q
     obtain⟨B,⟨o,e⟩,cl⟩:=(show aO X.prog X.w H s.heap b (.ext φ) from I.au b _ h)
     exact⟨cl _ _ B k,⟨o,k _ e⟩,cl⟩
    |ins C dx fs h hd =>
     rw[h] at q;cases q
     obtain⟨d,z,ne,ea,mA,⟨od,es,ep,P,c⟩,r⟩:=(show aO X.prog X.w H s.heap b (.ins C dx fs) from I.au b _ h)
     exact⟨by rw[aV hd];exact d,z,ne,k _ ea,mA,⟨od,es,ep,(g dx hd).2 _ P,c⟩,r⟩
    |own C a fs h ha hi =>
     rw[h] at q;cases q
     obtain⟨o,e⟩:=(show aO X.prog X.w H s.heap b (.own a) from I.au b _ h)
     exact⟨o,k _ e⟩
   ·rw[aS l] at q
    refine(J.au b o q).qH (λ_ _ _ z=>z) (λc j=>?_) (λc A j=>?_)
    ·rw[aS (λw=>by rw[(g c w).1] at j;cases j)];exact j
    ·rw[aS (λw=>by rw[(g c w).1] at j;cases j)];exact j
def Sn(e:TE):TE:=λσ H Q=>∃L,(∀a∈L,fh H L a)/\e σ (aa H L) λy c=>(∀b∈L,c b=none)->Q y (ao c H L)
def iT(h:PE X e c):PE X e (Sn c):=by
 intro a s σ H Q I ⟨L,hL,q⟩
 refine pS I hL λf i _ b=>?_
 refine bg (h (a++f) s σ _ _ i q) ?_;rintro v l ⟨y,j,g,r,k⟩
 obtain⟨z,J⟩:=b _ _ _ g
 exact⟨y,_,J,r,k z⟩
def Ss(tt:TT):TT:=λσ H Q=>∃L,(∀a∈L,fh H L a)/\tt σ (aa H L) λy c=>(∀b∈L,c b=none)->Q y (ao c H L)
def v_(D:Ends)(H:Hp)(L:List Addr):Ends:=⟨λc a=>(∀b∈L,a b=none)->D.nx c (ao a H L),λv a=>(∀b∈L,a b=none)->D.rt v (ao a H L),
 λc a=>(∀b∈L,a b=none)->D.bk c (ao a H L),λc a=>(∀b∈L,a b=none)->D.ct c (ao a H L)⟩
def Qz(b:TS):TS:=λD σ H=>∃L,(∀a∈L,fh H L a)/\b (v_ D H L) σ (aa H L)
def CK(c:∀(e:St) (h:Hp) (m:Shared),Inv X (a++j) e h m->(∀b∈L,h b=none)/\Inv X a e (ao h H L) m)
  (i:SP X (a++j) (v_ D H L) f l):SP X a D f l:=by
 cases f with
 |next=>obtain⟨e,h,J,k⟩:=i;obtain⟨z,g⟩:=c _ _ _ J;exact⟨e,_,g,k z⟩
 |brk=>obtain⟨e,h,J,k⟩:=i;obtain⟨z,g⟩:=c _ _ _ J;exact⟨e,_,g,k z⟩
 |cont=>obtain⟨e,h,J,k⟩:=i;obtain⟨z,g⟩:=c _ _ _ J;exact⟨e,_,g,k z⟩
 |ret u=>obtain⟨v,e,h,J,r,k⟩:=i;obtain⟨z,g⟩:=c _ _ _ J;exact⟨v,e,_,g,r,k z⟩
def GO{st:Stmt}(h:PS X st e):PS X st (Qz e):=by
 intro a s σ H D I ⟨L,hL,q⟩
 refine pS I hL λc i _ b=>?_
 exact bg (h (a++c) s σ _ _ i q) λf j g=>CK b g
def JY(i:kq X a g):kq X a (Qz g):=by
 intro b s σ H D I ⟨L,hL,q⟩
 refine pS I hL λe j _ c=>?_
 exact bg (i (b++e) s σ _ _ j q) λf l h=>CK c h
def Sr(e:TI):TI:=λσ H R=>∃L,(∀a∈L,fh H L a)/\e σ (aa H L) λJ c=>(∀b∈L,c b=none)->R J (ao c H L)
def M4(F:PI X u a A):PI X u a (Sr A):=by
 intro c s σ H R I ⟨L,hL,q⟩
 refine pS I hL λj S g e=>?_
 refine bg (F (c++j) s σ _ _ S q) λv Z E=>bg E ?_;rintro n W ⟨t,i,w,J,Y,M,x,T,m,h,k⟩
 obtain⟨z,O⟩:=e _ _ _ x
 have r:∀b∈i,b∉L:=λb f y=>let ⟨o,G⟩:=g b y;(h b f).2.2.2.2.2 (b,o) (Tf _ (Tf _ G)) rfl
 refine⟨t,i,w,J,_,M,O,T,m,λb f=>?_,k z⟩
 obtain⟨P,Q,C,B,l,U⟩:=h b f
 exact⟨by rw[aS (r b f)];exact P,Q,C,B,l,λp N=>U p (by rw[<- US];exact To _ N)⟩
def yD :aa H [a]=del H a:=by
 funext b
 by_cases h:b=a
 ·rw[h,dH N',rW]
 ·rw[bf (λz=>h (D'.mp z)),cy h]
def vP(e:H a=some o):ao c H [a]=upd c a o:=by
 funext b
 by_cases h:b=a
 ·rw[h,aV N',aF,e]
 ·rw[aS (λz=>h (D'.mp z)),aG h]
def yE :aa H [a,c]=eZ H a c:=by
 funext b
 unfold aa eZ
 simp
def vQ(i:H a=some (.ins C c fs))(g:H c=some (.own a)):ao f H [a,c]=shown f a c C fs:=by
 funext b
 unfold shown
 by_cases h:b=a
 ·rw[h,aV N',aF,i]
 ·rw[aG h]
  by_cases e:b=c
  ·rw[e,aV (TR _ N'),aF,g]
  ·rw[aS (λz=>by simp at z;exact z.elim h e),aG e]
def gG(g:PE X e f):PE X e (l_ f):=fun b s σ H Q I ⟨D,i,c,q⟩ =>
 iT g b s σ H Q I ⟨[D],λa h=>by rw[D'.mp h];exact .lst i c,by rw[yD];simpa only[vP c,D',forall_eq] using q⟩
def Ja(g:zZ X a tt):zZ X a (Ss tt):=by
 intro b s σ H Q I ⟨L,hL,q⟩
 refine pS I hL λe h _ c=>?_
 refine bg (g (b++e) s σ _ _ h q) ?_;rintro v j ⟨i,f,k⟩
 obtain⟨z,J⟩:=c _ _ _ f
 exact⟨_,J,k z⟩
def fA(f:zZ X b tt):zZ X b (mE tt):=fun c s σ H Q I ⟨D,h,e,q⟩ =>
 Ja f c s σ H Q I ⟨[D],λa g=>by rw[D'.mp g];exact .lst h e,by rw[yD];simpa only[vP e,D',forall_eq] using q⟩
def G9{σ:St}(I:Inv X e σ H s)(f:H a=some (.ins C c fs)):H c=some (.own a)/\c≠a/\∀b∈[a,c],fh H [a,c] b:=by
 obtain⟨d,_,g,_⟩:=(show aO X.prog X.w H s.heap a (.ins C c fs) from I.au a _ f)
 refine⟨d,g,λb hb=>?_⟩
 rcases Gc.mp hb with rfl|hb
 ·exact .ins C c fs f (by simp)
 ·rw[D'.mp hb];exact .own C a fs d (by simp) f
def An(i:PE X e h):PE X e (Jx h):=fun f s σ H Q I ⟨a,c,C,fs,g,q⟩=>by
 obtain⟨d,j,ok⟩:=G9 I g
 refine iT i f s σ H Q I ⟨[a,c],ok,?_⟩
 rw[yE]
 simp only[vQ g d,Gc,Tt,or_false,forall_eq_or_imp,forall_eq]
 exact(show(λy b=>b a=none->b c=none->c≠a->Q y (shown b a c C fs))=λy b=>b a=none/\b c=none->Q y (shown b a c C fs) by funext y b;simp[j]) ▸ q
def Ap{st:Stmt}(i:PS X st j):PS X st (Jm j):=fun g s σ H D I ⟨a,c,C,fs,h,q⟩=>by
 obtain⟨d,l,ok⟩:=G9 I h
 refine GO i g s σ H D I ⟨[a,c],ok,?_⟩
 rw[yE]
 have e:v_ D H [a,c]=⟨λf b=>b a=none->b c=none->c≠a->D.nx f (shown b a c C fs),λv b=>b a=none->b c=none->c≠a->D.rt v (shown b a c C fs),
  λf b=>b a=none->b c=none->c≠a->D.bk f (shown b a c C fs),λf b=>b a=none->b c=none->c≠a->D.ct f (shown b a c C fs)⟩:=by
  unfold v_
  simp[vQ h d,l]
 rw[e]
 exact q
end L2
namespace DC
inductive D where
 |ae|bl (b:Bool)|int (i:Int)|str (x:Str)
 |lst (xs:List D)|tup (xs:List D)
 |obj (C:Addr) (fs:List (Str × D))
 |dK (kvs:List (Key × D))|dT (kvs:List (List Int × D))
 |adr (a:Addr)
 |exc (a C:Addr) (fs:List (Str × D))
def fK(a C:Addr)(dx:Option Addr):HO:=.ext λh=>∃oe vs,h.get? a=some oe/\oe.cls=.ref C/\oe.dict=dx/\oe.data=.fields vs/\vs[2]?=some .none
def vm(d:Addr)(fs:List (Str × V)):HO:=.ext λh=>∃a,h.Ns1 d a/\(∀f,gJ (fs.lookup f) (a f))/\Vk a (fs.map (·.1))
def hT(k:List Int):Int:=reduceHash (aAB (k.map hashInt))
abbrev XT:=List (List Int × Addr × Value)
def Qv(x:List Int × Addr × Value):DictEntry:={ hash:=hT x.1,key:=.ref x.2.1,val:=x.2.2 }
def Qi(a:Addr)(xs:XT):HO:=.ext λh=>(xs.map (·.1)).Nodup/\xs.length<=sizeLine/\(a == U_)=false/\∃o b ep,h.get? a=some o/\o.ExactDict/\o.data=.dict b ep/\b.toList=xs.map Qv
def hW(H:Hp)(dx:Option Addr)(fs:List (Str × V)):Prop:=match dx with
 |none=>fs=[]
 |some d=>Rd H d (vm d fs)
def kO(s:aH H b)(r:Rd H a u):Rd b a u:=by
 rcases r with r|⟨o,r⟩
 ·exact .inl (s _ _ r)
 ·exact .inr ⟨o,s _ _ r⟩
def hW.same(s:aH H b)(h:hW H a fs):hW b a fs:=by
 cases a with
 |none=>exact h
 |some d=>exact kO s h
mutual
inductive Dv (K:l') (H:Hp):V->D->Prop
 |ae:Dv K H .ae .ae
 |bl (b:Bool):Dv K H (.bl b) (.bl b)
 |int (i:Int):Dv K H (.int i) (.int i)
 |str (x:Str):Dv K H (.str x) (.str x)
 |lst {a:Addr} {xs:List V} {ds:List D}:cW K H a xs->bA K H xs ds->Dv K H (.ref a) (.lst ds)
 |tup {a:Addr} {xs:List V} {ds:List D}:iN K H a xs->bA K H xs ds->Dv K H (.ref a) (.tup ds)
 |obj {a C dx:Addr} {fs:List (Str × V)} {gs:List (Str × D)}:Rd H a (.ins C dx fs)->gC K H fs gs->Dv K H (.ref a) (.obj C gs)
 |dK {a:Addr} {kvs:List (Key × V)} {gs:List (Key × D)}:Rd H a (.dK kvs)->fg K H kvs gs->Dv K H (.ref a) (.dK gs)
 |dT {a:Addr} {xs:XT} {gs:List (List Int × D)}:Rd H a (Qi a xs)->va K H xs gs->Dv K H (.ref a) (.dT gs)
 |adr (a:Addr):Dv K H (.ref a) (.adr a)
 |exc {a C:Addr} {dx:Option Addr} {fs:List (Str × V)} {gs:List (Str × D)}:Rd H a (fK a C dx)->hW H dx fs->gC K H fs gs->Dv K H (.ref a) (.exc a C gs)
inductive bA (K:l') (H:Hp):List V->List D->Prop
 |nil:bA K H [] []
 |cons {x:V} {d:D} {xs:List V} {ds:List D}:Dv K H x d->bA K H xs ds->bA K H (x::xs) (d::ds)
inductive gC (K:l') (H:Hp):List (Str × V)->List (Str × D)->Prop
 |nil:gC K H [] []
 |cons {k:Str} {x:V} {d:D} {xs:List (Str × V)} {ds:List (Str × D)}:Dv K H x d->gC K H xs ds->gC K H ((k,x)::xs) ((k,d)::ds)
inductive fg (K:l') (H:Hp):List (Key × V)->List (Key × D)->Prop
 |nil:fg K H [] []
 |cons {k:Key} {x:V} {d:D} {xs:List (Key × V)} {ds:List (Key × D)}:Dv K H x d->fg K H xs ds->fg K H ((k,x)::xs) ((k,d)::ds)
inductive va (K:l') (H:Hp):XT->List (List Int × D)->Prop
 |nil:va K H [] []
 |cons {k:List Int} {b:Addr} {u:Value} {x:V} {d:D} {xs:XT} {ds:List (List Int × D)}:iN K H b (k.map V.int)->RelV x u->Dv K H x d->va K H xs ds->va K H ((k,b,u)::xs) ((k,d)::ds)
end
def mZ{K:l'}(e:aH H b)(h:iN K H a xs):iN K b a xs:=by
 rcases h with(h|⟨o,h⟩)|h
 ·exact .inl (.inl (e _ _ h))
 ·exact .inl (.inr ⟨o,e _ _ h⟩)
 ·exact .inr h
section
variable {K:l'}{H H':Hp}
mutual
def Dv.same(s:aH H H'):∀{v:V} {d:D},Dv K H v d->Dv K H' v d
 |_,_,.ae=>.ae
 |_,_,.bl b=>.bl b
 |_,_,.int i=>.int i
 |_,_,.str x=>.str x
 |_,_,.lst h1 c=>.lst (s.seq h1) (bA.same s c)
 |_,_,.tup h1 c=>.tup (mZ s h1) (bA.same s c)
 |_,_,.obj h1 c=>.obj (kO s h1) (gC.same s c)
 |_,_,.dK h1 c=>.dK (kO s h1) (fg.same s c)
 |_,_,.dT h1 c=>.dT (kO s h1) (va.same s c)
 |_,_,.adr a=>.adr a
 |_,_,.exc h1 c e=>.exc (kO s h1) (c.same s) (gC.same s e)
def bA.same(s:aH H H'):∀{vs:List V} {ds:List D},bA K H vs ds->bA K H' vs ds
 |_,_,.nil=>.nil
 |_,_,.cons h1 a=>.cons (Dv.same s h1) (bA.same s a)
def gC.same(s:aH H H'):∀{vs:List (Str × V)} {ds:List (Str × D)},gC K H vs ds->gC K H' vs ds
 |_,_,.nil=>.nil
 |_,_,.cons h1 a=>.cons (Dv.same s h1) (gC.same s a)
def fg.same(s:aH H H'):∀{vs:List (Key × V)} {ds:List (Key × D)},fg K H vs ds->fg K H' vs ds
 |_,_,.nil=>.nil
 |_,_,.cons h1 a=>.cons (Dv.same s h1) (fg.same s a)
def va.same(s:aH H H'):∀{vs:XT} {ds:List (List Int × D)},va K H vs ds->va K H' vs ds
 |_,_,.nil=>.nil
 |_,_,.cons c a h1 b=>.cons (mZ s c) a (Dv.same s h1) (va.same s b)
end
def bA.length:∀{a:List V} {ds:List D},bA K H a ds->a.length=ds.length
 |_,_,.nil=>rfl
 |_,_,.cons _ h=>congrArg (·+1) (bA.length h)
def bA.get:∀{a:List V} {b:List D} {i:Nat} {d:D},bA K H a b->b[i]?=some d->∃v,a[i]?=some v/\Dv K H v d
 |_,_,_,_,.nil,e=>by simp at e
 |_,_,0,_,.cons h _,e=>by simp at e;subst e;exact⟨_,rfl,h⟩
 |_,_,i+1,d,.cons _ h,e=>by
  obtain⟨v,c,f⟩:=bA.get (i:=i) (d:=d) h (by simpa using e)
  exact⟨v,by simpa using c,f⟩
def bA.x_:∀{a:List V} {b:List D} {i:Nat} {v:V},bA K H a b->a[i]?=some v->∃d,b[i]?=some d/\Dv K H v d
 |_,_,_,_,.nil,e=>by simp at e
 |_,_,0,_,.cons h _,e=>by simp at e;subst e;exact⟨_,rfl,h⟩
 |_,_,i+1,v,.cons _ h,e=>by
  obtain⟨d,c,f⟩:=bA.x_ (i:=i) (v:=v) h (by simpa using e)
  exact⟨d,by simpa using c,f⟩
def bA.append:∀{b f:List V} {e c:List D},bA K H b e->bA K H f c->bA K H (b++f) (e++c)
 |_,_,_,_,.nil,h=>h
 |_,_,_,_,.cons a r,h=>.cons a (bA.append r h)
def bA.take:∀{a:List V} {b:List D} (n:Nat),bA K H a b->bA K H (a.take n) (b.take n)
 |_,_,0,_=>.nil
 |_,_,_+1,.nil=>.nil
 |_,_,n+1,.cons r t=>.cons r (bA.take n t)
def bA.drop:∀{a:List V} {b:List D} (n:Nat),bA K H a b->bA K H (a.drop n) (b.drop n)
 |_,_,0,r=>r
 |_,_,_+1,.nil=>.nil
 |_,_,n+1,.cons _ t=>bA.drop n t
def gC.look:∀{fs:List (Str × V)} {a:List (Str × D)} {f:Str} {d:D},gC K H fs a->a.lookup f=some d->∃v,fs.lookup f=some v/\Dv K H v d
 |_,_,_,_,.nil,e=>by simp at e
 |_,_,f,d,.cons (k:=k) h r,e=>by
  rw[Tx] at e ⊢
  cases q:f == k with
  |true =>
   rw[q] at e
   cases e
   exact⟨_,rfl,h⟩
  |false =>
   rw[q] at e
   exact gC.look r e
def gC.none:∀{fs:List (Str × V)} {a:List (Str × D)} {f:Str},gC K H fs a->a.lookup f=YB->fs.lookup f=YB
 |_,_,_,.nil,_=>rfl
 |_,_,f,.cons (k:=k) h r,e=>by
  rw[Tx] at e ⊢
  cases q:f == k with
  |true=>rw[q] at e;cases e
  |false =>
   rw[q] at e
   exact gC.none r e
end
def rp(g:dz P w H h)(e:Rd H a (.ins C c fs)):∃b,xR h a c C b/\(∀f,gJ (fs.lookup f) (b f))/\Vk b (fs.map (·.1))/\fs.length<=1000/\H c=some (.own a):=by
 obtain⟨d,z,i,j,b,n,r,q⟩:=(show aO P w H h a (.ins C c fs) from e.ok g)
 exact⟨b,⟨j,n,i⟩,r,q,z,d⟩
def yA{σ:L2.St}(I:Inv X g σ H s)(e:Rd H a (.ins C t fs))(c:tY X.K C)(n:dP X.K C f)(l:fs.lookup f=some v)
  (h:∀u j,Inv X g σ H j->RelV v u->Q u j):wpAny (model X.prog X.w) A (getAttr (.ref a) f b) Q E s:=by
 obtain⟨m,O,r,_,_,_⟩:=rp I.au e
 obtain⟨u,p,i⟩:=gJ.some_of (v:=v) (o:=m f) (by rw[<- l];exact r f)
 exact get_map I.lQ O (c.get f) c.hd n p (uh i) (h u _ (I.tok _) i)
def lN{σ:L2.St}(I:Inv X b σ H s)(e:Rd H a (.ins C n fs))(c:tY X.K C)(k:Meth X.K C m g)(l:fs.lookup m=none)
  (h:Q (.ref g,[.ref a]) s):wpAny (model X.prog X.w) A (getMethod (.ref a) m i) Q E s:=by
 obtain⟨f,O,r,_,_,_⟩:=rp I.au e
 have j:f m=none:=gJ.none_of (by rw[<- l];exact r m)
 exact FA I.lQ O (c.get m) k.at_ k.fn j h
def P5(K:l')(c:TE)(f:Str):TE:=λσ H Q=>c σ H λx b=>∃a C e fs v,x=.ref a/\Rd b a (.ins C e fs)/\tY K C/\dP K C f/\fs.lookup f=some v/\Q v b
def JP(w:PE X e i)(p:UZ e f X.env (eval e X.env)=eval e X.env):PE X (.Attribute e f g) (P5 X.K i f):=by
 intro b s σ H Q I h
 refine BL p (bg (w b s σ H _ I h) ?_);rintro u E ⟨x,m,y,o,a,C,A,fs,v,z,r,c,n,l,q⟩
 subst z
 obtain rfl:u=Td a:=o
 exact yA y r c n l λF B j t=>⟨v,m,j,t,q⟩
abbrev SD:=List (Option D)
abbrev ED:=SD->(D->Prop)->Prop
abbrev TD:=SD->(Bool->Prop)->Prop
abbrev AD:=SD->(List D->Prop)->Prop
structure bG (K:l') (H:Hp) (σ:L2.St) (δ:SD):Prop where
 len:σ.length=δ.length
 get:∀(i:Nat) (d:D),δ[i]?=some (some d)->∃v,σ[i]?=some (some v)/\Dv K H v d
def bG.same{K:l'}(r:bG K H σ δ)(s:aH H a):bG K a σ δ :=
 ⟨r.len,λi d h=>let ⟨v,b,c⟩:=r.get i d h;⟨v,b,c.same s⟩⟩
def bG.set{K:l'}(r:bG K H σ δ)(i:Nat)(h:Dv K H v d):bG K H (σ.set i (some v)) (δ.set i (some d)):=by
 refine⟨by rw[V8,V8];exact r.len,λj e a=>?_⟩
 rw[WU] at a ⊢
 split at a
 ·rename_i q
  subst q
  have c:=r.len
  split at a
  ·rename_i b
   cases a
   exact⟨v,by rw[if_pos rfl,if_pos (by omega)],h⟩
  ·cases a
 ·rename_i q
  rw[if_neg q]
  exact r.get j e a
def kD(K:l')(H:Hp)(Q:VK):D->Prop:=λd=>∀v a,aH H a->Dv K a v d->Q v a
def kB(H:Hp)(Q:Bool->Hp->Prop):Bool->Prop:=λb=>∀a,aH H a->Q b a
def kA(K:l')(H:Hp)(Q:List V->Hp->Prop):List D->Prop:=λds=>∀vs a,aH H a->bA K a vs ds->Q vs a
def kD.on{K:l'}(s:aH H a)(h:kD K H Q d):kD K a Q d:=λv b c dv=>h v b (s.trans c) dv
def kB.on(s:aH H a)(h:kB H Q b):kB a Q b:=λc e=>h c (s.trans e)
def oE(K:l')(t:ED):TE:=λσ H Q=>∃ δ,bG K H σ δ/\t δ (kD K H Q)
def oT(K:l')(t:TD):TT:=λσ H Q=>∃ δ,bG K H σ δ/\t δ (kB H Q)
def oA(K:l')(t:AD):TA:=λσ H Q=>∃ δ,bG K H σ δ/\t δ (kA K H Q)
abbrev bK(t:ED):Prop:=∀ δ (P a:D->Prop),(∀d,P d->a d)->t δ P->t δ a
structure PD (X:Cx) (e:Expr) (t:ED):Prop where
 pe:PE X e (oE X.K t)
 mono:bK t
structure mV (X:Cx) (e:Expr) (t:TD):Prop where
 pt:PT X e (oT X.K t)
 mono:∀ δ (P P':Bool->Prop),(∀d,P d->P' d)->t δ P->t δ P'
structure rM (X:Cx) (e:Expr) (t:TD):Prop where
 pw:PW X e (oT X.K t)
 mono:∀ δ (P P':Bool->Prop),(∀d,P d->P' d)->t δ P->t δ P'
structure iZ (X:Cx) (es:List Expr) (t:AD):Prop where
 pa:PA X es (oA X.K t)
 mono:∀ δ (P P':List D->Prop),(∀d,P d->P' d)->t δ P->t δ P'
def PT.imp(h:PT X e t)(f:∀ σ H Q,b σ H Q->t σ H Q):PT X e b:=λa s σ H Q I q=>h a s σ H Q I (f σ H Q q)
def PW.imp(h:PW X e t)(f:∀ σ H Q,b σ H Q->t σ H Q):PW X e b:=λc a s σ H Q I q=>h c a s σ H Q I (f σ H Q q)
def PA.imp(h:PA X c t)(f:∀ σ H Q,b σ H Q->t σ H Q):PA X c b:=λp a s σ H Q I q=>h p a s σ H Q I (f σ H Q q)
section
variable {X:Cx}{e a b c:Expr}{es rest:List Expr}{pos:Pos}{ta tb tc:ED}
def qL(i:Nat):ED:=λδ Q=>∃d,δ[i]?=some (some d)/\Q d
def vC(d:D):ED:=λ_ Q=>Q d
def Qu(h:PE X e (NW i)):PD X e (qL i) :=
 ⟨h.imp fun σ H Q ⟨δ,r,d,g,k⟩=>let ⟨v,j,dv⟩:=r.get i d g;⟨v,j,k v H (aH.refl _) dv⟩,fun δ P l f ⟨d,g,k⟩=>⟨d,g,f d k⟩⟩
def dv(i:Nat)(h:autoParam (X.N[i]?=some x) dI)(j:Cb X.env.scope x:=by first|exact TQ rfl|exact Wc (TQ rfl)|exact Wc (Wc rfl))(g:autoParam ((x == ("__debug__":Str))=false) e7)
  (f:autoParam ((x == ("__classdict__":Str))=false) e7):PD X (.Name x pos) (qL i):=Qu (pv i h j g f)
def OB(h:PE X e (tC v))(g:∀H,Dv X.K H v d):PD X e (vC d) :=
 ⟨h.imp fun σ H Q ⟨δ,r,k⟩=>k v H (aH.refl _) (g H),λδ P i f k=>f d k⟩
def aI :PD X (.Constant (.int i) j pos) (vC (.int i)):=OB GA λ_=>.int i
def nH :PD X (.Constant (.bool i) j pos) (vC (.bl i)):=OB PQ λ_=>.bl i
def ar :PD X (.Constant (.str i) j pos) (vC (.str i)):=OB Mz λ_=>.str i
def ig :PD X (.Constant .none j pos) (vC .ae):=OB Mv λ_=>.ae
def d8(f:Gl X x)(i:X.mg x=some u)(r:RelV v u)(h:∀H,Dv X.K H v d)(g:autoParam ((x == ("__debug__":Str))=false) e7):PD X (.Name x pos) (vC d):=OB (wZ f i r g) h
abbrev F2:=D->D->(D->Prop)->Prop
abbrev ef(f:F2):Prop:=∀d e (P g:D->Prop),(∀r,P r->g r)->f d e P->f d e g
def rJ(f:F2)(g h:ED):ED:=λδ Q=>g δ λd=>h δ λe=>f d e Q
def iM(K:l')(r:R2)(f:F2):Prop:=∀H x y d e Q,Dv K H x d->Dv K H y e->f d e (kD K H Q)->r x y H Q
def xf{t:TE}(x:PE X e (NV r (oE X.K ta) (oE X.K tb)))(p:bK ta)(m:bK tb)(B:iM X.K r f)(l:ef f):PD X e (rJ f ta tb):=by
 refine⟨x.imp fun σ H Q ⟨δ,r,h⟩=>⟨δ,r,p _ _ _ (λd i v E o dv=>⟨δ,r.same o,m _ _ _ (λe y w s n u=>B s v w d e Q (dv.same n) u (l d e _ _ (λz C=>C.on (o.trans n)) y)) i⟩) h⟩,?_⟩
 exact λδ P F g h=>p _ _ _ (λd A=>m _ _ _ (λe j=>l d e _ _ g j) A) h
def Cs(j:g9 X (binaryOp i) r)(m:iM X.K r f)(l:ef f)(h:PD X a ta)(g:PD X b tb):PD X (.BinOp a i b pos) (rJ f ta tb) :=
 xf (t:=oE X.K ta) (Kp j h.pe g.pe) h.mono g.mono m l
def qP(j:g9 X (compareOp g) r)(n:iM X.K r f)(l:ef f)(i:PD X a ta)(h:PD X b tb)(m:behindInMarks g b=false):PD X (.Compare a [g] [b] pos) (rJ f ta tb) :=
 xf (t:=oE X.K ta) (JM j i.pe h.pe m) i.mono h.mono n l
end
def JD:g9 X (binaryOp .Add) (λx y H Q=>∃a b m l,x=.ref a/\y=.ref b/\cW X.K H a m/\cW X.K H b l/\m.length+l.length<=sizeLine/\∀p,H p=none->Q (.ref p) (upd H p (.lst (m++l)))):=by
 intro z s σ H x y v u Q I O J h
 obtain⟨a,b,m,l,rfl,rfl,S,P,W,q⟩:=h
 cases(show v=Td a from O)
 cases(show u=Td b from J)
 obtain⟨f,t,U,_⟩:=I.list S
 obtain⟨c,C,G,_⟩:=I.list P
 have M:=t.length
 have L:=C.length
 obtain⟨⟨cls,T,data,N⟩,E,A,n,B⟩:=id U.isList
 obtain⟨⟨w,r,data2,o⟩,i,j,R,g⟩:=id G.isList
 simp only at A B j g
 subst A B j g
 have e:f.toArray++c.toArray=(f++c).toArray:=by simp
 refine Xe ⟨_,E,rfl⟩ ⟨_,i,rfl⟩ noFill_list_add seq_list_add PySem.F.slot_list_add PySem.F.entry_list_add (PySem.F.args_list_add_2 _ _)
  (list_addW a b f.toArray c.toArray n R T r N o (by rw[Ti,Ti];omega)) ⟨E,i,?_⟩
 rw[e]
 exact⟨.ref _,_,I.Om (t':=s.toks) (t.append C) (by rw[TY];omega),rfl,q _ I.fresh⟩
def JE:g9 X (binaryOp .Add) (λx y H Q=>∃a b p,x=.ref a/\y=.ref b/\iN X.K H a []/\iN X.K H b p/\Q (.ref b) H):=by
 intro o s σ H x y v u Q I F B h
 obtain⟨a,b,p,rfl,rfl,L,G,q⟩:=h
 cases(show v=Td a from F)
 cases(show u=Td b from B)
 obtain⟨l,z,N,_⟩:=I.tuple L
 obtain⟨e,O,A,_⟩:=I.tuple G
 have E:l=[]:=z.zero
 subst E
 obtain⟨⟨cls,M,data,C⟩,w,r,n,t⟩:=id N
 obtain⟨⟨m,j,data2,i⟩,f,g,J,c⟩:=id A
 simp only at r t g c
 subst r t g c
 exact Xe ⟨_,w,rfl⟩ ⟨_,f,rfl⟩ Xs Yh Wb WR (WK _ _)
  (tuple_addW0 a b #[] e.toArray n J M j C i rfl) ⟨w,f,⟨.ref b,H,I,rfl,q⟩⟩
def E4:F2:=λd e Q=>match d,e with
 |.int i,.int j=>Q (.int (i+j))
 |.str x,.str y=>x.length+y.length<=sizeLine/\Q (.str (x++y))
 |.lst b,.lst a=>b.length+a.length<=sizeLine/\Q (.lst (b++a))
 |.tup b,.tup a=>b.length+a.length<=sizeLine/\Q (.tup (b++a))
 |_,_=>False
def Oz:ef E4:=by
 intro d e P a g h
 unfold E4 at h ⊢
 split at h
 ·exact g _ h
 ·exact⟨h.1,g _ h.2⟩
 ·exact⟨h.1,g _ h.2⟩
 ·exact⟨h.1,g _ h.2⟩
 ·exact h.elim
def Kr(K:l'):R2:=λx y H Q=>(∃i j,x=.int i/\y=.int j/\Q (.int (i+j)) H)\/(∃i j,x=.str i/\y=.str j/\i.length+j.length<=sizeLine/\Q (.str (i++j)) H) \/
 (∃a b e c,x=.ref a/\y=.ref b/\cW K H a e/\cW K H b c/\e.length+c.length<=sizeLine/\∀p,H p=none->Q (.ref p) (upd H p (.lst (e++c)))) \/
 Ks K x y H Q\/(∃a b c,x=.ref a/\y=.ref b/\iN K H a []/\iN K H b c/\Q (.ref b) H)
def JC :g9 X (binaryOp .Add) (Kr X.K):=Mi.or (Ah.or (JD.or (JF.or JE)))
def Ep{K:l'}:iM K (Kr K) E4:=by
 intro H x y d e Q l g h
 cases l with
 |int i=>cases g with
  |int j=>exact .inl ⟨i,j,rfl,rfl,h _ H (aH.refl _) (.int _)⟩
  |_=>exact h.elim
 |str i=>cases g with
  |str j=>exact .inr (.inl ⟨i,j,rfl,rfl,h.1,h.2 _ H (aH.refl _) (.str _)⟩)
  |_=>exact h.elim
 |lst c f=>cases g with
  |lst g1 g2 =>
   refine .inr (.inr (.inl ⟨_,_,_,_,rfl,rfl,c,g1,?_,λp b=>?_⟩))
   ·rw[f.length,g2.length];exact h.1
   ·exact h.2 _ _ (aL b) (.lst (cW.of aF) ((f.append g2).same (aL b)))
  |_=>exact h.elim
 |tup c f=>cases g with
  |tup g1 g2 =>
   have z:=h.1
   rw[<- f.length,<- g2.length] at z
   cases f with
   |nil=>exact .inr (.inr (.inr (.inr ⟨_,_,_,rfl,rfl,c,g1,h.2 _ H (aH.refl _) (.tup g1 g2)⟩)))
   |cons a r =>
    refine .inr (.inr (.inr (.inl ⟨_,_,_,_,rfl,rfl,c,g1,(λq=>nomatch q),z,λe=>?_,λe p b=>?_⟩)))
    ·subst e
     cases g2
     have q:=h.2
     rw[UD] at q
     exact q _ H (aH.refl _) (.tup c (.cons a r))
    ·exact h.2 _ _ (aL b) (.tup (iN.of aF) (((bA.cons a r).append g2).same (aL b)))
  |_=>exact h.elim
 |_=>exact h.elim
def fI(C:Int->Int->Prop)(g:Int->Int->D):F2:=λd e Q=>match d,e with
 |.int i,.int j=>C i j/\Q (g i j)
 |_,_=>False
def RA :ef (fI C g):=by
 intro d e P a f h
 unfold fI at h ⊢
 split at h
 ·exact⟨h.1,f _ h.2⟩
 ·exact h.elim
def zx{K:l'}(c:∀H i j,Dv K H (g i j) (a i j)):iM K (rI C g) (fI C a):=by
 intro H x y d e Q b f h
 cases b with
 |int i=>cases f with
  |int j=>exact⟨i,j,rfl,rfl,h.1,h.2 _ H (aH.refl _) (c H i j)⟩
  |_=>exact h.elim
 |_=>exact h.elim
def KW(g:Int->Int->D):F2:=λd e Q=>match d,e with
 |.int i,.int j=>Q (g i j)
 |_,_=>False
def AR :ef (KW g):=by
 intro d e P a f h
 unfold KW at h ⊢
 split at h
 ·exact f _ h
 ·exact h.elim
def jX{K:l'}(c:∀H i j,Dv K H (g i j) (a i j)):iM K (HN g) (KW a):=by
 intro H x y d e Q b f h
 cases b with
 |int i=>cases f with
  |int j=>exact⟨i,j,rfl,rfl,h _ H (aH.refl _) (c H i j)⟩
  |_=>exact h.elim
 |_=>exact h.elim
section
variable {X:Cx}{a b c:Expr}{es rest:List Expr}{pos:Pos}{ta tb tc:ED}
def Rv:ED->ED->ED:=rJ E4
def R7:ED->ED->ED:=rJ (KW λi j=>.int (i - j))
def R3:ED->ED->ED:=rJ (fI aAl λi j=>.int (i*j))
def R1:ED->ED->ED:=rJ (fI (λ_ j=>0<j) λi j=>.int (i%j))
def Ry:ED->ED->ED:=rJ (fI K8 λi j=>.int (i / j))
def bz(f:PD X a ta)(e:PD X b tb):PD X (.BinOp a .Add b pos) (Rv ta tb):=Cs JC Ep Oz f e
def OL(f:PD X a ta)(e:PD X b tb):PD X (.BinOp a .Sub b pos) (R7 ta tb):=Cs Mo (jX λ_ _ _=>.int _) AR f e
def xl(f:PD X a ta)(e:PD X b tb):PD X (.BinOp a .Mult b pos) (R3 ta tb):=Cs JH (zx λ_ _ _=>.int _) RA f e
def et(f:PD X a ta)(e:PD X b tb):PD X (.BinOp a .Mod b pos) (R1 ta tb):=Cs Ml (zx λ_ _ _=>.int _) RA f e
def Ef(f:PD X a ta)(e:PD X b tb):PD X (.BinOp a .FloorDiv b pos) (Ry ta tb):=Cs JG (zx λ_ _ _=>.int _) RA f e
def R4(e:ED):ED:=λδ Q=>e δ λd=>∃i,d=.int i/\Q (.int (-i))
def KQ(f:PD X a ta):PD X (.UnaryOp .USub a pos) (R4 ta) :=
 ⟨(PU Nc f.pe).imp fun σ H Q ⟨δ,r,h⟩=>⟨δ,r,f.mono _ _ _ (fun d ⟨i,e,k⟩ v l j dv=>by subst e;cases dv;exact⟨i,rfl,k _ l j (.int _)⟩) h⟩,
  λδ P m g h=>f.mono _ _ _ (fun d ⟨i,e,k⟩=>⟨i,e,g _ k⟩) h⟩
def TH:ED->ED->ED:=rJ (KW λi j=>.bl (decide (i<j)))
def TF:ED->ED->ED:=rJ (KW λi j=>.bl (decide (i<=j)))
def Sd:ED->ED->ED:=rJ (KW λi j=>.bl (decide (j<i)))
def Lb(f:PD X a ta)(e:PD X b tb):PD X (.Compare a [.LtE] [b] pos) (TF ta tb):=qP Fy (jX λ_ _ _=>.bl _) AR f e (iS _)
def Qs(f:PD X a ta)(e:PD X b tb):PD X (.Compare a [.Gt] [b] pos) (Sd ta tb):=qP Kn (jX λ_ _ _=>.bl _) AR f e (iS _)
end
mutual
def jM:D->PyData
 |.ae=>.none
 |.bl b=>.bool b
 |.int i=>.int i
 |.str x=>.str x
 |.lst xs=>.list (mD xs)
 |.tup xs=>.tuple (mD xs)
 |.obj _ _=>.none
 |.dK _=>.none
 |.dT _=>.none
 |.adr _=>.none
 |.exc _ _ _=>.none
def mD:List D->List PyData
 |[]=>[]
 |d::ds=>jM d::mD ds
end
mutual
def plain:D->Bool
 |.lst xs=>lZ xs
 |.tup xs=>lZ xs
 |.obj _ _=>false
 |.dK _=>false
 |.dT _=>false
 |.adr _=>false
 |.exc _ _ _=>false
 |_=>true
def lZ:List D->Bool
 |[]=>true
 |d::ds=>plain d&&lZ ds
end
section
variable {K:l'}{H:Hp}
mutual
def Dv.dat:∀{v:V} {d:D},plain d=true->Dv K H v d->mU K H v (jM d)
 |_,_,_,.ae=>by rw[jM];exact .ae
 |_,_,_,.bl b=>by rw[jM];exact .bl b
 |_,_,_,.int i=>by rw[jM];exact .int i
 |_,_,_,.str x=>by rw[jM];exact .str x
 |_,_,p,.lst h1 a=>by rw[jM];rw[plain] at p;exact .lst h1 (bA.dat p a)
 |_,_,p,.tup h1 a=>by rw[jM];rw[plain] at p;exact .tup h1 (bA.dat p a)
 |_,_,p,.obj _ _=>by rw[plain] at p;cases p
 |_,_,p,.dK _ _=>by rw[plain] at p;cases p
 |_,_,p,.dT _ _=>by rw[plain] at p;cases p
 |_,_,p,.adr _=>by rw[plain] at p;cases p
 |_,_,p,.exc _ _ _=>by rw[plain] at p;cases p
def bA.dat:∀{vs:List V} {ds:List D},lZ ds=true->bA K H vs ds->km K H vs (mD ds)
 |_,_,_,.nil=>by rw[mD];exact .nil
 |_,_,p,.cons h1 a=>by
  rw[mD]
  rw[lZ,Tw] at p
  exact .cons (Dv.dat p.1 h1) (bA.dat p.2 a)
end
end
def v8:D->D->Option Bool
 |.ae,.ae=>some true
 |.bl a,.bl b=>some (decide (a=b))
 |.int i,.int j=>some (decide (i=j))
 |.str x,.str y=>some (decide (x=y))
 |.ae,.bl _=>some false
 |.ae,.int _=>some false
 |.ae,.str _=>some false
 |.bl _,.ae=>some false
 |.bl _,.str _=>some false
 |.int _,.ae=>some false
 |.int _,.str _=>some false
 |.str _,.ae=>some false
 |.str _,.bl _=>some false
 |.str _,.int _=>some false
 |_,_=>none
def C5(neg:Bool):F2:=λd e Q=>match v8 d e with
 |some b=>Q (.bl (if neg then !b else b))
 |none=>plain d=true/\plain e=true/\U' (jM d)=true/\U' (jM e)=true/\Q (.bl (if neg then !Us (jM d) (jM e) else Us (jM d) (jM e)))
def MS :ef (C5 a):=by
 intro d e P b f h
 unfold C5 at h ⊢
 split at h
 ·exact f _ h
 ·exact⟨h.1,h.2.1,h.2.2.1,h.2.2.2.1,f _ h.2.2.2.2⟩
def BW{K:l'}:iM K (λx y H Q=>SX x y H Q\/Ji K false x y H Q) (C5 false):=by
 intro H x y d e Q a f h
 unfold C5 at h
 split at h
 ·rename_i b c
  left
  have q:=h _ H (aH.refl _) (.bl _)
  cases a<;>cases f<;>simp only[v8,Xz,reduceCtorEq] at c<;>subst c<;>refine⟨rfl,?_⟩<;>simpa using q
 ·obtain⟨l,g,j,i,q⟩:=h
  exact .inr ⟨_,_,a.dat l,f.dat g,j,i,q _ H (aH.refl _) (.bl _)⟩
def Hy{K:l'}:iM K (λx y H Q=>Sa x y H Q\/Ji K true x y H Q) (C5 true):=by
 intro H x y d e Q a f h
 unfold C5 at h
 split at h
 ·rename_i b c
  left
  have q:=h _ H (aH.refl _) (.bl _)
  cases a<;>cases f<;>simp only[v8,Xz,reduceCtorEq] at c<;>subst c<;>refine⟨rfl,?_⟩<;>simpa using q
 ·obtain⟨l,g,j,i,q⟩:=h
  exact .inr ⟨_,_,a.dat l,f.dat g,j,i,q _ H (aH.refl _) (.bl _)⟩
def Np(neg:Bool):F2:=λd e Q=>match e with
 |.ae=>Q (.bl (match d with|.ae=>!neg|_=>neg))
 |.bl b=>∃a,d=.bl a/\Q (.bl (if neg then a != b else a == b))
 |_=>False
def MT :ef (Np b):=by
 intro d e P g f h
 unfold Np at h ⊢
 split at h
 ·exact f _ h
 ·obtain⟨a,c,q⟩:=h;exact⟨a,c,f _ q⟩
 ·exact h.elim
def BY{K:l'}:iM K (λx y H Q=>(y=.ae/\Q (.bl (decide (x=.ae))) H)\/∃a b,x=.bl a/\y=.bl b/\Q (.bl (a == b)) H) (Np false):=by
 intro H x y d e Q c f h
 cases f with
 |ae =>
  refine .inl ⟨rfl,?_⟩
  have q:=h _ H (aH.refl _) (.bl _)
  cases c<;>exact q
 |bl b =>
  obtain⟨a,rfl,q⟩:=h
  cases c
  exact .inr ⟨a,b,rfl,rfl,q _ H (aH.refl _) (.bl _)⟩
 |_=>exact h.elim
def zz{K:l'}:iM K (λx y H Q=>(y=.ae/\Q (.bl (!decide (x=.ae))) H)\/∃a b,x=.bl a/\y=.bl b/\Q (.bl (a != b)) H) (Np true):=by
 intro H x y d e Q c f h
 cases f with
 |ae =>
  refine .inl ⟨rfl,?_⟩
  have q:=h _ H (aH.refl _) (.bl _)
  cases c<;>exact q
 |bl b =>
  obtain⟨a,rfl,q⟩:=h
  cases c
  exact .inr ⟨a,b,rfl,rfl,q _ H (aH.refl _) (.bl _)⟩
 |_=>exact h.elim
def gN:D->Bool
 |.ae=>true
 |.bl _=>true
 |.int _=>true
 |.str _=>true
 |_=>false
def v7:D->D->Bool
 |.ae,.ae=>true
 |.bl a,.bl b=>a == b
 |.bl a,.int j=>(if a then 1 else 0) == j
 |.int i,.bl b=>i == (if b then 1 else 0)
 |.int i,.int j=>i == j
 |.str x,.str y=>x == y
 |_,_=>false
def inD(x:D)(xs:List D):Bool:=xs.any λy=>v7 y x
def A7(x y:Str):Bool:=!(VA y x 0 y.length 1).isEmpty
def Nn(neg:Bool):F2:=λd e Q=>match e with
 |.lst xs=>gN d=true/\xs.all gN=true/\Q (.bl (if neg then !inD d xs else inD d xs))
 |.tup xs=>gN d=true/\xs.all gN=true/\Q (.bl (if neg then !inD d xs else inD d xs))
 |.str y=>∃x,d=.str x/\Q (.bl (if neg then !A7 x y else A7 x y))
 |_=>False
def Io :ef (Nn b):=by
 intro d e P g f h
 unfold Nn at h ⊢
 split at h
 ·exact⟨h.1,h.2.1,f _ h.2.2⟩
 ·exact⟨h.1,h.2.1,f _ h.2.2⟩
 ·obtain⟨a,c,q⟩:=h;exact⟨a,c,f _ q⟩
 ·exact h.elim
section
variable {K:l'}{H:Hp}
def Dv.flat(h:Dv K H v d)(f:gN d=true):mX v=true:=by
 cases h<;>first|rfl|cases f
def Dv.v7(h:Dv K H v d)(g:Dv K H w e)(f:gN d=true)(a:gN e=true):H_ v w=DC.v7 d e:=by
 cases h<;>cases g<;>first|rfl|cases f|cases a
def bA.flat:∀{a:List V} {b:List D},bA K H a b->b.all gN=true->a.all mX=true
 |_,_,.nil,_=>rfl
 |_,_,.cons h r,f=>by
  rw[V2,Tw] at f ⊢
  exact⟨h.flat f.1,bA.flat r f.2⟩
def bA.HM{w:V}{e:D}(g:Dv K H w e)(c:gN e=true):∀{b:List V} {a:List D},bA K H b a->a.all gN=true->L2.HM w b=inD e a
 |_,_,.nil,_=>rfl
 |_,_,.cons h r,f=>by
  rw[V2,Tw] at f
  have q:=bA.HM g c r f.2
  unfold L2.HM inD at q ⊢
  rw[Ud,Ud,q,h.v7 g f.1 c]
end
def BX{K:l'}:iM K (λx y H Q=>QY K false x y H Q\/∃i j,x=.str i/\y=.str j/\Q (.bl (!(VA j i 0 j.length 1).isEmpty)) H) (Nn false):=by
 intro H x y d e Q a b h
 cases b with
 |lst g1 g2=>exact .inl ⟨_,_,rfl,.inl g1,a.flat h.1,g2.flat h.2.1,by rw[bA.HM a h.1 g2 h.2.1];exact h.2.2 _ H (aH.refl _) (.bl _)⟩
 |tup g1 g2=>exact .inl ⟨_,_,rfl,.inr g1,a.flat h.1,g2.flat h.2.1,by rw[bA.HM a h.1 g2 h.2.1];exact h.2.2 _ H (aH.refl _) (.bl _)⟩
 |str j =>
  obtain⟨i,rfl,q⟩:=h
  cases a
  exact .inr ⟨i,j,rfl,rfl,q _ H (aH.refl _) (.bl _)⟩
 |_=>exact h.elim
def rZ{K:l'}:iM K (λx y H Q=>QY K true x y H Q\/∃i j,x=.str i/\y=.str j/\Q (.bl (!(!(VA j i 0 j.length 1).isEmpty))) H) (Nn true):=by
 intro H x y d e Q a b h
 cases b with
 |lst g1 g2=>exact .inl ⟨_,_,rfl,.inl g1,a.flat h.1,g2.flat h.2.1,by rw[bA.HM a h.1 g2 h.2.1];exact h.2.2 _ H (aH.refl _) (.bl _)⟩
 |tup g1 g2=>exact .inl ⟨_,_,rfl,.inr g1,a.flat h.1,g2.flat h.2.1,by rw[bA.HM a h.1 g2 h.2.1];exact h.2.2 _ H (aH.refl _) (.bl _)⟩
 |str j =>
  obtain⟨i,rfl,q⟩:=h
  cases a
  exact .inr ⟨i,j,rfl,rfl,q _ H (aH.refl _) (.bl _)⟩
 |_=>exact h.elim
section
variable {X:Cx}{a b c:Expr}{es rest:List Expr}{pos:Pos}{ta tb tc:ED}
def vEq:ED->ED->ED:=rJ (C5 false)
def TJ:ED->ED->ED:=rJ (C5 true)
def Se:ED->ED->ED:=rJ (Np false)
def Nh:ED->ED->ED:=rJ (Np true)
def Rz:ED->ED->ED:=rJ (Nn false)
def HF:ED->ED->ED:=rJ (Nn true)
def xh(e:X.A.units+64<cLine)(g:PD X a ta)(f:PD X b tb):PD X (.Compare a [.Eq] [b] pos) (vEq ta tb):=qP (Km.or (Fv e)) BW MS g f (iS _)
def OG(f:PD X a ta)(e:PD X b tb):PD X (.Compare a [.Is] [b] pos) (Se ta tb):=qP (Fx.or yu) BY MT f e (iS _)
def Cq(g:PD X a ta)(e:PD X b tb)(f:behindInMarks .In b=false):PD X (.Compare a [.In] [b] pos) (Rz ta tb):=qP (vD.or vE) BX Io g e f
def Hu(g:PD X a ta)(e:PD X b tb)(f:behindInMarks .NotIn b=false):PD X (.Compare a [.NotIn] [b] pos) (HF ta tb):=qP (og.or oh) rZ Io g e f
end
abbrev eh(t:TD):Prop:=∀ δ (P a:Bool->Prop),(∀d,P d->a d)->t δ P->t δ a
abbrev ko(t:AD):Prop:=∀ δ (P a:List D->Prop),(∀d,P d->a d)->t δ P->t δ a
def e6(t:ED):TD:=λδ Q=>t δ λd=>∃b,d=.bl b/\Q b
def FY(m:bK t):eh (e6 t):=λδ P a g h=>m _ _ _ (fun d ⟨b,e,q⟩=>⟨b,e,g b q⟩) h
def J1{K:l'}(m:bK t)(h:e6 t δ (kB H Q)):t δ (kD K H λx a=>∃k,x=.bl k/\Q k a) :=
 m _ _ _ (fun d ⟨b,e,q⟩ v a s dv=>by subst e;cases dv;exact⟨b,rfl,q a s⟩) h
section
variable {X:Cx}{a b c e:Expr}{es rest:List Expr}{pos:Pos}{ta tb tc:ED}{ua ub:TD}
def mV.of(h:PT X e (K3 t))(p:∀ σ H Q,oE X.K v σ H Q->t σ H Q)(m:bK v):mV X e (e6 v) :=
 ⟨PT.imp h fun σ H Q ⟨δ,r,q⟩=>p σ H _ ⟨δ,r,J1 m q⟩,FY m⟩
def LM(p:bK ta)(m:bK tb)(y:iM X.K r f)(l:ef f):(∀ σ H Q,oE X.K (rJ f ta tb) σ H Q->NV r (oE X.K ta) (oE X.K tb) σ H Q)/\bK (rJ f ta tb):=by
 refine⟨fun σ H Q ⟨δ,r,h⟩=>⟨δ,r,p _ _ _ (λd j v B n dv=>⟨δ,r.same n,m _ _ _ (λe u w s o t=>y s v w d e Q (dv.same o) t (l d e _ _ (λz A=>A.on (n.trans o)) u)) j⟩) h⟩,?_⟩
 exact λδ P C g h=>p _ _ _ (λd x=>m _ _ _ (λe i=>l d e _ _ g i) x) h
def pF(j:g9 X (compareOp g) r)(n:iM X.K r f)(l:ef f)(i:PD X a ta)(h:PD X b tb)(m:behindInMarks g b=false):mV X (.Compare a [g] [b] pos) (e6 (rJ f ta tb)) :=
 let q:=LM i.mono h.mono n l
 mV.of (JZ j i.pe h.pe m) q.1 q.2
def Rq(g:PD X a ta)(f:PD X b tb):mV X (.Compare a [.Lt] [b] pos) (e6 (TH ta tb)):=pF PM (jX λ_ _ _=>.bl _) AR g f (iS _)
def Gx(g:PD X a ta)(f:PD X b tb):mV X (.Compare a [.Gt] [b] pos) (e6 (Sd ta tb)):=pF Kn (jX λ_ _ _=>.bl _) AR g f (iS _)
def hJ(f:X.A.units+64<cLine)(h:PD X a ta)(g:PD X b tb):mV X (.Compare a [.Eq] [b] pos) (e6 (vEq ta tb)):=pF (Km.or (Fv f)) BW MS h g (iS _)
def Gy(f:X.A.units+64<cLine)(h:PD X a ta)(g:PD X b tb):mV X (.Compare a [.NotEq] [b] pos) (e6 (TJ ta tb)):=pF (PN.or (Mm f)) Hy MS h g (iS _)
def P_(g:PD X a ta)(f:PD X b tb):mV X (.Compare a [.Is] [b] pos) (e6 (Se ta tb)):=pF (Fx.or yu) BY MT g f (iS _)
def rF(g:PD X a ta)(f:PD X b tb):mV X (.Compare a [.IsNot] [b] pos) (e6 (Nh ta tb)):=pF (JJ.or yv) zz MT g f (iS _)
def zO(h:PD X a ta)(f:PD X b tb)(g:behindInMarks .In b=false):mV X (.Compare a [.In] [b] pos) (e6 (Rz ta tb)):=pF (vD.or vE) BX Io h f g
def rG(h:PD X a ta)(f:PD X b tb)(g:behindInMarks .NotIn b=false):mV X (.Compare a [.NotIn] [b] pos) (e6 (HF ta tb)):=pF (og.or oh) rZ Io h f g
def J4:D->Option Bool
 |.ae=>some false
 |.bl b=>some b
 |.int i=>some (i != 0)
 |.str y=>if y.length<=sizeLine then some ((y.length:Int) != 0) else none
 |.lst f=>some (!f.isEmpty)
 |.tup f=>some (!f.isEmpty)
 |_=>none
def R8(t:ED):TD:=λδ Q=>t δ λd=>∃b,J4 d=some b/\Q b
def bA.isEmpty{K:l'}(h:bA K H f g):f.isEmpty=g.isEmpty:=by cases h<;>rfl
def Dv.S_{K:l'}{b:Bool}(h:Dv K H v d)(e:J4 d=some b):LH K v H b:=by
 cases h with
 |ae=>cases e;rfl
 |bl x=>cases e;rfl
 |int i=>cases e;rfl
 |str x =>
  have f:(if x.length<=sizeLine then some ((x.length:Int) != 0) else none)=some b:=e
  by_cases l:x.length<=sizeLine
  ·rw[if_pos l] at f
   exact⟨l,(UA f).symm⟩
  ·rw[if_neg l] at f
   cases f
 |lst g j=>cases e;exact .inl ⟨_,g,by rw[j.isEmpty]⟩
 |tup g j=>cases e;exact .inr (.inl ⟨_,g,by rw[j.isEmpty]⟩)
 |dK _ _=>cases e
 |exc _ _ _=>cases e
 |obj _ _=>cases e
 |dT _ _=>cases e
 |adr _=>cases e
def eX(i:PD X a ta)(l:autoParam (∀f,isTrue a X.env f=(do let v <- f;Wj a.pos;holding [v] (truthy v))) eH):mV X a (R8 ta) :=
 ⟨PT.imp (GQ i.pe l) fun σ H Q ⟨δ,r,h⟩=>⟨δ,r,i.mono _ _ _ (fun d ⟨b,e,q⟩ v j m dv=>⟨b,dv.S_ e,q j m⟩) h⟩,λδ P n g h=>i.mono _ _ _ (fun d ⟨b,e,q⟩=>⟨b,e,g b q⟩) h⟩
def Rt(t:TD):TD:=λδ Q=>t δ λb=>Q (!b)
def J5(t u:TD):TD:=λδ Q=>t δ λb=>if b=true then u δ Q else Q false
def Ru(t u:TD):TD:=λδ Q=>t δ λb=>if b=true then Q true else u δ Q
def gz(f:mV X a ua):mV X (.UnaryOp .Not a pos) (Rt ua) :=
 ⟨PT.imp (M_ f.pt) fun σ H Q ⟨δ,r,h⟩=>⟨δ,r,f.mono _ _ _ (λb q i s=>q i s) h⟩,λδ P j g h=>f.mono _ _ _ (λb q=>g _ q) h⟩
def O0(f:eh ua)(i:eh ub):eh (J5 ua ub):=λδ P j g h=>f _ _ _ (λb q=>by
 cases b with
 |true=>rw[if_pos rfl] at q ⊢;exact i _ _ _ g q
 |false=>rw[if_neg Fk] at q ⊢;exact g _ q) h
def RF(f:eh ua)(i:eh ub):eh (Ru ua ub):=λδ P j g h=>f _ _ _ (λb q=>by
 cases b with
 |true=>rw[if_pos rfl] at q ⊢;exact g _ q
 |false=>rw[if_neg Fk] at q ⊢;exact i _ _ _ g q) h
def rM.td(h:rM X e ua):mV X e ua:=⟨h.pw.pt,h.mono⟩
def tW(f:mV X a ua):rM X (.BoolOp .And [a] pos) ua:=⟨Jd f.pt,f.mono⟩
def nA(f:mV X a ua):rM X (.BoolOp .Or [a] pos) ua:=⟨NB f.pt,f.mono⟩
def w_and(g:mV X a ua)(f:rM X (.BoolOp .And (b::rest) pos) ub):rM X (.BoolOp .And (a::b::rest) pos) (J5 ua ub):=by
 refine⟨PW.imp (NA g.pt f.pw) fun σ H Q ⟨δ,r,h⟩=>⟨δ,r,g.mono _ _ _ (λb q i s=>?_) h⟩,O0 g.mono f.mono⟩
 cases b with
 |true=>rw[if_pos rfl] at q ⊢;exact⟨δ,r.same s,f.mono _ _ _ (λb k=>k.on s) q⟩
 |false=>rw[if_neg Fk] at q ⊢;exact q i s
def w_or(g:mV X a ua)(f:rM X (.BoolOp .Or (b::rest) pos) ub):rM X (.BoolOp .Or (a::b::rest) pos) (Ru ua ub):=by
 refine⟨PW.imp (PV g.pt f.pw) fun σ H Q ⟨δ,r,h⟩=>⟨δ,r,g.mono _ _ _ (λb q i s=>?_) h⟩,RF g.mono f.mono⟩
 cases b with
 |true=>rw[if_pos rfl] at q ⊢;exact q i s
 |false=>rw[if_neg Fk] at q ⊢;exact⟨δ,r.same s,f.mono _ _ _ (λb k=>k.on s) q⟩
def Rw(f g:ED):ED:=λδ Q=>f δ λd=>∃b,d=.bl b/\if b=true then g δ Q else Q (.bl false)
def TK(f g:ED):ED:=λδ Q=>f δ λd=>∃b,d=.bl b/\if b=true then Q (.bl true) else g δ Q
def R5(f:ED):ED:=λδ Q=>f δ λd=>∃b,d=.bl b/\Q (.bl (!b))
def oB(h:PD X a ta):PD X (.BoolOp op [a] pos) ta:=⟨Mx h.pe,h.mono⟩
def rT(i:PD X a ta)(f:PD X (.BoolOp .And (b::rest) pos) tb):PD X (.BoolOp .And (a::b::rest) pos) (Rw ta tb):=by
 refine⟨(Ms i.pe f.pe).imp λσ H Q ⟨δ,r,h⟩=>⟨δ,r,i.mono _ _ _ (λd ⟨b,e,q⟩ v l j dv=>?_) h⟩,λδ P m g h=>i.mono _ _ _ (λd ⟨b,e,q⟩=>⟨b,e,?_⟩) h⟩
 ·subst e
  cases dv
  refine⟨b,rfl,?_⟩
  cases b with
  |true=>rw[if_pos rfl] at q ⊢;exact⟨δ,r.same j,f.mono _ _ _ (λb k=>k.on j) q⟩
  |false=>rw[if_neg Fk] at q ⊢;exact q _ l j (.bl _)
 ·cases b with
  |true=>rw[if_pos rfl] at q ⊢;exact f.mono _ _ _ g q
  |false=>rw[if_neg Fk] at q ⊢;exact g _ q
def OJ(i:PD X a ta)(f:PD X (.BoolOp .Or (b::rest) pos) tb):PD X (.BoolOp .Or (a::b::rest) pos) (TK ta tb):=by
 refine⟨(PR i.pe f.pe).imp λσ H Q ⟨δ,r,h⟩=>⟨δ,r,i.mono _ _ _ (λd ⟨b,e,q⟩ v l j dv=>?_) h⟩,λδ P m g h=>i.mono _ _ _ (λd ⟨b,e,q⟩=>⟨b,e,?_⟩) h⟩
 ·subst e
  cases dv
  refine⟨b,rfl,?_⟩
  cases b with
  |true=>rw[if_pos rfl] at q ⊢;exact q _ l j (.bl _)
  |false=>rw[if_neg Fk] at q ⊢;exact⟨δ,r.same j,f.mono _ _ _ (λb k=>k.on j) q⟩
 ·cases b with
  |true=>rw[if_pos rfl] at q ⊢;exact g _ q
  |false=>rw[if_neg Fk] at q ⊢;exact f.mono _ _ _ g q
def OI(f:PD X a ta):PD X (.UnaryOp .Not a pos) (R5 ta) :=
 ⟨(Mw f.pe).imp fun σ H Q ⟨δ,r,h⟩=>⟨δ,r,f.mono _ _ _ (fun d ⟨b,e,q⟩ v j i dv=>by subst e;cases dv;exact⟨b,rfl,q _ j i (.bl _)⟩) h⟩,
  λδ P l g h=>f.mono _ _ _ (fun d ⟨b,e,q⟩=>⟨b,e,g _ q⟩) h⟩
def TC(u:TD)(f g:ED):ED:=λδ Q=>u δ λb=>if b=true then f δ Q else g δ Q
def Qt(i:mV X c ua)(l:PD X a ta)(j:PD X b tb):PD X (.IfExp c a b pos) (TC ua ta tb):=by
 refine⟨(yz i.pt l.pe j.pe).imp λσ H Q ⟨δ,r,h⟩=>⟨δ,r,i.mono _ _ _ (λk q m f=>?_) h⟩,λδ P n g h=>i.mono _ _ _ (λk q=>?_) h⟩
 ·cases k with
  |true=>rw[if_pos rfl] at q ⊢;exact⟨δ,r.same f,l.mono _ _ _ (λb k=>k.on f) q⟩
  |false=>rw[if_neg Fk] at q ⊢;exact⟨δ,r.same f,j.mono _ _ _ (λb k=>k.on f) q⟩
 ·cases k with
  |true=>rw[if_pos rfl] at q ⊢;exact l.mono _ _ _ g q
  |false=>rw[if_neg Fk] at q ⊢;exact j.mono _ _ _ g q
def BA(f f':F2)(g i h:ED):ED:=λδ Q=>g δ λx=>i δ λy=>f x y λz=>∃k,z=.bl k/\if k=true then h δ λw=>f' y w Q else Q (.bl false)
def EW(y:bK ta)(B:bK tb)(E:bK tc)(L:iM X.K r f)(F:ef f)(o:iM X.K r' f')(i:ef f') :
  (∀ σ H Q,oE X.K (BA f f' ta tb tc) σ H Q->Gu r r' (oE X.K ta) (oE X.K tb) (oE X.K tc) σ H Q)/\bK (BA f f' ta tb tc):=by
 refine⟨λσ H Q ⟨δ,r,h⟩=>⟨δ,r,y _ _ _ (λd l v O C dv=>⟨δ,r.same C,B _ _ _ (λe m w M x t=>L M v w d e _ (dv.same x) t (F d e _ _ (λz p u N A j=>?_) m)) l⟩) h⟩,?_⟩
 ·obtain⟨k,rfl,q⟩:=p
  cases j
  refine⟨k,rfl,?_⟩
  have s:=C.trans (x.trans A)
  cases k with
  |true =>
   rw[if_pos rfl] at q ⊢
   exact⟨δ,r.same s,E _ _ _ (λd n u I G j=>o I w u e d Q (t.same (A.trans G)) j (i _ _ _ _ (λz p=>p.on (s.trans G)) n)) q⟩
  |false =>
   rw[if_neg Fk] at q ⊢
   exact q _ N s (.bl _)
 ·intro δ P R g h
  refine y _ _ _ (λd l=>B _ _ _ (λe m=>F _ _ _ _ (λz ⟨k,J,q⟩=>⟨k,J,?_⟩) m) l) h
  cases k with
  |true=>rw[if_pos rfl] at q ⊢;exact E _ _ _ (λd n=>i _ _ _ _ g n) q
  |false=>rw[if_neg Fk] at q ⊢;exact g _ q
def QR:F2:=KW λi j=>.bl (decide (i<=j))
def zu(h:PD X a ta)(l:PD X b tb)(g:PD X c tc)(m:lastMarks [.LtE,.LtE] [b,c]=false:=by with_unfolding_all rfl):PD X (.Compare a [.LtE,.LtE] [b,c] pos) (BA QR QR ta tb tc) :=
 let q:=EW (X:=X) h.mono l.mono g.mono (r:=HN λi j=>.bl (decide (i<=j))) (r':=HN λi j=>.bl (decide (i<=j))) (f:=QR) (f':=QR) (jX λ_ _ _=>.bl _) AR (jX λ_ _ _=>.bl _) AR
 ⟨(F6 Fy Fy h.pe l.pe g.pe m).imp q.1,q.2⟩
end
section
variable {X:Cx}{a b c e:Expr}{es rest:List Expr}{pos:Pos}{ta tb tc:ED}{ua ub:TD}{t:AD}
def vn:AD:=λ_ Q=>Q []
def EK(f:ED)(t:AD):AD:=λδ Q=>f δ λd=>t δ λg=>Q (d::g)
def aC:iZ X [] vn:=⟨PA.imp gX fun σ H Q ⟨δ,r,h⟩=>h [] H (aH.refl _) .nil,λδ P f g h=>g _ h⟩
def aA(m:PD X e ta)(i:iZ X es t)(w:autoParam (starEach (e::es) X.env=(false,eval e X.env)::starEach es X.env) dI):iZ X (e::es) (EK ta t) :=
 ⟨PA.imp (cU m.pe i.pa w) fun σ H Q ⟨δ,r,h⟩=>⟨δ,r,m.mono _ _ _ (λd j v x o dv=>⟨δ,r.same o,i.mono _ _ _ (λu l s p n f=>l (v::s) p (o.trans n) (.cons (dv.same n) f)) j⟩) h⟩,
  λδ P y g h=>m.mono _ _ _ (λd j=>i.mono _ _ _ (λu l=>g _ l) j) h⟩
def R9(t:AD):ED:=λδ Q=>t δ λf=>f.length<=sizeLine/\Q (.tup f)
def QE(t:AD):ED:=λδ Q=>t δ λf=>f.length<=sizeLine/\Q (.lst f)
def bT(h:iZ X es t):PD X (.Tuple es x1 pos) (R9 t) :=
 ⟨(M0 h.pa).imp fun σ H Q ⟨δ,r,q⟩=>⟨δ,r,h.mono _ _ _ (fun l ⟨i,k⟩ n o m f=>⟨by rw[f.length];exact i,λp j=>k _ _ (m.trans (aL j)) (.tup (iN.of aF) (f.same (aL j)))⟩) q⟩,
  λδ P s g q=>h.mono _ _ _ (fun l ⟨i,k⟩=>⟨i,g _ k⟩) q⟩
def cB(h:iZ X es t):PD X (.List es pos) (QE t) :=
 ⟨(wa h.pa).imp fun σ H Q ⟨δ,r,q⟩=>⟨δ,r,h.mono _ _ _ (fun l ⟨i,k⟩ n o m f=>⟨by rw[f.length];exact i,λp j=>k _ _ (m.trans (aL j)) (.lst (cW.of aF) (f.same (aL j)))⟩) q⟩,
  λδ P s g q=>h.mono _ _ _ (fun l ⟨i,k⟩=>⟨i,g _ k⟩) q⟩
def vv:Expr->Option D
 |.Constant (.str x) _ _=>some (.str x)
 |.Constant (.int i) _ _=>some (.int i)
 |.Constant (.bool b) _ _=>some (.bl b)
 |.Constant .none _ _=>some .ae
 |.UnaryOp .USub (.Constant (.int i) _ _) _=>some (.int (-i))
 |_=>none
def mH:List Expr->List D
 |[]=>[]
 |e::f=>(vv e).getD .ae::mH f
def EL(f:List D):AD:=λ_ Q=>Q f
def pN:∀{es:List Expr} (_:es.all (λe=>(vv e).isSome)=true),iZ X es (EL (mH es))
 |[],_=>⟨aC.pa,λδ P j g h=>g _ h⟩
 |e::es,h=>by
  rw[V2,Tw] at h
  have i:=pN h.2
  obtain⟨v,f⟩:=VC.mp h.1
  have l:mH (e::es)=v::mH es:=by
   show(vv e).getD .ae::mH es=_
   rw[f]
   rfl
  rw[l]
  refine⟨?_,λδ P j g h=>g _ h⟩
  have one:iZ X (e::es) (EK (vC v) (EL (mH es))):=by
   unfold vv at f
   split at f
   ·cases f;exact aA ar i rfl
   ·cases f;exact aA aI i rfl
   ·cases f;exact aA nH i rfl
   ·cases f;exact aA ig i rfl
   ·cases f
    refine aA ⟨(KQ aI).pe.imp ?_,λδ P j g h=>g _ h⟩ i rfl
    exact fun σ H Q ⟨δ,r,q⟩=>⟨δ,r,_,rfl,q⟩
   ·cases f
  exact one.pa
def QQ:F2:=λd e Q=>match d,e with
 |.lst f,.int i=>∃r,tZ f i=some r/\Q r
 |.tup f,.int i=>∃r,tZ f i=some r/\Q r
 |.str z,.int i=>z.length<=sizeLine/\∃c,tZ z.cps.toList i=some c/\Q (.str ⟨#[c]⟩)
 |_,_=>False
def RE:ef QQ:=by
 intro d e P j f h
 unfold QQ at h ⊢
 split at h
 ·obtain⟨r,g,q⟩:=h;exact⟨r,g,f _ q⟩
 ·obtain⟨r,g,q⟩:=h;exact⟨r,g,f _ q⟩
 ·obtain⟨i,r,g,q⟩:=h;exact⟨i,r,g,f _ q⟩
 ·exact h.elim
def bA.tZ{K:l'}(h:bA K H g f)(e:L2.tZ f i=some d):∃v,L2.tZ g i=some v/\Dv K H v d:=by
 unfold L2.tZ at e ⊢
 rw[h.length]
 cases q:L8 f.length i with
 |none=>rw[q] at e;cases e
 |some j =>
  rw[q] at e
  exact h.get e
def Hw{K:l'}:iM K (SY K) QQ:=by
 intro H x y d e Q m o h
 cases o with
 |int i=>cases m with
  |lst j l =>
   obtain⟨r,g,q⟩:=h
   obtain⟨v,f,dv⟩:=l.tZ g
   exact .inl ⟨_,_,i,v,rfl,rfl,j,f,q _ H (aH.refl _) dv⟩
  |tup j l =>
   obtain⟨r,g,q⟩:=h
   obtain⟨v,f,dv⟩:=l.tZ g
   exact .inr (.inl ⟨_,_,i,v,rfl,rfl,j,f,q _ H (aH.refl _) dv⟩)
  |str z =>
   obtain⟨p,c,n,q⟩:=h
   exact .inr (.inr ⟨z,i,c,rfl,rfl,p,n,q _ H (aH.refl _) (.str _)⟩)
  |_=>exact h.elim
 |_=>cases m<;>exact h.elim
def Nx:ED->ED->ED:=rJ QQ
def ba(g:PD X a ta)(f:PD X b tb)(h:vi b):PD X (.Subscript a b pos) (Nx ta tb):=xf (t:=oE X.K ta) (Ko L9 g.pe f.pe h) g.mono f.mono Hw RE
def cutD(xs:List D)(lo f:Option Int):List D:=(xs.drop (HT.dX xs.length 0 lo)).take (HT.dX xs.length xs.length f - HT.dX xs.length 0 lo)
def bA.cut{K:l'}(h:bA K H f i)(lo g:Option Int):bA K H (xc f lo g) (cutD i lo g):=by
 unfold xc cutD
 rw[h.length]
 exact(h.drop _).take _
def OT(d:D)(lo g:Option Int)(Q:D->Prop):Prop:=match d with
 |.lst f=>Q (.lst (cutD f lo g))
 |.tup f=>¬ (HT.dX f.length 0 lo=0/\HT.dX f.length f.length g=f.length)/\Q (.tup (cutD f lo g))
 |.str z=>z.length<=sizeLine/\Q (.str (VB z lo g))
 |_=>False
def RG{lo g:Option Int}(f:∀r,P r->i r)(h:OT d lo g P):OT d lo g i:=by
 unfold OT at h ⊢
 split at h
 ·exact f _ h
 ·exact⟨h.1,f _ h.2⟩
 ·exact⟨h.1,f _ h.2⟩
 ·exact h.elim
def RX:HX X (λx lo f H Q=>Pf X.K x lo f H Q\/Pg X.K x lo f H Q\/∃z,x=.str z/\z.length<=sizeLine/\Q (.str (VB z lo f)) H):=CJ.or (NP.or NO)
abbrev OD:=SD->(Option Int->Prop)->Prop
structure Nl (X:Cx) (e:Option Expr) (t:OD):Prop where
 po:PO X e (λσ H Q=>∃ δ,bG X.K H σ δ/\t δ λo=>∀H',aH H H'->Q o H')
 mono:∀ δ (P P':Option Int->Prop),(∀d,P d->P' d)->t δ P->t δ P'
def O8:OD:=λ_ Q=>Q none
def O9(t:ED):OD:=λδ Q=>t δ λd=>∃i,d=.int i/\Q (some i)
def PO.imp{e:Option Expr}{t i:TO}(h:PO X e t)(f:∀ σ H Q,i σ H Q->t σ H Q):PO X e i:=λg s σ H Q I q=>h g s σ H Q I (f σ H Q q)
def gW:Nl X none O8:=⟨PO.imp JU fun σ H Q ⟨δ,r,h⟩=>h H (aH.refl _),λδ P f g h=>g _ h⟩
def dh(h:PD X e ta):Nl X (some e) (O9 ta) :=
 ⟨PO.imp (JV h.pe) fun σ H Q ⟨δ,r,q⟩=>⟨δ,r,h.mono _ _ _ (fun d ⟨i,f,k⟩ v l j dv=>by subst f;cases dv;exact⟨i,rfl,k l j⟩) q⟩,λδ P m g q=>h.mono _ _ _ (fun d ⟨i,f,k⟩=>⟨i,f,g _ k⟩) q⟩
def TL(g:ED)(f i:OD):ED:=λδ Q=>g δ λd=>f δ λlo=>i δ λh=>OT d lo h Q
def dW{lo l:Option Expr}(w:PD X e ta)(u:Nl X lo B)(o:Nl X l A):PD X (.Subscript e (.Slice lo l none E) pos) (TL ta B A):=by
 refine⟨(y_ RX w.pe u.po o.po).imp fun σ H Q ⟨δ,r,h⟩=>⟨δ,r,w.mono _ _ _ (λd i v G y dv=>⟨δ,r.same y,u.mono _ _ _ (λlo f J n=>⟨δ,r.same (y.trans n),o.mono _ _ _ (λl j F C=>?_) f⟩) i⟩) h⟩,
  λδ P I g h=>w.mono _ _ _ (λd i=>u.mono _ _ _ (λlo f=>o.mono _ _ _ (λl j=>RG g j) f) i) h⟩
 have s:=y.trans (n.trans C)
 have x:=dv.same (n.trans C)
 clear i f dv
 cases x with
 |lst i f=>exact .inl ⟨_,_,rfl,i,λp m=>j _ _ (s.trans (aL m)) (.lst (cW.of aF) ((f.cut lo l).same (aL m)))⟩
 |tup i f=>exact .inr (.inl ⟨_,_,rfl,i,by rw[f.length];exact j.1,λp m=>j.2 _ _ (s.trans (aL m)) (.tup (iN.of aF) ((f.cut lo l).same (aL m)))⟩)
 |str z=>exact .inr (.inr ⟨z,rfl,j.1,j.2 _ F s (.str _)⟩)
 |_=>exact j.elim
def Nf(K:l')(h:ED)(f:Str):ED:=λδ Q=>h δ λd=>∃C g r,d=.obj C g/\tY K C/\dP K C f/\g.lookup f=some r/\Q r
def OC(m:PD X e ta)(u:UZ e f X.env (eval e X.env)=eval e X.env):PD X (.Attribute e f pos) (Nf X.K ta f) :=
 ⟨(JP m.pe u).imp fun σ H Q ⟨δ,r,h⟩=>⟨δ,r,m.mono _ _ _ (fun d ⟨C,o,r,j,i,n,l,k⟩ v p A dv=>by
   subst j
   cases dv with
   |obj x z =>
    obtain⟨w,y,s⟩:=z.look l
    exact⟨_,_,_,_,w,rfl,x,i,n,y,k _ p A s⟩) h⟩,
  λδ P B g h=>m.mono _ _ _ (fun d ⟨C,o,r,j,i,n,l,k⟩=>⟨C,o,r,j,i,n,l,g _ k⟩) h⟩
abbrev cI:=List D->(D->Prop)->Prop
abbrev cN(f:cI):Prop:=∀g (P h:D->Prop),(∀d,P d->h d)->f g P->f g h
def xA(K:l')(g:cI):Sp:=λh H Q _=>∃f,bA K H h f/\g f (kD K H Q)
def zT(f:cI)(t:AD):ED:=λδ Q=>t δ λg=>f g Q
def LW{p:Pos}(F:cE X.prog X.w X.K X.mg X.base nY k f o s (xA X.K i))(n:cN i)(B:bZ k X.A)(v:Gl X x)(z:X.mg x=some (.ref f))
  (y:keepIn X.K (.ref f)=true)(E:Binds X.K o s [])(m:iZ X (e::es) t)(G:autoParam ((x == ("__debug__":Str))=false) e7)
  (C:PE X (.Call (.Name x p) (e::es) [] pos) (K2 (xA X.K i) [] E0 (oA X.K t)):=by exact wY F B v z y E .nil sR m.pa):PD X (.Call (.Name x p) (e::es) [] pos) (zT i t) :=
 ⟨C.imp fun σ H Q ⟨δ,r,h⟩=>⟨δ,r,m.mono _ _ _ (λu l J L I j=>⟨u,by rw[UD];exact j,n _ _ _ (λd k=>k.on I) l⟩) h⟩,λδ P M g h=>m.mono _ _ _ (λu l=>n _ _ _ g l) h⟩
def vB(f:cI)(t:AD):ED:=λδ Q=>t δ λg=>f g Q
def qM(K:l')(r:List V->Hp->VK->Prop)(h:cI):Prop:=∀H f g Q,bA K H f g->h g (kD K H Q)->r f H Q
def xg(s:PE X e (Py r (oA X.K t)))(n:ko t)(v:qM X.K r i)(m:cN i):PD X e (vB i t) :=
 ⟨s.imp fun σ H Q ⟨δ,r,h⟩=>⟨δ,r,n _ _ _ (λl j o p u f=>v p o l Q f (m _ _ _ (λd k=>k.on u) j)) h⟩,λδ P w g h=>n _ _ _ (λl j=>m _ _ _ g j) h⟩
end
structure nZ where
 nx:SD->Prop
 rt:D->Prop
 bk:SD->Prop:=λ_=>False
 ct:SD->Prop:=λ_=>False
abbrev fm:=nZ->SD->Prop
structure nZ.Le (E E':nZ):Prop where
 nx:∀ δ,E.nx δ->E'.nx δ
 rt:∀d,E.rt d->E'.rt d
 bk:∀ δ,E.bk δ->E'.bk δ
 ct:∀ δ,E.ct δ->E'.ct δ
abbrev uO(t:fm):Prop:=∀E a δ,nZ.Le E a->t E δ->t a δ
def kS(K:l')(H:Hp)(Q:L2.St->Hp->Prop):SD->Prop:=λδ=>∀ σ a,aH H a->bG K a σ δ->Q σ a
def e9(K:l')(H:Hp)(D:Ends):nZ:=⟨kS K H D.nx,kD K H D.rt,kS K H D.bk,kS K H D.ct⟩
def kS.on{K:l'}(s:aH H a)(h:kS K H Q δ):kS K a Q δ:=λσ b c r=>h σ b (s.trans c) r
def v5{K:l'}{D:Ends}(s:aH H a):nZ.Le (e9 K H D) (e9 K a D):=⟨λ_ h=>h.on s,λ_ h=>h.on s,λ_ h=>h.on s,λ_ h=>h.on s⟩
def oS(K:l')(t:fm):TS:=λD σ H=>∃ δ,bG K H σ δ/\t (e9 K H D) δ
structure xT (X:Cx) (st:Stmt) (t:fm):Prop where
 ps:PS X st (oS X.K t)
 mono:uO t
structure jQ (X:Cx) (st:List Stmt) (t:fm):Prop where
 ps:kq X st (oS X.K t)
 mono:uO t
section
variable {X:Cx}{st:Stmt}{rest body els:List Stmt}{t u:fm}{e c:Expr}{te:ED}{uc:TD}{pos:Pos}
def PS.imp{t b:TS}(h:PS X st t)(f:∀D σ H,b D σ H->t D σ H):PS X st b:=λa s σ H D I q=>h a s σ H D I (f D σ H q)
def kq.imp{t b:TS}(h:kq X rest t)(f:∀D σ H,b D σ H->t D σ H):kq X rest b:=λa s σ H D I q=>h a s σ H D I (f D σ H q)
def PZ:fm:=λE δ=>E.nx δ
def Jf(t u:fm):fm:=λE δ=>t { E with nx:=u E } δ
def ay:jQ X [] PZ:=⟨kq.imp we fun D σ H ⟨δ,r,h⟩=>h σ H (aH.refl _) r,λE a δ l h=>l.nx _ h⟩
def aK(a:xT X st t)(b:jQ X rest u):jQ X (st::rest) (Jf t u) :=
 ⟨kq.imp (oi a.ps b.ps) fun D σ H ⟨δ,r,h⟩=>⟨δ,r,a.mono { e9 X.K H D with nx:=u (e9 X.K H D)} _ _ ⟨λf q j m i g=>⟨f,g,b.mono _ _ _ (v5 i) q⟩,λ_ q=>q,λ_ q=>q,λ_ q=>q⟩ h⟩,
  λE n δ l h=>a.mono { E with nx:=u E } _ _ ⟨λf q=>b.mono _ _ _ l q,l.rt,l.bk,l.ct⟩ h⟩
def aE(a:xT X st t):jQ X [st] t:=⟨wg a.ps,a.mono⟩
def RP(a:ED):fm:=λE δ=>a δ E.rt
def aP(a:PD X e te):xT X (.Return (some e) pos) (RP te):=⟨PS.imp (Aq a.pe) fun D σ H ⟨δ,r,h⟩=>⟨δ,r,h⟩,λE b δ l h=>a.mono _ _ _ l.rt h⟩
def PX(a:ED):fm:=λE δ=>a δ λ_=>E.nx δ
def bI(a:PD X e te)(g:autoParam (Ue e none pos.line X.env=pure false) dI):xT X (.Expr e pos) (PX te) :=
 ⟨PS.imp (mP a.pe g) fun D σ H ⟨δ,r,h⟩=>⟨δ,r,a.mono _ _ _ (λd q v f b dv=>q σ f b (r.same b)) h⟩,λE i δ l h=>a.mono _ _ _ (λd q=>l.nx _ q) h⟩
def Jg(i:Nat)(a:ED):fm:=λE δ=>a δ λd=>E.nx (δ.set i (some d))
def bB(g:X.N.Nodup)(m:X.N[i]?=some x)(o:Loc X.env.scope x)(b:PD X e te)(p:autoParam (Ue e (some (.Name x a)) pos.line X.env=pure false) dI)
  (j:autoParam (X.fn x=true\/X.env.scope.names.lookup x=some .local) eS):xT X (.Assign [.Name x a] e pos) (Jg i te) :=
 ⟨PS.imp (Ar g m o b.pe p j) fun D σ H ⟨δ,r,h⟩=>⟨δ,r,b.mono _ _ _ (λd q v n f dv=>q _ n f ((r.same f).set i dv)) h⟩,λE s δ l h=>b.mono _ _ _ (λd q=>l.nx _ q) h⟩
def S3(a:TD)(t u:fm):fm:=λE δ=>a δ λb=>if b=true then t E δ else u E δ
def cw(b:mV X c uc)(g:jQ X body t)(f:jQ X els u):xT X (.If c body els pos) (S3 uc t u):=by
 refine⟨PS.imp (Kq b.pt g.ps f.ps) λD σ H ⟨δ,r,h⟩=>⟨δ,r,b.mono _ _ _ (λk q i a=>?_) h⟩,λE j δ l h=>b.mono _ _ _ (λk q=>?_) h⟩
 ·cases k with
  |true=>rw[if_pos rfl] at q ⊢;exact⟨δ,r.same a,g.mono _ _ _ (v5 a) q⟩
  |false=>rw[if_neg Fk] at q ⊢;exact⟨δ,r.same a,f.mono _ _ _ (v5 a) q⟩
 ·cases k with
  |true=>rw[if_pos rfl] at q ⊢;exact g.mono _ _ _ l q
  |false=>rw[if_neg Fk] at q ⊢;exact f.mono _ _ _ l q
def NC:fm:=λ_ _=>False
def ki:xT X st NC:=⟨PS.imp GP fun D σ H ⟨δ,r,h⟩=>h,λE a δ l h=>h⟩
end
def bS(N:List Str)(ds:List D):SD:=ds.map some++T_ (N.length - ds.length) none
def dk{K:l'}(h:bA K H b a):bG K H (L2.start N b) (bS N a):=by
 unfold L2.start bS
 have g:=h.length
 refine⟨by rw[TY,TY,tz,tz,Vv,Vv,g],λi d e=>?_⟩
 by_cases f:i<a.length
 ·rw[UM (by rw[tz];exact f),TX] at e
  cases q:a[i]? with
  |none=>rw[q] at e;cases e
  |some j =>
   rw[q] at e
   cases e
   obtain⟨v,c,dv⟩:=h.get q
   exact⟨v,by rw[UM (by rw[tz];omega),TX,c];rfl,dv⟩
 ·rw[UL (by rw[tz];omega),We] at e
  split at e<;>cases e
abbrev Bx(P:TV)(w:World)(K:l')(g:Str->Option Value)(b:Heap)(N:List Str)(c:Str)(st:Stmt)(f:Addr)(e:Value)(A:Around)(a:List Env)(s:Shared)(H:Hp)(E:XK):Cx:=(n9 nY P w K g b N c (aB st) f e A a s H E).Mb
def SS{K:l'}{st:Stmt}(F:xO K x b st f o)(S:aD N l (aB st))(n:∀c Q,m c Q->c.length=l.length)
  (v:∀(e:Value) (A:Around) (a:List Env) (s:Shared) (H:Hp) (E:XK),bZ k (A.deeper (envOfC b (aB st) s.heap.objs.size f e))->jQ (Bx P w K u j N b st f e A a s H E) (af st) t)
  (y:∀c Q,m c Q->t { nx:=λ_=>Q .ae,rt:=Q } (bS N c)):cE P w K u j nY (k+1) f o l (xA K m):=by
 refine F.ok S (fun p H Q E ⟨c,g,h⟩=>by rw[g.length];exact n c _ h) (?_);rintro e A a s H p Q E i ⟨c,g,h⟩
 have B:=v e A a s H E i
 refine⟨_,B.ps,bS N c,dk g,?_⟩
 refine B.mono { nx:=λ_=>kD K H Q .ae,rt:=kD K H Q } _ _ ⟨λδ q σ z C r=>q _ z C .ae,λd q=>q,λ_ q=>q.elim,λ_ q=>q.elim⟩ (y c _ h)
structure D6 (K:l') (J:It) (H1:Hp) (ds:List D):Prop where
 go:∀i H',aH H1 H'->i<ds.length->J.go i H'
 stop:∀H',aH H1 H'->J.stop ds.length H'
 BC:∀i H' x H'',aH H1 H'->i<ds.length->J.BC i H' x H''->aH H' H''/\∃d,ds[i]?=some d/\∃Hx,aH H1 Hx/\Dv K Hx x d/\(∀a o,Hx a=some o->H1 a=some o\/H' a=none)/\aH Hx H''
structure PId (X:Cx) (tg iter:Expr) (ti:AD):Prop where
 pi:PI X tg iter (λσ H R=>∃ δ,bG X.K H σ δ/\ti δ λds=>∀J H1,aH H H1->D6 X.K J H1 ds->R J H1)
 mono:ko ti
def FJ:D->Option (List D)
 |.lst xs=>some xs
 |.tup xs=>some xs
 |.str y=>some (y.cps.toList.map λc=>.str ⟨#[c]⟩)
 |_=>none
def LJ(a:ED):AD:=λδ Q=>a δ λd=>∃ds,FJ d=some ds/\Q ds
def PI.imp(h:PI X e l c)(f:∀ σ H R,b σ H R->c σ H R):PI X e l b:=λa s σ H R I q=>h a s σ H R I (f σ H R q)
def GF(z:PE X l w):PI X F l (λσ H R=>w σ H λx f=>(∃a,x=.ref a/\(∃j,cW X.K f a j)/\R (SA X.K a) f)\/(∃a,x=.ref a/\(∃j,iN X.K f a j)/\R (SE X.K a) f)\/∃y,x=.str y/\R (Qk y) f):=by
 intro g s σ H R I h
 refine bg (z g s σ H _ I h) ?_;rintro v c ⟨x,f,i,r,C⟩
 have n:∀b∈[c.heap.objs.size],lF X g f b:=λb A=>by
  have e:b=c.heap.objs.size:=by simpa using A
  subst e
  exact i.E8 (S' _) (i.au.fresh (S' _))
 rcases C with⟨a,e,⟨j,u⟩,q⟩|⟨a,e,⟨j,u⟩,q⟩|⟨y,e,q⟩
 ·subst e
  cases(show v=Td a from r)
  obtain⟨m,B,p,E⟩:=i.list u
  exact wpAny_pyIter_list p.isList ⟨c.heap.objs.size,[c.heap.objs.size],_,_,f,rfl,i.kept (t':=c.toks) λb o e=>B' _ e,Dy a _,⟨_,TN _ rfl,rfl,rfl⟩,n,q⟩
 ·subst e
  cases(show v=Td a from r)
  obtain⟨m,B,p,E⟩:=i.tuple u
  exact XW (show c.heap.IsTuple a m.toArray from p) ⟨c.heap.objs.size,[c.heap.objs.size],_,_,f,rfl,i.kept (t':=c.toks) λb o e=>B' _ e,A_ a _,⟨_,TN _ rfl,rfl,rfl⟩,n,q⟩
 ·subst e
  obtain⟨t,rfl⟩:=r
  cases ha:y.cps.all (·<128)
  ·exact wpAny_pyIter_wide ha ⟨c.heap.objs.size,[c.heap.objs.size],_,_,f,rfl,i.kept (t':=c.toks) λb o e=>B' _ e,D0 y t _,⟨_,TN _ rfl,rfl,rfl⟩,n,q⟩
  ·exact wpAny_pyIter_ascii ha ⟨c.heap.objs.size,[c.heap.objs.size],_,_,f,rfl,i.kept (t':=c.toks) λb o e=>B' _ e,Dz y t _,⟨_,TN _ rfl,rfl,rfl⟩,n,q⟩
def cF(s:PD X l E):PId X G l (LJ E):=by
 refine⟨PI.imp (GF s.pe) fun σ H R ⟨δ,r,h⟩=>⟨δ,r,s.mono _ _ _ (?_) h⟩,λδ P F g h=>s.mono _ _ _ (fun d ⟨B,e,q⟩=>⟨B,e,g _ q⟩) h⟩;rintro d ⟨B,e,q⟩ v n w dv
 cases dv with
 |lst b m =>
  cases e
  refine .inl ⟨_,rfl,⟨_,b⟩,q _ n w ⟨λi j a f=>?_,λj a=>⟨_,a.seq b,by rw[m.length];exact S' _⟩,λi j x o a f y=>?_⟩⟩
  ·obtain⟨v,p,_⟩:=m.get (F' f)
   exact⟨_,v,a.seq b,p⟩
  ·obtain⟨rfl,u⟩:=y
   obtain⟨d,t,dv⟩:=m.x_ (u _ (a.seq b))
   exact⟨aH.refl _,d,t,n,aH.refl _,dv,λ_ _ z=>.inl z,a⟩
 |tup b m =>
  cases e
  refine .inr (.inl ⟨_,rfl,⟨_,b⟩,q _ n w ⟨λi j a f=>?_,λj a=>⟨_,mZ a b,by rw[m.length];exact S' _⟩,λi j x o a f y=>?_⟩⟩)
  ·obtain⟨v,p,_⟩:=m.get (F' f)
   exact⟨_,v,mZ a b,p⟩
  ·obtain⟨rfl,u⟩:=y
   obtain⟨d,t,dv⟩:=m.x_ (u _ (mZ a b))
   exact⟨aH.refl _,d,t,n,aH.refl _,dv,λ_ _ z=>.inl z,a⟩
 |str y =>
  cases e
  refine .inr (.inr ⟨_,rfl,q _ n w ⟨λi j a f=>?_,λj a=>?_,λi j x o a f y=>?_⟩⟩)
  ·have A:i<y.cps.size:=by simpa using f
   exact A
  ·show y.cps.size<=_
   simp
  ·obtain⟨rfl,c,C,rfl⟩:=y
   refine⟨aH.refl _,.str ⟨#[c]⟩,?_,n,aH.refl _,.str _,λ_ _ z=>.inl z,a⟩
   rw[TX,Vs,C]
   rfl
 |_=>cases e
def BJ(t:AD):AD:=λδ Q=>t δ λa=>∃n:Int,a=[.int n]/\-(2 ^ 62)<=n/\n<2 ^ 62/\Q ((Ua n.toNat).map λi:Nat=>.int (0+(i:Int)))
def yN{K:l'}(lo:Int)(n:Nat):D6 K (QM lo n) H ((Ua n).map λi:Nat=>.int (lo+(i:Int))):=by
 refine⟨λi e c b=>?_,λe c=>?_,λi e x f c b y=>?_⟩
 ·have a:i<n:=by simpa using b
  exact a
 ·show n<=_
  simp
 ·obtain⟨rfl,rfl⟩:=y
  have a:i<n:=by simpa using b
  exact⟨aH.refl _,.int (lo+i),by rw[TX,List.getElem?_range a];rfl,H,aH.refl _,.int _,λ_ _ z=>.inl z,c⟩
def rn(t:Gl X "range")(u:X.mg "range"=none)(l:iZ X [a] m)(w:autoParam (starEach [a] X.env=[(false,eval a X.env)]) dI):PId X z (.Call (.Name "range" p) [a] [] f) (BJ m):=by
 refine⟨PI.imp (vH t u l.pa w) fun σ H R ⟨δ,r,h⟩=>⟨δ,r,l.mono _ _ _ (?_) h⟩,λδ P y g h=>l.mono _ _ _ (fun s ⟨n,e,i,j,q⟩=>⟨n,e,i,j,g _ q⟩) h⟩;rintro s ⟨n,e,i,j,q⟩ x o v c
 subst e
 cases c with
 |cons a b =>
  cases a
  cases b
  exact⟨n,rfl,i,j,q _ o v (yN 0 n.toNat)⟩
abbrev BI:=D->SD->(SD->Prop)->Prop
structure KI (X:Cx) (tg:Expr) (g:BI):Prop where
 pg:PG X tg (λv σ H Q=>∃d δ,Dv X.K H v d/\bG X.K H σ δ/\g d δ (kS X.K H Q))
 mono:∀d δ (P P':SD->Prop),(∀ δ,P δ->P' δ)->g d δ P->g d δ P'
def hName(i:Nat):BI:=λd δ Q=>Q (δ.set i (some d))
def PG.imp(h:PG X c t)(f:∀v σ H Q,b v σ H Q->t v σ H Q):PG X c b:=λa s σ H v u Q I r q=>h a s σ H v u Q I r (f v σ H Q q)
def bb(a:X.N.Nodup)(e:X.N[i]?=some x)(g:Loc X.env.scope x)(c:autoParam (X.fn x=true\/X.env.scope.names.lookup x=some .local) eS):KI X (.Name x b) (hName i) :=
 ⟨PG.imp (az a e g c) fun v σ H Q ⟨d,δ,dv,r,q⟩=>q _ H (aH.refl _) (r.set i dv),λd δ P h f q=>f _ q⟩
def PY(e:AD)(g:BI)(h:fm):fm:=λE δ=>e δ λc=>∃a:Nat->SD->Prop,a 0 δ /\
 (∀i d b,c[i]?=some d->a i b->g d b λf=>h { E with nx:=a (i+1),ct:=a (i+1),bk:=E.nx } f)/\∀ b,a c.length b->E.nx b
def B_(hp:V' (model X.prog X.w) X.A X.env X.xe)(hc:X.calm=true)(S:PId X Y f ti)(W:KI X Y g)(T:jQ X v tb)(hs:autoParam (∀x,foldedSetIterable f X.env x=pure x) eH) :
  xT X (.For Y f v [] pos) (PY ti g tb):=by
 refine⟨PS.imp (GN hp hc S.pi W.pg T.ps hs) fun D σ H ⟨δ,r,h⟩=>⟨δ,r,S.mono _ _ _ (?_) h⟩,λE E' δ l h=>S.mono _ _ _ (fun p ⟨a,C,step,o⟩=>⟨a,C,λi d b P c=>W.mono _ _ _ _ (λn q=>T.mono { E with nx:=a (i+1),ct:=a (i+1),bk:=E.nx } _ _ ⟨λ_ q=>q,l.rt,l.nx,λ_ q=>q⟩ q) (step i d b P c),λb q=>l.nx _ (o b q)⟩) h⟩;rintro p ⟨a,C,step,o⟩ J H1 L F
 refine⟨λi m M s=>m=p.length - i/\i<=p.length/\aH H1 s/\∃ b,bG X.K s M b/\a i b,⟨p.length,rfl,UP _,aH.refl _,δ,r.same L,C⟩,?_⟩
 rintro i m M s ⟨rfl,hle,u,b,Z,c⟩
 by_cases j:i<p.length
 ·refine .inr ⟨F.go i s u j,λσ2 Q=>aH H1 Q/\∃ n,bG X.K Q σ2 n/\a (i+1) n,fun σ2 Q ⟨z,n,r2,h2⟩=>⟨p.length - (i+1),by omega,rfl,j,z,n,r2,h2⟩,λx G y=>?_⟩
  obtain⟨z,d,P,Hx,_,B,_,sx⟩:=F.BC i s x G u j y
  have dv:=B.same sx
  have N:=u.trans z
  refine⟨d,b,dv,Z.same z,W.mono _ _ _ _ (λn q σ3 H3 I r3=>⟨n,r3,T.mono { e9 X.K H D with nx:=a (i+1),ct:=a (i+1),bk:=(e9 X.K H D).nx } _ _ ?_ q⟩) (step i d b P c)⟩
  have sB:=L.trans (N.trans I)
  exact⟨λU t σ4 H4 R O=>⟨N.trans (I.trans R),U,O,t⟩,λ_ t=>t.on sB,λ_ t=>t.on sB,λU t σ4 H4 R O=>⟨N.trans (I.trans R),U,O,t⟩⟩
 ·have e:i=p.length:=by omega
  subst e
  exact .inl ⟨F.stop s u,o b c M s (L.trans u) Z⟩
structure t_ (X:Cx) (ifs:List Expr) (t:TD):Prop where
 Nw:zZ X ifs (oT X.K t)
 mono:eh t
def QB:TD:=λ_ Q=>Q true
def zZ.imp(h:zZ X a t)(f:∀ σ H Q,c σ H Q->t σ H Q):zZ X a c:=λb s σ H Q I q=>h b s σ H Q I (f σ H Q q)
def cm:t_ X [] QB:=⟨zZ.imp Jb fun σ H Q ⟨δ,r,h⟩=>h H (aH.refl _),λδ P a g h=>g _ h⟩
def tR(h:mV X c a):t_ X [c] a:=⟨Jc h.pt,h.mono⟩
def nu(caps:List Nat)(δ:SD):SD:=caps.map λj=>(δ[j]?).getD none
def jL(caps:List Nat)(e:AD)(tt:TD)(c:ED):ED:=λδ Q=>e δ λds=>∃a:List (Option D),a.length=ds.length /\
 (∀(i:Nat) (d:D) (o:Option D),ds[i]?=some d->a[i]?=some o->tt (some d::nu caps δ) λb=>b=o.isSome/\(b=true->c (some d::nu caps δ) λy=>o=some y))/\ds.length<sizeLine/\Q (.lst (a.filterMap id))
def qr{K:l'}(r:bG K H σ δ)(dv:Dv K H x d)(a:List Nat):bG K H (some x::a.map λj=>(σ[j]?).getD none) (some d::nu a δ):=by
 refine⟨by unfold nu;simp,λi e h=>?_⟩
 cases i with
 |zero=>simp at h;subst h;exact⟨x,rfl,dv⟩
 |succ i =>
  unfold nu at h
  simp only[VI,TX] at h ⊢
  cases q:a[i]? with
  |none=>rw[q] at h;cases h
  |some j =>
   rw[q] at h
   have b:(δ[j]?).getD none=some e:=by simpa using h
   have c:δ[j]?=some (some e):=by
    cases z:δ[j]? with
    |none=>rw[z] at b;cases b
    |some o=>rw[z] at b;exact congrArg some b
   obtain⟨v,f,dv⟩:=r.get j e c
   exact⟨v,by simp[f],dv⟩
def xa{K:l'}(mi:ko U)(mt:eh tt)(me:bK T)(h:oE K (jL c U tt T) σ H Q) :
  vN 1 c (λσ H R=>∃ δ,bG K H σ δ/\U δ λs=>∀J u,aH H u->D6 K J u s->R J u) (cz 0) (mE (oT K tt)) (l_ (oE K T)) σ H Q:=by
 obtain⟨δ,r,h⟩:=h
 refine⟨δ,r,mi _ _ _ (?_) h⟩;rintro s ⟨f,B,E,G,q⟩ J u s1 P D hD
 refine⟨λi m A H'=>m=s.length - i/\i<=s.length/\∃t,t D=none/\aH u t/\bA K t A ((f.take i).filterMap id)/\H'=upd t D (.lst A),⟨s.length,rfl,UP _,u,hD,aH.refl _,.nil,rfl⟩,?_⟩
 rintro i m A H' ⟨rfl,hle,t,L,I,l,rfl⟩
 refine⟨aF,?_⟩
 have M:aH u (upd t D (.lst A)):=I.trans (aL L)
 by_cases p:i<s.length
 ·refine .inr ⟨P.go i _ M p,λx g y=>?_⟩
  obtain⟨Z,d,hd,Hx,sx1,O,only,sx⟩:=P.BC i _ x g M p y
  have Y:g D=some (.lst A):=Z _ _ aF
  have X:∀a o,u a=some o->a≠D:=λa o z=>aQ z hD
  have S:∀a o,Hx a=some o->a≠D:=λa o z w=>by
   rcases only a o z with N|N
   ·exact X a o N w
   ·rw[w,aF] at N;cases N
  have F:aH t (del g D):=λa o z=>by
   rw[cy (aQ z L)]
   exact Z a o (aL L a o z)
  have W:aH Hx (del g D):=λa o z=>by
   rw[cy (S a o z)]
   exact sx a o z
  obtain⟨o,ho⟩:∃o,f[i]?=some o:=⟨_,F' (show i<f.length by omega)⟩
  have C:bG K (del g D) (some x::c.map λj=>(σ[j]?).getD none) (some d::nu c δ):=qr (r.same (s1.trans (I.trans F))) (O.same W) c
  refine⟨Le.one,D,A,Y,_,C,mt _ _ _ (?_) (E i d o hd ho)⟩;rintro b ⟨eb,hb⟩ H3 s3 h3
  have ht:f.take (i+1)=f.take i++[o]:=by rw[UX,ho];rfl
  have n:aH t H3:=F.trans s3
  cases b with
  |false =>
   refine aU ?_
   refine⟨s.length - (i+1),by omega,rfl,p,H3,h3,I.trans n,?_,rfl⟩
   have on:o=none:=by cases o with|none=>rfl|some z=>cases eb
   rw[ht,on,Uh]
   simpa using l.same n
  |true =>
   refine aq ?_
   refine⟨D,A,aF,?_⟩
   rw[qu h3]
   refine⟨_,C.same s3,me _ _ _ (λy ey v H4 s4 dv h4=>⟨aF,?_,s.length - (i+1),by omega,rfl,p,H4,h4,I.trans (n.trans s4),?_,pH⟩) (hb rfl)⟩
   ·rw[l.length]
    exact Tc (G' (Vg _ _) (V4 _ _)) (by rw[B];exact G)
   ·rw[ht,ey,Uh]
    exact(l.same (n.trans s4)).append (.cons dv .nil)
 ·have e:i=s.length:=by omega
  subst e
  refine .inl ⟨P.stop _ M,?_⟩
  rw[<- B,T2] at l
  exact q _ _ (s1.trans M) (.lst (cW.of aF) (l.same (aL L)))
def pb(j:ko i):bK (jL f i tt l):=λδ P n g h=>j _ _ _ (fun m ⟨b,e,a,c,q⟩=>⟨b,e,a,c,g _ q⟩) h
def LX(S:bY X a n [x] g l)(t:X.calm=true)(m:PId X o f s)(z:∀C c b e,PG (aZ X a n C ([x]++l) c b e) o (cz 0))(y:∀C c b e,t_ (aZ X a n C ([x]++l) c b e) i tt)
  (w:∀C c b e,PD (aZ X a n C ([x]++l) c b e) j p)(mt:eh tt)(v:bK p)(r:autoParam (∀x,foldedSetIterable f X.env x=pure x) eH):PD X (.ListComp j [⟨o,f,i,0⟩] a u) (jL g s tt p) :=
 ⟨(JN S t m.pi z (λC c b e=>fA (y C c b e).Nw) (λC c b e=>gG (w C c b e).pe) r).imp λσ H Q h=>xa m.mono mt v h,pb m.mono⟩
def NI{F g:Pos}(I:X.N.Nodup)(w:X.N[i]?=some y)(L:Loc X.env.scope y)(S:bY X a z [x] m u)(M:X.calm=true)(o:PId X p b J)
  (U:∀C e c f,PG (aZ X a z C ([x]++u) e c f) p (cz 0))(T:∀C e c f,t_ (aZ X a z C ([x]++u) e c f) j tt)(R:∀C e c f,PD (aZ X a z C ([x]++u) e c f) n A)(mt:eh tt)(Q:bK A)
  (s:autoParam (Ue (.ListComp n [⟨p,b,j,0⟩] a t) (some (.Name y F)) g.line X.env=pure true) dI)(O:autoParam (X.fn y=true\/X.env.scope.names.lookup y=some .local) eS)
  (G:autoParam (∀x,foldedSetIterable b X.env x=pure x) eH):xT X (.Assign [.Name y F] (.ListComp n [⟨p,b,j,0⟩] a t) g) (Jg i (jL m J tt A)) :=
 ⟨PS.imp (wc I w L S M o.pi U (λC e c f=>fA (T C e c f).Nw) (λC e c f=>gG (R C e c f).pe) s O G) fun D σ H ⟨δ,r,h⟩ =>
   xa o.mono mt Q ⟨δ,r,pb o.mono _ _ _ (λd q v P B dv=>q _ P B ((r.same B).set i dv)) h⟩,
  λE W δ l h=>pb o.mono _ _ _ (λd q=>l.nx _ q) h⟩
def Bp:D->Option String
 |.ae=>some "NoneType"
 |.bl _=>some "bool"
 |.int _=>some "int"
 |.str _=>some "str"
 |.lst _=>some "list"
 |.tup _=>some "tuple"
 |.dK _=>some "dict"
 |.dT _=>some "dict"
 |.obj _ _=>none
 |.adr _=>none
 |.exc _ _ _=>none
structure gI (K:l') (C:Addr):Prop where
 cl:tY K C
 ha:findIn K (.ref C) "__class__"=some (some (.builtin "object.__class__"))
 hn:Yw K (.builtin "object.__class__") "__get__"=some (some (.builtin "getset_descriptor.__get__"))
 Q2:Zy K (.builtin "object.__class__")=some true
 hm:mroIn K C (.type "object")=some true
inductive Nm (K:l'):D->Value->Prop
 |k {d:D} {T:String} (h:Bp d=some T):Nm K d (.type T)
 |o {C:Addr} {gs:List (Str × D)} (h:gI K C):Nm K (.obj C gs) (.ref C)
def IM{σ:L2.St}(I:Inv X r σ H s)(c:RelV x u)(dv:Dv X.K H x d)(B:Nm X.K d t):∃A,ZV X.K u t A/\A s.heap/\u≠.builtin "__main__.__loader__#opaque":=by
 cases B with
 |k h =>
  cases dv with
  |ae=>cases h;cases(show u=T5 from c);exact⟨_,PySem.W.kitx_none,T9,λz=>nomatch z⟩
  |bl y=>cases h;cases(show u=Vu y from c);exact⟨_,PySem.W.kitx_bool,T9,λz=>nomatch z⟩
  |int i=>cases h;obtain⟨t,q⟩:=(show ∃t,u=Vt i t from c);cases q;exact⟨_,PySem.W.kitx_int,T9,λz=>nomatch z⟩
  |str y=>cases h;obtain⟨t,q⟩:=(show ∃t,u=Um y t from c);cases q;exact⟨_,PySem.W.kitx_str,T9,λz=>nomatch z⟩
  | @lst a F G b f =>
   cases h
   cases(show u=Td a from c)
   obtain⟨m,_,g,_⟩:=I.list b
   obtain⟨o,n,l,j,_⟩:=g
   exact⟨_,PySem.W.kitx_list,⟨o,l,j⟩,λz=>nomatch z⟩
  | @tup a F G b f =>
   cases h
   cases(show u=Td a from c)
   obtain⟨m,_,g,_⟩:=I.tuple b
   obtain⟨o,n,l,j,_⟩:=IsTup.of_get g
   exact⟨_,PySem.W.kitx_tuple,⟨o,l,j⟩,λz=>nomatch z⟩
  | @dK a e v b f =>
   cases h
   cases(show u=Td a from c)
   obtain⟨_,_,M,_,p⟩:=(show aO X.prog X.w H s.heap a (.dK e) from b.ok I.au)
   obtain⟨o,E,L,g1,g2,_⟩:=p
   exact⟨_,YX,⟨o,g1,g2.1⟩,λz=>nomatch z⟩
  | @dT a e v b f =>
   cases h
   cases(show u=Td a from c)
   obtain⟨⟨_,_,_,o,E,L,g1,g2,_⟩,_⟩:=(show aO X.prog X.w H s.heap a (Qi a e) from b.ok I.au)
   exact⟨_,YX,⟨o,g1,g2.1⟩,λz=>nomatch z⟩
  |obj b f=>cases h
  |adr _=>cases h
  |exc _ _ _=>cases h
 |o h =>
  cases dv with
  | @obj a C P fs v b f =>
   cases(show u=Td a from c)
   obtain⟨N,O,_⟩:=rp I.au b
   obtain⟨Q,J,_⟩:=O.look
   exact⟨_,PySem.W.kitx_own (h.cl.get _) h.cl.hd h.ha h.hn h.Q2 h.hm,J,λz=>nomatch z⟩
def uX(n:∀u,RelV g u->u=c):gH X (.builtin "isinstance") (λa H Q=>∃x d t b,a=[x,g]/\Dv X.K H x d/\Nm X.K d t/\kitOne X.K t c=some b/\Q (.bl b) H):=by
 intro f s σ H a y Q I r h
 obtain⟨x,d,t,b,rfl,dv,l,e,q⟩:=h
 obtain⟨u,m,rfl,i,p⟩:=vals2 r
 obtain rfl:=n m p
 obtain⟨v,Z,o,j⟩:=IM I i dv l
 exact Yx Z I.lQ o e j λw=>⟨.bl b,H,I.tok _,rfl,q⟩
def HD(K:l')(c:Value)(a:ED):ED:=λδ Q=>a δ λd=>∃t b,Nm K d t/\kitOne K t c=some b/\Q (.bl b)
def xi(he:PD X e j)(n:PE X (.Call (.Name "isinstance" p) [e,l] [] a) (Py (λs H Q=>∃x d t b,s=[x,vc]/\Dv X.K H x d/\Nm X.K d t/\kitOne X.K t c=some b/\Q (.bl b) H) (vS (oE X.K j) (vS (tC vc) Gw)))) :
  PD X (.Call (.Name "isinstance" p) [e,l] [] a) (HD X.K c j) :=
 ⟨n.imp fun σ H Q ⟨δ,r,h⟩=>⟨δ,r,he.mono _ _ _ (fun d ⟨t,b,f,i,k⟩ v m o dv=>⟨v,d,t,b,rfl,dv,f,i,k _ m o (.bl _)⟩) h⟩,λδ P u g h=>he.mono _ _ _ (fun d ⟨t,b,f,i,k⟩=>⟨t,b,f,i,g _ k⟩) h⟩
def zt{j p g:Pos}(f:PD X e i)(n:Gl X "isinstance")(l:X.mg "isinstance"=none)(b:Gl X x)(c:X.mg x=none)(a:UR x=some (.type T))(m:autoParam (x≠"__name__") e7)(o:autoParam ((x == ("__debug__":Str))=false) e7)
  (h:autoParam (starEach [e,.Name x g] X.env=(false,eval e X.env)::starEach [.Name x g] X.env) dI):PD X (.Call (.Name "isinstance" p) [e,.Name x g] [] j) (HD X.K (.type T) i) :=
 xi (vc:=.ty T) f (dA (uX λu z=>z) n l W2 (cU f.pe (cU (B4 (v:=.ty T) b c a rfl m o) gX) h) (he:=h))
def LZ{i p f:Pos}(c:PD X e h)(l:Gl X "isinstance")(j:X.mg "isinstance"=none)(a:Gl X x)(b:X.mg x=some (.ref C))(m:autoParam ((x == ("__debug__":Str))=false) e7)
  (g:autoParam (starEach [e,.Name x f] X.env=(false,eval e X.env)::starEach [.Name x f] X.env) dI):PD X (.Call (.Name "isinstance" p) [e,.Name x f] [] i) (HD X.K (.ref C) h) :=
 xi (vc:=.ref C) c (dA (uX λu z=>z) l j W2 (cU c.pe (cU (wZ (v:=.ref C) a b rfl m) gX) g) (he:=g))
def DH(T:String)(d:D):Option Bool:=(Bp d).map λk=>k == T||(k == "bool"&&T == "int")
def IY{K:l'}(b:Bp d=some k)(hT:T∈["bool","int","str","list","tuple","dict"]):kitOne K (.type k) (.type T)=some (k == T||(k == "bool"&&T == "int")):=by
 have a:k∈["NoneType","bool","int","str","list","tuple","dict"]:=by cases d<;>cases b<;>simp
 simp only[Gc,Tt,or_false] at a hT
 rcases a with rfl|rfl|rfl|rfl|rfl|rfl|rfl<;>rcases hT with rfl|rfl|rfl|rfl|rfl|rfl<;>kernel_rfl
def CV(T:String)(a:ED):ED:=λδ Q=>a δ λd=>∃b,DH T d=some b/\Q (.bl b)
def PD.DH(h:PD X e (HD X.K (.type T) c))(m:bK c)(hT:T∈["bool","int","str","list","tuple","dict"]):PD X e (CV T c) :=
 ⟨h.pe.imp fun σ H Q ⟨δ,r,q⟩=>⟨δ,r,m _ _ _ (fun d ⟨b,a,k⟩=>by
   unfold DC.DH at a
   cases hk:Bp d with
   |none=>rw[hk] at a;cases a
   |some f =>
    rw[hk] at a
    have i:(f == T||(f == "bool"&&T == "int"))=b:=by simpa using a
    exact⟨_,b,.k hk,by rw[IY hk hT,i],k⟩) q⟩,λδ P j g q=>m _ _ _ (fun d ⟨b,a,k⟩=>⟨b,a,g _ k⟩) q⟩
def Q9:D->Option Int
 |.str x=>if x.length<=sizeLine then some x.length else none
 |.lst xs=>some xs.length
 |.tup xs=>some xs.length
 |_=>none
def Gh:cI:=λds Q=>∃d n,ds=[d]/\Q9 d=some n/\Q (.int n)
def O1:cN Gh:=fun ds P a g ⟨d,n,e,h,q⟩=>⟨d,n,e,h,g _ q⟩
def Et{K:l'}:qM K (λi H Q=>∃x n,i=[x]/\N0 K x H n/\Q (.int n) H) Gh:=by
 intro H j l Q b ⟨d,n,e,h,q⟩
 subst e
 cases b with
 |cons dv r =>
  cases r
  cases dv with
  |str x =>
   have a:(if x.length<=sizeLine then some (x.length:Int) else none)=some n:=h
   by_cases g:x.length<=sizeLine
   ·rw[if_pos g] at a
    cases a
    exact⟨_,x.length,rfl,⟨g,rfl⟩,q _ H (aH.refl _) (.int _)⟩
   ·rw[if_neg g] at a
    cases a
  |lst c f=>cases h;exact⟨_,_,rfl,.inl ⟨_,c,rfl⟩,by rw[f.length];exact q _ H (aH.refl _) (.int _)⟩
  |tup c f=>cases h;exact⟨_,_,rfl,.inr ⟨_,c,rfl⟩,by rw[f.length];exact q _ H (aH.refl _) (.int _)⟩
  |_=>cases h
def di{b p:Pos}(i:Gl X "len")(f:X.mg "len"=none)(c:iZ X (e::a) t)(g:autoParam (starEach (e::a) X.env=(false,eval e X.env)::starEach a X.env) dI)(h:autoParam ((backTo b (starEach a X.env)).any (·.1)=false) dI) :
  PD X (.Call (.Name "len" p) (e::a) [] b) (vB Gh t):=xg (dA ER i f YG c.pa (he:=g) (hpl:=h)) c.mono Et O1
def Cf:UR "int"=some (.type "int"):=by decide +kernel
def zk:UR "bool"=some (.type "bool"):=by decide +kernel
def boot_tuple:UR "tuple"=some (.type "tuple"):=by decide +kernel
def boot_list:UR "list"=some (.type "list"):=by decide +kernel
def uV:UR "all"=some (.builtin "all"):=by decide +kernel
def zF:cI:=λa Q=>∃(bs:List Bool),a=[.lst (bs.map D.bl)]/\Q (.bl (bs.all id))
def Kf:cN zF:=fun a P b g ⟨bs,e,q⟩=>⟨bs,e,g _ q⟩
def xF{K:l'}{a:List V}{b:List Bool}(h:bA K H a (b.map D.bl)):a=b.map V.bl:=by
 induction b generalizing a with
 |nil=>cases h;rfl
 |cons x b i=>cases h with
  |cons h r=>cases h;rw[i r];rfl
def Er{K:l'}{A:Around}(f:A.handled=none):qM K (λg H Q=>∃(p:Addr) (bs:List Bool),g=[.ref p]/\A.handled=none/\cW K H p (bs.map V.bl)/\Q (.bl (bs.all id)) H) zF:=by
 intro H h i Q a ⟨bs,e,q⟩
 subst e
 cases a with
 |cons dv r =>
  cases r
  cases dv with
  |lst b c =>
   rw[xF c] at b
   exact⟨_,bs,rfl,f,b,q _ H (aH.refl _) (.bl _)⟩
def Ed{b p:Pos}(f:X.A.handled=none)(j:Gl X "all")(g:X.mg "all"=none)(c:iZ X (e::a) t)(h:autoParam (starEach (e::a) X.env=(false,eval e X.env)::starEach a X.env) dI)(i:autoParam ((backTo b (starEach a X.env)).any (·.1)=false) dI):PD X (.Call (.Name "all" p) (e::a) [] b) (vB zF t):=xg (dA xY j g uV c.pa (he:=h) (hpl:=i)) c.mono (Er f) Kf
structure Si (X:Cx) (C:Addr) (m:Str) (sd:cI) (dd:List D) (k:Nat) (f:Addr) (fd:UE) (ps:List Str) (dvs:List V) (ds:List Value):Prop where
 cls:tY X.K C
 Iv:Meth X.K C m f
 fn:cE X.prog X.w X.K X.mg X.base nY k f fd ps (xA X.K sd)
 mono:cN sd
 room:bZ k X.A
 binds:Binds X.K fd ps ds
 vals:Vals dvs ds
 dflt:∀H,bA X.K H dvs dd
structure MH (X:Cx) (C:Addr) (m:Str) (sd:cI) (dd:List D):Prop where
 ex:∃k f fd ps dvs ds,Si X C m sd dd k f fd ps dvs ds
def m_(ok:Addr->Prop)(m:Str)(b:Addr->cI)(c:List D)(e:ED)(t:AD):ED:=λδ Q=>e δ λd=>∃C a,d=.obj C a/\a.lookup m=none/\ok C/\t δ λds=>b C (d::(ds++c)) Q
section
variable {X:Cx}{ok:Addr->Prop}{o e:Expr}{es:List Expr}{m:Str}{sd:Addr->cI}{dd:List D}{ta:ED}{t:AD}{pos apos:Pos}
def A8(X:Cx)(m:Str)(f:Addr->cI)(g:List D)(i:TE)(t:TA):TE:=λσ H Q=>i σ H λx c=>∃a C j fs,x=.ref a/\Rd c a (.ins C j fs)/\fs.lookup m=none/\MH X C m (f C) g /\
 ∀b,(∀H,bA X.K H b g)->t σ c λvs h=>xA X.K (f C) (x::(vs++b)) h Q E0
def GB{p:TE}{t:TA}{pl:Sem Bool}(A:PE X o p)(F:PA X (e::es) t)
  (g:autoParam (starEach (e::es) X.env=(false,eval e X.env)::starEach es X.env) dI)(i:autoParam ((backTo pos (starEach es X.env)).any (·.1)=false) dI)
  (B:autoParam (eval (.Call (.Attribute o m apos) (e::es) [] pos) X.env=(do
   let ov <- eval o X.env
   Wj apos.atName
   let (f,first) <- holding [ov] (getMethod ov m pl)
   W' pos f first (backTo pos (starEach (e::es) X.env)) (backToKw pos (keywordEach [] X.env)))) dI) :
  PE X (.Call (.Attribute o m apos) (e::es) [] pos) (A8 X m sd dd p t):=by
 intro b s σ H Q I h
 refine Wg (pl:=pl) (bg (A b s σ H _ I h) ?_) B;rintro u G ⟨x,y,j,E,a,C,L,fs,v,w,l,⟨k,f,N,O,c,R,M⟩,q⟩
 subst v
 obtain rfl:u=Td a:=E
 refine lN j w M.cls M.Iv l ?_
 refine V_ (first:=[.ref a]) (h₀:=X.base) I.ok.mod.FN M.Iv.kp (bg (F pos b G σ y _ j (q c M.dflt)) fun us J ⟨vs,P,n,r,z⟩=>⟨n.lQ,?_⟩) g i
 exact wk (us:=.ref a::us) (vs:=.ref a::vs) M.fn M.room M.binds M.vals sR n (.cons rfl r) z
def Dj{i:TE}(r:PE X o i)
  (j:autoParam (eval (.Call (.Attribute o m apos) [] [] pos) X.env=(do
   let ov <- eval o X.env
   Wj apos.atName
   let (f,first) <- holding [ov] (getMethod ov m pl)
   W' pos f first (backTo pos (starEach [] X.env)) (backToKw pos (keywordEach [] X.env)))) dI) :
  PE X (.Call (.Attribute o m apos) [] [] pos) (A8 X m sd dd i Gw):=by
 intro b s σ H Q I h
 refine Wg (pl:=pl) (bg (r b s σ H _ I h) ?_) j;rintro u B ⟨x,y,g,n,a,C,A,fs,v,p,l,⟨k,f,z,E,c,w,M⟩,q⟩
 subst v
 obtain rfl:u=Td a:=n
 refine lN g p M.cls M.Iv l ?_
 exact X9 (first:=[.ref a]) g.lQ M.Iv.kp (wk (us:=[.ref a]) (vs:=[.ref a]) M.fn M.room M.binds M.vals sR g (.cons rfl .nil) (q c M.dflt))
def FX(a:∀C,ok C->MH X C m (sd C) dd)(f:bK ta)(mt:ko t):bK (m_ ok m sd dd ta t):=λδ P j g h=>f _ _ _ (fun d ⟨C,c,e,l,M,q⟩=>⟨C,c,e,l,M,mt _ _ _ (λi k=>by
 obtain⟨_,_,_,_,_,_,b⟩:=a C M
 exact b.mono _ _ _ g k) q⟩) h
def Bw(c:∀C,ok C->MH X C m (sd C) dd)(z:bK ta)(mt:ko t)(h:oE X.K (m_ ok m sd dd ta t) σ H Q):A8 X m sd dd (oE X.K ta) (oA X.K t) σ H Q:=by
 obtain⟨δ,r,h⟩:=h
 refine⟨δ,r,z _ _ _ (?_) h⟩;rintro d ⟨C,w,s,l,M,q⟩ v E j dv
 subst s
 cases dv with
 | @obj a C y fs w f g =>
  refine⟨_,C,y,fs,rfl,f,g.none l,c C M,λp x=>⟨δ,r.same j,mt _ _ _ (λB k A n i b=>?_) q⟩⟩
  obtain⟨_,_,_,_,_,_,u⟩:=c C M
  exact⟨_,.cons (Dv.same i (.obj f g)) (b.append (x n)),u.mono _ _ _ (λd k=>k.on (j.trans i)) k⟩
def Lg{j:Sem Bool}(i:∀C,ok C->MH X C m (sd C) dd)(b:PD X o ta)(c:iZ X (e::es) t)
  (g:autoParam (starEach (e::es) X.env=(false,eval e X.env)::starEach es X.env) dI)(a:autoParam ((backTo pos (starEach es X.env)).any (·.1)=false) dI)
  (l:autoParam (eval (.Call (.Attribute o m apos) (e::es) [] pos) X.env=(do
   let ov <- eval o X.env
   Wj apos.atName
   let (f,first) <- holding [ov] (getMethod ov m j)
   W' pos f first (backTo pos (starEach (e::es) X.env)) (backToKw pos (keywordEach [] X.env)))) dI) :
  PD X (.Call (.Attribute o m apos) (e::es) [] pos) (m_ ok m sd dd ta t) :=
 ⟨(GB b.pe c.pa g a l).imp λσ H Q h=>Bw i b.mono c.mono h,FX i b.mono c.mono⟩
def Hs(i:∀C,ok C->MH X C m (sd C) dd)(b:PD X o ta)
  (s:autoParam (eval (.Call (.Attribute o m apos) [] [] pos) X.env=(do
   let ov <- eval o X.env
   Wj apos.atName
   let (f,first) <- holding [ov] (getMethod ov m p)
   W' pos f first (backTo pos (starEach [] X.env)) (backToKw pos (keywordEach [] X.env)))) dI) :
  PD X (.Call (.Attribute o m apos) [] [] pos) (m_ ok m sd dd ta vn) :=
 ⟨(Dj b.pe s).imp λσ H Q h=>by
   have q:=Bw (t:=vn) i b.mono (λδ P u g h=>g _ h) h
   obtain⟨δ,r,y⟩:=q
   refine⟨δ,r,b.mono _ _ _ (λd k v j A dv=>?_) y⟩
   obtain⟨a,C,E,fs,n,w,l,M,z⟩:=k v j A dv
   refine⟨a,C,E,fs,n,w,l,M,λc B=>?_⟩
   obtain⟨G,F,x⟩:=z c B
   exact x [] j (aH.refl _) .nil,FX i b.mono λδ P u g h=>g _ h⟩
end
abbrev FD:=List (Str × D)
structure uN where
 nx:SD->FD->Prop
 rt:FD->Prop
 fin:FD->Prop
abbrev Ca:=uN->SD->FD->Prop
structure uN.Le (E E':uN):Prop where
 nx:∀ δ gs,E.nx δ gs->E'.nx δ gs
 rt:∀gs,E.rt gs->E'.rt gs
 fin:∀gs,E.fin gs->E'.fin gs
abbrev KH(t:Ca):Prop:=∀E a δ b,uN.Le E a->t E δ b->t a δ b
def putD(f:Str)(d:D):FD->FD
 |[]=>[(f,d)]
 | (g,e)::r=>if g=f then(g,d)::r else(g,e)::putD f d r
structure D5 (K:l') (C a dx:Addr) (H:Hp) (gs:FD):Prop where
 ex:∃fs,H a=some (.ins C dx fs)/\gC K (eZ H a dx) fs gs
 ne:dx≠a
def vz(K:l')(C a dx:Addr)(H:Hp)(D:Ends):uN :=
 ⟨λδ c=>∀ σ b,aH (eZ H a dx) (eZ b a dx)->bG K (eZ b a dx) σ δ->D5 K C a dx b c->D.nx σ b,λc=>∀b,aH (eZ H a dx) (eZ b a dx)->D5 K C a dx b c->D.rt .ae b,λc=>∀ σ b,aH (eZ H a dx) (eZ b a dx)->D5 K C a dx b c->D.nx σ b⟩
def oI(K:l')(C:Addr)(t:Addr->Ca):TS:=λD σ H=>∃a dx δ b,bG K (eZ H a dx) σ δ/\D5 K C a dx H b/\t a (vz K C a dx H D) δ b
structure Nk (X:Cx) (C:Addr) (st:List Stmt) (t:Addr->Ca):Prop where
 ps:kq X st (oI X.K C t)
 mono:∀a,KH (t a)
structure QO (X:Cx) (C:Addr) (st:Stmt) (t:Addr->Ca):Prop where
 ps:PS X st (oI X.K C t)
 mono:∀a,KH (t a)
section
variable {X:Cx}{C:Addr}{st:Stmt}{rest:List Stmt}{t u:Addr->Ca}{e:Expr}{te:ED}{pos pos' p:Pos}{f:Str}
def Hz{K:l'}{D:Ends}(s:aH (eZ H a i) (eZ j a i)):uN.Le (vz K C a i H D) (vz K C a i j D) :=
 ⟨λ_ _ h σ b c r g=>h σ b (s.trans c) r g,λ_ h b c g=>h b (s.trans c) g,λ_ h σ b c g=>h σ b (s.trans c) g⟩
def Q4(t u:Addr->Ca):Addr->Ca:=λa E δ b=>t a { nx:=u a E,rt:=E.rt,fin:=λ_=>False } δ b
def ai(i:QO X C st t)(j:Nk X C rest u):Nk X C (st::rest) (Q4 t u) :=
 ⟨kq.imp (oi i.ps j.ps) fun D σ H ⟨a,c,δ,n,r,g,h⟩=>⟨a,c,δ,n,r,g,i.mono a { nx:=u a (vz X.K C a c H D),rt:=(vz X.K C a c H D).rt,fin:=λ_=>False } _ _ _
   ⟨λm b q w x v o s=>⟨a,c,m,b,o,s,j.mono a _ _ _ _ (Hz v) q⟩,λb q=>q,λb q=>q.elim⟩ h⟩,
  λa E y δ n l h=>i.mono a { nx:=u a E,rt:=E.rt,fin:=λ_=>False } _ _ _ ⟨λm b q=>j.mono a _ _ _ _ l q,l.rt,λ_ q=>q.elim⟩ h⟩
def Oc(C:Addr)(t:fm):Addr->Ca:=λa E δ b=>t { nx:=λ_=>E.fin b,rt:=λd=>d=.ae/\E.rt b } (δ.set 0 (some (.obj C b)))
def Q3:Addr->Ca:=λa E δ b=>E.fin b
def Bi:Nk X C [] Q3:=⟨kq.imp we fun D σ H ⟨a,c,δ,b,r,g,h⟩=>h σ H (aH.refl _) g,λa E i δ b l h=>l.fin _ h⟩
def Ob(t:fm):Addr->Ca:=λa E δ b=>t { nx:=λc=>E.nx c b,rt:=λd=>d=.ae/\E.rt b } δ
def eA{t:fm}(h:xT X st t):QO X C st (Ob t):=by
 refine⟨PS.imp (Ap h.ps) λD σ H ⟨a,b,δ,i,r,⟨⟨fs,z,s⟩,w⟩,q⟩=>⟨a,b,C,fs,z,δ,r,?_⟩,λa E A δ i l q=>h.mono { nx:=λg=>E.nx g i,rt:=λd=>d=.ae/\E.rt i } _ _ ⟨λg k=>l.nx _ _ k,λd k=>⟨k.1,l.rt _ k.2⟩,λ_ k=>k,λ_ k=>k⟩ q⟩
 refine h.mono { nx:=λg=>(vz X.K C a b H D).nx g i,rt:=λd=>d=.ae/\(vz X.K C a b H D).rt i } _ _ ⟨λg k y j m x o n _=>?_,λd k v j m dv o n _=>?_,λ_ k=>k.elim,λ_ k=>k.elim⟩ q
 ·have c:eZ (shown j a b C fs) a b=j:=mJ o n
  exact k y _ (by rw[c];exact m) (by rw[c];exact x) ⟨⟨fs,pC,by rw[c];exact gC.same m s⟩,w⟩
 ·have c:eZ (shown j a b C fs) a b=j:=mJ o n
  obtain⟨e,k⟩:=k
  subst e
  cases dv
  exact k _ (by rw[c];exact m) ⟨⟨fs,pC,by rw[c];exact gC.same m s⟩,w⟩
def gC.put{K:l'}(dv:Dv K H v d):∀{fs:List (Str × V)} {a:FD},gC K H fs a->gC K H (g_ f v fs) (putD f d a)
 |_,_,.nil=>.cons dv .nil
 |_,_,.cons (k:=k) h r=>by
  unfold g_ putD
  by_cases q:k=f
  ·rw[if_pos q,if_pos q];exact .cons dv r
  ·rw[if_neg q,if_neg q];exact .cons h (gC.put dv r)
def gC.length{K:l'}:∀{fs:List (Str × V)} {a:FD},gC K H fs a->fs.length=a.length
 |_,_,.nil=>rfl
 |_,_,.cons _ r=>congrArg (·+1) (gC.length r)
def Oe(K:l')(C:Addr)(f:Str)(c:ED):Addr->Ca:=λa E δ b=>c δ λd=>δ[0]?=some (some (.adr a))/\tY K C/\dP K C f/\b.length<1000/\E.nx δ (putD f d b)
def Of(A:X.N[0]?=some x)(z:Cb X.env.scope x)(m:PD X e te)(b:autoParam (Ue e (some (.Attribute (.Name x p) f pos')) pos.line X.env=pure false) dI)(I:autoParam ((x == ("__debug__":Str))=false) e7)
  (n:autoParam ((x == ("__classdict__":Str))=false) e7):QO X C (.Assign [.Attribute (.Name x p) f pos'] e pos) (Oe X.K C f te):=by
 refine⟨PS.imp (M8 (kL A z I n) (An m.pe) b) λD σ H ⟨a,c,δ,F,r,⟨⟨fs,M,s⟩,O⟩,q⟩=>⟨a,c,C,fs,M,δ,r,?_⟩,λa E P δ F l q=>m.mono _ _ _ (fun d ⟨i,j,o,g,k⟩=>⟨i,j,o,g,l.nx _ _ k⟩) q⟩
 refine m.mono _ _ _ (?_) q;rintro d ⟨i,j,o,g,k⟩ v y h dv L G _
 obtain⟨w,J,B⟩:=r.get 0 _ i
 cases B
 refine⟨_,J,a,C,c,fs,rfl,pC,j,o,by rw[s.length];exact g,?_⟩
 rw[D2]
 have b:eZ (shown y a c C (g_ f v fs)) a c=y:=mJ L G
 exact k σ _ (by rw[b];exact h) (by rw[b];exact r.same h) ⟨⟨_,pC,by rw[b];exact(gC.same h s).put dv⟩,O⟩
def rm :aH (eZ H a c) H:=λb o h=>by
 unfold eZ at h
 split at h
 ·cases h
 ·exact h
def D5.dv{K:l'}(g:D5 K C a c H b):Dv K H (.ref a) (.obj C b):=by
 obtain⟨⟨fs,h,i⟩,_⟩:=g
 exact .obj (.of h) (gC.same rm i)
def D5.on{K:l'}(g:D5 K C a c H gs)(s:aH H i):D5 K C a c i gs:=by
 obtain⟨⟨fs,h,l⟩,j⟩:=g
 refine⟨⟨fs,s _ _ h,gC.same (λb o q=>?_) l⟩,j⟩
 unfold eZ at q ⊢
 split at q
 ·cases q
 ·rename_i z;rw[if_neg z];exact s _ _ q
def zD(s:aH H g):aH (eZ H a c) (eZ g a c):=λb o q=>by
 unfold eZ at q ⊢
 split at q
 ·cases q
 ·rename_i z;rw[if_neg z];exact s _ _ q
def lO{t:fm}(h:jQ X rest t):Nk X C rest (λa E δ b=>δ[0]?=some (some (.adr a))/\Oc C t a E δ b):=by
 refine⟨kq.imp h.ps fun D σ H ⟨a,o,δ,b,r,g,j,q⟩=>⟨δ.set 0 (some (.obj C b)),?_,?_⟩,fun a E G δ b l ⟨j,q⟩=>⟨j,h.mono { nx:=λ_=>E.fin b,rt:=λd=>d=.ae/\E.rt b } _ _ ⟨λx k=>l.fin _ k,λd k=>⟨k.1,l.rt _ k.2⟩,λ_ k=>k,λ_ k=>k⟩ q⟩⟩
 ·obtain⟨w,m,s⟩:=r.get 0 _ j
  cases s
  have z:=(r.same rm).set 0 g.dv
  rw[show σ.set 0 (some (.ref a))=σ from by
   refine List.ext_getElem? λi=>?_
   rw[WU]
   split
   ·rename_i A
    subst A
    split
    ·exact m.symm
    ·rename_i F
     rw[List.getElem?_eq_none (by omega)] at m
     cases m
   ·rfl] at z
  exact z
 ·refine h.mono { nx:=λ_=>(vz X.K C a o H D).fin b,rt:=λd=>d=.ae/\(vz X.K C a o H D).rt b } _ _ ⟨λx k y n c B=>k y n (zD c) (g.on c),λd k v n c dv=>?_,λ_ k=>k.elim,λ_ k=>k.elim⟩ q
  obtain⟨e,k⟩:=k
  subst e
  cases dv
  exact k n (zD c) (g.on c)
end
abbrev KJ:=List D->(FD->Prop)->Prop
abbrev zh(a:KJ):Prop:=∀ds (P b:FD->Prop),(∀d,P d->b d)->a ds P->a ds b
def RZ(K:l')(C:Addr)(e:KJ):Sp:=λvs H Q _=>∃a dx b ds,vs=.ref a::b/\D5 K C a dx H []/\bA K (eZ H a dx) b ds/\e ds λf=>∀c,aH (eZ H a dx) (eZ c a dx)->D5 K C a dx c f->Q .ae c
section
variable {P:TV}{w:World}{K:l'}{mg:Str->Option Value}{base:Heap}
structure tq (K:l') (x qual:Str) (st:Stmt) (f:Addr) (fd:UE):Prop where
 ex:∃(oc:Value) (od:Option Addr) (dV kV doc pm:Value) (an:Option Addr) (cdv ct:Value) (osl:Array (Option Value)),
  fd=fnOf x qual (cJ st) (af st) (aB st) dV kV doc pm an cdv ct/\K.lookup f=some ⟨oc,od,.func fd,osl⟩/\codeIn K cdv qual=true
 kp:keepIn K (.ref f)=true
def tq.ok{st:Stmt}(F:tq K x a st f l)(S:aD N i (aB st))(j:∀vs H Q E,sp vs H Q E->vs.length=i.length)
  (c:∀(b:Value) (A:Around) (outer:List Env) (s:Shared) (H:Hp) (vs:List V) (Q:VK) (E:XK),bZ k (A.deeper (envOfC a (aB st) s.heap.objs.size f b))->sp vs H Q E ->
   ∃t,kq (n9 nY P w K mg base N a (aB st) f b A outer s H E).Mb (af st) t/\t { nx:=λ_ p=>Q .ae p,rt:=Q } (L2.start N vs) H):cE P w K mg base nY (k+1) f l i sp:=by
 obtain⟨u,C,v,kV,r,y,z,b,B,o,rfl,m,g⟩:=F.ex
 refine Be m g S j λA outer s H vs Q E n e=>?_
 obtain⟨t,h,q⟩:=c b A outer s H vs Q E n e
 exact⟨t,h.Mb,q⟩
def Sx{st:Stmt}(F:tq K x c st f J)(S:aD N z (aB st))(I:∀i Q,y i Q->i.length+1=z.length)
  (O:∀(j:Value) (A:Around) (b:List Env) (s:Shared) (H:Hp) (E:XK),bZ k (A.deeper (envOfC c (aB st) s.heap.objs.size f j))->Nk (Bx P w K mg base N c st f j A b s H E) C (af st) t)
  (M:∀a i Q,y i Q->t a { nx:=λ_=>Q,rt:=Q,fin:=Q } (bS N (.adr a::i)) []):cE P w K mg base nY (k+1) f J z (RZ K C y):=by
 refine F.ok S (fun L H Q E ⟨a,r,v,i,e,g,n,h⟩=>by rw[e,Tg,n.length];exact I i _ h) (?_);rintro j A b s H L Q E m ⟨a,r,v,i,e,g,n,h⟩
 have B:=O j A b s H E m
 subst e
 refine⟨_,B.ps,a,r,bS N (.adr a::i),[],dk (.cons (.adr a) n),g,?_⟩
 let G:FD->Prop:=λu=>∀l,aH (eZ H a r) (eZ l a r)->D5 K C a r l u->Q .ae l
 exact B.mono a { nx:=λ_=>G,rt:=G,fin:=G } _ _ _ ⟨λδ u q σ l o R p=>q l o p,λu q l o p=>q l o p,λu q σ l o p=>q l o p⟩ (M a i _ h)
end
def K6(C:Addr)(b:KJ)(e:List D)(t:AD):ED:=λδ Q=>t δ λa=>b (a++e) λc=>Q (.obj C c)
def Ld{p l:Pos}(M:Mk X.K C f)(F:cE X.prog X.w X.K X.mg X.base nY k f S ps (RZ X.K C E))(B:zh E)(U:bZ (k+1) X.A)(hg:Gl X x)(T:X.mg x=some (.ref C))(hb:Binds X.K S ps s)(I:Vals j s)(Z:∀H,bA X.K H j J)
  (o:iZ X (e::c) t)(m:autoParam ((x == ("__debug__":Str))=false) e7)(Y:autoParam (starEach (e::c) X.env=(false,eval e X.env)::starEach c X.env) dI)(n:autoParam ((backTo l (starEach c X.env)).any (·.1)=false) dI) :
  PD X (.Call (.Name x p) (e::c) [] l) (K6 C E J t):=by
 refine⟨(JQ M F U hg T hb I sR o.pa m Y n).imp fun σ H Q ⟨δ,r,h⟩=>⟨δ,r,o.mono _ _ _ (λds q vs H1 O b y a R i ne=>?_) h⟩,λδ P P' g h=>o.mono _ _ _ (λds q=>B _ _ _ (λW z=>g _ z) q) h⟩
 have v:eZ (shown H1 y a C []) y a=H1:=mJ R i
 refine⟨y,a,_,_,rfl,⟨⟨[],pC,.nil⟩,ne⟩,?_,B _ _ _ (λW z G L N=>⟨rfl,z _ G ?_ N.dv⟩) q⟩
 ·show bA X.K (eZ (shown H1 y a C []) y a) _ _
  rw[v]
  exact b.append (Z H1)
 ·have u:aH (eZ (shown H1 y a C []) y a) (eZ G y a):=L
  rw[v] at u
  exact O.trans (u.trans rm)
end DC
namespace L2
def yK :∀{b:List Value},Vals (ns.map V.int) b->IntsAre b ns:=by
 induction ns with
 |nil=>intro b r;cases r;exact .nil
 |cons n ns c =>
  intro b r
  cases r with
  |cons a r =>
   obtain⟨t,e⟩:=a
   subst e
   exact .cons _ _ (c r)
def ET:gH X (.builtin "sum") (λa H Q=>∃(p:Addr) (b:List Int),a=[.ref p]/\X.A.handled=none/\cW X.K H p (b.map V.int)/\Q (.int b.sum) H):=by
 intro f s σ H a B Q I r h
 obtain⟨p,b,rfl,m,o,q⟩:=h
 obtain⟨u,rfl,v⟩:=vals1 r
 cases(show u=Td p from v)
 obtain⟨e,t,j,_⟩:=I.list o
 have n:=j.isList
 have i:=yK t
 obtain⟨a,g⟩:=i.allInts.items
 have c:s.heap.IsList p (intItems a):=g ▸ n
 refine sum_intListG m c λz y C l=>?_
 have x:b=a.toList.map (·.1):=by
  rw[<- nums_intItems,<- g]
  exact(show numsOf e.toArray.toList=b from i.numsOf).symm
 have w:preSum (numAt a) a.size=b.sum:=by
  rw[preSum_eq,Vn (by simp),x]
 rw[w]
 exact⟨.int b.sum,H,I.kept l,⟨_,rfl⟩,q⟩
section
variable {prog:TV}{w:World}{A:Around}{R:Result->Shared->Prop}{I:Addr}{fp wr:List Addr}{n:Nat}{P:Nat->Value->Prop}{St:Nat->Heap->Prop}{E:Value->Shared->Prop}{s:Shared}{Q:Value->Shared->Prop}
abbrev bestAt(S:Addr)(a:Array Value)(h:Heap):Prop:=∃c,h.get? S=some { cls:=.type "list",dict:=none,data:=.seq a c,slots:=#[] }
def Fe{T:List (Str × Value)}(W:Walks prog w A.in1 I fp wr n P St)(x:Nat->Nat->Bool)(z:CmpOf prog w A.in1 .Gt P x)(S:Addr)(B:S∉fp) :
  ∀(k j:Nat) (s:Shared) (f:Value),j+1+k=n->St (j+1) s.heap->P (argBest x j) f->bestAt S #[f,f] s.heap ->
  (∀v G F,P (argBest x (n - 1)) v->(∀b o,b∉wr->b≠S->s.heap.get? b=some o->G.get? b=some o)->R (.ok (.ret v)) { s with heap:=G,toks:=F }) ->
  VQ (model prog w) A (.builtin "max.loop" ⟨[.ref I,.none,.ref S],T⟩) R s:=by
 have y:S∉wr:=λh=>B (W.sub _ h)
 have a:(toString "max"++toString ".loop":String)="max.loop":=by decide
 intro k
 induction k with
 |zero =>
  intro j s f U r H ⟨c,hS⟩ hR
  refine codeAny_builtin Xi ?_
  rw[VW VM _]
  show wpAny _ A.in1 (seqItems? (.ref S) >>= _) _ _ s
  refine wpAny_bind (wpAny_seqItems hS rfl ?_)
  show wpAny _ A.in1 (tryCatch (pyNext (.ref I)) _ >>= _) _ _ s
  refine wpAny_bind (wpAny_tryCatch (W.done s _ _ ((show j+1=n by omega) ▸ r) λG F u=>?_))
  show wpAny _ A.in1 (updateSeq S (λ_=>#[]) >>= _) _ _ _
  refine wpAny_bind (wpAny_updateSeq (u S _ y hS) rfl (wpAny_bind (wpAny_letGo (wpAny_pure ?_))))
  exact hR f _ F (by rw[show n - 1=j by omega];exact H) λb o p C e=>(T6 _ _ (VG C)).trans (u b o p e)
 |succ k O =>
  intro j s f U r H ⟨c,hS⟩ hR
  refine codeAny_builtin Xi ?_
  rw[VW VM _]
  show wpAny _ A.in1 (seqItems? (.ref S) >>= _) _ _ s
  refine wpAny_bind (wpAny_seqItems hS rfl ?_)
  show wpAny _ A.in1 (tryCatch (pyNext (.ref I)) _ >>= _) _ _ s
  refine wpAny_bind (wpAny_tryCatch (W.item (j+1) s _ _ (by omega) r λv G F N g u=>?_))
  have l:=u S _ y hS
  show wpAny _ A.in1 (tryCatch (holding [v,v] (richCompare .Gt v f >>= _)) _ >>= _) _ _ _
  refine wpAny_bind (wpAny_tryCatch (wpAny_holding (wpAny_bind (z (j+1) (argBest x j) v f _ _ _ N H ?_))))
  refine wpAny_bind (wpAny_holding (wpAny_truthy_bool (wpAny_bind (wpAny_letGo (wpAny_pure ?_)))))
  cases hb:x (j+1) (argBest x j) with
  |true =>
   simp only[if_true]
   refine wpAny_bind (wpAny_updateSeq l rfl (wpAny_bind (wpAny_letGo ?_)))
   rw[a]
   refine wpAny_pure ⟨plainId_quiet VM _,O (j+1) _ v (by omega) (W.frame _ _ _ g λb L o e=>?_) (by simp only[argBest,hb,if_true];exact N) ⟨_,UO _ l rfl⟩ λM C t i m=>?_⟩
   ·exact(T6 _ _ (λh:S=b=>B (by rw[h];exact L))).trans e
   ·exact hR M C t i λb o p J e=>m b o p J ((T6 _ _ (VG J)).trans (u b o p e))
  |false =>
   simp only[Vj,if_false]
   refine wpAny_bind (wpAny_letGo ?_)
   rw[a]
   refine wpAny_pure ⟨plainId_quiet VM _,O (j+1) _ f (by omega) g (by simp only[argBest,hb,Vj,if_false];exact H) ⟨c,l⟩ λM C t i m=>?_⟩
   exact hR M C t i λb o p J e=>m b o p J (u b o p e)
def Fd(W:Walks prog w A.in1 I fp wr n P St)(C:Nat->Nat->Bool)(j:CmpOf prog w A.in1 .Gt P C)(S:Addr)(f:S∉fp)(m:St 0 s.heap)(t:bestAt S #[] s.heap)
  (H:∀v i r,(if n=0 then v=d else P (argBest C (n - 1)) v)->(∀b o,b∉wr->b≠S->s.heap.get? b=some o->i.get? b=some o)->R (.ok (.ret v)) { s with heap:=i,toks:=r }) :
  VQ (model prog w) A (.builtin "max.loop" ⟨[.ref I,.none,.ref S],[("default",d)]⟩) R s:=by
 have z:S∉wr:=λh=>f (W.sub _ h)
 have a:(toString "max"++toString ".loop":String)="max.loop":=by decide
 obtain⟨c,t⟩:=t
 refine codeAny_builtin Xi ?_
 rw[VW VM _]
 show wpAny _ A.in1 (seqItems? (.ref S) >>= _) _ _ s
 refine wpAny_bind (wpAny_seqItems t rfl ?_)
 show wpAny _ A.in1 (tryCatch (pyNext (.ref I)) _ >>= _) _ _ s
 by_cases B:n=0
 ·refine wpAny_bind (wpAny_tryCatch (W.done s _ _ (B ▸ m) λi r p=>?_))
  refine wpAny_bind (wpAny_rule (wpAny_pure ?_))
  exact H d i r (by rw[if_pos B]) λb o u _ e=>p b o u e
 ·refine wpAny_bind (wpAny_tryCatch (W.item 0 s _ _ (by omega) m λv i r L l p=>?_))
  have g:=p S _ z t
  show wpAny _ A.in1 (updateSeq S (λ_=>#[v,v]) >>= _) _ _ _
  refine wpAny_bind (wpAny_updateSeq g rfl ?_)
  rw[a]
  refine wpAny_pure ⟨plainId_quiet VM _,Fe W C j S f (n - 1) 0 _ v (by omega) (W.frame _ _ _ l λb x o e=>?_) L ⟨_,UO _ g rfl⟩ λM N G y F=>?_⟩
  ·exact(T6 _ _ (λh:S=b=>f (by rw[h];exact x))).trans e
  ·exact H M N G (by rw[if_neg B];exact y) λb o u J e=>F b o u J ((T6 _ _ (VG J)).trans (p b o u e))
end
def uH(d:Int):List Int->Int
 |[]=>d
 |x::xs=>xs.foldl max x
def oK:∀(xs:List Int) (a:Int),a<=xs.foldl max a/\∀x∈xs,x<=xs.foldl max a
 |[],a=>⟨Yt _,λx h=>nomatch h⟩
 |y::ys,a=>by
  obtain⟨h1,b⟩:=oK ys (max a y)
  refine⟨XO (Int.le_max_left _ _) h1,λx h=>?_⟩
  rcases Gc.mp h with rfl|h
  ·exact XO (Int.le_max_right _ _) h1
  ·exact b x h
def mY:∀(xs:List Int) (a:Int),xs.foldl max a=a\/xs.foldl max a∈xs
 |[],a=>.inl rfl
 |y::ys,a=>by
  rcases mY ys (max a y) with h|h
  ·rw[V9,h]
   rcases Int.le_total a y with q|q
   ·rw[Int.max_eq_right q];exact .inr (N')
   ·rw[Int.max_eq_left q];exact .inl rfl
  ·exact .inr (TR _ h)
def Ir(h:m∈b)(g:∀x∈b,x<=m):uH d b=m:=by
 cases b with
 |nil=>cases h
 |cons x a =>
  obtain⟨e,f⟩:=oK a x
  have i:m<=uH d (x::a):=by
   rcases Gc.mp h with rfl|h
   ·exact e
   ·exact f m h
  have c:uH d (x::a)<=m:=by
   rcases mY a x with q|q
   ·show a.foldl max x<=m
    rw[q];exact g x N'
   ·exact g _ (TR _ q)
  exact Int.le_antisymm c i
def qN(val:Nat->Int):∀k,argBest (λi j=>decide (val i > val j)) k<=k/\∀i,i<=k->val i<=val (argBest (λi j=>decide (val i > val j)) k)
 | 0=>⟨S' _,λi h=>by cases Nat.le_zero.mp h;exact Yt _⟩
 |k+1=>by
  obtain⟨h1,a⟩:=qN val k
  rw[argBest]
  by_cases q:val (k+1) > val (argBest (λi j=>decide (val i > val j)) k)
  ·rw[if_pos (decide_eq_true q)]
   refine⟨S' _,λi h=>?_⟩
   rcases aAG i (k+1) with z|z
   ·exact XO (a i (by omega)) (Int.le_of_lt q)
   ·rw[show i=k+1 by omega];exact Yt _
  ·rw[if_neg (by simpa using q)]
   refine⟨Nat.le_succ_of_le h1,λi h=>?_⟩
   rcases aAG i (k+1) with z|z
   ·exact a i (by omega)
   ·rw[show i=k+1 by omega];exact Int.not_lt.mp q
def Ce(a d:Value):argsOk "max" ⟨[a],[("default",d)]⟩:=by unfold argsOk;kernel_rfl
def MX{σ:St}(I:Inv X g σ H s)(hh:X.A.handled=none)(hS:cW X.K H p (c.map V.int))(q:Q (.int (uH d c)) H) :
  wpAny (model X.prog X.w) X.A (call (.builtin "max") [.ref p] [("default",.int d t)]) (EP X g σ Q) X.xe s:=by
 obtain⟨a,O,T,_⟩:=I.list hS
 have Y:=T.isList
 have hi:=yK O
 have J:p<s.heap.objs.size:=T.lt
 have l:a.length=c.length:=by have:=O.length;rw[tz] at this;exact this.symm
 have C:(toString "max"++toString ".loop":String)="max.loop":=by decide
 have h:∀(i:Nat) (v:Value),a.toArray[i]?=some v->∃t,v=.int (c.getD i 0) t:=λi v e=>by
  have e':a[i]?=some v:=by simpa using e
  have hb:i<c.length:=by have:=(Te.mp e').1;omega
  obtain⟨u,Z,S⟩:=O.get (i:=i) (x:=V.int c[i]) (by rw[TX,F' hb];rfl)
  rw[e'] at Z
  cases Z
  obtain⟨t,ht⟩:=(show ∃t,v=Vt c[i] t from S)
  exact⟨t,by rw[ht,Uo,F' hb];rfl⟩
 refine wpAny_call (codeAny_call_builtin F.plain_max F.entry_max ?_)
 simp only[checkBuiltinCall,F.kind_max]
 have ha:argsOk "max" ⟨[.ref p],[("default",.int d t)]⟩:=Ce _ _
 have n:wpAny (model X.prog X.w) X.A.in1 (Builtin.«max» ⟨[.ref p],[("default",.int d t)]⟩) (λP E=>match P with
   |.done f=>(match (Except.ok f:Result) with|.ok (.ret v)=>EP X g σ Q v E|.ok _=>False|.error e=>X.xe e E)
   |.again U=>U.quiet=true/\VQ (model X.prog X.w) X.A U (λr E=>match r with|.ok (.ret v)=>EP X g σ Q v E|.ok _=>False|.error e=>X.xe e E) E) X.xe s:=by
  show wpAny _ X.A.in1 (Ww "max" ["key","default"] 0 ⟨[],[("default",.int d t)]⟩ >>= _) _ _ s
  refine wpAny_bind (wpAny_of_eq (show Ww "max" ["key","default"] 0 ⟨[],[("default",.int d t)]⟩=pure [none,some (.int d t)] from rfl) ?_)
  refine wpAny_bind (wpAny_pure ?_)
  refine wpAny_bind (wpAny_pyIter_list Y ?_)
  refine wpAny_bind (wpAny_newObj_type ?_)
  rw[C]
  have W:=Yl (prog:=X.prog) (w:=X.w) (A:=X.A.in1) hh s.heap.objs.size p (Tq J) a.toArray
  refine wpAny_pure ⟨plainId_quiet VM _,Fd W _ (CmpOf.ints_gt (λi=>c.getD i 0) h) ((s.heap.push _).objs.size) (λG=>?_) (W.frame _ _ _ ⟨⟨_,TN _ rfl,rfl,rfl⟩,Y.push _⟩ λb _ o e=>B' _ e) ⟨_,TN _ rfl⟩ λv h' tk M hk=>?_⟩
  ·have B:(s.heap.push { cls:=.type "list_iterator",data:=.fields #[.ref p,.int 0 0] }).objs.size=s.heap.objs.size+1:=UQ ..
   rcases Gc.mp G with z|z
   ·exact absurd (B.symm.trans z) (XY _)
   ·exact absurd (B.symm.trans (D'.mp z)) (Uj (U0 J))
  ·have y:∀b o,s.heap.get? b=some o->h'.get? b=some o:=λb o e=>hk b o (λG=>by
    exact absurd (D'.mp G) (Tq (TU e))) (λG=>by
    rw[UQ] at G
    exact absurd G (Tq (U0 (TU e)))) (B' _ (B' _ e))
   have ev:∃t,v=.int (uH d c) t:=by
    by_cases N:a.toArray.size=0
    ·rw[if_pos N] at M
     have hz:c=[]:=List.length_eq_zero_iff.mp (by rw[<- l];simpa using N)
     rw[hz]
     exact⟨_,M⟩
    ·rw[if_neg N] at M
     obtain⟨b1,b2⟩:=qN (λi=>c.getD i 0) (a.toArray.size - 1)
     have B:a.toArray.size=c.length:=by rw[Ti,l]
     obtain⟨t',e⟩:=h _ v M
     refine⟨t',?_⟩
     rw[e,Ir (m:=c.getD (argBest (λi j=>decide (c.getD i 0 > c.getD j 0)) (a.toArray.size - 1)) 0) ?_ λx hx=>?_]
     ·rw[Uo,F' (by omega)]
      exact ZQ _
     ·obtain⟨i,R,rfl⟩:=List.getElem_of_mem hx
      have z:=b2 i (by omega)
      simp only[Uo,F' R,XF] at z
      simpa only[Uo] using z
   obtain⟨t',rfl⟩:=ev
   exact⟨.int (uH d c),H,I.kept y,⟨_,rfl⟩,q⟩
 cases hsig:X3 "max" with
 |none=>exact wpAny_pure n
 |some L =>
  simp only[argsOk,hsig] at ha
  have S:Wz "max" L ⟨[.ref p],[("default",.int d t)]⟩=pure ():=ha
  show wpAny _ X.A.in1 (Wz "max" L ⟨[.ref p],[("default",.int d t)]⟩) _ _ s
  rw[S];exact wpAny_pure n
def GU(X:Cx)(x y:V)(H:Hp)(Q:VK):Prop:=∃(l:Addr) (a:List Int) (d:Int),x=.ref l/\y=.int d/\X.A.handled=none/\cW X.K H l (a.map V.int)/\Q (.int (uH d a)) H
def one(F:V->Hp->Prop)(a:List V)(H:Hp):Prop:=match a with
 |[x]=>F x H
 |_=>False
def JR{p b A:Pos}(z:Gl X "max")(L:X.mg "max"=none)(O:PE X e F)(J:PE X c o)(m:autoParam (starEach [e] X.env=(false,eval e X.env)::starEach [] X.env) dI)(v:autoParam (UR "max"=some (.builtin "max")) f6) :
  PE X (.Call (.Name "max" p) [e] [⟨some "default",c,A⟩] b) (NV (GU X) F o):=by
 intro a s σ H Q I h
 refine Ug (nK I z L v ?_)
 refine callWith_kw (env:=X.env) ?_ (by rw[m];rfl) (by rw[m];rfl) rfl rfl
 refine bg ((cU O gX m) b a s σ H (one λx j=>o σ j λy f=>GU X x y f Q) I h) ?_;rintro Y S ⟨r,j,C,g,q⟩
 match r,g,q with
 |[x],g,q =>
  obtain⟨u,rfl,M⟩:=vals1 g
  refine bg ((JT (nm:=some "default") (kpos:=A) J M6) b a S σ j (one λy f=>GU X x y f Q) C q) ?_;rintro U W ⟨R,f,E,n,k⟩
  match R,n,k with
  |[y],n,k =>
   obtain⟨l,Z,d,P,N,B,G,T⟩:=k
   subst P N
   obtain⟨w,rfl,i⟩:=vals1 n
   obtain⟨t,rfl⟩:=(show ∃t,w=Vt d t from i)
   cases(show u=Td l from M)
   exact MX E B G T
end L2
namespace DC
section
variable {X:Cx}{e c:Expr}{te tc:ED}{p pos kp:Pos}{es:List Expr}{t:AD}
def boot_sum:UR "sum"=some (.builtin "sum"):=by decide +kernel
def Gn:cI:=λb Q=>∃(a:List Int),b=[.lst (a.map D.int)]/\Q (.int a.sum)
def O2:cN Gn:=fun a P b g ⟨bs,e,q⟩=>⟨bs,e,g _ q⟩
def tV{K:l'}{a:List V}{b:List Int}(h:bA K H a (b.map D.int)):a=b.map V.int:=by
 induction b generalizing a with
 |nil=>cases h;rfl
 |cons x b i=>cases h with
  |cons h r=>cases h;rw[i r];rfl
def Eu{K:l'}{A:Around}(h:A.handled=none):qM K (λi H Q=>∃(p:Addr) (b:List Int),i=[.ref p]/\A.handled=none/\cW K H p (b.map V.int)/\Q (.int b.sum) H) Gn:=by
 intro H j l Q a ⟨bs,e,q⟩
 subst e
 cases a with
 |cons dv r =>
  cases r
  cases dv with
  |lst f g =>
   rw[tV g] at f
   exact⟨_,bs,rfl,h,f,q _ H (aH.refl _) (.int _)⟩
def OM(i:X.A.handled=none)(b:Gl X "sum")(f:X.mg "sum"=none)(a:iZ X (e::es) t)(g:autoParam (starEach (e::es) X.env=(false,eval e X.env)::starEach es X.env) dI)(h:autoParam ((backTo pos (starEach es X.env)).any (·.1)=false) dI):PD X (.Call (.Name "sum" p) (e::es) [] pos) (vB Gn t):=xg (dA ET b f boot_sum a.pa (he:=g) (hpl:=h)) a.mono (Eu i) O2
def KY:F2:=λd e Q=>∃(a:List Int) (i:Int),d=.lst (a.map D.int)/\e=.int i/\Q (.int (uH i a))
def MW:ef KY:=fun d e P h g ⟨f,i,b,a,q⟩=>⟨f,i,b,a,g _ q⟩
def QF:ED->ED->ED:=rJ KY
def Lf(m:X.A.handled=none)(g:Gl X "max")(h:X.mg "max"=none)(b:PD X e te)(a:PD X c tc)(j:autoParam (starEach [e] X.env=(false,eval e X.env)::starEach [] X.env) dI):PD X (.Call (.Name "max" p) [e] [⟨some "default",c,kp⟩] pos) (QF te tc):=by
 refine xf (t:=oE X.K te) (JR g h b.pe a.pe j) b.mono a.mono ?_ MW
 intro H x y d e Q f l ⟨ns,i,e1,e2,q⟩
 subst e1 e2
 cases l
 cases f with
 |lst g1 g2 =>
  rw[tV g2] at g1
  exact⟨_,ns,i,rfl,rfl,m,g1,q _ H (aH.refl _) (.int _)⟩
end
inductive MD where
 |lst (ds:List D)|ins (C:Addr) (gs:FD)|dK (kvs:List (Key × D))|dT (gs:List (List Int × D))
abbrev Mu:=List (Addr × MD)
def QK(K:l')(H:Hp)(L:List Addr)(a:Addr):MD->Prop
 |.lst ds=>∃vs,H a=some (.lst vs)/\bA K (aa H L) vs ds
 |.ins C c=>∃dx fs,H a=some (.ins C dx fs)/\H dx=some (.own a)/\dx∈L/\gC K (aa H L) fs c
 |.dK kvs=>∃b,H a=some (.dK b)/\fg K (aa H L) b kvs
 |.dT kvs=>∃b,H a=some (Qi a b)/\va K (aa H L) b kvs
structure fG (K:l') (H:Hp) (μ:Mu) (L:List Addr):Prop where
 at_:∀p∈μ,p.1∈L/\QK K H L p.1 p.2
 Ki:(μ.map (·.1)).Nodup
 eZ:∀b∈L,fh H L b
 LQ:∀b∈L,(∃m,(b,m)∈μ)\/∃a,H b=some (.own a)
section
variable {K:l'}{H H1 H4:Hp}{μ:Mu}{L:List Addr}
def d_(s:aH H H1):aH (aa H L) (aa H1 L):=λb o h=>by
 obtain⟨a,c⟩:=pT h
 rw[bf a]
 exact s _ _ c
def QK.on(s:aH H H1):∀{m:MD},QK K H L a m->QK K H1 L a m
 |.lst _,⟨vs,h,d⟩=>⟨vs,s _ _ h,bA.same (d_ s) d⟩
 |.ins _ _,⟨e,fs,h,f,c,d⟩=>⟨e,fs,s _ _ h,s _ _ f,c,gC.same (d_ s) d⟩
 |.dK _,⟨b,h,d⟩=>⟨b,s _ _ h,fg.same (d_ s) d⟩
 |.dT _,⟨b,h,d⟩=>⟨b,s _ _ h,va.same (d_ s) d⟩
def L5(s:aH H H1)(h:fh H L a):fh H1 L a:=by
 cases h with
 |lst c h=>exact .lst c (s _ _ h)
 |dK c h=>exact .dK c (s _ _ h)
 |ext φ h e=>exact .ext φ (s _ _ h) e
 |ins C j fs h i=>exact .ins C j fs (s _ _ h) i
 |own C b fs h g f=>exact .own C b fs (s _ _ h) g (s _ _ f)
def fG.on(g:fG K H μ L)(s:aH H H1):fG K H1 μ L :=
 ⟨λp e=>⟨(g.at_ p e).1,(g.at_ p e).2.on s⟩,g.Ki,λb c=>L5 s (g.eZ b c),λb c=>(g.LQ b c).imp id fun⟨a,q⟩=>⟨a,s _ _ q⟩⟩
def fG.show(g:fG K H μ L)(z:∀b∈L,H4 b=none)(s:aH (aa H L) H4):fG K (ao H4 H L) μ L:=by
 have e:aa (ao H4 H L) L=H4:=bh z
 refine⟨λp t=>⟨(g.at_ p t).1,?_⟩,g.Ki,λb f=>?_,λb f=>(g.LQ b f).imp id fun⟨a,q⟩=>⟨a,by rw[aV f];exact q⟩⟩
 ·obtain⟨i,l⟩:=g.at_ p t
  obtain⟨a,m⟩:=p
  cases m with
  |lst ds=>obtain⟨v,h,d⟩:=l;exact⟨v,by rw[aV i];exact h,by rw[e];exact bA.same s d⟩
  |ins C B=>obtain⟨r,fs,h,y,u,d⟩:=l;exact⟨r,fs,by rw[aV i];exact h,by rw[aV u];exact y,u,by rw[e];exact gC.same s d⟩
  |dK o=>obtain⟨n,h,d⟩:=l;exact⟨n,by rw[aV i];exact h,by rw[e];exact fg.same s d⟩
  |dT o=>obtain⟨n,h,d⟩:=l;exact⟨n,by rw[aV i];exact h,by rw[e];exact va.same s d⟩
 ·have w:=g.eZ b f
  cases w with
  |lst xs h=>exact .lst xs (by rw[aV f];exact h)
  |dK xs h=>exact .dK xs (by rw[aV f];exact h)
  |ext φ h j=>exact .ext φ (by rw[aV f];exact h) j
  |ins C r fs h A=>exact .ins C r fs (by rw[aV f];exact h) A
  |own C c fs h j x=>exact .own C c fs (by rw[aV f];exact h) j (by rw[aV j];exact x)
def fG.nil:fG K H [] []:=⟨λp c=>(nomatch c),WG,λb a=>(nomatch a),λb a=>(nomatch a)⟩
def MD.d:MD->D
 |.lst ds=>.lst ds
 |.ins C b=>.obj C b
 |.dK a=>.dK a
 |.dT a=>.dT a
def aY(μ:Mu):D->D
 |.adr a=>((μ.lookup a).map MD.d).getD (.adr a)
 |d=>d
def cD(μ:Mu)(δ:SD):SD:=δ.map (W3 (aY μ))
def mem_of_lookup :∀{μ:Mu},μ.lookup a=some m->(a,m)∈μ
 |[],h=>by cases h
 | (b,n)::r,h=>by
  rw[Tx] at h
  cases q:a == b with
  |true=>rw[q] at h;cases h;rw[beq_iff_eq.mp q];exact N'
  |false=>rw[q] at h;exact TR _ (mem_of_lookup h)
def fG.view(g:fG K H μ L)(h:Dv K (aa H L) v d):Dv K H v (aY μ d):=by
 cases h with
 |adr a =>
  show Dv K H (.ref a) (((μ.lookup a).map MD.d).getD (.adr a))
  cases q:μ.lookup a with
  |none=>exact .adr a
  |some m =>
   show Dv K H (.ref a) m.d
   obtain⟨_,f⟩:=g.at_ _ (mem_of_lookup q)
   cases m with
   |lst p=>obtain⟨o,h,d⟩:=f;exact .lst (cW.of h) (bA.same bJ d)
   |ins C r=>obtain⟨s,fs,h,c,l,d⟩:=f;exact .obj (.of h) (gC.same bJ d)
   |dK j=>obtain⟨n,h,d⟩:=f;exact .dK (.of h) (fg.same bJ d)
   |dT j=>obtain⟨n,h,d⟩:=f;exact .dT (.of h) (va.same bJ d)
 |ae=>exact .ae
 |bl b=>exact .bl b
 |int i=>exact .int i
 |str x=>exact .str x
 |lst e c=>exact Dv.same bJ (.lst e c)
 |tup e c=>exact Dv.same bJ (.tup e c)
 |obj e c=>exact Dv.same bJ (.obj e c)
 |dK e c=>exact Dv.same bJ (.dK e c)
 |dT e c=>exact Dv.same bJ (.dT e c)
 |exc e c l=>exact Dv.same bJ (.exc e c l)
def fG.cD(g:fG K H μ L)(r:bG K (aa H L) σ δ):bG K H σ (cD μ δ):=by
 refine⟨by unfold DC.cD;rw[tz];exact r.len,λi d h=>?_⟩
 unfold DC.cD at h
 rw[TX] at h
 cases q:δ[i]? with
 |none=>rw[q] at h;cases h
 |some o =>
  rw[q] at h
  cases o with
  |none=>cases h
  |some a =>
   cases h
   obtain⟨v,b,dv⟩:=r.get i a q
   exact⟨v,b,g.view dv⟩
end
structure ib where
 nx:SD->Mu->Prop
 rt:D->Mu->Prop
 bk:SD->Mu->Prop:=λ_ _=>False
 ct:SD->Mu->Prop:=λ_ _=>False
abbrev fS:=ib->SD->Mu->Prop
structure ib.Le (E E':ib):Prop where
 nx:∀ δ μ,E.nx δ μ->E'.nx δ μ
 rt:∀d μ,E.rt d μ->E'.rt d μ
 bk:∀ δ μ,E.bk δ μ->E'.bk δ μ
 ct:∀ δ μ,E.ct δ μ->E'.ct δ μ
abbrev BH(t:fS):Prop:=∀E a δ μ,ib.Le E a->t E δ μ->t a δ μ
def kM(K:l')(H:Hp)(L:List Addr)(Q:L2.St->Hp->Prop):SD->Mu->Prop:=λδ μ=>∀ σ a b,aH (aa H L) (aa a b)->bG K (aa a b) σ δ->fG K a μ b->Q σ a
def kR(K:l')(H:Hp)(L:List Addr)(Q:VK):D->Mu->Prop:=λd μ=>∀v a b,aH (aa H L) (aa a b)->fG K a μ b->Dv K (aa a b) v d->Q v a
def pR(K:l')(H:Hp)(L:List Addr)(D:Ends):ib:=⟨kM K H L D.nx,kR K H L D.rt,kM K H L D.bk,kM K H L D.ct⟩
def oH{K:l'}{D:Ends}(s:aH (aa H L) (aa e f)):ib.Le (pR K H L D) (pR K e f D) :=
 ⟨λ_ _ h σ a b c r g=>h σ a b (s.trans c) r g,λ_ _ h v a b c g d=>h v a b (s.trans c) g d,λ_ _ h σ a b c r g=>h σ a b (s.trans c) r g,λ_ _ h σ a b c r g=>h σ a b (s.trans c) r g⟩
def oM(K:l')(t:fS):TS:=λD σ H=>∃ δ μ L,bG K (aa H L) σ δ/\fG K H μ L/\t (pR K H L D) δ μ
structure xS (X:Cx) (st:Stmt) (t:fS):Prop where
 ps:PS X st (oM X.K t)
 mono:BH t
structure tw (X:Cx) (st:List Stmt) (t:fS):Prop where
 ps:kq X st (oM X.K t)
 mono:BH t
section
variable {X:Cx}{st:Stmt}{rest body els:List Stmt}{t u:fS}{e c:Expr}{te:ED}{uc:TD}{pos:Pos}
def yU:fS:=λE δ μ=>E.nx δ μ
def wK(t u:fS):fS:=λE δ μ=>t { E with nx:=u E } δ μ
def kH:tw X [] yU:=⟨kq.imp we fun D σ H ⟨δ,μ,L,r,g,h⟩=>h σ H L (aH.refl _) r g,λE a δ μ l h=>l.nx _ _ h⟩
def aM(a:xS X st t)(b:tw X rest u):tw X (st::rest) (wK t u) :=
 ⟨kq.imp (oi a.ps b.ps) fun D σ H ⟨δ,μ,L,r,g,h⟩=>⟨δ,μ,L,r,g,a.mono { pR X.K H L D with nx:=u (pR X.K H L D)} _ _ _ ⟨λf i q p s n o j m=>⟨f,i,n,j,m,b.mono _ _ _ _ (oH o) q⟩,λ_ _ q=>q,λ_ _ q=>q,λ_ _ q=>q⟩ h⟩,
  λE v δ μ l h=>a.mono { E with nx:=u E } _ _ _ ⟨λf i q=>b.mono _ _ _ _ l q,l.rt,l.bk,l.ct⟩ h⟩
def av(a:xS X st t):tw X [st] t:=⟨wg a.ps,a.mono⟩
def yT(t:fm):fS:=λE δ μ=>t { nx:=λa=>E.nx a μ,rt:=λd=>E.rt d μ,bk:=λa=>E.bk a μ,ct:=λa=>E.ct a μ } δ
def Bs{t:fm}{D:Ends}(m:uO t)(h:oM X.K (yT t) D σ H):Qz (oS X.K t) D σ H:=by
 obtain⟨δ,μ,L,r,g,h⟩:=h
 refine⟨L,g.eZ,δ,r,?_⟩
 refine m { nx:=λf=>(pR X.K H L D).nx f μ,rt:=λd=>(pR X.K H L D).rt d μ,bk:=λf=>(pR X.K H L D).bk f μ,ct:=λf=>(pR X.K H L D).ct f μ } _ _ ⟨λf q j a b i z=>?_,λd q v a b dv z=>?_,λf q j a b i z=>?_,λf q j a b i z=>?_⟩ h
 ·have e:aa (ao a H L) L=a:=bh z
  exact q j _ L (by rw[e];exact b) (by rw[e];exact i) (g.show z b)
 ·have e:aa (ao a H L) L=a:=bh z
  exact q v _ L (by rw[e];exact b) (g.show z b) (by rw[e];exact dv)
 ·have e:aa (ao a H L) L=a:=bh z
  exact q j _ L (by rw[e];exact b) (by rw[e];exact i) (g.show z b)
 ·have e:aa (ao a H L) L=a:=bh z
  exact q j _ L (by rw[e];exact b) (by rw[e];exact i) (g.show z b)
def FW{t:fm}(m:uO t):BH (yT t):=λE b δ μ l h=>m { nx:=λa=>E.nx a μ,rt:=λd=>E.rt d μ,bk:=λa=>E.bk a μ,ct:=λa=>E.ct a μ } _ _ ⟨λ_ q=>l.nx _ _ q,λ_ q=>l.rt _ _ q,λ_ q=>l.bk _ _ q,λ_ q=>l.ct _ _ q⟩ h
def cM{t:fm}(h:xT X st t):xS X st (yT t):=⟨PS.imp (GO h.ps) λD σ H q=>Bs h.mono q,FW h.mono⟩
def dS{t:fm}(h:jQ X rest t):tw X rest (yT t):=⟨kq.imp (JY h.ps) λD σ H q=>Bs h.mono q,FW h.mono⟩
def Nu(a:TD)(t u:fS):fS:=λE δ μ=>a (cD μ δ) λb=>if b=true then t E δ μ else u E δ μ
def oW(b:mV X c uc)(i:tw X body t)(f:tw X els u):xS X (.If c body els pos) (Nu uc t u):=by
 refine⟨PS.imp (Kq b.pt i.ps f.ps) λD σ H ⟨δ,μ,L,r,g,h⟩=>⟨_,g.cD r,b.mono _ _ _ (λk q m j=>?_) h⟩,λE n δ μ l h=>b.mono _ _ _ (λk q=>?_) h⟩
 ·have a:aH (aa H L) (aa m L):=d_ j
  cases k with
  |true =>
   show if true=true then _ else _
   rw[if_pos rfl] at q ⊢;exact⟨δ,μ,L,r.same a,g.on j,i.mono _ _ _ _ (oH a) q⟩
  |false =>
   show if false=true then _ else _
   rw[if_neg Fk] at q ⊢;exact⟨δ,μ,L,r.same a,g.on j,f.mono _ _ _ _ (oH a) q⟩
 ·cases k with
  |true=>rw[if_pos rfl] at q ⊢;exact i.mono _ _ _ _ l q
  |false=>rw[if_neg Fk] at q ⊢;exact f.mono _ _ _ _ l q
def Dv.IG{K:l'}(h:Dv K H v d)(f:gN d=true):Dv K a v d:=by
 cases h with
 |ae=>exact .ae
 |bl b=>exact .bl b
 |int i=>exact .int i
 |str x=>exact .str x
 |_=>cases f
def Il(a:ED):fS:=λE δ μ=>a (cD μ δ) λd=>E.rt d []
def ph(a:PD X e te):xS X (.Return (some e) pos) (Il te) :=
 ⟨PS.imp (Aq a.pe) fun D σ H ⟨δ,μ,L,r,g,h⟩=>⟨_,g.cD r,a.mono _ _ _ (λd q v f b dv=>q v f [] (by rw[bO];exact bJ.trans b) fG.nil (by rw[bO];exact dv)) h⟩,
  λE i δ μ l h=>a.mono _ _ _ (λd q=>l.rt _ _ q) h⟩
end
def iU(a:Addr)(m:MD)(μ:Mu):Mu:=μ.map λp=>if p.1=a then(a,m) else p
def vM(a:Addr)(m:MD)(μ:Mu):(iU a m μ).map (·.1)=μ.map (·.1):=by
 unfold iU
 rw[UG]
 refine UY λp _=>?_
 show(if p.1=a then(a,m) else p).1=p.1
 split
 ·rename_i h;exact h.symm
 ·rfl
section
variable {K:l'}{H:Hp}{μ:Mu}{L:List Addr}{a:Addr}{vs ys:List V}{ds:List D}
def gP(h:a∈L):aa (upd H a o) L=aa H L:=by
 funext b
 by_cases c:b∈L
 ·rw[dH c,dH c]
 ·rw[bf c,bf c,aG (λz=>c (by rw[z];exact h))]
def fG.putL(g:fG K H μ L)(x:a∈L)(o:H a=some (.lst vs))(d:bA K (aa H L) ys ds):fG K (upd H a (.lst ys)) (iU a (.lst ds) μ) L:=by
 have e:aa (upd H a (.lst ys)) L=aa H L:=gP x
 refine⟨λp y=>?_,by rw[vM];exact g.Ki,λb t=>?_,λb t=>?_⟩
 ·obtain⟨q,B,rfl⟩:=Tj.mp y
  by_cases i:q.1=a
  ·rw[if_pos i]
   exact⟨x,ys,aF,by rw[e];exact d⟩
  ·rw[if_neg i]
   obtain⟨A,j⟩:=g.at_ q B
   refine⟨A,?_⟩
   obtain⟨b,m⟩:=q
   cases m with
   |lst ds=>obtain⟨l,h,d⟩:=j;exact⟨l,by rw[aG i];exact h,by rw[e];exact d⟩
   |ins C G=>obtain⟨u,fs,h,j,E,d⟩:=j;exact⟨u,fs,by rw[aG i];exact h,by rw[aG (λz=>by rw[z,o] at j;cases j)];exact j,E,by rw[e];exact d⟩
   |dK r=>obtain⟨l,h,d⟩:=j;exact⟨l,by rw[aG i];exact h,by rw[e];exact d⟩
   |dT r=>obtain⟨l,h,d⟩:=j;exact⟨l,by rw[aG i];exact h,by rw[e];exact d⟩
 ·by_cases f:b=a
  ·rw[f];exact .lst ys aF
  ·have w:=g.eZ b t
   cases w with
   |lst v h=>exact .lst v (by rw[aG f];exact h)
   |dK v h=>exact .dK v (by rw[aG f];exact h)
   |ext φ h n=>exact .ext φ (by rw[aG f];exact h) n
   |ins C u fs h F=>exact .ins C u fs (by rw[aG f];exact h) F
   |own C c fs h n s=>exact .own C c fs (by rw[aG f];exact h) n (by rw[aG (λz=>by rw[z,o] at s;cases s)];exact s)
 ·rcases g.LQ b t with⟨m,h⟩|⟨c,h⟩
  ·by_cases f:b=a
   ·exact .inl ⟨.lst ds,Tj.mpr ⟨_,h,by rw[if_pos f,f]⟩⟩
   ·exact .inl ⟨m,Tj.mpr ⟨_,h,if_neg f⟩⟩
  ·exact .inr ⟨c,by rw[aG (λz=>by rw[z,o] at h;cases h)];exact h⟩
def fG.Fm(g:fG K H μ L)(u:H a=none)(d:bA K (aa H L) ys ds):fG K (upd H a (.lst ys)) ((a,.lst ds)::μ) (a::L)/\aa (upd H a (.lst ys)) (a::L)=aa H L:=by
 have v:a∉L:=λh=>by obtain⟨o,q⟩:=(g.eZ a h).there;rw[u] at q;cases q
 have e:aa (upd H a (.lst ys)) (a::L)=aa H L:=by
  funext b
  by_cases hb:b=a
  ·rw[hb,dH N',ir u]
  ·by_cases i:b∈L
   ·rw[dH (TR _ i),dH i]
   ·rw[bf (λz=>(Gc.mp z).elim hb i),bf i,aG hb]
 have f:∀{b:Addr} {o:HO},H b=some o->b≠a:=λh=>aQ h u
 refine⟨⟨λp n=>?_,?_,λb hb=>?_,λb hb=>?_⟩,e⟩
 ·rcases Gc.mp n with rfl|n
  ·exact⟨N',ys,aF,by rw[e];exact d⟩
  ·obtain⟨B,j⟩:=g.at_ p n
   refine⟨TR _ B,?_⟩
   obtain⟨b,m⟩:=p
   cases m with
   |lst ds=>obtain⟨l,h,d⟩:=j;exact⟨l,by rw[aG (f h)];exact h,by rw[e];exact d⟩
   |ins C G=>obtain⟨x,fs,h,j,E,d⟩:=j;exact⟨x,fs,by rw[aG (f h)];exact h,by rw[aG (f j)];exact j,TR _ E,by rw[e];exact d⟩
   |dK s=>obtain⟨l,h,d⟩:=j;exact⟨l,by rw[aG (f h)];exact h,by rw[e];exact d⟩
   |dT s=>obtain⟨l,h,d⟩:=j;exact⟨l,by rw[aG (f h)];exact h,by rw[e];exact d⟩
 ·rw[TM,UN]
  refine⟨λh=>?_,g.Ki⟩
  obtain⟨p,n,t⟩:=Tj.mp h
  have:p.1=a:=t
  exact v (this ▸ (g.at_ p n).1)
 ·rcases Gc.mp hb with rfl|hb
  ·exact .lst ys aF
  ·have w:=g.eZ b hb
   cases w with
   |lst y h=>exact .lst y (by rw[aG (f h)];exact h)
   |dK y h=>exact .dK y (by rw[aG (f h)];exact h)
   |ext φ h r=>exact .ext φ (by rw[aG (f h)];exact h) r
   |ins C x fs h F=>exact .ins C x fs (by rw[aG (f h)];exact h) (TR _ F)
   |own C c fs h r A=>exact .own C c fs (by rw[aG (f h)];exact h) (TR _ r) (by rw[aG (f A)];exact A)
 ·rcases Gc.mp hb with rfl|hb
  ·exact .inl ⟨_,N'⟩
  ·rcases g.LQ b hb with⟨m,h⟩|⟨c,h⟩
   ·exact .inl ⟨m,TR _ h⟩
   ·exact .inr ⟨c,by rw[aG (f h)];exact h⟩
end
section
variable {X:Cx}{e:Expr}{te:ED}{es:List Expr}{t:AD}{i:Nat}{x:Str}{p pos pos' apos cpos:Pos}
def Oq(i:Nat)(t:AD):fS:=λE δ μ=>t δ λb=>b.length<=sizeLine/\∀a,(∀m,(a,m)∉μ)->E.nx (δ.set i (some (.adr a))) ((a,.lst b)::μ)
def fw(I:X.N.Nodup)(Q:X.N[i]?=some x)(J:Loc X.env.scope x)(h:iZ X es t)(G:autoParam (Ue (.List es p) (some (.Name x pos')) pos.line X.env=pure false) dI)
  (O:autoParam (X.fn x=true\/X.env.scope.names.lookup x=some .local) eS):xS X (.Assign [.Name x pos'] (.List es p) pos) (Oq i t):=by
 refine⟨PS.imp (Ar I Q J (iT (wa h.pa)) G O) fun D σ H ⟨δ,μ,L,r,g,q⟩=>⟨L,g.eZ,δ,r,h.mono _ _ _ (fun ds ⟨y,k⟩ o H1 v n=>⟨by rw[n.length];exact y,λa u z=>?_⟩) q⟩,
  λE S δ μ l q=>h.mono _ _ _ (fun ds ⟨y,k⟩=>⟨y,λa u=>l.nx _ _ (k a u)⟩) q⟩
 have f:a∉L:=λM=>by have:=z a M;rw[aF] at this;cases this
 have A:∀{b:Addr},b∈L->b≠a:=λc w=>f (by rw[<- w];exact c)
 have C:∀b∈L,H1 b=none:=λb c=>by have:=z b c;rwa [aG (A c)] at this
 have R:ao (upd H1 a (.lst o)) H L=upd (ao H1 H L) a (.lst o):=by
  funext b
  by_cases c:b∈L
  ·rw[aV c,aG (A c),aV c]
  ·rw[aS c]
   by_cases j:b=a
   ·rw[j,aF,aF]
   ·rw[aG j,aG j,aS c]
 have s:aa (ao H1 H L) L=H1:=bh C
 have g1:fG X.K (ao H1 H L) μ L:=g.show C v
 have F:ao H1 H L a=none:=by rw[aS f];exact u
 obtain⟨g2,B⟩:=g1.Fm F (ys:=o) (ds:=ds) (by rw[s];exact n)
 rw[R]
 refine k a (λm P=>f (g.at_ _ P).1) _ _ (a::L) (by rw[B,s];exact v) ?_ g2
 rw[B,s]
 exact(r.same v).set i (.adr a)
def Ii(i:Nat)(c:ED):fS:=λE δ μ=>∃a b,δ[i]?=some (some (.adr a))/\μ.lookup a=some (.lst b)/\b.length<sizeLine/\c δ λd=>E.nx δ (iU a (.lst (b++[d])) μ)
def dj(S:X.N[i]?=some x)(M:Cb X.env.scope x)(A:PD X e te)(R:autoParam ((x == ("__debug__":Str))=false) e7)(B:autoParam ((x == ("__classdict__":Str))=false) e7)
  (m:autoParam (starEach [e] X.env=(false,eval e X.env)::starEach [] X.env) dI)(b:autoParam ((apos.endLine == cpos.line)=true) dI)
  (f:autoParam (((backTo cpos (starEach [e] X.env)).all (λx=>!x.1)&&(backToKw cpos (keywordEach [] X.env)).all (λx=>x.1.isSome)&&decide ([e].length+([]:List VN).length+(if([]:List VN).isEmpty then 0 else 1)<30))=true) dI)
  (O:autoParam (Ue (.Call (.Attribute (.Name x p) "append" apos) [e] [] cpos) none pos.line X.env=pure false) dI)
  (T:autoParam (UZ (.Name x p) "append" X.env (eval (.Name x p) X.env)=eval (.Name x p) X.env) dI) :
  xS X (.Expr (.Call (.Attribute (.Name x p) "append" apos) [e] [] cpos) pos) (Ii i te):=by
 refine⟨PS.imp (mP (sS Ui YQ PySem.F.type_list_append ux (kL S M R B) (cU (iT A.pe) gX m) T f b m) O) fun D σ H ⟨δ,μ,L,r,g,q⟩=>?_,
  fun E U δ μ l ⟨a,ds,u,C,s,q⟩=>⟨a,ds,u,C,s,A.mono _ _ _ (λd k=>l.nx _ _ k) q⟩⟩
 obtain⟨a,ds,u,C,s,q⟩:=q
 obtain⟨v,y,dv⟩:=r.get i _ u
 cases dv
 have Q:=mem_of_lookup C
 obtain⟨c,n,G,j⟩:=g.at_ _ Q
 refine⟨_,y,.inl ⟨rfl,_,cW.of G⟩,L,g.eZ,δ,r,A.mono _ _ _ (λd k w H1 o P z=>?_) q⟩
 have J:aa (ao H1 H L) L=H1:=bh z
 have g1:fG X.K (ao H1 H L) μ L:=g.show z o
 have h:ao H1 H L a=some (.lst n):=by rw[aV c];exact G
 refine⟨a,n,w,rfl,rfl,h,by rw[j.length];exact s,?_⟩
 have g2:=g1.putL c h (ys:=n++[w]) (ds:=ds++[d]) (by rw[J];exact(bA.same o j).append (.cons P .nil))
 have I:aa (upd (ao H1 H L) a (.lst (n++[w]))) L=H1:=by rw[gP c,J]
 exact k σ _ L (by rw[I];exact o) (by rw[I];exact r.same o) g2
end
end DC
namespace L2
def So(g:TG):TG:=λv σ H Q=>∃L,(∀a∈L,fh H L a)/\g v σ (aa H L) λe c=>(∀b∈L,c b=none)->Q e (ao c H L)
def M3(h:PG X j g):PG X j (So g):=by
 intro a s σ H v u Q I r ⟨L,hL,q⟩
 refine pS I hL λc i _ b=>?_
 refine bg (h (a++c) s σ _ v u _ i r q) ?_;rintro _ m ⟨f,l,e,k⟩
 obtain⟨z,J⟩:=b _ _ _ e
 exact⟨f,_,J,k z⟩
end L2
namespace DC
section
variable {X:Cx}{tg iter:Expr}{body:List Stmt}{ti:AD}{g:BI}{tb:fS}{pos:Pos}
abbrev xV:=List D->SD->(SD->Prop)->Prop
structure EJ (X:Cx) (ts:List Expr) (g:xV):Prop where
 pg:EI X ts (λvs σ H Q=>∃ds δ,bA X.K H vs ds/\bG X.K H σ δ/\g ds δ (kS X.K H Q))
 mono:∀ds δ (P P':SD->Prop),(∀ δ,P δ->P' δ)->g ds δ P->g ds δ P'
def Q1:xV:=λa δ Q=>a=[]/\Q δ
def OY(t:BI)(u:xV):xV:=λb δ Q=>∃d r,b=d::r/\t d δ λa=>u r a Q
def EI.imp(h:EI X c t)(f:∀v σ H Q,b v σ H Q->t v σ H Q):EI X c b:=λa s σ H v u Q I r q=>h a s σ H v u Q I r (f v σ H Q q)
def rj:EJ X [] Q1:=⟨EI.imp B5 fun b σ H Q ⟨a,δ,dv,r,e,q⟩=>by subst e;cases dv;exact⟨rfl,q σ H (aH.refl _) r⟩,fun a δ P c f ⟨e,q⟩=>⟨e,f _ q⟩⟩
def fH(h:KI X e t)(i:EJ X c u)(m:autoParam ((assignEach (e::c) X.env).map (·.2)=assign e X.env::(assignEach c X.env).map (·.2)) dI):EJ X (e::c) (OY t u):=by
 refine⟨EI.imp (lX h.pg i.pg m) ?_,fun o δ P w f ⟨d,r,e,q⟩=>⟨d,r,e,h.mono _ _ _ _ (λj k=>i.mono _ _ _ _ f k) q⟩⟩;rintro v σ H Q ⟨o,δ,dv,r,d,s,e,q⟩
 subst e
 cases dv with
 |cons a b=>exact⟨_,_,rfl,d,δ,a,r,h.mono _ _ _ _ (λj k x y l n=>⟨s,j,bA.same l b,n,i.mono _ _ _ _ (λp z=>z.on l) k⟩) q⟩
def OZ(n:Nat)(u:xV):BI:=λd δ Q=>∃a,d=.tup a/\a.length=n/\u a δ Q
def E9{k:Nat}(l:X.calm=true)(h:EJ X a u)(o:autoParam ((assignEach a X.env).length=n) dI)(i:autoParam ((assignEach a X.env).findIdx? (·.1)=none) dI):KI X (.Tuple a k pos) (OZ n u):=by
 refine⟨PG.imp (GC l h.pg o i) ?_,fun d δ P p f ⟨b,e,c,q⟩=>⟨b,e,c,h.mono _ _ _ _ f q⟩⟩;rintro v σ H Q ⟨d,δ,dv,r,b,e,c,q⟩
 subst e
 cases dv with
 |tup m j=>exact⟨_,_,rfl,m,by rw[j.length];exact c,b,δ,j,r,q⟩
def Q_(f:AD)(g:BI)(j:fS):fS:=λE δ μ=>f δ λe=>∃a:Nat->SD->Mu->Prop,a 0 δ μ /\
 (∀i d b c,e[i]?=some d->a i b c->g d b λh=>j { E with nx:=a (i+1),ct:=a (i+1),bk:=E.nx } h c)/\∀ b c,a e.length b c->E.nx b c
def de(hp:V' (model X.prog X.w) X.A X.env X.xe)(hc:X.calm=true)(hi:PId X tg iter ti)(hg:KI X tg g)(I:tw X body tb)(hs:autoParam (∀x,foldedSetIterable iter X.env x=pure x) eH) :
  xS X (.For tg iter body [] pos) (Q_ ti g tb):=by
 refine⟨PS.imp (GN hp hc (M4 hi.pi) (M3 hg.pg) I.ps hs) fun D σ H ⟨δ,μ,L,r,st,h⟩=>⟨L,st.eZ,δ,r,hi.mono _ _ _ (?_) h⟩,λE E' δ μ l h=>hi.mono _ _ _ (fun F ⟨c,i0,step,C⟩=>⟨c,i0,λi d n j hd s=>hg.mono _ _ _ _ (λB q=>I.mono { E with nx:=c (i+1),ct:=c (i+1),bk:=E.nx } _ _ _ ⟨λ_ _ q=>q,l.rt,l.nx,λ_ _ q=>q⟩ q) (step i d n j hd s),λn j q=>l.nx _ _ (C n j q)⟩) h⟩;rintro F ⟨c,i0,step,C⟩ J H1 T it z
 have e1:aa (ao H1 H L) L=H1:=bh z
 refine⟨λi m σ' p=>m=F.length - i/\i<=F.length/\∃ n j a,aH H1 (aa p a)/\bG X.K (aa p a) σ' n/\fG X.K p j a/\c i n j,⟨F.length,rfl,UP _,δ,μ,L,by rw[e1];exact aH.refl _,by rw[e1];exact r.same T,st.show z T,i0⟩,?_⟩
 rintro i m σ' p ⟨rfl,hle,n,j,a,S,r',t,s⟩
 have sf:aH H1 p:=S.trans bJ
 by_cases v:i<F.length
 ·refine .inr ⟨it.go i p sf v,λσ2 U=>∃ B R M,aH H1 (aa U M)/\bG X.K (aa U M) σ2 B/\fG X.K U R M/\c (i+1) B R,fun σ2 U ⟨B,R,M,q⟩=>⟨F.length - (i+1),by omega,rfl,v,B,R,M,q⟩,λx f y=>?_⟩
  obtain⟨s2,d,hd,Hx,_,Z,hx,sx⟩:=it.BC i p x f sf v y
  have sA:aH (aa p a) (aa f a):=d_ s2
  have sX:aH Hx (aa f a):=λb o I=>by
   have nb:b∉a:=by
    intro N
    rcases hx b o I with q|q
    ·have:=S _ _ q
     rw[dH N] at this
     cases this
    ·obtain⟨o',q'⟩:=(t.eZ b N).there
     rw[q] at q'
     cases q'
   rw[bf nb]
   exact sx _ _ I
  have O:fG X.K f j a:=t.on s2
  refine⟨a,O.eZ,d,n,Z.same sX,r'.same sA,hg.mono _ _ _ _ (λB q σ3 Q s3 r3 z3=>?_) (step i d n j hd s)⟩
  have W:aa (ao Q f a) a=Q:=bh z3
  have st3:fG X.K (ao Q f a) j a:=O.show z3 s3
  have sB:aH H1 Q:=S.trans (sA.trans s3)
  refine⟨B,j,a,by rw[W];exact r3,st3,I.mono { pR X.K H L D with nx:=c (i+1),ct:=c (i+1),bk:=(pR X.K H L D).nx } _ _ _ ?_ q⟩
  have sC:aH (aa H L) (aa (ao Q f a) a):=by rw[W];exact T.trans sB
  have l:=oH (K:=X.K) (D:=D) sC
  refine⟨λδ4 Y u σ4 H4 L4 P r4 G=>⟨δ4,Y,L4,?_,r4,G,u⟩,λ_ _ u=>l.rt _ _ u,λ_ _ u=>l.nx _ _ u,λδ4 Y u σ4 H4 L4 P r4 G=>⟨δ4,Y,L4,?_,r4,G,u⟩⟩
  ·rw[W] at P;exact sB.trans P
  ·rw[W] at P;exact sB.trans P
 ·have e:i=F.length:=by omega
  subst e
  exact .inl ⟨it.stop p sf,C n j s σ' p a (T.trans S) r' t⟩
end
def SV{K:l'}{st:Stmt}(F:xO K x b st f y)(S:aD N n (aB st))(p:∀c Q,o c Q->c.length=n.length)
  (G:∀(e:Value) (A:Around) (a:List Env) (s:Shared) (H:Hp) (E:XK),bZ k (A.deeper (envOfC b (aB st) s.heap.objs.size f e))->tw (Bx P w K C l N b st f e A a s H E) (af st) t)
  (I:∀c Q,o c Q->t { nx:=λ_ _=>Q .ae,rt:=λd μ=>Q (aY μ d)} (bS N c) []):cE P w K C l nY (k+1) f y n (xA K o):=by
 refine F.ok S (fun z H Q E ⟨c,i,h⟩=>by rw[i.length];exact p c _ h) (?_);rintro e A a s H z Q E j ⟨c,i,h⟩
 have B:=G e A a s H E j
 refine⟨_,B.ps,bS N c,[],[],by rw[bO];exact dk i,fG.nil,?_⟩
 refine B.mono { nx:=λ_ _=>kD K H Q .ae,rt:=λd μ=>kD K H Q (aY μ d)} _ _ _ ⟨λδ μ q σ u J m r g=>?_,λd μ q v u J m g dv=>?_,λ_ _ q=>q.elim,λ_ _ q=>q.elim⟩ (I c _ h)
 ·rw[bO] at m
  exact q _ u (m.trans bJ) .ae
 ·rw[bO] at m
  exact q _ u (m.trans bJ) (g.view dv)
structure bo (P:TV) (w:World) (K:l') (mg:Str->Option Value) (base:Heap) (k:Nat) (x:Str) (ps:List Str) (sd:cI):Prop where
 ex:∃f fd,cE P w K mg base nY k f fd ps (xA K sd)/\mg x=some (.ref f)/\keepIn K (.ref f)=true/\Binds K fd ps []
 ms:cN sd
section
variable {P:TV}{w:World}{K:l'}{mg:Str->Option Value}{base:Heap}
def bo.up(c:bo P w K mg base j x a sd)(h:j<=k):bo P w K mg base k x a sd :=
 ⟨let ⟨f,b,F,r⟩:=c.ex;⟨f,b,F.mono h,r⟩,c.ms⟩
structure Df (K:l') (mg:Str->Option Value) (x:Str) (st:Stmt) (ps:List Str):Prop where
 ex:∃f fd,xO K x x st f fd/\mg x=some (.ref f)/\Binds K fd ps []
def Df.d7{st:Stmt}(d:Df K mg x st g)(S:aD N g (aB st))(i:cN sd)(h:∀c Q,sd c Q->c.length=g.length)
  (j:∀(f:Addr) (e:Value) (A:Around) (a:List Env) (s:Shared) (H:Hp) (E:XK),bZ k (A.deeper (envOfC x (aB st) s.heap.objs.size f e))->jQ (Bx P w K mg base N x st f e A a s H E) (af st) t)
  (n:∀c Q,sd c Q->t { nx:=λ_=>Q .ae,rt:=Q } (bS N c)):bo P w K mg base (k+1) x g sd:=by
 obtain⟨f,l,F,m,b⟩:=d.ex
 exact⟨⟨f,l,SS F S h (j f) n,m,F.kp,b⟩,i⟩
def Df.uA{st:Stmt}(d:Df K mg x st g)(S:aD N g (aB st))(i:cN sd)(h:∀c Q,sd c Q->c.length=g.length)
  (j:∀(f:Addr) (e:Value) (A:Around) (a:List Env) (s:Shared) (H:Hp) (E:XK),bZ k (A.deeper (envOfC x (aB st) s.heap.objs.size f e))->tw (Bx P w K mg base N x st f e A a s H E) (af st) t)
  (n:∀c Q,sd c Q->t { nx:=λ_ _=>Q .ae,rt:=λd μ=>Q (aY μ d)} (bS N c) []):bo P w K mg base (k+1) x g sd:=by
 obtain⟨f,l,F,m,b⟩:=d.ex
 exact⟨⟨f,l,SV F S h (j f) n,m,F.kp,b⟩,i⟩
end
def aR{p h:Pos}(c:bo X.prog X.w X.K X.mg X.base j x z s)(l:bZ k X.A)(i:j<=k)(r:Gl X x)(o:iZ X (e::g) t)(a:autoParam ((x == ("__debug__":Str))=false) e7)
  (u:autoParam (starEach (e::g) X.env=(false,eval e X.env)::starEach g X.env) dI)(v:autoParam ((backTo h (starEach g X.env)).any (·.1)=false) dI):PD X (.Call (.Name x p) (e::g) [] h) (zT s t):=by
 obtain⟨f,y,F,m,n,b⟩:=c.ex
 exact LW F c.ms (l.mono i) r m n b o a (wY F (l.mono i) r m n b .nil sR o.pa a u v)
section
variable {X:Cx}{scope:Scope}{cl:List (Str × Addr)}{x:Str}{caps:List Nat}{cn:List Str}{tg iter elt:Expr}{ifs:List Expr}{ti:AD}{tt:TD}{te:ED}{pos:Pos}
def n_(S:bY X scope cl [x] caps cn)(g:X.calm=true)(h:PId X tg iter ti)(i:∀C b a c,PG (aZ X scope cl C ([x]++cn) b a c) tg (cz 0))(e:∀C b a c,t_ (aZ X scope cl C ([x]++cn) b a c) ifs tt)
  (f:∀C b a c,PD (aZ X scope cl C ([x]++cn) b a c) elt te)(j:autoParam (∀x,foldedSetIterable iter X.env x=pure x) eH):PD X (.ListComp elt [⟨tg,iter,ifs,0⟩] scope pos) (jL caps ti tt te) :=
 LX S g h i e f (e 0 [] X.s₀ X.H₀).mono (f 0 [] X.s₀ X.H₀).mono j
def RV{l a:Pos}(n:X.N.Nodup)(f:X.N[i]?=some y)(r:Loc X.env.scope y)(S:bY X scope cl [x] caps cn)(m:X.calm=true)(p:PId X tg iter ti)
  (s:∀C c b e,PG (aZ X scope cl C ([x]++cn) c b e) tg (cz 0))(h:∀C c b e,t_ (aZ X scope cl C ([x]++cn) c b e) ifs tt)(j:∀C c b e,PD (aZ X scope cl C ([x]++cn) c b e) elt te)
  (g:autoParam (Ue (.ListComp elt [⟨tg,iter,ifs,0⟩] scope pos) (some (.Name y l)) a.line X.env=pure true) dI)(o:autoParam (X.fn y=true\/X.env.scope.names.lookup y=some .local) eS)
  (t:autoParam (∀x,foldedSetIterable iter X.env x=pure x) eH):xT X (.Assign [.Name y l] (.ListComp elt [⟨tg,iter,ifs,0⟩] scope pos) a) (Jg i (jL caps ti tt te)) :=
 NI n f r S m p s h j (h 0 [] X.s₀ X.H₀).mono (j 0 [] X.s₀ X.H₀).mono g o t
def isSome_of :y∈cl.map (·.1)->(cl.lookup y).isSome=true:=by
 induction cl with
 |nil=>intro h;cases h
 |cons p r a =>
  intro h
  rw[Tx]
  cases q:y == p.1 with
  |true=>rfl
  |false =>
   rw[TM,Gc] at h
   rcases h with h|h
   ·rw[h] at q;simp at q
   ·exact a h
def ft{b:List (Str × Addr)}(a:List Str)(c:b.map (·.1)=a)(h:∀y∈scope.names,y.2=.free->y.1∈a):∀y∈scope.names,y.2=.free->(b.lookup y.1).isSome=true:=λy f e=>isSome_of (by rw[c];exact h y f e)
def dG{f:Str × Addr->Prop}:∀p∈([]:List (Str × Addr)),f p:=λp h=>nomatch h
def bU{f:Str × Addr->Prop}(h:f a)(b:∀p∈r,f p):∀p∈a::r,f p:=List.forall_mem_cons.mpr ⟨h,b⟩
end
def sD(j:Gl X "isinstance")(i:X.mg "isinstance"=none)(a:Gl X "bool")(b:X.mg "bool"=none)(f:PD X e g)(l:autoParam (starEach [e,.Name "bool" c] X.env=(false,eval e X.env)::starEach [.Name "bool" c] X.env) dI):PD X (.Call (.Name "isinstance" p) [e,.Name "bool" c] [] h) (CV "bool" g):=(zt f j i a b zk (by decide) (by decide) l).DH f.mono (by decide)
def Bm(j:Gl X "isinstance")(i:X.mg "isinstance"=none)(a:Gl X "int")(b:X.mg "int"=none)(f:PD X e g)(l:autoParam (starEach [e,.Name "int" c] X.env=(false,eval e X.env)::starEach [.Name "int" c] X.env) dI):PD X (.Call (.Name "isinstance" p) [e,.Name "int" c] [] h) (CV "int" g):=(zt f j i a b Cf (by decide) (by decide) l).DH f.mono (by decide)
def pW(j:Gl X "isinstance")(i:X.mg "isinstance"=none)(a:Gl X "tuple")(b:X.mg "tuple"=none)(f:PD X e g)(l:autoParam (starEach [e,.Name "tuple" c] X.env=(false,eval e X.env)::starEach [.Name "tuple" c] X.env) dI):PD X (.Call (.Name "isinstance" p) [e,.Name "tuple" c] [] h) (CV "tuple" g):=(zt f j i a b boot_tuple (by decide) (by decide) l).DH f.mono (by decide)
structure bw (P:TV) (w:World) (K:l') (mg:Str->Option Value) (base:Heap) (j:Nat) (C:Addr) (m:Str) (sd:cI) (dd:List D):Prop where
 ex:∃f fd ps dvs ds,tY K C/\Meth K C m f/\cE P w K mg base nY j f fd ps (xA K sd)/\Binds K fd ps ds/\Vals dvs ds/\∀H,bA K H dvs dd
 ms:cN sd
def bw.mh(c:bw X.prog X.w X.K X.mg X.base j C m b dd)(i:bZ k X.A)(e:j<=k):MH X C m b dd :=by
 obtain⟨f,s,t,a,h,l,n,o,r,p,g⟩:=c.ex
 exact⟨j,f,s,t,a,h,l,n,o,c.ms,i.mono e,r,p,g⟩
def bw.up{K:l'}(c:bw P w K mg base i C m b dd)(h:i<=j):bw P w K mg base j C m b dd :=
 ⟨let ⟨f,o,p,a,e,g,l,n,r⟩:=c.ex;⟨f,o,p,a,e,g,l,n.mono h,r⟩,c.ms⟩
structure Dm (K:l') (C:Addr) (m qual:Str) (st:Stmt) (ps:List Str):Prop where
 ex:∃f fd,xO K m qual st f fd/\Meth K C m f/\tY K C/\Binds K fd ps []
section
variable {P:TV}{w:World}{K:l'}{mg:Str->Option Value}{base:Heap}
def Dm.d7{st:Stmt}(d:Dm K C m a st j)(S:aD N j (aB st))(n:cN i)(l:∀g Q,i g Q->g.length=j.length)
  (o:∀(f:Addr) (h:Value) (A:Around) (e:List Env) (s:Shared) (H:Hp) (E:XK),bZ k (A.deeper (envOfC a (aB st) s.heap.objs.size f h))->jQ (Bx P w K mg base N a st f h A e s H E) (af st) t)
  (r:∀g Q,i g Q->t { nx:=λ_=>Q .ae,rt:=Q } (bS N g)):bw P w K mg base (k+1) C m i []:=by
 obtain⟨f,p,F,M,c,b⟩:=d.ex
 exact⟨⟨f,p,j,[],[],c,M,SS F S l (o f) r,b,.nil,λ_=>.nil⟩,n⟩
structure pM (P:TV) (w:World) (K:l') (mg:Str->Option Value) (base:Heap) (j:Nat) (x:Str) (C:Addr) (sd:KJ) (dd:List D):Prop where
 ex:∃f fd ps dvs ds,Mk K C f/\cE P w K mg base nY j f fd ps (RZ K C sd)/\mg x=some (.ref C)/\Binds K fd ps ds/\Vals dvs ds/\∀H,bA K H dvs dd
 ms:zh sd
structure Di (K:l') (mg:Str->Option Value) (x:Str) (C:Addr) (qual:Str) (st:Stmt) (ps:List Str) (dd:List D):Prop where
 ex:∃f fd dvs ds,tq K "__init__" qual st f fd/\Mk K C f/\mg x=some (.ref C)/\Binds K fd ps ds/\Vals dvs ds/\∀H,bA K H dvs dd
def Di.D7{st:Stmt}(d:Di K mg x C c st l dd)(S:aD N l (aB st))(p:zh j)(o:∀e Q,j e Q->e.length+1=l.length)
  (r:∀(f:Addr) (i:Value) (A:Around) (g:List Env) (s:Shared) (H:Hp) (E:XK),bZ k (A.deeper (envOfC c (aB st) s.heap.objs.size f i))->Nk (Bx P w K mg base N c st f i A g s H E) C (af st) t)
  (u:∀a e Q,j e Q->t a { nx:=λ_=>Q,rt:=Q,fin:=Q } (bS N (.adr a::e)) []):pM P w K mg base (k+1) x C j dd:=by
 obtain⟨f,y,n,e,F,M,m,b,v,h⟩:=d.ex
 exact⟨⟨f,y,l,n,e,M,Sx F S o (r f) u,m,b,v,h⟩,p⟩
end
section
variable {X:Cx}{ok:Addr->Prop}{o e:Expr}{es:List Expr}{m x:Str}{sd:Addr->cI}{dd:List D}{ta:ED}{t:AD}{pos apos p:Pos}{j k:Nat}{C:Addr}{si:KJ}
def cj(c:∀C,ok C->bw X.prog X.w X.K X.mg X.base j C m (sd C) dd)(i:bZ k X.A)(a:j<=k)(l:PD X o ta)
  (g:autoParam (eval (.Call (.Attribute o m apos) [] [] pos) X.env=(do
   let ov <- eval o X.env
   Wj apos.atName
   let (f,first) <- holding [ov] (getMethod ov m b)
   W' pos f first (backTo pos (starEach [] X.env)) (backToKw pos (keywordEach [] X.env)))) dI) :
  PD X (.Call (.Attribute o m apos) [] [] pos) (m_ ok m sd dd ta vn):=Hs (λC h=>(c C h).mh i a) l g
def Sl{g:Sem Bool}(i:∀C,ok C->bw X.prog X.w X.K X.mg X.base j C m (sd C) dd)(n:bZ k X.A)(c:j<=k)(r:PD X o ta)(s:iZ X (e::es) t)
  (b:autoParam (starEach (e::es) X.env=(false,eval e X.env)::starEach es X.env) dI)(a:autoParam ((backTo pos (starEach es X.env)).any (·.1)=false) dI)
  (l:autoParam (eval (.Call (.Attribute o m apos) (e::es) [] pos) X.env=(do
   let ov <- eval o X.env
   Wj apos.atName
   let (f,first) <- holding [ov] (getMethod ov m g)
   W' pos f first (backTo pos (starEach (e::es) X.env)) (backToKw pos (keywordEach [] X.env)))) dI) :
  PD X (.Call (.Attribute o m apos) (e::es) [] pos) (m_ ok m sd dd ta t):=Lg (λC h=>(i C h).mh n c) r s b a l
def qp(c:pM X.prog X.w X.K X.mg X.base j x C si dd)(l:bZ k X.A)(i:j+1<=k)(u:Gl X x)(s:iZ X (e::es) t)(a:autoParam ((x == ("__debug__":Str))=false) e7)
  (n:autoParam (starEach (e::es) X.env=(false,eval e X.env)::starEach es X.env) dI)(r:autoParam ((backTo pos (starEach es X.env)).any (·.1)=false) dI):PD X (.Call (.Name x p) (e::es) [] pos) (K6 C si dd t):=by
 obtain⟨f,z,B,g,y,M,F,m,b,v,h⟩:=c.ex
 exact Ld M F c.ms (l.mono i) u m b v h s a n r
end
section
variable {X:Cx}{e:Expr}{te:ED}{p p2 pos pos':Pos}{f x:Str}{C:Addr}
def a_(K:l')(c:X.K=K)(b:PD X e te)(a:UZ e f X.env (eval e X.env)=eval e X.env):PD X (.Attribute e f pos) (Nf K te f):=by subst c;exact OC b a
def La(K:l')(h:X.K=K)(g:PD X e te)(i:Gl X "isinstance")(c:X.mg "isinstance"=none)(a:Gl X x)(b:X.mg x=some (.ref C))(j:autoParam ((x == ("__debug__":Str))=false) e7)
  (l:autoParam (starEach [e,.Name x p2] X.env=(false,eval e X.env)::starEach [.Name x p2] X.env) dI):PD X (.Call (.Name "isinstance" p) [e,.Name x p2] [] pos) (HD K (.ref C) te):=by subst h;exact LZ g i c a b j l
def bV(K:l')(h:X.K=K)(b:X.N[0]?=some x)(c:Cb X.env.scope x)(g:PD X e te)(j:autoParam (Ue e (some (.Attribute (.Name x p) f pos')) pos.line X.env=pure false) dI)(i:autoParam ((x == ("__debug__":Str))=false) e7)
  (a:autoParam ((x == ("__classdict__":Str))=false) e7):QO X C (.Assign [.Attribute (.Name x p) f pos'] e pos) (Oe K C f te):=by subst h;exact Of b c g j i a
end
section
variable {X:Cx}{o e:Expr}{es:List Expr}{to te:ED}{t:AD}{p p1 p2 tp pos apos cpos:Pos}
def Jq(z:D):cI:=λa Q=>∃x y,z=.str x/\a=[.str y]/\(y.length == 0)=false/\x.length+2<=sizeLine/\Q (.lst ((Uv x y).map D.str))
def lL{K:l'}:∀(a:List Str),bA K H (a.map V.str) (a.map D.str)
 |[]=>.nil
 |w::a=>.cons (.str w) (lL a)
def pJ{K:l'}{a:List V}{b:List Str}(h:bA K H a (b.map D.str)):a=b.map V.str:=by
 induction b generalizing a with
 |nil=>cases h;rfl
 |cons x b i=>cases h with
  |cons h r=>cases h;rw[i r];rfl
def isStr:D->Prop:=λd=>∃x,d=.str x
def Rx(a:D->cI)(b:ED)(t:AD):ED:=λδ Q=>b δ λz=>isStr z/\t δ λc=>a z c Q
def Hv(w:PD X o to)(B:iZ X (e::es) t)(j:autoParam (UZ o "split" X.env (eval o X.env)=eval o X.env) dI)
  (l:autoParam (((backTo cpos (starEach (e::es) X.env)).all (λx=>!x.1)&&(backToKw cpos (keywordEach [] X.env)).all (λx=>x.1.isSome)&&decide ((e::es).length+([]:List VN).length+(if([]:List VN).isEmpty then 0 else 1)<30))=true) dI)
  (f:autoParam ((apos.endLine == cpos.line)=true) dI)(I:autoParam (starEach (e::es) X.env=(false,eval e X.env)::starEach es X.env) dI)(c:autoParam ((backTo cpos (starEach es X.env)).any (·.1)=false) dI) :
  PD X (.Call (.Attribute o "split" apos) (e::es) [] cpos) (Rx Jq to t):=by
 refine⟨(sS PySem.F.plainAttrs_str WQ PySem.F.type_str_split Ff w.pe B.pa j l f I c).imp fun σ H Q ⟨δ,r,h⟩=>⟨δ,r,w.mono _ _ _ (λz ⟨⟨x,G⟩,q⟩ v O C dv=>?_) h⟩,
  λδ P R g h=>w.mono _ _ _ (fun z ⟨i,q⟩=>⟨i,B.mono _ _ _ (fun J ⟨x,y,A,u,m,n,k⟩=>⟨x,y,A,u,m,n,g _ k⟩) q⟩) h⟩
 subst G
 cases dv
 refine⟨rfl,δ,r.same C,B.mono _ _ _ (?_) q⟩;rintro J ⟨N,y,A,u,m,n,k⟩ M S E s
 cases A
 subst u
 cases s with
 |cons a b =>
  cases a
  cases b
  exact⟨_,y,rfl,rfl,m,n,λp L=>k _ _ ((C.trans E).trans (aL L)) (.lst (cW.of aF) (lL _))⟩
end
end DC
namespace L2
end L2
namespace DC
end DC
namespace L2
def wO(b:s.heap.IsTupleIter c t i)(p:s.heap.IsTuple t a)(r:a[i]?=some x)
  (n:∀j,j.IsTupleIter c t (i+1)->Vl c s.heap j->Q x { s with heap:=j }):wpAny (model l w) A (T8 (.ref c)) Q E s:=by
 obtain⟨o,f,m,e⟩:=id b
 obtain⟨v,g,_,u,h⟩:=p
 unfold T8
 refine wpAny_bind (wpAny_callSpecial?_slot (name:=VF "__next__") b.typeIs Up (wpAny_call_entry Up b.typeIs WJ ?_ (WC _)))
 show wpAny _ _ (field (.ref c) 0 >>= _) _ _ s
 refine wpAny_bind (wpAny_field f e (x:=.ref t) rfl ?_)
 show wpAny _ _ (if(Td t == T5)=true then _ else _) _ _ s
 rw[if_neg (show¬((Td t == T5)=true) from Fk)]
 show wpAny _ _ (field (.ref c) 1 >>= _) _ _ s
 refine wpAny_bind (wpAny_field f e (x:=.int i 0) rfl ?_)
 show wpAny _ _ (seqItems? (.ref t) >>= _) _ _ s
 refine wpAny_bind (wpAny_seqItems g h ?_)
 simp only[U2,r]
 refine wpAny_bind (wpAny_setField f e (by simp) (wpAny_pure ⟨x,rfl,wpAny_pure (n _ ?_ (VP ..))⟩))
 exact⟨_,UO _ f (Ut (Uk e _)),(VU ..).trans m,by rw[Uk e];simp[rawInt]⟩
def yj(r:A.handled=none)(c:s.heap.IsTupleIter f t i)(u:s.heap.IsTuple t b)(v:b[i]?=none)
  (y:∀n e,UU f s.heap n->(∃o,n.get? e=some o/\o.cls=.type "StopIteration")->E (.ref e) { s with heap:=n }):wpAny (model p w) A (T8 (.ref f)) Q E s:=by
 obtain⟨o,g,z,l⟩:=id c
 obtain⟨C,h,_,B,j⟩:=u
 unfold T8
 refine wpAny_bind (wpAny_callSpecial?_slot (name:=VF "__next__") c.typeIs Up (wpAny_call_entry Up c.typeIs WJ ?_ (WC _)))
 show wpAny _ _ (field (.ref f) 0 >>= _) _ _ s
 refine wpAny_bind (wpAny_field g l (x:=.ref t) rfl ?_)
 show wpAny _ _ (if(Td t == T5)=true then _ else _) _ _ s
 rw[if_neg (show¬((Td t == T5)=true) from Fk)]
 show wpAny _ _ (field (.ref f) 1 >>= _) _ _ s
 refine wpAny_bind (wpAny_field g l (x:=.int i 0) rfl ?_)
 show wpAny _ _ (seqItems? (.ref t) >>= _) _ _ s
 refine wpAny_bind (wpAny_seqItems h j ?_)
 simp only[U2,v]
 refine wpAny_bind (wpAny_rule (wpAny_bind (wpAny_setField g l (by simp) ?_)))
 show wpAny _ _ (newExc (.type "StopIteration") [] >>= _) _ _ _
 refine wpAny_bind ?_
 simp only[newExc,YF]
 refine wpAny_bind (wpAny_newObj_type ?_ (by size_fits))
 refine wpAny_bind (m:=U3 _ _) (wpAny_of_eq (a:=T5) (by first|rfl|(simp only[U3];rfl)) ?_)
 refine wpAny_newObj_type ?_ (by size_fits)
 simp only[raiseNew]
 refine wpAny_bind (wpAny_handled ?_)
 first|rw[show A.in1.handled=none from r]|rw[r]
 refine wpAny_bind (wpAny_pure (wpAny_throw ?_))
 exact y _ _ (((VP ..).extBut.push _).push _) ⟨_,TN _ rfl,rfl⟩
structure Sq (prog:TV) (w:World) (A:Around) (i l:Addr) (xs:Array Value) (S:Nat->Heap->Prop):Prop where
 item:∀(k:Nat) (s:Shared) (x:Value) (Q:Value->Shared->Prop) (E:Value->Shared->Prop),S k s.heap->xs[k]?=some x->(∀h',S (k+1) h'->Vl i s.heap h'->Q x { s with heap:=h' })->wpAny (model prog w) A (T8 (.ref i)) Q E s
 stop:∀(k:Nat) (s:Shared) (Q:Value->Shared->Prop) (E:Value->Shared->Prop),S k s.heap->xs[k]?=none->(∀h' e,UU i s.heap h'->(∃o,h'.get? e=some o/\o.cls=.type "StopIteration")->E (.ref e) { s with heap:=h' })->wpAny (model prog w) A (T8 (.ref i)) Q E s
 keep:∀(k:Nat) (h h':Heap),S k h->(∀o,h.get? i=some o->h'.get? i=some o)->(∀o,h.get? l=some o->h'.get? l=some o)->S k h'
 there:∀(k:Nat) (h:Heap),S k h->∃o,h.get? i=some o/\∀v,o.data≠.cell v
def Ju(C:A.handled=none)(i l:Addr)(n:l≠i)(u:Array Value):Sq p w A i l u (λk h=>h.IsListIter i l k/\h.IsList l u) where
 item:=fun k s x Q E ⟨g,f⟩ j y=>wpAny_nextOf_list_item g f j λt m r=>y t ⟨m,f.extBut r.extBut n⟩ r
 stop:=fun k s Q E ⟨g,f⟩ j B=>ZH C g f j B
 keep:=fun k h t ⟨g,f⟩ a b=>⟨g.at a,f.at b⟩
 there:=fun k h ⟨⟨o,e,c,d⟩,_⟩=>⟨o,e,λv z=>by rw[d] at z;cases z⟩
def NR(F:A.handled=none)(i l:Addr)(n:l≠i)(y:Array Value):Sq p w A i l y (λk h=>h.IsTupleIter i l k/\h.IsTuple l y) where
 item:=fun k s x Q E ⟨g,f⟩ j B=>wO g f j λu m t=>B u ⟨m,by obtain⟨o,e,r⟩:=f;exact⟨o,t.extBut _ _ n e,r⟩⟩ t
 stop:=fun k s Q E ⟨g,f⟩ j C=>yj F g f j C
 keep:=fun k h u ⟨g,f⟩ a b=>⟨g.at a,by obtain⟨o,e,r⟩:=f;exact⟨o,b _ e,r⟩⟩
 there:=fun k h ⟨⟨o,e,c,d⟩,_⟩=>⟨o,e,λv z=>by rw[d] at z;cases z⟩
section
variable {prog:TV}{w:World}{A:Around}{E:Value->Shared->Prop}{s:Shared}{z TI TO i1 i2 l1 l2:Addr}{k1 k2:Nat}{xs ys:Array Value}{x y a b:Value}{S1 S2:Nat->Heap->Prop}
def xI{Q:Value->Shared->Prop}(D:Xg z TI TO i1 i2 l1 l2)(N:Sq prog w A i1 l1 xs S1)(O:Sq prog w A i2 l2 ys S2)
  (u:IsZip s.heap z TI TO .none)(H:IsPair s.heap TI (.ref i1) (.ref i2))(L:IsPair s.heap TO a b)(h1:S1 k1 s.heap)(h2:S2 k2 s.heap)(hx:xs[k1]?=some x)(hy:ys[k2]?=some y)
  (hQ:∀f,IsZip f z TI TO (rawInt s.heap.objs.size)->IsPair f TO x y->S1 (k1+1) f->S2 (k2+1) f->IsPair f s.heap.objs.size x y->f.objs.size=s.heap.objs.size+1 ->
   (∀c o,c≠z->c≠TO->c≠i1->c≠i2->s.heap.get? c=some o->f.get? c=some o)->Q (.ref s.heap.objs.size) { s with heap:=f }) :
  wpAny (model prog w) A (Builtin.«zip.__next__» ⟨[.ref z],[]⟩) (λM s'=>∃v,M=.done (.ret v)/\Q v s') E s:=by
 show wpAny _ _ (field (.ref z) 2 >>= _) _ _ _
 refine wpAny_bind (wpAny_field u rfl (x:=.bool false) rfl ?_)
 show wpAny _ _ (field (.ref z) 3 >>= _) _ _ _
 refine wpAny_bind (wpAny_field u rfl (x:=.ref TI) rfl ?_)
 refine wpAny_bind (wpAny_seqItems H rfl ?_)
 show wpAny _ _ (Uu (.ref z) >>= _) _ _ _
 refine wpAny_bind ?_
 unfold Uu
 refine wpAny_bind (wpAny_field u rfl (x:=.none) rfl (wpAny_pure ?_))
 simp only[if_true]
 refine wpAny_bind (wpAny_rule (wpAny_bind (wpAny_field u rfl (x:=.ref TO) rfl (wpAny_bind (wpAny_setField_rec u (by simp) λg1 g i=>?_)))))
 replace g:IsZip g1 z TI TO .ellipsis:=g
 refine wpAny_bind ?_
 simp only[ZO,Zb,Zc,Zk]
 refine wpAny_bind (wpAny_bind (wpAny_onRaise ?_))
 show wpAny _ _ (T8 (.ref i1) >>= _) _ _ _
 have I:S1 k1 g1:=N.keep _ _ _ h1 (λo q=>i.extBut _ _ D.i1z q) (λo q=>i.extBut _ _ D.l1z q)
 refine wpAny_bind (N.item k1 _ x _ _ I hx λg2 R n=>wpAny_pure ?_)
 have U:IsPair g2 TO a b:=n.extBut _ _ D.TOi1 (i.extBut _ _ D.TOz L)
 refine wpAny_bind (wpAny_seqItems U rfl (wpAny_bind (wpAny_updateSeq_pair U λg3 G j=>?_)))
 replace G:IsPair g3 TO x b:=G
 refine wpAny_bind (wpAny_letGo (wpAny_pure ?_))
 refine wpAny_bind (wpAny_bind (wpAny_onRaise ?_))
 show wpAny _ _ (T8 (.ref i2) >>= _) _ _ _
 have T:S2 k2 g3:=O.keep _ _ _ h2 (λo q=>j.extBut _ _ D.TOi2.symm (n.extBut _ _ D.i12.symm (i.extBut _ _ D.i2z q))) (λo q=>j.extBut _ _ D.l2TO (n.extBut _ _ D.l2i1 (i.extBut _ _ D.l2z q)))
 refine wpAny_bind (O.item k2 _ y _ _ T hy λg4 S m=>wpAny_pure ?_)
 have p4:IsPair g4 TO x b:=m.extBut _ _ D.TOi2 G
 refine wpAny_bind (wpAny_seqItems p4 rfl (wpAny_bind (wpAny_updateSeq_pair p4 λe B h=>?_)))
 replace B:IsPair e TO x y:=B
 refine wpAny_bind (wpAny_letGo (wpAny_pure (wpAny_pure ?_)))
 refine wpAny_bind (wpAny_seqItems B rfl (wpAny_bind (wpAny_newTuple ?_)))
 have p:e.objs.size=s.heap.objs.size:=by rw[h.1,m.1,j.1,n.1,i.1]
 have W:IsZip e z TI TO .ellipsis:=h.extBut _ _ D.TOz.symm (m.extBut _ _ D.i2z.symm (j.extBut _ _ D.TOz.symm (n.extBut _ _ D.i1z.symm g)))
 have t:z<e.objs.size:=TU W
 show wpAny _ _ (WD (.ref z) (.ref e.objs.size) >>= _) _ _ _
 refine wpAny_bind ?_
 unfold WD
 have z6:IsZip (e.push { cls:=.type "tuple",data:=.seq #[x,y] }) z TI TO .ellipsis:=B' _ W
 refine wpAny_bind (wpAny_setField_rec z6 (by simp) λg7 J P=>?_)
 replace J:IsZip g7 z TI TO (rawInt e.objs.size):=J
 refine wpAny_setField_rec J (by simp) λl C F=>?_
 replace C:IsZip l z TI TO (rawInt e.objs.size):=C
 have up:∀c o,c≠z->e.get? c=some o->l.get? c=some o:=λc o r q=>F.extBut _ _ r (P.extBut _ _ r (B' _ q))
 have X:IsPair l e.objs.size x y:=F.extBut _ _ (Uj t) (P.extBut _ _ (Uj t) (TN _ rfl))
 have Z:l.objs.size=e.objs.size+1:=by rw[F.1,P.1,UQ]
 have f1:S1 (k1+1) l:=N.keep _ _ _ R (λo q=>up _ _ D.i1z (h.extBut _ _ D.TOi1.symm (m.extBut _ _ D.i12 (j.extBut _ _ D.TOi1.symm q)))) (λo q=>up _ _ D.l1z (h.extBut _ _ D.l1TO (m.extBut _ _ D.l1i2 (j.extBut _ _ D.l1TO q))))
 have f2:S2 (k2+1) l:=O.keep _ _ _ S (λo q=>up _ _ D.i2z (h.extBut _ _ D.TOi2.symm q)) (λo q=>up _ _ D.l2z (h.extBut _ _ D.l2TO q))
 rw[p] at C X Z
 refine wpAny_pure ⟨_,rfl,?_⟩
 show Q (.ref e.objs.size) _
 rw[p]
 exact hQ l C (up _ _ D.TOz B) f1 f2 X Z λc o r Y c3 c4 q=>up c o r (h.extBut _ _ Y (m.extBut _ _ c4 (j.extBut _ _ Y (n.extBut _ _ c3 (i.extBut _ _ r q)))))
def zY(D:Xg z TI TO i1 i2 l1 l2)(H:Sq prog w A i1 l1 xs S1)(R:Sq prog w A i2 l2 ys S2)
  (u:IsZip s.heap z TI TO .none)(B:IsPair s.heap TI (.ref i1) (.ref i2))(F:IsPair s.heap TO a b)(Z:S1 k1 s.heap)(h2:S2 k2 s.heap)(r:xs[k1]?=none\/ys[k2]?=none)
  (M:∀v e,(∀c o,c≠z->c≠TO->c≠i1->c≠i2->s.heap.get? c=some o->v.get? c=some o)->(∃o,v.get? e=some o/\o.cls=.type "StopIteration")->E (.ref e) { s with heap:=v }) :
  wpAny (model prog w) A (Builtin.«zip.__next__» ⟨[.ref z],[]⟩) Q E s:=by
 show wpAny _ _ (field (.ref z) 2 >>= _) _ _ _
 refine wpAny_bind (wpAny_field u rfl (x:=.bool false) rfl ?_)
 show wpAny _ _ (field (.ref z) 3 >>= _) _ _ _
 refine wpAny_bind (wpAny_field u rfl (x:=.ref TI) rfl ?_)
 refine wpAny_bind (wpAny_seqItems B rfl ?_)
 show wpAny _ _ (Uu (.ref z) >>= _) _ _ _
 refine wpAny_bind ?_
 unfold Uu
 refine wpAny_bind (wpAny_field u rfl (x:=.none) rfl (wpAny_pure ?_))
 simp only[if_true]
 refine wpAny_bind (wpAny_rule (wpAny_bind (wpAny_field u rfl (x:=.ref TO) rfl (wpAny_bind (wpAny_setField_rec u (by simp) λg1 i m=>?_)))))
 replace i:IsZip g1 z TI TO .ellipsis:=i
 refine wpAny_bind ?_
 simp only[ZO,Zb,Zc,Zk]
 refine wpAny_bind (wpAny_bind (wpAny_onRaise ?_))
 show wpAny _ _ (T8 (.ref i1) >>= _) _ _ _
 have t:S1 k1 g1:=H.keep _ _ _ Z (λo q=>m.extBut _ _ D.i1z q) (λo q=>m.extBut _ _ D.l1z q)
 cases hx:xs[k1]? with
 |none =>
  refine wpAny_bind (H.stop k1 _ _ _ t hx λg2 e j I=>?_)
  obtain⟨G,f,g⟩:=I
  have S:IsZip g2 z TI TO .ellipsis:=j _ _ D.i1z.symm i
  have l:e≠z:=λq=>by subst q;rw[S] at f;cases f;simp at g
  exact wpAny_setField_rec S (by simp) λg3 _ n=>M g3 e (λc o p _ C _ q=>n.extBut _ _ p (j _ _ C (m.extBut _ _ p q))) ⟨G,n.extBut _ _ l f,g⟩
 |some x =>
  have W:ys[k2]?=none:=by rcases r with h|h;rw[hx] at h;cases h;exact h
  refine wpAny_bind (H.item k1 _ x _ _ t hx λg2 s12 j=>wpAny_pure ?_)
  have L:IsPair g2 TO a b:=j.extBut _ _ D.TOi1 (m.extBut _ _ D.TOz F)
  refine wpAny_bind (wpAny_seqItems L rfl (wpAny_bind (wpAny_updateSeq_pair L λg3 p3 n=>?_)))
  refine wpAny_bind (wpAny_letGo (wpAny_pure ?_))
  refine wpAny_bind (wpAny_bind (wpAny_onRaise ?_))
  show wpAny _ _ (T8 (.ref i2) >>= _) _ _ _
  have J:S2 k2 g3:=R.keep _ _ _ h2 (λo q=>n.extBut _ _ D.TOi2.symm (j.extBut _ _ D.i12.symm (m.extBut _ _ D.i2z q))) (λo q=>n.extBut _ _ D.l2TO (j.extBut _ _ D.l2i1 (m.extBut _ _ D.l2z q)))
  refine wpAny_bind (R.stop k2 _ _ _ J W λT e O I=>?_)
  obtain⟨G,f,g⟩:=I
  have N:IsZip T z TI TO .ellipsis:=O _ _ D.i2z.symm (n.extBut _ _ D.TOz.symm (j.extBut _ _ D.i1z.symm i))
  have l:e≠z:=λq=>by subst q;rw[N] at f;cases f;simp at g
  exact wpAny_setField_rec N (by simp) λU _ P=>M U e (λc o p X C Y q=>P.extBut _ _ p (O _ _ Y (n.extBut _ _ X (j.extBut _ _ C (m.extBut _ _ p q))))) ⟨G,P.extBut _ _ l f,g⟩
end
section
variable {prog:TV}{w:World}{A:Around}{E:Value->Shared->Prop}{s:Shared}{z TI TO i1 i2 l1 l2:Addr}{k1 k2:Nat}{xs ys:Array Value}{x y a b:Value}{S1 S2:Nat->Heap->Prop}
def sY(D:Xg z TI TO i1 i2 l1 l2)(v:∀A:Around,A.handled=none->Sq prog w A i1 l1 xs S1)(C:∀A:Around,A.handled=none->Sq prog w A i2 l2 ys S2)(h:A.handled=none)
  (i:IsZip s.heap z TI TO .none)(f:IsPair s.heap TI (.ref i1) (.ref i2))(g:IsPair s.heap TO a b)(B:S1 k1 s.heap)(H:S2 k2 s.heap)(n:xs[k1]?=some x)(p:ys[k2]?=some y)
  (j:∀e,IsZip e z TI TO (rawInt s.heap.objs.size)->IsPair e TO x y->S1 (k1+1) e->S2 (k2+1) e->IsPair e s.heap.objs.size x y->e.objs.size=s.heap.objs.size+1 ->
   (∀c o,c≠z->c≠TO->c≠i1->c≠i2->s.heap.get? c=some o->e.get? c=some o)->Q (some (.ref s.heap.objs.size)) { s with heap:=e }) :
  wpAny (model prog w) A (pyNext (.ref z)) Q E s:=by
 have hT:s.TypeIs (.ref z) "zip":=⟨_,i,rfl⟩
 unfold pyNext
 exact wpAny_bind (wpAny_attempt (wpAny_callSpecial?_slot (name:=VF "__next__") hT Wy
  (wpAny_call_entry Wy hT Zs
   (xI D (v _ h) (C _ h) i f g B H n p λe t m r G u F l=>wpAny_pure (j e t m r G u F l)) (Zg _))))
def uI(D:Xg z TI TO i1 i2 l1 l2)(t:∀A:Around,A.handled=none->Sq prog w A i1 l1 xs S1)(u:∀A:Around,A.handled=none->Sq prog w A i2 l2 ys S2)(j:A.handled=none)
  (l:IsZip s.heap z TI TO .none)(g:IsPair s.heap TI (.ref i1) (.ref i2))(h:IsPair s.heap TO a b)(v:S1 k1 s.heap)(C:S2 k2 s.heap)(f:xs[k1]?=none\/ys[k2]?=none)
  (p:∀i,(∀c o,c≠z->c≠TO->c≠i1->c≠i2->s.heap.get? c=some o->i.get? c=some o)->Q none { s with heap:=i }):wpAny (model prog w) A (pyNext (.ref z)) Q E s:=by
 have hT:s.TypeIs (.ref z) "zip":=⟨_,l,rfl⟩
 unfold pyNext
 refine wpAny_bind (wpAny_attempt (wpAny_callSpecial?_slot (name:=VF "__next__") hT Wy
  (wpAny_call_entry Wy hT Zs (zY D (t _ j) (u _ j) l g h v C f λi e r B=>?_) (Zg _))))
 obtain⟨o,m,n⟩:=B
 refine wpAny_bind (wpAny_isInstance (T:="StopIteration") (b:=true) ⟨o,m,n⟩ WZ ?_)
 exact wpAny_pure (p _ r)
end
def zg(v:Value)(o:Obj)(P:Heap->Prop):Prop:=∀(prog:TV) (w:World) (A:Around) (s:Shared) (Q:Value->Shared->Prop) (E:Value->Shared->Prop),P s.heap->Q (.ref s.heap.objs.size) { s with heap:=s.heap.push o }->wpAny (model prog w) A (pyIter v) Q E s
abbrev Qe(h:Heap)(a:Obj):Heap:=h.push a
abbrev Qf(h:Heap)(a b:Obj):Heap:=(Qe h a).push b
abbrev Qg(h:Heap)(a b:Obj):Heap:=(Qf h a b).push { cls:=.type "tuple",data:=.seq #[.ref h.objs.size,.ref (Qe h a).objs.size] }
abbrev Qh(h:Heap)(a b:Obj):Heap:=(Qg h a b).push { cls:=.type "tuple",data:=.seq #[.none,.none] }
abbrev Nj(h:Heap)(a b:Obj):Heap:=(Qh h a b).push { cls:=.type "zip",data:=.fields #[.none,.bool false,.bool false,.ref (Qf h a b).objs.size,.ref (Qg h a b).objs.size] }
def DR(o j:Value)(b f:Obj)(v:zg o b i)(r:zg j f p) :
  Meets (Builtin.«zip.__new__» ⟨[.type "zip",o,j],[]⟩) (λ_ R s=>i s.heap/\p (s.heap.push b)/\R (.ok (.ret (.ref (Qh s.heap b f).objs.size))) { s with heap:=Nj s.heap b f }) :=
 .of_wp λa w A R s h=>by
  obtain⟨l,g,d,m,os⟩:=s;obtain⟨c,e,h⟩:=h
  have n:=sub_zip
  have t:=fun{A:Around} {Q:Value->Shared->Prop} {E:Value->Shared->Prop}=>v a w A ⟨l,g,d,m,os⟩ Q E c
  have u:=fun{A:Around} {Q:Value->Shared->Prop} {E:Value->Shared->Prop}=>r a w A ⟨l.push b,g,d,m,os⟩ Q E e
  wp_walk using t,u
  exact⟨_,rfl,h⟩
def zb(K:l')(isL:Bool)(H:Hp)(a:Addr)(xs:List V):Prop:=if isL=true then cW K H a xs else iN K H a xs
def bx(isL:Bool)(l:Addr):Obj:={ cls:=.type (if isL then "list_iterator" else "tuple_iterator"),data:=.fields #[.ref l,.int 0 0] }
def rL(isL:Bool)(i l:Addr)(k:Nat)(h:Heap):Prop:=if isL=true then h.IsListIter i l k else h.IsTupleIter i l k
def mW(isL:Bool)(l:Addr)(xs:Array Value)(h:Heap):Prop:=if isL=true then h.IsList l xs else h.IsTuple l xs
section
variable {X:Cx}{pins:List (Addr × Obj)}{σ:St}{H:Hp}{s:Shared}{a:Addr}{xs ys:List V}
def Inv.Jv(I:Inv X pins σ H s)(h:zb X.K isL H a xs):∃b:List Value,Vals xs b/\mW isL a b.toArray s.heap:=by
 cases isL with
 |true=>obtain⟨b,r,p,_⟩:=I.list h;exact⟨b,r,p.isList⟩
 |false=>obtain⟨b,r,p,_⟩:=I.tuple h;exact⟨b,r,p⟩
def Inv.CM(I:Inv X pins σ H s)(h:zb X.K isL H a xs)(b:zb X.K isL H a ys):xs=ys:=by
 cases isL with
 |true=>exact I.sH h b
 |false=>exact I.vT h b
def xB(f:A.handled=none)(i l:Addr)(b:l≠i)(e:Array Value):Sq c w A i l e (λk h=>rL isL i l k h/\mW isL l e h):=by
 cases isL with
 |true=>exact Ju f i l b e
 |false=>exact NR f i l b e
def rL.keep(q:rL isL i l k h)(e:∀o,h.get? i=some o->b.get? i=some o):rL isL i l k b:=by
 cases isL with
 |true=>exact Zr q e
 |false=>exact Zf q e
def rL.obj(q:rL isL i l k h):∃o,h.get? i=some o/\∀v,o.data≠.cell v:=by
 cases isL with
 |true=>obtain⟨o,e,c,d⟩:=(show h.IsListIter i l k from q);exact⟨o,e,λv z=>by rw[d] at z;cases z⟩
 |false=>obtain⟨o,e,c,d⟩:=(show h.IsTupleIter i l k from q);exact⟨o,e,λv z=>by rw[d] at z;cases z⟩
def Inv.CU{ch:List Addr}{T:Addr}(I:Inv X pins σ H s)(i:∀b o,b∉ch->s.heap.get? b=some o->h'.get? b=some o)(j:∀b∈ch,lF X pins H b)
  (hT:s.heap.objs.size<=T)(r:IsPair h' T u1 u2)(l:RelV x u1)(A:RelV y u2):Inv X pins σ (upd H T (.tup [x,y])) { s with heap:=h',toks:=t' }:=by
 have h:H T=none:=I.au.fresh hT
 have v:∀{b:Addr} {o:Obj},s.heap.get? b=some o->b≠T:=λe=>Tq (UB (TU e) hT)
 have g:∀{b:Addr} {o:HO},H b=some o->b∉ch:=λe f=>by rw[(j _ f).1] at e;cases e
 refine I.uW (ch:=ch) rfl ⟨λb o e n f hc=>i b o hc e,λb o e n f hc=>⟨o.slots,i b o hc e⟩,λb o e n hc=>by rw[aG (v e)];exact n,λb o e hc=>⟨o,i b o hc e⟩,
  λb t e=>by rw[aG (aQ e h)];exact e,λb o u e=>by rw[aG (aQ e h)];exact e,λb B e=>⟨#[],by rw[aG (aQ e h),e];simp⟩⟩ (λb o e=>?_) I.bare λb f=>?_
 ·by_cases f:b=T
  ·rw[f,aF] at e
   cases e
   rw[f]
   exact⟨(show 2<=sizeLine by decide),[u1,u2],.cons l (.cons A .nil),_,r,rfl,_,rfl⟩
  ·rw[aG f] at e
   refine(I.au b o e).qH (λc u hc q=>i c u ?_ q) (λc hc=>by rw[aG (aQ hc h)];exact hc) (λc t hc=>by rw[aG (aQ hc h)];exact hc)
   rcases hc with rfl|hc
   ·exact g e
   ·exact g hc
 ·obtain⟨_,w,C,m,p,z⟩:=j b f
  exact⟨m,w,p,z⟩
def Inv.CT{ch:List Addr}(I:Inv X pins σ H s)(h:∀b o,b∉ch->s.heap.get? b=some o->j.get? b=some o)(i:∀b∈ch,lF X pins H b):Inv X pins σ H { s with heap:=j,toks:=t' }:=by
 have g:∀{b:Addr} {o:HO},H b=some o->b∉ch:=λe f=>by rw[(i _ f).1] at e;cases e
 refine I.uW (ch:=ch) rfl ⟨λb o e n f hc=>h b o hc e,λb o e n f hc=>⟨o.slots,h b o hc e⟩,λb o e n hc=>n,λb o e hc=>⟨o,h b o hc e⟩,λb p e=>e,λb o u e=>e,λb w e=>⟨#[],by rw[e];simp⟩⟩ (λb o e=>?_) I.bare λb f=>?_
 ·refine(I.au b o e).qH (λc u hc q=>h c u ?_ q) (λc hc=>hc) (λc p hc=>hc)
  rcases hc with rfl|hc
  ·exact g e
  ·exact g hc
 ·obtain⟨_,r,v,l,m,t⟩:=i b f
  exact⟨l,r,m,t⟩
end
def Ql(K:l')(a b:Bool)(l1 l2:Addr):It where
 u:=false
 go:=λi H=>∃xs ys x y,zb K a H l1 xs/\zb K b H l2 ys/\xs[i]?=some x/\ys[i]?=some y
 BC:=λi H v c=>∃p x y,H p=none/\v=.ref p/\c=upd H p (.tup [x,y])/\(∀xs,zb K a H l1 xs->xs[i]?=some x)/\∀ys,zb K b H l2 ys->ys[i]?=some y
 stop:=λi H=>∃xs ys,zb K a H l1 xs/\zb K b H l2 ys/\(xs[i]?=none\/ys[i]?=none)
def G8{K:l'}{z TI TO r u l1 l2:Addr}(D:Xg z TI TO r u l1 l2) :
  Turn P w K (.Tuple R c tp) (Ql K Y W l1 l2) [z,TI,TO,r,u] z (λi h=>IsZip h z TI TO .none/\IsPair h TI (.ref r) (.ref u)/\(∃a b,IsPair h TO a b)/\rL Y r l1 i h/\rL W u l2 i h) where
 mem:=by simp
 obj:=λi h ⟨C,f,⟨a,b,g⟩,t,B⟩ q hq=>by
  simp only[Gc,Tt,or_false] at hq
  rcases hq with rfl|rfl|rfl|rfl|rfl
  ·exact⟨_,C,λv e=>by cases e⟩
  ·exact⟨_,f,λv e=>by cases e⟩
  ·exact⟨_,g,λv e=>by cases e⟩
  ·exact t.obj
  ·exact B.obj
 keep:=λi h U ⟨C,f,⟨a,b,g⟩,t,B⟩ k=>⟨k _ (by simp) _ C,k _ (by simp) _ f,⟨a,b,k _ (by simp) _ g⟩,t.keep (k _ (by simp)),B.keep (k _ (by simp))⟩
 item:=by
  intro X hP hw hK i N s σ H E L I Z st hg
  have hc:X.calm=true:=L.resolve_right λz=>absurd (show false=true from z.1) (by decide)
  subst hP hw hK
  obtain⟨C,f,⟨a,b,g⟩,t,B⟩:=st
  obtain⟨xs,ys,x,y,p,n,hx,hy⟩:=hg
  obtain⟨l,M,p1⟩:=I.Jv p
  obtain⟨m,F,p2⟩:=I.Jv n
  obtain⟨u1,hu1,ru1⟩:=M.get hx
  obtain⟨u2,hu2,ru2⟩:=F.get hy
  refine sY D (λA G=>xB (isL:=Y) G r l1 D.l1i1 l.toArray) (λA G=>xB (isL:=W) G u l2 D.l2i2 m.toArray) (I.ok.hd hc) C f g ⟨t,p1⟩ ⟨B,p2⟩ (x:=u1) (y:=u2) (by simpa using hu1) (by simpa using hu2) λU a1 a2 a3 a4 a5 a6 a7=>?_
  refine⟨_,rfl,wpAny_letOwnedTupleGo_zip a1 λS z2 sb=>?_⟩
  have Q:z<s.heap.objs.size:=TU C
  have up:∀c o,c≠z->U.get? c=some o->S.get? c=some o:=λc o c1 q=>sb.extBut _ _ c1 q
  have I':=I.CU (h':=S) (t':=s.toks) (ch:=[z,TI,TO,r,u]) (T:=s.heap.objs.size) (u1:=u1) (u2:=u2) (x:=x) (y:=y)
   (λb o j e=>by
    simp only[Gc,Tt,or_false,not_or] at j
    exact up b o j.1 (a7 b o j.1 j.2.2.1 j.2.2.2.1 j.2.2.2.2 e)) Z (S' _) (up _ _ (Uj Q) a5) ru1 ru2
  refine⟨.ref s.heap.objs.size,_,I',rfl,⟨_,x,y,I.fresh,rfl,rfl,λzs J=>by rw[I.CM J p];exact hx,λzs J=>by rw[I.CM J n];exact hy⟩,
   ⟨z2,up _ _ D.TIz (a7 _ _ D.TIz D.TITO D.TIi1 D.TIi2 f),⟨_,_,up _ _ D.TOz a2⟩,a3.1.keep λo e=>up _ _ D.i1z e,a4.1.keep λo e=>up _ _ D.i2z e⟩,λb j=>?_⟩
  have hfb:=(Z b j).1
  rw[aG]
  ·exact hfb
  ·intro e
   have lt:b<s.heap.objs.size:=by
    simp only[Gc,Tt,or_false] at j
    rcases j with rfl|rfl|rfl|rfl|rfl
    ·exact Q
    ·exact TU f
    ·exact TU g
    ·obtain⟨o,e,_⟩:=t.obj;exact TU e
    ·obtain⟨o,e,_⟩:=B.obj;exact TU e
   rw[e] at lt
   exact Uw _ lt
 done:=by
  intro X hP hw hK i N s σ H E L I Z st hg
  have hc:X.calm=true:=L.resolve_right λz=>absurd (show false=true from z.1) (by decide)
  subst hP hw hK
  obtain⟨C,f,⟨a,b,g⟩,t,B⟩:=st
  obtain⟨xs,ys,p,n,O⟩:=hg
  obtain⟨l,M,p1⟩:=I.Jv p
  obtain⟨m,F,p2⟩:=I.Jv n
  have e1:=M.length
  have e2:=F.length
  refine uI D (λA G=>xB (isL:=Y) G r l1 D.l1i1 l.toArray) (λA G=>xB (isL:=W) G u l2 D.l2i2 m.toArray) (I.ok.hd hc) C f g ⟨t,p1⟩ ⟨B,p2⟩ ?_ λU hk=>⟨rfl,I.CT (t':=s.toks) (ch:=[z,TI,TO,r,u]) (λb o j e=>?_) Z⟩
  ·rcases O with q|q
   ·left;simp only[Vw];rw[Ur] at q ⊢;omega
   ·right;simp only[Vw];rw[Ur] at q ⊢;omega
  ·simp only[Gc,Tt,or_false,not_or] at j
   exact hk b o j.1 j.2.2.1 j.2.2.2.1 j.2.2.2.2 e
 self:=λ_ _ _ _ _ st h=>Z7 st.1 h
def boot_zip:UR "zip"=some (.type "zip"):=by decide +kernel
def FI :zg (.ref l) (bx isL l) (mW isL l xs):=by
 intro a w A s Q E h q
 cases isL with
 |true=>exact wpAny_pyIter_list (show s.heap.IsList l xs from h) q
 |false=>exact XW (show s.heap.IsTuple l xs from h) q
def mW.push(q:mW isL l a h)(o:Obj):mW isL l a (h.push o):=by
 cases isL with
 |true=>exact aAm q o
 |false=>obtain⟨b,e,r⟩:=(show h.IsTuple l a from q);exact⟨b,B' _ e,r⟩
def mW.lt(q:mW isL l a h):l<h.objs.size:=by
 cases isL with
 |true=>obtain⟨b,e,r⟩:=(show h.IsList l a from q);exact TU e
 |false=>obtain⟨b,e,r⟩:=(show h.IsTuple l a from q);exact TU e
def Kd(e:h.get? i=some (bx isL l)):rL isL i l 0 h:=by
 cases isL with
 |true=>exact⟨_,e,rfl,rfl⟩
 |false=>exact⟨_,e,rfl,rfl⟩
def Cm{s:Shared}(r:mW a l1 xs s.heap)(u:mW b l2 p s.heap)
  (h:∀e,IsZip e (s.heap.objs.size+4) (s.heap.objs.size+2) (s.heap.objs.size+3) .none->IsPair e (s.heap.objs.size+2) (.ref s.heap.objs.size) (.ref (s.heap.objs.size+1)) ->
   IsPair e (s.heap.objs.size+3) .none .none->rL a s.heap.objs.size l1 0 e->rL b (s.heap.objs.size+1) l2 0 e->e.objs.size=s.heap.objs.size+5 ->
   (∀c o,s.heap.get? c=some o->e.get? c=some o)->Q (.ref (s.heap.objs.size+4)) { s with heap:=e }):wpAny (model f w) A (call (.type "zip") [.ref l1,.ref l2]) Q E s:=by
 refine callType_new F.called_zip (by decide) (F.typeCall_zip_2 _ _) (F.newCall_zip_2 _ _) (λobj=>F.args_object_init_3 obj _ _) F.entry_zip_new (DR (.ref l1) (.ref l2) (bx a l1) (bx b l2) (FI (xs:=xs)) (FI (xs:=p))) ⟨r,u.push _,?_⟩
 have m:(Qe s.heap (bx a l1)).objs.size=s.heap.objs.size+1:=UQ ..
 have l:(Qf s.heap (bx a l1) (bx b l2)).objs.size=s.heap.objs.size+2:=by rw[UQ,m]
 have g:(Qg s.heap (bx a l1) (bx b l2)).objs.size=s.heap.objs.size+3:=by rw[UQ,l]
 have i:(Qh s.heap (bx a l1) (bx b l2)).objs.size=s.heap.objs.size+4:=by rw[UQ,g]
 have v:(Nj s.heap (bx a l1) (bx b l2)).objs.size=s.heap.objs.size+5:=by rw[UQ,i]
 have x:(bx a l1).isFreed=false:=by cases a<;>rfl
 have t:(bx b l2).isFreed=false:=by cases b<;>rfl
 have j:(Nj s.heap (bx a l1) (bx b l2)).get? (Qh s.heap (bx a l1) (bx b l2)).objs.size=some _:=TN _ rfl
 have n:(Nj s.heap (bx a l1) (bx b l2)).get? (Qg s.heap (bx a l1) (bx b l2)).objs.size=some _:=B' _ (TN _ rfl)
 have g3:(Nj s.heap (bx a l1) (bx b l2)).get? (Qf s.heap (bx a l1) (bx b l2)).objs.size=some _:=B' _ (B' _ (TN _ rfl))
 have g2:(Nj s.heap (bx a l1) (bx b l2)).get? (Qe s.heap (bx a l1)).objs.size=some (bx b l2):=B' _ (B' _ (B' _ (TN _ t)))
 have g1:(Nj s.heap (bx a l1) (bx b l2)).get? s.heap.objs.size=some (bx a l1):=B' _ (B' _ (B' _ (B' _ (TN _ x))))
 show _/\_
 rw[l,g,i] at j
 rw[m,l] at g3
 rw[g] at n
 rw[m] at g2
 rw[i]
 exact⟨⟨_,j,rfl⟩,h _ j g3 n (Kd g1) (Kd g2) v λc o q=>B' _ (B' _ (B' _ (B' _ (B' _ q))))⟩
def D4{n l1 l2:Nat}(a:l1<n)(b:l2<n):Xg (n+4) (n+2) (n+3) n (n+1) l1 l2:=by
 constructor<;>(show¬(_:Nat)=_)<;>omega
def Q5(K:l')(f:TA):TI:=λσ H R=>f σ H λe a=>∃b c l1 l2 h g,e=[.ref l1,.ref l2]/\zb K b a l1 h/\zb K c a l2 g/\R (Ql K b c l1 l2) a
def M5{p m tp:Pos}{z:List Expr}{c:Nat}(E:Gl X "zip")(T:X.mg "zip"=none)(ha:PA X [r,l] P)(M:autoParam (starEach [r,l] X.env=[(false,eval r X.env),(false,eval l X.env)]) dI)(j:autoParam (starEach [l] X.env=[(false,eval l X.env)]) dI) :
  PI X (.Tuple z c tp) (.Call (.Name "zip" p) [r,l] [] m) (Q5 X.K P):=by
 intro a s σ H R I h
 refine Call_ (nK I E T boot_zip (VJ (bg (ha m a s σ H _ I h) fun us f ⟨vs,x,i,C,U⟩=>?_) (by rw[M,j]) (by rw[j];rfl)))
 obtain⟨b1,b2,l1,l2,xs,ys,e,o,n,q⟩:=U
 subst e
 obtain⟨u,G,rfl,Z,W⟩:=vals2 C
 cases(show u=Td l1 from Z)
 cases(show G=Td l2 from W)
 obtain⟨w,rv1,B⟩:=i.Jv o
 obtain⟨y,F,t⟩:=i.Jv n
 refine Cm B t λL v O Q Y S a6 J=>Z7 v ?_
 have N:Inv X a σ x { f with heap:=L }:=i.kept (t':=f.toks) J
 refine⟨_,[f.heap.objs.size+4,f.heap.objs.size+2,f.heap.objs.size+3,f.heap.objs.size,f.heap.objs.size+1],_,_,x,rfl,N,G8 (D4 B.lt t.lt),⟨v,O,⟨_,_,Q⟩,Y,S⟩,λb A=>?_,q⟩
 have g:f.heap.objs.size<=b:=by
  simp only[Gc,Tt,or_false] at A
  rcases A with rfl|rfl|rfl|rfl|rfl
  ·exact Ve _ _
  ·exact Ve _ _
  ·exact Ve _ _
  ·exact S' _
  ·exact Ve _ _
 exact i.E8 g (i.au.fresh g)
end L2
namespace DC
def NM:D->Option (Bool × List D)
 |.lst a=>some (true,a)
 |.tup a=>some (false,a)
 |_=>none
def Qp(f:AD):AD:=λδ Q=>f δ λc=>∃d e g h b a,c=[d,e]/\NM d=some (g,b)/\NM e=some (h,a)/\Q (Vm (λx y=>.tup [x,y]) b a)
def Dv.Jv{K:l'}(h:Dv K H v d)(e:NM d=some (b,ds)):∃l f,v=.ref l/\zb K b H l f/\bA K H f ds:=by
 cases h with
 |lst a c=>cases e;exact⟨_,_,rfl,a,c⟩
 |tup a c=>cases e;exact⟨_,_,rfl,a,c⟩
 |_=>cases e
def jH{K:l'}(s:aH H a)(h:zb K b H l xs):zb K b a l xs:=by
 cases b with
 |true=>exact s.seq h
 |false=>exact mZ s h
def L7{K:l'}(r:zb K B H l1 j)(t:zb K w H l2 h)(n:bA K H j f)(s:bA K H h e) :
  D6 K (Ql K B w l1 l2) H (Vm (λx y=>.tup [x,y]) f e):=by
 have A:(Vm (λx y=>D.tup [x,y]) f e).length=min f.length e.length:=WA
 refine⟨λi E b C=>?_,λE b=>⟨j,h,jH b r,jH b t,?_⟩,λi E x F b C y=>?_⟩
 ·rw[A] at C
  obtain⟨m,g1,_⟩:=n.get (F' (show i<f.length by omega))
  obtain⟨p,g2,_⟩:=s.get (F' (show i<e.length by omega))
  exact⟨j,h,m,p,jH b r,jH b t,g1,g2⟩
 ·rw[A,Ur,Ur,n.length,s.length]
  omega
 ·obtain⟨q,u,v,l,rfl,rfl,J,L⟩:=y
  obtain⟨I,g1,m⟩:=n.x_ (J _ (jH b r))
  obtain⟨G,g2,p⟩:=s.x_ (L _ (jH b t))
  have c:H q=none:=b.free l
  refine⟨aL l,.tup [I,G],by rw[Wt,g1,g2],upd H q (.tup [u,v]),aL c,.tup (iN.of aF) (.cons (m.same (aL c)) (.cons (p.same (aL c)) .nil)),λa o z=>?_,λa o z=>?_⟩
  ·by_cases g:a=q
   ·rw[g];exact .inr l
   ·rw[aG g] at z;exact .inl z
  ·by_cases g:a=q
   ·rw[g] at z ⊢;rw[aF] at z ⊢;exact z
   ·rw[aG g] at z ⊢;exact b _ _ z
def Og{p C Q:Pos}{x:List Expr}{c:Nat}(M:Gl X "zip")(G:X.mg "zip"=none)(u:iZ X [t,f] B)(A:autoParam (starEach [t,f] X.env=[(false,eval t X.env),(false,eval f X.env)]) dI)(m:autoParam (starEach [f] X.env=[(false,eval f X.env)]) dI) :
  PId X (.Tuple x c Q) (.Call (.Name "zip" p) [t,f] [] C) (Qp B):=by
 refine⟨PI.imp (M5 M G u.pa A m) fun σ H R ⟨δ,r,h⟩=>⟨δ,r,u.mono _ _ _ (?_) h⟩,λδ P O g h=>u.mono _ _ _ (fun L ⟨d,e,o,j,w,v,l,n,i,q⟩=>⟨d,e,o,j,w,v,l,n,i,g _ q⟩) h⟩;rintro L ⟨d,e,o,j,w,v,l,n,i,q⟩ N E I s
 subst l
 cases s with
 |cons a r =>
  cases r with
  |cons b r =>
   cases r
   obtain⟨l1,J,rfl,g1,z⟩:=a.Jv n
   obtain⟨l2,y,rfl,g2,F⟩:=b.Jv i
   exact⟨o,j,l1,l2,J,y,rfl,g1,g2,q _ E I (L7 g1 g2 z F)⟩
def oq{K:l'}(r:bG K H σ δ)(dv:Dv K H x d):bG K H (some x::σ) (some d::δ):=by
 refine⟨by rw[Tg,Tg,r.len],λi e h=>?_⟩
 cases i with
 |zero=>simp at h;subst h;exact⟨x,rfl,dv⟩
 |succ i=>simpa using r.get i e (by simpa using h)
def EU{K:l'}(r:bG K H σ δ)(a:List Nat):bG K H (a.map λj=>(σ[j]?).getD none) (nu a δ):=by
 have q:=qr r (Dv.ae) a
 refine⟨by simpa using q.len,λi d h=>?_⟩
 simpa using q.get (i+1) d (by simpa using h)
def fG.join{K:l'}(g:fG K H μ L)(A:fG K r M x)(z:∀b∈L,r b=none)(s:aH (aa H L) (aa r x)):fG K (ao r H L) (M++μ) (x++L)/\aa (ao r H L) (x++L)=aa r x:=by
 have j:∀{b:Addr} {o:HO},r b=some o->b∉L:=λe hb=>by rw[z _ hb] at e;cases e
 have e:aa (ao r H L) (x++L)=aa r x:=by
  funext b
  by_cases i:b∈x
  ·rw[dH (To _ i),dH i]
  ·by_cases f:b∈L
   ·rw[dH (Tf _ f),bf i,z b f]
   ·rw[bf (λq=>(T4.mp q).elim i f),bf i,aS f]
 refine⟨⟨λp y=>?_,?_,λb hb=>?_,λb hb=>?_⟩,e⟩
 ·rcases T4.mp y with y|y
  ·obtain⟨i,f⟩:=A.at_ p y
   refine⟨To _ i,?_⟩
   obtain⟨b,m⟩:=p
   cases m with
   |lst O=>obtain⟨l,h,d⟩:=f;exact⟨l,by rw[aS (j h)];exact h,by rw[e];exact d⟩
   |ins C N=>obtain⟨u,fs,h,f,E,d⟩:=f;exact⟨u,fs,by rw[aS (j h)];exact h,by rw[aS (j f)];exact f,To _ E,by rw[e];exact d⟩
   |dK t=>obtain⟨l,h,d⟩:=f;exact⟨l,by rw[aS (j h)];exact h,by rw[e];exact d⟩
   |dT t=>obtain⟨l,h,d⟩:=f;exact⟨l,by rw[aS (j h)];exact h,by rw[e];exact d⟩
  ·obtain⟨i,f⟩:=g.at_ p y
   refine⟨Tf _ i,?_⟩
   obtain⟨b,m⟩:=p
   cases m with
   |lst O=>obtain⟨l,h,d⟩:=f;exact⟨l,by rw[aV i];exact h,by rw[e];exact bA.same s d⟩
   |ins C N=>obtain⟨u,fs,h,f,E,d⟩:=f;exact⟨u,fs,by rw[aV i];exact h,by rw[aV E];exact f,Tf _ E,by rw[e];exact gC.same s d⟩
   |dK t=>obtain⟨l,h,d⟩:=f;exact⟨l,by rw[aV i];exact h,by rw[e];exact fg.same s d⟩
   |dT t=>obtain⟨l,h,d⟩:=f;exact⟨l,by rw[aV i];exact h,by rw[e];exact va.same s d⟩
 ·rw[Tv,VD]
  refine⟨A.Ki,g.Ki,λa P b hb F=>?_⟩
  obtain⟨p,y,rfl⟩:=Tj.mp P
  obtain⟨q,J,rfl⟩:=Tj.mp hb
  obtain⟨o,I⟩:=(A.eZ _ (A.at_ p y).1).there
  rw[show p.1=q.1 from F,z _ (g.at_ q J).1] at I
  cases I
 ·rcases T4.mp hb with hb|hb
  ·have w:=A.eZ b hb
   cases w with
   |lst v h=>exact .lst v (by rw[aS (j h)];exact h)
   |dK v h=>exact .dK v (by rw[aS (j h)];exact h)
   |ext φ h n=>exact .ext φ (by rw[aS (j h)];exact h) n
   |ins C u fs h G=>exact .ins C u fs (by rw[aS (j h)];exact h) (To _ G)
   |own C c fs h n B=>exact .own C c fs (by rw[aS (j h)];exact h) (To _ n) (by rw[aS (j B)];exact B)
  ·have w:=g.eZ b hb
   cases w with
   |lst v h=>exact .lst v (by rw[aV hb];exact h)
   |dK v h=>exact .dK v (by rw[aV hb];exact h)
   |ext φ h n=>exact .ext φ (by rw[aV hb];exact h) n
   |ins C u fs h G=>exact .ins C u fs (by rw[aV hb];exact h) (Tf _ G)
   |own C c fs h n B=>exact .own C c fs (by rw[aV hb];exact h) (Tf _ n) (by rw[aV n];exact B)
 ·rcases T4.mp hb with hb|hb
  ·rcases A.LQ b hb with⟨m,h⟩|⟨c,h⟩
   ·exact .inl ⟨m,To _ h⟩
   ·exact .inr ⟨c,by rw[aS (j h)];exact h⟩
  ·rcases g.LQ b hb with⟨m,h⟩|⟨c,h⟩
   ·exact .inl ⟨m,Tf _ h⟩
   ·exact .inr ⟨c,by rw[aV hb];exact h⟩
abbrev EF:=SD->(D->Mu->Prop)->Prop
def kF(K:l')(H:Hp)(Q:VK):D->Mu->Prop:=λd μ=>∀v a b,aH H (aa a b)->fG K a μ b->Dv K (aa a b) v d->Q v a
def kF.on{K:l'}(s:aH H a)(h:kF K H Q d μ):kF K a Q d μ:=λv c b e g dv=>h v c b (s.trans e) g dv
structure PF (X:Cx) (e:Expr) (t:EF):Prop where
 pe:PE X e (λσ H Q=>∃ δ,bG X.K H σ δ/\t δ (kF X.K H Q))
 mono:∀ δ (P P':D->Mu->Prop),(∀d μ,P d μ->P' d μ)->t δ P->t δ P'
abbrev vj:=List D->(D->Mu->Prop)->Prop
abbrev jP(a:vj):Prop:=∀ds (P b:D->Mu->Prop),(∀d μ,P d μ->b d μ)->a ds P->a ds b
def Qb(K:l')(a:vj):Sp:=λvs H Q _=>∃ds,bA K H vs ds/\a ds (kF K H Q)
def SU{K:l'}{st:Stmt}(F:xO K x b st f y)(S:aD N m (aB st))(o:∀ds Q,n ds Q->ds.length=m.length)
  (G:∀(c:Value) (A:Around) (a:List Env) (s:Shared) (H:Hp) (E:XK),bZ k (A.deeper (envOfC b (aB st) s.heap.objs.size f c))->tw (Bx P w K C j N b st f c A a s H E) (af st) t)
  (I:∀ds Q,n ds Q->t { nx:=λ_ μ=>Q .ae μ,rt:=Q } (bS N ds) []):cE P w K C j nY (k+1) f y m (Qb K n):=by
 refine F.ok S (fun z H Q E ⟨ds,e,h⟩=>by rw[e.length];exact o ds _ h) (?_);rintro c A a s H z Q E i ⟨ds,e,h⟩
 have B:=G c A a s H E i
 refine⟨_,B.ps,bS N ds,[],[],by rw[bO];exact dk e,fG.nil,?_⟩
 refine B.mono { nx:=λ_ μ=>kF K H Q .ae μ,rt:=kF K H Q } _ _ _ ⟨λδ μ q σ p u l r g=>?_,λd μ q v p u l g dv=>?_,λ_ _ q=>q.elim,λ_ _ q=>q.elim⟩ (I ds _ h)
 ·rw[bO] at l
  exact q _ p u l g .ae
 ·rw[bO] at l
  exact q v p u l g dv
def Gs{K:l'}(i:jP e)(h:∀a Q,f a Q->e a λd μ=>Q (aY μ d)):∀c H Q E,xA K f c H Q E->Qb K e c H Q E:=fun c H Q E ⟨a,b,q⟩ =>
 ⟨a,b,i _ _ _ (λd μ k v j l s g dv=>k v j (s.trans bJ) (g.view dv)) (h a _ q)⟩
structure vX (P:TV) (w:World) (K:l') (mg:Str->Option Value) (base:Heap) (k:Nat) (x:Str) (ps:List Str) (sd:vj):Prop where
 ex:∃f fd,cE P w K mg base nY k f fd ps (Qb K sd)/\mg x=some (.ref f)/\keepIn K (.ref f)=true/\Binds K fd ps []
 ms:jP sd
structure lG (P:TV) (w:World) (K:l') (mg:Str->Option Value) (base:Heap) (j:Nat) (C:Addr) (m:Str) (sd:vj):Prop where
 ex:∃f fd ps,tY K C/\Meth K C m f/\cE P w K mg base nY j f fd ps (Qb K sd)/\Binds K fd ps []
 ms:jP sd
section
variable {X:Cx}{o e:Expr}{es:List Expr}{ta:ED}{t:AD}{tf:EF}{j k:Nat}{x m:Str}{ps:List Str}{sd:vj}{sm:Addr->vj}{ok:Addr->Prop}{p pos pos' apos:Pos}{i:Nat}
def OR(a:vj)(t:AD):EF:=λδ Q=>t δ λb=>a b Q
def E5(c:vX X.prog X.w X.K X.mg X.base j x ps sd)(y:bZ k X.A)(u:j<=k)(E:Gl X x)(n:iZ X (e::es) t)(l:autoParam ((x == ("__debug__":Str))=false) e7)
  (z:autoParam (starEach (e::es) X.env=(false,eval e X.env)::starEach es X.env) dI)(C:autoParam ((backTo pos (starEach es X.env)).any (·.1)=false) dI):PF X (.Call (.Name x p) (e::es) [] pos) (OR sd t):=by
 obtain⟨f,L,F,m,B,b⟩:=c.ex
 refine⟨(wY F (y.mono u) E m B b .nil sR n.pa l z C).imp fun σ H Q ⟨δ,r,h⟩=>⟨δ,r,n.mono _ _ _ (λs q G I v a=>⟨s,by rw[UD];exact a,c.ms _ _ _ (λd μ k=>k.on v) q⟩) h⟩,λδ P J g h=>n.mono _ _ _ (λs q=>c.ms _ _ _ g q) h⟩
def KZ(ok:Addr->Prop)(m:Str)(c:Addr->vj)(b:ED):EF:=λδ Q=>b δ λd=>∃C a,d=.obj C a/\a.lookup m=none/\ok C/\c C [d] Q
def Lv(G:∀C,ok C->lG X.prog X.w X.K X.mg X.base j C m (sm C))(U:bZ k X.A)(S:j<=k)(J:PD X o ta)
  (Z:autoParam (eval (.Call (.Attribute o m apos) [] [] pos) X.env=(do
   let ov <- eval o X.env
   Wj apos.atName
   let (f,first) <- holding [ov] (getMethod ov m pl)
   W' pos f first (backTo pos (starEach [] X.env)) (backToKw pos (keywordEach [] X.env)))) dI) :
  PF X (.Call (.Attribute o m apos) [] [] pos) (KZ ok m sm ta):=by
 refine⟨ ?_,λδ P P' g h=>J.mono _ _ _ (fun d ⟨C,n,e,l,M,q⟩=>⟨C,n,e,l,M,(G C M).ms _ _ _ g q⟩) h⟩;rintro y s σ H Q I ⟨δ,r,h⟩
 refine Wg (pl:=pl) (bg (J.pe y s σ H _ I ⟨δ,r,J.mono _ _ _ (λd k v B R dv=>(show ∃C n L fs a,v=.ref a/\Rd B a (.ins C L fs)/\gC X.K B fs n/\n.lookup m=none/\ok C/\sm C [.obj C n] (kF X.K B Q) from ?_)) h⟩) fun u R ⟨v,B,E,rx,C,n,L,fs,a,W,O,N,l,M,q⟩=>?_) Z
 ·obtain⟨C,n,T,l,M,q⟩:=k
  subst T
  cases dv with
  |obj Y h2=>exact⟨_,_,_,_,_,rfl,Y,h2,l,M,(G _ M).ms _ _ _ (λd μ z=>z.on R) q⟩
 ·subst W
  obtain rfl:u=Td a:=rx
  obtain⟨f,fd,ps,c,mt,F,b⟩:=(G C M).ex
  refine lN E O c mt (N.none l) ?_
  exact X9 (first:=[.ref a]) E.lQ mt.kp (wk (us:=[.ref a]) (vs:=[.ref a]) F (U.mono S) b .nil sR E (.cons rfl .nil) ⟨[.obj C n],.cons (.obj O N) .nil,q⟩)
def Ot(a:EF):fS:=λE δ μ=>a δ λd b=>E.rt d (b++μ)
def oX(a:PF X e tf):xS X (.Return (some e) pos) (Ot tf):=by
 refine⟨PS.imp (Aq (iT a.pe)) fun D σ H ⟨δ,μ,L,r,g,h⟩=>⟨L,g.eZ,δ,r,a.mono _ _ _ (λd n k v u s c f dv z=>?_) h⟩,λE w δ μ l h=>a.mono _ _ _ (λd n q=>l.rt _ _ q) h⟩
 obtain⟨g2,b⟩:=g.join f z c
 exact k v _ (s++L) (by rw[b];exact c) g2 (by rw[b];exact dv)
end
inductive pL:List (Str × V)->List Vr->Prop
 |nil:pL [] []
 |cons {x:Str} {t:Tok} {v:V} {e:Vr} {kvs:List (Str × V)} {es:List Vr}:e.key=.str x t->RelV v e.val->pL kvs es->pL ((x,v)::kvs) (e::es)
structure KTab (w:World) (K:l') (a:Addr) (kvs:List (Str × V)):Prop where
 ex:∃(es:Array Vr) (n:Nat),K.lookup a=some ⟨.type "dict",none,.dict es n,#[]⟩/\Yz w.params es.toList/\pL kvs es.toList
 sys:(a == U_)=false
def pL.has :∀{a:List (Str × V)} {b:List Vr},pL a b->((b.find? λd=>VE x d.key).map (·.val)).isSome=a.any λp=>p.1 == x
 |_,_,.nil=>rfl
 |_,_,.cons (x:=y) (e:=e) f g r=>by
  have c:=pL.has (x:=x) r
  rw[UK,f,Ud]
  show(W3 (·.val) (match (y == x) with|true=>some e|false=>_)).isSome=(y == x||_)
  cases h:(y == x) with
  |true=>rfl
  |false=>exact c
def pL.get{x:Str}{v:V}:∀{a:List (Str × V)} {b:List Vr},pL a b->a.lookup x=some v->∃u,(b.find? λd=>VE x d.key).map (·.val)=some u/\RelV v u
 |_,_,.nil,h=>by cases h
 |_,_,.cons (x:=y) (e:=e) c f r,h=>by
  rw[Tx] at h
  rw[UK,c]
  show ∃u,W3 (·.val) (match (y == x) with|true=>some e|false=>_)=some u/\RelV v u
  rw[show(y == x)=(x == y) from Zv]
  cases q:(x == y) with
  |true=>rw[q] at h;cases h;exact⟨_,rfl,f⟩
  |false=>rw[q] at h;exact pL.get r h
def Mj(T:KTab X.w X.K a b):g9 X (compareOp .In) (λx y H Q=>∃z,x=.str z/\y=.ref a/\Q (.bl (b.any λp=>p.1 == z)) H):=by
 intro c s σ H x y v u Q I i g h
 obtain⟨z,rfl,rfl,q⟩:=h
 obtain⟨t,rfl⟩:=(show ∃t,v=Um z t from i)
 cases(show u=Td a from g)
 obtain⟨f,n,j,m,o⟩:=T.ex
 refine wpAny_in_of (strKind_is X.prog X.w z t) T.sys (mapOf_K (prog:=X.prog) I.lQ j m) ?_
 have e:(findBy VE f z).isSome=b.any λp=>p.1 == z:=by
  unfold findBy
  obtain⟨l⟩:=f
  rw[W_]
  exact o.has
 rw[e]
 exact⟨.bl _,H,I.tok _,rfl,q⟩
def DZ(T:KTab X.w X.K a b):g9 X (compareOp .NotIn) (λx y H Q=>∃z,x=.str z/\y=.ref a/\Q (.bl (!b.any λp=>p.1 == z)) H):=by
 intro c s σ H x y v u Q I i g h
 obtain⟨z,rfl,rfl,q⟩:=h
 obtain⟨t,rfl⟩:=(show ∃t,v=Um z t from i)
 cases(show u=Td a from g)
 obtain⟨f,n,j,m,o⟩:=T.ex
 refine aAf (strKind_is X.prog X.w z t) T.sys (mapOf_K (prog:=X.prog) I.lQ j m) ?_
 have e:(findBy VE f z).isSome=b.any λp=>p.1 == z:=by
  unfold findBy
  obtain⟨l⟩:=f
  rw[W_]
  exact o.has
 rw[e]
 exact⟨.bl _,H,I.tok _,rfl,q⟩
def IQ(T:KTab X.w X.K a f):HJ X (λx y H Q=>∃z r,x=.ref a/\y=.str z/\f.lookup z=some r/\Q r H):=by
 intro g c j s σ H x y v u Q I p o h J
 obtain⟨z,r,rfl,rfl,E,q⟩:=h
 obtain⟨t,rfl⟩:=(show ∃t,u=Um z t from o)
 cases(show v=Td a from p)
 obtain⟨m,n,A,C,F⟩:=T.ex
 have i:=mapOf_K (prog:=X.prog) (w:=X.w) I.lQ A C
 obtain⟨b,B,G⟩:=F.get E
 have e:findBy VE m z=some b:=by
  unfold findBy
  obtain⟨l⟩:=m
  rw[W_]
  exact B
 exact Za i.typeIs slot_dict_getitem.lookup (wpAny_getItem_of (strKind_is X.prog X.w z t) i e ⟨r,H,I.tok _,G,q⟩) J
inductive Tb (K:l'):List (Str × V)->List (Str × D)->Prop
 |nil:Tb K [] []
 |cons {x:Str} {v:V} {d:D} {kvs:List (Str × V)} {tab:List (Str × D)}:(∀H,Dv K H v d)->Tb K kvs tab->Tb K ((x,v)::kvs) ((x,d)::tab)
structure HV (w:World) (K:l') (mg:Str->Option Value) (x:Str) (a:Addr) (tab:List (Str × D)):Prop where
 at_:mg x=some (.ref a)
 ex:∃kvs,KTab w K a kvs/\Tb K kvs tab
def Tb.any{K:l'}:∀{a:List (Str × V)} {tab:List (Str × D)},Tb K a tab->(a.any λp=>p.1 == z)=tab.any λp=>p.1 == z
 |_,_,.nil=>rfl
 |_,_,.cons h r=>by rw[Ud,Ud,Tb.any r]
def Tb.look{K:l'}{z:Str}{d:D}:∀{a:List (Str × V)} {tab:List (Str × D)},Tb K a tab->tab.lookup z=some d->∃v,a.lookup z=some v/\∀H,Dv K H v d
 |_,_,.nil,h=>by cases h
 |_,_,.cons (x:=x) h r,e=>by
  rw[Tx] at e ⊢
  cases q:z == x with
  |true=>rw[q] at e;cases e;exact⟨_,rfl,h⟩
  |false=>rw[q] at e;exact Tb.look r e
def PD.weak(h:PD X e t)(m:bK a)(f:∀ δ Q,a δ Q->t δ Q):PD X e a:=⟨h.pe.imp fun σ H Q ⟨δ,r,q⟩=>⟨δ,r,f _ _ q⟩,m⟩
def mV.weak(h:mV X e t)(m:eh a)(f:∀ δ Q,a δ Q->t δ Q):mV X e a:=⟨PT.imp h.pt fun σ H Q ⟨δ,r,q⟩=>⟨δ,r,f _ _ q⟩,m⟩
def Ng(neg:Bool)(tab:List (Str × D))(a:ED):ED:=λδ Q=>a δ λd=>∃z,d=.str z/\Q (.bl (if neg then !tab.any λp=>p.1 == z else tab.any λp=>p.1 == z))
def Kg(m:bK b):bK (Ng a tab b):=λδ P c g h=>m _ _ _ (fun d ⟨z,e,q⟩=>⟨z,e,g _ q⟩) h
def Ls(neg:Bool)(a:Addr)(tab:List (Str × D)):F2:=λd e Q=>∃z,d=.str z/\e=.adr a/\Q (.bl (if neg then !tab.any λp=>p.1 == z else tab.any λp=>p.1 == z))
def FV :ef (Ls b a tab):=fun d e P h g ⟨z,c,f,q⟩=>⟨z,c,f,g _ q⟩
def QD(tab:List (Str × D))(a:ED):ED:=λδ Q=>a δ λd=>∃z r,d=.str z/\tab.lookup z=some r/\Q r
def KU(a:Addr)(tab:List (Str × D)):F2:=λe d Q=>∃z r,e=.adr a/\d=.str z/\tab.lookup z=some r/\Q r
def Im :ef (KU a tab):=fun d e P f g ⟨z,r,c,b,l,q⟩=>⟨z,r,c,b,l,g _ q⟩
def Es{X:Cx}(t:Tb X.K b tab):iM X.K (λx y H Q=>∃z,x=.str z/\y=.ref a/\Q (.bl (b.any λp=>p.1 == z)) H) (Ls false a tab):=by
 rintro H v u d e Q c f ⟨z,rfl,rfl,q⟩
 cases c
 cases f
 exact⟨z,rfl,rfl,by rw[t.any];exact q _ H (aH.refl _) (.bl _)⟩
def xp{X:Cx}(t:Tb X.K b tab):iM X.K (λx y H Q=>∃z,x=.str z/\y=.ref a/\Q (.bl (!b.any λp=>p.1 == z)) H) (Ls true a tab):=by
 rintro H v u d e Q c f ⟨z,rfl,rfl,q⟩
 cases c
 cases f
 exact⟨z,rfl,rfl,by rw[t.any];exact q _ H (aH.refl _) (.bl _)⟩
def Cw{X:Cx}(t:Tb X.K c tab):iM X.K (λx y H Q=>∃z r,x=.ref a/\y=.str z/\c.lookup z=some r/\Q r H) (KU a tab):=by
 rintro H v u d e Q f g ⟨z,r,rfl,rfl,l,q⟩
 cases f
 cases g
 obtain⟨b,h,i⟩:=t.look l
 exact⟨z,b,rfl,rfl,h,q _ H (aH.refl _) (i H)⟩
def OF{p g:Pos}(T:HV X.w X.K X.mg x a tab)(l:Gl X x)(b:PD X e f)(j:autoParam (behindInMarks .In (.Name x p)=false) dI)(m:autoParam ((x == ("__debug__":Str))=false) e7):PD X (.Compare e [.In] [.Name x p] g) (Ng false tab f):=by
 obtain⟨i,k,t⟩:=T.ex
 exact(qP (Mj k) (Es t) FV b (d8 (v:=.ref a) l T.at_ rfl (λ_=>.adr a) m) j).weak (Kg b.mono) λδ Q h=>b.mono _ _ _ (fun d ⟨z,c,q⟩=>⟨z,c,rfl,q⟩) h
def Gz{p g:Pos}(T:HV X.w X.K X.mg x a tab)(l:Gl X x)(b:PD X e f)(j:autoParam (behindInMarks .NotIn (.Name x p)=false) dI)(m:autoParam ((x == ("__debug__":Str))=false) e7):mV X (.Compare e [.NotIn] [.Name x p] g) (e6 (Ng true tab f)):=by
 obtain⟨i,k,t⟩:=T.ex
 exact(pF (DZ k) (xp t) FV b (d8 (v:=.ref a) l T.at_ rfl (λ_=>.adr a) m) j).weak (FY (Kg b.mono)) λδ Q h=>b.mono _ _ _ (fun d ⟨z,c,q⟩=>⟨z,c,rfl,q⟩) h
def Eh(T:HV X.w X.K X.mg x a tab)(j:Gl X x)(b:PD X e f)(n:vi e)(m:autoParam ((x == ("__debug__":Str))=false) e7):PD X (.Subscript (.Name x p) e pos) (QD tab f):=by
 obtain⟨i,k,t⟩:=T.ex
 have q:=d8 (X:=X) (pos:=p) (v:=.ref a) j T.at_ rfl (λ_=>.adr a) m
 exact(xf (t:=oE X.K (vC (.adr a))) (Ko (IQ k) q.pe b.pe n) q.mono b.mono (Cw t) Im).weak (λδ P o g h=>b.mono _ _ _ (fun d ⟨z,r,e,l,q⟩=>⟨z,r,e,l,g _ q⟩) h) λδ Q h=>b.mono _ _ _ (fun d ⟨z,r,c,l,q⟩=>⟨z,r,rfl,c,l,q⟩) h
def Qw(t:AD):EF:=λδ Q=>t δ λds=>ds.length<=sizeLine/\∀a,Q (.adr a) [(a,.lst ds)]
def xw(h:iZ X f t):PF X (.List f c) (Qw t):=by
 refine⟨(wa h.pa).imp fun σ H Q ⟨δ,r,q⟩=>⟨δ,r,h.mono _ _ _ (fun ds ⟨e,k⟩ n i m b=>⟨by rw[b.length];exact e,λp j=>?_⟩) q⟩,λδ P o g q=>h.mono _ _ _ (fun ds ⟨e,k⟩=>⟨e,λa=>g _ _ (k a)⟩) q⟩
 obtain⟨g2,l⟩:=(fG.nil (K:=X.K) (H:=i)).Fm j (ds:=ds) (by rw[bO];exact b)
 exact k p (.ref p) _ [p] (by rw[l,bO];exact m) g2 (.adr p)
def mO(g:D->D)(ds:List D):List (Option D):=ds.map λd=>some (g d)
def pZ :(mO g a).length=a.length:=by simp[mO]
def uv{i:Nat}(b:ds[i]?=some d)(a:(mO g ds)[i]?=some o):d∈ds/\o=some (g d):=by
 unfold mO at a
 rw[TX,b] at a
 exact⟨K' b,by simpa using a.symm⟩
def nM :∀{ds:List D},(mO g ds).filterMap id=ds.map g
 |[]=>rfl
 |d::ds=>by
  have a:=nM (g:=g) (ds:=ds)
  unfold mO at a ⊢
  rw[TM,TM,<- a]
  rfl
def Ou(i:Nat)(b:EF):fS:=λE δ μ=>b δ λd a=>((a++μ).map (·.1)).Nodup->E.nx (δ.set i (some d)) (a++μ)
def iB{b a:Pos}(m:X.N.Nodup)(s:X.N[i]?=some x)(t:Loc X.env.scope x)(c:PF X e w)(o:autoParam (Ue e (some (.Name x a)) b.line X.env=pure false) dI)
  (p:autoParam (X.fn x=true\/X.env.scope.names.lookup x=some .local) eS):xS X (.Assign [.Name x a] e b) (Ou i w):=by
 refine⟨PS.imp (Ar m s t (iT c.pe) o p) fun D σ H ⟨δ,μ,L,r,g,h⟩=>⟨L,g.eZ,δ,r,c.mono _ _ _ (λd y k v B A f u dv z=>?_) h⟩,λE C δ μ l h=>c.mono _ _ _ (λd y q n=>l.nx _ _ (q n)) h⟩
 obtain⟨g2,j⟩:=g.join u z f
 refine k g2.Ki _ _ (A++L) (by rw[j];exact f) ?_ g2
 rw[j]
 exact(r.same f).set i dv
end DC
namespace L2
end L2
namespace DC
end DC
namespace L2
def vd(B:Heap)(e C:Addr)(dx:Option Addr)(b:Option Value)(h:Heap):Prop:=∃oe vs,h.get? e=some oe/\oe.cls=.ref C/\oe.dict=dx/\oe.data=.fields vs/\1<vs.size/\vs[2]?=some .none /\
 match b with
 |none=>vs[1]?=some .none
 |some v=>∃T oT a,vs[1]?=some (.ref T)/\B.get? T=none/\T≠e/\h.get? T=some oT/\oT.data=.fields a/\a[3]?=some v
structure ze (B:Heap) (l:List Env) (e:Addr) (h:Heap):Prop where
 st:B.StaysIn h
 ne:B.get? e=none
 fr:h.FunFrames B l
def rX(o:Obj)(f:Array Value->Array Value):(o.mapFields f).dict=o.dict:=by
 obtain⟨c,d,a,b⟩:=o
 cases a<;>rfl
def Ba{L e C:Addr}(F:A.frames=some (i::f))(hf:i.frame=some L)(a:ze B (i::f) e s.heap)(N:s.heap.get? e=some m)(hc:m.cls=.ref C)
  (H:m.dict=dx)(x:m.data=.fields l)(O:1<l.size)(hy:l[2]?=some .none)(h:∀v,ze B (i::f) e v->s.heap.UpToSlots v->vd B e C dx (some (rawInt L)) v->Q () { s with heap:=v }) :
  wpAny M A (do let a <- frameOf i;let u <- entryPlaceOf L b;let z <- Xt j a .none (rawInt L) .none u;setField (.ref e) 1 z) Q E s:=by
 have I:e∉(i::f).filterMap (·.frame):=λJ=>by
  obtain⟨_,o,U,Z⟩:=a.fr.mem J
  rw[N] at U
  cases U
  exact Z l x
 refine wpAny_bind (wpAny_frameOf_fun F a.fr hf λg y=>wpAny_bind (wpAny_entryPlaceOf λu t=>?_))
 unfold Xt newFields
 refine wpAny_bind (wpAny_newObj_type ?_ (t.sizeOk5 _ _ _ _ _))
 have W:g.get? e=some m:=(y.2.1 e I).trans N
 have R:B.StaysIn g:=λc o q=>(y.2.1 c λJ=>by rw[(a.fr.mem J).1] at q;cases q).trans (a.st c o q)
 generalize p:({ cls:=.type "traceback",dict:=none,data:=.fields ([j,.ref L,.none,rawInt L,.none]++(if u.isEmpty then T_ 6 T5 else u)).toArray }:Obj)=w
 have T:=B' (h:=g) w W
 have r:g.objs.size≠e:=Uj (TU W)
 have X:=Uk x (·.setIfInBounds 1 (Td g.objs.size))
 have e3:=UO (UT (·.setIfInBounds 1 (Td g.objs.size))) T (Ut X)
 have t3:=(T6 (g.push w) (UT (·.setIfInBounds 1 (Td g.objs.size))) (VG r)).trans (TN g (by rw[<- p];rfl))
 have G:∀c o,c≠e->g.get? c=some o->((g.push w).update e (UT (·.setIfInBounds 1 (Td g.objs.size)))).get? c=some o:=λc o n q=>by
  rw[T6 _ _ (VG n)]
  exact B' _ q
 have P:∀c o,s.heap.get? c=some o->(∀Y,o.data≠.fields Y)->c≠e:=λc o q n z=>by
  rw[z,N] at q
  cases q
  exact n l x
 refine wpAny_setField T x O (h _ ⟨λc o q=>G c o (λz=>by rw[z,a.ne] at q;cases q) (R c o q),a.ne,a.fr.of_keeps λc o q n=>?_⟩ (λc o q n=>?_) ⟨_,_,e3,?_,?_,X,?_,?_,?_⟩)
 ·obtain⟨S,z⟩:=y.2.2 c o q
  exact⟨_,G c _ (P c o q n) z,rfl⟩
 ·obtain⟨S,z⟩:=y.2.2 c o q
  exact⟨S,G c _ (P c o q n) z⟩
 ·rw[VU];exact hc
 ·rw[rX];exact H
 ·rw[Array.size_setIfInBounds];exact O
 ·rw[Array.getElem?_setIfInBounds_ne (by decide)];exact hy
 ·refine⟨g.objs.size,w,_,by simp[O],R.fresh,r,t3,by rw[<- p],?_⟩
  first|(simp;done)|(rcases t with rfl|⟨_,_,_,_,_,_,_,rfl⟩<;>simp)
def K4(a:ze B l e h)(hT:h.get? T=some oT)(p:oT.data=.fields i)(m:B.get? T=none) :
  ze B l e (h.update T (UT (·.setIfInBounds k v)))/\h.UpToSlots (h.update T (UT (·.setIfInBounds k v))):=by
 have f:∀b,b≠T->(h.update T (UT (·.setIfInBounds k v))).get? b=h.get? b:=λb n=>T6 _ _ (VG n)
 have g:∀c o,h.get? c=some o->(∀j,o.data≠.fields j)->c≠T:=λc o q n z=>by
  rw[z,hT] at q
  cases q
  exact n i p
 exact⟨⟨λb o q=>(f b λz=>by rw[z,m] at q;cases q).trans (a.st b o q),a.ne,a.fr.of_keeps λc o q n=>⟨o,(f c (g c o q n)).trans q,rfl⟩⟩,λc o q n=>⟨o.slots,(f c (g c o q n)).trans q⟩⟩
def Fq{L e C:Addr}(g:A.frames=some (env::outer))(o:env.frame=some L)(a:ze B (env::outer) e s.heap)(x:vd B e C I u s.heap)
  (h:∀f,ze B (env::outer) e f->s.heap.UpToSlots f->vd B e C I (some (rawInt L)) f->Q () { s with heap:=f }):wpAny M A (noteFrame (.ref e) env) Q E s:=by
 obtain⟨w,z,i,n,c,j,r,m,x⟩:=x
 unfold noteFrame
 simp only[o]
 cases u with
 |none =>
  refine wpAny_bind (wpAny_field i j x ?_)
  rw[if_neg (by decide)]
  exact Ba g o a i n c j r m h
 |some v =>
  obtain⟨T,oT,R,y,t,l,hT,b,p⟩:=x
  refine wpAny_bind (wpAny_field i j y ?_)
  rw[if_pos (show(Td T != T5)=true from by simp)]
  refine wpAny_bind (wpAny_field hT b p ?_)
  by_cases q:(v == rawInt L)=true
  ·rw[if_pos q]
   have N:v=rawInt L:=eq_of_beq q
   subst N
   exact wpAny_pure (h _ a (.refl _) ⟨w,z,i,n,c,j,r,m,T,oT,R,y,t,l,hT,b,p⟩)
  ·rw[if_neg q]
   refine wpAny_bind (wpAny_setField hT b (Xk.mp p).1 ?_)
   obtain⟨G,P⟩:=K4 (k:=3) (v:=T5) a hT b t
   have O:(s.heap.update T (UT (·.setIfInBounds 3 T5))).get? e=some w:=(T6 _ _ l).trans i
   exact Ba (s:={ s with heap:=s.heap.update T (UT (·.setIfInBounds 3 T5))}) g o G O n c j r m λf H J F=>h f H (P.trans J) F
def rh(a:ze B l e s.heap)(x:vd B e C u (some v) s.heap)
  (h:∀i,ze B l e i->s.heap.UpToSlots i->vd B e C u (some (f.elim .none λf=>rawInt f)) i->Q () { s with heap:=i }):wpAny M A (setFlight (.ref e) f) Q E s:=by
 obtain⟨y,p,n,w,j,o,H,t,T,oT,G,h1,m,g,hT,b,F⟩:=x
 unfold setFlight
 refine wpAny_bind (wpAny_field n o h1 ?_)
 rw[if_pos (show(Td T != T5)=true from by simp)]
 have c:3<G.size:=(Xk.mp F).1
 obtain⟨r,z⟩:=K4 (k:=3) (v:=f.elim T5 λf=>rawInt f) a hT b m
 refine wpAny_setField hT b c (h _ r z ⟨y,p,(T6 _ _ g).trans n,w,j,o,H,t,T,_,_,h1,m,g,UO _ hT (Ut (Uk b _)),Uk b _,by simp[c]⟩)
def Ib(f:A.frames=some (env::outer))(i:env.frame=some L)(a:ze B (env::outer) e s.heap)(x:vd B e C t g s.heap)
  (h:∀b,ze B outer e b->s.heap.UpToSlots b->vd B e C t (some .none) b->Q () { s with heap:=b }):wpAny M A (leaving env (.ref e)) Q E s:=by
 unfold leaving
 refine wpAny_bind (Fq f i a x λm j l r=>?_)
 refine rh (s:={ s with heap:=m }) j r λn c o p=>h n ⟨c.st,c.ne,c.fr.2.2⟩ (l.trans o) p
def HO.dx?:HO->Option Addr
 |.ins _ dx _=>some dx
 |.eu _ u=>u.dx?
 |_=>none
def aO.there(x:aO P w H h a u):∃o,h.get? a=some o:=by
 cases u with
 |lst c=>obtain⟨_,_,_,_,e⟩:=x;exact⟨_,e⟩
 |tup c=>obtain⟨_,_,_,o,e,_⟩:=x;exact⟨_,e⟩
 |dK b=>obtain⟨_,_,_,_,o,_,_,e,_⟩:=x;exact⟨_,e⟩
 |dT b=>obtain⟨_,_,_,_,o,_,_,e,_⟩:=x;exact⟨_,e⟩
 |set S n=>obtain⟨o,_,_,_,e,_⟩:=x;exact⟨_,e⟩
 |ins C j fs=>obtain⟨_,_,_,e,_⟩:=x;exact⟨_,e⟩
 |own y=>exact x
 |xd fs=>obtain⟨_,⟨o,_,_,e,_⟩,_⟩:=x;exact⟨_,e⟩
 |QZ lo g=>obtain⟨_,_,_,e⟩:=x;exact⟨_,e⟩
 |eu i u=>obtain⟨e,_⟩:=x;exact⟨_,e⟩
 |HP l=>exact⟨_,x⟩
 |met f y=>exact⟨_,x⟩
 |ext φ=>obtain⟨_,e,_⟩:=x;exact e
def aO.wX(x:aO P w H h a u)(e:u.dx?=some d):H d=some (.own a):=by
 induction u with
 |ins C c fs=>cases e;exact x.1
 |eu o u b=>exact b x.2 e
 |_=>cases e
def aO.swap(i:∀b e,H b=some (.tup e)->g b=some (.tup e))(f:∀d,u.dx?=some d->g d=some (.own a))(x:aO P w H h a u):aO P w g h a u:=by
 induction u with
 |dT _ =>
  obtain⟨z,y,e,r,c⟩:=x
  exact⟨z,y,e,Paired.Fb r λp q z=>⟨z.1,i _ _ z.2.1,z.2.2⟩,c⟩
 |ins _ l _=>exact⟨f l rfl,x.2⟩
 |eu _ u j=>exact⟨x.1,j f x.2⟩
 |_=>exact x
open Classical in
def dq(h:Heap)(H:Hp):Hp:=λb=>match H b with
 |none=>none
 |some (.tup xs)=>some (.tup xs)
 |some (.eu o u)=>some (.eu o u)
 |some (.own x)=>if ∃u,H x=some u/\u.dx?=some b then some (.own x) else(h.get? b).map λo=>.eu o (.own x)
 |some u=>(h.get? b).map λo=>.eu o u
def cb(H a:Hp):Hp:=λb=>match H b with
 |some u=>some u
 |none=>a b
def jJ(H a:Hp):aH H (cb H a):=λb o e=>by unfold cb;rw[e]
def jI(e:H b=none):cb H a b=a b:=by unfold cb;rw[e]
def fF(e:H b=some u):cb H a b=some u:=by unfold cb;rw[e]
section
variable {P:TV}{w:World}{H H':Hp}{h h':Heap}{b:Addr}{u:HO}{fs:List Addr}
def gO(e:H b=none):dq h H b=none:=by unfold dq;rw[e]
def Bg(e:H b=some (.tup a)):dq h H b=some (.tup a):=by unfold dq;rw[e]
def qy(e:H b=some (.eu o u)):dq h H b=some (.eu o u):=by unfold dq;rw[e]
def Bf(e:H b=some (.own x))(a:H x=some u)(c:u.dx?=some b):dq h H b=some (.own x):=by
 unfold dq
 rw[e]
 exact if_pos ⟨u,a,c⟩
def ik(ok:dz P w H h)(e:H b=some u):(dq h H b=some u/\((∃c,u=.tup c)\/(∃o v,u=.eu o v)\/∃x v,u=.own x/\H x=some v/\v.dx?=some b))\/∃o,h.get? b=some o/\dq h H b=some (.eu o u):=by
 obtain⟨o,a⟩:=(ok b u e).there
 cases u with
 |tup c=>exact .inl ⟨Bg e,.inl ⟨c,rfl⟩⟩
 |eu o v=>exact .inl ⟨qy e,.inr (.inl ⟨o,v,rfl⟩)⟩
 |own x =>
  by_cases q:∃u,H x=some u/\u.dx?=some b
  ·obtain⟨v,g,f⟩:=q
   exact .inl ⟨Bf e g f,.inr (.inr ⟨x,v,rfl,g,f⟩)⟩
  ·refine .inr ⟨o,a,?_⟩
   unfold dq
   rw[e]
   show(if _ then _ else _)=_
   rw[if_neg q,a]
   rfl
 |_=>exact .inr ⟨o,a,by unfold dq;rw[e];show(h.get? b).map _=_;rw[a];rfl⟩
def ug(ok:dz P w H h)(e:H a=some u)(c:u.dx?=some d):dq h H d=some (.own a)/\H d=some (.own a):=by
 have z:=aO.wX (ok a u e) c
 exact⟨Bf z e c,z⟩
def dz.eu(ok:dz P w H h):dz P w (dq h H) h:=λb v e=>by
 have c:∀b a,H b=some (.tup a)->dq h H b=some (.tup a):=λb a q=>Bg q
 cases q:H b with
 |none=>rw[gO q] at e;cases e
 |some y =>
  have own:∀d,y.dx?=some d->dq h H d=some (.own b):=λd g=>(ug ok q g).1
  rcases ik ok q with⟨z,_⟩|⟨o,f,z⟩
  ·rw[z] at e
   cases e
   exact aO.swap c own (ok b _ q)
  ·rw[z] at e
   cases e
   exact⟨f,aO.swap c own (ok b _ q)⟩
structure LG (h:Heap) (H H':Hp):Prop where
 hU:∀b xs,dq h H b=some (.tup xs)->H' b=some (.tup xs)
 dZ:∀b o u,dq h H b=some (.eu o u)->H' b=some (.eu o u)
def kj(ok:dz P w H h)(un:LG h H H')(a:dz P w H' h')(e:H b=some u):((∃f,u=.tup f)/\H' b=some u)\/((∃o v,u=.eu o v)/\H' b=some u)\/((∃x v,u=.own x/\H x=some v/\v.dx?=some b)/\H' b=some u)\/∃o,H' b=some (.eu o u):=by
 rcases ik ok e with⟨z,q⟩|⟨o,l,z⟩
 ·rcases q with⟨f,rfl⟩|⟨o,v,rfl⟩|⟨x,v,rfl,g,c⟩
  ·exact .inl ⟨⟨f,rfl⟩,un.hU _ _ z⟩
  ·exact .inr (.inl ⟨⟨o,v,rfl⟩,un.dZ _ _ _ z⟩)
  ·refine .inr (.inr (.inl ⟨⟨x,v,rfl,g,c⟩,?_⟩))
   rcases ik ok g with⟨y,r⟩|⟨j,_,y⟩
   ·rcases r with⟨f,rfl⟩|⟨o,i,rfl⟩|⟨m,i,rfl,_⟩
    ·cases c
    ·exact aO.wX (a x _ (un.dZ _ _ _ y)) c
    ·cases c
   ·exact aO.wX (u:=.eu j v) (a x _ (un.dZ _ _ _ y)) c
 ·exact .inr (.inr (.inr ⟨o,un.dZ _ _ _ z⟩))
def G6(ok:dz P w H h)(un:LG h H H')(a:dz P w H' h')(e:H' b=some (.tup c)):cb H H' b=some (.tup c):=by
 cases q:H b with
 |none=>rw[jI q];exact e
 |some u =>
  rw[fF q]
  rcases kj ok un a q with⟨_,z⟩|⟨⟨o,v,rfl⟩,z⟩|⟨⟨x,v,rfl,_⟩,z⟩|⟨o,z⟩
  ·rw[z] at e;exact e
  ·rw[z] at e;cases e
  ·rw[z] at e;cases e
  ·rw[z] at e;cases e
def dz.cb(ok:dz P w H h)(un:LG h H H')(a:dz P w H' h'):dz P w (cb H H') h':=λb v e=>by
 have f:∀b g,H' b=some (.tup g)->L2.cb H H' b=some (.tup g):=λb g q=>G6 ok un a q
 cases q:H b with
 |some y =>
  rw[fF q] at e
  cases e
  have own:∀d,v.dx?=some d->L2.cb H H' d=some (.own b):=λd i=>fF (ug ok q i).2
  rcases kj ok un a q with⟨_,z⟩|⟨_,z⟩|⟨⟨x,v,rfl,_⟩,z⟩|⟨o,z⟩
  ·exact aO.swap f own (a b _ z)
  ·exact aO.swap f own (a b _ z)
  ·exact a b _ z
  ·exact aO.swap f own (a b _ z).2
 |none =>
  rw[jI q] at e
  refine aO.swap f (λd i=>?_) (a b v e)
  have c:=aO.wX (a b v e) i
  cases r:H d with
  |none=>rw[jI r];exact c
  |some u =>
   exfalso
   rcases kj ok un a r with⟨⟨g,rfl⟩,z⟩|⟨⟨o,v,rfl⟩,z⟩|⟨⟨x,v,rfl,j,_⟩,z⟩|⟨o,z⟩
   ·rw[z] at c;cases c
   ·rw[z] at c;cases c
   ·rw[z] at c
    cases c
    rw[q] at j
    cases j
   ·rw[z] at c;cases c
def Un.cb(ok:dz P w H h)(un:Un fs [] (dq h H) H' h h'):Un fs [] H (cb H H') h h' where
 keep:=λb o e n c a=>un.keep b o e (gO n) c a
 slot:=λb o e n c a=>un.slot b o e (gO n) c a
 free:=λb o e n a=>by rw[jI n];exact un.free b o e (gO n) a
 there:=un.there
 hU:=λb g e=>fF e
 dZ:=λb o u e=>fF e
 mC:=λb f e=>⟨#[],by rw[fF e];simp⟩
def HO.data:HO->Prop
 |.own _=>False
 |.eu _ _=>False
 |_=>True
def Rd.eu(ok:dz P w H h)(a:u.data)(r:Rd H b u):Rd (dq h H) b u:=by
 rcases r with r|⟨o,r⟩
 ·rcases ik ok r with⟨z,_⟩|⟨o,_,z⟩
  ·exact .inl z
  ·exact .inr ⟨o,z⟩
 ·exact .inr ⟨o,qy r⟩
def Rd.cb(ok:dz P w H h)(un:LG h H H')(c:dz P w H' h')(a:u.data)(r:Rd H' b u):Rd (cb H H') b u:=by
 cases q:H b with
 |none=>unfold Rd;rw[jI q];exact r
 |some v =>
  unfold Rd
  rw[fF q]
  rcases kj ok un c q with⟨_,z⟩|⟨⟨o,e,rfl⟩,z⟩|⟨⟨x,e,rfl,_⟩,z⟩|⟨o,z⟩
  ·rcases r with r|⟨o,r⟩
   ·rw[z] at r;exact .inl r
   ·rw[z] at r;exact .inr ⟨o,r⟩
  ·rcases r with r|⟨o,r⟩
   ·rw[z] at r;cases r;exact a.elim
   ·rw[z] at r;exact .inr ⟨o,r⟩
  ·rcases r with r|⟨o,r⟩
   ·rw[z] at r;cases r;exact a.elim
   ·rw[z] at r;cases r
  ·rcases r with r|⟨o,r⟩
   ·rw[z] at r;cases r;exact a.elim
   ·rw[z] at r;cases r;exact .inl rfl
end
structure nX (fs ex:List Addr) (H:Hp) (h B:Heap):Prop where
 kp:∀b o,h.get? b=some o->H b=none->b∉fs->b∉ex->B.get? b=some o
 th:∀b o,h.get? b=some o->b∉fs->b∉ex->∃o',B.get? b=some o'
def xJ(P:TV)(w:World):zf:=λouter H s E e a=>∃b C dx c B,e=.ref b/\a.os=s.os/\Wk a.gens/\Un (uf outer) [] H c s.heap a.heap/\ze B outer b a.heap/\dz P w c B/\nX (uf outer) [] H s.heap B /\
 vd B b C dx (some .none) a.heap/\E (.ref C) dx c
def xP(X:Cx)(H:Hp)(s:Shared)(a C:Addr)(dx:Option Addr):Prop:=∃B b,ze B X.stack a s.heap/\dz X.prog X.w H B/\nX X.fs X.ex X.H₀ X.s₀.heap B/\vd B a C dx b s.heap/\∀p∈X.pn,B.get? p.1=some p.2
section
variable {X:Cx}{pins:List (Addr × Obj)}{σ:St}{H:Hp}{s s':Shared}{E:XK}{e:Value}
def Inv.I_(I:Inv X pins σ H s)(q:X.s₀.heap.get? b=some o)(a:b∉X.fs):b∉uf X.stack:=λz=>by
 rcases Gc.mp (I.qI b z) with y|y
 ·exact absurd (TU q) (by rw[y];exact ZC.mpr I.ok.above)
 ·exact a y
def Inv.GJ(I:Inv X pins σ H s)(a:p∈X.pn):p.1∉uf X.stack:=λz=>by
 obtain⟨_,_,c,b,_⟩:=I.pin p (To _ a)
 rcases Gc.mp (I.qI _ z) with y|y
 ·exact c y
 ·exact b y
def Inv.beneath(I:Inv X pins σ H s)(b:nX (uf X.stack) [] H s.heap B):nX X.fs X.ex X.H₀ X.s₀.heap B :=
 ⟨λc o q n f a=>b.kp c o (I.base.keep c o q n f a) (I.base.free c o q n a) (I.I_ q f) (by simp),λc o q f a=>let ⟨g,z⟩:=I.base.there c o q a;b.th c g z (I.I_ q f) (by simp)⟩
def E6(I:Inv X pins σ H s)(h:xJ X.prog X.w X.stack H s E e s'):∃i C g f,e=.ref i/\Inv X pins σ f s'/\xP X f s' i C g/\E (.ref C) g f:=by
 obtain⟨i,C,g,f,B,rfl,os,c,un,a,ok,l,x,m⟩:=h
 exact⟨i,C,g,f,rfl,I.uW (ch:=[]) os un (ok.kept a.st) c (λb z=>absurd z (by simp)),⟨B,some .none,a,ok,I.beneath l,x,λp j=>l.kp p.1 p.2 (I.pin p (To _ j)).1 (I.pin p (To _ j)).2.1 (I.GJ j) (by simp)⟩,m⟩
def Dl(I:Inv X pins σ H s)(G:s.heap.get? c=some h)(A:h.cls=.ref C)(J:h.dict=t)(v:h.data=.fields f)(M:1<f.size)(L:f[2]?=some .none)(F:f[1]?=some .none)
  (x:H c=none)(r:X.s₀.heap.get? c=none)(j:∀p∈X.pn,p.1≠c):xP X H s c C t:=by
 have g:∀b u,H b=some u->b∉c::uf X.stack:=λb u q z=>by
  rcases Gc.mp z with y|y
  ·rw[y,x] at q;cases q
  ·rw[I.xC b y] at q;cases q
 refine⟨Yy s.heap (c::uf X.stack),none,⟨λb o q=>YI _ q,X1 _ (N' ..),?_⟩,λa o q=>?_,⟨λb o q n hb i=>?_,λb o q hb i=>?_⟩,⟨h,f,G,A,J,v,M,L,F⟩,λp m=>XA _ (I.pin p (To _ m)).1 λz=>?_⟩
 ·exact PySem.W.funFrames_hide I.stack λl B b q=>TR _ (Vi.mpr ⟨l,B,q⟩)
 ·refine(I.au a o q).qH (λb u hb z=>XA _ z ?_) (λ_ z=>z) λ_ _ z=>z
  rcases hb with rfl|hb
  ·exact g _ _ q
  ·exact g _ _ hb
 ·refine XA _ (I.base.keep b o q n hb i) λz=>?_
  rcases Gc.mp z with y|y
  ·rw[y,r] at q;cases q
  ·exact I.I_ q hb y
 ·obtain⟨w,z⟩:=I.base.there b o q i
  refine⟨w,XA _ z λy=>?_⟩
  rcases Gc.mp y with y|y
  ·rw[y,r] at q;cases q
  ·exact I.I_ q hb y
 ·rcases Gc.mp z with y|y
  ·exact j p m y
  ·exact I.GJ m y
end
def HZ{K:l'}{σ:St}
  (I:Inv (n9 (xJ P w) P w K M g N e c f cd A outer s H E) m σ t u)(a:xP (n9 (xJ P w) P w K M g N e c f cd A outer s H E) t u F C y)(h:E (.ref C) y t) :
  (n9 (xJ P w) P w K M g N e c f cd A outer s H E).xe (.ref F) u:=by
 obtain⟨B,Z,a,ok,J,x,_⟩:=a
 have T:=a.fr
 refine Ib (env:=envOfC e c s.heap.objs.size f cd) (outer:=outer) (L:=s.heap.objs.size) I.ok.frames rfl a x λR v U S=>?_
 have X:∀b:Addr,b∉([]:List Addr):=λb z=>absurd z (by simp)
 have up:∀b o,b∈uf outer->u.heap.get? b=some o->∃Q,R.get? b=some { o with slots:=Q }:=λb o i q=>by
  have G:b∈((envOfC e c s.heap.objs.size f cd)::outer).filterMap (·.frame):=by
   obtain⟨env,G,W⟩:=Vi.mp i
   exact Vi.mpr ⟨env,TR _ G,W⟩
  obtain⟨_,r,p,Y⟩:=T.mem G
  rw[q] at p
  cases p
  exact U b o q Y
 refine⟨F,C,y,t,B,rfl,I.os,I.bare,⟨λb o q n i j=>v.st b o (J.kp b o q n i j),λb o q n i j=>?_,I.base.free,λb o q j=>?_,I.base.hU,I.base.dZ,I.base.mC⟩,v,ok,J,S,h⟩
 ·obtain⟨Q,z⟩:=I.base.slot b o q n i j
  obtain⟨l,O⟩:=up b _ i z
  exact⟨l,O⟩
 ·by_cases i:b∈uf outer
  ·obtain⟨r,z⟩:=I.base.there b o q j
   obtain⟨l,O⟩:=up b _ i z
   exact⟨_,O⟩
  ·obtain⟨r,z⟩:=J.th b o q i j
   exact⟨r,v.st b r z⟩
def xJ.cb(ok:dz P w H s.heap)(h:xJ P w l (dq s.heap H) s E e p) :
  xJ P w l H s (λcls i j=>∃c,j=L2.cb H c/\(∀b u,HO.data u->Rd c b u->Rd (L2.cb H c) b u)/\E cls i c) e p:=by
 obtain⟨F,C,i,c,B,rfl,os,f,un,a,g,m,x,A⟩:=h
 have t:LG s.heap H c:=⟨un.hU,un.dZ⟩
 exact⟨F,C,i,L2.cb H c,B,rfl,os,f,un.cb ok,a,ok.cb t g,⟨λb o q n z v=>m.kp b o q (gO n) z v,m.th⟩,x,c,rfl,λb u y r=>r.cb ok t g y,A⟩
def qj.eu{K:l'}(e:qj P w K f c A a s H):qj P w K f c A a s (dq s.heap H) :=
 ⟨e.frames,e.mod,λb o q=>⟨(e.bs b o q).1,gO (e.bs b o q).2⟩,e.Ci,e.ip,λb g=>gO (e.C7 b g),e.au.eu,e.bare⟩
section
variable {X:Cx}{k:Nat}{f C:Addr}{fd:UE}{ps:List Str}{sp:Sp}{dvs:List V}{ds:List Value}
def Jk{σ:St}(F:cE X.prog X.w X.K X.mg X.base (xJ X.prog X.w) k f fd ps sp)(P:bZ k X.A)(T:Binds X.K fd ps ds)(S:Vals dvs ds)
  (I:Inv X c σ H s)(r:Vals m g)(h:sp (m++dvs) (dq s.heap H) Q' E)(y:∀v a,(∀b u,HO.data u->Rd a b u->Rd (cb H a) b u)->Q' v a->Q v (cb H a))
  (B:∀o C n a i,Inv X c σ (cb H a) i->xP X (cb H a) i o C n->(∀b u,HO.data u->Rd a b u->Rd (cb H a) b u)->E (.ref C) n a->X.xe (.ref o) i):wpAny (model X.prog X.w) X.A (call (.ref f) g) (EP X c σ Q) X.xe s:=by
 have x:Vals (m++dvs) (g++ds):=r.append S
 have L:(g++ds).length=ps.length:=by rw[<- x.length];exact F.len _ _ _ _ h
 refine wpAny_call (codeAny_mono (F.run X.A X.stack s _ ⟨g,[]⟩ (g++ds) (m++dvs) Q' E P I.Ew.eu (T s g I.lQ L) x h) λr i l=>?_)
 cases r with
 |error e =>
  obtain⟨o,C,n,G,rfl,U,M,a,rfl,rd,R⟩:=E6 I (xJ.cb I.au l)
  exact B o C n a i U M rd R
 |ok J =>
  cases J with
  |ret u =>
   obtain⟨v,a,os,j,un,p,O,q⟩:=(show CE X.stack X.prog X.w (dq s.heap H) s Q' u i from l)
   have t:LG s.heap H a:=⟨un.hU,un.dZ⟩
   exact⟨v,cb H a,I.uW (ch:=[]) os (un.cb I.au) (I.au.cb t p) j (λb z=>absurd z (by simp)),O,y v a (λb u N r=>r.cb I.au t p N) q⟩
  |next=>exact UI l
  |brk=>exact UI l
  |cont=>exact UI l
end
def cW.rd{K:l'}(f:∀b u,HO.data u->Rd H b u->Rd c b u)(h:cW K H a xs):cW K c a xs:=by
 rcases h with h|h
 ·exact .inl (f _ _ T9 h)
 ·exact .inr h
def iN.rd{K:l'}(f:∀b u,HO.data u->Rd H b u->Rd c b u)(h:iN K H a xs):iN K c a xs:=by
 rcases h with h|h
 ·exact .inl (f _ _ T9 h)
 ·exact .inr h
end L2
namespace DC
section
variable {K:l'}{H H':Hp}
def hW.rd(f:∀b u,HO.data u->Rd H b u->Rd H' b u)(h:hW H a fs):hW H' a fs:=by
 cases a with
 |none=>exact h
 |some d=>exact f _ _ T9 h
mutual
def Dv.rd(f:∀b u,HO.data u->Rd H b u->Rd H' b u):∀{v:V} {d:D},Dv K H v d->Dv K H' v d
 |_,_,.ae=>.ae
 |_,_,.bl b=>.bl b
 |_,_,.int i=>.int i
 |_,_,.str x=>.str x
 |_,_,.lst h1 c=>.lst (h1.rd f) (bA.rd f c)
 |_,_,.tup h1 c=>.tup (h1.rd f) (bA.rd f c)
 |_,_,.obj h1 c=>.obj (f _ _ T9 h1) (gC.rd f c)
 |_,_,.dK h1 c=>.dK (f _ _ T9 h1) (fg.rd f c)
 |_,_,.dT h1 c=>.dT (f _ _ T9 h1) (va.rd f c)
 |_,_,.adr a=>.adr a
 |_,_,.exc h1 c e=>.exc (f _ _ T9 h1) (hW.rd f c) (gC.rd f e)
def bA.rd(f:∀b u,HO.data u->Rd H b u->Rd H' b u):∀{vs:List V} {ds:List D},bA K H vs ds->bA K H' vs ds
 |_,_,.nil=>.nil
 |_,_,.cons h1 a=>.cons (Dv.rd f h1) (bA.rd f a)
def gC.rd(f:∀b u,HO.data u->Rd H b u->Rd H' b u):∀{vs:List (Str × V)} {ds:List (Str × D)},gC K H vs ds->gC K H' vs ds
 |_,_,.nil=>.nil
 |_,_,.cons h1 a=>.cons (Dv.rd f h1) (gC.rd f a)
def fg.rd(f:∀b u,HO.data u->Rd H b u->Rd H' b u):∀{vs:List (Key × V)} {ds:List (Key × D)},fg K H vs ds->fg K H' vs ds
 |_,_,.nil=>.nil
 |_,_,.cons h1 a=>.cons (Dv.rd f h1) (fg.rd f a)
def va.rd(f:∀b u,HO.data u->Rd H b u->Rd H' b u):∀{vs:XT} {ds:List (List Int × D)},va K H vs ds->va K H' vs ds
 |_,_,.nil=>.nil
 |_,_,.cons e a h1 c=>.cons (e.rd f) a (Dv.rd f h1) (va.rd f c)
end
end
abbrev XR:=Addr->List (Str × D)->Prop
abbrev za:=List D->(D->Prop)->XR->Prop
abbrev xQ(b:za):Prop:=∀ds (P c:D->Prop) (R a:XR),(∀d,P d->c d)->(∀C g,R C g->a C g)->b ds P R->b ds c a
def kX(K:l')(E:XK):XR:=λC b=>∀dx fs a,hW a dx fs->gC K a fs b->E (.ref C) dx a
def NQ(K:l')(b:za):Sp:=λvs H Q E=>∃ds,bA K H vs ds/\b ds (λd=>∀v a,Dv K a v d->Q v a) (kX K E)
def qk(X:Cx)(e:SD->XR):Prop:=∀a σ δ H s b C dx fs c,Inv X a σ H s->bG X.K H σ δ->xP X H s b C dx->hW H dx fs->gC X.K H fs c->e δ C c->X.xe (.ref b) s
def K7(K:l')(R:XR):XK:=λcls dx a=>∃C b fs,cls=.ref C/\hW a dx fs/\gC K a fs b/\R C b
def IT{K:l'}(h:R C gs):kX K (K7 K R) C gs:=λc fs e a b=>⟨C,gs,fs,rfl,a,b,h⟩
def BM(K:l')(P:D->Prop):VK:=λv a=>∃d,Dv K a v d/\P d
def Pj{σ:L2.St}(N:qk X t)(F:cE X.prog X.w X.K X.mg X.base (xJ X.prog X.w) k f R Z (NQ X.K p))(M:xQ p)(U:bZ k X.A)(hb:Binds X.K R Z j)(Y:Vals l j)(m:∀H,bA X.K H l G)
  (I:Inv X c σ i s)(J:bG X.K H σ δ)(B:aH H i)(r:Vals o x)(dv:bA X.K i o n)(h:p (n++G) (kD X.K H Q) (t δ)):wpAny (model X.prog X.w) X.A (call (.ref f) x) (EP X c σ Q) X.xe s:=by
 refine Jk (Q':=BM X.K (kD X.K H Q)) (E:=K7 X.K (t δ)) F U hb Y I r ⟨n++G,((dv.append (m i)).rd λb u T z=>z.eu I.au T),M _ _ _ _ _ (λd q v y dv=>⟨d,dv,q⟩) (λC g q=>IT q) h⟩ ?_ ?_
 ·rintro v y rd ⟨d,dv,q⟩
  exact q v _ (B.trans (jJ _ _)) (dv.rd rd)
 ·rintro S C P y L I' a rd ⟨C',W,fs,e,xd,O,q⟩
  cases e
  exact N c σ δ _ L S C P fs W I' (J.same (B.trans (jJ _ _))) a (hW.rd rd xd) (gC.rd rd O) q
def HB(c:SD->XR)(a:za)(e:List D)(t:AD):ED:=λδ Q=>t δ λb=>a (b++e) Q (c δ)
def Ho{c p:Pos}(N:qk X E)(F:cE X.prog X.w X.K X.mg X.base (xJ X.prog X.w) k f O W (NQ X.K m))(B:xQ m)(S:bZ k X.A)(Z:Gl X x)(R:X.mg x=some (.ref f))(M:keepIn X.K (.ref f)=true)(Y:Binds X.K O W dls)(J:Vals dvs dls)(n:∀H,bA X.K H dvs G)
  (v:iZ X (e::i) t)(o:autoParam ((x == ("__debug__":Str))=false) e7)(T:autoParam (starEach (e::i) X.env=(false,eval e X.env)::starEach i X.env) dI)(u:autoParam ((backTo c (starEach i X.env)).any (·.1)=false) dI) :
  PD X (.Call (.Name x p) (e::i) [] c) (HB E m G t):=by
 refine⟨ ?_,λδ P P' g h=>v.mono _ _ _ (λa q=>B _ _ _ _ _ g (λ_ _ z=>z) q) h⟩;rintro b s σ H Q I ⟨δ,r,h⟩
 refine Ug (fv I Z R ?_ o)
 refine V_ (h₀:=X.base) I.ok.mod.FN M (bg (v.pa c b s σ H (λl j=>aH H j/\∃a,bA X.K j l a/\m (a++G) (kD X.K H Q) (E δ)) I ⟨δ,r,v.mono _ _ _ (λa q l j C dv=>⟨C,a,dv,q⟩) h⟩) fun us C ⟨l,j,y,L,U,a,dv,q⟩=>⟨y.lQ,?_⟩) T u
 exact Pj N F B S Y J n y r U L dv q
section
variable {P:TV}{w:World}{K:l'}{mg:Str->Option Value}{base:Heap}
abbrev D_(P:TV)(w:World)(K:l')(g:Str->Option Value)(b:Heap)(N:List Str)(c:Str)(st:Stmt)(f:Addr)(e:Value)(A:Around)(a:List Env)(s:Shared)(H:Hp)(E:XK):Cx:=n9 (xJ P w) P w K g b N c (aB st) f e A a s H E
def KO{st:Stmt}:qk (D_ P w K mg base N c st f e A b s H E) (λ_=>kX K E) :=
 λg σ δ h o p C m fs n I r a l j i=>HZ I a (i m fs h l j)
structure vY (P:TV) (w:World) (K:l') (mg:Str->Option Value) (base:Heap) (k:Nat) (x:Str) (ps:List Str) (sx:za):Prop where
 ex:∃f fd,cE P w K mg base (xJ P w) k f fd ps (NQ K sx)/\mg x=some (.ref f)/\keepIn K (.ref f)=true/\Binds K fd ps []
 ms:xQ sx
end
end DC
namespace L2
end L2
namespace DC
section
variable {X:Cx}{o e:Expr}{es:List Expr}{ta:ED}{t:AD}{pos p apos:Pos}{x m:Str}{j k:Nat}{f C:Addr}{fd:UE}{ps:List Str}{sx:Sj}{sm:Addr->za}{ok:Addr->Prop}{xk:SD->XR}{dvs:List V}{dls:List Value}{dd:List D}
def zr(i:qk X xk){g:za}(c:vY X.prog X.w X.K X.mg X.base j x ps g)(l:bZ k X.A)(h:j<=k)(v:Gl X x)(u:iZ X (e::es) t)(a:autoParam ((x == ("__debug__":Str))=false) e7)
  (n:autoParam (starEach (e::es) X.env=(false,eval e X.env)::starEach es X.env) dI)(s:autoParam ((backTo pos (starEach es X.env)).any (·.1)=false) dI):PD X (.Call (.Name x p) (e::es) [] pos) (HB xk g [] t):=by
 obtain⟨f,y,F,m,r,b⟩:=c.ex
 exact Ho (dvs:=[]) (dls:=[]) i F c.ms (l.mono h) v m r b .nil (λ_=>.nil) u a n s
end
def xx{K:l'}{st:Stmt}(F:xO K x a st f fd):tq K x a st f fd :=by
 obtain⟨h,j,kV,e,g,n,b,o,c,i,l,m⟩:=F.ex
 exact⟨⟨h,j,.none,kV,e,g,n,b,o,c,i,l,m⟩,F.kp⟩
end DC
namespace L2
end L2
namespace DC
end DC
namespace L2
abbrev Cx.wC(X:Cx)(A:Around):Cx:={ X with A:=A,calm:=false,xe:=λ_ _=>False }
abbrev Cx.sT(X:Cx)(a:List (Addr × Obj))(E:Value->Shared->Prop):Cx:={ X with pn:=X.pn++a,xe:=E }
section
variable {X:Cx}{pins:List (Addr × Obj)}{σ:St}{H:Hp}{s:Shared}{A:Around}{E:Value->Shared->Prop}
def Inv.wC(I:Inv X pins σ H s)(a:A.frames=X.A.frames):Inv (X.wC A) pins σ H s :=
 ⟨⟨I.ok.mod,I.ok.kind,I.ok.glob,I.ok.blt,I.ok.above,I.ok.inj,I.ok.has,I.ok.KP,(λh=>Bool.noConfusion h),a.trans I.ok.frames,I.ok.NS,I.ok.OQ,I.ok.bs,I.ok.Ci,I.ok.yq,I.ok.xv,I.ok.ip,I.ok.C7⟩,I.os,I.bare,I.base,I.loc,I.cell,I.free,I.cZ,I.pin,I.au,I.len⟩
def Inv.HA(ok:X.Ok)(I:Inv (X.wC A) pins σ H s):Inv X pins σ H s:=⟨ok,I.os,I.bare,I.base,I.loc,I.cell,I.free,I.cZ,I.pin,I.au,I.len⟩
def Inv.sT(I:Inv X pins σ H s):Inv (X.sT pins E) [] σ H s :=
 ⟨⟨I.ok.mod,I.ok.kind,I.ok.glob,I.ok.blt,I.ok.above,I.ok.inj,I.ok.has,I.ok.KP,I.ok.hd,I.ok.frames,I.ok.NS,I.ok.OQ,I.ok.bs,I.ok.Ci,I.ok.yq,I.ok.xv,I.ok.ip,I.ok.C7⟩,I.os,I.bare,I.base,I.loc,I.cell,I.free,I.cZ,
  λp a=>I.pin p (by simpa using a),I.au,I.len⟩
def Inv.mM(I:Inv (X.sT pins E) l σ H s):Inv X pins σ H s :=
 ⟨⟨I.ok.mod,I.ok.kind,I.ok.glob,I.ok.blt,I.ok.above,I.ok.inj,I.ok.has,I.ok.KP,I.ok.hd,I.ok.frames,I.ok.NS,I.ok.OQ,I.ok.bs,I.ok.Ci,I.ok.yq,I.ok.xv,I.ok.ip,I.ok.C7⟩,I.os,I.bare,I.base,I.loc,I.cell,I.free,I.cZ,
  λp a=>I.pin p (To _ a),I.au,I.len⟩
def O7{h b:Heap}(u:h.UpToSlots b)(f:h.Ns a m):b.Ns a m:=by
 obtain⟨o,g,i,e,c,r⟩:=f
 obtain⟨l,z⟩:=u a o e (λj q=>by rw[c] at q;cases q)
 exact⟨_,g,i,z,c,r⟩
def BN{h b:Heap}(u:h.UpToSlots b)(f:h.IsCell a v):b.IsCell a v:=by
 obtain⟨o,e,c⟩:=f
 obtain⟨i,z⟩:=u a o e (λg q=>by rw[c] at q;cases q)
 exact⟨_,z,c⟩
def Ig(u:h.UpToSlots b)(l:Look a h m x v):Look a b m x v:=by
 rcases l with l|⟨k,c,e,i⟩
 ·exact .inl l
 ·exact .inr ⟨k,c,e,BN u i⟩
def Inv.SJ(I:Inv X l σ H s)(u:s.heap.UpToSlots h1)(a:ze B X.stack S h1)(ok:dz X.prog X.w H B)(G:nX X.fs X.ex X.H₀ X.s₀.heap B)(L:∀p∈X.pn,B.get? p.1=some p.2):Inv X [] σ H { s with heap:=h1 }:=by
 obtain⟨m,Q,M⟩:=I.loc
 have up:∀b o,b∈X.fs->s.heap.get? b=some o->∃F,h1.get? b=some { o with slots:=F }:=λb o f q=>by
  obtain⟨_,t,C,R⟩:=I.ip.mem f
  rw[q] at C
  cases C
  exact u b o q R
 refine⟨I.ok,I.os,I.bare,⟨λb o q n f g=>a.st b o (G.kp b o q n f g),λb o q n f g=>?_,I.base.free,λb o q g=>?_,I.base.hU,I.base.dZ,I.base.mC⟩,
  ⟨m,O7 u Q,λi x v J O P=>let ⟨w,r,k⟩:=M i x v J O P;⟨w,r,Ig u k⟩⟩,λx c e=>let ⟨v,k⟩:=I.cell x c e;⟨v,BN u k⟩,I.free,I.cZ,λp N=>?_,ok.kept a.st,I.len⟩
 ·obtain⟨F,z⟩:=I.base.slot b o q n f g
  obtain⟨j,y⟩:=up b _ f z
  exact⟨j,y⟩
 ·by_cases f:b∈X.fs
  ·obtain⟨t,z⟩:=I.base.there b o q g
   obtain⟨j,y⟩:=up b _ f z
   exact⟨_,y⟩
  ·obtain⟨t,z⟩:=G.th b o q f g
   exact⟨t,a.st b t z⟩
 ·have h:p∈X.pn:=by simpa using N
  exact⟨a.st _ _ (L p h),(I.pin p (To _ h)).2⟩
def dz.zR(x:dz P w H h)(i:H a=none)(f:aO P w (upd H a o) h a o):dz P w (upd H a o) h:=λb u e=>by
 by_cases g:b=a
 ·subst g;rw[aF] at e;cases e;exact f
 ·rw[aG g] at e
  exact(x b u e).qH (λc v _ q=>q) (λc q=>by rw[aG (aQ q i)];exact q) λc j q=>by rw[aG (aQ q i)];exact q
def Inv.zR(I:Inv X pins σ H s)(j:H a=none)(F:X.s₀.heap.get? a=none)(t:a≠X.env.locals)(m:∀x c,X.env.cells.lookup x=some c->c≠a)(y:∀p∈X.pn++pins,p.1≠a)(h:aO X.prog X.w (upd H a u) s.heap a u):Inv X pins σ (upd H a u) s:=by
 have i:∀b v,H b=some v->b≠a:=λb v q=>aQ q j
 refine⟨I.ok,I.os,I.bare,⟨I.base.keep,I.base.slot,λb o q n r=>?_,I.base.there,λb C q=>?_,λb o v q=>?_,λb J q=>?_⟩,I.loc,I.cell,by rw[aG (VG t)];exact I.free,λx c e=>by rw[aG (m x c e)];exact I.cZ x c e,λp f=>?_,I.au.zR j h,I.len⟩
 ·rw[aG (λz=>by rw[z,F] at q;cases q)]
  exact I.base.free b o q n r
 ·have z:=I.base.hU b C q
  rw[aG (i _ _ z)];exact z
 ·have z:=I.base.dZ b o v q
  rw[aG (i _ _ z)];exact z
 ·obtain⟨g,z⟩:=I.base.mC b J q
  exact⟨g,by rw[aG (i _ _ z)];exact z⟩
 ·obtain⟨B,G,l⟩:=I.pin p f
  exact⟨B,by rw[aG (y p f)];exact G,l⟩
def Inv.OV(I:Inv X pins σ H s)(hN:X.N.Nodup)(U:X.N[i]?=some n)(hl:X.env.kindOf n=some .local)(h:∀R,Inv X pins (σ.set i none) H R->Q () R):wpAny M A (do bindName X.env n .none;unbindBehindTheSuite X.env n J) Q E s:=by
 obtain⟨m,P,W⟩:=I.loc
 refine wpAny_nameGoes_keeps hl P (by rw[I.ok.kind];rfl) λh' v C L=>h _ ?_
 have EY:=I.EY
 have ho:=P
 obtain⟨o,es,ep,go,gd,_⟩:=ho
 have keep:∀b f,b≠X.env.locals->s.heap.get? b=some f->h'.get? b=some f:=λb f l q=>(L.2 b l).trans q
 obtain⟨o',es',ep',Y,_⟩:=id C
 have a:=I.ok.above
 refine⟨I.ok,I.os,I.bare,⟨λb f q l O t=>?_,λb f q l O t=>?_,I.base.free,λb f q t=>?_,I.base.hU,I.base.dZ,I.base.mC⟩,⟨_,C,λj x w T B e3=>?_⟩,λx c e=>?_,I.free,I.cZ,λp hp=>?_,λb u q=>?_,by rw[V8];exact I.len⟩
 ·exact keep b f (λz=>by have y:=TU q;rw[z] at y;exact absurd a (ZD.mpr y)) (I.base.keep b f q l O t)
 ·obtain⟨sl,z⟩:=I.base.slot b f q l O t
  exact⟨sl,keep b _ (λy=>by have g:=TU q;rw[y] at g;exact absurd a (ZD.mpr g)) z⟩
 ·obtain⟨o2,z⟩:=I.base.there b f q t
  exact⟨o2,keep b _ (λy=>by have g:=TU q;rw[y] at g;exact absurd a (ZD.mpr g)) z⟩
 ·rw[WU] at B
  split at B
  ·split at B<;>cases B
  ·rename_i ji
   obtain⟨Z,r,k⟩:=W j x w T B e3
   have xn:x≠n:=λz=>ji (by
    subst z
    exact(XI (Te.mp U).1 hN).mp (U.trans T.symm))
   refine⟨Z,r,?_⟩
   rcases k with⟨G,F⟩|⟨G,c,F,k3⟩
   ·exact .inl ⟨G,by show(if x=n then v else m x)=_;rw[if_neg xn];exact F⟩
   ·exact .inr ⟨G,c,F,k3.sameBut L (EY x c F)⟩
 ·obtain⟨v,k⟩:=I.cell x c e
  exact⟨v,k.sameBut L (EY x c e)⟩
 ·obtain⟨y1,g,S,y4⟩:=I.pin p hp
  exact⟨keep _ _ S y1,g,S,y4⟩
 ·refine(I.au b u q).qH (λc w hc z=>keep c w (λy=>?_) z) (λ_ z=>z) λ_ _ z=>z
  rcases hc with rfl|hc
  ·rw[y,I.free] at q;cases q
  ·rw[y,I.free] at hc;cases hc
end
def IB{K:l'}{e C Cx:Addr}(X:K.In s.heap)(l:kitCls K (.ref C) (.ref Cx)=some true)(j:mroIn K Cx (.type "BaseException")=some true)
  (p:s.heap.get? e=some b)(c:b.cls=.ref C)(o:Q true s):wpAny (model a w) A (excMatches (.ref e) (.ref Cx)) Q E s:=by
 obtain⟨h,g,d,r,os⟩:=s
 obtain⟨i,LT,n⟩:=PySem.W.kit_cls (M:=model a w) X l
 have m:=looks_mroIn (M:=model a w) X j
 have LE:Looks (model a w) h (typeOf (.ref e)) (.ref C):=c ▸ (Z' p).andThen .now
 have f:Looks (model a w) h (isInstance (.ref Cx) (.type "tuple")) false:=i.andThen (.of_pure tc_notTuple)
 unfold excMatches
 repeat (first|with_reducible refine f.at ?_|with_reducible refine LT.at ?_|with_reducible refine m.at ?_|with_reducible refine LE.at ?_|with_reducible refine n.at ?_|wp_step)
 exact o
end L2
namespace DC
def endsF(K:l')(D:Ends):nZ:=⟨λδ=>∀ σ a,bG K a σ δ->D.nx σ a,λd=>∀v a,Dv K a v d->D.rt v a,λδ=>∀ σ a,bG K a σ δ->D.bk σ a,λδ=>∀ σ a,bG K a σ δ->D.ct σ a⟩
def xt{K:l'}{D:Ends}:nZ.Le (endsF K D) (e9 K H D):=⟨λδ q σ a _ r=>q σ a r,λd q v a _ dv=>q v a dv,λδ q σ a _ r=>q σ a r,λδ q σ a _ r=>q σ a r⟩
def oF(K:l')(t:fm):TS:=λD σ H=>∃ δ,bG K H σ δ/\t (endsF K D) δ
structure SG (X:Cx) (st:Stmt) (t:fm):Prop where
 ps:PS X st (oF X.K t)
 mono:uO t
structure N5 (X:Cx) (st:List Stmt) (t:fm):Prop where
 ps:kq X st (oF X.K t)
 mono:uO t
def Lw(h:jQ X a t):N5 X a t:=⟨kq.imp h.ps fun D σ H ⟨δ,r,q⟩=>⟨δ,r,h.mono _ _ _ xt q⟩,h.mono⟩
def IF{st:Stmt}(b:SG X st t)(e:N5 X a u):N5 X (st::a) (Jf t u) :=
 ⟨kq.imp (oi b.ps e.ps) fun D σ H ⟨δ,r,q⟩=>⟨δ,r,b.mono { endsF X.K D with nx:=u (endsF X.K D)} _ _ ⟨λc q g h f=>⟨c,f,q⟩,λ_ q=>q,λ_ q=>q,λ_ q=>q⟩ q⟩,
  λE i δ l q=>b.mono { E with nx:=u E } _ _ ⟨λc q=>e.mono _ _ _ l q,l.rt,l.bk,l.ct⟩ q⟩
def bG.unset{K:l'}(r:bG K H σ δ):bG K H (σ.set i none) (δ.set i none):=by
 refine⟨by rw[V8,V8];exact r.len,λj d h=>?_⟩
 rw[WU] at h ⊢
 split at h
 ·split at h<;>cases h
 ·rename_i n
  rw[if_neg n]
  exact r.get j d h
def RQ(i:Nat)(c:Addr->Prop)(j:(SD->XR)->fm)(h:Addr->fm):fm:=λE δ=>∃g:SD->XR,(∀ e C f,g e C f->c C/\∀a,h a { nx:=λb=>E.nx (b.set i none),rt:=E.rt } (e.set i (some (.exc a C f))))/\j g E δ
def Lx{Cx:Addr}(Q:X.stack=X.env::X.outer)(hfr:X.env.frame=some X.env.locals)(hex:X.ex=[])(hN:X.N.Nodup)(hi:X.N[i]?=some n)(hl:X.env.scope.names.lookup n=some .local)
  (hg:Gl X cx)(hm:X.mg cx=some (.ref Cx))(hhit:∀C,hit C->kitCls X.K (.ref C) (.ref Cx)=some true)(hbe:mroIn X.K Cx (.type "BaseException")=some true)
  (hb:∀g E' T,qk (X.sT g E') T->jQ (X.sT g E') W (tb T))(hs:∀b,jQ (X.wC (X.A.mark (some (.ref b)))) (b₀::j) (th b))(hd:autoParam ((cx == ("__debug__":Str))=false) e7) :
  SG X (.Try W [.ExceptHandler (some (.Name cx cp)) (some n) (b₀::j) Z] [] [] pos) (RQ i hit tb th):=by
 refine⟨fun g s σ H D I ⟨δ,r,T,himp,hq⟩=>?_,fun E E' δ l ⟨T,S,h2⟩=>⟨T,λδ' C gs q=>⟨(S δ' C gs q).1,λa=>(hs a).mono { nx:=λM=>E.nx (M.set i none),rt:=E.rt } _ _ ⟨λ_ z=>l.nx _ z,l.rt,λ_ z=>z,λ_ z=>z⟩ ((S δ' C gs q).2 a)⟩,
  (hb [] (λ_ _=>True) T (λ_ _ _ _ _ _ _ _ _ _ _ _ _ _ _ _=>T9)).mono _ _ _ l h2⟩⟩
 refine wpAny_Try_except ?_
 have hx:qk (X.sT g (λe s₁=>wpAny (model X.prog X.w) X.A (noteFrame e X.env) (λ_ s₂=>wpAny (model X.prog X.w) X.A (setFlight e none) (λ_ s₃=>wpAny (model X.prog X.w) X.A (handleBy e X.env [.ExceptHandler (some (.Name cx cp)) (some n) (b₀::j) Z]) (SP X g D) X.xe s₃) X.xe s₂) X.xe s₁)) T:=by
  intro l σ1 δ1 U R b C dx fs gs I1 r1 ⟨B,fl,a,ok,bn,x,pn⟩ xd df k
  obtain⟨hitC,hth⟩:=himp δ1 C gs k
  have a0:ze B (X.env::X.outer) b R.heap:=Q ▸ (show ze B X.stack b R.heap from a)
  refine Fq (env:=X.env) (outer:=X.outer) (L:=X.env.locals) (by rw[<- Q];exact I.ok.frames) hfr a0 x λh2 a2 u2 x2=>?_
  refine rh (s:={ R with heap:=h2 }) (f:=none) a2 x2 λh3 a3 u3 x3=>?_
  have I3:Inv X g σ1 U { R with heap:=h3 }:=(I1.SJ (u2.trans u3) (Q ▸ a3) ok bn pn).mM
  have he3:=x3
  obtain⟨oe,vs,Y,hc,_⟩:=he3
  have I3h:=I3.wC (A:=X.A.mark (some (.ref b))) rfl
  refine wpAny_handleBy_cons (codeAny_handlers_test (fv I3h hg hm ?_ hd)) (by intro q;cases q)
  refine IB I3.lQ (hhit C hitC) hbe Y hc ?_
  refine codeAny_handlers_suite_as (rh (s:={ R with heap:=h3 }) (f:=none) a3 x3 λh4 a4 u4 x4=>?_)
  have I4:=I1.SJ (h1:=h4) (u2.trans (u3.trans u4)) (Q ▸ a4) ok bn pn
  obtain⟨oe,vs,Y,hc,hdx,O,hz,hy,_⟩:=x4
  have hn:U b=none:=by
   cases q:U b with
   |none=>rfl
   |some u =>
    obtain⟨o,z⟩:=(ok b u q).there
    rw[a.ne] at z
    cases z
  have h0:X.s₀.heap.get? b=none:=by
   cases q:X.s₀.heap.get? b with
   |none=>rfl
   |some o =>
    by_cases hb':b∈X.fs
    ·obtain⟨_,o',q',nf⟩:=I4.ip.mem hb'
     have q2:h4.get? b=some o':=q'
     rw[Y] at q2
     cases q2
     exact absurd O (nf vs)
    ·obtain⟨o',z⟩:=bn.th b o q hb' (by show b∉X.ex;rw[hex];simp)
     rw[a.ne] at z
     cases z
  have hlo:b≠X.env.locals:=λz=>by
   obtain⟨m,⟨o,es,ep,go,gd,_⟩,_⟩:=I4.loc
   have G:h4.get? X.env.locals=some o:=go
   rw[<- z,Y] at G
   cases G
   rw[O] at gd
   cases gd
  have hce:∀x c,X.env.cells.lookup x=some c->c≠b:=λx c e z=>by
   obtain⟨v,o,go,gd⟩:=I4.cell x c e
   have G:h4.get? c=some o:=go
   rw[z,Y] at G
   cases G
   rw[O] at gd
   cases gd
  have hpn:∀p∈X.pn++g,p.1≠b:=λp Z z=>by
   have y:=pn p Z
   rw[z,a.ne] at y
   cases y
  have new:aO X.prog X.w (upd U b (fK b C dx)) h4 b (fK b C dx):=by
   unfold fK
   exact⟨⟨oe,vs,Y,hc,hdx,O,hy⟩,⟨oe,Y⟩,fun g1 g2 ⟨oe',vs',e1,rr⟩ kk=>⟨oe',vs',kk _ e1,rr⟩⟩
  have I5:Inv X g σ1 (upd U b (fK b C dx)) { R with heap:=h4 }:=(I4.zR hn h0 hlo hce (λp Z=>hpn p (by simpa using Z)) new).mM
  have sm:aH U (upd U b (fK b C dx)):=aL hn
  have dv:Dv X.K (upd U b (fK b C dx)) (.ref b) (.exc b C gs):=.exc (.of aF) (xd.same sm) (gC.same sm df)
  have I5h:=I5.wC (A:=X.A.mark (some (.ref b))) rfl
  refine tL (X:=X.wC (X.A.mark (some (.ref b)))) (v:=.ref b) I5h hN hi (.inl hl) rfl (λs6 I6=>?_) (.inr hl)
  have r6:=(bG.same r1 sm).set i dv
  refine wpAny_mono ((hs b).ps g s6 _ _ { nx:=λσ'' P=>D.nx (σ''.set i none) P,rt:=D.rt } I6 ⟨_,r6,(hs b).mono { nx:=λM=>(endsF X.K D).nx (M.set i none),rt:=(endsF X.K D).rt } _ _ ⟨λM q σ'' P _ r''=>q _ _ r''.unset,λd q v P _ dv=>q v P dv,λ_ q=>q.elim,λ_ q=>q.elim⟩ (hth b)⟩) (λf s7 h7=>?_) λ_ _ z=>z.elim
  cases f with
  |next =>
   obtain⟨J,t,F,q⟩:=h7
   exact(F.HA I.ok).OV hN hi hl λs8 I8=>⟨_,t,I8,q⟩
  |ret w =>
   obtain⟨v,J,t,F,rv,q⟩:=h7
   exact(F.HA I.ok).OV hN hi hl λs8 I8=>⟨v,_,t,I8,rv,q⟩
  |brk =>
   obtain⟨J,t,F,q⟩:=h7
   exact q.elim
  |cont =>
   obtain⟨J,t,F,q⟩:=h7
   exact q.elim
 have B:=hb g _ T hx
 refine wpAny_mono (B.ps [] s σ H D I.sT ⟨δ,r,B.mono _ _ _ xt hq⟩) (λf R S=>?_) λe R h=>h
 cases f with
 |next =>
  obtain⟨J,t,F,q⟩:=S
  exact WI ⟨J,t,F.mM,q⟩
 |ret w =>
  obtain⟨v,J,t,F,rv,q⟩:=S
  exact⟨v,J,t,F.mM,rv,q⟩
 |brk =>
  obtain⟨J,t,F,q⟩:=S
  exact⟨J,t,F.mM,q⟩
 |cont =>
  obtain⟨J,t,F,q⟩:=S
  exact⟨J,t,F.mM,q⟩
end DC
namespace L2
structure fL (k:Nat) (A:Around):Prop where
 dp:A.depth+3*k+5<aAh
 un:A.units+16*k+200<cLine
def fL.deeper(r:fL (k+1) A)(a:Env):fL k (A.deeper a) :=
 ⟨by have:=r.dp;show A.depth+1+3*k+5<_;omega,by have:=r.un;show A.units+3+16*k+200<_;omega⟩
def fL.mono(r:fL k A)(h:j<=k):fL j A:=⟨by have:=r.dp;omega,by have:=r.un;omega⟩
def bZ.mark(r:bZ k A)(v:Option Value):fL k (A.mark v):=⟨r.dp,r.un⟩
structure BG (P:TV) (w:World) (K:l') (mg:Str->Option Value) (base:Heap) (k:Nat) (f:Addr) (fd:UE) (ps:List Str) (sp:Sp):Prop where
 len:∀vs H Q E,sp vs H Q E->vs.length=ps.length
 run:∀(A:Around) (outer:List Env) (s:Shared) (H:Hp) (args:Args) (us:List Value) (vs:List V) (Q:VK) (E:XK),fL k A->bp A H->qj P w K mg base A outer s H->BindsTo s fd args (ps.zip us)->Vals vs us->sp vs H Q E ->
  VQ (model P w) A (.call (.ref f) args) (CR nY outer P w H s Q E) s
abbrev QP(P:TV)(w:World)(K:l')(mg:Str->Option Value)(base:Heap)(N:List Str)(b:Str)(a:Scope)(f:Addr)(cd:Value)(A:Around)(outer:List Env)(s:Shared)(H:Hp)(E:XK):Cx :=
 (n9 nY P w K mg base N b a f cd { A with handled:=none } outer s H E).wC (A.deeper (envOfC b a s.heap.objs.size f cd))
def Bh{σ:St}(h:bp X.A X.H₀)(I:Inv X a σ H s):jO X.A s.heap:=by
 rcases h with h|⟨b,o,u,c,e,f,g,i⟩
 ·exact .inl h
 ·exact .inr ⟨b,o,c,e,(I.au b _ (I.base.dZ b o u f)).1,g,i⟩
def E7{K:l'}{dV kV U pm i ct oc:Value}
  (lk:K.lookup f=some ⟨oc,od,.func (fnOf B g j m a dV kV U pm an i ct),osl⟩)(hcd:codeIn K i g=true)(S:aD N W a)
  (T:∀p H Q E,sp p H Q E->p.length=W.length)
  (C:∀(A:Around) (c:List Env) (s:Shared) (H:Hp) (p:List V) (Q:VK) (E:XK),fL k (A.deeper (envOfC g a s.heap.objs.size f i))->bp A H->sp p H Q E ->
   ∃t,kq (QP P w K M h N g a f i A c s H E) m t/\t { nx:=λ_ z=>Q .ae z,rt:=Q } (start N p) H) :
  BG P w K M h (k+1) f (fnOf B g j m a dV kV U pm an i ct) W sp:=by
 refine⟨T,λA c s H args us p Q E hr hh l hb r O=>?_⟩
 have hl:=T _ _ _ _ O
 have KX:K.In s.heap:=l.mod.FN.keeps λb o e=>(l.bs b o e).1
 have lim:s.heap.NoLimit:=l.mod.nolimit.keeps λb o e=>(l.bs b o e).1
 have F:∀y∈W.zip us,a.names.lookup y.1=some .local\/(a.names.lookup y.1=some .cell/\((cellsFrom (s.heap.objs.size+1) a.names []).lookup y.1).isSome=true):=fun⟨n,v⟩ hy=>by
  rcases S.par n (V7 hy).1 with q|q
  ·exact .inl q
  ·exact .inr ⟨q,Wa _ _ _ (.inl q)⟩
 refine ZJ (by have:=hr.dp;omega) (KX _ _ lk) rfl S.co S.gen rfl (YK KX hcd) (hb _ _ _ _ ?_)
 refine YE S.kind F λenv he Y x=>?_
 subst he
 refine⟨lim.keeps x.toInCall.keep,codeAny_func ?_⟩
 obtain⟨t,ht,hq⟩:=C A c s H p Q E (hr.deeper _) hh O
 have e1:qj P w K M h { A with handled:=none } c s H:=⟨l.frames,l.mod,l.bs,l.Ci,l.ip,l.C7,l.au,l.bare⟩
 have I0:Inv (n9 nY P w K M h N g a f i { A with handled:=none } c s H E) [] (start N p) H Y:=ui S rfl e1 hl r x
 have I:Inv (QP P w K M h N g a f i A c s H E) [] (start N p) H Y:=I0.wC (by first|rfl|(show(A.deeper _).frames=({ A with handled:=none }.deeper _).frames;rfl))
 refine wpAny_mono (ht [] Y (start N p) H _ I hq) (λfl X G=>?_) λe X G=>UI G
 have R:∀{L:St} {z:Hp} {v:V} {u:Value},Inv (QP P w K M h N g a f i A c s H E) [] L z X->RelV v u->Q v z->CE c P w H s Q u X :=
  fun{L z v u} J Z q=>⟨v,z,J.os,J.bare,J.base,J.au,Z,q⟩
 cases fl with
 |ret u =>
  obtain⟨v,L,z,J,Z,q⟩:=G
  exact R J Z q
 |next =>
  obtain⟨L,z,J,q⟩:=G
  exact R (v:=V.ae) (u:=T5) J rfl q
 |brk =>
  obtain⟨L,z,J,q⟩:=G
  exact UI q
 |cont =>
  obtain⟨L,z,J,q⟩:=G
  exact UI q
def wm{σ:St}(F:BG X.prog X.w X.K X.mg X.base k f G o p)(M:fL k X.A)(y:bp X.A (dq s.heap H))(N:Binds X.K G o [])
  (I:Inv X a σ H s)(r:Vals m g)(h:p m (dq s.heap H) Q' E0)(x:∀v c,(∀b u,HO.data u->Rd c b u->Rd (cb H c) b u)->Q' v c->Q v (cb H c)):wpAny (model X.prog X.w) X.A (call (.ref f) g) (EP X a σ Q) X.xe s:=by
 have E:g.length=o.length:=by rw[<- r.length];exact F.len _ _ _ _ h
 have j:=N s g I.lQ (by rw[UD];exact E)
 rw[UD] at j
 refine wpAny_call (codeAny_mono (F.run X.A X.stack s _ ⟨g,[]⟩ g m Q' E0 M y I.Ew.eu j r h) λr B l=>?_)
 cases r with
 |error e=>exact UI l
 |ok C =>
  cases C with
  |ret u =>
   obtain⟨v,c,os,i,un,n,L,q⟩:=(show CE X.stack X.prog X.w (dq s.heap H) s Q' u B from l)
   have t:LG s.heap H c:=⟨un.hU,un.dZ⟩
   exact⟨v,cb H c,I.uW (ch:=[]) os (un.cb I.au) (I.au.cb t n) i (λb z=>absurd z (by simp)),L,x v c (λb u J r=>r.cb I.au t n J) q⟩
  |next=>exact UI l
  |brk=>exact UI l
  |cont=>exact UI l
end L2
namespace DC
def Sb(K:l')(b:cI):Sp:=λvs H Q _=>∃ds,bA K H vs ds/\b ds (λd=>∀v a,Dv K a v d->Q v a)
abbrev HQ(P:TV)(w:World)(K:l')(mg:Str->Option Value)(base:Heap)(N:List Str)(a:Str)(st:Stmt)(f:Addr)(b:Value)(A:Around)(outer:List Env)(s:Shared)(H:Hp)(E:XK):Cx:=QP P w K mg base N a (aB st) f b A outer s H E
section
variable {P:TV}{w:World}{K:l'}{mg:Str->Option Value}{base:Heap}
def Sz{st:Stmt}(F:tq K x b st f p)(S:aD N n (aB st))(o:∀e Q,l e Q->e.length=n.length)
  (J:∀(c:Value) (A:Around) (a:List Env) (s:Shared) (H:Hp) (E:XK),fL k (A.deeper (envOfC b (aB st) s.heap.objs.size f c))->bp (HQ P w K mg base N b st f c A a s H E).A (HQ P w K mg base N b st f c A a s H E).H₀->jQ (HQ P w K mg base N b st f c A a s H E) (af st) t)
  (I:∀e Q,l e Q->t { nx:=λ_=>Q .ae,rt:=Q } (bS N e)):BG P w K mg base (k+1) f p n (Sb K l):=by
 obtain⟨O,X,R,kV,M,T,U,c,W,L,rfl,z,m⟩:=F.ex
 refine E7 z m S (fun y H Q E ⟨e,i,h⟩=>by rw[i.length];exact o e _ h) ?_;rintro A a s H y Q E g C ⟨e,i,h⟩
 have B:=J c A a s H E g C
 refine⟨_,B.ps,bS N e,dk i,?_⟩
 let u:D->Prop:=λd=>∀v j,Dv K j v d->Q v j
 exact B.mono { nx:=λ_=>u .ae,rt:=u } _ _ ⟨λδ q σ j G r=>q _ j .ae,λd q v j G dv=>q v j dv,λ_ q=>q.elim,λ_ q=>q.elim⟩ (I e _ h)
structure iL (P:TV) (w:World) (K:l') (mg:Str->Option Value) (base:Heap) (k:Nat) (x:Str) (ps:List Str) (sd:cI):Prop where
 ex:∃f fd,BG P w K mg base k f fd ps (Sb K sd)/\mg x=some (.ref f)/\keepIn K (.ref f)=true/\Binds K fd ps []
 ms:cN sd
def Df.Hg{st:Stmt}(d:Df K mg x st g)(S:aD N g (aB st))(i:cN sd)(h:∀e Q,sd e Q->e.length=g.length)
  (j:∀(f:Addr) (c:Value) (A:Around) (a:List Env) (s:Shared) (H:Hp) (E:XK),fL k (A.deeper (envOfC x (aB st) s.heap.objs.size f c))->bp (HQ P w K mg base N x st f c A a s H E).A (HQ P w K mg base N x st f c A a s H E).H₀->jQ (HQ P w K mg base N x st f c A a s H E) (af st) t)
  (n:∀e Q,sd e Q->t { nx:=λ_=>Q .ae,rt:=Q } (bS N e)):iL P w K mg base (k+1) x g sd:=by
 obtain⟨f,l,F,m,b⟩:=d.ex
 exact⟨⟨f,l,Sz (xx F) S h (j f) n,m,F.kp,b⟩,i⟩
def RM{st:Stmt}{t:XR->fm}(F:tq K x b st f p)(S:aD N n (aB st))(o:∀e Q R,l e Q R->e.length=n.length)
  (G:∀(c:Value) (A:Around) (a:List Env) (s:Shared) (H:Hp) (E:XK) (R:XR),bZ k (A.deeper (envOfC b (aB st) s.heap.objs.size f c))->qk (D_ P w K mg base N b st f c A a s H E) (λ_=>R)->N5 (D_ P w K mg base N b st f c A a s H E) (af st) (t R))
  (C:∀e Q R,l e Q R->t R { nx:=λ_=>Q .ae,rt:=Q } (bS N e)):cE P w K mg base (xJ P w) (k+1) f p n (NQ K l):=by
 obtain⟨L,W,M,kV,J,O,T,c,U,I,rfl,z,m⟩:=F.ex
 refine Be z m S (fun y H Q E ⟨e,i,h⟩=>by rw[i.length];exact o e _ _ h) ?_;rintro A a s H y Q E g ⟨e,i,h⟩
 have B:=G c A a s H E (kX K E) g KO
 refine⟨_,B.ps,bS N e,dk i,?_⟩
 let u:D->Prop:=λd=>∀v j,Dv K j v d->Q v j
 exact B.mono { nx:=λ_=>u .ae,rt:=u } _ _ ⟨λδ q σ j r=>q _ j .ae,λd q v j dv=>q v j dv,λ_ q=>q.elim,λ_ q=>q.elim⟩ (C e _ _ h)
def Df.N_{st:Stmt}{t:XR->fm}(d:Df K mg x st g)(S:aD N g (aB st))(i:xQ sx)(h:∀e Q R,sx e Q R->e.length=g.length)
  (j:∀(f:Addr) (c:Value) (A:Around) (a:List Env) (s:Shared) (H:Hp) (E:XK) (R:XR),bZ k (A.deeper (envOfC x (aB st) s.heap.objs.size f c))->qk (D_ P w K mg base N x st f c A a s H E) (λ_=>R)->N5 (D_ P w K mg base N x st f c A a s H E) (af st) (t R))
  (n:∀e Q R,sx e Q R->t R { nx:=λ_=>Q .ae,rt:=Q } (bS N e)):vY P w K mg base (k+1) x g sx:=by
 obtain⟨f,l,F,m,b⟩:=d.ex
 exact⟨⟨f,l,RM (xx F) S h (j f) n,m,F.kp,b⟩,i⟩
end
section
variable {X:Cx}{e:Expr}{es:List Expr}{t:AD}{pos p:Pos}{x:Str}{j k:Nat}{ps:List Str}{sd:cI}{ea:Addr}
def Nd(c:Addr)(b:cI)(t:AD):ED:=λδ Q=>t δ λa=>(∃C f,D.exc c C f∈a)/\b a Q
def Ez{K:l'}{H:Hp}{C:Addr}{c:List (Str × D)}:∀{b:List V} {a:List D},bA K H b a->D.exc ea C c∈a->∃g,Rd H ea (fK ea C g)
 |_,_,.cons dv r,h=>by
  rcases Gc.mp h with h|h
  ·subst h
   cases dv with
   |exc f _ _=>exact⟨_,f⟩
  ·exact Ez r h
def yC(m:A.handled=some (.ref ea))(ok:dz P w H h)(r:Rd H ea (fK ea C a)):bp A (dq h H):=by
 have z:=r.eu ok (show HO.data (fK ea C a) from T9)
 obtain⟨⟨f,c,b,_,_,i,l⟩,_⟩:=(show aO P w (dq h H) h ea (fK ea C a) from z.ok ok.eu)
 rcases z with z|⟨o,z⟩
 ·exfalso
  rcases r with r|⟨o,r⟩
  ·rcases ik ok r with⟨_,q⟩|⟨o,_,q⟩
   ·rcases q with⟨_,q⟩|⟨_,_,q⟩|⟨_,_,q,_⟩<;>cases q
   ·rw[q] at z;cases z
  ·rw[qy r] at z;cases z
 ·have g:=(ok.eu ea _ z).1
  rw[b] at g
  cases g
  exact .inr ⟨ea,f,_,c,m,z,i,l⟩
def LU(W:X.A.handled=some (.ref ea))(c:iL X.prog X.w X.K X.mg X.base j x ps sd)(S:fL k X.A)(L:j<=k)(hg:Gl X x)(E:iZ X (e::es) t)(y:autoParam ((x == ("__debug__":Str))=false) e7)
  (T:autoParam (starEach (e::es) X.env=(false,eval e X.env)::starEach es X.env) dI)(B:autoParam ((backTo pos (starEach es X.env)).any (·.1)=false) dI):PD X (.Call (.Name x p) (e::es) [] pos) (Nd ea sd t):=by
 obtain⟨f,fd,F,R,N,Y⟩:=c.ex
 refine⟨ ?_,λδ P P' g h=>E.mono _ _ _ (fun a ⟨o,q⟩=>⟨o,c.ms _ _ _ g q⟩) h⟩;rintro i s σ H Q I ⟨δ,r,h⟩
 refine Ug (fv I hg R ?_ y)
 refine V_ (h₀:=X.base) I.ok.mod.FN N (bg (E.pa pos i s σ H (λn m=>aH H m/\∃a,bA X.K m n a/\(∃C J,D.exc ea C J∈a)/\sd a (kD X.K H Q)) I ⟨δ,r,E.mono _ _ _ (λa q n m G dv=>⟨G,a,dv,q⟩) h⟩) λus G ⟨n,m,l,M,U,a,dv,⟨C,J,o⟩,q⟩=>⟨l.lQ,?_⟩) T B
 obtain⟨dx,rd⟩:=Ez dv o
 refine wm (Q':=BM X.K (kD X.K H Q)) F (S.mono L) (yC W l.au rd) Y l M ⟨a,(dv.rd λb u O z=>z.eu l.au O),c.ms _ _ _ (λd q v Z dv=>⟨d,dv,q⟩) q⟩ ?_
 rintro v Z rd ⟨d,dv,q⟩
 exact q v _ (U.trans (jJ _ _)) (dv.rd rd)
end
end DC
namespace L2
structure jN (K:l') (C:Addr):Prop where
 ga:findIn K (.ref C) "__getattribute__"=some (some (.builtin "BaseException.__getattribute__"))
 na:findIn K (.ref C) "__getattr__"=some none
 be:mroIn K C (.type "BaseException")=some true
def EX{K:l'}(X:K.In s.heap)(I:InstAt s.heap x n C p)(g:jN K C)(i:Q () s):wpAny (model b w) A (checkBuiltinCall "BaseException.__getattribute__" ⟨[.ref x,e],[]⟩) Q E s:=by
 have l:builtinKind "BaseException.__getattribute__"=some .slot:=by decide +kernel
 have a:splitId "BaseException.__getattribute__"=some ("BaseException","__getattribute__"):=by decide +kernel
 have h:=PySem.F.args_bexc_ga (.ref x) e
 have j:=I.type (M:=model b w)
 have m:=looks_mroIn (M:=model b w) X g.be
 simp only[checkBuiltinCall,l,a]
 unfold isInstance
 refine wpAny_bind (wpAny_bind (j.at (m.at ?_)))
 unfold argsOk at h
 simp only[Bool.not_true,Vj,if_false]
 generalize X3 "BaseException.__getattribute__"=o at h ⊢
 cases o with
 |none=>exact wpAny_pure i
 |some c =>
  have f:Wz "BaseException.__getattribute__" c { pos:=[Td x,e] }=pure ():=h
  show wpAny _ _ (Wz "BaseException.__getattribute__" c { pos:=[Td x,e] }) _ _ _
  rw[f]
  exact wpAny_pure i
def F1{K:l'}(X:K.In s.heap)(I:InstAt s.heap x j C g)(f:X8 K C g b=some (.value v))(h:c (.done (.ret v)) s):wpAny (model a w) A (Builtin.«object.__getattribute__» ⟨[.ref x,.str b l],[]⟩) c E s:=by
 have e:=I.type (M:=model a w)
 have i:=YJ (M:=model a w) X I f
 refine wpAny_bind (wpAny_pure (wpAny_bind (wpAny_pure (wpAny_bind (e.at (wpAny_bind (i.at (wpAny_pure h))))))))
def F0{K:l'}(X:K.In s.heap)(I:InstAt s.heap x ox C od)(j:X8 K C od c=some (.bind g a))(h:wpAny (model b w) A (call g [a,.ref x,.ref C]) (λv f=>e (.done (.ret v)) f) E s):wpAny (model b w) A (Builtin.«object.__getattribute__» ⟨[.ref x,.str c m],[]⟩) e E s:=by
 have i:=I.type (M:=model b w)
 have l:=YJ (M:=model b w) X I j
 refine wpAny_bind (wpAny_pure (wpAny_bind (wpAny_pure (wpAny_bind (i.at (wpAny_bind (l.at ?_)))))))
 show wpAny _ _ (holding [a] (call g [a,.ref x,.ref C]) >>= ret) _ _ _
 exact wpAny_bind (wpAny_holding (wpAny_mono h (λv f z=>wpAny_pure z) λ_ _ z=>z))
def EO{K:l'}{fill b:Bool}(X:K.In s.heap)(I:InstAt s.heap x ox C od)(g:jN K C)
  (h:wpAny (model a w) A.in1 (Builtin.«object.__getattribute__» ⟨[.ref x,.str c l],[]⟩) (λe m=>match e with|.done (.ret v)=>wpAny (model a w) A (handedOut v) Q E m|_=>False) (λ_ _=>False) s) :
  wpAny (model a w) A (getAttrBy (.ref x) (.str c l) fill b) Q E s:=by
 have n:=I.type (M:=model a w)
 have r:=looks_findIn (M:=model a w) X g.ga
 have p:=looks_findIn (M:=model a w) X g.na
 have o:=Xp.ga.bind (.ref x)
 have j:(b&&onTheHeap (WO "BaseException.__getattribute__"))=false:=by cases b<;>rfl
 have i:(WO "BaseException.__getattribute__" == WO "object.__getattribute__")=false:=by decide +kernel
 have f:(onTheHeap (Td C)&&WO "BaseException.__getattribute__" == WO "object.__getattribute__")=false:=by rw[i];rfl
 unfold getAttrBy
 refine wpAny_holding (wpAny_bind (n.at (wpAny_bind (r.at ?_))))
 simp only[f]
 show wpAny _ _ (getAttrByItsOwn (.ref x) (.str c l) (.ref C) (.builtin "BaseException.__getattribute__") fill b) _ _ _
 unfold getAttrByItsOwn hookBefore
 refine wpAny_bind (p.at (wpAny_bind (wpAny_attempt (wpAny_holding ?_))))
 unfold callGetattribute
 rw[j]
 show wpAny _ _ (boundAndCalled _ _ _) _ _ _
 unfold boundAndCalled
 rw[o]
 refine wpAny_bind (wpAny_pure (wpAny_call (codeAny_call_builtin Xp.ga.plain PySem.F.entry_bexc_ga (EX X I g (wpAny_mono h (λe m z=>?_) λ_ _ z=>z.elim)))))
 rcases e with(_|_|_|_)|_<;>first|exact z|exact z.elim
def II{K:l'}(X:K.In s.heap)(I:InstAt s.heap x m C j)(g:jN K C)(i:X8 K C j b=some (.value v))(l:ZT v=true)(h:Q v { s with toks:=s.toks+1 }):wpAny (model c w) A (getAttr (.ref x) b a) Q E s:=by
 obtain⟨e,f,d,t,os⟩:=s
 unfold getAttr
 exact wpAny_bind (wpAny_mkText (EO (s:=⟨e,f,d,t+1,os⟩) X I g (F1 (s:=⟨e,f,d,t+1,os⟩) X I i (YY l h))))
def Hk{K:l'}(X:K.In s.heap)(I:InstAt s.heap x e C od)(g:jN K C)(f:X8 K C od "__class__"=some (.bind (.builtin "getset_descriptor.__get__") (.builtin "object.__class__")))(i:mroIn K C (.type "object")=some true)(h:Q (some (.ref C)) { s with toks:=s.toks+1 }):wpAny (model c w) A (getAttr? (.ref x) "__class__") Q E s:=by
 obtain⟨a,b,d,t,os⟩:=s
 unfold getAttr? getAttrBy?
 refine wpAny_bind (wpAny_mkText (wpAny_bind (wpAny_attempt (EO (s:=⟨a,b,d,t+1,os⟩) X I g (F0 (s:=⟨a,b,d,t+1,os⟩) X I f (wpAny_call (PySem.W.class_get (s:=⟨a,b,d,t+1,os⟩) (ox:=e) (od:=od) X I i ?_)))))))
 exact YY rfl (wpAny_pure h)
structure nh (K:l') (C:Addr):Prop where
 pg:jN K C
 cl:(clsIn K C).isSome=true
 ha:findIn K (.ref C) "__class__"=some (some (.builtin "object.__class__"))
 hn:Yw K (.builtin "object.__class__") "__get__"=some (some (.builtin "getset_descriptor.__get__"))
 Q2:Zy K (.builtin "object.__class__")=some true
 hm:mroIn K C (.type "object")=some true
def nh.look{K:l'}(t:nh K C):∃c d cd b,K.lookup C=some ⟨c,d,.cls cd,b⟩:=by
 obtain⟨cd,a⟩:=VC.mp t.cl
 unfold clsIn at a
 split at a
 ·exact⟨_,_,_,_,by assumption⟩
 ·cases a
def FO{K:l'}(t:nh K C):ZV K (.ref x) (.ref C) (λh=>InstAt h x ox C od) where
 ty:=λ_ _ _ I=>I.type
 it:=λ_ _ X _ u m o v k q=>by
  obtain⟨c,d,cd,j,b⟩:=t.look
  unfold isType loadHead;exact wpAny_bind (wpAny_loadPart (k _ _ (X _ _ b)) (wpAny_pure q))
 ne:=λh r p l n j X a=>by
  obtain⟨c,d,cd,g,b⟩:=t.look
  refine Bool.eq_false_iff.mpr λq=>?_
  rw[<- aB8 (beq_iff_eq.mp q),X _ _ b] at a
  cases a
 ca:=fun{f w A E Q s} X I k=>by
  obtain⟨cd,e⟩:=VC.mp t.cl
  have i:X8 K C od "__class__"=some (.bind (.builtin "getset_descriptor.__get__") (.builtin "object.__class__")):=by
   unfold X8;rw[e,XG,t.ha,XG];simp[t.hn,t.Q2]
  exact Hk X I t.pg i t.hm k
def E1(ok:dz P w H h)(r:Rd H a (DC.fK a C f))(m:DC.hW H f fs):∃ox od,InstAt h a ox C od:=by
 obtain⟨⟨j,o,i,g,b,l,_⟩,_⟩:=(show aO P w H h a (DC.fK a C f) from r.ok ok)
 cases f with
 |none=>exact⟨j,none,i,g,by unfold notCls;rw[l],by rw[b];exact T9⟩
 |some d =>
  obtain⟨⟨n,⟨od,s,t,e,c⟩,p⟩,_⟩:=(show aO P w H h d (DC.vm d fs) from Rd.ok m ok)
  exact⟨j,some od,i,g,by unfold notCls;rw[l],by rw[b];exact e⟩
def xX:∀{bs:List Bool} {us:List Value},Vals (bs.map V.bl) us->us=bs.map Vu
 |[],_,.nil=>rfl
 |b::bs,_,.cons h r=>by
  rw[TM,<- xX r]
  exact congrArg (·::_) h
def DW:N2 X "list.index" (λx p H Q=>∃(a:Addr) (bs:List Bool) (j:Nat),x=.ref a/\p=[.bl true]/\cW X.K H a (bs.map V.bl)/\bs[j]?=some true/\(∀m,m<j->bs[m]?=some false)/\j<1000/\Q (.int (j:Int)) H):=by
 intro l s σ H x p v P Q I M B h
 obtain⟨a,bs,j,rfl,rfl,E,r,N,R,q⟩:=h
 cases M
 obtain⟨u,rfl,J⟩:=B.one
 cases(show u=Vu true from J)
 obtain⟨i,G,⟨o,n,e,F,_,d⟩,_⟩:=I.list E
 obtain⟨w,L,c,g⟩:=o
 cases(show w=VY "list" from F)
 cases(show c=Ya i.toArray n from d)
 have A:=xX G
 subst A
 have t:j<bs.length:=(Te.mp r).1
 refine call_meets V3 ⟨_,e,rfl⟩ ZZ (ZM _ _) (Ym a _ n L g (.bool true) (λy=>y == Vu true) j (by simpa using t) (by omega) ?_ ?_) ⟨e,λy C=>?_,?_⟩
 ·have z:=(Te.mp r).2
  simp[z]
 ·intro m O f
  have z:=(Te.mp (N m f)).2
  simp[z]
 ·obtain⟨b,_,rfl⟩:=Tj.mp (Wd.mp C)
  cases b<;>exact Xm _ _
 ·exact⟨.int (j:Int),H,I.tok _,⟨s.toks,rfl⟩,q⟩
end L2
namespace DC
section
variable {X:Cx}{o e:Expr}{es:List Expr}{te to:ED}{t:AD}{pos p p2 apos cpos:Pos}
def uY(A:∀u,RelV j u->u=c):gH X (.builtin "isinstance") (λl H Q=>∃x a C g b,l=[x,j]/\Dv X.K H x (.exc a C g)/\nh X.K C/\kitOne X.K (.ref C) c=some b/\Q (.bl b) H):=by
 intro i s σ H l G Q I r h
 obtain⟨x,a,C,g,b,rfl,dv,n,e,q⟩:=h
 obtain⟨u,v,rfl,m,y⟩:=vals2 r
 obtain rfl:=A v y
 cases dv with
 |exc w B F =>
  cases(show u=Td a from m)
  obtain⟨f,od,J⟩:=E1 I.au w B
  exact Yx (FO (ox:=f) (od:=od) n) I.lQ J e (λz=>nomatch z) λE=>⟨.bl b,H,I.tok _,rfl,q⟩
def HE(K:l')(c:Value)(f:ED):ED:=λδ Q=>f δ λd=>∃a C g b,d=.exc a C g/\nh K C/\kitOne K (.ref C) c=some b/\Q (.bl b)
def ue(he:PD X e te)(s:PE X (.Call (.Name "isinstance" p) [e,m] [] pos) (Py (λw H Q=>∃x a C f b,w=[x,vc]/\Dv X.K H x (.exc a C f)/\nh X.K C/\kitOne X.K (.ref C) c=some b/\Q (.bl b) H) (vS (oE X.K te) (vS (tC vc) Gw)))) :
  PD X (.Call (.Name "isinstance" p) [e,m] [] pos) (HE X.K c te) :=
 ⟨s.imp fun σ H Q ⟨δ,r,h⟩=>⟨δ,r,he.mono _ _ _ (fun d ⟨a,C,f,b,i,j,l,k⟩ v n u dv=>⟨v,a,C,f,b,rfl,i ▸ dv,j,l,k _ n u (.bl _)⟩) h⟩,λδ P y g h=>he.mono _ _ _ (fun d ⟨a,C,f,b,i,j,l,k⟩=>⟨a,C,f,b,i,j,l,g _ k⟩) h⟩
def d9(K:l')(h:X.K=K)(c:PD X e te)(i:Gl X "isinstance")(g:X.mg "isinstance"=none)(a:Gl X x)(b:X.mg x=some (.ref C))(j:autoParam ((x == ("__debug__":Str))=false) e7)
  (f:autoParam (starEach [e,.Name x p2] X.env=(false,eval e X.env)::starEach [.Name x p2] X.env) dI):PD X (.Call (.Name "isinstance" p) [e,.Name x p2] [] pos) (HE K (.ref C) te):=by
 subst h
 exact ue (vc:=.ref C) c (dA (uY λu z=>z) i g W2 (cU c.pe (cU (wZ (v:=.ref C) a b rfl j) gX) f) (he:=f))
def Hr(K:l')(j:X.K=K)(f:PD X e te)(l:Gl X "isinstance")(h:X.mg "isinstance"=none)(b:Gl X x)(c:X.mg x=none)(a:UR x=some (.type T))(i:autoParam (x≠"__name__") e7)(m:autoParam ((x == ("__debug__":Str))=false) e7)
  (g:autoParam (starEach [e,.Name x p2] X.env=(false,eval e X.env)::starEach [.Name x p2] X.env) dI):PD X (.Call (.Name "isinstance" p) [e,.Name x p2] [] pos) (HE K (.type T) te):=by
 subst j
 exact ue (vc:=.ty T) f (dA (uY λu z=>z) l h W2 (cU f.pe (cU (B4 (v:=.ty T) b c a rfl i m) gX) g) (he:=g))
def J8(a:ED)(t:AD):ED:=λδ Q=>a δ λd=>∃bs:List Bool,d=.lst (bs.map D.bl)/\t δ λb=>b=[.bl true]/\∃j:Nat,bs[j]?=some true/\(∀m,m<j->bs[m]?=some false)/\j<1000/\Q (.int (j:Int))
def Ei(y:PD X o to)(C:iZ X (e::es) t)(i:autoParam (UZ o "index" X.env (eval o X.env)=eval o X.env) dI)
  (l:autoParam (((backTo cpos (starEach (e::es) X.env)).all (λx=>!x.1)&&(backToKw cpos (keywordEach [] X.env)).all (λx=>x.1.isSome)&&decide ((e::es).length+([]:List VN).length+(if([]:List VN).isEmpty then 0 else 1)<30))=true) dI)
  (f:autoParam ((apos.endLine == cpos.line)=true) dI)(G:autoParam (starEach (e::es) X.env=(false,eval e X.env)::starEach es X.env) dI)(c:autoParam ((backTo cpos (starEach es X.env)).any (·.1)=false) dI) :
  PD X (.Call (.Attribute o "index" apos) (e::es) [] cpos) (J8 to t):=by
 refine⟨(sS Ui V3 Xn DW y.pe C.pa i l f G c).imp fun σ H Q ⟨δ,r,h⟩=>⟨δ,r,y.mono _ _ _ (fun z ⟨bs,n,q⟩ v M F dv=>?_) h⟩,
  λδ P N g h=>y.mono _ _ _ (fun z ⟨bs,n,q⟩=>⟨bs,n,C.mono _ _ _ (fun I ⟨A,j,s,B,m,k⟩=>⟨A,j,s,B,m,g _ k⟩) q⟩) h⟩
 subst n
 cases dv with
 |lst w J =>
  rw[xF J] at w
  refine⟨.inl ⟨rfl,_,w⟩,δ,r.same F,C.mono _ _ _ (?_) q⟩;rintro I ⟨A,j,s,B,m,k⟩ L O E u
  subst A
  cases u with
  |cons a b =>
   cases a
   cases b
   exact⟨_,bs,j,rfl,rfl,E.seq w,s,B,m,k _ _ (F.trans E) (.int _)⟩
end
end DC
namespace L2
open Builtin Builtin.ObjectAttr
def fq:List Value->Bool
 |.ref _::r=>fq r
 |[.type a,.type b,.type c,.type d]=>a == "ValueError"&&b == "Exception"&&c == "BaseException"&&d == "object"
 |_=>false
def rD:∀{l:List Value},fq l=true->∃f:List Addr,l=f.map Td++[.type "ValueError",.type "Exception",.type "BaseException",.type "object"]
 |.ref a::r,e=>by
  obtain⟨f,h⟩:=rD (l:=r) (by unfold fq at e;exact e)
  exact⟨a::f,by rw[h];rfl⟩
 |[.type a,.type b,.type c,.type d],e=>by
  unfold fq at e
  simp only[Tw,beq_iff_eq] at e
  obtain⟨⟨⟨rfl,rfl⟩,rfl⟩,rfl⟩:=e
  exact⟨[],rfl⟩
def Aw(b:Value)(e:fq l=true):refuseLoop b "__setattr__" l=pure ():=by
 obtain⟨f,rfl⟩:=rD e
 induction f with
 |nil=>exact PySem.F.store_ValueError.passes b
 |cons a r c=>rw[TM,Vy,refuseLoop_ref];exact c (by unfold fq at e;exact e)
def Fz(e:fq l=true):l.contains (.type "object")=true:=by
 obtain⟨a,rfl⟩:=rD e
 simp
structure nC (K:l') (C:Addr):Prop where
 sa:findIn K (.ref C) "__setattr__"=some (some (.builtin "object.__setattr__"))
 ov:((clsIn K C).any λcd=>fq cd.mro)=true
 hd:Vh K C=true
def B2{K:l'}(X:K.In s.heap)(I:InstAt s.heap x p C u)(g:nC K C)(o:findIn K (.ref C) b=some none)
  (h:wpAny (model a w) A.in1 (storeInOwnDict (.ref x) (.ref C) (.str b i) b v false) (λm j=>match m with|.done f=>R (.ok f) j|.again c'=>c'.quiet=true/\VQ (model a w) A c' R j) (λe j=>R (.error e) j) s) :
  VQ (model a w) A (.call (.builtin "object.__setattr__") ⟨[.ref x,.str b i,v],[]⟩) R s:=by
 have c:=PySem.F.store_object
 obtain⟨cd,n,l⟩:=ZU g.ov
 have y:cd.mro.isEmpty=false:=by
  obtain⟨t,z⟩:=rD l
  rw[z];cases t<;>rfl
 have sub:Looks (model a w) s.heap (isInstance (.ref x) (.type "object")) true:=I.type.andThen (looks_mroIn X (by unfold mroIn;rw[n,XG,if_neg (by rw[y];decide),Fz l]))
 refine codeAny_call_builtin c.slot.plain c.entry (@PySem.W.check_slot (model a w) _ _ s "object.__setattr__" "object" "__setattr__" (.ref x) [.str b i,v] [] _ c.kind c.split sub (c.args (.ref x) (.str b i) v) ?_)
 have r:Looks (model a w) s.heap (mroOf (.ref C)) cd.mro:=(looks_clsIn X n).andThen .now
 rw[PySem.W.osa_eq,refuse_eq]
 refine wpAny_bind (wpAny_bind (I.type.here (wpAny_bind (r.here ?_))))
 rw[Aw _ l]
 refine wpAny_pure (wpAny_bind (I.type.here (wpAny_bind ((looks_findIn X o).here (wpAny_bind (wpAny_pure ?_))))))
 exact h
def E2{K:l'}(X:K.In s.heap)(g:nC K C)(U:findIn K (.ref C) a=some none)(i:s.heap.get? x=some o)(N:o.cls=.ref C)(I:o.dict=none)(O:o.data=.fields F)
  (h:∀f R,f.get? x=some { o with dict:=some s.heap.objs.size }->f.Ns1 s.heap.objs.size (λy=>if y=a then some v else none)->(∀b c,b≠x->s.heap.get? b=some c->f.get? b=some c)->Q () { s with heap:=f,toks:=R }):wpAny (model H w) A (setAttr (.ref x) a v) Q E s:=by
 have J:InstAt s.heap x o C none:=⟨i,N,by unfold notCls;rw[O],by rw[I];exact T9⟩
 refine Z9 X J g.sa (B2 (s:={ s with toks:=s.toks+1 }) X J g U ?_)
 obtain⟨cd,r,B⟩:=ZU g.hd
 obtain⟨oc,T,P,u⟩:=o
 cases N;cases I;cases O
 refine wpAny_bind (wpAny_pure (wpAny_bind (wpAny_bind (wpAny_loadPart i (wpAny_bind (Wh (s:={ s with toks:=s.toks+1 }) (looks_clsIn X r) ?_))))))
 rw[B]
 show wpAny _ _ (do let d <- alloc { cls:=.type "dict",data:=.dict #[] };update x (λo=>{ o with dict:=some d });dictMade (.ref C) x d) _ _ _
 have M:x≠s.heap.objs.size:=Tq (TU i)
 have j:=B' (h:=s.heap) { cls:=.type "dict",data:=.dict #[] } i
 refine wpAny_bind (wpAny_alloc' (wpAny_bind (wpAny_update' j (wpAny_pure ?_))))
 generalize m:(s.heap.push { cls:=.type "dict",data:=.dict #[] }).update x (λo=>{ o with dict:=some s.heap.objs.size })=G
 have Z:G.get? x=some ⟨.ref C,some s.heap.objs.size,.fields F,u⟩:=by rw[<- m];exact UO _ j rfl
 have Y:G.get? s.heap.objs.size=some { cls:=.type "dict",data:=.dict #[] }:=by rw[<- m];exact(Yo _ _ _ _ (VG M)).trans (Y8 rfl rfl)
 have gk:∀b c,b≠x->s.heap.get? b=some c->G.get? b=some c:=λb c p q=>by rw[<- m];exact(Yo _ _ _ _ p).trans (B' _ q)
 have W:G.Ns s.heap.objs.size (λ_=>none):=⟨_,#[],_,Y,rfl,λe i=>absurd i (by simp),λ_=>rfl⟩
 show wpAny _ _ (storeInDict s.heap.objs.size (.str a s.toks) a v) _ _ _
 unfold storeInDict newKeyGuard
 refine wpAny_bind (wpAny_pure (wpAny_bind (wpAny_nsSet1 (YL W) λf l L=>?_)))
 obtain⟨oD,S,epD,z,n,t⟩:=l.count (XZ a v Within.nil)
 refine wpAny_bind (wpAny_lookBehind z (by rw[n];exact Xr (G' t (by rw[Tg,Tz,Vq];omega))) ?_)
 refine wpAny_pure (h f _ ((L.2 x M).trans Z) l λb c p q=>(L.2 b (Tq (TU q))).trans (gk b c p q))
def E3{K:l'}(X:K.In s.heap)(g:nC K C)(P:findIn K (.ref C) b=some none)(B:s.heap.get? x=some o)(z:o.cls=.ref C)(e:o.dict=some f)(F:o.data=.fields H)
  (j:s.heap.Ns1 f m)(U:Vk m G)(R:G.length<1000)(h:∀c L,c.Ns1 f (λy=>if y=b then some v else m y)->Vl f s.heap c->Q () { s with heap:=c,toks:=L }):wpAny (model u w) A (setAttr (.ref x) b v) Q E s:=by
 obtain⟨S,T,_⟩:=pX j
 have J:InstAt s.heap x o C (some S):=⟨B,z,by unfold notCls;rw[F],by rw[e];exact T⟩
 refine Z9 X J g.sa (B2 (s:={ s with toks:=s.toks+1 }) X J g P ?_)
 obtain⟨cd,n,t⟩:=ZU g.hd
 obtain⟨Z,O,I,W⟩:=o
 cases z;cases e;cases F
 refine wpAny_bind (wpAny_pure (wpAny_bind (wpAny_bind (wpAny_loadPart B (wpAny_bind (Wh (s:={ s with toks:=s.toks+1 }) (looks_clsIn X n) ?_))))))
 rw[t]
 refine wpAny_pure (a:=some f) (wpAny_bind (wpAny_pure (wpAny_bind ?_)))
 refine wpAny_nsSet1 (s:={ s with toks:=s.toks+1 }) j λc i N=>?_
 obtain⟨oD,M,Y,r,l,p⟩:=i.count (XZ b v U)
 refine wpAny_bind (wpAny_lookBehind r (by rw[l];exact Xr (G' p (by rw[Tg,Vq];omega))) ?_)
 exact wpAny_pure (h c _ i N)
def IA{K:l'}(X:K.In s.heap)(t:jN K C)(B:Vh K C=true)(r:findIn K (.ref C) a=some none)(y:s.heap.get? x=some o)(m:o.cls=.ref C)(e:o.dict=some j)(F:o.data=.fields n)
  (c:s.heap.Ns1 j g)(p:g a=some v)(f:ZT v=true)(h:Q v { s with toks:=s.toks+1 }):wpAny (model i w) A (getAttr (.ref x) a b) Q E s:=by
 obtain⟨z,l,u⟩:=pX c
 have J:InstAt s.heap x o C (some z):=⟨y,m,by unfold notCls;rw[F],by rw[e];exact l⟩
 exact II X J t (X7 B r rfl (by rw[u,p])) f h
open DC (fK vm)
def g6(p:Array Value->Prop)(a C:Addr)(dx:Option Addr):HO:=.ext λh=>∃oe vs,h.get? a=some oe/\oe.cls=.ref C/\oe.dict=dx/\oe.data=.fields vs/\p vs
def Mq:Array Value->Prop:=λvs=>vs[2]?=some .none/\1<vs.size/\vs[1]?=some .none
section
variable {X:Cx}{pins:List (Addr × Obj)}{σ:St}{H:Hp}{s:Shared}{a C d:Addr}{f:Str}{v:V}{u:Value}{Q:Unit->Shared->Prop}{E:Value->Shared->Prop}{A:Around}{fs:List (Str × V)}{p:Array Value->Prop}
def aO.exc(j:h.get? a=some b)(l:b.cls=.ref C)(g:b.dict=dx)(t:b.data=.fields e)(o:p e):aO P w r h a (g6 p a C dx):=by
 unfold g6
 exact⟨⟨b,e,j,l,g,t,o⟩,⟨b,j⟩,fun g1 g2 ⟨c,i,m,n⟩ x=>⟨c,i,x _ m,n⟩⟩
def aO.Sg(c:h.Ns1 d b)(l:∀f,gJ (fs.lookup f) (b f))(j:Vk b (fs.map (·.1))):aO P w n h d (vm d fs):=by
 unfold vm
 refine⟨⟨b,c,l,j⟩,let ⟨o,_,_,e,_⟩:=c;⟨o,e⟩,fun g1 g2 ⟨m,g,i,t⟩ r=>⟨m,?_,i,t⟩⟩
 exact g.at λo q=>r o q
def QI(I:Inv X pins σ H s)(e:H a=some (g6 p a C none))(g:nC X.K C)(M:findIn X.K (.ref C) f=some none)(S:RelV v u)
  (h:∀d n,H d=none->d≠a->Inv X pins σ (upd (upd H a (g6 p a C (some d))) d (vm d [(f,v)])) n->Q () n):wpAny (model X.prog X.w) A (setAttr (.ref a) f u) Q E s:=by
 obtain⟨⟨Y,W,B,t,j,F,R⟩,_⟩:=(show aO X.prog X.w H s.heap a (g6 p a C none) from I.au a _ e)
 refine E2 I.lQ g M B t j F λJ G r O U=>?_
 have i:s.heap.objs.size≠a:=Uj (TU B)
 have m:H s.heap.objs.size=none:=I.au.fresh (S' _)
 have L:Inv X pins σ (upd H a (g6 p a C (some s.heap.objs.size))) { s with heap:=J,toks:=G } :=
  I.write (x:=a) (e:=a) (by rw[e];exact T9) (.inl rfl) (λb P N q=>U b P N q) ⟨_,r⟩ (aO.exc r t rfl F R)
 refine h s.heap.objs.size _ m i (L.zR (by rw[aG i];exact m) ?_ ?_ ?_ ?_ (aO.Sg O (λy=>?_) λy l=>?_))
 ·cases q:X.s₀.heap.get? s.heap.objs.size with
  |none=>rfl
  |some o=>exact absurd (TU q) (ZC.mpr I.sz)
 ·exact Uj I.lt
 ·intro x c q z
  obtain⟨Z,k⟩:=I.cell x c q
  exact absurd k.lt (by rw[z];exact Uw _)
 ·intro p T z
  exact absurd (TU (I.pin p T).1) (by rw[z];exact Uw _)
 ·show gJ (Uc y [(f,v)]) (if y=f then some u else none)
  by_cases q:y=f
  ·subst q;rw[if_pos rfl];simp[gJ];exact S
  ·rw[if_neg q]
   rw[Tx,beq_eq_false_iff_ne.mpr q]
   exact T9
 ·by_cases q:y=f
  ·subst q;simp
  ·exact absurd (show(if y=f then some u else none)=none by rw[if_neg q]) l
def QJ(I:Inv X pins σ H s)(e:H a=some (g6 p a C (some d)))(m:H d=some (vm d fs))(g:nC X.K C)(B:findIn X.K (.ref C) f=some none)(G:fs.length<1000)(L:RelV v u)
  (h:∀j,Inv X pins σ (upd H d (vm d (g_ f v fs))) j->Q () j):wpAny (model X.prog X.w) A (setAttr (.ref a) f u) Q E s:=by
 obtain⟨⟨Z,S,N,J,c,P,Y⟩,_⟩:=(show aO X.prog X.w H s.heap a (g6 p a C (some d)) from I.au a _ e)
 obtain⟨⟨l,t,M,r⟩,_⟩:=(show aO X.prog X.w H s.heap d (vm d fs) from I.au d _ m)
 refine E3 I.lQ g B N J c P t r (by rw[tz];exact G) λU T n O=>h _ ?_
 refine I.write (x:=d) (e:=d) (by rw[m];exact T9) (.inl rfl) (λb W F q=>(O.2 b F).trans q) (let ⟨o,_,_,R,_⟩:=n;⟨o,R⟩) (aO.Sg n (λy=>?_) λy i=>?_)
 ·show gJ ((g_ f v fs).lookup y) (if y=f then some u else l y)
  rw[lS]
  by_cases q:y=f
  ·rw[if_pos q,if_pos q];exact L
  ·rw[if_neg q,if_neg q];exact M y
 ·by_cases q:y=f
  ·rw[q];exact(iy f v fs).1
  ·refine(iy f v fs).2 y (r y λz=>i ?_)
   show(if y=f then some u else l y)=none
   rw[if_neg q];exact z
end
open DC (fK vm)
abbrev N7:List Value:=[.type "ValueError",.type "Exception",.type "BaseException",.type "object"]
def lM(K:l')(C f:Addr):Bool:=match K.lookup C with
 |some ⟨.type "type",_,.cls cd,b⟩=>(match cd.mro,b.toList with
  |.ref D::a,[_,_,_,_,some (.builtin n),_]=>(D == C)&&((n == "ValueError.__new__")&&((!cd.hasDel)&&(PySem.W.tailIn K N7 a&&(PySem.W.nsOkIn K cd.ns&&(nsIn K cd.ns "__init__" == some (some (.ref f)))))))
  |_,_=>false)
 |_=>false
def Ft{K:l'}(X:K.In h)(G:h.Ns N m)(e:nsIn K N n=some (some v)):m n=some v:=by
 obtain⟨o,i,j,a,f,_,b⟩:=G
 unfold nsIn at e
 split at e
 ·rename_i q
  have z:=X _ _ q
  rw[a] at z
  cases z
  cases f
  split at e
  ·rename_i g c
   cases e
   rw[<- b];unfold nsFind findBy
   rw[<- Yu,c];rfl
  ·split at e<;>cases e
 ·cases e
def C4{K:l'}(X:K.In h)(q:lM K C f=true) :
  ∃c N nm u bs g v sub s b x j m p i o z,h.get? C=some (excClassObj nm u C N bs c g v sub s b x j m p i o "ValueError.__new__")/\h.Ns N z/\z "__init__"=some (.ref f)/\Z4 h N7 c:=by
 unfold lM at q
 split at q
 ·rename_i x cd I O
  split at q
  ·rename_i F c j m p i n o H A
   simp only[Tw,beq_iff_eq,Bool.not_eq_true'] at q
   obtain⟨M,J,e,P,B,r⟩:=q
   subst M J
   obtain⟨nm,bs,y,w,u,L,v,sub,s,b,del⟩:=cd
   have t:y=.ref F::c:=H
   have a:del=false:=e
   subst t a
   obtain⟨l⟩:=I
   have E:l=[j,m,p,i,some (.builtin "ValueError.__new__"),o]:=A
   subst E
   have G:h.Ns w (h.nsMap w):=.of_isNs (PySem.W.isNs_of_in X B)
   exact⟨c,w,nm,u,bs,L,v,sub,s,b,x,j,m,p,i,o,_,X _ _ O,G,Ft X G r,PySem.W.tail_of_in X P⟩
  ·cases q
 ·cases q
def uF{os:OsState}(T:Z4 h N7 s)
  (l:h.get? C=some (excClassObj nm q C N bs s G sn sub Y S dd Z k1 k2 X k5 "ValueError.__new__"))(J:h.Ns N n)(U:n "__init__"=some (.ref fI))(m:h.get? fI=some oI)(p:oI.cls=.type "function")(c:a.length<=sizeLine)
  (M:∀v e,Ze h v e (.ref C) a->wpAny (model f w) A (call (.ref fI) (.ref e::a)) (λr y=>r=.none/\Q (.done (.ret (.ref e))) y) E ⟨v,g,d,t,os⟩) :
  wpAny (model f w) A (Builtin.«type.__call__» ⟨.ref C::a,[]⟩) Q E ⟨h,g,d,t,os⟩:=by
 have F:=PySem.F.excBase_ValueError
 repeat (first|with_reducible refine Vz l ?_|with_reducible refine wpAny_madeBy_exc l ?_|wp_step)
 refine codeAny_call_builtin_code (W8 _ F.quiet) (wpAny_check_new_subT F T l (codeAny_exc_new_subT F T l ?_ c))
 show wpAny _ _ _ _ _ _
 generalize u:({ cls:=.ref C,data:=.fields #[.ref h.objs.size,.none,.none,.none,.bool false,.none] }:Obj)=O
 generalize hT:({ cls:=.type "tuple",data:=.seq a.toArray }:Obj)=TT
 have j:∀b o,h.get? b=some o->((h.push TT).push O).get? b=some o:=λb o e=>B' _ (B' _ e)
 have B:=j _ _ l
 have W:=j _ _ m
 have R:((h.push TT).push O).Ns N n:=J.keeps j
 have L:Z4 ((h.push TT).push O) N7 s:=T.keeps j
 have g1:((h.push TT).push O).get? (h.objs.size+1)=some O:=by
  have z:=TN (h.push TT) (o:=O) (by rw[<- u];rfl)
  rwa [UQ] at z
 have I:O.cls=.ref C:=by rw[<- u]
 have i:(Td C::s).contains (.ref C)=true:=by simp
 unfold isInstance
 repeat (first|(with_reducible refine Vz g1 ?_;rw[I])|(with_reducible refine wpAny_isSubtype_exc B ?_;rw[i])|wp_step)
 show wpAny _ _ (typeLookup (.ref C) _) _ _ _
 refine wpAny_typeLookup_tail B R L F.mroIs F.init.lookup ?_
 rw[U]
 refine wpAny_holding (wpAny_bind ?_)
 unfold bindSpecial
 refine wpAny_bind (wpAny_typeOf (T:="function") ⟨_,W,p⟩ ?_)
 rw[if_pos (by decide)]
 refine wpAny_pure (wpAny_bind (wpAny_mono (M _ (h.objs.size+1) ⟨j,Wx (Va _),h.objs.size,by rw[g1,<- u],Wx (S' _),by rw[<- hT];exact B' _ (Y8 rfl rfl)⟩) (λr y P=>?_) λ_ _ x=>x))
 obtain⟨rfl,H⟩:=P
 wp_walk
 exact H
def Ey{os:OsState}(T:Z4 h N7 s)
  (f:h.get? C=some (excClassObj nm q C N bs s m F sub z v M B G I y H "ValueError.__new__"))(n:h.Ns N l)(x:l "__init__"=some (.ref fI))(i:h.get? fI=some oI)(j:oI.cls=.type "function")(b:a.length<=sizeLine)
  (p:∀h' e,Ze h h' e (.ref C) a->wpAny (model c w) (A.under (.builtin "type.__call__" ⟨.ref C::a,[]⟩)) (call (.ref fI) (.ref e::a)) (λr o=>r=.none/\Q (.ref e) o) E ⟨h',g,d,t,os⟩) :
  wpAny (model c w) A (call (.ref C) a) Q E ⟨h,g,d,t,os⟩:=by
 have L:=tc_lookup;have J:=tc_bind (.ref C)
 have hT:(⟨h,g,d,t,os⟩:Shared).TypeIs (.ref C) "type":=⟨_,f,rfl⟩
 refine wpAny_call (codeAny_of_tree ?_);show wpAny _ _ (callAny (.ref C) _) _ _ _
 repeat (any_goals (first|assumption|with_reducible refine Vz f ?_|wp_step))
 exact⟨rfl,codeAny_call_builtin_at (W8 _ (by decide +kernel)) entry_typeCall (wpAny_check_type_call_sub f (uF T f n x i j b λh' e u=>p h' e u))⟩
end L2
namespace DC
def tX(K:l')(j:Nat)(f:Str):TS:=λD σ H=>∃(pr:Array Value->Prop) (a C:Addr) (v:V),σ[0]?=some (some (.ref a))/\σ[j]?=some (some v)/\nC K C/\findIn K (.ref C) f=some none /\
 ((H a=some (g6 pr a C none)/\∀d,H d=none->d≠a->D.nx σ (upd (upd H a (g6 pr a C (some d))) d (vm d [(f,v)])))\/∃d fs,H a=some (g6 pr a C (some d))/\H d=some (vm d fs)/\fs.length<1000/\D.nx σ (upd H d (vm d (g_ f v fs))))
def RO{X:Cx}{T pv r c:Pos}(U:X.N[0]?=some x)(w:Cb X.env.scope x)(M:X.N[j]?=some p)(t:Cb X.env.scope p)(P:autoParam (Ue (.Name p pv) (some (.Attribute (.Name x T) f c)) r.line X.env=pure false) dI)(Y:autoParam ((x == ("__debug__":Str))=false) e7)(o:autoParam ((p == ("__debug__":Str))=false) e7)
  (B:autoParam ((x == ("__classdict__":Str))=false) e7)(i:autoParam ((p == ("__classdict__":Str))=false) e7):PS X (.Assign [.Attribute (.Name x T) f c] (.Name p pv) r) (tX X.K j f):=by
 intro b s σ H D I ⟨pr,a,C,v,s0,sj,g,na,h⟩
 refine Xl (bg (kL M t o i b s σ H (λy l=>y=v/\l=H) I ⟨v,sj,rfl,rfl⟩) ?_) P;rintro u s1 ⟨y,l,O,J,E,A⟩
 subst E A
 refine bg (kL U w Y B b s1 σ l (λy L=>y=.ref a/\L=l) O ⟨.ref a,s0,rfl,rfl⟩) ?_;rintro W s2 ⟨z,L,G,Z,E,A⟩
 subst E A
 cases(show W=Td a from Z)
 rcases h with⟨e,q⟩|⟨d,fs,e,R,S,q⟩
 ·exact QI G e g na J λd Q F m n=>⟨σ,_,n,q d F m⟩
 ·exact QJ G e R g na S J λQ n=>⟨σ,_,n,q⟩
def RY(C:Addr)(c:List Str):Sp:=λvs H Q _=>∃(pr:Array Value->Prop) (a:Addr) (b:List V),vs=.ref a::b/\b.length=c.length/\H a=some (g6 pr a C none)/\∀d,H d=none->d≠a->Q .ae (upd (upd H a (g6 pr a C (some d))) d (vm d (c.zip b)))
def Sw{K:l'}{st:Stmt}(F:tq K x g st f u)(S:aD N r (aB st))(p:m.length+1=r.length)
  (z:∀(i:Value) (A:Around) (b:List Env) (s:Shared) (H:Hp) (E:XK),kq (Bx P w K y l N g st f i A b s H E) (af st) t)
  (B:∀j a c H (Q:VK),c.length=m.length->H a=some (g6 j a C none)->(∀d,H d=none->d≠a->Q .ae (upd (upd H a (g6 j a C (some d))) d (vm d (m.zip c))))->t { nx:=λ_ G=>Q .ae G,rt:=Q } (L2.start N (.ref a::c)) H):cE P w K y l nY (k+1) f u r (RY C m):=by
 refine F.ok S (fun v H Q E ⟨j,a,c,e,o,_⟩=>by rw[e,Tg,o];exact p) (?_);rintro i A b s H v Q E n ⟨j,a,c,e,o,I,h⟩
 subst e
 exact⟨t,z i A b s H E,B j a c H Q o I h⟩
structure QN (P:TV) (w:World) (K:l') (mg:Str->Option Value) (base:Heap) (j:Nat) (x:Str) (C:Addr) (fl:List Str):Prop where
 ex:∃f fd ps oI,lM K C f=true/\K.lookup f=some oI/\oI.cls=.type "function"/\cE P w K mg base nY j f fd ps (RY C fl)/\mg x=some (.ref C)/\keepIn K (.ref C)=true/\Binds K fd ps []
 SN:fl.length<100
section
variable {X:Cx}{e:Expr}{es:List Expr}{t:AD}{pos p:Pos}{x:Str}{j k:Nat}{C:Addr}{fl:List Str}
def Jl{σ:L2.St}(c:QN X.prog X.w X.K X.mg X.base j x C fl)(hex:X.ex=[])(hr:bZ (j+1) X.A)(I:Inv X B σ H s)(r:Vals E l)(hl:E.length=fl.length)(h0p:∀t:Addr,pr #[.ref t,.none,.none,.none,.bool false,.none])
  (h:∀a d n,aH H n->H a=none->X.s₀.heap.get? a=none->(∀p∈X.pn,p.1≠a)->d≠a->n a=some (g6 pr a C (some d))->n d=some (vm d (fl.zip E))->Q (.ref a) n):wpAny (model X.prog X.w) X.A (call (.ref C) l) (EP X B σ Q) X.xe s:=by
 obtain⟨f,fd,ps,oI,q,lk,oc,F,_,_,hb⟩:=c.ex
 obtain⟨bm,N,nm,qn,bs,hdct,sn,sub,ab,col,dd,k0,k1,k2,k3,k5,mN,hC,hN,R,T⟩:=C4 I.lQ q
 have SN:=c.SN
 have hlu:l.length<=sizeLine:=by rw[<- r.length,hl,Vq];omega
 obtain⟨hh,gg,dr,tk,os⟩:=s
 refine Ey T hC hN R (I.lQ _ _ lk) oc hlu λU g O=>?_
 obtain⟨tt,ho,_,_⟩:=O.there
 have I1:=I.kept (t':=tk) (h':=U) O.keeps
 have M:H g=none:=by
  cases q2:H g with
  |none=>rfl
  |some u =>
   obtain⟨o,z⟩:=(I.au g u q2).there
   rw[O.new] at z
   cases z
 have i:∀b o,hh.get? b=some o->b≠g:=λb o z y=>by rw[y,O.new] at z;cases z
 have h0:X.s₀.heap.get? g=none:=by
  cases q2:X.s₀.heap.get? g with
  |none=>rfl
  |some o =>
   obtain⟨o',z⟩:=I.base.there g o q2 (by rw[hex];simp)
   exact absurd rfl (i g o' z)
 have S:g≠X.env.locals:=λz=>by
  obtain⟨m,⟨o,_,_,go,_⟩,_⟩:=I.loc
  exact i _ o go z.symm
 have hce:∀x c,X.env.cells.lookup x=some c->c≠g:=λx c e=>by
  obtain⟨v,o,go,_⟩:=I.cell x c e
  exact i c o go
 have W:=I1.zR M h0 S hce (λp hp=>i _ _ (I.pin p hp).1) (aO.exc (p:=pr) (C:=C) (dx:=none) ho rfl rfl rfl (h0p _))
 have r2:Vals (V.ref g::E) (Td g::l):=.cons rfl r
 let Q':VK:=λv n=>v=.ae/\∃d,upd H g (g6 pr g C none) d=none/\d≠g/\n=upd (upd (upd H g (g6 pr g C none)) g (g6 pr g C (some d))) d (vm d (fl.zip E))
 have hq:RY C fl (.ref g::E) (upd H g (g6 pr g C none)) Q' E0:=⟨pr,g,E,rfl,hl,aF,λd P L=>⟨rfl,d,P,L,rfl⟩⟩
 have J:(Td g::l).length=ps.length:=by rw[<- r2.length];exact F.len _ _ _ _ hq
 have G:=hb ⟨U,gg,dr,tk,os⟩ (.ref g::l) W.lQ (by rw[UD];exact J)
 rw[UD] at G
 refine wpAny_call (codeAny_mono (F.run _ X.stack _ _ ⟨.ref g::l,[]⟩ (.ref g::l) _ Q' E0 (hr.make C l []) (W.Ew.make C l []) G r2 hq) λr s' z=>?_)
 cases r with
 |error e=>exact UI z
 |ok Y =>
  cases Y with
  |ret u =>
   obtain⟨v,n,I3,rv,ev,d,P,L,Z⟩:=W.after z
   subst ev
   have hd:H d=none:=by rw[aG L] at P;exact P
   refine⟨rv,⟨.ref g,n,I3,rfl,h g d n (λb o q=>?_) M h0 (λp hp=>i _ _ (I.pin p (To _ hp)).1) L ?_ ?_⟩⟩
   ·rw[Z,aG (aQ q hd),aG (aQ q M),aG (aQ q M)]
    exact q
   ·rw[Z,aG (VG L),aF]
   ·rw[Z,aF]
  |next=>exact UI z
  |brk=>exact UI z
  |cont=>exact UI z
def BZ{K:l'}:∀{a:List Str} {b:List V} {c:List D},bA K H b c->gC K H (a.zip b) (a.zip c)
 |[],_,_,_=>.nil
 |_::_,_,_,.nil=>.nil
 |_::_,_,_,.cons h r=>.cons h (BZ r)
def QC(K:l')(c:ED)(f:Str):ED:=λδ Q=>c δ λd=>∃a C b r,d=.exc a C b/\jN K C/\Vh K C=true/\findIn K (.ref C) f=some none/\b.lookup f=some r/\Q r
def Eg(K:l')(R:X.K=K)(J:PD X e L)(hb:UZ e f X.env (eval e X.env)=eval e X.env):PD X (.Attribute e f pos) (QC K L f):=by
 subst R
 refine⟨ ?_,λδ P P' g h=>J.mono _ _ _ (fun d ⟨a,C,M,r,F,m,z,c,G,k⟩=>⟨a,C,M,r,F,m,z,c,G,g _ k⟩) h⟩;rintro i s σ H Q I ⟨δ,r,h⟩
 refine BL hb (bg (J.pe i s σ H (λv b=>∃a C n fs y,v=.ref a/\Rd b a (fK a C n)/\hW b n fs/\jN X.K C/\Vh X.K C=true/\findIn X.K (.ref C) f=some none/\fs.lookup f=some y/\Q y b) I ⟨δ,r,J.mono _ _ _ (λd k v b B dv=>?_) h⟩) λu B k=>?_)
 ·obtain⟨a,C,M,r,F,m,z,c,G,k⟩:=k
  subst F
  cases dv with
  |exc g1 g2 g3 =>
   obtain⟨y,l,T⟩:=g3.look G
   exact⟨_,_,_,_,y,rfl,g1,g2,m,z,c,l,k _ b B T⟩
 ·obtain⟨v,b,A,Y,a,C,n,fs,y,Z,g1,g2,m,z,c,l,q⟩:=k
  subst Z
  cases(show u=Td a from Y)
  obtain⟨⟨oe,vs,e1,U,E,hd,_⟩,_⟩:=(show aO X.prog X.w b B.heap a (fK a C n) from g1.ok A.au)
  cases n with
  |none =>
   rw[show fs=[] from g2] at l
   cases l
  |some d =>
   obtain⟨⟨S,O,hr,hw⟩,_⟩:=(show aO X.prog X.w b B.heap d (vm d fs) from Rd.ok g2 A.au)
   obtain⟨u2,W,N⟩:=gJ.some_of (v:=y) (o:=S f) (by rw[<- l];exact hr f)
   exact IA A.lQ m z c e1 U E hd O W (uh N) ⟨y,b,A.tok _,N,q⟩
end
section
variable {X:Cx}{c e:Expr}{es:List Expr}{body:List Stmt}{uc:TD}{te:ED}{tb:fm}{g:BI}{pos tp:Pos}{k:Nat}
def ND(l:TD)(j:fm):fm:=λE δ=>∃a:Nat->SD->Prop,(∃m,a m δ)/\∀m h,a m h->l h λb=>if b=true then j { E with nx:=λi=>∃f,f<m/\a f i,ct:=λi=>∃f,f<m/\a f i,bk:=E.nx } h else E.nx h
def Jn(N:V' (model X.prog X.w) X.A X.env X.xe)(C:mV X c uc)(G:jQ X body tb):xT X (.While c body [] pos) (ND uc tb):=by
 refine⟨PS.imp (zA N C.pt G.ps) λD σ H ⟨δ,r,a,⟨M,x⟩,step⟩=>⟨λm B I=>aH H I/\∃ o,bG X.K I B o/\a m o,⟨M,aH.refl _,δ,r,x⟩,?_⟩,fun E O δ l ⟨a,x,step⟩=>⟨a,x,λm o F=>C.mono _ _ _ (λb q=>?_) (step m o F)⟩⟩
 ·rintro m B I ⟨u,o,y,F⟩
  refine⟨o,y,C.mono _ _ _ (λb q J s=>?_) (step m o F)⟩
  cases b with
  |false =>
   rw[if_neg Fk] at q ⊢
   exact q B J (u.trans s) (y.same s)
  |true =>
   rw[if_pos rfl] at q ⊢
   refine⟨λt j=>aH H j/\∃ f,bG X.K j t f/\∃h,h<m/\a h f,fun t j ⟨i,f,p,h,L,n⟩=>⟨h,L,i,f,p,n⟩,o,y.same s,G.mono { e9 X.K H D with nx:=λf=>∃h,h<m/\a h f,ct:=λf=>∃h,h<m/\a h f,bk:=(e9 X.K H D).nx } _ _ ⟨?_,?_,?_,?_⟩ q⟩
   ·exact λf n t j i p=>⟨(u.trans s).trans i,f,p,n⟩
   ·exact λd n v j i dv=>n v j ((u.trans s).trans i) dv
   ·exact λf n t j i p=>n t j ((u.trans s).trans i) p
   ·exact λf n t j i p=>⟨(u.trans s).trans i,f,p,n⟩
 ·cases b with
  |false =>
   rw[if_neg Fk] at q ⊢
   exact l.nx _ q
  |true =>
   rw[if_pos rfl] at q ⊢
   exact G.mono { E with nx:=λf=>∃h,h<m/\a h f,ct:=λf=>∃h,h<m/\a h f,bk:=E.nx } _ _ ⟨λ_ z=>z,l.rt,λ_ z=>l.nx _ z,λ_ z=>z⟩ q
def Pa(a:ED)(g:BI):fm:=λE δ=>a δ λd=>g d δ E.nx
def Ge(i:PD X e te)(j:KI X (.Tuple es k tp) g)(o:autoParam (swapsWithSole [.Tuple es k tp] e pos.line X.env=pure false) dI)(F:autoParam (swappedStores [.Tuple es k tp] e X.env=pure none) dI):xT X (.Assign [.Tuple es k tp] e pos) (Pa te g):=by
 refine⟨ ?_,λE M δ l h=>i.mono _ _ _ (λd q=>j.mono _ _ _ _ l.nx q) h⟩;rintro a s σ H D I ⟨δ,r,h⟩
 refine aAe (bg (i.pe a s σ H (λy b=>aH H b/\∃d,Dv X.K b y d/\g d δ (e9 X.K H D).nx) I ⟨δ,r,i.mono _ _ _ (λd q v b f dv=>⟨f,d,dv,q⟩) h⟩) ?_) o F;rintro v f ⟨y,b,n,t,m,d,dv,q⟩
 exact bg (j.pg a f σ b y v D.nx n t ⟨d,δ,dv,r.same m,j.mono _ _ _ _ (λL z A G p w=>z A G (m.trans p) w) q⟩) fun _ J ⟨x,C,u,B⟩=>⟨x,C,u,B⟩
end
def fP(r:fL k A):A.units+64<cLine:=by have:=r.un;omega
end DC
namespace L2
section
variable {X:Cx}{pins:List (Addr × Obj)}{σ:St}{H:Hp}{s:Shared}{a C d:Addr}{t:Heap->Prop}
def aO.drop(e:H a=some u)(nt:∀y,u≠.tup y)(v:∀c,u≠.own c):∀{o:HO},aO P w H h b o->aO P w (del H a) h b o:=by
 intro o
 induction o with
 |dT i =>
  intro x
  obtain⟨f,n,xs,j,r⟩:=x
  refine⟨f,n,xs,Paired.imp' (fun p q ⟨m,g,A⟩=>⟨m,?_,A⟩) j,r⟩
  rw[cy (λz=>by rw[z,e] at g;exact nt _ (UA g))]
  exact g
 |ins C B fs =>
  intro x
  obtain⟨f,r⟩:=x
  refine⟨?_,r⟩
  rw[cy (λz=>by rw[z,e] at f;exact v _ (UA f))]
  exact f
 |eu o u l=>intro x;exact⟨x.1,l x.2⟩
 |_=>intro x;exact x
def oG(h:H b=none):del H a b=none:=by
 unfold del
 split
 ·rfl
 ·exact h
def Inv.drop(I:Inv X pins σ H s)(e:H a=some (.ext f)):Inv X pins σ (del H a) s:=by
 refine⟨I.ok,I.os,I.bare,⟨I.base.keep,I.base.slot,λb o q n l=>oG (I.base.free b o q n l),I.base.there,λb xs q=>?_,λb o u q=>?_,λb A q=>?_⟩,I.loc,I.cell,oG I.free,λx c q=>oG (I.cZ x c q),λp m=>?_,λb o q=>?_,I.len⟩
 ·have z:=I.base.hU b xs q
  rw[cy (λw=>by rw[w,e] at z;cases z)]
  exact z
 ·have z:=I.base.dZ b o u q
  rw[cy (λw=>by rw[w,e] at z;cases z)]
  exact z
 ·obtain⟨g,z⟩:=I.base.mC b A q
  exact⟨g,by rw[cy (λw=>by rw[w,e] at z;cases z)];exact z⟩
 ·obtain⟨y,r,i,v,j⟩:=I.pin p m
  exact⟨y,oG r,i,v,j⟩
 ·by_cases h:b=a
  ·rw[h,rW] at q
   cases q
  ·rw[cy h] at q
   exact(I.au b o q).drop e (λ_ z=>by cases z) λ_ z=>by cases z
end
def Au{K:l'}(o:A.handled=none)
  (h:wpAny (model a w) A x (λv c=>∃e C b f,v=.ref e/\K.In c.heap/\c.heap.get? e=some b/\b.cls=.ref C/\b.data=.fields f/\f[1]?=some .none/\mroIn K C (.type "BaseException")=some true/\typeIn K (.ref C)=some (.type "type")/\E (.ref e) c) E s) :
  wpAny (model a w) A (raiseStmt z (some x) none) Q E s:=by
 unfold raiseStmt
 refine wpAny_bind (wpAny_mono h (λv c i=>?_) λ_ _ x=>x)
 obtain⟨e,C,b,f,rfl,X,j,t,F,i,y,H,n⟩:=i
 obtain⟨R,g,d,O,os⟩:=c
 have r:=looks_mroIn (M:=model a w) X y
 obtain⟨N,P,m,I⟩:=b
 cases t
 cases F
 obtain⟨⟨J,G,l,p⟩,L,u⟩:=X0.mp (show(K.lookup C).map (·.cls)=some (.type "type") from H)
 cases(show J=VY "type" from u)
 have B:=X _ _ L
 repeat (first|with_reducible refine Vz j ?_|with_reducible refine Vz B ?_|with_reducible refine r.at ?_|with_reducible refine wpAny_field j rfl i ?_|wp_step)
 exact wpAny_raiseNew_none o n
end L2
namespace DC
def Je(c:SD->XR)(C:Addr)(a:List Str)(t:AD):fm:=λ_ δ=>t δ λb=>b.length=a.length/\c δ C (a.zip b)
def Gd{pos g p:Pos}(hx:qk X xk)(hc:X.calm=true)(U:X.ex=[])(c:QN X.prog X.w X.K X.mg X.base j x C n)(hm:mroIn X.K C (.type "BaseException")=some true)(ht:typeIn X.K (.ref C)=some (.type "type"))(hr:bZ k X.A)(hj:j+1<=k)(hg:Gl X x)(ha:iZ X (e::F) t)(Z:autoParam ((x == ("__debug__":Str))=false) e7)
  (h1:autoParam (starEach (e::F) X.env=(false,eval e X.env)::starEach F X.env) dI)(h2:autoParam ((backTo g (starEach F X.env)).any (·.1)=false) dI):xT X (.Raise (some (.Call (.Name x p) (e::F) [] g)) none pos) (Je xk C n t):=by
 obtain⟨_,_,_,_,_,_,_,_,L,kp,_⟩:=c.ex
 refine⟨ ?_,λE E' δ l h=>h⟩;rintro f s σ H D I ⟨δ,r,h⟩
 rw[arm_exec_Raise]
 simp only[evalOpt,W3]
 refine wpAny_bind (wpAny_standAt (Au (K:=X.K) (I.ok.hd hc) (wpAny_bind (wpAny_mono ?_ (λv O h3=>wpAny_bind (wpAny_standAt (wpAny_pure h3))) λ_ _ y=>y))))
 refine Ug (fv I hg L ?_ Z)
 refine V_ (h₀:=X.base) I.ok.mod.FN kp (bg (ha.pa g f s σ H (λu i=>aH H i/\∃m,bA X.K i u m/\m.length=n.length/\xk δ C (n.zip m)) I ⟨δ,r,ha.mono _ _ _ (λm q u i s1 dv=>⟨s1,m,dv,q⟩) h⟩) fun us s1 ⟨u,i,I1,r1,sm,m,dv,q0,q⟩=>⟨I1.lQ,?_⟩) h1 h2
 refine wpAny_mono (Jl (pr:=Mq) (Q:=λy J=>∃a d,y=.ref a/\aH i J/\i a=none/\X.s₀.heap.get? a=none/\(∀p∈X.pn,p.1≠a)/\d≠a/\J a=some (g6 Mq a C (some d))/\J d=some (vm d (n.zip u))) c U (hr.mono hj) I1 r1 (by rw[dv.length];exact q0) (λ_=>⟨rfl,Ts rfl,rfl⟩) λa d J s' T W n2 n3 G P=>⟨a,d,rfl,s',T,W,n2,n3,G,P⟩) (λv s2 z=>?_) λ_ _ z=>z
 obtain⟨y,Y,R,ry,a,d,rfl,S,T,W,n2,M,G,P⟩:=z
 cases(show v=Td a from ry)
 obtain⟨⟨oe,ws,he,B,N,hd,p2,pz,p1⟩,_⟩:=(show aO X.prog X.w Y s2.heap a (g6 Mq a C (some d)) from R.au a _ G)
 refine⟨a,C,oe,ws,rfl,R.lQ,he,B,hd,p1,hm,ht,?_⟩
 have I3:=R.drop (a:=a) G
 have O:aH i (del Y a):=λb o q=>by
  rw[cy (aQ q T)]
  exact S b o q
 exact hx f σ δ (del Y a) s2 a C (some d) (n.zip u) (n.zip m) I3 (r.same (sm.trans O)) (Dl I3 he B N hd pz p2 p1 rW W n2) (.of (by rw[cy M];exact P)) (BZ (dv.same O)) q
end DC
namespace L2
def yi(t:jO A s.heap)(g:s.heap.IsListIter f l i)(P:s.heap.IsList l c)(O:c[i]?=none)(X:∀h,A.handled=some (.ref h)->h≠f)
  (L:∀r e,UU f s.heap r->(∃o,r.get? e=some o/\o.cls=.type "StopIteration")->E (.ref e) { s with heap:=r }):wpAny (model J w) A (T8 (.ref f)) Q E s:=by
 rcases t with t|⟨h,Y,vs,S,Z,y,h2⟩
 ·exact ZH t g P O L
 have H:=X h S
 obtain⟨o,C,hc,z⟩:=id g
 obtain⟨ol,p,_,nl,F⟩:=P
 unfold T8
 refine wpAny_bind (wpAny_callSpecial?_slot (name:=VF "__next__") g.typeIs WY (wpAny_call_entry WY g.typeIs Zd ?_ (args_listiter_next _)))
 show wpAny _ _ (field (.ref f) 0 >>= _) _ _ s;refine wpAny_bind (wpAny_field C z (x:=.ref l) rfl ?_)
 show wpAny _ _ (if(Td l == T5)=true then _ else _) _ _ s;rw[if_neg (show¬((Td l == T5)=true) from Fk)]
 show wpAny _ _ (field (.ref f) 1 >>= _) _ _ s;refine wpAny_bind (wpAny_field C z (x:=.int i 0) rfl ?_)
 show wpAny _ _ (seqItems? (.ref l) >>= _) _ _ s;refine wpAny_bind (wpAny_seqItems p F ?_);simp only[U2,O]
 refine wpAny_bind (wpAny_rule (wpAny_bind (wpAny_setField C z (by simp) ?_)));show wpAny _ _ (newExc (.type "StopIteration") [] >>= _) _ _ _
 refine wpAny_bind ?_;simp only[newExc,YF];refine wpAny_bind (wpAny_newObj_type ?_ (by size_fits))
 refine wpAny_bind (m:=U3 _ _) (wpAny_of_eq (a:=T5) (by first|rfl|(simp only[U3];rfl)) ?_);refine wpAny_newObj_type ?_ (by size_fits)
 generalize B:s.heap.update f (UT (·.setIfInBounds 0 T5))=N
 have W:UU f s.heap N:=by rw[<- B];exact(VP ..).extBut
 generalize G:N.push _=j
 have v:UU f s.heap j:=by rw[<- G];exact W.push _
 have T:=v h Y H Z
 refine kN (A:=A.in1) S (Tq (TU T)) (B' _ T) y h2 (TN _ rfl) rfl (by rw[WN];show 2<6+_;omega) ?_
 generalize n:j.push _=u
 have k2:UU f s.heap u:=by rw[<- n];exact v.push _
 have n2:∃on I,u.get? j.objs.size=some on/\on.cls=.type "StopIteration"/\on.data=.fields I:=by rw[<- n];exact⟨_,_,TN _ rfl,rfl,rfl⟩
 obtain⟨on,I,n3,U,n6⟩:=n2
 have n5:(u.update j.objs.size (UT (·.setIfInBounds 2 (Td h)))).get? j.objs.size=some (on.mapFields (·.setIfInBounds 2 (Td h))):=UO _ n3 (Ut (Uk n6 _))
 refine L _ _ (λb R M q=>?_) ⟨_,n5,by rw[VU];exact U⟩
 exact(T6 _ _ (Uj (TU (v b R M q)))).trans (k2 b R M q)
def C3{i:Nat}(C:jO A s.heap)(p:IsEnum s.heap e c i f)(g:s.heap.IsListIter c l i)(B:s.heap.IsList l a)(z:a[i]?=none)(y:∀r,A.handled=some (.ref r)->r≠c)
  (v:∀h,UU c s.heap h->Q none { s with heap:=h }):wpAny (model n w) A (pyNext (.ref e)) Q E s:=by
 have hT:s.TypeIs (.ref e) "enumerate":=⟨_,p,rfl⟩
 unfold pyNext
 refine wpAny_bind (wpAny_attempt (wpAny_callSpecial?_slot (name:=VF "__next__") hT Y0 (wpAny_call_entry Y0 hT F.entry_enumerate_next ?_ (F.args_enumerate_next_1 _))))
 show wpAny _ _ (field (.ref e) 2 >>= _) _ _ _
 refine wpAny_bind (wpAny_field p rfl (x:=.ref c) rfl ?_)
 refine wpAny_bind (yi (A:=A.in1) C g B z y λh x j m=>?_)
 obtain⟨o,t,u⟩:=m
 refine wpAny_bind (wpAny_isInstance (T:="StopIteration") (b:=true) ⟨o,t,u⟩ WZ ?_)
 exact wpAny_pure (v _ j)
def Qj(K:l')(l:Addr):It where
 u:=true
 go:=λi H=>∃xs x,cW K H l xs/\xs[i]?=some x
 BC:=λi H v a=>∃p x,H p=none/\v=.ref p/\a=upd H p (.tup [.int (i:Int),x])/\∀xs,cW K H l xs->xs[i]?=some x
 stop:=λi H=>∃xs,cW K H l xs/\xs[i]?=none
def Dx{K:l'}(C:e≠g)(hle:l≠e)(hli:l≠g) :
  Turn P w K (.Tuple F c tp) (Qj K l) [e,g] e (λi h=>(∃f,IsEnum h e g i f)/\h.IsListIter g l i) where
 mem:=by simp
 obj:=λi h ⟨⟨f,m⟩,a⟩ q n=>by
  simp only[Gc,Tt,or_false] at n
  rcases n with rfl|rfl
  ·exact⟨_,m,λv z=>by cases z⟩
  ·obtain⟨o,z,_,d⟩:=a
   exact⟨o,z,λv y=>by rw[d] at y;cases y⟩
 keep:=λi h L ⟨⟨f,m⟩,a⟩ k=>⟨⟨f,k _ (by simp) _ m⟩,a.at λo z=>k g (by simp) o z⟩
 item:=by
  intro X W Y N i A s σ H E r I t st hg
  subst W Y N
  obtain⟨⟨f,m⟩,a⟩:=st
  obtain⟨xs,x,n,M⟩:=hg
  obtain⟨Z,S,p,hz⟩:=I.list n
  obtain⟨u,hu,ru⟩:=S.get M
  refine wpAny_pyNext_enum_item m a p.isList (x:=u) (by simpa using hu) C λL ho J hT hsz hk=>?_
  refine⟨_,rfl,wpAny_letOwnedTupleGo_enum ho λG U sb=>?_⟩
  have B:e<s.heap.objs.size:=TU m
  have O:g<s.heap.objs.size:=by obtain⟨o,z,_⟩:=a;exact TU z
  have up:∀b o,b≠e->L.get? b=some o->G.get? b=some o:=λb o nb q=>(sb.2 b nb).trans q
  have I':=I.CU (h':=G) (t':=s.toks+1) (ch:=[e,g]) (T:=s.heap.objs.size) (u1:=.int (i:Int) s.toks) (u2:=u) (x:=.int (i:Int)) (y:=x)
   (λb o j q=>by
    simp only[Gc,Tt,or_false,not_or] at j
    exact up b o j.1 (hk b o j.1 j.2 q)) t (S' _) (up _ _ (Uj B) hT) ⟨_,rfl⟩ ru
  refine⟨.ref s.heap.objs.size,_,I',rfl,⟨_,x,I.fresh,rfl,rfl,λzs R=>by rw[I.sH R n];exact M⟩,⟨⟨_,U⟩,J.at λo z=>up g o (VG C) z⟩,λb j=>?_⟩
  have Q:=(t b j).1
  rw[aG]
  ·exact Q
  ·intro z
   have lt:b<s.heap.objs.size:=by
    simp only[Gc,Tt,or_false] at j
    rcases j with rfl|rfl
    ·exact B
    ·exact O
   rw[z] at lt
   exact Uw _ lt
 done:=by
  intro X W Y N i A s σ H E r I t st hg
  subst W Y N
  obtain⟨⟨f,m⟩,a⟩:=st
  obtain⟨xs,n,M⟩:=hg
  obtain⟨Z,S,p,hz⟩:=I.list n
  have hl:=S.length
  refine C3 (I.hand r t).1 m a p.isList (by simp only[Vw];rw[Ur] at M ⊢;omega) (λea z=>(I.hand r t).2 ea z g (by simp)) λL eb=>⟨rfl,I.CT (t':=s.toks) (ch:=[e,g]) (λb o j q=>?_) t⟩
  simp only[Gc,Tt,or_false,not_or] at j
  exact eb b o j.2 q
 self:=λ_ _ _ _ _ st h=>let ⟨⟨_,m⟩,_⟩:=st;Zx m h
def Oa(K:l')(c:TA):TI:=λσ H R=>c σ H λb a=>∃l e,b=[.ref l]/\cW K a l e/\R (Qj K l) a
def B6(B:Gl X "enumerate")(M:X.mg "enumerate"=none)(S:PA X [r] J)(E:autoParam (starEach [r] X.env=[(false,eval r X.env)]) dI) :
  PI X (.Tuple x c tp) (.Call (.Name "enumerate" p) [r] [] m) (Oa X.K J):=by
 intro a s σ H R I h
 refine Call_ (nK I B M boot_enumerate (VJ (bg (S m a s σ H _ I h) fun Z f ⟨T,w,j,A,O⟩=>?_) (by rw[E];rfl) rfl))
 obtain⟨l,W,e,L,q⟩:=O
 subst e
 obtain⟨u,rfl,N⟩:=A.one
 cases(show u=Td l from N)
 obtain⟨Q,Y,t,hz⟩:=j.list L
 have i:l<f.heap.objs.size:=by obtain⟨o,n,z,_⟩:=t;exact TU z
 refine call_enumerate_list t.isList λC v G U P=>Zx v ?_
 have F:Inv X a σ w { f with heap:=C }:=j.kept (t':=f.toks) P
 refine⟨_,[f.heap.objs.size+1,f.heap.objs.size],_,_,w,rfl,F,Dx (l:=l) (XY _) (Tq (U0 i)) (Tq i),⟨⟨_,v⟩,G⟩,λb y=>?_,q⟩
 have g:f.heap.objs.size<=b:=by
  simp only[Gc,Tt,or_false] at y
  rcases y with rfl|rfl
  ·exact Ve _ _
  ·exact S' _
 exact j.E8 g (j.au.fresh g)
end L2
namespace DC
def KR:Nat->List D->List D
 |_,[]=>[]
 |k,x::xs=>.tup [.int (k:Int),x]::KR (k+1) xs
def qv:∀(k:Nat) (xs:List D),(KR k xs).length=xs.length
 |_,[]=>rfl
 |k,_::xs=>by rw[KR,Tg,Tg,qv (k+1) xs]
def vy:∀(k i:Nat) (xs:List D),(KR k xs)[i]?=(xs[i]?).map λx=>.tup [.int ((k+i:Nat):Int),x]
 |_,_,[]=>rfl
 |k,0,_::_=>rfl
 |k,i+1,_::xs=>by
  rw[KR,VI,VI,vy (k+1) i xs,show k+1+i=k+(i+1) by omega]
def Bn{K:l'}(m:cW K H l f)(j:bA K H f h):D6 K (Qj K l) H (KR 0 h):=by
 have r:=qv 0 h
 refine⟨λi s b g=>?_,λs b=>⟨f,b.seq m,?_⟩,λi s x w b g y=>?_⟩
 ·rw[r] at g
  obtain⟨p,g1,_⟩:=j.get (F' g)
  exact⟨f,p,b.seq m,g1⟩
 ·rw[r,Ur,j.length]
  exact S' _
 ·obtain⟨q,u,n,rfl,rfl,t⟩:=y
  obtain⟨v,g1,p⟩:=j.x_ (t _ (b.seq m))
  have c:H q=none:=b.free n
  refine⟨aL n,.tup [.int (i:Int),v],by rw[vy,g1,Nat.zero_add];rfl,upd H q (.tup [.int (i:Int),u]),aL c,.tup (iN.of aF) (.cons (.int _) (.cons (p.same (aL c)) .nil)),λa o z=>?_,λa o z=>?_⟩
  ·by_cases e:a=q
   ·rw[e];exact .inr n
   ·rw[aG e] at z;exact .inl z
  ·by_cases e:a=q
   ·rw[e] at z ⊢;rw[aF] at z ⊢;exact z
   ·rw[aG e] at z ⊢;exact b _ _ z
def KN(c:AD):AD:=λδ Q=>c δ λb=>∃a,b=[.lst a]/\Q (KR 0 a)
def L6(v:Gl X "enumerate")(s:X.mg "enumerate"=none)(i:iZ X [e] t)(x:autoParam (starEach [e] X.env=[(false,eval e X.env)]) dI) :
  PId X (.Tuple j c A) (.Call (.Name "enumerate" p) [e] [] m) (KN t):=by
 refine⟨PI.imp (B6 v s i.pa x) fun σ H R ⟨δ,r,h⟩=>⟨δ,r,i.mono _ _ _ (?_) h⟩,λδ P z g h=>i.mono _ _ _ (fun o ⟨l,f,q⟩=>⟨l,f,g _ q⟩) h⟩;rintro o ⟨l,f,q⟩ y n u b
 subst f
 cases b with
 |cons a r =>
  cases r
  cases a with
  |lst g1 w=>exact⟨_,_,rfl,g1,q _ n u (Bn g1 w)⟩
def FK:D->Option Key
 |.int i=>some (.inl i)
 |.str x=>some (.inr x)
 |_=>none
def ee(kvs:List (Key × D))(k:Key):Option D:=(kvs.find? λa=>decide (a.1=k)).map (·.2)
def K5(td a:ED):ED:=λδ Q=>td δ λd=>a δ λy=>∃kvs k r,d=.dK kvs/\FK y=some k/\ee kvs k=some r/\Q r
def fg.look{K:l'}{H:Hp}{k:Key}{r:D}:∀{a:List (Key × V)} {ds:List (Key × D)},fg K H a ds->ee ds k=some r->∃v,pI a k=some v/\Dv K H v r
 |_,_,.nil,e=>by cases e
 |_,_,.cons (k:=b) (x:=x) (d:=d) (xs:=xs) (ds:=ds) h t,e=>by
  unfold ee at e
  unfold pI
  rw[UK] at e ⊢
  by_cases q:b=k
  ·simp only[q,decide_true] at e ⊢
   cases e
   exact⟨x,rfl,h⟩
  ·simp only[q,decide_false] at e ⊢
   exact fg.look t e
def nI(O:X.A.units+64<cLine)(f:PD X o td)(j:PD X i n)(s:LD i):PD X (.Subscript o i w) (K5 td n):=by
 refine⟨(JO (by omega) f.pe j.pe s).imp fun σ H Q ⟨δ,r,h⟩=>⟨δ,r,f.mono _ _ _ (λd F v N l dv=>⟨δ,r.same l,j.mono _ _ _ (λy t u G b m=>?_) F⟩) h⟩,λδ P R g h=>f.mono _ _ _ (λd p=>j.mono _ _ _ (fun e ⟨a,k,z,B,L,M,E⟩=>⟨a,k,z,B,L,M,g _ E⟩) p) h⟩
 obtain⟨a,k,z,I,C,J,q⟩:=t
 subst I
 cases dv with
 |dK g1 g2 =>
  obtain⟨v,x,c⟩:=(g2.same b).look J
  refine⟨_,v,rfl,.inl ⟨_,k,kO b g1,?_,x.symm⟩,q v G (l.trans b) c⟩
  cases m<;>cases C<;>rfl
def qU(t:fS):fS:=λE δ μ=>t E (cD μ δ) []
def IJ{X:Cx}{D:Ends}(m:BH t)(h:oM X.K (qU t) D σ H):oM X.K t D σ H:=by
 obtain⟨δ,μ,L,r,g,h⟩:=h
 exact⟨cD μ δ,[],[],by rw[bO];exact g.cD r,fG.nil,m _ _ _ _ (oH (by rw[bO];exact bJ)) h⟩
def fN(h:tw X a t):tw X a (qU t):=⟨kq.imp h.ps λD σ H q=>IJ h.mono q,λE b δ μ l q=>h.mono _ _ _ _ l q⟩
section
variable {K:l'}{H:Hp}{μ:Mu}{L:List Addr}{a:Addr}{vs ys:List (Key × V)}{ds:List (Key × D)}
def fG.putK(g:fG K H μ L)(y:a∈L)(n:H a=some (.dK vs))(d:fg K (aa H L) ys v):fG K (upd H a (.dK ys)) (iU a (.dK v) μ) L:=by
 have e:aa (upd H a (.dK ys)) L=aa H L:=gP y
 refine⟨λp F=>?_,by rw[vM];exact g.Ki,λb x=>?_,λb x=>?_⟩
 ·obtain⟨q,A,rfl⟩:=Tj.mp F
  by_cases i:q.1=a
  ·rw[if_pos i]
   exact⟨y,ys,aF,by rw[e];exact d⟩
  ·rw[if_neg i]
   obtain⟨B,j⟩:=g.at_ q A
   refine⟨B,?_⟩
   obtain⟨b,m⟩:=q
   cases m with
   |lst v=>obtain⟨l,h,d⟩:=j;exact⟨l,by rw[aG i];exact h,by rw[e];exact d⟩
   |ins C I=>obtain⟨r,fs,h,j,G,d⟩:=j;exact⟨r,fs,by rw[aG i];exact h,by rw[aG (λz=>by rw[z,n] at j;cases j)];exact j,G,by rw[e];exact d⟩
   |dK o=>obtain⟨l,h,d⟩:=j;exact⟨l,by rw[aG i];exact h,by rw[e];exact d⟩
   |dT o=>obtain⟨l,h,d⟩:=j;exact⟨l,by rw[aG i];exact h,by rw[e];exact d⟩
 ·by_cases f:b=a
  ·rw[f];exact .dK ys aF
  ·have w:=g.eZ b x
   cases w with
   |lst s h=>exact .lst s (by rw[aG f];exact h)
   |dK s h=>exact .dK s (by rw[aG f];exact h)
   |ext φ h t=>exact .ext φ (by rw[aG f];exact h) t
   |ins C r fs h E=>exact .ins C r fs (by rw[aG f];exact h) E
   |own C c fs h t u=>exact .own C c fs (by rw[aG f];exact h) t (by rw[aG (λz=>by rw[z,n] at u;cases u)];exact u)
 ·rcases g.LQ b x with⟨m,h⟩|⟨c,h⟩
  ·by_cases f:b=a
   ·exact .inl ⟨.dK v,Tj.mpr ⟨_,h,by rw[if_pos f,f]⟩⟩
   ·exact .inl ⟨m,Tj.mpr ⟨_,h,if_neg f⟩⟩
  ·exact .inr ⟨c,by rw[aG (λz=>by rw[z,n] at h;cases h)];exact h⟩
def fG.RH(g:H a=none)(d:fg K H ys ds):fG K (upd H a (.dK ys)) [(a,.dK ds)] [a]/\aa (upd H a (.dK ys)) [a]=H:=by
 have e:aa (upd H a (.dK ys)) [a]=H:=by
  funext b
  by_cases c:b=a
  ·rw[c,dH N',g]
  ·rw[bf (λz=>c (D'.mp z)),aG c]
 refine⟨⟨λp f=>?_,?_,λb c=>?_,λb c=>?_⟩,e⟩
 ·rw[D'.mp f]
  exact⟨N',ys,aF,by rw[e];exact d⟩
 ·rw[TM,T'];exact UN.mpr ⟨(λh=>nomatch h),WG⟩
 ·rw[D'.mp c];exact .dK ys aF
 ·rw[D'.mp c];exact .inl ⟨_,N'⟩
end
def om(kvs:List (Key × D))(k:Key)(v:D):List (Key × D) :=
 if(kvs.any λa=>decide (a.1=k))=true then kvs.map (λa=>if a.1=k then(a.1,v) else a) else kvs++[(k,v)]
section
variable {K:l'}{H:Hp}
def fg.length:∀{a:List (Key × V)} {ds:List (Key × D)},fg K H a ds->a.length=ds.length
 |_,_,.nil=>rfl
 |_,_,.cons _ h=>congrArg (·+1) (fg.length h)
def fg.any :∀{b:List (Key × V)} {c:List (Key × D)},fg K H b c->(b.any λa=>decide (a.1=k))=c.any λa=>decide (a.1=k)
 |_,_,.nil=>rfl
 |_,_,.cons _ h=>by rw[Ud,Ud,fg.any h]
def fg.snoc(b:Dv K H v d):∀{a:List (Key × V)} {c:List (Key × D)},fg K H a c->fg K H (a++[(k,v)]) (c++[(k,d)])
 |_,_,.nil=>.cons b .nil
 |_,_,.cons h r=>.cons h (fg.snoc b r)
def fg.AX(b:Dv K H v d):∀{c:List (Key × V)} {f:List (Key × D)},fg K H c f->fg K H (c.map λa=>if a.1=k then(a.1,v) else a) (f.map λa=>if a.1=k then(a.1,d) else a)
 |_,_,.nil=>.nil
 |_,_,.cons (k:=j) (x:=x) (d:=y) h r=>by
  rw[TM,TM]
  by_cases e:j=k
  ·rw[if_pos (show((j,x):Key × V).1=k from e),if_pos (show((j,y):Key × D).1=k from e)]
   exact .cons b (fg.AX b r)
  ·rw[if_neg (show¬((j,x):Key × V).1=k from e),if_neg (show¬((j,y):Key × D).1=k from e)]
   exact .cons h (fg.AX b r)
def fg.put(b:Dv K H v d)(h:fg K H a c):fg K H (putK a k v) (om c k d):=by
 unfold putK om
 rw[h.any]
 split
 ·exact h.AX b
 ·exact h.snoc b
def FL(h:Dv K H y d)(e:FK d=some k):y=kV k:=by cases h<;>cases e<;>rfl
end
def Lq:EF:=λ_ Q=>∀a,Q (.adr a) [(a,.dK [])]
def qw:PF X (.Dict [] [] b) Lq:=by
 refine⟨F_.imp ?_,λδ P f g q a=>g _ _ (q a)⟩;rintro σ H Q ⟨δ,r,q⟩ a e
 obtain⟨g2,c⟩:=fG.RH (K:=X.K) (ds:=[]) e .nil
 exact q a (.ref a) _ [a] (by rw[c];exact aH.refl _) g2 (.adr a)
def Oo(i:Nat)(e c:ED):fS:=λE δ μ=>c δ λd=>∃a b,δ[i]?=some (some (.adr a))/\μ.lookup a=some (.dK b)/\b.length<sizeLine/\e δ λy=>∃k,FK y=some k/\E.nx δ (iU a (.dK (om b k d)) μ)
def oV{p F h:Pos}(hu:X.A.units+64<cLine)(hi:X.N[i]?=some x)(U:Cb X.env.scope x)(s:PD X S Z)(J:PD X e te)(hd:autoParam ((x == ("__debug__":Str))=false) e7)(M:autoParam ((x == ("__classdict__":Str))=false) e7)
  (hs:autoParam (Ue e (some (.Subscript (.Name x p) S h)) F.line X.env=pure false) dI):xS X (.Assign [.Subscript (.Name x p) S h] e F) (Oo i Z te):=by
 refine⟨PS.imp (JW (by omega) (kL hi U hd M) (iT s.pe) (iT J.pe) hs) fun D σ H ⟨δ,μ,L,r,g,q⟩=>⟨L,g.eZ,δ,r,J.mono _ _ _ (fun d ⟨a,kvs,C,O,t,q⟩ v H1 o dv z=>?_) q⟩,
  λE E' δ μ l q=>J.mono _ _ _ (fun d ⟨a,kvs,C,O,t,q⟩=>⟨a,kvs,C,O,t,s.mono _ _ _ (fun y ⟨k,n,q⟩=>⟨k,n,l.nx _ _ q⟩) q⟩) q⟩
 have n:aa (ao H1 H L) L=H1:=bh z
 have g1:fG X.K (ao H1 H L) μ L:=g.show z o
 have W:bG X.K (aa (ao H1 H L) L) σ δ:=by rw[n];exact r.same o
 obtain⟨w,I,B⟩:=r.get i _ C
 cases B
 refine⟨_,I,L,g1.eZ,δ,W,s.mono _ _ _ (?_) q⟩;rintro y ⟨k,ek,q⟩ u b c Y R
 have G:aa (ao b (ao H1 H L) L) L=b:=bh R
 have g2:fG X.K (ao b (ao H1 H L) L) μ L:=g1.show R c
 obtain⟨m,P,Q,j⟩:=g2.at_ _ (mem_of_lookup O)
 rw[n] at c
 have f:fg X.K b P kvs:=by rw[G] at j;exact j
 rw[FL Y ek]
 refine⟨a,_,rfl,EB.k Q (by rw[f.length];exact t),?_⟩
 have T:aa (upd (ao b (ao H1 H L) L) a (.dK (L2.putK P k v))) L=b:=by rw[gP m,G]
 exact q σ _ L (by rw[T];exact o.trans c) (by rw[T];exact r.same (o.trans c)) (g2.putK m Q (by rw[G];exact f.put (dv.same c)))
def Co{K:l'}(mi:ko U)(mt:eh tt)(me:bK T)(r:bG K H σ δ)(h:jL c U tt T δ P)
  (Z:∀g D n l,g D=none->aH H g->bA K g n l->P (.lst l)->Q (.ref D) (upd g D (.lst n))) :
  vN 1 c (λσ H R=>∃ δ,bG K H σ δ/\U δ λl=>∀J A,aH H A->D6 K J A l->R J A) (cz 0) (mE (oT K tt)) (l_ (oE K T)) σ H Q:=by
 refine⟨δ,r,mi _ _ _ (?_) h⟩;rintro l ⟨f,B,F,I,q⟩ J A s1 O D hD
 refine⟨λi m n H'=>m=l.length - i/\i<=l.length/\∃g,g D=none/\aH A g/\bA K g n ((f.take i).filterMap id)/\H'=upd g D (.lst n),⟨l.length,rfl,UP _,A,hD,aH.refl _,.nil,rfl⟩,?_⟩
 rintro i m n H' ⟨rfl,hle,g,L,E,s,rfl⟩
 refine⟨aF,?_⟩
 have X:aH A (upd g D (.lst n)):=E.trans (aL L)
 by_cases u:i<l.length
 ·refine .inr ⟨O.go i _ X u,λx p y=>?_⟩
  obtain⟨s2,d,hd,Hx,sx1,N,only,sx⟩:=O.BC i _ x p X u y
  have hD2:p D=some (.lst n):=s2 _ _ aF
  have Y:∀a o,A a=some o->a≠D:=λa o z=>aQ z hD
  have S:∀a o,Hx a=some o->a≠D:=λa o z w=>by
   rcases only a o z with M|M
   ·exact Y a o M w
   ·rw[w,aF] at M;cases M
  have G:aH g (del p D):=λa o z=>by
   rw[cy (aQ z L)]
   exact s2 a o (aL L a o z)
  have W:aH Hx (del p D):=λa o z=>by
   rw[cy (S a o z)]
   exact sx a o z
  obtain⟨o,ho⟩:∃o,f[i]?=some o:=⟨_,F' (show i<f.length by omega)⟩
  have C:bG K (del p D) (some x::c.map λj=>(σ[j]?).getD none) (some d::nu c δ):=qr (r.same (s1.trans (E.trans G))) (N.same W) c
  refine⟨Le.one,D,n,hD2,_,C,mt _ _ _ (?_) (F i d o hd ho)⟩;rintro b ⟨eb,hb⟩ H3 s3 h3
  have ht:f.take (i+1)=f.take i++[o]:=by rw[UX,ho];rfl
  have t:aH g H3:=G.trans s3
  cases b with
  |false =>
   refine aU ?_
   refine⟨l.length - (i+1),by omega,rfl,u,H3,h3,E.trans t,?_,rfl⟩
   have on:o=none:=by cases o with|none=>rfl|some z=>cases eb
   rw[ht,on,Uh]
   simpa using s.same t
  |true =>
   refine aq ?_
   refine⟨D,n,aF,?_⟩
   rw[qu h3]
   refine⟨_,C.same s3,me _ _ _ (λy ey v H4 s4 dv h4=>⟨aF,?_,l.length - (i+1),by omega,rfl,u,H4,h4,E.trans (t.trans s4),?_,pH⟩) (hb rfl)⟩
   ·rw[s.length]
    exact Tc (G' (Vg _ _) (V4 _ _)) (by rw[B];exact I)
   ·rw[ht,ey,Uh]
    exact(s.same (t.trans s4)).append (.cons dv .nil)
 ·have e:i=l.length:=by omega
  subst e
  refine .inl ⟨O.stop _ X,?_⟩
  rw[<- B,T2] at s
  exact Z g D n _ L (s1.trans E) s q
def wz:cI:=λds Q=>∃xs,(ds=[.lst xs]\/ds=[.tup xs])/\Q (.tup xs)
def Iq:cN wz:=fun ds P a g ⟨xs,e,q⟩=>⟨xs,e,g _ q⟩
def z9{K:l'}:qM K (λh H Q=>∃p f,h=[.ref p]/\((cW K H p f/\∀l,H l=none->Q (.ref l) (upd H l (.tup f)))\/(iN K H p f/\Q (.ref p) H))) wz:=by
 intro H i j Q a ⟨h,e,q⟩
 rcases e with e|e
 ·subst e
  cases a with
  |cons dv r =>
   cases r
   cases dv with
   |lst b c=>exact⟨_,_,rfl,.inl ⟨b,λl g=>q _ _ (aL g) (.tup (iN.of aF) (c.same (aL g)))⟩⟩
 ·subst e
  cases a with
  |cons dv r =>
   cases r
   cases dv with
   |tup b c=>exact⟨_,_,rfl,.inr ⟨b,q _ H (aH.refl _) (.tup b c)⟩⟩
section
variable {X:Cx}{o e:Expr}{es:List Expr}{t:AD}{to te:ED}{pos p p1 p2 tp apos cpos:Pos}
def jW(g:Gl X "tuple")(b:X.mg "tuple"=none)(a:iZ X (e::es) t)(c:autoParam (starEach (e::es) X.env=(false,eval e X.env)::starEach es X.env) dI)(f:autoParam ((backTo pos (starEach es X.env)).any (·.1)=false) dI):PD X (.Call (.Name "tuple" p) (e::es) [] pos) (vB wz t):=xg (i9 uD g b boot_tuple a.pa (he:=c) (hpl:=f)) a.mono z9 Iq
def CO:∀{a:List Str} {b:List Value},Vals (a.map V.str) b->b.countP (λy=>match y with|.str z _=>decide (z=w)|_=>false)=a.countP (λz=>decide (z=w))
 |[],_,.nil=>rfl
 |z::a,_,.cons h r=>by
  obtain⟨t,rfl⟩:=h
  rw[XQ,XQ,CO r]
def mR:∀{c:List Str} {b:List Value},Vals (c.map V.str) b->∀y∈b,∃z t,y=Um z t
 |[],_,.nil,y,h=>nomatch h
 |z::c,_,.cons h r,y,a=>by
  obtain⟨t,rfl⟩:=h
  rcases Gc.mp a with rfl|a
  ·exact⟨z,t,rfl⟩
  ·exact mR r y a
def DT:N2 X "list.count" (λx r H Q=>∃(a:Addr) (c:List Str) (z:Str),x=.ref a/\r=[.str z]/\cW X.K H a (c.map V.str)/\Q (.int ((c.countP (λy=>decide (y=z)):Nat):Int)) H):=by
 intro l s σ H x r v M Q I B E h
 obtain⟨a,c,z,rfl,rfl,J,q⟩:=h
 cases B
 obtain⟨u,rfl,C⟩:=E.one
 obtain⟨m,rfl⟩:=(show ∃t,u=Um z t from C)
 obtain⟨b,j,⟨o,n,e,w,_,d⟩,_⟩:=I.list J
 obtain⟨A,L,f,g⟩:=o
 cases(show A=VY "list" from w)
 cases(show f=Ya b.toArray n from d)
 refine call_meets Xo ⟨_,e,rfl⟩ PySem.F.entry_list_count (PySem.F.args_list_count_2 _ _) (SeqAt.list_countAt a b.toArray n L g (.str z m) (λy=>match y with|.str i _=>decide (i=z)|_=>false)) ⟨e,λy G=>?_,?_⟩
 ·obtain⟨i,t,rfl⟩:=mR j y (Wd.mp G)
  exact Wq i t z m
 ·refine⟨.int ((c.countP (λy=>decide (y=z)):Nat):Int),H,I.tok _,⟨s.toks,?_⟩,q⟩
  rw[<- CO j]
def J6(b:ED)(t:AD):ED:=λδ Q=>b δ λd=>∃a:List Str,d=.lst (a.map D.str)/\t δ λc=>∃z,c=[.str z]/\Q (.int ((a.countP (λy=>decide (y=z)):Nat):Int))
def Ee(s:PD X o to)(y:iZ X (e::es) t)(i:autoParam (UZ o "count" X.env (eval o X.env)=eval o X.env) dI)
  (j:autoParam (((backTo cpos (starEach (e::es) X.env)).all (λx=>!x.1)&&(backToKw cpos (keywordEach [] X.env)).all (λx=>x.1.isSome)&&decide ((e::es).length+([]:List VN).length+(if([]:List VN).isEmpty then 0 else 1)<30))=true) dI)
  (f:autoParam ((apos.endLine == cpos.line)=true) dI)(C:autoParam (starEach (e::es) X.env=(false,eval e X.env)::starEach es X.env) dI)(c:autoParam ((backTo cpos (starEach es X.env)).any (·.1)=false) dI) :
  PD X (.Call (.Attribute o "count" apos) (e::es) [] cpos) (J6 to t):=by
 refine⟨(sS Ui Xo PySem.F.type_list_count DT s.pe y.pa i j f C c).imp fun σ H Q ⟨δ,r,h⟩=>⟨δ,r,s.mono _ _ _ (fun z ⟨bs,l,q⟩ v J B dv=>?_) h⟩,
  λδ P L g h=>s.mono _ _ _ (fun z ⟨bs,l,q⟩=>⟨bs,l,y.mono _ _ _ (fun E ⟨w,u,k⟩=>⟨w,u,g _ k⟩) q⟩) h⟩
 subst l
 cases dv with
 |lst n G =>
  rw[pJ G] at n
  refine⟨.inl ⟨rfl,_,n⟩,δ,r.same B,y.mono _ _ _ (?_) q⟩;rintro E ⟨w,u,k⟩ I M A m
  subst u
  cases m with
  |cons a b =>
   cases a
   cases b
   exact⟨_,bs,w,rfl,rfl,A.seq n,k _ _ (B.trans A) (.int _)⟩
end
end DC
namespace L2
open AutoSeq1 (wpAny_loadPart')
end L2
namespace DC
def O_{K:l'}{st:Stmt}{t:XR->fS}(F:tq K x b st f y)(S:aD N p (aB st))(u:∀e Q R,n e Q R->e.length=p.length)
  (O:∀(c:Value) (A:Around) (a:List Env) (s:Shared) (H:Hp) (E:XK) (R:XR),bZ k (A.deeper (envOfC b (aB st) s.heap.objs.size f c))->qk (D_ P w K z i N b st f c A a s H E) (λ_=>R)->tw (D_ P w K z i N b st f c A a s H E) (af st) (t R))
  (L:∀e Q R,n e Q R->t R { nx:=λ_ _=>Q .ae,rt:=λd μ=>Q (aY μ d)} (bS N e) []):cE P w K z i (xJ P w) (k+1) f y p (NQ K n):=by
 obtain⟨W,od,X,kV,U,Y,Z,c,ct,T,rfl,I,o⟩:=F.ex
 refine Be I o S (fun G H Q E ⟨e,l,h⟩=>by rw[l.length];exact u e _ _ h) ?_;rintro A a s H G Q E j ⟨e,l,h⟩
 have B:=O c A a s H E (kX K E) j KO
 refine⟨_,B.ps,bS N e,[],[],by rw[bO];exact dk l,fG.nil,?_⟩
 let C:D->Prop:=λd=>∀v m,Dv K m v d->Q v m
 exact B.mono { nx:=λ_ _=>C .ae,rt:=λd μ=>C (aY μ d)} _ _ _ ⟨λδ μ q σ m M J r g=>q _ m .ae,λd μ q v m M J g dv=>q v m (g.view dv),λ_ _ q=>q.elim,λ_ _ q=>q.elim⟩ (L e _ _ h)
def PB{K:l'}{st:Stmt}{t:XR->fS}(F:xO K x a st f m)(S:aD N j (aB st))(i:∀g Q R,h g Q R->g.length=j.length)
  (n:∀(f:Addr) (e:Value) (A:Around) (b:List Env) (s:Shared) (H:Hp) (E:XK) (R:XR),bZ k (A.deeper (envOfC a (aB st) s.heap.objs.size f e))->qk (D_ P w K l c N a st f e A b s H E) (λ_=>R)->tw (D_ P w K l c N a st f e A b s H E) (af st) (t R))
  (o:∀g Q R,h g Q R->t R { nx:=λ_ _=>Q .ae,rt:=λd μ=>Q (aY μ d)} (bS N g) []):cE P w K l c (xJ P w) (k+1) f m j (NQ K h):=O_ (xx F) S i (n f) o
def Df.N9{K:l'}{st:Stmt}{t:XR->fS}(d:Df K i x st h)(S:aD N h (aB st))(l:xQ sx)(j:∀g Q R,sx g Q R->g.length=h.length)
  (n:∀(f:Addr) (e:Value) (A:Around) (a:List Env) (s:Shared) (H:Hp) (E:XK) (R:XR),bZ k (A.deeper (envOfC x (aB st) s.heap.objs.size f e))->qk (D_ P w K i c N x st f e A a s H E) (λ_=>R)->tw (D_ P w K i c N x st f e A a s H E) (af st) (t R))
  (p:∀g Q R,sx g Q R->t R { nx:=λ_ _=>Q .ae,rt:=λd μ=>Q (aY μ d)} (bS N g) []):vY P w K i c (k+1) x h sx:=by
 obtain⟨f,o,F,m,b⟩:=d.ex
 exact⟨⟨f,o,O_ (xx F) S j (n f) p,m,F.kp,b⟩,l⟩
def A1:cI:=λds Q=>∃xs,(ds=[.lst xs]\/ds=[.tup xs])/\Q (.lst xs)
def MV:cN A1:=fun ds P a g ⟨xs,e,q⟩=>⟨xs,e,g _ q⟩
def Cz{K:l'}:qM K (λh H Q=>∃p g,h=[.ref p]/\(cW K H p g\/iN K H p g)/\∀l,H l=none->Q (.ref l) (upd H l (.lst g))) A1:=by
 intro H i j Q a ⟨h,e,q⟩
 rcases e with e|e
 ·subst e
  cases a with
  |cons dv r =>
   cases r
   cases dv with
   |lst c f=>exact⟨_,_,rfl,.inl c,λl b=>q _ _ (aL b) (.lst (cW.of aF) (f.same (aL b)))⟩
 ·subst e
  cases a with
  |cons dv r =>
   cases r
   cases dv with
   |tup c f=>exact⟨_,_,rfl,.inr c,λl b=>q _ _ (aL b) (.lst (cW.of aF) (f.same (aL b)))⟩
section
variable {X:Cx}{o e:Expr}{es:List Expr}{t:AD}{to te:ED}{pos p p1 p2 tp apos cpos:Pos}{i:Nat}{x:Str}
def Cr(g:Gl X "list")(b:X.mg "list"=none)(a:iZ X (e::es) t)(c:autoParam (starEach (e::es) X.env=(false,eval e X.env)::starEach es X.env) dI)(f:autoParam ((backTo pos (starEach es X.env)).any (·.1)=false) dI):PD X (.Call (.Name "list" p) (e::es) [] pos) (vB A1 t):=xg (i9 nq g b boot_list a.pa (he:=c) (hpl:=f)) a.mono Cz MV
end
end DC
namespace L2
def RT(z:Str)(k:Nat):Str:=⟨(T_ k z.cps).foldl (·++·) #[]⟩
def Fg(z:Str)(k:Int):Str:=if k=1 then z else RT z k.toNat
def Pe:R2:=λx y H Q=>∃z k,x=.str z/\y=.int k/\0<k/\k<1000/\0<z.length/\z.length<1000/\Q (.str (Fg z k)) H
def JI:g9 X (binaryOp .Mult) Pe:=by
 intro b s σ H x y v u Q I f c h
 obtain⟨z,k,rfl,rfl,i,l,m,j,q⟩:=h
 obtain⟨t,rfl⟩:=f
 obtain⟨n,rfl⟩:=c
 have g:z.length*k.toNat<=1000000:=G' (Nat.mul_le_mul (Vp j) (show k.toNat<=1000 by omega)) (by decide)
 have a:Xq (z.length*k.toNat)=false:=by
  unfold Xq
  exact decide_eq_false (ZC.mpr (G' g (by decide)))
 refine P.mul_str (by rw[decide_eq_false (by omega),decide_eq_false (by omega)];rfl) (λ_ _=>?_) (λ_ _=>a) ?_
 ·have:(1000:Int)<=(2 ^ 63 - 1) / k:=(Int.le_ediv_iff_mul_le i).mpr (XO (show(1000:Int)*k<=1000*1000 from Int.mul_le_mul_of_nonneg_left (by omega) (by decide)) (by decide))
  omega
 ·rw[if_neg (by omega)]
  unfold Fg at q
  by_cases e:k=1
  ·rw[if_pos (by rw[e];rfl)]
   rw[if_pos e] at q
   exact⟨.str z,H,I,⟨_,rfl⟩,q⟩
  ·rw[if_neg (by simp only[Bool.or_eq_true,beq_iff_eq];omega)]
   rw[if_neg e] at q
   refine⟨?_,.str _,H,I.tok _,⟨_,rfl⟩,q⟩
   exact fits_reps a
end L2
namespace DC
section
variable {X:Cx}{a b e:Expr}{es:List Expr}{ta tb te:ED}{t:AD}{pos p p2:Pos}
def OS:F2:=λd e Q=>∃z k,d=.str z/\e=.int k/\0<k/\k<1000/\0<z.length/\z.length<1000/\Q (.str (Fg z k))
def QG:ED->ED->ED:=rJ OS
def Lh(r:PD X a ta)(n:PD X b tb):PD X (.BinOp a .Mult b pos) (QG ta tb):=Cs JI (fun H x y d e Q m o ⟨z,k,g,i,j,c,h,l,q⟩=>by
 subst g;subst i;cases m;cases o
 exact⟨z,k,rfl,rfl,j,c,h,l,q _ H (aH.refl _) (.str _)⟩) (fun d e P s f ⟨z,k,g,i,j,c,h,l,q⟩=>⟨z,k,g,i,j,c,h,l,f _ q⟩) r n
def QH(k:Int)(t:AD):ED:=λδ Q=>t δ λc=>c.length<=sizeLine/\-(2 ^ 63)<=k/\k<2 ^ 63/\c.length*k.toNat<=sizeLine/\Q (.lst (T_ k.toNat c).flatten)
def bA.rep{K:l'}(h:bA K H c f):∀k:Nat,bA K H (T_ k c).flatten (T_ k f).flatten
 | 0=>.nil
 |k+1=>by rw[U5,U5,VT,VT];exact h.append (bA.rep h k)
def Li(h:iZ X es t):PD X (.BinOp (.List es p) .Mult (.Constant (.int k) j p2) pos) (QH k t):=by
 refine⟨(Kp Mn (wa h.pa) GA).imp fun σ H Q ⟨δ,r,q⟩=>⟨δ,r,h.mono _ _ _ (fun x ⟨n,o,s,u,q⟩ f i z c=>⟨by rw[c.length];exact n,λl m=>?_⟩) q⟩,λδ P A g q=>h.mono _ _ _ (fun x ⟨n,o,s,u,q⟩=>⟨n,o,s,u,g _ q⟩) q⟩
 have w:aH i (upd i l (.lst f)):=aL m
 refine⟨l,k,f,rfl,rfl,aF,o,s,by rw[c.length];exact u,λp y=>?_⟩
 have v:aH (upd i l (.lst f)) (upd (upd i l (.lst f)) p (.lst (T_ k.toNat f).flatten)):=aL y
 exact q _ _ (z.trans (w.trans v)) (.lst (cW.of aF) (bA.rep (c.same (w.trans v)) _))
end
end DC
namespace L2
def CW:∀{b:List Value} {a:List Str},StrsAre b a->Vals (a.map V.str) b
 |_,_,.nil=>.nil
 |_,_,.cons _ t h=>.cons ⟨t,rfl⟩ (CW h)
def mS:∀{b:List Value} {a:List Str},Vals (a.map V.str) b->StrsAre b a
 |_,[],.nil=>.nil
 |_,_::_,.cons ⟨t,e⟩ h=>by subst e;exact .cons _ t (mS h)
def pQ:gH X (.builtin "sorted") (λj H Q=>∃p b,j=[.ref p]/\cW X.K H p (b.map V.str)/\b.length<64/\∀a:List Str,a.Perm b->YA a=true->∀l,H l=none->Q (.ref l) (upd H l (.lst (a.map V.str)))):=by
 intro m s σ H j B Q I r h
 obtain⟨p,b,rfl,x,v,q⟩:=h
 obtain⟨u,rfl,t⟩:=vals1 r
 cases t
 obtain⟨c,i,o,C⟩:=I.list x
 have A:c.length=b.length:=by have:=i.length;simpa using this.symm
 refine sorted_strs o.isList (mS i) (by omega) λf a z g y=>?_
 obtain⟨e,he⟩:=sortedAll_at s.heap c f
 have n:a.length<=sizeLine:=G' (YV g.length_eq) (G' (Vp v) (by decide))
 refine⟨.ref (s.heap.objs.size+1),_,I.laid (t':=s.toks) (λ_ _=>sortedAll_old) (Va _) (show aO X.prog X.w _ _ _ (.lst (a.map V.str)) from⟨by rw[tz];exact n,f.toList,e,CW z,by rw[YW];exact he⟩),rfl,q a g y _ (I.au.fresh (Va _))⟩
end L2
namespace DC
def p9:∀{p:Str} {l:List Str},risingS p l=true->∀x∈l,ltCps x.cps.toList p.cps.toList=false
 |p,[],_,x,h=>(nomatch h)
 |p,y::r,e,x,h=>by
  have b:(!ltCps y.cps.toList p.cps.toList&&risingS y r)=true:=e
  rw[Tw] at b
  have a:ltCps y.cps.toList p.cps.toList=false:=by simpa using b.1
  rcases Gc.mp h with rfl|h
  ·exact a
  ·have f:=p9 b.2 x h
   rw[ltCps_eq,decide_eq_false_iff_not] at a f ⊢
   exact λz=>f (by
    rcases List.le_total x.cps.toList y.cps.toList with w|w
    ·rcases aBC (x.cps.toList<y.cps.toList) with c|c
     ·exact c
     ·exact absurd (Yq (Yd.mp c) z) a
    ·exact absurd (Yq w z) a)
def qh(h:YA (p::l)=true):YA l=true:=by
 cases l with
 |nil=>rfl
 |cons y r =>
  have a:(!ltCps y.cps.toList p.cps.toList&&risingS y r)=true:=h
  rw[Tw] at a
  exact a.2
def tM{x y:Str}(h:x.cps.toList=y.cps.toList):x=y:=by
 obtain⟨a⟩:=x
 obtain⟨b⟩:=y
 cases a;cases b
 cases h
 rfl
def tK:∀{l m:List Str},l.Perm m->YA l=true->YA m=true->l=m
 |[],m,h,_,_=>h.nil_eq
 |x::l,m,h,h1,f=>by
  cases m with
  |nil=>exact absurd h.length_eq (by simp)
  |cons y m =>
   have e:x=y:=by
    have a:x∈y::m:=h.mem_iff.mp N'
    have b:y∈x::l:=h.mem_iff.mpr N'
    rcases Gc.mp a with a|a
    ·exact a
    ·rcases Gc.mp b with b|b
     ·exact b.symm
     ·have c:=p9 (p:=x) (l:=l) h1 y b
      have d:=p9 (p:=y) (l:=m) f x a
      rw[ltCps_eq,decide_eq_false_iff_not] at c d
      exact tM (List.le_antisymm (Yd.mp c) (Yd.mp d))
   subst e
   rw[tK (h.cons_inv) (qh h1) (qh f)]
def Bj(e:cD μ δ=a)(h:c a λb=>if b=true then t { E with nx:=r E } δ μ else u { E with nx:=r E } δ μ):wK (Nu c t u) r E δ μ:=by
 unfold wK Nu
 rw[e]
 exact h
def iq(e:cD μ δ=δ')(h:t E δ' []):qU t E δ μ:=by
 unfold qU
 rw[e]
 exact h
def Jt(I:SD->Mu->Prop)(b:∀ δ μ,I δ μ->u E δ μ)(a:∀N:SD->Mu->Prop,(∀ δ μ,I δ μ->N δ μ)->t { E with nx:=N } δ μ):wK t u E δ μ:=a (u E) b
def cK{a:Addr}{m:MD}:Uc a [(a,m)]=some m:=by simp[Uc]
def oj :iU a b [(a,m)]=[(a,b)]:=by simp[iU]
def fk :aY [(a,m)] (.adr a)=m.d:=by simp[aY,Uc]
def cE.sub{K:l'}(F:cE P w K n e i k f l m j)(h:∀b H Q E,c b H Q E->j b H Q E):cE P w K n e i k f l m c :=
 ⟨λb H Q E q=>F.len b H Q E (h _ _ _ _ q),λA a s H g t b Q E p u o r q=>F.run A a s H g t b Q E p u o r (h _ _ _ _ q)⟩
def Df.vq{K:l'}{st:Stmt}(d:Df K j x st h)(S:aD N h (aB st))(l:jP sd)(i:∀c Q,sd c Q->c.length=h.length)
  (n:∀(f:Addr) (e:Value) (A:Around) (a:List Env) (s:Shared) (H:Hp) (E:XK),bZ k (A.deeper (envOfC x (aB st) s.heap.objs.size f e))->tw (Bx P w K j g N x st f e A a s H E) (af st) t)
  (p:∀c Q,sd c Q->t { nx:=λ_ μ=>Q .ae μ,rt:=Q } (bS N c) []):vX P w K j g (k+1) x h sd:=by
 obtain⟨f,o,F,m,b⟩:=d.ex
 exact⟨⟨f,o,SU F S i (n f) p,m,F.kp,b⟩,l⟩
def fg.has{K:l'}:∀{b:List (Key × V)} {ds:List (Key × D)},fg K H b ds->(pI b k).isSome=(ee ds k).isSome
 |_,_,.nil=>rfl
 |_,_,.cons (k:=c) (x:=x) (d:=d) (xs:=xs) (ds:=ds) h t=>by
  have a:=fg.has (k:=k) t
  unfold ee pI at a ⊢
  rw[UK,UK]
  by_cases q:c=k
  ·simp only[q,decide_true]
   rfl
  ·simp only[q,decide_false]
   exact a
def HC(neg:Bool)(b td:ED):ED:=λδ Q=>b δ λy=>td δ λd=>∃a k,d=.dK a/\FK y=some k/\Q (.bl (if neg=true then !(ee a k).isSome else(ee a k).isSome))
def FU(e:bK f)(b:bK td):bK (HC neg f td):=λδ P l g h=>e _ _ _ (λy j=>b _ _ _ (fun d ⟨a,k,c,i,q⟩=>⟨a,k,c,i,g _ q⟩) j) h
def zw(w:PD X i m)(t:PD X o td)(h:oE X.K (HC neg m td) σ H Q):(if neg=true then CQ (oE X.K m) (oE X.K td) else P0 (oE X.K m) (oE X.K td)) σ H Q:=by
 obtain⟨δ,r,h⟩:=h
 have j:∀(y:D) (u:V) (d:D) (v:V) (e b:Hp),aH H e->aH e b->Dv X.K e u y->Dv X.K b v d->(∃c k,d=.dK c/\FK y=some k/\kD X.K H Q (.bl (if neg=true then !(ee c k).isSome else(ee c k).isSome))) ->
   ∃a n,v=.ref a/\xN b a u n/\Q (.bl (if neg=true then !n.isSome else n.isSome)) b:=fun y u d v e b f l g dv ⟨c,k,x,z,q⟩=>by
  subst x
  cases dv with
  |dK g1 g2 =>
   refine⟨_,_,rfl,.inl ⟨_,k,g1,FL g z,rfl⟩,?_⟩
   rw[g2.has]
   exact q _ b (f.trans l) (.bl _)
 cases neg with
 |true =>
  rw[if_pos rfl]
  exact⟨δ,r,w.mono _ _ _ (λy p u e f g=>⟨δ,r.same f,t.mono _ _ _ (λd s v b l dv=>j y u d v e b f l g dv s) p⟩) h⟩
 |false =>
  rw[if_neg Fk]
  exact⟨δ,r,w.mono _ _ _ (λy p u e f g=>⟨δ,r.same f,t.mono _ _ _ (λd s v b l dv=>j y u d v e b f l g dv s) p⟩) h⟩
def OE(g:X.A.units+64<cLine)(b:PD X i e)(a:PD X o td)(f:behindInMarks .In o=false):PD X (.Compare i [.In] [o] c) (HC false e td) :=
 ⟨(F7 (Mr (by omega) b.pe a.pe) f).imp λσ H Q h=>zw (neg:=false) b a h,FU b.mono a.mono⟩
def Ek(g:X.A.units+64<cLine)(b:PD X i e)(a:PD X o td)(f:behindInMarks .NotIn o=false):PD X (.Compare i [.NotIn] [o] c) (HC true e td) :=
 ⟨(F7 (vG (by omega) b.pe a.pe) f).imp λσ H Q h=>zw (neg:=true) b a h,FU b.mono a.mono⟩
def zP(g:X.A.units+64<cLine)(b:PD X i e)(a:PD X o td)(f:behindInMarks .NotIn o=false):mV X (.Compare i [.NotIn] [o] c) (e6 (HC true e td)) :=
 mV.of (M9 (vG (by omega) b.pe a.pe) f) (λσ H Q h=>zw (neg:=true) b a h) (FU b.mono a.mono)
def Ij(i:Nat)(f:EF):fS:=λE δ μ=>∃a c,δ[i]?=some (some (.adr a))/\μ.lookup a=some (.lst c)/\f δ λd g=>∃b e,d=.adr b/\g.lookup b=some (.lst e)/\c.length+e.length<=sizeLine/\E.nx δ (iU a (.lst (c++e)) μ)
def mK{p Q f c:Pos}(hi:X.N[i]?=some x)(hv:Cb X.env.scope x)(U:PF X e tf)(hd:autoParam ((x == ("__debug__":Str))=false) e7)(W:autoParam ((x == ("__classdict__":Str))=false) e7)
  (y:autoParam (starEach [e] X.env=(false,eval e X.env)::starEach [] X.env) dI)(j:autoParam ((f.endLine == c.line)=true) dI)
  (o:autoParam (((backTo c (starEach [e] X.env)).all (λx=>!x.1)&&(backToKw c (keywordEach [] X.env)).all (λx=>x.1.isSome)&&decide ([e].length+([]:List VN).length+(if([]:List VN).isEmpty then 0 else 1)<30))=true) dI)
  (hs:autoParam (Ue (.Call (.Attribute (.Name x p) "extend" f) [e] [] c) none Q.line X.env=pure false) dI)
  (Y:autoParam (UZ (.Name x p) "extend" X.env (eval (.Name x p) X.env)=eval (.Name x p) X.env) dI) :
  xS X (.Expr (.Call (.Attribute (.Name x p) "extend" f) [e] [] c) Q) (Ij i tf):=by
 refine⟨PS.imp (mP (sS Ui YO PySem.F.type_list_extend DU (kL hi hv hd W) (cU (iT U.pe) gX y) Y o j y) hs) fun D σ H ⟨δ,μ,L,r,g,q⟩=>?_,
  fun E E' δ μ l ⟨a,ds,O,Z,q⟩=>⟨a,ds,O,Z,U.mono _ _ _ (fun d μ' ⟨b,P,G,C,e3,k⟩=>⟨b,P,G,C,e3,l.nx _ _ k⟩) q⟩⟩
 obtain⟨a,ds,O,Z,q⟩:=q
 obtain⟨v,T,dv⟩:=r.get i _ O
 cases dv
 obtain⟨m,A,hH,s⟩:=g.at_ _ (mem_of_lookup Z)
 refine⟨_,T,.inl ⟨rfl,_,cW.of hH⟩,L,g.eZ,δ,r,U.mono _ _ _ (λd μ' k w h L' s' g' dw z=>?_) q⟩
 obtain⟨b,P,ed,S,u,k⟩:=k
 subst ed
 cases dw
 obtain⟨hbL,B,R,n⟩:=g'.at_ _ (mem_of_lookup S)
 have M:b∉L:=λY=>by rw[z b Y] at R;cases R
 have I:aH (aa H L) h:=s'.trans bJ
 have G:aa (ao h H L) L=h:=bh z
 have g1:fG X.K (ao h H L) μ L:=g.show z I
 have t:ao h H L a=some (.lst A):=by rw[aV m];exact hH
 have J:ao h H L b=some (.lst B):=by rw[aS M];exact R
 refine⟨a,b,A,B,rfl,rfl,t,J,by rw[s.length,n.length];exact u,?_⟩
 have g2:=g1.putL m t (ys:=A++B) (ds:=ds++P) (by rw[G];exact(bA.same I s).append (bA.same bJ n))
 have C:aa (upd (ao h H L) a (.lst (A++B))) L=h:=by rw[gP m,G]
 exact k σ _ L (by rw[C];exact I) (by rw[C];exact r.same I) g2
def MN(j:TD)(i:fS):fS:=λE δ μ=>∃a:Nat->SD->Mu->Prop,(∃m,a m δ μ)/\∀m e f,a m e f->j (cD f e) λb=>if b=true then i { E with nx:=λg h=>∃c,c<m/\a c g h,ct:=λg h=>∃c,c<m/\a c g h,bk:=E.nx } e f else E.nx e f
def sM(Y:V' (model X.prog X.w) X.A X.env X.xe)(N:mV X c S)(P:tw X F Z):xS X (.While c F [] T) (MN S Z):=by
 refine⟨PS.imp (zA Y N.pt P.ps) λD σ H ⟨δ,μ,L,r,g,e,⟨W,G⟩,step⟩=>⟨λm M C=>∃ x t p,aH (aa H L) (aa C p)/\bG X.K (aa C p) M x/\fG X.K C t p/\e m x t,⟨W,δ,μ,L,aH.refl _,r,g,G⟩,?_⟩,fun E E' δ μ l ⟨e,G,step⟩=>⟨e,G,λm x t O=>N.mono _ _ _ (λb q=>?_) (step m x t O)⟩⟩
 ·rintro m M C ⟨x,t,p,B,I,J,O⟩
  refine⟨_,J.cD I,N.mono _ _ _ (λb q R Q=>?_) (step m x t O)⟩
  have n:aH (aa C p) (aa R p):=d_ Q
  cases b with
  |false =>
   show if false=true then _ else _
   rw[if_neg Fk] at q ⊢
   exact q M R p (B.trans n) (I.same n) (J.on Q)
  |true =>
   show if true=true then _ else _
   rw[if_pos rfl] at q ⊢
   refine⟨λy j=>∃ f a i,aH (aa H L) (aa j i)/\bG X.K (aa j i) y f/\fG X.K j a i/\∃h,h<m/\e h f a,fun y j ⟨f,a,i,n,u,g2,h,U,o⟩=>⟨h,U,f,a,i,n,u,g2,o⟩,x,t,p,I.same n,J.on Q,
    P.mono { pR X.K H L D with nx:=λf a=>∃h,h<m/\e h f a,ct:=λf a=>∃h,h<m/\e h f a,bk:=(pR X.K H L D).nx } _ _ _ ⟨?_,?_,?_,?_⟩ q⟩
   ·exact λf a o y j i s u g2=>⟨f,a,i,(B.trans n).trans s,u,g2,o⟩
   ·exact λd a o v j i s g2 dv=>o v j i ((B.trans n).trans s) g2 dv
   ·exact λf a o y j i s u g2=>o y j i ((B.trans n).trans s) u g2
   ·exact λf a o y j i s u g2=>⟨f,a,i,(B.trans n).trans s,u,g2,o⟩
 ·cases b with
  |false =>
   rw[if_neg Fk] at q ⊢
   exact l.nx _ _ q
  |true =>
   rw[if_pos rfl] at q ⊢
   exact P.mono { E with nx:=λf a=>∃h,h<m/\e h f a,ct:=λf a=>∃h,h<m/\e h f a,bk:=E.nx } _ _ _ ⟨λ_ _ z=>z,l.rt,λ_ _ z=>l.nx _ _ z,λ_ _ z=>z⟩ q
section
variable {X:Cx}{c a b e:Expr}{es:List Expr}{uc:TD}{ta tb:EF}{t:AD}{pos p:Pos}
def Sm(g:TD)(f h:EF):EF:=λδ Q=>g δ λk=>if k=true then f δ Q else h δ Q
def Qy(i:mV X c uc)(l:PF X a ta)(j:PF X b tb):PF X (.IfExp c a b pos) (Sm uc ta tb):=by
 refine⟨(yz i.pt l.pe j.pe).imp λσ H Q ⟨δ,r,h⟩=>⟨δ,r,i.mono _ _ _ (λk q m f=>?_) h⟩,λδ P n g h=>i.mono _ _ _ (λk q=>?_) h⟩
 ·cases k with
  |true =>
   show if true=true then _ else _
   rw[if_pos rfl] at q ⊢
   exact⟨δ,r.same f,l.mono _ _ _ (λd μ z=>z.on f) q⟩
  |false =>
   show if false=true then _ else _
   rw[if_neg Fk] at q ⊢
   exact⟨δ,r.same f,j.mono _ _ _ (λd μ z=>z.on f) q⟩
 ·cases k with
  |true=>rw[if_pos rfl] at q ⊢;exact l.mono _ _ _ g q
  |false=>rw[if_neg Fk] at q ⊢;exact j.mono _ _ _ g q
def IC(t:AD):EF:=λδ Q=>t δ λg=>∃f,(g=[.lst f]\/g=[.tup f])/\∀a,Q (.adr a) [(a,.lst f)]
def C6(E:Gl X "list")(z:X.mg "list"=none)(v:iZ X (e::es) t)(A:autoParam (starEach (e::es) X.env=(false,eval e X.env)::starEach es X.env) dI)(C:autoParam ((backTo pos (starEach es X.env)).any (·.1)=false) dI):PF X (.Call (.Name "list" p) (e::es) [] pos) (IC t):=by
 refine⟨(i9 nq E z boot_list v.pa (he:=A) (hpl:=C)).imp fun σ H Q ⟨δ,r,h⟩=>⟨δ,r,v.mono _ _ _ (?_) h⟩,λδ P G g h=>v.mono _ _ _ (fun ds ⟨j,e,k⟩=>⟨j,e,λa=>g _ _ (k a)⟩) h⟩;rintro ds ⟨j,e,k⟩ F m w f
 have i:∀{n:List V},bA X.K m n j->∀l,m l=none->Q (.ref l) (upd m l (.lst n)):=fun{n} y l x=>by
  obtain⟨g2,B⟩:=(fG.nil (K:=X.K) (H:=m)).Fm x (ds:=j) (by rw[bO];exact y)
  exact k l (.ref l) _ [l] (by rw[B,bO];exact w) g2 (.adr l)
 rcases e with e|e
 ·subst e
  cases f with
  |cons dv u =>
   cases u
   cases dv with
   |lst o s=>exact⟨_,_,rfl,.inl o,i s⟩
 ·subst e
  cases f with
  |cons dv u =>
   cases u
   cases dv with
   |tup o s=>exact⟨_,_,rfl,.inr o,i s⟩
def lG.d7{K:l'}(c:lG P w K mg base j C m l)(o:cN i)(h:∀g Q,i g Q->l g λd μ=>Q (aY μ d)):bw P w K mg base j C m i []:=by
 obtain⟨f,u,v,r,s,F,b⟩:=c.ex
 exact⟨⟨f,u,v,[],[],r,s,cE.sub F (fun n H Q E ⟨g,dv,q⟩=>Gs c.ms h n H Q E ⟨g,dv,q⟩),b,.nil,λ_=>.nil⟩,o⟩
end
end DC
namespace L2
def J0{a:List Str}(e:a[i]?=some x)(k:Str):(decide (k∈a.take i)||decide (k=x))=decide (k∈a.take (i+1)):=by
 rw[UX,e]
 by_cases b:k∈a.take i
 ·simp[b]
 ·by_cases c:k=x
  ·simp[c]
  ·simp[b,c]
def G4{b:List Str}(e:b.Nodup)(c:b[i]?=some x):decide (x∈b.take i)=false:=decide_eq_false λh=>by
 obtain⟨m,a⟩:=Tp.mp h
 rw[U8] at a
 split at a
 ·rename_i f
  have:=(XI (Te.mp a).1 e).mp (a.trans c.symm)
  omega
 ·cases a
section
variable {prog:TV}{w:World}{A:Around}{E:Value->Shared->Prop}{s:Shared}
abbrev sk(prog:TV)(w:World):=PySem.strKind prog w
def K0(x:Str)(t:Tok):(sk prog w).is x (.str x t)=true:=by show VE x (.str x t)=true;simp[VE]
def zK{R:Result->Shared->Prop}{I:Addr}{U X:List Addr}{G:Array YM->Array YM->Prop}{n:Nat}{P:Nat->Value->Prop}{St:Nat->Shared->Prop}
  (W:WalksS prog w A.in1 I U X G n P St)(B:Addr)(m:B∉U){a:List Str}(hn:a.length=n)(Y:a.Nodup)(S:∀i v,P i v->∃x t,a[i]?=some x/\v=.str x t)(hb:n+1<XE) :
  ∀(d i:Nat) (s:Shared),n - i=d->i<=n->St i s->s.heap.SetOf (sk prog w) B (λk=>decide (k∈a.take i)) i ->
   (∀y,Moved (B::X) G s y->y.heap.SetOf (sk prog w) B (λk=>decide (k∈a.take n)) n->R (.ok (.ret .none)) y) ->
   VQ (model prog w) A (.builtin "set.update.loop" ⟨[.ref B,.ref I],[]⟩) R s
 | 0,i,s,h0,hi,st,J,g=>by
  have e:i=n:=by omega
  subst e
  refine codeAny_builtin Yb ?_
  rw[VW Wn _]
  refine(show wpAny _ A.in1 (pyNext (.ref I) >>= _) _ _ s from wpAny_bind (W.done s _ _ st λf j=>?_))
  refine(show wpAny _ A.in1 (ret T5) _ _ f from wpAny_pure (g f (j.mono λb q=>TR _ q) ?_))
  obtain⟨F,H,Q,O,M,c⟩:=J
  exact⟨F,H,Q,O,j.heap B _ (λq=>m (W.sub _ q)) M,c⟩
 |d+1,i,s,h0,hi,st,J,g=>by
  have lt:i<n:=by omega
  refine codeAny_builtin Yb ?_
  rw[VW Wn _]
  refine(show wpAny _ A.in1 (pyNext (.ref I) >>= _) _ _ s from wpAny_bind (W.item i s _ _ lt st λv f hP N j=>?_))
  obtain⟨x,t,T,rfl⟩:=S i v hP
  have p:f.heap.SetOf (sk prog w) B (λk=>decide (k∈a.take i)) i:=by
   obtain⟨F,H,Q,O,M,c⟩:=J
   exact⟨F,H,Q,O,j.heap B _ (λq=>m (W.sub _ q)) M,c⟩
  refine(show wpAny _ A.in1 (holding [Um x t] (setAdd B (.str x t)) >>= _) _ _ f from wpAny_bind (wpAny_holding ?_))
  unfold setAdd
  refine wpAny_holding (wpAny_bind ((sk prog w).pyHash (k:=x) (K0 x t) ?_))
  refine wpAny_setAddHashed_of (knd:=sk prog w) (s:={ f with toks:=f.toks+1 }) (K0 x t) rfl p (by omega) λZ same r=>?_
  have u:Z.SetOf (sk prog w) B (λk=>decide (k∈a.take (i+1))) (i+1):=by
   have e1:(λl=>decide (l∈a.take i)||decide (l=x))=λk=>decide (k∈a.take (i+1)):=funext λk=>J0 T k
   have e2:(if decide (x∈a.take i)=true then i else i+1)=i+1:=by rw[G4 Y T];rfl
   have z:Z.SetOf (sk prog w) B (λl=>decide (l∈a.take i)||decide (l=x)) (if decide (x∈a.take i)=true then i else i+1):=r
   rw[e1,e2] at z
   exact z
  refine wpAny_pure ⟨plainId_quiet Wn _,zK W B m hn Y S hb d (i+1) _ (by omega) lt (W.frame _ f _ _ N (Va _) λb h o e=>?_) u λs3 L C=>?_⟩
  ·rw[same.2 b (λq=>m (by rw[<- q];exact h))]
   exact e
  ·refine g s3 (Moved.trans W.gtrans ((j.mono λb q=>TR _ q).then_heap (Va _) λb o h e=>?_) L) C
   rw[same.2 b (λq=>h (by rw[q];exact N'))]
   exact e
end
abbrev bq(a:Bool):Obj:={ cls:=.type "set",dict:=none,data:=.set #[] 0 (.fresh 0 0 a)}
structure KL (h:Heap) (l:Addr) (T:String) (ss:List Str):Prop where
 ex:∃(o:Obj) (its:Array Value),h.get? l=some o/\o.cls=.type T/\StrsAre its.toList ss/\((T="list"/\h.IsList l its)\/(T="tuple"/\h.IsTuple l its))
def CN:∀{vs:List Value} {a:List Str},StrsAre vs a->∀{i:Nat} {v:Value},vs[i]?=some v->∃x t,a[i]?=some x/\v=.str x t
 |_,_,.nil,i,v,h=>by cases h
 |_,_,.cons x t r,0,v,h=>by cases h;exact⟨x,t,rfl,rfl⟩
 |_,_,.cons x t r,i+1,v,h=>CN r (i:=i) h
def strs_size:∀{vs:List Value} {a:List Str},StrsAre vs a->vs.length=a.length
 |_,_,.nil=>rfl
 |_,_,.cons _ _ r=>congrArg (·+1) (strs_size r)
def AL(m:A.handled=none)(r:StrsAre c.toList f)(p:(T="list"/\s.heap.IsList l c)\/(T="tuple"/\s.heap.IsTuple l c))(o:l<s.heap.objs.size) :
  ∃(oI:Obj) (St:Nat->Shared->Prop),(∀(h:Around) (g:Value->Shared->Prop) (Q:Value->Shared->Prop),Q (.ref s.heap.objs.size) { s with heap:=s.heap.push oI }->wpAny (model prog w) h (pyIter (.ref l)) Q g s) /\
   WalksS prog w A s.heap.objs.size [s.heap.objs.size,l] [s.heap.objs.size] (λa b=>b=a) f.length (λi v=>c[i]?=some v) St/\St 0 { s with heap:=s.heap.push oI }:=by
 have j:c.size=f.length:=by rw[<- strs_size r,U4]
 have n:l≠s.heap.objs.size:=Tq o
 rcases p with⟨_,e⟩|⟨_,e⟩
 ·exact⟨_,_,λh g Q q=>wpAny_pyIter_list e q,j ▸ (Yl m _ l n c).toS,⟨⟨_,TN _ rfl,rfl,rfl⟩,e.push _⟩⟩
 ·exact⟨_,_,λh g Q q=>XW e q,j ▸ (Walks.tuple m _ l n c).toS,⟨⟨_,TN _ rfl,rfl,rfl⟩,e.push _⟩⟩
def ES(X:A.handled=none)(tx:KL s.heap l T g)(hd:g.Nodup)(hb:g.length+1<XE)
  (P:∀f j,f.SetOf (sk prog w) s.heap.objs.size (λk=>decide (k∈g.take g.length)) g.length->(∀b o,s.heap.get? b=some o->f.get? b=some o)->Q (.ref s.heap.objs.size) { s with heap:=f,toks:=j }) :
  wpAny (model prog w) A (call (.type "set") [.ref l]) Q E s:=by
 obtain⟨Y,C,t,n,hS,U⟩:=tx.ex
 have x:l<s.heap.objs.size:=TU t
 obtain⟨k0,k1,mro⟩:=Vf.mro
 have made:=Vf.made
 have Z:=Vf.sub
 refine wpAny_call (codeAny_of_tree (show wpAny _ _ (callAny (.type "set") _) _ _ _ from wpAny_pure ⟨W8 _ (by decide +kernel),codeAny_builtin F.entry_type_call ?_⟩))
 rw[Around.under_plain (weight_type_call_type "set" [.ref l] []) rfl]
 have nt:=Vf.notType
 have cc:=Vf.canCreate
 have tc:=F.typeCall_set_1 (.ref l)
 repeat (any_goals (first|assumption|wp_step))
 refine codeAny_mono (code_set_new_1 (.ref l) (E:=E) (Q₁:=λv J=>∃a:Bool,v=.ref s.heap.objs.size/\J={ s with heap:=s.heap.push (bq a)}) λa=>⟨a,rfl,rfl⟩) λr J h=>?_
 match r,h with
 |.error e,h=>exact h
 |.ok .next,h=>exact h.elim
 |.ok .brk,h=>exact h.elim
 |.ok .cont,h=>exact h.elim
 |.ok (.ret v),h =>
  obtain⟨a,rfl,rfl⟩:=h
  have hB:(s.heap.push (bq a)).get? s.heap.objs.size=some (bq a):=TN _ rfl
  have tB:Shared.TypeIs { s with heap:=s.heap.push (bq a)} (.ref s.heap.objs.size) "set":=⟨_,hB,rfl⟩
  have li:=Vf.init.lookup
  have bi:=Vf.init.bind (.ref s.heap.objs.size)
  repeat (any_goals (first|assumption|wp_step))
  refine codeAny_mono (codeAny_call_builtin (R:=wants (λr G=>r=.none/\∃f j,G={ s with heap:=f,toks:=j }/\f.SetOf (sk prog w) s.heap.objs.size (λk=>decide (k∈g.take g.length)) g.length /\
   (∀b o,s.heap.get? b=some o->f.get? b=some o)) E) Vf.init.plain F.entry_set_init (check_set_init_1 tB ?_)) λr2 G c=>?_
  ·have m:∀(H:Around),H.in1.handled=none ->
     ∃oI:Obj,(∀(A2:Around) (E':Value->Shared->Prop) (Q:Value->Shared->Prop),Q (.ref (s.heap.push (bq a)).objs.size) { s with heap:=(s.heap.push (bq a)).push oI }->wpAny (model prog w) A2 (pyIter (.ref l)) Q E' { s with heap:=s.heap.push (bq a)}) /\
      ∀(R:Result->Shared->Prop),(∀f j,f.SetOf (sk prog w) s.heap.objs.size (λk=>decide (k∈g.take g.length)) g.length->(∀b o,s.heap.get? b=some o->f.get? b=some o)->R (.ok (.ret .none)) { s with heap:=f,toks:=j }) ->
       VQ (model prog w) H (.builtin "set.update.loop" ⟨[.ref s.heap.objs.size,.ref (s.heap.push (bq a)).objs.size],[]⟩) R { s with heap:=(s.heap.push (bq a)).push oI }:=λH ha=>by
    have O:(T="list"/\(s.heap.push (bq a)).IsList l C)\/(T="tuple"/\(s.heap.push (bq a)).IsTuple l C):=U.imp (λz=>⟨z.1,z.2.push _⟩) λz=>⟨z.1,z.2.push _⟩
    have N:l<(s.heap.push (bq a)).objs.size:=by rw[UQ];exact U0 x
    obtain⟨oI,St,u,W,st⟩:=AL (prog:=prog) (w:=w) (A:=H.in1) (s:={ s with heap:=s.heap.push (bq a)}) ha hS O N
    refine⟨oI,u,λR hR=>?_⟩
    have nB:s.heap.objs.size∉[(s.heap.push (bq a)).objs.size,l]:=by
     rw[UQ]
     simp only[Gc,Tt,or_false,not_or]
     exact⟨Tq (Wi _),Uj x⟩
    refine zK W s.heap.objs.size nB rfl hd (λi v hv=>CN hS (by rw[Vs];exact hv)) hb (g.length - 0) 0 _ rfl (UP _) st ?_ λs' I z=>?_
    ·have g0:((s.heap.push (bq a)).push oI).get? s.heap.objs.size=some (bq a):=B' _ hB
     have z:=(setObjOf_fresh (knd:=sk prog w) a).setOf g0 (by unfold XE;omega)
     have e:(λ_:Str=>false)=λk=>decide (k∈g.take 0):=funext λk=>by simp
     rw[e] at z
     exact z
    ·obtain⟨f,g',d',L,S⟩:=s'
     have eg:g'=s.gens:=I.gens
     have ed:d'=s.drawn:=I.drawn
     have eo:S=s.os:=I.os
     subst eg ed eo
     refine hR f L z λb o q=>?_
     have lb:=TU q
     refine I.heap b o ?_ (B' _ (B' _ q))
     rw[UQ]
     simp only[Gc,Tt,or_false,not_or]
     exact⟨Tq lb,Tq (U0 lb)⟩
   have hol2:(s.heap.push (bq a)).get? l=some Y:=B' _ t
   obtain⟨oc,odd,oda,osl⟩:=Y
   have n:oc=.type T:=n
   subst n
   rcases U with⟨rfl,_⟩|⟨rfl,_⟩
   ·have J:=F.sub_list_set
    have G:=F.sub_list_frozenset
    have s3:(VY "list" == VY "dict")=false:=by decide
    unfold Builtin.«set.__init__» noKeywords Wm
    generalize p:pyIter=PI
    wp_walk
    subst p
    obtain⟨oI,u,M⟩:=m A.in1.in1 (by simp[X])
    refine u _ _ _ (wpAny_bind (wpAny_runValue (M _ λf j B y=>?_)))
    show wpAny _ _ _ _ _ _
    refine wpAny_pure ?_
    show wpAny _ _ (ret T5) _ _ _
    exact wpAny_pure ⟨rfl,f,j,rfl,B,y⟩
   ·have J:=F.sub_tuple_set
    have G:=F.sub_tuple_frozenset
    have s3:(VY "tuple" == VY "dict")=false:=by decide
    unfold Builtin.«set.__init__» noKeywords Wm
    generalize p:pyIter=PI
    wp_walk
    subst p
    obtain⟨oI,u,M⟩:=m A.in1.in1 (by simp[X])
    refine u _ _ _ (wpAny_bind (wpAny_runValue (M _ λf j B y=>?_)))
    show wpAny _ _ _ _ _ _
    refine wpAny_pure ?_
    show wpAny _ _ (ret T5) _ _ _
    exact wpAny_pure ⟨rfl,f,j,rfl,B,y⟩
  ·match r2,c with
   |.error e,c=>exact c
   |.ok .next,c=>exact c.elim
   |.ok .brk,c=>exact c.elim
   |.ok .cont,c=>exact c.elim
   |.ok (.ret v),c =>
    obtain⟨rfl,f,j,rfl,B,y⟩:=c
    repeat (any_goals (first|assumption|wp_step))
    exact P _ _ B y
def xU(a:Addr)(n:Nat):HO:=.ext λh=>∃o b ep t,h.get? a=some o/\o.ExactSet/\o.data=.set b ep t/\t.fits b.size=true/\b.size=n
def uC(G:X.A.handled=none):gH X (.type "set") (λz H Q=>∃(p:Addr) (a:List Str),z=[.ref p]/\(cW X.K H p (a.map V.str)\/iN X.K H p (a.map V.str))/\a.Nodup/\a.length+1<XE/\∀l,H l=none->Q (.ref l) (upd H l (xU l a.length))):=by
 intro e s σ H z Y Q I r h
 obtain⟨p,a,rfl,f,N,R,q⟩:=h
 obtain⟨u,rfl,P⟩:=vals1 r
 cases P
 have go:∀T:String,KL s.heap p T a->wpAny (model X.prog X.w) X.A (call (.type "set") [.ref p]) (EP X e σ Q) X.xe s:=λT L =>
  ES G L N R fun E C ⟨o,v,x,t,B,M,S,_,_,_,J,F⟩ keep =>
   ⟨.ref s.heap.objs.size,_,I.laid (t':=C) keep (S' _) (show aO X.prog X.w _ E _ (xU _ _) from⟨⟨o,v,x,t,B,M,S,J,F⟩,⟨o,B⟩,fun W Z ⟨o,v,x,t,O,y⟩ k=>⟨o,v,x,t,k _ O,y⟩⟩),rfl,q _ (I.au.fresh (S' _))⟩
 rcases f with f|f
 ·obtain⟨c,m,j,U⟩:=I.list f
  obtain⟨o,i,g,n,b⟩:=j.isList
  exact go "list" ⟨o,c.toArray,i,g,mS m,.inl ⟨rfl,⟨o,i,g,n,b⟩⟩⟩
 ·obtain⟨c,m,j,U⟩:=I.tuple f
  obtain⟨o,i,g,n,b⟩:=j
  exact go "tuple" ⟨o,c.toArray,i,g,mS m,.inr ⟨rfl,⟨o,i,g,n,b⟩⟩⟩
def uB:gH X (.builtin "len") (λb H Q=>∃p n,b=[.ref p]/\H p=some (xU p n)/\n<1000000/\Q (.int n) H):=by
 intro a s σ H b x Q I r h
 obtain⟨p,n,rfl,e,m,q⟩:=h
 obtain⟨u,rfl,f⟩:=vals1 r
 cases f
 obtain⟨⟨o,v,y,t,i,g,l,c,j⟩,_⟩:=(show aO X.prog X.w H s.heap p (xU p n) from I.au p _ e)
 exact call_len_set i g l c (by omega) ⟨.int n,H,I.tok _,⟨_,by rw[j]⟩,q⟩
end L2
namespace DC
def boot_set:UR "set"=some (.type "set"):=by kernel_rfl
def J9(b:ED):ED:=λδ Q=>b δ λd=>∃a:List Str,(d=.lst (a.map D.str)\/d=.tup (a.map D.str))/\a.Nodup/\a.length<=200/\Q (.int a.length)
def Ej{p C m s:Pos}(E:X.A.handled=none)(M:Gl X "len")(I:X.mg "len"=none)(j:Gl X "set")(x:X.mg "set"=none)(f:PD X e F)
  (z:autoParam (starEach [e] X.env=(false,eval e X.env)::starEach [] X.env) dI)(L:autoParam ((backTo m (starEach [] X.env)).any (·.1)=false) dI)
  (B:autoParam (starEach [.Call (.Name "set" C) [e] [] m] X.env=(false,eval (.Call (.Name "set" C) [e] [] m) X.env)::starEach [] X.env) dI)(J:autoParam ((backTo s (starEach [] X.env)).any (·.1)=false) dI) :
  PD X (.Call (.Name "len" p) [.Call (.Name "set" C) [e] [] m] [] s) (J9 F):=by
 refine⟨(dA uB M I YG (cU (i9 (uC E) j x boot_set (cU f.pe gX z) (he:=z) (hpl:=L)) gX B) (he:=B) (hpl:=J)).imp fun σ H Q ⟨δ,r,h⟩=>⟨δ,r,f.mono _ _ _ (fun d ⟨b,a,i,y,k⟩ v t G dv=>?_) h⟩,
  λδ P N g h=>f.mono _ _ _ (fun d ⟨b,a,i,y,k⟩=>⟨b,a,i,y,g _ k⟩) h⟩
 have c:∀l,t l=none->∃p n,[V.ref l]=[.ref p]/\upd t l (xU l b.length) p=some (xU p n)/\n<1000000/\Q (.int n) (upd t l (xU l b.length)):=λl o =>
  ⟨l,b.length,rfl,aF,by omega,k _ _ (G.trans (aL o)) (.int _)⟩
 rcases a with a|a
 ·subst a
  cases dv with
  |lst u w=>exact⟨_,b,rfl,.inl (pJ w ▸ u),i,by unfold XE;omega,c⟩
 ·subst a
  cases dv with
  |tup u w=>exact⟨_,b,rfl,.inr (pJ w ▸ u),i,by unfold XE;omega,c⟩
def Dm.vq{K:l'}{st:Stmt}(d:Dm K C m a st j)(S:aD N j (aB st))(n:jP sd)(l:∀g Q,sd g Q->g.length=j.length)
  (p:∀(f:Addr) (h:Value) (A:Around) (e:List Env) (s:Shared) (H:Hp) (E:XK),bZ k (A.deeper (envOfC a (aB st) s.heap.objs.size f h))->tw (Bx P w K o i N a st f h A e s H E) (af st) t)
  (u:∀g Q,sd g Q->t { nx:=λ_ μ=>Q .ae μ,rt:=Q } (bS N g) []):lG P w K o i (k+1) C m sd:=by
 obtain⟨f,r,F,M,c,b⟩:=d.ex
 exact⟨⟨f,r,j,c,M,SU F S l (p f) u,b⟩,n⟩
def ML(a:ED):fS:=λE δ μ=>a (cD μ δ) λ_=>E.nx δ μ
def yf(b:PD X e f)(j:autoParam (Ue e none a.line X.env=pure false) dI):xS X (.Expr e a) (ML f) :=
 ⟨PS.imp (mP b.pe j) fun D σ H ⟨δ,μ,L,r,g,h⟩=>⟨_,g.cD r,b.mono _ _ _ (λd q v i c dv=>q σ i L (d_ c) (r.same (d_ c)) (g.on c)) h⟩,λE m δ μ l h=>b.mono _ _ _ (λd q=>l.nx _ _ q) h⟩
def Dm.uA{K:l'}{st:Stmt}(d:Dm K C m a st l)(S:aD N l (aB st))(o:cN j)(n:∀g Q,j g Q->g.length=l.length)
  (r:∀(f:Addr) (h:Value) (A:Around) (e:List Env) (s:Shared) (H:Hp) (E:XK),bZ k (A.deeper (envOfC a (aB st) s.heap.objs.size f h))->tw (Bx P w K p i N a st f h A e s H E) (af st) t)
  (v:∀g Q,j g Q->t { nx:=λ_ _=>Q .ae,rt:=λd μ=>Q (aY μ d)} (bS N g) []):bw P w K p i (k+1) C m j []:=by
 obtain⟨f,u,F,M,c,b⟩:=d.ex
 exact⟨⟨f,u,l,[],[],c,M,SV F S n (r f) v,b,.nil,λ_=>.nil⟩,o⟩
end DC
namespace L2
def DV:N2 X "list.index" (λx F H Q=>∃(a:Addr) (b:List Str) (z:Str) (j:Nat),x=.ref a/\F=[.str z]/\cW X.K H a (b.map V.str)/\b[j]?=some z/\(∀m y,m<j->b[m]?=some y->y≠z)/\j<1000/\Q (.int (j:Int)) H):=by
 intro E s σ H x F v us Q I T N h
 obtain⟨a,b,z,j,rfl,rfl,O,J,W,h3,q⟩:=h
 cases T
 obtain⟨u,rfl,R⟩:=N.one
 obtain⟨L,rfl⟩:=(show ∃t,u=Um z t from R)
 obtain⟨c,G,⟨o,n,e,P,_,d⟩,_⟩:=I.list O
 obtain⟨M,S,g,w⟩:=o
 cases(show M=VY "list" from P)
 cases(show g=Ya c.toArray n from d)
 have at_:∀m y,b[m]?=some y->∃t,c[m]?=some (Um y t):=λm y l=>by
  obtain⟨w',U,t,rfl⟩:=G.get (show(b.map V.str)[m]?=some (V.str y) by rw[TX,l];rfl)
  exact⟨t,U⟩
 obtain⟨tj,C⟩:=at_ j z J
 have i:j<c.length:=(Te.mp C).1
 refine call_meets V3 ⟨_,e,rfl⟩ ZZ (ZM _ _) (Ym a _ n S w (.str z L) (λy=>match y with|.str A _=>decide (A=z)|_=>false) j (by simpa using i) (by omega) ?_ ?_) ⟨e,λy l=>?_,?_⟩
 ·have B:=(Te.mp C).2
  simp[B]
 ·intro m hm p
  have f:m<b.length:=by have:=(Te.mp J).1;omega
  obtain⟨Z,r⟩:=at_ m b[m] (F' f)
  have B:=(Te.mp r).2
  have Y:=W m b[m] p (F' f)
  simp[B,Y]
 ·obtain⟨A,t,rfl⟩:=DC.mR G y (Wd.mp l)
  exact Wq A t z L
 ·exact⟨.int (j:Int),H,I.tok _,⟨s.toks,rfl⟩,q⟩
end L2
namespace DC
section
variable {X:Cx}{i:Nat}{x:Str}{e e1 e2 o:Expr}{es:List Expr}{t:AD}{te to:ED}{p pos apos cpos:Pos}
def FT(i:Nat):fS:=λE δ μ=>∃a b,δ[i]?=some (some (.adr a))/\μ.lookup a=some (.lst b)/\E.nx δ (iU a (.lst b.reverse) μ)
def bA.rev{K:l'}:∀{b:List V} {c:List D},bA K H b c->bA K H b.reverse c.reverse
 |_,_,.nil=>.nil
 |_,_,.cons a r=>by rw[VS,VS];exact(bA.rev r).append (.cons a .nil)
def AY(A:X.N[i]?=some x)(z:Cb X.env.scope x)(C:autoParam ((x == ("__debug__":Str))=false) e7)(n:autoParam ((x == ("__classdict__":Str))=false) e7)(b:autoParam ((apos.endLine == cpos.line)=true) dI)
  (G:autoParam (Ue (.Call (.Attribute (.Name x p) "reverse" apos) [] [] cpos) none pos.line X.env=pure false) dI)
  (B:autoParam (UZ (.Name x p) "reverse" X.env (eval (.Name x p) X.env)=eval (.Name x p) X.env) dI) :
  xS X (.Expr (.Call (.Attribute (.Name x p) "reverse" apos) [] [] cpos) pos) (FT i):=by
 refine⟨PS.imp (mP (Mt Ui X_ PySem.F.type_list_reverse Aa (kL A z C n) B b) G) fun D σ H ⟨δ,μ,L,r,g,q⟩=>?_,
  fun E I δ μ l ⟨a,w,s,j,q⟩=>⟨a,w,s,j,l.nx _ _ q⟩⟩
 obtain⟨a,w,s,j,q⟩:=q
 obtain⟨v,m,dv⟩:=r.get i _ s
 cases dv
 obtain⟨c,u,h,f⟩:=g.at_ _ (mem_of_lookup j)
 refine⟨_,m,.inl ⟨rfl,_,cW.of h⟩,a,u,rfl,rfl,h,?_⟩
 have y:aa (upd H a (.lst u.reverse)) L=aa H L:=gP c
 exact q σ _ L (by rw[y];exact aH.refl _) (by rw[y];exact r) (g.putL c h (bA.rev f))
def J7(b:ED)(t:AD):ED:=λδ Q=>b δ λd=>∃a:List Str,d=.lst (a.map D.str)/\t δ λc=>∃z,c=[.str z]/\∃j:Nat,a[j]?=some z/\(∀m y,m<j->a[m]?=some y->y≠z)/\j<1000/\Q (.int (j:Int))
def rV(B:PD X o to)(F:iZ X (e::es) t)(l:autoParam (UZ o "index" X.env (eval o X.env)=eval o X.env) dI)
  (m:autoParam (((backTo cpos (starEach (e::es) X.env)).all (λx=>!x.1)&&(backToKw cpos (keywordEach [] X.env)).all (λx=>x.1.isSome)&&decide ((e::es).length+([]:List VN).length+(if([]:List VN).isEmpty then 0 else 1)<30))=true) dI)
  (f:autoParam ((apos.endLine == cpos.line)=true) dI)(J:autoParam (starEach (e::es) X.env=(false,eval e X.env)::starEach es X.env) dI)(c:autoParam ((backTo cpos (starEach es X.env)).any (·.1)=false) dI) :
  PD X (.Call (.Attribute o "index" apos) (e::es) [] cpos) (J7 to t):=by
 refine⟨(sS Ui V3 Xn DV B.pe F.pa l m f J c).imp fun σ H Q ⟨δ,r,h⟩=>⟨δ,r,B.mono _ _ _ (fun z ⟨bs,s,q⟩ v O I dv=>?_) h⟩,
  λδ P R g h=>B.mono _ _ _ (fun z ⟨bs,s,q⟩=>⟨bs,s,F.mono _ _ _ (fun L ⟨w,C,j,u,E,n,k⟩=>⟨w,C,j,u,E,n,g _ k⟩) q⟩) h⟩
 subst s
 cases dv with
 |lst A M =>
  rw[pJ M] at A
  refine⟨.inl ⟨rfl,_,A⟩,δ,r.same I,F.mono _ _ _ (?_) q⟩;rintro L ⟨w,C,j,u,E,n,k⟩ N S G y
  subst C
  cases y with
  |cons a b =>
   cases a
   cases b
   exact⟨_,bs,w,j,rfl,rfl,G.seq A,u,E,n,k _ _ (I.trans G) (.int _)⟩
end
def BB(caps:List Nat)(e:AD)(tt:TD)(c:ED):ED:=λδ Q=>e δ λds=>∃a:List (Option D),a.length=ds.length /\
 (∀(i:Nat) (d:D) (o:Option D),ds[i]?=some d->a[i]?=some o->∃x y z u,d=.tup [x,y,z,u]/\tt (some x::some y::some z::some u::nu caps δ) λb=>b=o.isSome/\(b=true->c (some x::some y::some z::some u::nu caps δ) λr=>o=some r))/\ds.length<sizeLine/\Q (.lst (a.filterMap id))
def Ia{r:L2.St}:Le (none::none::none::none::r) (x::y::z::u::r):=⟨rfl,λi v h=>by
 match i with
 | 0=>cases h
 | 1=>cases h
 | 2=>cases h
 | 3=>cases h
 |i+4=>exact h⟩
def Cn{K:l'}(mi:ko ti)(mt:eh tt)(me:bK te)(h:oE K (BB c ti tt te) σ H Q) :
  vN 4 c (λσ H R=>∃ δ,bG K H σ δ/\ti δ λt=>∀J A,aH H A->D6 K J A t->R J A) (IH K 4 (oN (cz 0) (oN (cz 1) (oN (cz 2) (oN (cz 3) L3))))) (mE (oT K tt)) (l_ (oE K te)) σ H Q:=by
 obtain⟨δ,r,h⟩:=h
 refine⟨δ,r,mi _ _ _ (?_) h⟩;rintro t ⟨f,F,I,O,q⟩ J A s1 Y D hD
 refine⟨λi m B H'=>m=t.length - i/\i<=t.length/\∃u,u D=none/\aH A u/\bA K u B ((f.take i).filterMap id)/\H'=upd u D (.lst B),⟨t.length,rfl,UP _,A,hD,aH.refl _,.nil,rfl⟩,?_⟩
 rintro i m B H' ⟨rfl,hle,u,S,P,l,rfl⟩
 refine⟨aF,?_⟩
 have T:aH A (upd u D (.lst B)):=P.trans (aL S)
 by_cases s:i<t.length
 ·refine .inr ⟨Y.go i _ T s,λx g y=>?_⟩
  obtain⟨s2,d,hd,Hx,sx1,X,only,sx⟩:=Y.BC i _ x g T s y
  have hD2:g D=some (.lst B):=s2 _ _ aF
  have ne1:∀a o,A a=some o->a≠D:=λa o z=>aQ z hD
  have nex:∀a o,Hx a=some o->a≠D:=λa o z w=>by
   rcases only a o z with W|W
   ·exact ne1 a o W w
   ·rw[w,aF] at W;cases W
  have N:aH u (del g D):=λa o z=>by
   rw[cy (aQ z S)]
   exact s2 a o (aL S a o z)
  have n:aH Hx (del g D):=λa o z=>by
   rw[cy (nex a o z)]
   exact sx a o z
  obtain⟨o,ho⟩:∃o,f[i]?=some o:=⟨_,F' (show i<f.length by omega)⟩
  obtain⟨d1,d2,d3,d4,ed,C⟩:=I i d o hd ho
  have M:=ed ▸ X
  cases M with
  |tup g1 g2 =>
   cases g2 with
   | @cons Z _ _ _ w1 g2 =>
    cases g2 with
    | @cons U _ _ _ w2 g2 =>
     cases g2 with
     | @cons L _ _ _ w3 g2 =>
     cases g2 with
     | @cons E _ _ _ w4 g2 =>
      cases g2
      have G:bG K (del g D) (some Z::some U::some L::some E::c.map λj=>(σ[j]?).getD none) (some d1::some d2::some d3::some d4::nu c δ):=oq (oq (oq (oq (EU (r.same (s1.trans (P.trans N))) c) (w4.same n)) (w3.same n)) (w2.same n)) (w1.same n)
      refine⟨_,[Z,U,L,E],rfl,mZ sx g1,rfl,Z,[U,L,E],rfl,U,[L,E],rfl,L,[E],rfl,E,[],rfl,rfl,Ia,D,B,hD2,_,G,mt _ _ _ (?_) C⟩;rintro b ⟨eb,hb⟩ H3 s3 h3
      have ht:f.take (i+1)=f.take i++[o]:=by rw[UX,ho];rfl
      have p:aH u H3:=N.trans s3
      cases b with
      |false =>
       refine aU ?_
       refine⟨t.length - (i+1),by omega,rfl,s,H3,h3,P.trans p,?_,rfl⟩
       have on:o=none:=by cases o with|none=>rfl|some z=>cases eb
       rw[ht,on,Uh]
       simpa using l.same p
      |true =>
       refine aq ?_
       refine⟨D,B,aF,?_⟩
       rw[qu h3]
       refine⟨_,G.same s3,me _ _ _ (λy ey v H4 s4 dv h4=>⟨aF,?_,t.length - (i+1),by omega,rfl,s,H4,h4,P.trans (p.trans s4),?_,pH⟩) (hb rfl)⟩
       ·rw[l.length]
        exact Tc (G' (Vg _ _) (V4 _ _)) (by rw[F];exact O)
       ·rw[ht,ey,Uh]
        exact(l.same (p.trans s4)).append (.cons dv .nil)
 ·have e:i=t.length:=by omega
  subst e
  refine .inl ⟨Y.stop _ T,?_⟩
  rw[<- F,T2] at l
  exact q _ _ (s1.trans T) (.lst (cW.of aF) (l.same (aL S)))
def Bv(i:ko j):bK (BB f j tt l):=λδ P m g h=>i _ _ _ (fun n ⟨b,e,a,c,q⟩=>⟨b,e,a,c,g _ q⟩) h
end DC
namespace L2
def Oh(r:(cL P w).is k u=true):RelV (kV k) u:=by
 rcases cC (k:=k) (v:=u) r with⟨i,t,rfl,rfl⟩|⟨x,t,rfl,rfl⟩
 ·exact⟨t,rfl⟩
 ·exact⟨t,rfl⟩
section
variable {X:Cx}{pins:List (Addr × Obj)}{σ:St}{H:Hp}{s:Shared}{a:Addr}{o:Obj}{kvs:List (Key × V)}
def FE(ok:dz P w H h)(e:H a=some u)(l:∀x,u≠.own x)(m:∀j,u≠.tup j)(g:aO P w (upd H a v) h a v):dz P w (upd H a v) h:=λb q f=>by
 by_cases i:b=a
 ·subst i
  rw[aF] at f
  cases f
  exact g
 ·rw[aG i] at f
  exact(ok b q f).qH (λc x _ z=>z) (λc z=>by rw[aG (λy=>by rw[y,e] at z;exact l _ (UA z))];exact z) λc j z=>by rw[aG (λy=>by rw[y,e] at z;exact m _ (UA z))];exact z
def Inv.G7(I:Inv X pins σ H s)(e:H a=some u)(G:∀x,u≠.own x)(m:∀j,u≠.tup j)(E:∀o x,X.H₀ a≠some (.eu o x))(F:∀l,u≠.HP l)(i:aO X.prog X.w (upd H a v) s.heap a v):Inv X pins σ (upd H a v) s:=by
 have g:∀b,H b=none->b≠a:=λb h y=>by rw[y,e] at h;cases h
 refine⟨I.ok,I.os,I.bare,⟨I.base.keep,I.base.slot,λb o q n A=>?_,I.base.there,λb j q=>?_,λb o x q=>?_,λb l q=>?_⟩,I.loc,I.cell,by rw[aG (g _ I.free)];exact I.free,λx c h=>by rw[aG (g _ (I.cZ x c h))];exact I.cZ x c h,λp B=>?_,FE I.au e G m i,I.len⟩
 ·have z:=I.base.free b o q n A
  rw[aG (g _ z)]
  exact z
 ·have z:=I.base.hU b j q
  rw[aG (λy=>by rw[y,e] at z;exact m _ (UA z))]
  exact z
 ·have z:=I.base.dZ b o x q
  rw[aG (λy=>E _ _ (y ▸ q))]
  exact z
 ·obtain⟨f,z⟩:=I.base.mC b l q
  exact⟨f,by rw[aG (λy=>by rw[y,e] at z;exact F _ (UA z))];exact z⟩
 ·obtain⟨C,r,t⟩:=I.pin p B
  exact⟨C,by rw[aG (g _ r)];exact r,t⟩
def B9{H:Hp}{a:Addr}{u v:HO}(e:H a=some u)(f:∀x,HO.data x->(u=x\/∃o,u=.eu o x)->(v=x\/∃o,v=.eu o x)):∀b x,HO.data x->Rd H b x->Rd (upd H a v) b x:=λb x g r=>by
 by_cases c:b=a
 ·subst c
  have:v=x\/∃o,v=.eu o x:=f x g (by
   rcases r with r|⟨o,r⟩
   ·rw[e] at r;exact .inl (UA r)
   ·rw[e] at r;exact .inr ⟨o,UA r⟩)
  rcases this with h|⟨o,h⟩
  ·exact .inl (by rw[aF,h])
  ·exact .inr ⟨o,by rw[aF,h]⟩
 ·rcases r with r|⟨o,r⟩
  ·exact .inl (by rw[aG c];exact r)
  ·exact .inr ⟨o,by rw[aG c];exact r⟩
end
end L2
namespace DC
def bG.rd{K:l'}(f:∀b u,HO.data u->Rd H b u->Rd a b u)(r:bG K H σ δ):bG K a σ δ:=⟨r.len,λi d h=>let ⟨v,c,e⟩:=r.get i d h;⟨v,c,e.rd f⟩⟩
def keyOf:Key->D
 |.inl i=>.int i
 |.inr x=>.str x
def fg.keys{K:l'}:∀{a:List (Key × V)} {b:List (Key × D)},fg K H a b->a.map (·.1)=b.map (·.1)
 |_,_,.nil=>rfl
 |_,_,.cons _ r=>by rw[TM,TM,fg.keys r]
def Lm{K:l'}(k:Key):Dv K H (kV k) (keyOf k):=by
 cases k with
 |inl i=>exact .int i
 |inr x=>exact .str x
section
variable {X:Cx}{scope:Scope}{cl:List (Str × Addr)}{x y z u:Str}{caps:List Nat}{cn:List Str}{tg iter elt:Expr}{ifs:List Expr}{ti:AD}{tt:TD}{te:ED}{pos p px py pz pu tp:Pos}{c:Nat}{i k:Nat}{v:Str}{pv spos:Pos}
def Pl(g:X.N.Nodup)(B:X.N[k]?=some v)(A:Loc X.env.scope v)(S:bY X scope cl [x,y,z,u] caps cn)(s:X.calm=true)(f:PId X (.Tuple [.Name x px,.Name y py,.Name z pz,.Name u pu] c tp) iter ti)
  (F:∀C b a e,PG (aZ X scope cl C ([x,y,z,u]++cn) b a e) (.Tuple [.Name x px,.Name y py,.Name z pz,.Name u pu] c tp) (IH X.K 4 (oN (cz 0) (oN (cz 1) (oN (cz 2) (oN (cz 3) L3))))))
  (m:∀C b a e,t_ (aZ X scope cl C ([x,y,z,u]++cn) b a e) ifs tt)(o:∀C b a e,PD (aZ X scope cl C ([x,y,z,u]++cn) b a e) elt te)
  (j:autoParam (Ue (.ListComp elt [⟨.Tuple [.Name x px,.Name y py,.Name z pz,.Name u pu] c tp,iter,ifs,0⟩] scope pos) (some (.Name v pv)) spos.line X.env=pure true) dI)(t:autoParam (X.fn v=true\/X.env.scope.names.lookup v=some .local) eS)
  (G:autoParam (∀x,foldedSetIterable iter X.env x=pure x) eH):xT X (.Assign [.Name v pv] (.ListComp elt [⟨.Tuple [.Name x px,.Name y py,.Name z pz,.Name u pu] c tp,iter,ifs,0⟩] scope pos) spos) (Jg k (BB caps ti tt te)) :=
 ⟨PS.imp (wc g B A S s f.pi F (λC b a e=>fA (m C b a e).Nw) (λC b a e=>gG (o C b a e).pe) j t G) fun D σ H ⟨δ,r,h⟩ =>
   Cn f.mono (m 0 [] X.s₀ X.H₀).mono (o 0 [] X.s₀ X.H₀).mono ⟨δ,r,Bv f.mono _ _ _ (λd q v w n dv=>q _ w n ((r.same n).set k dv)) h⟩,
  λE I δ l h=>Bv f.mono _ _ _ (λd q=>l.nx _ q) h⟩
end
def bA.Bc{K:l'}{H e:Hp}:∀{c:List V} {b:List D},bA K H c b->b.all gN=true->bA K e c b
 |_,_,.nil,_=>.nil
 |_,_,.cons a r,h=>by
  rw[V2,Tw] at h
  exact .cons (a.IG h.1) (bA.Bc r h.2)
def MM(k:Nat)(caps:List Nat)(b:AD)(tt:TD)(a:ED):fS:=λE δ μ=>jL caps b tt a (cD μ δ) λd=>∃ds,d=.lst ds/\ds.all gN=true/\E.nx (δ.set k (some d)) μ
end DC
namespace L2
section
variable {X:Cx}
def vV{P:TV}{w:World}:∀{b:List Value} {a:List (Key × V)},b.length=a.length->(∀(j:Nat) (v:Value),b[j]?=some v->∃y,a[j]?=some y/\(cL P w).is y.1 v=true)->Vals (a.map λf=>kV f.1) b
 |[],[],_,_=>.nil
 |[],_::_,h,_=>by cases h
 |_::_,[],h,_=>by cases h
 |v::b,y::a,h,k=>by
  obtain⟨g,e,z⟩:=k 0 v rfl
  cases e
  exact .cons (Oh z) (vV (P:=P) (w:=w) (by simpa using h) λj u c=>k (j+1) u c)
def rP(L:X.A.handled=none):gH X (.type "list") (λt H Q=>∃p kvs,t=[.ref p]/\Rd H p (.dK kvs)/\∀l,H l=none->Q (.ref l) (upd H l (.lst (kvs.map λf=>kV f.1)))):=by
 intro n s σ H t Z Q I r h
 obtain⟨p,kvs,rfl,N,q⟩:=h
 obtain⟨u,rfl,T⟩:=vals1 r
 cases T
 obtain⟨z,R,m,c,Y⟩:=rY I.au N
 obtain⟨B,i⟩:=Y.dictAt
 have o:=c.length
 refine PySem.W.kdl_call (PySem.W.kdl_dict (knd:=cL X.prog X.w) (kvs:=m) (ep:=B) R) L i (by rw[<- o];exact z) ?_
 intro J F b M G e a
 have U:b.toList.length=kvs.length:=by rw[U4,a.1,<- o]
 have E:Vals (kvs.map λf=>kV f.1) b.toList:=vV (P:=X.prog) (w:=X.w) U λj v C=>by
  obtain⟨k,x,S,O⟩:=a.2 j v (by rw[<- Vs];exact C)
  have g:(m.map (·.1))[j]?=some k:=by rw[TX,S];rfl
  rw[<- c.keys,TX] at g
  cases e4:kvs[j]? with
  |none=>rw[e4] at g;cases g
  |some y =>
   rw[e4] at g
   have:y.1=k:=by simpa using g
   exact⟨y,rfl,by rw[this];exact O⟩
 exact⟨.ref s.heap.objs.size,_,I.laid (t':=F) G (S' _) (show aO X.prog X.w _ J _ (.lst (kvs.map λf=>kV f.1)) from⟨by rw[tz];exact z,b.toList,M,E,by rw[YW];exact e⟩),rfl,q _ (I.au.fresh (S' _))⟩
def call_len_dict:gH X (.builtin "len") (λc H Q=>∃a b,c=[V.ref a]/\Rd H a (.dK b)/\Q (.int b.length) H):=by
 intro e s σ H c j Q I r h
 obtain⟨a,b,rfl,g,q⟩:=h
 obtain⟨u,rfl,f⟩:=vals1 r
 cases f
 exact di I g λt l i=>⟨.int b.length,H,i,⟨t,rfl⟩,q⟩
end
end L2
namespace DC
def bA.keys{K:l'}:∀{b:List (Key × V)} {c:List (Key × D)},fg K H b c->bA K e (b.map λa=>kV a.1) (c.map λa=>keyOf a.1)
 |_,_,.nil=>.nil
 |_,_,.cons _ r=>.cons (Lm _) (bA.keys r)
def A0:cI:=λds Q=>∃kvs,ds=[.dK kvs]/\Q (.int kvs.length)
def MU:cN A0:=fun ds P a g ⟨xs,e,q⟩=>⟨xs,e,g _ q⟩
def Cy{K:l'}:qM K (λi H Q=>∃a b,i=[V.ref a]/\Rd H a (.dK b)/\Q (.int b.length) H) A0:=by
 intro H j l Q c ⟨b,e,q⟩
 subst e
 cases c with
 |cons dv r =>
  cases r
  cases dv with
  |dK g h =>
   have f:=congrArg VZ h.keys
   rw[tz,tz] at f
   exact⟨_,_,rfl,g,by rw[f];exact q _ _ (aH.refl _) (.int _)⟩
def Lc{b p:Pos}(i:Gl X "len")(f:X.mg "len"=none)(c:iZ X (e::a) t)(g:autoParam (starEach (e::a) X.env=(false,eval e X.env)::starEach a X.env) dI)(h:autoParam ((backTo b (starEach a X.env)).any (·.1)=false) dI):PD X (.Call (.Name "len" p) (e::a) [] b) (vB A0 t):=xg (dA call_len_dict i f YG c.pa (he:=g) (hpl:=h)) c.mono Cy MU
def dF(l:List Str)(f:Str->D):List (Key × D):=l.map λn=>((Uz n:Key),f n)
def D1(f:Str->D)(n:Str)(v:D):Str->D:=λm=>if m=n then v else f m
def vx(l:List Str)(f:Str->D):(dF l f).length=l.length:=tz ..
def rS(h:∀n∈l,f n=g n):dF l f=dF l g:=UY λn a=>by rw[h n a]
def Hn :((dF l f).map λa=>keyOf a.1)=l.map D.str:=by
 unfold dF
 rw[UG]
 rfl
def mI :∀{l:List Str},n∈l->ee (dF l f) (.inr n)=some (f n)
 |m::l,h=>by
  unfold dF ee
  rw[TM,UK]
  by_cases e:m=n
  ·subst e;simp
  ·rw[show decide (((Uz m:Key),f m).1=Uz n)=false from decide_eq_false λz=>e (Wl z)]
   exact mI ((Gc.mp h).resolve_left λz=>e z.symm)
def xy :∀{l:List Str},n∉l->ee (dF l f) (.inr n)=none
 |[],_=>rfl
 |m::l,h=>by
  unfold dF ee
  rw[TM,UK]
  have e:m≠n:=λe=>h (by rw[e];exact N')
  rw[show decide (((Uz m:Key),f m).1=Uz n)=false from decide_eq_false λz=>e (Wl z)]
  exact xy λz=>h (TR _ z)
def sW(h:n∉l):om (dF l f) (.inr n) v=dF (l++[n]) (D1 f n v):=by
 unfold om
 rw[if_neg]
 ·unfold dF
  rw[Tv]
  congr 1
  ·refine UY λm a=>?_
   unfold D1
   rw[if_neg (λe:m=n=>h (e ▸ a))]
  ·simp[D1]
 ·intro z
  obtain⟨p,b,e⟩:=XS.mp z
  obtain⟨m,a,rfl⟩:=Tj.mp b
  have c:=of_decide_eq_true e
  cases c
  exact h a
def Kb{α:Type}(p:α->Bool)(g:α->D):∀l:List α,(l.map λx=>if p x=true then some (g x) else none).filterMap id=(l.filter p).map g
 |[]=>rfl
 |x::l=>by
  have a:=Kb p g l
  cases hp:p x with
  |true=>rw[TM,Wf,hp,if_pos rfl,if_pos rfl,VH,TM,<- a];rfl
  |false=>rw[TM,Wf,hp,if_neg Fk,if_neg Fk,VH,<- a];rfl
def Ka{α:Type}{l:List α}{f:α->D}{h:α->Option D}{i:Nat}(a:(l.map f)[i]?=some d)(b:(l.map h)[i]?=some o):∃x∈l,f x=d/\o=h x:=by
 rw[TX] at a b
 cases e:l[i]? with
 |none=>rw[e] at a;cases a
 |some x =>
  rw[e] at a b
  exact⟨x,K' e,by simpa using a,by simpa using b.symm⟩
def iR{α β:Type}{l:List α}{f:α->β}{i:Nat}{d:β}(h:(l.map f)[i]?=some d):∃x,l[i]?=some x/\f x=d:=by
 rw[TX] at h
 cases e:l[i]? with
 |none=>rw[e] at h;cases h
 |some x=>rw[e] at h;exact⟨x,rfl,by simpa using h⟩
def outF{α:Type}(p:α->Bool)(g:α->D)(l:List α):List (Option D):=l.map λx=>if p x=true then some (g x) else none
def sQ{α:Type}(g:α->D)(l:List α):List (Option D):=l.map λx=>some (g x)
def lW{f g:α->D}:(outF p g l).length=(l.map f).length:=by simp[outF]
def i5{f g:α->D}:(sQ g l).length=(l.map f).length:=by simp[sQ]
def i8{l:List α}:(outF p g l).filterMap id=(l.filter p).map g:=Kb p g l
def i6{l:List α}:(sQ g l).filterMap id=l.map g:=by unfold sQ;rw[UW];simp
def i7{α:Type}{p:α->Bool}{f g:α->D}{l:List α}{T:D->Option D->Prop}(h:∀x∈l,T (f x) (if p x=true then some (g x) else none)):∀(i:Nat) (d:D) (o:Option D),(l.map f)[i]?=some d->(outF p g l)[i]?=some o->T d o:=λi d o c b=>by
 obtain⟨x,a,rfl,rfl⟩:=Ka c b
 exact h x a
def gF{α:Type}{f g:α->D}{l:List α}{T:D->Option D->Prop}(h:∀x∈l,T (f x) (some (g x))):∀(i:Nat) (d:D) (o:Option D),(l.map f)[i]?=some d->(sQ g l)[i]?=some o->T d o:=λi d o c b=>by
 obtain⟨x,a,rfl,rfl⟩:=Ka c b
 exact h x a
def sL{α β:Type}{l:List α}{f:α->β}(h:l.length<n):(l.map f).length<n:=by rw[tz];exact h
def rQ{k:Nat}(h:k<=a.length):cutD a (some (k:Int)) none=a.drop k:=by
 unfold cutD
 rw[HT.wo,HT.zC,Zj h,Vn]
 rw[UC]
 exact S' _
def zp{k:Nat}:cutD a none (some (k:Int))=a.take k:=by
 unfold cutD
 rw[HT.wo,HT.zC,Zl,Nat.sub_zero]
 by_cases h:k<=a.length
 ·rw[Zj h]
 ·rw[Nat.min_eq_right (by omega),T2,Vn (by omega)]
structure Lay (k:Nat) (d:D):Prop where
 pl:DC.plain d=true
 cl:(jM d).canLay0=true
 dp:(jM d).depth<=k
def Bq(i:Int):Lay 0 (.int i):=⟨by simp[DC.plain],by rw[jM,Ws],by rw[jM,W7];decide⟩
def IZ(h:W6 x=true):Lay 0 (.str x):=⟨by simp[DC.plain],by rw[jM,Ws];exact h,by rw[jM,W7];decide⟩
def qz :∀{ds:List D},(∀d∈ds,Lay k d)->lZ ds=true/\Yn (mD ds)=true/\Y7 (mD ds)<=k
 |[],_=>⟨rfl,rfl,UP _⟩
 |d::ds,h=>by
  obtain⟨b,f,g⟩:=qz (ds:=ds) λe c=>h e (TR _ c)
  have a:=h d N'
  refine⟨?_,?_,?_⟩
  ·rw[lZ,a.pl,b];rfl
  ·rw[mD,Yn,a.cl,f];rfl
  ·rw[mD,Y7];exact XD.mpr ⟨a.dp,g⟩
def Br(h:∀d∈a,Lay k d):Lay (k+1) (.tup a):=by
 obtain⟨b,c,e⟩:=qz h
 exact⟨by rw[DC.plain];exact b,by rw[jM,Ws];exact c,by rw[jM,W7];omega⟩
def q9(h:∀d∈a,Lay k d):Lay (k+1) (.lst a):=by
 obtain⟨b,c,e⟩:=qz h
 exact⟨by rw[DC.plain];exact b,by rw[jM,Ws];exact c,by rw[jM,W7];omega⟩
def Lay.sh(h:Lay k d)(e:k<=64):U' (jM d)=true:=by
 unfold U'
 rw[h.cl,decide_eq_true (G' h.dp e)]
 rfl
def yP{l:List Str}(h:∀x∈l,W6 x=true):Lay 1 (.lst (l.map D.str)):=q9 λd b=>by
 obtain⟨x,a,rfl⟩:=Tj.mp b
 exact IZ (h x a)
def CI(e:v8 d d=none)(h:Lay k d)(b:k<=64)(q:Q (.bl (!a))):C5 a d d Q:=by
 have c:Us (jM d) (jM d)=true:=ZX _ h.cl
 unfold C5
 rw[e]
 refine⟨h.pl,h.pl,h.sh b,h.sh b,?_⟩
 rw[c]
 cases a<;>exact q
def Bb(h:Lay k (.lst a))(i:k<=64)(q:Q (.bl (if c=true then !a.isEmpty else a.isEmpty))):C5 c (.lst a) (.lst []) Q:=by
 have f:=yP (l:=[]) λx g=>nomatch g
 have e:Us (jM (.lst a)) (jM (.lst []))=a.isEmpty:=by
  rw[jM,jM,Us]
  cases a with
  |nil=>rw[mD,ZY];rfl
  |cons b bs=>rw[mD,mD,ZY];rfl
 refine⟨h.pl,f.pl,h.sh i,f.sh (by decide),?_⟩
 rw[e]
 exact q
def Qd{α:Type}(f:Str->α)(n:Str)(v:α):Str->α:=λm=>if m=n then v else f m
def pG{v:α}:Qd f n v n=v:=if_pos rfl
def tS{v:α}(h:m≠n):Qd f n v m=f m:=if_neg h
def yS :∀{μ:Mu} {c:MD},μ.lookup a=some c->(iU a m μ).lookup a=some m
 |[],_,h=>by cases h
 | (b,g)::μ,c,h=>by
  unfold iU
  rw[TM,Tx]
  rw[Tx] at h
  by_cases e:b=a
  ·subst e;simp
  ·have f:(a == b)=false:=by rw[beq_eq_false_iff_ne];exact λz=>e z.symm
   rw[if_neg e]
   dsimp only
   rw[f] at h ⊢
   exact yS (μ:=μ) h
def yR{μ:Mu}(h:a≠b):((b,m)::μ).lookup a=μ.lookup a:=by
 rw[Tx]
 have c:(a == b)=false:=by rw[beq_eq_false_iff_ne];exact h
 rw[c]
def look_same{μ:Mu}:((b,m)::μ).lookup b=some m:=by rw[Tx];simp
def xG(h:μ.lookup a=some m):aY μ (.adr a)=m.d:=by
 show(W3 MD.d (Uc a μ)).getD (D.adr a)=_
 rw[h]
 rfl
def KS{α:Type}{l:List α}{f:α->D}{i:Nat}(h:(KR 0 (l.map f))[i]?=some d):∃x,l[i]?=some x/\d=.tup [.int (i:Int),f x]:=by
 rw[vy,TX] at h
 cases e:l[i]? with
 |none=>rw[e] at h;cases h
 |some x =>
  rw[e] at h
  exact⟨x,rfl,by simpa using h.symm⟩
def xu{α β:Type}(f:α->β):∀(l:List α) (i:Nat),(l.map f).eraseIdx i=(l.eraseIdx i).map f
 |[],_=>rfl
 |_::_,0=>rfl
 |x::l,i+1=>by
  show f x::(l.map f).eraseIdx i=f x::(l.eraseIdx i).map f
  rw[xu f l i]
end DC
namespace L2
section
variable {X:Cx}
def GS(K:l'):R2:=λx y H Q=>∃l b d a,y=.ref l/\cW K H l b/\mU K H x d/\km K H b a/\U' d=true/\d.depth<=60/\(∀e∈a,U' e=true)/\Q (.bl (a.any λe=>Us e d)) H
def sq{h:Heap}:∀{b:List Value} {c:List PyData} {f:List Addr},ReadsAll h b c f->∀v∈b,∃d∈c,∃bs,Reads h v d bs
 |_,_,_,.nil=>λv a=>nomatch a
 |_,_,_,.cons q r=>λv a=>by
  rcases Gc.mp a with rfl|a
  ·exact⟨_,N',_,q⟩
  ·obtain⟨d,e,bs,z⟩:=sq r v a
   exact⟨d,TR _ e,bs,z⟩
def uP{h:Heap}{d:PyData}{e:Value->Bool}:∀{a:List Value} {b:List PyData} {i:List Addr},ReadsAll h a b i->(∀v∈a,∀x∈b,∀bs,Reads h v x bs->e v=Us x d)->a.any e=b.any λx=>Us x d
 |_,_,_,.nil,_=>rfl
 |_,_,_,.cons q r,c=>by rw[Ud,Ud,c _ N' _ N' _ q,uP r λv f x g bs z=>c v (TR _ f) x (TR _ g) bs z]
def Fw(T:X.A.units+64<cLine):g9 X (compareOp .In) (GS X.K):=by
 intro o s σ H x y v u Q I L B h
 obtain⟨l,S,d,j,rfl,E,b,m,F,G,i,q⟩:=h
 cases B
 obtain⟨its,r,t,W⟩:=I.list E
 obtain⟨O,P⟩:=b.reads I L
 obtain⟨bs,n⟩:=m.reads I r
 have p:∀e∈j,e.canLay0=true:=λe g=>X2 (i e g)
 let e:Value->Bool:=λy=>@decide (∃x∈j,∃bs,Reads s.heap y x bs/\Us x d=true) (WL _)
 have g:∀v∈its,∀x∈j,∀bs,Reads s.heap v x bs->e v=Us x d:=λv R x b bs z=>by
  cases hq:Us x d with
  |true=>exact @decide_eq_true _ (WL _) ⟨x,b,bs,z,hq⟩
  |false =>
   refine @decide_eq_false _ (WL _) ?_;rintro⟨C,J,a,N,f⟩
   have:=aAj x C v bs a (p x b) z N
   rw[<- this,hq] at f
   cases f
 refine ZL e t.isList (λw M=>?_) ⟨.bl _,H,I,rfl,?_⟩
 ·have c:w∈its:=by simpa using M
  obtain⟨x,b,a,z⟩:=sq n w c
  rw[g w c x b a z]
  refine SeqAt.eqAt_reads x d X.A.in1 s w _ a O z P (p x b) (X2 F) ?_
  have U:min x.depth d.depth<=d.depth:=Vc _ _
  show X.A.units+1+_<cLine
  omega
 ·rw[<- Array.any_toList]
  rw[show its.toArray.toList=its by simp,uP n g]
  exact q
def AZ:N1 X "list.remove" (λx C H Q=>∃(l:Addr) (b:List Str) (z:Str) (j:Nat),x=.ref l/\C=[.str z]/\H l=some (.lst (b.map V.str))/\b[j]?=some z/\(∀m y,m<j->b[m]?=some y->y≠z)/\Q .ae (upd H l (.lst ((b.eraseIdx j).map V.str)))):=by
 intro G s σ H x C v us Q I Z U h
 obtain⟨l,b,z,j,rfl,rfl,J,L,h2,q⟩:=h
 cases Z
 obtain⟨u,rfl,W⟩:=U.one
 obtain⟨M,rfl⟩:=(show ∃t,u=Um z t from W)
 obtain⟨N,a,n,r,R,e⟩:=I.DP J
 have at_:∀m y,b[m]?=some y->∃t,a[m]?=some (Um y t):=λm y p=>by
  obtain⟨w',hw,t,rfl⟩:=r.get (show(b.map V.str)[m]?=some (V.str y) by rw[TX,p];rfl)
  exact⟨t,hw⟩
 obtain⟨Y,E⟩:=at_ j z L
 have c:j<a.length:=(Te.mp E).1
 have o:a.toArray.size<=sizeLine:=by rw[Ti,<- R];exact N
 have i:∀m (T:m<a.toArray.size),m<j->(match a.toArray[m] with|.str g _=>g.cps.toList == z.cps.toList|_=>false)=false:=λm T w=>by
  have f:m<b.length:=by have:=(Te.mp L).1;omega
  obtain⟨P,A⟩:=at_ m b[m] (F' f)
  have B:=(Te.mp A).2
  have ne:=h2 m b[m] w (F' f)
  have:a.toArray[m]=Um b[m] P:=by simpa using B
  rw[this]
  show(b[m].cps.toList == z.cps.toList)=false
  rw[beq_eq_false_iff_ne]
  exact λS=>ne (DC.tM S)
 refine call_meets YN ⟨_,e,rfl⟩ F.entry_list_remove (F.args_list_remove_2 _ _) (MeetsSeq.list_remove l a.toArray n (.str z M) (λy=>match y with|.str g _=>g.cps.toList == z.cps.toList|_=>false) (λy p=>?_) j (by simpa using c) ?_ i o) ⟨e,?_⟩
 ·obtain⟨g,t,rfl⟩:=DC.mR r y (Wd.mp p)
  exact ZW g z t M
 ·have B:=(Te.mp E).2
  have:a.toArray[j]'(by simpa using c)=Um z Y:=by simpa using B
  rw[this]
  simp
 ·refine⟨.ae,_,I.Ih (its':=a.eraseIdx j) J e ?_ ?_ ?_,rfl,q⟩
  ·show a.toArray.eraseIdxIfInBounds j=(a.eraseIdx j).toArray
   rw[List.eraseIdxIfInBounds_toArray]
  ·rw[<- DC.xu]
   exact r.eraseIdx j
  ·rw[tz]
   have O:(b.map V.str).length<=sizeLine:=N
   rw[tz] at O
   exact G' (List.length_eraseIdx_le ..) O
end
end L2
namespace DC
def Lr:F2:=λd e Q=>∃xs,e=.lst xs/\plain d=true/\lZ xs=true/\U' (jM d)=true/\(jM d).depth<=60/\(∀x∈xs,U' (jM x)=true)/\Q (.bl (xs.any λx=>Us (jM x) (jM d)))
def Ip:ef Lr:=fun d e P i f ⟨xs,a,h1,c,b,h,g,q⟩=>⟨xs,a,h1,c,b,h,g,f _ q⟩
def tP:∀xs:List D,mD xs=xs.map jM
 |[]=>by rw[mD];rfl
 |x::xs=>by rw[mD,tP xs];rfl
def zy{K:l'}:iM K (GS K) Lr:=by
 intro H x y d e Q g l h
 obtain⟨i,rfl,o,j,n,f,m,q⟩:=h
 cases l with
 |lst g1 g2 =>
  refine⟨_,_,jM d,mD i,rfl,g1,g.dat o,g2.dat j,n,f,λe b=>?_,?_⟩
  ·rw[tP] at b
   obtain⟨c,a,rfl⟩:=Tj.mp b
   exact m c a
  ·rw[tP,Z6]
   exact q _ H (aH.refl _) (.bl _)
def Hq(e:X.A.units+64<cLine)(j:PD X a h)(f:PD X b i)(g:behindInMarks .In b=false):PD X (.Compare a [.In] [b] c) (rJ Lr h i):=qP (Fw e) zy Ip j f g
def Ik(i:Nat)(c:ED):fS:=λE δ μ=>∃(a:Addr) (b:List Str),δ[i]?=some (some (.adr a))/\μ.lookup a=some (.lst (b.map D.str))/\c δ λd=>∃(z:Str) (j:Nat),d=.str z/\b[j]?=some z/\(∀m y,m<j->b[m]?=some y->y≠z)/\E.nx δ (iU a (.lst ((b.eraseIdx j).map D.str)) μ)
def DS{p A c b:Pos}(hi:X.N[i]?=some x)(Q:Cb X.env.scope x)(C:PD X e W)(hd:autoParam ((x == ("__debug__":Str))=false) e7)(G:autoParam ((x == ("__classdict__":Str))=false) e7)
  (s:autoParam (starEach [e] X.env=(false,eval e X.env)::starEach [] X.env) dI)(f:autoParam ((c.endLine == b.line)=true) dI)
  (n:autoParam (((backTo b (starEach [e] X.env)).all (λx=>!x.1)&&(backToKw b (keywordEach [] X.env)).all (λx=>x.1.isSome)&&decide ([e].length+([]:List VN).length+(if([]:List VN).isEmpty then 0 else 1)<30))=true) dI)
  (T:autoParam (Ue (.Call (.Attribute (.Name x p) "remove" c) [e] [] b) none A.line X.env=pure false) dI)
  (hb:autoParam (UZ (.Name x p) "remove" X.env (eval (.Name x p) X.env)=eval (.Name x p) X.env) dI) :
  xS X (.Expr (.Call (.Attribute (.Name x p) "remove" c) [e] [] b) A) (Ik i W):=by
 refine⟨PS.imp (mP (sS Ui YN PySem.F.type_list_remove AZ (kL hi Q hd G) (cU (iT C.pe) gX s) hb n f s) T) fun En σ H ⟨δ,μ,L,r,g,q⟩=>?_,
  fun E E' δ μ l ⟨a,ds,u,I,q⟩=>⟨a,ds,u,I,C.mono _ _ _ (fun d ⟨z,j,h1,h2,h3,h4⟩=>⟨z,j,h1,h2,h3,l.nx _ _ h4⟩) q⟩⟩
 obtain⟨a,m,u,I,q⟩:=q
 obtain⟨v,B,dv⟩:=r.get i _ u
 cases dv
 have Z:=mem_of_lookup I
 obtain⟨h,vs,M,y⟩:=g.at_ _ Z
 have ev:=pJ y
 subst ev
 refine⟨_,B,.inl ⟨rfl,_,cW.of M⟩,L,g.eZ,δ,r,C.mono _ _ _ (?_) q⟩;rintro d ⟨S,j,U,P,t,R⟩ w H1 J Y z
 subst U
 cases Y
 have e1:aa (ao H1 H L) L=H1:=bh z
 have g1:fG X.K (ao H1 H L) μ L:=g.show z J
 have o:ao H1 H L a=some (.lst (m.map V.str)):=by rw[aV h];exact M
 refine⟨a,m,S,j,rfl,rfl,o,P,t,?_⟩
 have g2:=g1.putL h o (ys:=(m.eraseIdx j).map V.str) (ds:=(m.eraseIdx j).map D.str) (lL _)
 have O:aa (upd (ao H1 H L) a (.lst ((m.eraseIdx j).map V.str))) L=H1:=by rw[gP h,e1]
 exact R σ _ L (by rw[O];exact J) (by rw[O];exact r.same J) g2
def Iz{pv n:Pos}(G:X.N.Nodup)(Z:X.N[k]?=some v)(hl:Loc X.env.scope v)(S:bY X a cl [x] caps cn)(hc:X.calm=true)(I:PId X u c T)(hg:∀C j i m,PG (aZ X a cl C ([x]++cn) j i m) u (cz 0))(W:∀C j i m,t_ (aZ X a cl C ([x]++cn) j i m) o tt)
  (U:∀C j i m,PD (aZ X a cl C ([x]++cn) j i m) p Q)(A:autoParam (Ue (.ListComp p [⟨u,c,o,0⟩] a t) (some (.Name v pv)) n.line X.env=pure true) dI)(hf:autoParam (X.fn v=true\/X.env.scope.names.lookup v=some .local) eS)
  (hs:autoParam (∀x,foldedSetIterable c X.env x=pure x) eH) :
  xS X (.Assign [.Name v pv] (.ListComp p [⟨u,c,o,0⟩] a t) n) (MM k caps T tt Q):=by
 have mt:=(W 0 [] X.s₀ X.H₀).mono
 have me:=(U 0 [] X.s₀ X.H₀).mono
 have s:PS X (.Assign [.Name v pv] (.ListComp p [⟨u,c,o,0⟩] a t) n) (Kv k (vN 1 caps (λσ H R=>∃ δ,bG X.K H σ δ/\T δ λw=>∀J F,aH H F->D6 X.K J F w->R J F) (cz 0) (mE (oT X.K tt)) (l_ (oE X.K Q)))):=wc G Z hl S hc I.pi hg (λC j i m=>fA (W C j i m).Nw) (λC j i m=>gG (U C j i m).pe) A hf hs
 refine⟨PS.imp s ?_,λE E' δ μ l h=>pb I.mono _ _ _ (fun d ⟨w,e,f,q⟩=>⟨w,e,f,l.nx _ _ q⟩) h⟩;rintro D σ H ⟨δ,μ,L,r,g,h⟩
 refine Co I.mono mt me (g.cD r) h ?_;rintro P b y w Y O B ⟨ds',ed,fl,nx⟩
 cases ed
 have M:aH H (upd P b (.lst y)):=O.trans (aL Y)
 have bL:b∉L:=λz=>by
  obtain⟨o',q'⟩:=(g.eZ _ z).there
  have:=O _ _ q'
  rw[Y] at this
  cases this
 exact nx _ _ L (d_ M) ((r.same (d_ M)).set k (.lst (cW.of (show aa (upd P b (.lst y)) L b=some (.lst y) by rw[bf bL,aF])) (B.Bc fl))) (g.on M)
def Lu(t:AD):EF:=λδ Q=>t δ λc=>∃b,c=[.dK b]/\∀a,Q (.adr a) [(a,.lst (b.map λe=>keyOf e.1))]
def ID{p i:Pos}(m:X.A.handled=none)(E:Gl X "list")(u:X.mg "list"=none)(j:iZ X (e::c) t)(v:autoParam (starEach (e::c) X.env=(false,eval e X.env)::starEach c X.env) dI)(C:autoParam ((backTo i (starEach c X.env)).any (·.1)=false) dI):PF X (.Call (.Name "list" p) (e::c) [] i) (Lu t):=by
 refine⟨(i9 (rP m) E u boot_list j.pa (he:=v) (hpl:=C)).imp fun σ H Q ⟨δ,r,h⟩=>⟨δ,r,j.mono _ _ _ (?_) h⟩,λδ P G g h=>j.mono _ _ _ (fun ds ⟨b,e,k⟩=>⟨b,e,λa=>g _ _ (k a)⟩) h⟩;rintro ds ⟨b,e,k⟩ F s n f
 subst e
 cases f with
 |cons dv B =>
  cases B
  cases dv with
  |dK x y =>
   refine⟨_,_,rfl,x,λl o=>?_⟩
   obtain⟨g2,w⟩:=(fG.nil (K:=X.K) (H:=s)).Fm o (ds:=b.map λz=>keyOf z.1) (by rw[bO];exact bA.keys y)
   exact k l (.ref l) _ [l] (by rw[w,bO];exact n) g2 (.adr l)
end DC
namespace L2
end L2
namespace DC
structure CZ (X:Cx) (tg iter:Expr) (ti:AD):Prop where
 pi:PI X tg iter (λσ H R=>∃ δ,bG X.K H σ δ/\ti δ λds=>∀J H1,aH H H1->D6 X.K J H1 ds->J.u=true->R J H1)
 mono:ko ti
def Qo(b:ED):AD:=λδ Q=>b δ λd=>∃a,(d=.lst a\/d=.tup a)/\Q a
def pU(p:PD X l A):CZ X B l (Qo A):=by
 refine⟨PI.imp (GF p.pe) fun σ H R ⟨δ,r,h⟩=>⟨δ,r,p.mono _ _ _ (?_) h⟩,λδ P C g h=>p.mono _ _ _ (fun d ⟨u,e,q⟩=>⟨u,e,g _ q⟩) h⟩;rintro d ⟨u,e,q⟩ v m w dv
 rcases e with rfl|rfl
 ·cases dv with
  |lst b c =>
   refine .inl ⟨_,rfl,⟨_,b⟩,q _ m w ⟨λi j a f=>?_,λj a=>⟨_,a.seq b,by rw[c.length];exact S' _⟩,λi j x o a f y=>?_⟩ rfl⟩
   ·obtain⟨v,n,_⟩:=c.get (F' f)
    exact⟨_,v,a.seq b,n⟩
   ·obtain⟨rfl,t⟩:=y
    obtain⟨d,s,dv⟩:=c.x_ (t _ (a.seq b))
    exact⟨aH.refl _,d,s,m,aH.refl _,dv,λ_ _ z=>.inl z,a⟩
 ·cases dv with
  |tup b c =>
   refine .inr (.inl ⟨_,rfl,⟨_,b⟩,q _ m w ⟨λi j a f=>?_,λj a=>⟨_,mZ a b,by rw[c.length];exact S' _⟩,λi j x o a f y=>?_⟩ rfl⟩)
   ·obtain⟨v,n,_⟩:=c.get (F' f)
    exact⟨_,v,mZ a b,n⟩
   ·obtain⟨rfl,t⟩:=y
    obtain⟨d,s,dv⟩:=c.x_ (t _ (mZ a b))
    exact⟨aH.refl _,d,s,m,aH.refl _,dv,λ_ _ z=>.inl z,a⟩
def C_(w:Gl X "range")(u:X.mg "range"=none)(l:iZ X [a] m)(o:autoParam (starEach [a] X.env=[(false,eval a X.env)]) dI):CZ X y (.Call (.Name "range" p) [a] [] f) (BJ m):=by
 refine⟨PI.imp (vH w u l.pa o) fun σ H R ⟨δ,r,h⟩=>⟨δ,r,l.mono _ _ _ (?_) h⟩,λδ P z g h=>l.mono _ _ _ (fun v ⟨n,e,i,j,q⟩=>⟨n,e,i,j,g _ q⟩) h⟩;rintro v ⟨n,e,i,j,q⟩ x t s c
 subst e
 cases c with
 |cons a b =>
  cases a
  cases b
  exact⟨n,rfl,i,j,q _ t s (yN 0 n.toNat) rfl⟩
def Gb(hp:V' (model X.prog X.w) X.A X.env X.xe)(hh:bp X.A X.H₀)(S:CZ X Y f ti)(W:KI X Y g)(T:jQ X v tb)(hs:autoParam (∀x,foldedSetIterable f X.env x=pure x) eH) :
  xT X (.For Y f v [] pos) (PY ti g tb):=by
 refine⟨PS.imp (JX hp hh S.pi W.pg T.ps hs) fun D σ H ⟨δ,r,h⟩=>⟨δ,r,S.mono _ _ _ (fun p ⟨a,C,step,o⟩ J H1 L F ju=>⟨ju,?_⟩) h⟩,λE E' δ l h=>S.mono _ _ _ (fun p ⟨a,C,step,o⟩=>⟨a,C,λi d b P c=>W.mono _ _ _ _ (λn q=>T.mono { E with nx:=a (i+1),ct:=a (i+1),bk:=E.nx } _ _ ⟨λ_ q=>q,l.rt,l.nx,λ_ q=>q⟩ q) (step i d b P c),λb q=>l.nx _ (o b q)⟩) h⟩
 refine⟨λi m M s=>m=p.length - i/\i<=p.length/\aH H1 s/\∃ b,bG X.K s M b/\a i b,⟨p.length,rfl,UP _,aH.refl _,δ,r.same L,C⟩,?_⟩
 rintro i m M s ⟨rfl,hle,u,b,Z,c⟩
 by_cases j:i<p.length
 ·refine .inr ⟨F.go i s u j,λσ2 Q=>aH H1 Q/\∃ n,bG X.K Q σ2 n/\a (i+1) n,fun σ2 Q ⟨z,n,r2,h2⟩=>⟨p.length - (i+1),by omega,rfl,j,z,n,r2,h2⟩,λx G y=>?_⟩
  obtain⟨z,d,P,Hx,_,B,_,sx⟩:=F.BC i s x G u j y
  have dv:=B.same sx
  have N:=u.trans z
  refine⟨d,b,dv,Z.same z,W.mono _ _ _ _ (λn q σ3 H3 I r3=>⟨n,r3,T.mono { e9 X.K H D with nx:=a (i+1),ct:=a (i+1),bk:=(e9 X.K H D).nx } _ _ ?_ q⟩) (step i d b P c)⟩
  have sB:=L.trans (N.trans I)
  exact⟨λU t σ4 H4 R O=>⟨N.trans (I.trans R),U,O,t⟩,λ_ t=>t.on sB,λ_ t=>t.on sB,λU t σ4 H4 R O=>⟨N.trans (I.trans R),U,O,t⟩⟩
 ·have e:i=p.length:=by omega
  subst e
  exact .inl ⟨F.stop s u,o b c M s (L.trans u) Z⟩
def uZ{K:l'}(mi:ko W)(mt:eh tt)(me:bK U)(r:bG K H σ δ)(h:jL c W tt U δ P)
  (fin:∀g D n l,g D=none->aH H g->bA K g n l->P (.lst l)->Q (.ref D) (upd g D (.lst n))) :
  GR 1 c (λσ H R=>∃ δ,bG K H σ δ/\W δ λl=>∀J B,aH H B->D6 K J B l->J.u=true->R J B) (cz 0) (mE (oT K tt)) (l_ (oE K U)) σ H Q:=by
 refine⟨δ,r,mi _ _ _ (fun l ⟨f,C,G,L,q⟩ J B s1 S ju=>⟨ju,λD hD=>?_⟩) h⟩
 refine⟨λi m n H'=>m=l.length - i/\i<=l.length/\∃g,g D=none/\aH B g/\bA K g n ((f.take i).filterMap id)/\H'=upd g D (.lst n),⟨l.length,rfl,UP _,B,hD,aH.refl _,.nil,rfl⟩,?_⟩
 rintro i m n H' ⟨rfl,hle,g,M,F,s,rfl⟩
 refine⟨aF,?_⟩
 have Y:aH B (upd g D (.lst n)):=F.trans (aL M)
 by_cases A:i<l.length
 ·refine .inr ⟨S.go i _ Y A,λx p y=>?_⟩
  obtain⟨s2,d,hd,Hx,sx1,O,only,sx⟩:=S.BC i _ x p Y A y
  have hD2:p D=some (.lst n):=s2 _ _ aF
  have Z:∀a o,B a=some o->a≠D:=λa o z=>aQ z hD
  have T:∀a o,Hx a=some o->a≠D:=λa o z w=>by
   rcases only a o z with N|N
   ·exact Z a o N w
   ·rw[w,aF] at N;cases N
  have I:aH g (del p D):=λa o z=>by
   rw[cy (aQ z M)]
   exact s2 a o (aL M a o z)
  have X:aH Hx (del p D):=λa o z=>by
   rw[cy (T a o z)]
   exact sx a o z
  obtain⟨o,ho⟩:∃o,f[i]?=some o:=⟨_,F' (show i<f.length by omega)⟩
  have E:bG K (del p D) (some x::c.map λj=>(σ[j]?).getD none) (some d::nu c δ):=qr (r.same (s1.trans (F.trans I))) (O.same X) c
  refine⟨Le.one,D,n,hD2,_,E,mt _ _ _ (?_) (G i d o hd ho)⟩;rintro b ⟨eb,hb⟩ H3 s3 h3
  have ht:f.take (i+1)=f.take i++[o]:=by rw[UX,ho];rfl
  have t:aH g H3:=I.trans s3
  cases b with
  |false =>
   refine aU ?_
   refine⟨l.length - (i+1),by omega,rfl,A,H3,h3,F.trans t,?_,rfl⟩
   have on:o=none:=by cases o with|none=>rfl|some z=>cases eb
   rw[ht,on,Uh]
   simpa using s.same t
  |true =>
   refine aq ?_
   refine⟨D,n,aF,?_⟩
   rw[qu h3]
   refine⟨_,E.same s3,me _ _ _ (λy ey v H4 s4 dv h4=>⟨aF,?_,l.length - (i+1),by omega,rfl,A,H4,h4,F.trans (t.trans s4),?_,pH⟩) (hb rfl)⟩
   ·rw[s.length]
    exact Tc (G' (Vg _ _) (V4 _ _)) (by rw[C];exact L)
   ·rw[ht,ey,Uh]
    exact(s.same (t.trans s4)).append (.cons dv .nil)
 ·have e:i=l.length:=by omega
  subst e
  refine .inl ⟨S.stop _ Y,?_⟩
  rw[<- C,T2] at s
  exact fin g D n _ M (s1.trans F) s q
def xj(S:bY X b cl [x] caps cn)(p:bp X.A X.H₀)(n:CZ X s i z)(F:∀C f e c,PG (aZ X b cl C ([x]++cn) f e c) s (cz 0))(v:∀C f e c,t_ (aZ X b cl C ([x]++cn) f e c) j tt)
  (u:∀C f e c,bp X.A c->PD (aZ X b cl C ([x]++cn) f e c) l t)(w:autoParam (∀x,foldedSetIterable i X.env x=pure x) eH):PD X (.ListComp l [⟨s,i,j,0⟩] b B) (jL caps z tt t) :=
 have mt:eh tt:=(v 0 [] X.s₀ X.H₀).mono
 have E:bK t:=(u 0 [] X.s₀ X.H₀ p).mono
 ⟨(F8 S p n.pi F (λC f e c=>fA (v C f e c).Nw) (λC f e c h=>gG (u C f e c h).pe) w).imp fun σ H Q ⟨δ,r,h⟩=>uZ n.mono mt E r h λI a G L o y m k =>
   k (.ref a) _ (y.trans (aL o)) (.lst (cW.of aF) (m.same (aL o))),
  λδ P J g h=>pb n.mono _ _ _ (λd k=>g _ k) h⟩
def IK(v:Gl X "enumerate")(s:X.mg "enumerate"=none)(i:iZ X [e] t)(x:autoParam (starEach [e] X.env=[(false,eval e X.env)]) dI) :
  CZ X (.Tuple j c A) (.Call (.Name "enumerate" p) [e] [] m) (KN t):=by
 refine⟨PI.imp (B6 v s i.pa x) fun σ H R ⟨δ,r,h⟩=>⟨δ,r,i.mono _ _ _ (?_) h⟩,λδ P z g h=>i.mono _ _ _ (fun o ⟨l,f,q⟩=>⟨l,f,g _ q⟩) h⟩;rintro o ⟨l,f,q⟩ y n u b
 subst f
 cases b with
 |cons a r =>
  cases r
  cases a with
  |lst g1 w=>exact⟨_,_,rfl,g1,q _ n u (Bn g1 w) rfl⟩
end DC
namespace L2
def zX(p:ax≠I)(a:Array Value)(y:f≠I)(C:∀h:Heap,h.get? f=some oe->jO A h)(B:A.handled=some (.ref f)) :
  Walks t w A I [I,ax,f] [I] a.size (λi v=>a[i]?=some v) (λi h=>h.IsListIter I ax i/\h.IsList ax a/\h.get? f=some oe) where
 sub:=λb g=>by simp at g;simp[g]
 frame:=λ_ _ _ st m=>⟨st.1.at λo e=>m I (by simp) o e,st.2.1.at λo e=>m ax (by simp) o e,m f (by simp) _ st.2.2⟩
 item:=λi s Q E u st j=>by
  refine Y5 st.1 st.2.1 (x:=a[i]) (by simp[u]) λr l c=>j _ r s.toks (by simp[u]) ⟨l,st.2.1.extBut c.extBut p,c.extBut f _ y st.2.2⟩ λb o g e=>c.extBut b o (λz=>g (by simp[z])) e
 done:=λs Q E st j=>uu (C _ st.2.2) st.1 st.2.1 (by simp) (λF e=>by rw[B] at e;cases e;exact y) λr n=>j r s.toks λb o g e=>n b o (λz=>g (by simp[z])) e
 self:=λ_ _ _ _ st j=>ZG st.1 j
def uL(m:jO A s.heap)(f:IsTup s.heap t a)
  (u:∀x,UU s.heap.objs.size s.heap x->Q a.toList { s with heap:=x }):wpAny (model v w) A (unpackItems (.ref t) a.size none) Q E s:=by
 rcases m with m|⟨p,G,C,z,y,H,J⟩
 ·exact unpackItems_tuple m f u
 have i:t≠s.heap.objs.size:=by obtain⟨o,I,_⟩:=f;exact Tq (TU I)
 have g:p≠s.heap.objs.size:=Tq (TU y)
 unfold unpackItems
 refine wpAny_bind ?_
 unfold notIterableAtAll
 refine wpAny_bind (wpAny_specialOf f.typeIs slot_tuple_iter.lookup ?_)
 refine wpAny_pure ?_
 simp only[Vj,if_false]
 refine wpAny_bind (wpAny_holding (iter_tuple f ?_))
 refine wpAny_bind (wpAny_holding (draw_tuple i a.size 0 _ _ ⟨_,TN _ rfl,rfl,rfl⟩ (f.push _) (by omega) λr j c=>?_))
 have h:List.take a.size (List.drop 0 a.toList)=a.toList:=by
  rw[Zl];exact Vn (by simp)
 rw[h]
 rw[if_neg (by simp)]
 have l:IsTup r t a:=(f.push _).extBut c.extBut i
 refine wpAny_bind (wpAny_holding (zS (.inr ⟨p,G,C,z,c.extBut p _ g (B' _ y),H,J⟩) (show r.IsTupleIter _ _ _ from j) (show r.IsTuple _ _ from l) (by simp) (λL e=>by rw[z] at e;cases e;exact g) λF n=>?_))
 simp only[Option.isSome_none,Vj,if_false]
 exact wpAny_pure (u F λb o B e=>n b o B (c.extBut b o B (B' _ e)))
def Ck(C:bp X.A X.H₀):gH X (.builtin "all") (λj H Q=>∃(p:Addr) (bs:List Bool),j=[.ref p]/\cW X.K H p (bs.map V.bl)/\Q (.bl (bs.all id)) H):=by
 intro c s σ H j G Q I r h
 rcases Bh C I with E|⟨w,m,z,y,he,J,N⟩
 ·obtain⟨p,bs,e,l,q⟩:=h
  exact xY c s σ H j G Q I r ⟨p,bs,e,E,l,q⟩
 obtain⟨p,bs,rfl,l,q⟩:=h
 obtain⟨u,rfl,F⟩:=vals1 r
 cases(show u=Td p from F)
 obtain⟨a,x,o,_⟩:=I.list l
 have t:=o.isList
 have g:p<s.heap.objs.size:=o.lt
 have L:=uU x
 have f:a.length=bs.length:=by have:=x.length;rw[tz] at this;exact this.symm
 refine aAq (wpAny_pyIter_list t ?_)
 refine⟨s.heap.objs.size,[s.heap.objs.size,p,w],[s.heap.objs.size],a.toArray.size,_,_,λi=>(bs[i]?).getD true,rfl,zX (A:=X.A.in1) (ax:=p) (oe:=m) (Tq g) a.toArray (Tq (TU he)) (λh e=>.inr ⟨w,m,z,y,e,J,N⟩) y,
  ⟨⟨_,TN _ rfl,rfl,rfl⟩,t.push _,B' _ he⟩,λi v R S T M n=>?_,λP O B=>?_⟩
 ·obtain⟨b,e,rfl⟩:=L i v (by simpa using M)
  simp only[e,XF] at n
  exact wpAny_truthy_bool n
 ·have e:((Ua a.toArray.size).all λi=>(bs[i]?).getD true)=bs.all id:=by
   rw[Ti,f];exact sZ bs
  rw[e]
  exact⟨.bl (bs.all id),H,I.kept (W0 B),rfl,q⟩
def JS{p:Pos}{k:Nat}(E:bp X.A X.H₀)(h:EI X f t)
  (B:autoParam ((assignEach f X.env).length=n) dI)(j:autoParam ((assignEach f X.env).findIdx? (·.1)=none) dI):PG X (.Tuple f k p) (IH X.K n t):=by
 intro c s σ H v u Q I r g
 obtain⟨a,G,m,z,y,g⟩:=g
 subst m
 cases r
 obtain⟨i,l,w,J⟩:=I.tuple z
 rw[assign_Tuple]
 refine wpAny_bind (wpAny_standAt ?_)
 unfold unpack
 rw[show(assignEach f X.env).length=i.toArray.size by simp[B,<- y,l.length],j]
 refine wpAny_bind (wpAny_holding (uL (Bh E I) w λC x=>?_))
 have F:Inv X c σ H { s with heap:=C }:=I.kept (t':=s.toks) λb o e=>x b o (Tq (TU e)) e
 exact h c _ σ H G _ Q F (by simpa using l) g
def As(A:Around)(n:Nat)(a:List Nat)(e:TI)(g:TG)(tt:TT)(c:TE):TE:=λσ H Q=>e σ H λJ b=>J.u=true/\bp A b/\∀D,b D=none->BF J D b (zM n a σ) g tt c Q
def F9(S:bY X a F T l E)(hi:PI X G c Z)(L:∀C i j p,PG (aZ X a F C (T++E) i j p) G g)(ht:∀C i j p,zZ (aZ X a F C (T++E) i j p) r tt)
  (he:∀C i j p,PE (aZ X a F C (T++E) i j p) B Y)(U:autoParam (∀x,foldedSetIterable c X.env x=pure x) eH) :
  PE X (.ListComp B [⟨G,c,r,0⟩] a pos) (As X.A T.length l Z g tt Y):=by
 intro f s σ H Q I h
 rw[Yi]
 refine wpAny_comprehension_free (use:=none) rfl U S.Hj S.kind S.names (bg (hi f s σ H _ I h) λv s1 h1=>bg h1 λN s2 h2=>?_)
 obtain⟨it,i,tn,J,H2,e,W,Tn,z,f2,ju,P,q⟩:=h2
 subst e
 refine jV (RR:=λy C=>ZS (model X.prog X.w) X.A X.xe none (EP X f σ Q) y C) S (.inr ⟨ju,P⟩) L ht (λC i j=>he C i j H2) W Tn z f2 q λD C oC m H' R I' ho O n M=>?_
 refine⟨m,O,λh' u=>⟨.ref D,H',?_,rfl,M⟩⟩
 obtain⟨hp,g,d,t,os⟩:=R
 exact I'.fR.turned (λb o hb e=>(u.2 b hb).trans e) n.1 n.2.1 n.2.2.2.1 n.2.2.2.2.1 n.2.2.2.2.2
end L2
namespace DC
section
variable {X:Cx}{e:Expr}{es:List Expr}{t:AD}{pos p:Pos}{x:Str}{j k:Nat}{ps:List Str}{sd:cI}{ea:Addr}
def Cv{K:l'}:qM K (λf H Q=>∃(p:Addr) (bs:List Bool),f=[.ref p]/\cW K H p (bs.map V.bl)/\Q (.bl (bs.all id)) H) zF:=by
 intro H g h Q a ⟨bs,e,q⟩
 subst e
 cases a with
 |cons dv r =>
  cases r
  cases dv with
  |lst b c =>
   rw[xF c] at b
   exact⟨_,bs,rfl,b,q _ H (aH.refl _) (.bl _)⟩
def LR(h:bp X.A X.H₀)(b:Gl X "all")(c:X.mg "all"=none)(a:iZ X (e::es) t)(f:autoParam (starEach (e::es) X.env=(false,eval e X.env)::starEach es X.env) dI)(g:autoParam ((backTo pos (starEach es X.env)).any (·.1)=false) dI):PD X (.Call (.Name "all" p) (e::es) [] pos) (vB zF t):=xg (dA (Ck h) b c uV a.pa (he:=f) (hpl:=g)) a.mono Cv Kf
def E_(m:bp X.A X.H₀)(h:EJ X es u)(l:autoParam ((assignEach es X.env).length=n) dI)(c:autoParam ((assignEach es X.env).findIdx? (·.1)=none) dI):KI X (.Tuple es k pos) (OZ n u):=by
 refine⟨PG.imp (JS m h.pg l c) ?_,fun d δ P o f ⟨a,e,b,q⟩=>⟨a,e,b,h.mono _ _ _ _ f q⟩⟩;rintro v σ H Q ⟨d,δ,dv,r,a,e,b,q⟩
 subst e
 cases dv with
 |tup i g=>exact⟨_,_,rfl,i,by rw[g.length];exact b,a,δ,g,r,q⟩
def qt(O:bp X.A X.H₀)(c:iL X.prog X.w X.K X.mg X.base j x ps sd)(T:fL k X.A)(L:j<=k)(hg:Gl X x)(G:iZ X (e::es) t)(B:autoParam ((x == ("__debug__":Str))=false) e7)
  (W:autoParam (starEach (e::es) X.env=(false,eval e X.env)::starEach es X.env) dI)(C:autoParam ((backTo pos (starEach es X.env)).any (·.1)=false) dI):PD X (.Call (.Name x p) (e::es) [] pos) (zT sd t):=by
 obtain⟨f,fd,F,S,N,Z⟩:=c.ex
 refine⟨ ?_,λδ P P' g h=>G.mono _ _ _ (λa q=>c.ms _ _ _ g q) h⟩;rintro l s σ H Q I ⟨δ,r,h⟩
 refine Ug (fv I hg S ?_ B)
 refine V_ (h₀:=X.base) I.ok.mod.FN N (bg (G.pa pos l s σ H (λi m=>aH H m/\∃a,bA X.K m i a/\sd a (kD X.K H Q)) I ⟨δ,r,G.mono _ _ _ (λa q i m y dv=>⟨y,a,dv,q⟩) h⟩) fun us y ⟨i,m,n,M,Y,a,dv,q⟩=>⟨n.lQ,?_⟩) W C
 have E:bp X.A (dq y.heap m):=by
  rcases O with h|⟨J,o,u,i,U,E,h3⟩
  ·exact .inl h
  ·exact .inr ⟨J,o,u,i,U,qy (n.base.dZ J o u E),h3⟩
 refine wm (Q':=BM X.K (kD X.K H Q)) F (T.mono L) E Z n M ⟨a,(dv.rd λb u R z=>z.eu n.au R),c.ms _ _ _ (λd q v H' dv=>⟨d,dv,q⟩) q⟩ ?_
 rintro v H' rd ⟨d,dv,q⟩
 exact q v _ (Y.trans (jJ _ _)) (dv.rd rd)
def Sf(a:Addr)(t:ED):ED:=λδ Q=>(∃(i:Nat) (C:Addr) (b:List (Str × D)),δ[i]?=some (some (.exc a C b)))/\t δ Q
def LV(U:X.A.handled=some (.ref ea))(c:iL X.prog X.w X.K X.mg X.base j x ps sd)(S:fL k X.A)(L:j<=k)(hg:Gl X x)(E:iZ X (e::es) t)(y:autoParam ((x == ("__debug__":Str))=false) e7)
  (T:autoParam (starEach (e::es) X.env=(false,eval e X.env)::starEach es X.env) dI)(B:autoParam ((backTo pos (starEach es X.env)).any (·.1)=false) dI):PD X (.Call (.Name x p) (e::es) [] pos) (Sf ea (zT sd t)):=by
 obtain⟨f,fd,F,R,N,Z⟩:=c.ex
 refine⟨ ?_,λδ P P' g h=>⟨h.1,E.mono _ _ _ (λa q=>c.ms _ _ _ g q) h.2⟩⟩;rintro l s σ H Q I ⟨δ,r,⟨i,C,gs,Y⟩,h⟩
 obtain⟨v0,_,W⟩:=r.get i _ Y
 cases W with
 |exc rd _ _ =>
  refine Ug (fv I hg R ?_ y)
  refine V_ (h₀:=X.base) I.ok.mod.FN N (bg (E.pa pos l s σ H (λo n=>aH H n/\∃a,bA X.K n o a/\sd a (kD X.K H Q)) I ⟨δ,r,E.mono _ _ _ (λa q o n G dv=>⟨G,a,dv,q⟩) h⟩) fun us G ⟨o,n,m,M,J,a,dv,q⟩=>⟨m.lQ,?_⟩) T B
  refine wm (Q':=BM X.K (kD X.K H Q)) F (S.mono L) (yC U m.au (kO J rd)) Z m M ⟨a,(dv.rd λb u O z=>z.eu m.au O),c.ms _ _ _ (λd q v H' dv=>⟨d,dv,q⟩) q⟩ ?_
  rintro v H' rd ⟨d,dv,q⟩
  exact q v _ (J.trans (jJ _ _)) (dv.rd rd)
def Jp:cI:=λc Q=>∃b:List Str,c=[.lst (b.map D.str)]/\b.length<64/\∀a:List Str,a.Perm b->YA a=true->Q (.lst (a.map D.str))
def BQ(v:Gl X "sorted")(u:X.mg "sorted"=none)(o:iZ X (e::es) t)(m:autoParam (starEach (e::es) X.env=(false,eval e X.env)::starEach es X.env) dI)(n:autoParam ((backTo pos (starEach es X.env)).any (·.1)=false) dI):PD X (.Call (.Name "sorted" p) (e::es) [] pos) (vB Jp t):=by
 refine xg (dA pQ v u boot_sorted o.pa (he:=m) (hpl:=n)) o.mono ?_ (fun s P z g ⟨i,e,f,q⟩=>⟨i,e,f,λw a b=>g _ (q w a b)⟩)
 rintro H y s Q h ⟨i,rfl,f,q⟩
 cases h with
 |cons dv r =>
  cases r
  cases dv with
  |lst m n=>exact⟨_,i,rfl,pJ n ▸ m,f,λc a b l f=>q c a b _ _ (aL f) (.lst (cW.of aF) (lL c))⟩
end
def Df.N8{K:l'}{st:Stmt}(d:Df K o x st n)(S:aD N n (aB st))(L:cN sd)(y:∀i Q,sd i Q->i.length=n.length)
  (T:∀(f:Addr) (c:Value) (A:Around) (a:List Env) (s:Shared) (H:Hp) (E:XK),fL k (A.deeper (envOfC x (aB st) s.heap.objs.size f c))->bp (HQ P w K o e N x st f c A a s H E).A (HQ P w K o e N x st f c A a s H E).H₀->tw (HQ P w K o e N x st f c A a s H E) (af st) t)
  (O:∀i Q,sd i Q->t { nx:=λ_ _=>Q .ae,rt:=λd μ=>Q (aY μ d)} (bS N i) []):iL P w K o e (k+1) x n sd:=by
 obtain⟨f,M,F,m,b⟩:=d.ex
 refine⟨⟨f,M,?_,m,F.kp,b⟩,L⟩
 obtain⟨X,od,Y,kV,W,Z,an,c,ct,U,rfl,G,u⟩:=(xx F).ex
 refine E7 G u S (fun C H Q E ⟨i,l,h⟩=>by rw[l.length];exact y i _ h) ?_;rintro A a s H C Q E j I ⟨i,l,h⟩
 have B:=T f c A a s H E j I
 refine⟨_,B.ps,bS N i,[],[],by rw[bO];exact dk l,fG.nil,?_⟩
 let z:D->Prop:=λd=>∀v p,Dv K p v d->Q v p
 exact B.mono { nx:=λ_ _=>z .ae,rt:=λd μ=>z (aY μ d)} _ _ _ ⟨λδ μ q σ p R J r g=>q _ _ .ae,λd μ q v p R J g dv=>q _ _ (g.view dv),λ_ _ q=>q.elim,λ_ _ q=>q.elim⟩ (O i _ h)
def ud{K:l'}(l:ko g)(mt:eh tt)(w:bK f)(t:bp A H)(r:bG K H σ δ)(h:jL a g tt f δ P)
  (i:∀e D n c,e D=none->aH H e->bA K e n c->P (.lst c)->Q (.ref D) (upd e D (.lst n))) :
  As A 1 a (λσ H R=>∃ δ,bG K H σ δ/\g δ λc=>∀J b,aH H b->D6 K J b c->J.u=true->R J b) (cz 0) (mE (oT K tt)) (l_ (oE K f)) σ H Q:=by
 obtain⟨δ,r,h⟩:=uZ l mt w r h i
 refine⟨δ,r,l _ _ _ (λc q J b j m p=>⟨(q J b j m p).1,?_,(q J b j m p).2⟩) h⟩
 rcases t with h|⟨v,o,u,s,x,y,z⟩
 ·exact .inl h
 ·exact .inr ⟨v,o,u,s,x,j _ _ y,z⟩
def OH(S:bY X e cl [x] caps cn)(hA:X.A.handled=some (.ref c))(T:CZ X U f ti)(hg:∀C m l n,PG (aZ X e cl C ([x]++cn) m l n) U (cz 0))(ht:∀C m l n,t_ (aZ X e cl C ([x]++cn) m l n) G tt)
  (he:∀C m l n,PD (aZ X e cl C ([x]++cn) m l n) M W)(hs:autoParam (∀x,foldedSetIterable f X.env x=pure x) eH):PD X (.ListComp M [⟨U,f,G,0⟩] e Y) (Sf c (jL caps ti tt W)):=by
 have mt:eh tt:=(ht 0 [] X.s₀ X.H₀).mono
 have me:bK W:=(he 0 [] X.s₀ X.H₀).mono
 refine⟨ ?_,λδ P P' g h=>⟨h.1,pb T.mono _ _ _ (λd k=>g _ k) h.2⟩⟩;rintro t s σ H Q I ⟨δ,r,⟨i,C,gs,hd⟩,h⟩
 have p:PE X (.ListComp M [⟨U,f,G,0⟩] e Y) (As X.A 1 caps (λσ H R=>∃ δ,bG X.K H σ δ/\ti δ λds=>∀J Z,aH H Z->D6 X.K J Z ds->J.u=true->R J Z) (cz 0) (mE (oT X.K tt)) (l_ (oE X.K W))):=F9 S T.pi hg (λC m l n=>fA (ht C m l n).Nw) (λC m l n=>gG (he C m l n).pe) hs
 obtain⟨v0,_,d0⟩:=r.get i _ hd
 cases d0 with
 | @exc _ _ j _ _ rd _ _ =>
  obtain⟨⟨E,vs,e1,_,_,e2,e3⟩,_⟩:=(show aO X.prog X.w H s.heap c (fK c C j) from rd.ok I.au)
  rcases rd with rd|⟨o,rd⟩
  ·have nf:∀o x,X.H₀ c≠some (.eu o x):=λo x q=>by
    have z:=I.base.dZ c o x q
    rw[rd] at z
    cases z
   have I':=I.G7 (v:=.eu E (fK c C j)) rd (λ_ q=>by cases q) (λ_ q=>by cases q) nf (λ_ q=>by cases q) ⟨e1,I.au c _ rd⟩
   have rf:=B9 (v:=.eu E (fK c C j)) rd λx _ h=>by
    rcases h with h|⟨o',h⟩
    ·exact .inr ⟨E,by rw[<- h]⟩
    ·cases h
   refine bg (p t s σ _ (λv H'=>H' c=some (.eu E (fK c C j))/\Q v (upd H' c (fK c C j))) I' (ud T.mono mt me (.inr ⟨c,E,_,vs,hA,aF,e2,e3⟩) (r.rd rf) h λO a ys ds F N B k=>?_)) fun u s1 ⟨v,H',I1,rv,L,q⟩=>⟨v,_,I1.G7 (v:=fK c C j) L (λ_ q=>by cases q) (λ_ q=>by cases q) nf (λ_ q=>by cases q) (I1.au c _ L).2,rv,q⟩
   have z0:O c=some (.eu E (fK c C j)):=N _ _ aF
   have na:c≠a:=aQ z0 F
   have L:upd O a (.lst ys) c=some (.eu E (fK c C j)):=by rw[aG na];exact z0
   refine⟨L,k (.ref a) _ (λb o hb=>?_) ((Dv.lst (cW.of aF) (B.same (aL F))).rd (B9 (v:=fK c C j) L λx hx h=>?_))⟩
   ·by_cases q:b=c
    ·subst q
     rw[rd] at hb
     cases hb
     exact aF
    ·have y:O b=some o:=N _ _ (by rw[aG q];exact hb)
     rw[aG q,aG (aQ y F)]
     exact y
   ·rcases h with h|⟨o',h⟩
    ·subst h
     exact absurd hx (by simp[HO.data])
    ·cases h
     exact .inl rfl
  ·have eo:=(I.au c _ rd).1
   rw[e1] at eo
   cases eo
   exact p t s σ H Q I (ud T.mono mt me (.inr ⟨c,_,_,vs,hA,rd,e2,e3⟩) r h λO a ys ds F N B k=>k (.ref a) _ (N.trans (aL F)) (.lst (cW.of aF) (B.same (aL F))))
end DC
namespace L2
def GH(a:List Value):Yv a.toArray none none (some (-1))=a.reverse.toArray:=by
 unfold Yv
 have e:sliceBounds none none (some (-1)) a.toArray.size=((a.length:Int) - 1,-1,-1):=by simp[sliceBounds]
 rw[e]
 congr 1
 have j:sliceRange ((a.length:Int) - 1) (-1) (-1)=(Ua a.length).map λk=>a.length - 1 - k:=by
  unfold sliceRange
  simp only[show¬(-1:Int) > 0 by decide,if_false]
  have c:(if(a.length:Int) - 1 > -1 then((a.length:Int) - 1 - -1 - -1 - 1) / (- -1) else 0).toNat=a.length:=by
   split
   ·rw[show(- -1:Int)=1 from rfl,aAM];omega
   ·omega
  rw[c]
  refine UY λk b=>?_
  have:=U7.mp b
  omega
 rw[j,UW]
 have m:∀l:List Nat,(∀k∈l,k<a.length)->l.filterMap ((λx=>a.toArray[x]?)∘λk=>a.length - 1 - k)=l.map λk=>a.reverse.getD k .none:=by
  intro l
  induction l with
  |nil=>intro _;rfl
  |cons k r f =>
   intro h
   have b:=h k N'
   rw[TM,<- f λx g=>h x (TR _ g),VH]
   simp only[Function.comp,Vw,Uo]
   rw[Wu b,F' (by omega)]
   rfl
 rw[m _ λk b=>U7.mp b]
 apply List.ext_getElem
 ·simp
 ·intro i h1 n
  simp[Uo,F' n]
def Rm(K:l')(f c:TE):TE:=λσ H Q=>f σ H λx g=>c σ g λy b=>y=.int (-1)/\∃a e,x=.ref a/\cW K b a e/\∀p,b p=none->Q (.ref p) (upd b p (.lst e.reverse))
def My{e st:Expr}(O:PE X e B)(j:PE X st i):PE X (.Subscript e (.Slice none none (some st) W) J) (Rm X.K B i):=by
 intro c s σ H Q I h
 refine YR (bg (O c s σ H _ I h) ?_);rintro v T ⟨x,L,u,n,N⟩
 refine wpAny_Slice (M:=model X.prog X.w) ?_
 rw[Yj]
 refine wpAny_pure (wpAny_pure ?_)
 rw[aAo]
 refine bg (j c T σ L _ u N) ?_;rintro P f ⟨y,S,p,A,C,a,G,z,E,q⟩
 subst C z
 obtain⟨t,rfl⟩:=(show ∃t,P=Vt (-1) t from A)
 obtain rfl:v=Td a:=n
 have g:Inv X c σ S { f with heap:=f.heap.push { cls:=.type "slice",data:=.fields #[.none,.none,.int (-1) t] }}:=p.kept (t':=f.toks) λb F q=>B' _ q
 obtain⟨R,r,m,U⟩:=g.list E
 have l:=r.length
 refine Za (ops:=[.ref a,.ref f.heap.objs.size]) m.isList.typeIs Xd.lookup (wpAny_getItem_list_slice m.isList (Xa ..) .none .none (.int (-1) t) (by simp) ?_ (by rw[Ti]<;>omega)) (by with_unfolding_all rfl)
 rw[GH]
 refine⟨.ref _,_,g.laid (t':=f.toks) (o:=.lst G.reverse) (λb F q=>B' _ q) (S' _) ?_,rfl,q _ (g.au.fresh (S' _))⟩
 exact⟨by rw[WB];exact U,_,0,r.reverse,TN _ rfl⟩
end L2
namespace DC
def bA.reverse{K:l'}:∀{b:List V} {c:List D},bA K H b c->bA K H b.reverse c.reverse
 |_,_,.nil=>.nil
 |_,_,.cons a r=>by
  rw[VS,VS]
  exact(bA.reverse r).append (.cons a .nil)
section
variable {X:Cx}{e st:Expr}{te ts:ED}{p2 pos:Pos}
def R6(c b:ED):ED:=λδ Q=>c δ λd=>b δ λy=>y=.int (-1)/\∃a,d=.lst a/\Q (.lst a.reverse)
def OK(f:PD X e te)(i:PD X st ts):PD X (.Subscript e (.Slice none none (some st) p2) pos) (R6 te ts):=by
 refine⟨(My f.pe i.pe).imp fun σ H Q ⟨δ,r,h⟩=>⟨δ,r,f.mono _ _ _ (λd q v x n dv=>⟨δ,r.same n,i.mono _ _ _ (fun y ⟨b,l,a,k⟩ u w m o=>?_) q⟩) h⟩,
  λδ P z g h=>f.mono _ _ _ (λd q=>i.mono _ _ _ (fun y ⟨b,l,a,q⟩=>⟨b,l,a,g _ q⟩) q) h⟩
 subst b a
 cases o
 have c:=dv.same m
 cases c with
 |lst s t=>exact⟨rfl,_,_,rfl,s,λp j=>k _ _ (n.trans (m.trans (aL j))) (.lst (cW.of aF) (t.reverse.same (aL j)))⟩
variable {lo hi:Option Expr}{tl th:OD}
def Qx(f:ED)(c h:OD):EF:=λδ Q=>f δ λd=>c δ λlo=>h δ λg=>∃b,d=.lst b/\∀a,Q (.adr a) [(a,.lst (cutD b lo g))]
def IE(n:PD X e te)(c:Nl X lo tl)(p:Nl X b th):PF X (.Subscript e (.Slice lo b none p2) pos) (Qx te tl th):=by
 refine⟨(y_ CJ n.pe c.po p.po).imp fun σ H Q ⟨δ,r,h⟩=>⟨δ,r,n.mono _ _ _ (λd f v z m dv=>⟨δ,r.same m,c.mono _ _ _ (λlo i y o=>⟨δ,r.same (m.trans o),p.mono _ _ _ (fun b ⟨t,j,k⟩ x u=>?_) i⟩) f⟩) h⟩,
  λδ P A g h=>n.mono _ _ _ (λd f=>c.mono _ _ _ (λlo i=>p.mono _ _ _ (fun b ⟨t,j,k⟩=>⟨t,j,λa=>g _ _ (k a)⟩) i) f) h⟩
 subst j
 have s:=dv.same (o.trans u)
 cases s with
 |lst f i =>
  refine⟨_,_,rfl,f,λl c=>?_⟩
  obtain⟨g2,w⟩:=(fG.nil (K:=X.K) (H:=x)).Fm c (ds:=cutD t lo b) (by rw[bO];exact i.cut lo b)
  exact k l (.ref l) _ [l] (by rw[w,bO];exact m.trans (o.trans u)) g2 (.adr l)
end
end DC
namespace K44
open PySem PySem.Spec PyProof.Rows L2 DC
def iP13:(0:Int)<13:=by decide
def iP2:(0:Int)<2:=by decide
def iP2147483399:(0:Int)<2147483399:=by decide
def iP2147483647:(0:Int)<2147483647:=by decide
def iP3:(0:Int)<3:=by decide
def iP5:(0:Int)<5:=by decide
def iP6:(0:Int)<6:=by decide
def iP7:(0:Int)<7:=by decide
def zL0:0<=sizeLine:=by decide
def zL1:1<=sizeLine:=by decide
def zL11:11<=sizeLine:=by decide
def zL12:12<=sizeLine:=by decide
def zL2:2<=sizeLine:=by decide
def zL3:3<=sizeLine:=by decide
def zL4:4<=sizeLine:=by decide
def zL6:6<=sizeLine:=by decide
def zL8:8<=sizeLine:=by decide
def top(i:Nat):Stmt:=Zu.main.body.getD i (.Pass ⟨0,0,0,0⟩)
def bN:Stmt->List Stmt
 |.ClassDef _ _ _ b _ _ _ _ _ _ _=>b
 |_=>[]
def cO{N P:List Str}{sc:Scope}(a:autoParam (sc.kind=.function) dI)(b:autoParam (sc.isCoroutine=false) dI)(c:autoParam (sc.isGenerator=false) dI)(d:autoParam (N.Nodup) f6)(e:autoParam (N.take P.length=P) dI)
  (f:autoParam (∀x∈P,sc.names.lookup x=some .local\/sc.names.lookup x=some .cell) f6)(g:autoParam (∀y∈sc.names,y.2≠.free) f6):aD N P sc:=⟨a,b,c,d,e,f,g⟩
abbrev iW:Stmt:=top 21
def l6:aD ["text"] ["text"] (aB iW):=cO
abbrev fc:Stmt:=top 22
def jF:aD ["text"] ["text"] (aB fc):=cO
abbrev qA:Stmt:=top 23
def su:aD ["thing"] ["thing"] (aB qA):=cO
abbrev p_:Stmt:=top 24
def sr:aD ["thing","words"] ["thing"] (aB p_):=cO
abbrev lq:Stmt:=top 25
def o5:aD ["thing"] ["thing"] (aB lq):=cO
abbrev nQ:Stmt:=top 26
def qZ:aD ["thing"] ["thing"] (aB nQ):=cO
abbrev lu:Stmt:=top 32
def o6:aD ["name"] ["name"] (aB lu):=cO
abbrev Ax:Stmt:=top 33
def CA:aD ["lists","found","names","name"] ["lists"] (aB Ax):=cO
abbrev kh:Stmt:=top 44
def m8:aD ["holds","words"] ["holds","words"] (aB kh):=cO
abbrev l0:Stmt:=top 45
def o9:aD ["word"] ["word"] (aB l0):=cO
abbrev qB:Stmt:=top 46
def s_:aD ["on"] ["on"] (aB qB):=cO
abbrev ff:Stmt:=top 47
def jG:aD ["kind"] ["kind"] (aB ff):=cO
abbrev wq:Stmt:=top 48
abbrev iY:Stmt:=top 52
def l9:aD ["sheet"] ["sheet"] (aB iY):=cO
abbrev lx:Stmt:=top 53
def o7:aD ["names","words"] ["names","words"] (aB lx):=cO
abbrev eV:Stmt:=top 54
def gy:aD ["line","names","part"] ["line"] (aB eV):=cO
abbrev kg:Stmt:=top 55
def m7:aD ["sheet","found","wanted","line","name"] ["sheet","found"] (aB kg):=cO
abbrev nR:Stmt:=top 56
def qa:aD ["sheet","found","line","passed","on"] ["sheet","found"] (aB nR):=cO
abbrev lz:Stmt:=top 57
def o8:aD ["sheet","line"] ["sheet"] (aB lz):=cO
abbrev nS:Stmt:=top 59
def qb:aD ["sheet","needs","line"] ["sheet"] (aB nS):=cO
abbrev ka:Stmt:=top 60
def m5:aD ["line","needs","part"] ["line"] (aB ka):=cO
abbrev wt:Stmt:=top 62
def zE:aD ["sheet","needs","ordered","left","ready"] ["sheet"] (aB wt):=cO
abbrev kZ:Stmt:=top 63
def m4:aD ["names","others"] ["names","others"] (aB kZ):=cO
abbrev qC:Stmt:=top 64
def tE:aD ["needs","left","passed","name"] ["needs","left"] (aB qC):=cO
abbrev l4:Stmt:=top 65
def o_:aD ["sheet","names","pairs","name","need"] ["sheet","names"] (aB l4):=cO
abbrev gf:Stmt:=top 66
def lC:aD ["line","need","part"] ["line","need"] (aB gf):=cO
abbrev nU:Stmt:=top 67
def qc:aD ["part","need","place","at"] ["part","need"] (aB nU):=cO
abbrev nP:Stmt:=top 68
def qY:aD ["sheet","names","needs","passed","name"] ["sheet","names"] (aB nP):=cO
abbrev kb:Stmt:=top 70
def m6:aD ["first"] ["first"] (aB kb):=cO
abbrev lj:Stmt:=top 78
def o4:aD ["told"] ["told"] (aB lj):=cO
abbrev nV:Stmt:=top 79
def qd:aD ["told","inner","word"] ["told","inner"] (aB nV):=cO
abbrev nW:Stmt:=top 80
def qe:aD ["told","inner","word"] ["told","inner"] (aB nW):=cO
abbrev iX:Stmt:=top 81
def l7:aD ["told"] ["told"] (aB iX):=cO
abbrev mQ:Stmt:=top 82
def tD:aD ["told","inner"] ["told"] (aB mQ):=cO
abbrev lg:Stmt:=top 84
def oz:aD ["_law_script","_law_k"] ["_law_script","_law_k"] (aB lg):=cO
abbrev kW:Stmt:=top 85
def mx:aD ["_law_cell_here","_law_k","_law_mix"] ["_law_cell_here","_law_k"] (aB kW):=cO
abbrev kY:Stmt:=top 86
def my:aD ["_law_cell_here","_law_style","_law_size","_law_spot","_law_word"] ["_law_cell_here"] (aB kY):=cO
abbrev kQ:Stmt:=top 87
def mr:aD ["_law_told"] ["_law_told"] (aB kQ):=cO
abbrev gB:Stmt:=top 89
def mz:aD ["_law_told","_law_name","_law_place","_law_found","_law_k","_law_part"] ["_law_told","_law_name","_law_place"] (aB gB):=cO
abbrev lh:Stmt:=top 90
def o3:aD ["_law_ons","_law_lines","_law_pair","_law_need","_law_spots_here","_law_line","_law_name","_law_place"] ["_law_ons","_law_lines","_law_pair","_law_need"] (aB lh):=cO
abbrev gb:Stmt:=top 91
def lA:aD ["_law_ring","_law_ons","_law_lines","_law_names_here"] ["_law_ring","_law_ons","_law_lines"] (aB gb):=cO
abbrev kU:Stmt:=top 92
def mw:aD ["_law_e","_law_marks_here"] ["_law_e"] (aB kU):=cO
abbrev gc:Stmt:=top 93
def lB:aD ["_law_name","_law_cell_here","_law_other","_law_way","_law_told","_law_k","_law_before","_law_some"] ["_law_name","_law_cell_here","_law_other"] (aB gc):=cO
abbrev eT:Stmt:=top 94
def gv:aD ["_law_names_here","_law_size","_law_cell_here","_law_script","_law_ring","_law_on_at","_law_lines","_law_k","_law_name","_law_seed","_law_on","_law_told","_law_need"] ["_law_names_here","_law_size","_law_cell_here","_law_script"] (aB eT):=cO
abbrev eU:Stmt:=top 95
def gw:aD ["_law_sheet","_law_ring","_law_ons","_law_lines","_law_e"] ["_law_sheet","_law_ring","_law_ons","_law_lines"] (aB eU):=cO
abbrev lr:Stmt:=top 96
def Gf:aD ["_law_script","_law_names_here","_law_size","_law_ons","_law_name","_law_line","_law_rows","_law_sheet","_law_ring","_law_lines"] ["_law_script"] (aB lr):=cO
abbrev fW:Stmt:=(bN (top 9)).getD 0 (.Pass ⟨0,0,0,0⟩)
def qE:aD ["self","ring"] ["self","ring"] (aB fW):=cO
abbrev cV:Stmt:=(bN (top 34)).getD 0 (.Pass ⟨0,0,0,0⟩)
def fJ:aD ["self"] ["self"] (aB cV):=cO
abbrev aN:Stmt:=(bN (top 34)).getD 1 (.Pass ⟨0,0,0,0⟩)
def ag:aD ["self"] ["self"] (aB aN):=cO
abbrev bP:Stmt:=(bN (top 34)).getD 2 (.Pass ⟨0,0,0,0⟩)
def oy:aD ["self"] ["self"] (aB bP):=cO
abbrev bD:Stmt:=(bN (top 34)).getD 3 (.Pass ⟨0,0,0,0⟩)
def mj:aD ["self"] ["self"] (aB bD):=cO
abbrev aX:Stmt:=(bN (top 34)).getD 4 (.Pass ⟨0,0,0,0⟩)
def fj:aD ["self"] ["self"] (aB aX):=cO
abbrev bE:Stmt:=(bN (top 34)).getD 5 (.Pass ⟨0,0,0,0⟩)
def ml:aD ["self"] ["self"] (aB bE):=cO
abbrev bX:Stmt:=(bN (top 34)).getD 6 (.Pass ⟨0,0,0,0⟩)
def mm:aD ["self"] ["self"] (aB bX):=cO
abbrev fB:Stmt:=(bN (top 35)).getD 0 (.Pass ⟨0,0,0,0⟩)
def iE:aD ["self","value"] ["self","value"] (aB fB):=cO
abbrev fD:Stmt:=(bN (top 36)).getD 0 (.Pass ⟨0,0,0,0⟩)
def iH:aD ["self","name"] ["self","name"] (aB fD):=cO
abbrev cu:Stmt:=(bN (top 36)).getD 1 (.Pass ⟨0,0,0,0⟩)
def gq:aD ["self"] ["self"] (aB cu):=cO
abbrev eP:Stmt:=(bN (top 37)).getD 0 (.Pass ⟨0,0,0,0⟩)
def gu:aD ["self","part"] ["self","part"] (aB eP):=cO
abbrev eQ:Stmt:=(bN (top 37)).getD 1 (.Pass ⟨0,0,0,0⟩)
def k_:aD ["self"] ["self"] (aB eQ):=cO
abbrev fV:Stmt:=(bN (top 38)).getD 0 (.Pass ⟨0,0,0,0⟩)
def jA:aD ["self","sign","one","other"] ["self","sign","one","other"] (aB fV):=cO
abbrev f_:Stmt:=(bN (top 38)).getD 1 (.Pass ⟨0,0,0,0⟩)
def mf:aD ["self"] ["self"] (aB f_):=cO
abbrev eI:Stmt:=(bN (top 39)).getD 0 (.Pass ⟨0,0,0,0⟩)
def gi:aD ["self","truth","one","other"] ["self","truth","one","other"] (aB eI):=cO
abbrev eJ:Stmt:=(bN (top 39)).getD 1 (.Pass ⟨0,0,0,0⟩)
def kx:aD ["self"] ["self"] (aB eJ):=cO
abbrev dM:Stmt:=(bN (top 49)).getD 0 (.Pass ⟨0,0,0,0⟩)
def iG:aD ["self","name","kind","on"] ["self","name","kind","on"] (aB dM):=cO
abbrev eL:Stmt:=(bN (top 49)).getD 1 (.Pass ⟨0,0,0,0⟩)
def gm:aD ["self"] ["self"] (aB eL):=cO
abbrev eM:Stmt:=(bN (top 49)).getD 2 (.Pass ⟨0,0,0,0⟩)
def gp:aD ["self"] ["self"] (aB eM):=cO
abbrev eK:Stmt:=(bN (top 49)).getD 3 (.Pass ⟨0,0,0,0⟩)
def gj:aD ["self"] ["self"] (aB eK):=cO
abbrev eN:Stmt:=(bN (top 50)).getD 0 (.Pass ⟨0,0,0,0⟩)
def kz:aD ["self","name","kind","part","on"] ["self","name","kind","part","on"] (aB eN):=cO
abbrev fY:Stmt:=(bN (top 50)).getD 1 (.Pass ⟨0,0,0,0⟩)
def jC:aD ["self"] ["self"] (aB fY):=cO
abbrev fZ:Stmt:=(bN (top 50)).getD 2 (.Pass ⟨0,0,0,0⟩)
def jD:aD ["self"] ["self"] (aB fZ):=cO
abbrev fX:Stmt:=(bN (top 50)).getD 3 (.Pass ⟨0,0,0,0⟩)
def jB:aD ["self"] ["self"] (aB fX):=cO
abbrev fE:Stmt:=(bN (top 51)).getD 0 (.Pass ⟨0,0,0,0⟩)
def iI:aD ["self","name","inputs","outputs","lines","found"] ["self","name","inputs","outputs","lines"] (aB fE):=cO
abbrev eO:Stmt:=(bN (top 51)).getD 1 (.Pass ⟨0,0,0,0⟩)
def gr:aD ["self"] ["self"] (aB eO):=cO
abbrev iV:Stmt:=(bN (top 51)).getD 2 (.Pass ⟨0,0,0,0⟩)
def l5:aD ["self","found","line"] ["self"] (aB iV):=cO
abbrev ck:Stmt:=(bN (top 51)).getD 3 (.Pass ⟨0,0,0,0⟩)
def eW:aD ["self","found","line","name"] ["self"] (aB ck):=cO
abbrev kP:Stmt:=(bN (top 51)).getD 4 (.Pass ⟨0,0,0,0⟩)
def mn:aD ["self","name"] ["self","name"] (aB kP):=cO
abbrev cq:Stmt:=(bN (top 72)).getD 0 (.Pass ⟨0,0,0,0⟩)
def gh:aD ["self","part","first"] ["self","part","first"] (aB cq):=cO
abbrev eF:Stmt:=(bN (top 72)).getD 1 (.Pass ⟨0,0,0,0⟩)
def kr:aD ["self"] ["self"] (aB eF):=cO
abbrev eG:Stmt:=(bN (top 72)).getD 2 (.Pass ⟨0,0,0,0⟩)
def ku:aD ["self"] ["self"] (aB eG):=cO
abbrev gZ:Stmt:=(bN (top 73)).getD 0 (.Pass ⟨0,0,0,0⟩)
def ky:aD ["self","head","rest"] ["self","head","rest"] (aB gZ):=cO
abbrev iD:Stmt:=(bN (top 73)).getD 1 (.Pass ⟨0,0,0,0⟩)
def ou:aD ["self"] ["self"] (aB iD):=cO
abbrev fb:Stmt:=(bN (top 74)).getD 0 (.Pass ⟨0,0,0,0⟩)
def jE:aD ["self","part","name"] ["self","part","name"] (aB fb):=cO
abbrev gA:Stmt:=(bN (top 74)).getD 1 (.Pass ⟨0,0,0,0⟩)
def mq:aD ["self"] ["self"] (aB gA):=cO
abbrev dN:Stmt:=(bN (top 74)).getD 2 (.Pass ⟨0,0,0,0⟩)
def iJ:aD ["self"] ["self"] (aB dN):=cO
abbrev dY:Stmt:=(bN (top 75)).getD 0 (.Pass ⟨0,0,0,0⟩)
def i_:aD ["self","part","name","first"] ["self","part","name","first"] (aB dY):=cO
abbrev f9:Stmt:=(bN (top 75)).getD 1 (.Pass ⟨0,0,0,0⟩)
def md:aD ["self"] ["self"] (aB f9):=cO
abbrev dJ:Stmt:=(bN (top 75)).getD 2 (.Pass ⟨0,0,0,0⟩)
def iF:aD ["self"] ["self"] (aB dJ):=cO
inductive Pt where
 |given (v:D)|named (n:Str)|turned (p:Pt)|pair (g:Str) (a b:Pt)|choice (t a b:Pt)
 |before (p:Pt) (f:D)|led (h r:Pt)|cv (p:Pt) (n:Str)|held (p:Pt) (n:Str) (f:D)
structure bC where
 given:Addr
 named:Addr
 turned:Addr
 pair:Addr
 choice:Addr
 before:Addr
 led:Addr
 cv:Addr
 held:Addr
def Pt.cls(A:bC):Pt->Addr
 |.given _=>A.given|.named _=>A.named|.turned _=>A.turned|.pair _ _ _=>A.pair|.choice _ _ _=>A.choice
 |.before _ _=>A.before|.led _ _=>A.led|.cv _ _=>A.cv|.held _ _ _=>A.held
def Pt.d(A:bC):Pt->D
 |.given v=>.obj A.given [("value",v)]
 |.named n=>.obj A.named [("name",.str n)]
 |.turned p=>.obj A.turned [("part",p.d A)]
 |.pair g a b=>.obj A.pair [("sign",.str g),("one",a.d A),("other",b.d A)]
 |.choice t a b=>.obj A.choice [("truth",t.d A),("one",a.d A),("other",b.d A)]
 |.before p f=>.obj A.before [("part",p.d A),("first",f)]
 |.led h r=>.obj A.led [("head",h.d A),("rest",r.d A)]
 |.cv p n=>.obj A.cv [("part",p.d A),("name",.str n)]
 |.held p n f=>.obj A.held [("part",p.d A),("name",.str n),("first",f)]
def Pt.depth:Pt->Nat
 |.given _=>1|.named _=>1|.turned p=>p.depth+1|.pair _ a b=>max a.depth b.depth+1|.choice t a b=>max t.depth (max a.depth b.depth)+1
 |.before p _=>p.depth+1|.led h r=>max h.depth r.depth+1|.cv p _=>p.depth+1|.held p _ _=>p.depth+1
def Pt.inner:Pt->List Pt
 |.given _=>[]|.named _=>[]|.turned p=>[p]|.pair _ a b=>[a,b]|.choice t a b=>[t,a,b]
 |.before p _=>[p]|.led h r=>[h,r]|.cv p _=>[p]|.held p _ _=>[p]
def Pt.told:Pt->D
 |.given v=>.tup [.str "given",v]
 |.named n=>.tup [.str "named",.str n]
 |.turned p=>.tup [.str "not",p.told]
 |.pair g a b=>.tup [.str g,a.told,b.told]
 |.choice t a b=>.tup [.str "if",t.told,a.told,b.told]
 |.before p f=>.tup [.str "before",p.told,f]
 |.led h r=>.tup [.str "then",h.told,r.told]
 |.cv p n=>.tup [.str "when",p.told,.str n]
 |.held p n f=>.tup [.str "held",p.told,.str n,f]
structure hV (K:l') (A:bC):Prop where
 nd:[A.given,A.named,A.turned,A.pair,A.choice,A.before,A.led,A.cv,A.held].Nodup
 cl:∀C∈[A.given,A.named,A.turned,A.pair,A.choice,A.before,A.led,A.cv,A.held],tY K C
 ia:∀C∈[A.given,A.named,A.turned,A.pair,A.choice,A.before,A.led,A.cv,A.held],∀f∈(["value","name","part","sign","one","other","truth","first","head","rest"]:List Str),dP K C f
def Pt.aW(A:bC)(p:Pt):p.cls A∈[A.given,A.named,A.turned,A.pair,A.choice,A.before,A.led,A.cv,A.held]:=by cases p<;>simp[Pt.cls]
def Pt.ix:Pt->Nat
 |.given _=>0|.named _=>1|.turned _=>2|.pair _ _ _=>3|.choice _ _ _=>4|.before _ _=>5|.led _ _=>6|.cv _ _=>7|.held _ _ _=>8
def Pt.at_(A:bC)(p:Pt):[A.given,A.named,A.turned,A.pair,A.choice,A.before,A.led,A.cv,A.held][p.ix]?=some (p.cls A):=by cases p<;>rfl
def eE{α:Type}:∀{l:List α} {i j:Nat} {x:α},l.Nodup->l[i]?=some x->l[j]?=some x->i=j:=fun{l i j x} c a b=>by
 have e:i<l.length:=(Te.mp a).1
 exact(XI e c).mp (a.trans b.symm)
def jU{K:l'}{p q:Pt}(a:hV K A)(h:p.cls A=q.cls A):p.ix=q.ix:=eE a.nd (p.at_ A) (by rw[h];exact q.at_ A)
def yL{K:l'}{p:Pt}(a:hV K A)(h:p.cls A=A.given):∃v,p=.given v:=by
 have i:=jU a (q:=.given .ae) h
 cases p with
 |given v=>exact⟨v,rfl⟩
 |_=>exact absurd i (by simp only[Pt.ix];decide)
def yM{K:l'}{p:Pt}(a:hV K A)(h:p.cls A=A.named):∃n,p=.named n:=by
 have i:=jU a (q:=.named "") h
 cases p with
 |named n=>exact⟨n,rfl⟩
 |_=>exact absurd i (by simp only[Pt.ix];decide)
def uk{K:l'}{p:Pt}(a:hV K A)(h:p.cls A=A.turned):∃x,p=.turned x:=by
 have i:=jU a (q:=.turned (.given .ae)) h
 cases p with
 |turned x=>exact⟨x,rfl⟩
 |_=>exact absurd i (by simp only[Pt.ix];decide)
def Bl{K:l'}{p:Pt}(a:hV K A)(h:p.cls A=A.pair):∃g x y,p=.pair g x y:=by
 have i:=jU a (q:=.pair "" (.given .ae) (.given .ae)) h
 cases p with
 |pair g x y=>exact⟨g,x,y,rfl⟩
 |_=>exact absurd i (by simp only[Pt.ix];decide)
def uj{K:l'}{p:Pt}(a:hV K A)(h:p.cls A=A.choice):∃t x y,p=.choice t x y:=by
 have i:=jU a (q:=.choice (.given .ae) (.given .ae) (.given .ae)) h
 cases p with
 |choice t x y=>exact⟨t,x,y,rfl⟩
 |_=>exact absurd i (by simp only[Pt.ix];decide)
def pV{K:l'}{p:Pt}(a:hV K A)(h:p.cls A=A.before):∃x f,p=.before x f:=by
 have i:=jU a (q:=.before (.given .ae) .ae) h
 cases p with
 |before x f=>exact⟨x,f,rfl⟩
 |_=>exact absurd i (by simp only[Pt.ix];decide)
def FG{K:l'}{p:Pt}(a:hV K A)(h:p.cls A=A.led):∃x y,p=.led x y:=by
 have i:=jU a (q:=.led (.given .ae) (.given .ae)) h
 cases p with
 |led x y=>exact⟨x,y,rfl⟩
 |_=>exact absurd i (by simp only[Pt.ix];decide)
def FH{K:l'}{p:Pt}(a:hV K A)(h:p.cls A=A.cv):∃x n,p=.cv x n:=by
 have i:=jU a (q:=.cv (.given .ae) "") h
 cases p with
 |cv x n=>exact⟨x,n,rfl⟩
 |_=>exact absurd i (by simp only[Pt.ix];decide)
def Bk{K:l'}{p:Pt}(a:hV K A)(h:p.cls A=A.held):∃x n f,p=.held x n f:=by
 have i:=jU a (q:=.held (.given .ae) "" .ae) h
 cases p with
 |held x n f=>exact⟨x,n,f,rfl⟩
 |_=>exact absurd i (by simp only[Pt.ix];decide)
def tH(A:bC)(n:Nat)(g:Pt->D)(C:Addr):cI:=λds Q=>∃p:Pt,ds=[p.d A]/\p.cls A=C/\p.depth<=n/\Q (g p)
def uG :cN (tH A n g C):=fun a P b f ⟨p,e,c,h,q⟩=>⟨p,e,c,h,f _ q⟩
def ur(a:List D)(Q:D->Prop)(h:tH A n g C a Q):a.length=1:=by obtain⟨p,e,_⟩:=h;rw[e];rfl
def xK(A:bC)(C:Addr):Prop:=∃p:Pt,p.cls A=C
def yk(m:Str):Prop:=∀f∈(["value","name","part","sign","one","other","truth","first","head","rest"]:List Str),(m == f)=false
def rA(A:bC)(h:yk m)(p:Pt):∃a,p.d A=.obj (p.cls A) a/\a.lookup m=none:=by
 have l:∀{f:Str} {d:D} {r:List (Str × D)},f∈(["value","name","part","sign","one","other","truth","first","head","rest"]:List Str)->r.lookup m=none->((f,d)::r).lookup m=none:=λb c=>by
  rw[Tx,h _ b]
  exact c
 cases p<;>refine⟨_,rfl,?_⟩<;>repeat (first|rfl|refine l (by decide) ?_)
def bF{K:l'}(h:δ[i]?=some (some (.obj C a)))(c:tY K C)(n:dP K C f)(l:a.lookup f=some r)(q:Q r):Nf K (qL i) f δ Q:=⟨_,h,C,a,r,rfl,c,n,l,q⟩
def cT(mt:bK a)(c:yk m)(h:a δ λd=>d=p.d A)(j:p.depth<=n)(q:Q (g p)) :
  m_ (xK A) m (tH A n g) [] a vn δ Q:=mt _ _ _ (λd e=>by
 obtain⟨f,b,i⟩:=rA A c p
 exact⟨p.cls A,f,e.trans b,i,⟨p,rfl⟩,p,by rw[UD,e],rfl,j,q⟩) h
def gE:yk "inner":=by unfold yk;decide +kernel
def isVal(d:D):Prop:=(∃b,d=.bl b)\/∃i:Int,d=.int i/\-128<=i/\i<=127
def fu(d:D):Prop:=d=.ae\/isVal d
def Qa(A:bC)(n:Nat)(ok:Pt->Prop)(g:Pt->D)(C:Addr):cI:=λds Q=>∃p:Pt,ds=[p.d A]/\p.cls A=C/\p.depth<=n/\ok p/\Q (g p)
def RC :cN (Qa A n ok g C):=fun a P b f ⟨p,e,c,h,o,q⟩=>⟨p,e,c,h,o,f _ q⟩
def Su(a:List D)(Q:D->Prop)(h:Qa A n ok g C a Q):a.length=1:=by obtain⟨p,e,_⟩:=h;rw[e];rfl
def cS(mt:bK a)(f:yk m)(h:a δ λd=>d=p.d A)(l:p.depth<=n)(b:ok p)(q:Q (g p)) :
  m_ (xK A) m (Qa A n ok g) [] a vn δ Q:=mt _ _ _ (λd e=>by
 obtain⟨i,c,j⟩:=rA A f p
 exact⟨p.cls A,i,e.trans c,j,⟨p,rfl⟩,p,by rw[UD,e],rfl,l,b,q⟩) h
abbrev MQ(P:TV)(w:World)(K:l')(mg:Str->Option Value)(base:Heap)(A:bC)(j:Nat)(m:Str)(n:Nat)(ok:Pt->Prop)(g:Pt->D):Prop:=∀C,xK A C->bw P w K mg base j C m (Qa A n ok g C) []
section
seal wpAny
variable {P:TV}{w:World}{K:l'}{mg:Str->Option Value}{base:Heap}{A:bC}{n j:Nat}
abbrev MP(P:TV)(w:World)(K:l')(b:Str->Option Value)(a:Heap)(A:bC)(j:Nat)(m:Str)(n:Nat)(g:Pt->D):Prop:=∀C,xK A C->bw P w K b a j C m (tH A n g C) []
def Pt.gD(p:Pt):0<p.depth:=by cases p<;>simp only[Pt.depth]<;>omega
def Dm.never{st:Stmt}(d:Dm K C m a st o)(r:cN g)(h:∀e Q,¬g e Q):bw P w K mg base j C m g []:=by
 obtain⟨f,t,F,M,c,b⟩:=d.ex
 exact⟨⟨f,t,o,[],[],c,M,⟨fun p H Q E ⟨e,_,q⟩=>(h _ _ q).elim,fun A i s H l u p Q E _ _ _ _ ⟨e,_,q⟩=>(h _ _ q).elim⟩,b,.nil,λ_=>.nil⟩,r⟩
def Ni(a:List D)(Q:D->Prop):¬ tH A 0 g C a Q:=fun⟨p,_,_,h,_⟩=>absurd p.gD (by omega)
mutual
def Pt.size:Pt->Nat
 |.given _=>1|.named _=>1|.turned p=>p.size+1|.pair _ a b=>a.size+b.size+1|.choice t a b=>t.size+a.size+b.size+1
 |.before p _=>p.size+1|.led h r=>h.size+r.size+1|.cv p _=>p.size+1|.held p _ _=>p.size+1
end
def Pt.size_inner(p:Pt):(p.size:Int)=1+(p.inner.map λq=>(q.size:Int)).sum:=by
 cases p<;>simp only[Pt.size,Pt.inner,TM,T',T3,UJ]<;>omega
def Pt.xm(p:Pt):(p.depth:Int)=1+uH 0 (p.inner.map λq=>(q.depth:Int)):=by
 cases p<;>simp only[Pt.depth,Pt.inner,TM,T',uH,V9,List.foldl_nil]<;>omega
def Pt.c_{p q:Pt}(h:q∈p.inner)(a:p.depth<=n+1):q.depth<=n:=by
 cases p<;>simp only[Pt.inner,Pt.depth,Gc,Tt,or_false] at h a
 case turned=>subst h;omega
 case pair=>rcases h with rfl|rfl<;>omega
 case choice=>rcases h with rfl|rfl|rfl<;>omega
 case before=>subst h;omega
 case led=>rcases h with rfl|rfl<;>omega
 case cv=>subst h;omega
 case held=>subst h;omega
def Pt.cf(p:Pt):p.inner.length<=3:=by cases p<;>simp[Pt.inner]
def da(A:bC)(p:Pt):D:=.tup (p.inner.map (Pt.d A))
def yl:yk "size":=by unfold yk;decide +kernel
def u_:yk "depth":=by unfold yk;decide +kernel
def bW :bK (qL i):=fun δ P b f ⟨d,a,k⟩=>⟨d,a,f d k⟩
def oQ{g:Pt->D}{b:List Pt}{i:Nat}(a:(b.map (Pt.d A))[i]?=some d)(c:(b.map λq=>some (g q))[i]?=some o):∃q∈b,q.d A=d/\some (g q)=o:=by
 rw[TX] at a c
 cases e:b[i]? with
 |none=>rw[e] at a;cases a
 |some q =>
  rw[e] at a c
  exact⟨q,K' e,by simpa using a,by simpa using c⟩
def filterMap_some{α β:Type}(f:α->β):∀l:List α,l.filterMap (id∘λq=>some (f q))=l.map f
 |[]=>rfl
 |a::l=>by rw[TM,<- filterMap_some f l];rfl
def size_of(d:∀C,xK A C->Dm K C "size" "Part.size" bP ["self"])(c:mg "sum"=none)(a:MP P w K mg base A j "inner" (n+1) (da A))(b:MP P w K mg base A j "size" n λp=>.int p.size):MP P w K mg base A (j+1) "size" (n+1) λp=>.int p.size:=by
 intro C F
 refine(d C F).d7 oy uG ur (λf z A g s H E e=>have L:=e.units;have y:=e.hd;have N:=oy
  (aE (aP (bz aI (OM y (by rfl) c (aA (n_ (x:="part") (caps:=[]) (cn:=[]) (cl:=[]) (h_ (by rfl) (by rfl) (by decide +kernel) (by decide +kernel) (by decide +kernel)) rfl (cF (cj a e (by omega) (dv 0))) (λC t m v=>az (i:=0) (show(["part"]:List Str).Nodup by decide +kernel) rfl (TQ rfl) (.inr rfl)) (λC t m v=>cm) (λC t m v=>(cj b e (by omega) (dv 0)))) aC)))))) ?_
 rintro M Q ⟨p,rfl,J,u,q⟩
 refine cT bW gE ⟨_,rfl,rfl⟩ u ?_
 refine⟨p.inner.map (Pt.d A),rfl,p.inner.map λq=>some (.int q.size),by simp,λi d o h G=>?_,?_,?_⟩
 ·obtain⟨r,e,I,B⟩:=oQ h G
  subst I B
  exact⟨rfl,λ_=>cT bW yl ⟨_,rfl,rfl⟩ (p.c_ e u) rfl⟩
 ·rw[tz];exact Tc p.cf (by decide)
 ·refine⟨p.inner.map λq=>(q.size:Int),?_,?_⟩
  ·rw[UW,UG]
   congr 2
   exact filterMap_some _ _
  ·have l:Q (.int (p.size:Int)):=q
   rw[Pt.size_inner] at l
   exact l
def Em(d:∀C,xK A C->Dm K C "depth" "Part.depth" bD ["self"])(c:mg "max"=none)(a:MP P w K mg base A j "inner" (n+1) (da A))(b:MP P w K mg base A j "depth" n λp=>.int p.depth):MP P w K mg base A (j+1) "depth" (n+1) λp=>.int p.depth:=by
 intro C F
 refine(d C F).d7 mj uG ur (λf z A g s H E e=>have L:=e.units;have y:=e.hd;have N:=mj
  (aE (aP (bz aI (Lf y (by rfl) c (n_ (x:="part") (caps:=[]) (cn:=[]) (cl:=[]) (h_ (by rfl) (by rfl) (by decide +kernel) (by decide +kernel) (by decide +kernel)) rfl (cF (cj a e (by omega) (dv 0))) (λC t m v=>az (i:=0) (show(["part"]:List Str).Nodup by decide +kernel) rfl (TQ rfl) (.inr rfl)) (λC t m v=>cm) (λC t m v=>(cj b e (by omega) (dv 0)))) aI))))) ?_
 rintro M Q ⟨p,rfl,J,u,q⟩
 refine cT bW gE ⟨_,rfl,rfl⟩ u ?_
 refine⟨p.inner.map (Pt.d A),rfl,p.inner.map λq=>some (.int q.depth),by simp,λi d o h G=>?_,?_,?_⟩
 ·obtain⟨r,e,I,B⟩:=oQ h G
  subst I B
  exact⟨rfl,λ_=>cT bW u_ ⟨_,rfl,rfl⟩ (p.c_ e u) rfl⟩
 ·rw[tz];exact Tc p.cf (by decide)
 ·refine⟨p.inner.map λq=>(q.depth:Int),0,?_,rfl,?_⟩
  ·rw[UW,UG]
   congr 1
   exact filterMap_some _ _
  ·have l:Q (.int (p.depth:Int)):=q
   rw[Pt.xm] at l
   exact l
def Pt.wD{p q:Pt}(h:q∈p.inner):q.size<=p.size:=by
 cases p<;>simp only[Pt.inner,Pt.size,Gc,Tt,or_false] at h ⊢
 case turned=>subst h;omega
 case pair=>rcases h with rfl|rfl<;>omega
 case choice=>rcases h with rfl|rfl|rfl<;>omega
 case before=>subst h;omega
 case led=>rcases h with rfl|rfl<;>omega
 case cv=>subst h;omega
 case held=>subst h;omega
structure pK (K:l') (A:bC):Prop where
 given:Dm K A.given "inner" "Part.inner" cV ["self"]
 named:Dm K A.named "inner" "Part.inner" cV ["self"]
 turned:Dm K A.turned "inner" "Turned.inner" eQ ["self"]
 pair:Dm K A.pair "inner" "Pair.inner" f_ ["self"]
 choice:Dm K A.choice "inner" "Choice.inner" eJ ["self"]
 before:Dm K A.before "inner" "Before.inner" eF ["self"]
 led:Dm K A.led "inner" "Led.inner" iD ["self"]
 cv:Dm K A.cv "inner" "When.inner" gA ["self"]
 held:Dm K A.held "inner" "Held.inner" f9 ["self"]
def yI(b:hV K A)(d:Dm K A.given "inner" "Part.inner" cV ["self"]):bw P w K mg base (j+1) A.given "inner" (tH A n (da A) A.given) []:=by
 refine d.d7 fJ uG ur (λf h A a s H E e=>have l:=e.units;have r:=e.hd;have m:=fJ
  (aE (aP (bT aC)))) ?_
 rintro i Q ⟨p,rfl,g,t,q⟩
 have c:=b.cl _ (Pt.aW A p)
 have o:=b.ia _ (Pt.aW A p)
 obtain⟨v,rfl⟩:=yL b g
 exact⟨zL0,q⟩
def yJ(b:hV K A)(d:Dm K A.named "inner" "Part.inner" cV ["self"]):bw P w K mg base (j+1) A.named "inner" (tH A n (da A) A.named) []:=by
 refine d.d7 fJ uG ur (λf h A a s H E e=>have l:=e.units;have r:=e.hd;have m:=fJ
  (aE (aP (bT aC)))) ?_
 rintro i Q ⟨p,rfl,g,t,q⟩
 have c:=b.cl _ (Pt.aW A p)
 have o:=b.ia _ (Pt.aW A p)
 obtain⟨s,rfl⟩:=yM b g
 exact⟨zL0,q⟩
def wH(b:hV K A)(d:Dm K A.turned "inner" "Turned.inner" eQ ["self"]):bw P w K mg base (j+1) A.turned "inner" (tH A n (da A) A.turned) []:=by
 refine d.d7 k_ uG ur (λf h A a s H E e=>have m:=e.units;have r:=e.hd;have o:=k_
  (aE (aP (bT (aA (a_ K rfl (dv 0) (by rfl)) aC))))) ?_
 rintro l Q ⟨p,rfl,g,t,q⟩
 have c:=b.cl _ (Pt.aW A p)
 have i:=b.ia _ (Pt.aW A p)
 obtain⟨x,rfl⟩:=uk b g
 exact(bF rfl c (i _ (by decide)) (by kernel_rfl) ⟨zL1,q⟩)
def AG(b:hV K A)(d:Dm K A.pair "inner" "Pair.inner" f_ ["self"]):bw P w K mg base (j+1) A.pair "inner" (tH A n (da A) A.pair) []:=by
 refine d.d7 mf uG ur (λf l A a s H E e=>have o:=e.units;have t:=e.hd;have r:=mf
  (aE (aP (bT (aA (a_ K rfl (dv 0) (by rfl)) (aA (a_ K rfl (dv 0) (by rfl)) aC)))))) ?_
 rintro m Q ⟨p,rfl,i,u,q⟩
 have c:=b.cl _ (Pt.aW A p)
 have h:=b.ia _ (Pt.aW A p)
 obtain⟨g,x,y,rfl⟩:=Bl b i
 exact(bF rfl c (h _ (by decide)) (by kernel_rfl) (bF rfl c (h _ (by decide)) (by kernel_rfl) ⟨zL2,q⟩))
def wG(e:hV K A)(d:Dm K A.choice "inner" "Choice.inner" eJ ["self"]):bw P w K mg base (j+1) A.choice "inner" (tH A n (da A) A.choice) []:=by
 refine d.d7 kx uG ur (λf i A a s H E g=>have m:=g.units;have r:=g.hd;have o:=kx
  (aE (aP (bT (aA (a_ K rfl (dv 0) (by rfl)) (aA (a_ K rfl (dv 0) (by rfl)) (aA (a_ K rfl (dv 0) (by rfl)) aC))))))) ?_
 rintro l Q ⟨p,rfl,h,t,q⟩
 have c:=e.cl _ (Pt.aW A p)
 have b:=e.ia _ (Pt.aW A p)
 obtain⟨x,y,z,rfl⟩:=uj e h
 exact(bF rfl c (b _ (by decide)) (by kernel_rfl) (bF rfl c (b _ (by decide)) (by kernel_rfl) (bF rfl c (b _ (by decide)) (by kernel_rfl) ⟨zL3,q⟩)))
def wF(b:hV K A)(d:Dm K A.before "inner" "Before.inner" eF ["self"]):bw P w K mg base (j+1) A.before "inner" (tH A n (da A) A.before) []:=by
 refine d.d7 kr uG ur (λf h A a s H E e=>have m:=e.units;have r:=e.hd;have o:=kr
  (aE (aP (bT (aA (a_ K rfl (dv 0) (by rfl)) aC))))) ?_
 rintro l Q ⟨p,rfl,g,t,q⟩
 have c:=b.cl _ (Pt.aW A p)
 have i:=b.ia _ (Pt.aW A p)
 obtain⟨x,f,rfl⟩:=pV b g
 exact(bF rfl c (i _ (by decide)) (by kernel_rfl) ⟨zL1,q⟩)
def DF(b:hV K A)(d:Dm K A.led "inner" "Led.inner" iD ["self"]):bw P w K mg base (j+1) A.led "inner" (tH A n (da A) A.led) []:=by
 refine d.d7 ou uG ur (λf i A a s H E e=>have m:=e.units;have r:=e.hd;have o:=ou
  (aE (aP (bT (aA (a_ K rfl (dv 0) (by rfl)) (aA (a_ K rfl (dv 0) (by rfl)) aC)))))) ?_
 rintro l Q ⟨p,rfl,h,t,q⟩
 have c:=b.cl _ (Pt.aW A p)
 have g:=b.ia _ (Pt.aW A p)
 obtain⟨x,y,rfl⟩:=FG b h
 exact(bF rfl c (g _ (by decide)) (by kernel_rfl) (bF rfl c (g _ (by decide)) (by kernel_rfl) ⟨zL2,q⟩))
def DG(b:hV K A)(d:Dm K A.cv "inner" "When.inner" gA ["self"]):bw P w K mg base (j+1) A.cv "inner" (tH A n (da A) A.cv) []:=by
 refine d.d7 mq uG ur (λf h A a s H E e=>have m:=e.units;have r:=e.hd;have o:=mq
  (aE (aP (bT (aA (a_ K rfl (dv 0) (by rfl)) aC))))) ?_
 rintro l Q ⟨p,rfl,g,t,q⟩
 have c:=b.cl _ (Pt.aW A p)
 have i:=b.ia _ (Pt.aW A p)
 obtain⟨x,s,rfl⟩:=FH b g
 exact(bF rfl c (i _ (by decide)) (by kernel_rfl) ⟨zL1,q⟩)
def AF(b:hV K A)(d:Dm K A.held "inner" "Held.inner" f9 ["self"]):bw P w K mg base (j+1) A.held "inner" (tH A n (da A) A.held) []:=by
 refine d.d7 md uG ur (λf h A a s H E e=>have m:=e.units;have r:=e.hd;have o:=md
  (aE (aP (bT (aA (a_ K rfl (dv 0) (by rfl)) aC))))) ?_
 rintro l Q ⟨p,rfl,g,t,q⟩
 have c:=b.cl _ (Pt.aW A p)
 have i:=b.ia _ (Pt.aW A p)
 obtain⟨x,s,f,rfl⟩:=Bk b g
 exact(bF rfl c (i _ (by decide)) (by kernel_rfl) ⟨zL1,q⟩)
def iu(a:hV K A)(d:pK K A)(n:Nat):MP P w K mg base A (j+1) "inner" n (da A):=fun C ⟨p,e⟩=>by
 subst e
 cases p
 ·exact yI a d.given
 ·exact yJ a d.named
 ·exact wH a d.turned
 ·exact AG a d.pair
 ·exact wG a d.choice
 ·exact wF a d.before
 ·exact DF a d.led
 ·exact DG a d.cv
 ·exact AF a d.held
def rO{st:Stmt}(d:∀C,xK A C->Dm K C m a st c)(h:∀n j,MP P w K mg base A (j+1) m n g->MP P w K mg base A (j+2) m (n+1) g):∀n,MP P w K mg base A (n+1) m n g
 | 0=>λC b=>(Dm.never (j:=1) (d C b) uG Ni)
 |n+1=>h n n (rO d h n)
def Gr(c:hV K A)(b:pK K A)(d:∀C,xK A C->Dm K C "size" "Part.size" bP ["self"])(a:mg "sum"=none)(n:Nat):MP P w K mg base A (n+1) "size" n λp=>.int p.size :=
 rO d (λn j h=>size_of d a (iu (j:=j) c b _) h) n
def Cu(c:hV K A)(b:pK K A)(d:∀C,xK A C->Dm K C "depth" "Part.depth" bD ["self"])(a:mg "max"=none)(n:Nat):MP P w K mg base A (n+1) "depth" n λp=>.int p.depth :=
 rO d (λn j h=>Em d a (iu (j:=j) c b _) h) n
structure GI (mg:Str->Option Value) (x:Str) (i:Int):Prop where
 ex:∃t,mg x=some (.int i t)
def Kw:cI:=λa Q=>∃i:Int,a=[.int i]/\Q (.bl (decide (-128<=i)&&decide (i<=127)))
def Gp:cI:=λa Q=>(∃i:Int,a=[.int i]/\Q (.bl (decide (-128<=i)&&decide (i<=127))))\/∃b,a=[.bl b]/\Q (.bl true)
def dg:yk "need_bounds":=by unfold yk;decide +kernel
def qX(p:Pt):Prop:=p.depth<=10/\p.size<=40
def lH(d:Df K mg "is_number" lq ["thing"])(a:mg "isinstance"=none)(r:mg "bool"=none)(t:mg "int"=none)(g1:GI mg "LOWEST" (-128))(g2:GI mg "HIGHEST" 127):bo P w K mg base (j+1) "is_number" ["thing"] Kw:=by
 obtain⟨B,p⟩:=g1.ex
 obtain⟨z,c⟩:=g2.ex
 have o:RelV (.int (-128)) (.int (-128) B):=⟨_,rfl⟩
 have b:RelV (.int 127) (.int 127 z):=⟨_,rfl⟩
 have m:∀H,Dv K H (.int (-128)) (.int (-128)):=λ_=>.int _
 have l:∀H,Dv K H (.int 127) (.int 127):=λ_=>.int _
 refine d.d7 o5 (fun x P G g ⟨i,e,q⟩=>⟨i,e,g _ q⟩) (fun x Q ⟨d,e,_⟩=>by rw[e];rfl) (λf y A u s H E v=>have F:=v.units;have C:=v.hd;have I:=o5
  (aK (cw (rM.td (w_or (eX (sD (by rfl) a (by rfl) r (dv 0))) (nA (gz (eX (Bm (by rfl) a (by rfl) t (dv 0))))))) (aE (aP nH)) ay)
 (aE (aP (zu (d8 (by rfl) p o m) (dv 0) (d8 (by rfl) c b l)))))) ?_
 rintro x Q ⟨i,rfl,q⟩
 refine⟨_,rfl,false,rfl,_,rfl,aU ⟨_,rfl,true,rfl,_,rfl,aU ⟨_,rfl,_,rfl,?_⟩⟩⟩
 by_cases h:(-128:Int)<=i
 ·rw[decide_eq_true h] at q ⊢
  exact aq q
 ·rw[decide_eq_false h] at q ⊢
  exact aU q
def gK(d:Df K mg "is_value" nQ ["thing"])(a:mg "isinstance"=none)(c:mg "bool"=none)(lH:bo P w K mg base j "is_number" ["thing"] Kw):bo P w K mg base (j+1) "is_value" ["thing"] Gp:=by
 refine d.d7 qZ (λo P t g h=>h.elim (fun⟨i,e,q⟩=>.inl ⟨i,e,g _ q⟩) fun⟨i,e,q⟩=>.inr ⟨i,e,g _ q⟩) (λo Q h=>h.elim (fun⟨d,e,_⟩=>by rw[e];rfl) fun⟨d,e,_⟩=>by rw[e];rfl) (λf p A m s H E l=>have r:=l.units;have v:=l.hd;have u:=qZ
  (aE (aP (OJ (sD (by rfl) a (by rfl) c (dv 0)) (oB (aR lH l (by omega) (by rfl) (aA (dv 0) aC))))))) ?_
 rintro o Q (⟨i,rfl,q⟩|⟨b,rfl,q⟩)
 ·exact⟨_,rfl,false,rfl,_,rfl,aU ⟨_,rfl,i,rfl,q⟩⟩
 ·exact⟨_,rfl,true,rfl,_,rfl,aq q⟩
def Cg(d:∀C,xK A C->Dm K C "need_bounds" "Part.need_bounds" aX ["self"])(i:MP P w K mg base A j "depth" n λp=>.int p.depth)(l:MP P w K mg base A j "size" n λp=>.int p.size)(g1:GI mg "DEEPEST" 10)(g2:GI mg "LARGEST" 40) :
  MQ P w K mg base A (j+1) "need_bounds" n qX λ_=>.ae:=by
 obtain⟨z,c⟩:=g1.ex
 obtain⟨y,b⟩:=g2.ex
 have a:RelV (.int 10) (.int 10 z):=⟨_,rfl⟩
 have h:RelV (.int 40) (.int 40 y):=⟨_,rfl⟩
 have g:∀H,Dv K H (.int 10) (.int 10):=λ_=>.int _
 have e:∀H,Dv K H (.int 40) (.int 40):=λ_=>.int _
 intro C B
 refine(d C B).d7 fj RC Su (λf t A o s H E m=>have I:=m.units;have F:=m.hd;have N:=fj
  (aE (cw (rM.td (w_or (Gx (cj i m (by omega) (dv 0)) (d8 (by rfl) c a g)) (nA (Gx (cj l m (by omega) (dv 0)) (d8 (by rfl) b h e))))) (aE ki) ay))) ?_
 rintro L Q ⟨p,rfl,G,r,v,q⟩
 obtain⟨J,M⟩:=v
 have x:decide ((10:Int)<p.depth)=false:=decide_eq_false (by omega)
 have u:decide ((40:Int)<p.size)=false:=decide_eq_false (by omega)
 refine cT (p:=p) bW u_ ⟨_,rfl,rfl⟩ r ⟨_,rfl,?_⟩
 show if decide ((10:Int)<p.depth)=true then _ else _
 rw[x]
 refine aU (cT (p:=p) bW yl ⟨_,rfl,rfl⟩ r ⟨_,rfl,?_⟩)
 show if decide ((40:Int)<p.size)=true then _ else _
 rw[u]
 exact aU q
def AB(o:tY K A.given)(p:dP K A.given "value")(d:Di K mg "Given" A.given "Given.__init__" fB ["self","value"] [])(gK:bo P w K mg base j "is_value" ["thing"] Gp) :
  pM P w K mg base (j+1) "Given" A.given (λc Q=>∃v,c=[v]/\isVal v/\Q [("value",v)]) []:=by
 refine d.D7 iE (fun c P z g ⟨v,e,h,q⟩=>⟨v,e,h,g _ q⟩) (fun c Q ⟨v,e,_⟩=>by rw[e];rfl) (λf t A m s H E l=>have y:=l.units;have C:=l.hd;have B:=iE
  (ai (eA (cw (gz (eX (aR gK l (by omega) (by rfl) (aA (dv 1) aC)))) (aE ki) ay))
 (ai (bV K rfl rfl (TQ rfl) (dv 1))
 Bi))) ?_
 rintro a c Q ⟨v,rfl,r,q⟩
 rcases r with⟨b,rfl⟩|⟨i,rfl,u,x⟩
 ·exact⟨_,rfl,.inr ⟨b,rfl,_,rfl,⟨_,rfl,rfl,o,p,(by decide),q⟩⟩⟩
 ·refine⟨_,rfl,.inl ⟨i,rfl,true,by simp[J4,u,x],⟨_,rfl,rfl,o,p,(by decide),q⟩⟩⟩
def wx:cI:=λa Q=>∃f,a=[f]/\fu f/\Q .ae
def gY(f:Str)(d:D):∀a:FD,(putD f d a).length<=a.length+1
 |[]=>S' _
 | (g,e)::r=>by
  unfold putD
  split
  ·exact Va _
  ·exact UH (gY f d r)
def vI:([]:FD).length<1000:=by decide
def vJ :(putD f d []).length<1000:=Tc (gY f d []) (by decide)
def vK :(putD f d (putD g e [])).length<1000:=Tc (G' (gY f d _) (UH (gY g e []))) (by decide)
def yH(m:hV K A)(d:Di K mg "Turned" A.turned "Turned.__init__" eP ["self","part"] [])(b:MQ P w K mg base A j "need_bounds" n qX λ_=>.ae) :
  pM P w K mg base (j+1) "Turned" A.turned (λc Q=>∃p:Pt,c=[p.d A]/\(Pt.turned p).depth<=n/\qX (.turned p)/\Q [("part",p.d A)]) []:=by
 have t:=m.cl A.turned (by simp)
 have x:=m.ia A.turned (by simp)
 refine d.D7 gu (fun c P B g ⟨v,e,h,o,q⟩=>⟨v,e,h,o,g _ q⟩) (fun c Q ⟨v,e,_⟩=>by rw[e];rfl) (λf u A l s H E i=>have z:=i.units;have F:=i.hd;have C:=gu
  (ai (bV K rfl rfl (TQ rfl) (dv 1))
 (lO (aE (bI (cj b i (by omega) (dv 0))))))) ?_
 rintro a c Q ⟨p,rfl,y,r,q⟩
 exact⟨_,rfl,rfl,t,x _ (by decide),(by first|exact vI|exact vJ|exact vK),rfl,cS (p:=.turned p) bW dg ⟨_,rfl,rfl⟩ y r q⟩
def yG(z:hV K A)(d:Di K mg "Choice" A.choice "Choice.__init__" eI ["self","truth","one","other"] [])(b:MQ P w K mg base A j "need_bounds" n qX λ_=>.ae) :
  pM P w K mg base (j+1) "Choice" A.choice (λc Q=>∃t x y:Pt,c=[t.d A,x.d A,y.d A]/\(Pt.choice t x y).depth<=n/\qX (.choice t x y)/\Q [("truth",t.d A),("one",x.d A),("other",y.d A)]) []:=by
 have i:=z.cl A.choice (by simp)
 have r:=z.ia A.choice (by simp)
 refine d.D7 gi (fun c P I g ⟨t,v,u,e,h,o,q⟩=>⟨t,v,u,e,h,o,g _ q⟩) (fun c Q ⟨t,v,u,e,_⟩=>by rw[e];rfl) (λf C A m s H E l=>have G:=l.units;have L:=l.hd;have J:=gi
  (ai (bV K rfl rfl (TQ rfl) (dv 1))
 (ai (bV K rfl rfl (TQ rfl) (dv 2))
 (ai (bV K rfl rfl (TQ rfl) (dv 3))
 (lO (aE (bI (cj b l (by omega) (dv 0))))))))) ?_
 rintro a c Q ⟨t,x,y,rfl,F,B,q⟩
 exact⟨_,rfl,rfl,i,r _ (by decide),(by first|exact vI|exact vJ|exact vK),_,rfl,rfl,i,r _ (by decide),(by first|exact vI|exact vJ|exact vK),_,rfl,rfl,i,r _ (by decide),(by first|exact vI|exact vJ|exact vK),rfl,cS (p:=.choice t x y) bW dg ⟨_,rfl,rfl⟩ F B q⟩
def FF(t:hV K A)(d:Di K mg "Led" A.led "Led.__init__" gZ ["self","head","rest"] [])(b:MQ P w K mg base A j "need_bounds" n qX λ_=>.ae) :
  pM P w K mg base (j+1) "Led" A.led (λc Q=>∃x y:Pt,c=[x.d A,y.d A]/\(Pt.led x y).depth<=n/\qX (.led x y)/\Q [("head",x.d A),("rest",y.d A)]) []:=by
 have m:=t.cl A.led (by simp)
 have r:=t.ia A.led (by simp)
 refine d.D7 ky (fun c P G g ⟨v,u,e,h,o,q⟩=>⟨v,u,e,h,o,g _ q⟩) (fun c Q ⟨v,u,e,_⟩=>by rw[e];rfl) (λf B A l s H E i=>have F:=i.units;have J:=i.hd;have I:=ky
  (ai (bV K rfl rfl (TQ rfl) (dv 1))
 (ai (bV K rfl rfl (TQ rfl) (dv 2))
 (lO (aE (bI (cj b i (by omega) (dv 0)))))))) ?_
 rintro a c Q ⟨x,y,rfl,C,z,q⟩
 exact⟨_,rfl,rfl,m,r _ (by decide),(by first|exact vI|exact vJ|exact vK),_,rfl,rfl,m,r _ (by decide),(by first|exact vI|exact vJ|exact vK),rfl,cS (p:=.led x y) bW dg ⟨_,rfl,rfl⟩ C z q⟩
def d6(d:Df K mg "need_first" kb ["first"])(gK:bo P w K mg base j "is_value" ["thing"] Gp):bo P w K mg base (j+1) "need_first" ["first"] wx:=by
 refine d.d7 m6 (fun l P u g ⟨f,e,h,q⟩=>⟨f,e,h,g _ q⟩) (fun l Q ⟨f,e,_⟩=>by rw[e];rfl) (λf o A c s H E a=>have t:=a.units;have x:=a.hd;have v:=m6
  (aE (cw (rM.td (w_and (rF (dv 0) ig) (tW (gz (eX (aR gK a (by omega) (by rfl) (aA (dv 0) aC))))))) (aE ki) ay))) ?_
 rintro l Q ⟨f,rfl,m,q⟩
 rcases m with rfl|⟨b,rfl⟩|⟨i,rfl,p,r⟩
 ·exact⟨_,rfl,_,rfl,q⟩
 ·exact⟨_,rfl,_,rfl,_,rfl,.inr ⟨b,rfl,_,rfl,q⟩⟩
 ·exact⟨_,rfl,_,rfl,_,rfl,.inl ⟨i,rfl,true,by simp[J4,p,r],q⟩⟩
def yF(t:hV K A)(d:Di K mg "Before" A.before "Before.__init__" cq ["self","part","first"] [])(d6:bo P w K mg base j "need_first" ["first"] wx)(b:MQ P w K mg base A j "need_bounds" n qX λ_=>.ae) :
  pM P w K mg base (j+1) "Before" A.before (λc Q=>∃(p:Pt) (f:D),c=[p.d A,f]/\fu f/\(Pt.before p f).depth<=n/\qX (.before p f)/\Q [("part",p.d A),("first",f)]) []:=by
 have m:=t.cl A.before (by simp)
 have r:=t.ia A.before (by simp)
 refine d.D7 gh (fun c P F g ⟨v,u,e,k,h,o,q⟩=>⟨v,u,e,k,h,o,g _ q⟩) (fun c Q ⟨v,u,e,_⟩=>by rw[e];rfl) (λf z A l s H E i=>have C:=i.units;have I:=i.hd;have G:=gh
  (ai (eA (bI (aR d6 i (by omega) (by rfl) (aA (dv 2) aC))))
 (ai (bV K rfl rfl (TQ rfl) (dv 1))
 (ai (bV K rfl rfl (TQ rfl) (dv 2))
 (lO (aE (bI (cj b i (by omega) (dv 0))))))))) ?_
 rintro a c Q ⟨p,f,rfl,y,B,x,q⟩
 exact⟨_,rfl,_,rfl,y,_,rfl,rfl,m,r _ (by decide),(by first|exact vI|exact vJ|exact vK),_,rfl,rfl,m,r _ (by decide),(by first|exact vI|exact vJ|exact vK),rfl,cS (p:=.before p f) bW dg ⟨_,rfl,rfl⟩ B x q⟩
def eB(n:Str)(l:List Str):inD (.str n) (l.map D.str)=l.contains n:=by
 unfold inD
 rw[Z6,List.contains_eq_any_beq]
 congr 1
 funext x
 show(x == n)=(n == x)
 exact Zv
def cH(l:List Str):(l.map D.str).all gN=true:=by
 rw[Ul]
 intro d a
 obtain⟨x,_,rfl⟩:=Tj.mp a
 rfl
def wJ:Str:="abcdefghijklmnopqrstuvwxyz"
def signs(x:Str):List Str:=x.cps.toList.map λc=>⟨#[c]⟩
def QT(c:Str):Bool:=A7 c wJ
def yQ(x:Str):Bool:=decide ((0:Int)<(x.length:Int))&&(signs x).all QT
def ij(x:Str):Bool:=decide ((x.length:Int)<=8)&&yQ x
def uo:List Str:=["module","in","out","row","use","end","number","truth","on","yes","no","not","and","or","if","before","then","when","held"]
def lE(x:Str):Bool:=ij x&&!uo.contains x
def dot:Str:="."
def gS(x:Str):Bool:=if decide (((Uv x dot).length:Int)=1)=true then lE x else decide (((Uv x dot).length:Int)<=4)&&(Uv x dot).all ij
structure GD (K:l') (mg:Str->Option Value) (x:Str) (d:D):Prop where
 ex:∃v u,mg x=some u/\RelV v u/\∀H,Dv K H v d
def D8(g:Str->D):cI:=λa Q=>∃x:Str,a=[.str x]/\x.length<=100000/\Q (g x)
def QW :cN (D8 g):=fun a P b f ⟨x,e,h,q⟩=>⟨x,e,h,f _ q⟩
def QV(a:List D)(Q:D->Prop)(h:D8 g a Q):a.length=1:=by obtain⟨x,e,_⟩:=h;rw[e];rfl
def str_len{x:Str}(h:x.length<=100000):x.length<=sizeLine:=G' h (by decide)
def ny{Q:D->Prop}(e:a=b)(q:Q (.bl a)):Q (.bl b):=e ▸ q
def FR:∀{l:List Nat} {a:Nat},a∈l->a<=l.sum
 |b::l,a,h=>by
  rw[T3]
  rcases Gc.mp h with rfl|h
  ·exact Ve _ _
  ·exact G' (FR h) (Nat.le_add_left _ _)
def Q0:D->D
 |.str z=>.bl (QT z)
 |_=>.ae
def OU:D->D
 |.str z=>.bl (ij z)
 |_=>.ae
def iO(d:Df K mg "has_letters" iW ["text"])(m:mg "len"=none)(p:mg "all"=none)(I:GD K mg "LETTERS" (.str wJ)):bo P w K mg base (j+1) "has_letters" ["text"] (D8 λx=>.bl (yQ x)):=by
 obtain⟨l,r,g,a,b⟩:=I.ex
 refine d.d7 l6 QW QV (λf G A t s H E z=>have N:=z.units;have F:=z.hd;have R:=l6
  (aE (aP (rT (Qs (di (by rfl) m (aA (dv 0) aC)) aI) (oB (Ed F (by rfl) p (aA (n_ (x:="sign") (caps:=[]) (cn:=[]) (cl:=[]) (h_ (by rfl) (by rfl) (by decide +kernel) (by decide +kernel) (by decide +kernel)) rfl (cF (dv 0)) (λC y v B=>az (i:=0) (show(["sign"]:List Str).Nodup by decide +kernel) rfl (TQ rfl) (.inr rfl)) (λC y v B=>cm) (λC y v B=>(Cq (dv 0) (d8 (by rfl) g a b) (by rfl)))) aC))))))) ?_
 rintro O Q ⟨x,rfl,u,q⟩
 refine⟨_,rfl,_,_,rfl,if_pos (str_len u),_,rfl,?_⟩
 cases h:decide ((0:Int)<(x.length:Int)) with
 |false =>
  have e:yQ x=false:=by unfold yQ;rw[h];rfl
  exact aU (ny e q)
 |true =>
  have e:yQ x=((signs x).map QT).all id:=by unfold yQ;rw[h,YD];rfl
  refine aq ⟨_,rfl,_,rfl,mO Q0 (x.cps.toList.map λc=>.str ⟨#[c]⟩),pZ,λi d o J M=>?_,?_,?_⟩
  ·obtain⟨L,rfl⟩:=uv J M
   obtain⟨c,_,rfl⟩:=Tj.mp L
   exact⟨rfl,λ_=>⟨_,rfl,_,rfl,rfl⟩⟩
  ·rw[tz,U4]
   exact Tc u (by decide)
  ·rw[nM]
   refine⟨(signs x).map QT,?_,ny e q⟩
   unfold signs
   rw[UG,UG,UG]
   rfl
def cX(d:Df K mg "has_word_form" fc ["text"])(i:mg "len"=none)(g:GI mg "LONGEST_WORD" 8)(iO:bo P w K mg base j "has_letters" ["text"] (D8 λx=>.bl (yQ x))) :
  bo P w K mg base (j+1) "has_word_form" ["text"] (D8 λx=>.bl (ij x)):=by
 obtain⟨r,c⟩:=g.ex
 have a:RelV (.int 8) (.int 8 r):=⟨_,rfl⟩
 have b:∀H,Dv K H (.int 8) (.int 8):=λ_=>.int _
 refine d.d7 jF QW QV (λf p A m s H E l=>have u:=l.units;have y:=l.hd;have v:=jF
  (aE (aP (rT (Lb (di (by rfl) i (aA (dv 0) aC)) (d8 (by rfl) c a b)) (oB (aR iO l (by omega) (by rfl) (aA (dv 0) aC))))))) ?_
 rintro t Q ⟨x,rfl,o,q⟩
 refine⟨_,rfl,_,_,rfl,if_pos (str_len o),_,rfl,?_⟩
 cases h:decide ((x.length:Int)<=8) with
 |false =>
  have e:ij x=false:=by unfold ij;rw[h];rfl
  exact aU (ny e q)
 |true =>
  have e:ij x=yQ x:=by unfold ij;rw[h];rfl
  exact aq ⟨_,rfl,x,rfl,o,ny e q⟩
def ic(d:Df K mg "is_word" qA ["thing"])(r:GD K mg "KEPT_WORDS" (.tup (uo.map D.str)))(cX:bo P w K mg base j "has_word_form" ["text"] (D8 λx=>.bl (ij x))) :
  bo P w K mg base (j+1) "is_word" ["thing"] (D8 λx=>.bl (lE x)):=by
 obtain⟨g,i,b,c,a⟩:=r.ex
 refine d.d7 su QW QV (λf o A m s H E l=>have u:=l.units;have y:=l.hd;have v:=su
  (aE (aP (rT (aR cX l (by omega) (by rfl) (aA (dv 0) aC)) (oB (Hu (dv 0) (d8 (by rfl) b c a) (by rfl))))))) ?_
 rintro t Q ⟨x,rfl,p,q⟩
 refine⟨_,rfl,x,rfl,p,_,rfl,?_⟩
 cases h:ij x with
 |false =>
  have e:lE x=false:=by unfold lE;rw[h];rfl
  exact aU (ny e q)
 |true =>
  have e:lE x=!inD (.str x) (uo.map D.str):=by unfold lE;rw[h,eB];rfl
  exact aq ⟨_,rfl,rfl,cH _,ny e q⟩
def pO(d:Df K mg "is_name" p_ ["thing"])(m:mg "len"=none)(p:mg "all"=none)(g:GI mg "MOST_WORDS" 4)(ic:bo P w K mg base j "is_word" ["thing"] (D8 λx=>.bl (lE x)))
  (cX:bo P w K mg base j "has_word_form" ["text"] (D8 λx=>.bl (ij x))):bo P w K mg base (j+1) "is_name" ["thing"] (D8 λx=>.bl (gS x)):=by
 obtain⟨R,b⟩:=g.ex
 have a:RelV (.int 4) (.int 4 R):=⟨_,rfl⟩
 have l:∀H,Dv K H (.int 4) (.int 4):=λ_=>.int _
 refine d.d7 sr QW QV (λf L A v s H E r=>have M:=r.units;have G:=r.hd;have S:=sr
  (aK (bB (i:=1) S.nd rfl (TQ rfl) (Hv (dv 0) (aA ar aC)))
 (aK (cw (hJ M (di (by rfl) m (aA (dv 1) aC)) aI) (aE (aP (aR ic r (by omega) (by rfl) (aA (dv 0) aC)))) ay)
 (aE (aP (rT (Lb (di (by rfl) m (aA (dv 1) aC)) (d8 (by rfl) b a l)) (oB (Ed G (by rfl) p (aA (n_ (x:="word") (caps:=[]) (cn:=[]) (cl:=[]) (h_ (by rfl) (by rfl) (by decide +kernel) (by decide +kernel) (by decide +kernel)) rfl (cF (dv 1)) (λC B z F=>az (i:=0) (show(["word"]:List Str).Nodup by decide +kernel) rfl (TQ rfl) (.inr rfl)) (λC B z F=>cm) (λC B z F=>(aR cX r (by omega) (by rfl) (aA (dv 0) aC)))) aC))))))))) ?_
 rintro T Q ⟨x,rfl,u,q⟩
 have I:=split_le x dot
 refine⟨_,rfl,⟨x,rfl⟩,x,dot,rfl,rfl,rfl,G' (V6 u 2) (by decide),?_⟩
 refine⟨_,rfl,_,_,rfl,rfl,_,rfl,?_⟩
 show if decide ((((Uv x dot).map D.str).length:Int)=1)=true then _ else _
 rw[tz]
 cases h:decide (((Uv x dot).length:Int)=1) with
 |true =>
  have e:gS x=lE x:=by unfold gS;rw[h];rfl
  exact aq ⟨_,rfl,x,rfl,u,ny e q⟩
 |false =>
  refine aU ⟨_,rfl,_,_,rfl,rfl,_,rfl,?_⟩
  show if decide ((((Uv x dot).map D.str).length:Int)<=4)=true then _ else _
  rw[tz]
  cases t:decide (((Uv x dot).length:Int)<=4) with
  |false =>
   have e:gS x=false:=by unfold gS;rw[h,t];rfl
   exact aU (ny e q)
  |true =>
   have e:gS x=((Uv x dot).map ij).all id:=by unfold gS;rw[h,t,YD];rfl
   refine aq ⟨_,rfl,_,rfl,mO OU ((Uv x dot).map D.str),pZ,λi d o N t=>?_,?_,?_⟩
   ·obtain⟨O,rfl⟩:=uv N t
    obtain⟨c,J,rfl⟩:=Tj.mp O
    refine⟨rfl,λ_=>⟨_,rfl,c,rfl,?_,rfl⟩⟩
    have W:=split_weight x dot (by decide)
    have y:c.length∈(Uv x dot).map (·.length):=Tj.mpr ⟨c,J,rfl⟩
    have:=FR y
    have U:=split_pos x dot
    omega
   ·rw[tz]
    exact Tc I (Tc (V6 u 2) (by decide))
   ·rw[nM]
    refine⟨(Uv x dot).map ij,?_,ny e q⟩
    rw[UG,UG]
    rfl
def A3:cI:=λa Q=>∃x:Str,a=[.str x]/\x.length<=100000/\gS x=true/\Q .ae
def bM(d:Df K mg "need_name" lu ["name"])(pO:bo P w K mg base j "is_name" ["thing"] (D8 λx=>.bl (gS x))):bo P w K mg base (j+1) "need_name" ["name"] A3:=by
 refine d.d7 o6 (fun c P o f ⟨x,e,h,z,q⟩=>⟨x,e,h,z,f _ q⟩) (fun c Q ⟨x,e,_⟩=>by rw[e];rfl) (λf g A b s H E a=>have m:=a.units;have r:=a.hd;have p:=o6
  (aE (cw (gz (eX (aR pO a (by omega) (by rfl) (aA (dv 0) aC)))) (aE ki) ay))) ?_
 rintro c Q ⟨x,rfl,i,l,q⟩
 exact⟨_,rfl,x,rfl,i,true,congrArg some l,aU q⟩
def nn:D:=.tup [.str "number",.str "number"]
def nt:D:=.tup [.str "number",.str "truth"]
def tt:D:=.tup [.str "truth",.str "truth"]
def w6:List (Str × D):=[("+",nn),("-",nn),("*",nn),("=",.tup [.ae,.str "truth"]),("<",nt),("<=",nt),("and",tt),("or",tt)]
def lD:List Str:=["+","-","*","=","<","<=","and","or"]
def Js(h:g∈lD):(if true=true then !w6.any λp=>p.1 == g else w6.any λp=>p.1 == g)=false:=by
 simp only[lD,Gc,Tt,or_false] at h
 rcases h with rfl|rfl|rfl|rfl|rfl|rfl|rfl|rfl<;>decide +kernel
def f7(x:Str):Prop:=gS x=true/\x.length<=100/\W6 x=true
def AE(l:hV K A)(d:Di K mg "Named" A.named "Named.__init__" fD ["self","name"] [])(bM:bo P w K mg base j "need_name" ["name"] A3) :
  pM P w K mg base (j+1) "Named" A.named (λb Q=>∃x:Str,b=[.str x]/\f7 x/\Q [("name",.str x)]) []:=by
 have m:=l.cl A.named (by simp)
 have r:=l.ia A.named (by simp)
 refine d.D7 iH (fun b P y g ⟨v,e,h,q⟩=>⟨v,e,h,g _ q⟩) (fun b Q ⟨v,e,_⟩=>by rw[e];rfl) (λf o A i s H E c=>have u:=c.units;have C:=c.hd;have B:=iH
  (ai (eA (bI (aR bM c (by omega) (by rfl) (aA (dv 1) aC))))
 (ai (bV K rfl rfl (TQ rfl) (dv 1))
 Bi))) ?_
 rintro a b Q ⟨x,rfl,⟨p,t,z⟩,q⟩
 exact⟨_,rfl,x,rfl,G' t (by decide),p,_,rfl,rfl,m,r _ (by decide),(by first|exact vI|exact vJ|exact vK),q⟩
def DD(t:hV K A)(d:Di K mg "When" A.cv "When.__init__" fb ["self","part","name"] [])(bM:bo P w K mg base j "need_name" ["name"] A3)(b:MQ P w K mg base A j "need_bounds" n qX λ_=>.ae) :
  pM P w K mg base (j+1) "When" A.cv (λc Q=>∃(p:Pt) (x:Str),c=[p.d A,.str x]/\f7 x/\(Pt.cv p x).depth<=n/\qX (.cv p x)/\Q [("part",p.d A),("name",.str x)]) []:=by
 have m:=t.cl A.cv (by simp)
 have r:=t.ia A.cv (by simp)
 refine d.D7 jE (fun c P I g ⟨v,u,e,k,h,o,q⟩=>⟨v,u,e,k,h,o,g _ q⟩) (fun c Q ⟨v,u,e,_⟩=>by rw[e];rfl) (λf z A l s H E i=>have G:=i.units;have M:=i.hd;have L:=jE
  (ai (eA (bI (aR bM i (by omega) (by rfl) (aA (dv 2) aC))))
 (ai (bV K rfl rfl (TQ rfl) (dv 1))
 (ai (bV K rfl rfl (TQ rfl) (dv 2))
 (lO (aE (bI (cj b i (by omega) (dv 0))))))))) ?_
 rintro a c Q ⟨p,x,rfl,⟨B,C,J⟩,F,y,q⟩
 exact⟨_,rfl,x,rfl,G' C (by decide),B,_,rfl,rfl,m,r _ (by decide),(by first|exact vI|exact vJ|exact vK),_,rfl,rfl,m,r _ (by decide),(by first|exact vI|exact vJ|exact vK),rfl,cS (p:=.cv p x) bW dg ⟨_,rfl,rfl⟩ F y q⟩
def DA(y:hV K A)(d:Di K mg "Held" A.held "Held.__init__" dY ["self","part","name","first"] [])(bM:bo P w K mg base j "need_name" ["name"] A3)(d6:bo P w K mg base j "need_first" ["first"] wx)
  (b:MQ P w K mg base A j "need_bounds" n qX λ_=>.ae) :
  pM P w K mg base (j+1) "Held" A.held (λi Q=>∃(p:Pt) (x:Str) (f:D),i=[p.d A,.str x,f]/\f7 x/\fu f/\(Pt.held p x f).depth<=n/\qX (.held p x f)/\Q [("part",p.d A),("name",.str x),("first",f)]) []:=by
 have m:=y.cl A.held (by simp)
 have t:=y.ia A.held (by simp)
 refine d.D7 i_ (fun i P L g ⟨v,u,f,e,k,l,h,o,q⟩=>⟨v,u,f,e,k,l,h,o,g _ q⟩) (fun i Q ⟨v,u,f,e,_⟩=>by rw[e];rfl) (λf C A r s H E c=>have J:=c.units;have O:=c.hd;have N:=i_
  (ai (eA (bI (aR bM c (by omega) (by rfl) (aA (dv 2) aC))))
 (ai (eA (bI (aR d6 c (by omega) (by rfl) (aA (dv 3) aC))))
 (ai (bV K rfl rfl (TQ rfl) (dv 1))
 (ai (bV K rfl rfl (TQ rfl) (dv 2))
 (ai (bV K rfl rfl (TQ rfl) (dv 3))
 (lO (aE (bI (cj b c (by omega) (dv 0))))))))))) ?_
 rintro a i Q ⟨p,x,f,rfl,⟨F,G,M⟩,B,I,z,q⟩
 exact⟨_,rfl,x,rfl,G' G (by decide),F,_,rfl,_,rfl,B,_,rfl,rfl,m,t _ (by decide),(by first|exact vI|exact vJ|exact vK),_,rfl,rfl,m,t _ (by decide),(by first|exact vI|exact vJ|exact vK),_,rfl,rfl,m,t _ (by decide),(by first|exact vI|exact vJ|exact vK),rfl,cS (p:=.held p x f) bW dg ⟨_,rfl,rfl⟩ I z q⟩
def DB(z:hV K A)(d:Di K mg "Pair" A.pair "Pair.__init__" fV ["self","sign","one","other"] [])(c:HV w K mg "SIGNS" F w6)(b:MQ P w K mg base A j "need_bounds" n qX λ_=>.ae) :
  pM P w K mg base (j+1) "Pair" A.pair (λi Q=>∃(g:Str) (x y:Pt),i=[.str g,x.d A,y.d A]/\g∈lD/\(Pt.pair g x y).depth<=n/\qX (.pair g x y)/\Q [("sign",.str g),("one",x.d A),("other",y.d A)]) []:=by
 have l:=z.cl A.pair (by simp)
 have t:=z.ia A.pair (by simp)
 refine d.D7 jA (fun i P L g ⟨v,u,f,e,k,h,o,q⟩=>⟨v,u,f,e,k,h,o,g _ q⟩) (fun i Q ⟨v,u,f,e,_⟩=>by rw[e];rfl) (λf C A r s H E m=>have J:=m.units;have N:=m.hd;have M:=jA
  (ai (eA (cw (Gz c (by rfl) (dv 1)) (aE ki) ay))
 (ai (bV K rfl rfl (TQ rfl) (dv 1))
 (ai (bV K rfl rfl (TQ rfl) (dv 2))
 (ai (bV K rfl rfl (TQ rfl) (dv 3))
 (lO (aE (bI (cj b m (by omega) (dv 0)))))))))) ?_
 rintro a i Q ⟨g,x,y,rfl,G,I,B,q⟩
 exact⟨_,rfl,g,rfl,false,congrArg D.bl (Js G),aU ⟨_,rfl,rfl,l,t _ (by decide),(by first|exact vI|exact vJ|exact vK),_,rfl,rfl,l,t _ (by decide),(by first|exact vI|exact vJ|exact vK),_,rfl,rfl,l,t _ (by decide),(by first|exact vI|exact vJ|exact vK),rfl,cS (p:=.pair g x y) bW dg ⟨_,rfl,rfl⟩ I B q⟩⟩
def sh(a b:Int):D:=.tup [.int a,.int b]
def pB:List (Str × D):=[("given",sh 2 0),("named",sh 2 0),("not",sh 2 1),("if",sh 4 3),("before",sh 3 1),("then",sh 3 2),("when",sh 3 1),("held",sh 4 1)]
def Pt.ok:Pt->Prop
 |.given v=>isVal v
 |.named s=>f7 s
 |.turned p=>p.ok
 |.pair g a b=>g∈lD/\a.ok/\b.ok
 |.choice t a b=>t.ok/\a.ok/\b.ok
 |.before p f=>p.ok/\fu f
 |.led h r=>h.ok/\r.ok
 |.cv p s=>p.ok/\f7 s
 |.held p s f=>p.ok/\f7 s/\fu f
def Pt.r8:Pt->Bool
 |.pair _ _ _=>true
 |_=>false
def Pt.isPlain:Pt->Bool
 |.given _=>true|.named _=>true|.turned _=>true|.choice _ _ _=>true|_=>false
def Pt.Kl{p q:Pt}(h:q∈p.inner)(o:p.ok):q.ok:=by
 cases p<;>simp only[Pt.inner,Pt.ok,Gc,Tt,or_false] at h o
 case turned=>subst h;exact o
 case pair=>rcases h with rfl|rfl<;>simp only[o]
 case choice=>rcases h with rfl|rfl|rfl<;>simp only[o]
 case before=>subst h;exact o.1
 case led=>rcases h with rfl|rfl<;>simp only[o]
 case cv=>subst h;exact o.1
 case held=>subst h;exact o.1
def wy(ok:Pt->Prop)(g:Pt->D):cI:=λa Q=>∃p:Pt,a=[p.told]/\ok p/\Q (g p)
def Oy :cN (wy ok g):=fun a P b f ⟨p,e,h,q⟩=>⟨p,e,h,f _ q⟩
def Ol(a:List D)(Q:D->Prop)(h:wy ok g a Q):a.length=1:=by obtain⟨x,e,_⟩:=h;rw[e];rfl
def Ay(A:bC)(n:Nat)(b:Bool):cI:=λa Q=>∃p:Pt,a=[p.told,.lst (p.inner.map (Pt.d A))]/\p.r8=false/\p.isPlain=b/\p.ok/\qX p/\p.depth<=n/\Q (p.d A)
def Dp(A:bC)(n:Nat):cI:=λa Q=>∃p:Pt,a=[p.told]/\p.depth<=n/\p.ok/\qX p/\Q (p.d A)
def RB :cN (Dp A n):=fun a P c f ⟨p,e,h,o,b,q⟩=>⟨p,e,h,o,b,f _ q⟩
def Ov :cN (Ay A n b):=fun a P c f ⟨p,e,h,o,b,i,d,q⟩=>⟨p,e,h,o,b,i,d,f _ q⟩
def Fo(h:g∈lD):(if false=true then !pB.any λp=>p.1 == g else pB.any λp=>p.1 == g)=false:=by
 simp only[lD,Gc,Tt,or_false] at h
 rcases h with rfl|rfl|rfl|rfl|rfl|rfl|rfl|rfl<;>decide +kernel
def fM(d:Df K mg "has_shape" lj ["told"])(b:mg "len"=none)(a:HV w K mg "SHAPES" m pB):bo P w K mg base (j+1) "has_shape" ["told"] (wy Pt.ok λp=>.bl (!p.r8)):=by
 refine d.d7 o4 Oy Ol (λf i A c s H E e=>have l:=e.units;have t:=e.hd;have r:=o4
  (aE (aP (rT (OF a (by rfl) (ba (dv 0) aI (λ_ _=>rfl))) (oB (xh l (di (by rfl) b (aA (dv 0) aC)) (ba (Eh a (by rfl) (ba (dv 0) aI (λ_ _=>rfl)) (λ_ _=>rfl)) aI (λ_ _=>rfl)))))))) ?_
 rintro o Q ⟨p,rfl,h,q⟩
 cases p with
 |given v=>exact⟨_,rfl,_,rfl,"given",rfl,true,congrArg D.bl (by decide +kernel),aq ⟨_,rfl,_,_,rfl,rfl,_,rfl,_,rfl,"given",sh 2 0,rfl,(by kernel_rfl),_,rfl,q⟩⟩
 |named s=>exact⟨_,rfl,_,rfl,"named",rfl,true,congrArg D.bl (by decide +kernel),aq ⟨_,rfl,_,_,rfl,rfl,_,rfl,_,rfl,"named",sh 2 0,rfl,(by kernel_rfl),_,rfl,q⟩⟩
 |turned x=>exact⟨_,rfl,_,rfl,"not",rfl,true,congrArg D.bl (by decide +kernel),aq ⟨_,rfl,_,_,rfl,rfl,_,rfl,_,rfl,"not",sh 2 1,rfl,(by kernel_rfl),_,rfl,q⟩⟩
 |pair g x y=>exact⟨_,rfl,_,rfl,g,rfl,false,congrArg D.bl (Fo h.1),aU q⟩
 |choice x y z=>exact⟨_,rfl,_,rfl,"if",rfl,true,congrArg D.bl (by decide +kernel),aq ⟨_,rfl,_,_,rfl,rfl,_,rfl,_,rfl,"if",sh 4 3,rfl,(by kernel_rfl),_,rfl,q⟩⟩
 |before x f=>exact⟨_,rfl,_,rfl,"before",rfl,true,congrArg D.bl (by decide +kernel),aq ⟨_,rfl,_,_,rfl,rfl,_,rfl,_,rfl,"before",sh 3 1,rfl,(by kernel_rfl),_,rfl,q⟩⟩
 |led x y=>exact⟨_,rfl,_,rfl,"then",rfl,true,congrArg D.bl (by decide +kernel),aq ⟨_,rfl,_,_,rfl,rfl,_,rfl,_,rfl,"then",sh 3 2,rfl,(by kernel_rfl),_,rfl,q⟩⟩
 |cv x s=>exact⟨_,rfl,_,rfl,"when",rfl,true,congrArg D.bl (by decide +kernel),aq ⟨_,rfl,_,_,rfl,rfl,_,rfl,_,rfl,"when",sh 3 1,rfl,(by kernel_rfl),_,rfl,q⟩⟩
 |held x s f=>exact⟨_,rfl,_,rfl,"held",rfl,true,congrArg D.bl (by decide +kernel),aq ⟨_,rfl,_,_,rfl,rfl,_,rfl,_,rfl,"held",sh 4 1,rfl,(by kernel_rfl),_,rfl,q⟩⟩
def nF(d:Df K mg "plain_by" nV ["told","inner"])
  (L:i+1<=j)
  (h:pM P w K mg base i "Given" A.given (λl Q=>∃v,l=[v]/\isVal v/\Q [("value",v)]) [])
  (c:pM P w K mg base i "Named" A.named (λl Q=>∃x:Str,l=[.str x]/\f7 x/\Q [("name",.str x)]) [])
  (a:pM P w K mg base i "Turned" A.turned (λl Q=>∃p:Pt,l=[p.d A]/\(Pt.turned p).depth<=n/\qX (.turned p)/\Q [("part",p.d A)]) [])
  (b:pM P w K mg base i "Choice" A.choice (λl Q=>∃t x y:Pt,l=[t.d A,x.d A,y.d A]/\(Pt.choice t x y).depth<=n/\qX (.choice t x y)/\Q [("truth",t.d A),("one",x.d A),("other",y.d A)]) [])
  : bo P w K mg base (j+1) "plain_by" ["told","inner"] (Ay A n true):=by
 refine d.d7 qd Ov (fun l Q ⟨x,e,_⟩=>by rw[e];rfl) (λf G A u s H E m=>have r:=m.units;have M:=m.hd;have J:=qd
  (aK (bB (i:=2) J.nd rfl (TQ rfl) (ba (dv 0) aI (λ_ _=>rfl)))
 (aK (cw (hJ r (dv 2) ar) (aE (aP (qp h m (by omega) (by rfl) (aA (ba (dv 0) aI (λ_ _=>rfl)) aC)))) ay)
 (aK (cw (hJ r (dv 2) ar) (aE (aP (qp c m (by omega) (by rfl) (aA (ba (dv 0) aI (λ_ _=>rfl)) aC)))) ay)
 (aK (cw (hJ r (dv 2) ar) (aE (aP (qp a m (by omega) (by rfl) (aA (ba (dv 1) aI (λ_ _=>rfl)) aC)))) ay)
 (aE (aP (qp b m (by omega) (by rfl) (aA (ba (dv 1) aI (λ_ _=>rfl)) (aA (ba (dv 1) aI (λ_ _=>rfl)) (aA (ba (dv 1) aI (λ_ _=>rfl)) aC))))))))))) ?_
 rintro l Q ⟨p,rfl,I,o,B,C,F,q⟩
 cases p with
 |given v=>exact⟨_,rfl,_,rfl,⟨_,rfl,true,congrArg D.bl (by decide +kernel),aq ⟨_,rfl,_,rfl,v,rfl,B,q⟩⟩⟩
 |named s=>exact⟨_,rfl,_,rfl,⟨_,rfl,false,congrArg D.bl (by decide +kernel),aU ⟨_,rfl,true,congrArg D.bl (by decide +kernel),aq ⟨_,rfl,_,rfl,s,rfl,B,q⟩⟩⟩⟩
 |turned x=>exact⟨_,rfl,_,rfl,⟨_,rfl,false,congrArg D.bl (by decide +kernel),aU ⟨_,rfl,false,congrArg D.bl (by decide +kernel),aU ⟨_,rfl,true,congrArg D.bl (by decide +kernel),aq ⟨_,rfl,_,rfl,x,rfl,F,C,q⟩⟩⟩⟩⟩
 |pair g x y=>cases I
 |choice x y z=>exact⟨_,rfl,_,rfl,⟨_,rfl,false,congrArg D.bl (by decide +kernel),aU ⟨_,rfl,false,congrArg D.bl (by decide +kernel),aU ⟨_,rfl,false,congrArg D.bl (by decide +kernel),aU ⟨_,rfl,_,rfl,_,rfl,_,rfl,_,rfl,_,rfl,x,y,z,rfl,F,C,q⟩⟩⟩⟩⟩
 |before x f=>cases o
 |led x y=>cases o
 |cv x s=>cases o
 |held x s f=>cases o
def nG(d:Df K mg "timed_by" nW ["told","inner"])
  (J:i+1<=j)
  (a:pM P w K mg base i "Before" A.before (λl Q=>∃(p:Pt) (f:D),l=[p.d A,f]/\fu f/\(Pt.before p f).depth<=n/\qX (.before p f)/\Q [("part",p.d A),("first",f)]) [])
  (h:pM P w K mg base i "Led" A.led (λl Q=>∃x y:Pt,l=[x.d A,y.d A]/\(Pt.led x y).depth<=n/\qX (.led x y)/\Q [("head",x.d A),("rest",y.d A)]) [])
  (c:pM P w K mg base i "When" A.cv (λl Q=>∃(p:Pt) (x:Str),l=[p.d A,.str x]/\f7 x/\(Pt.cv p x).depth<=n/\qX (.cv p x)/\Q [("part",p.d A),("name",.str x)]) [])
  (b:pM P w K mg base i "Held" A.held (λl Q=>∃(p:Pt) (x:Str) (f:D),l=[p.d A,.str x,f]/\f7 x/\fu f/\(Pt.held p x f).depth<=n/\qX (.held p x f)/\Q [("part",p.d A),("name",.str x),("first",f)]) [])
  : bo P w K mg base (j+1) "timed_by" ["told","inner"] (Ay A n false):=by
 refine d.d7 qe Ov (fun l Q ⟨x,e,_⟩=>by rw[e];rfl) (λf F A C s H E m=>have B:=m.units;have L:=m.hd;have I:=qe
  (aK (bB (i:=2) I.nd rfl (TQ rfl) (ba (dv 0) aI (λ_ _=>rfl)))
 (aK (cw (hJ B (dv 2) ar) (aE (aP (qp a m (by omega) (by rfl) (aA (ba (dv 1) aI (λ_ _=>rfl)) (aA (ba (dv 0) aI (λ_ _=>rfl)) aC))))) ay)
 (aK (cw (hJ B (dv 2) ar) (aE (aP (qp h m (by omega) (by rfl) (aA (ba (dv 1) aI (λ_ _=>rfl)) (aA (ba (dv 1) aI (λ_ _=>rfl)) aC))))) ay)
 (aK (cw (hJ B (dv 2) ar) (aE (aP (qp c m (by omega) (by rfl) (aA (ba (dv 1) aI (λ_ _=>rfl)) (aA (ba (dv 0) aI (λ_ _=>rfl)) aC))))) ay)
 (aE (aP (qp b m (by omega) (by rfl) (aA (ba (dv 1) aI (λ_ _=>rfl)) (aA (ba (dv 0) aI (λ_ _=>rfl)) (aA (ba (dv 0) aI (λ_ _=>rfl)) aC))))))))))) ?_
 rintro l Q ⟨p,rfl,G,r,o,t,u,q⟩
 cases p with
 |given v=>cases r
 |named s=>cases r
 |turned x=>cases r
 |pair g x y=>cases G
 |choice x y z=>cases r
 |before x f=>exact⟨_,rfl,_,rfl,⟨_,rfl,true,congrArg D.bl (by decide +kernel),aq ⟨_,rfl,_,rfl,_,rfl,_,rfl,x,f,rfl,o.2,u,t,q⟩⟩⟩
 |led x y=>exact⟨_,rfl,_,rfl,⟨_,rfl,false,congrArg D.bl (by decide +kernel),aU ⟨_,rfl,true,congrArg D.bl (by decide +kernel),aq ⟨_,rfl,_,rfl,_,rfl,_,rfl,x,y,rfl,u,t,q⟩⟩⟩⟩
 |cv x s=>exact⟨_,rfl,_,rfl,⟨_,rfl,false,congrArg D.bl (by decide +kernel),aU ⟨_,rfl,false,congrArg D.bl (by decide +kernel),aU ⟨_,rfl,true,congrArg D.bl (by decide +kernel),aq ⟨_,rfl,_,rfl,_,rfl,_,rfl,x,s,rfl,o.2,u,t,q⟩⟩⟩⟩⟩
 |held x s f=>exact⟨_,rfl,_,rfl,⟨_,rfl,false,congrArg D.bl (by decide +kernel),aU ⟨_,rfl,false,congrArg D.bl (by decide +kernel),aU ⟨_,rfl,false,congrArg D.bl (by decide +kernel),aU ⟨_,rfl,_,rfl,_,rfl,_,rfl,_,rfl,_,rfl,x,s,f,rfl,o.2.1,o.2.2,u,t,q⟩⟩⟩⟩⟩
def RW(x:D)(a:List D):HT.dX (x::a).length 0 (some 1)=1:=by
 rw[show(1:Int)=((1:Nat):Int) from rfl,HT.wo,Tg]
 omega
def fT{a:List D}:¬ (HT.dX (x::a).length 0 (some 1)=0/\R):=λz=>by
 rw[RW] at z
 exact absurd z.1 (by decide)
def kJ(p:Pt):(p.inner.map λq=>some (q.d A)).length=(p.inner.map Pt.told).length:=by simp
def fz(p:Pt)(m:p.depth<=n+1)(l:p.ok)(h:qX p)(i:Nat)(d:D)(o:Option D)(c:(p.inner.map Pt.told)[i]?=some d)(g:(p.inner.map λq=>some (q.d A))[i]?=some o) :
  QB (some d::nu a δ) λb=>b=o.isSome/\(b=true->zT (Dp A n) (EK (qL 0) vn) (some d::nu a δ) λy=>o=some y):=by
 rw[TX] at c g
 cases e:p.inner[i]? with
 |none=>rw[e] at c;cases c
 |some r =>
  rw[e] at c g
  cases c
  cases g
  have f:=K' e
  have s:=Pt.wD f
  have t:=p.c_ f (n:=p.depth - 1) (by omega)
  exact⟨rfl,λ_=>⟨_,rfl,r,rfl,p.c_ f m,Pt.Kl f l,⟨by have:=h.1;omega,G' s h.2⟩,rfl⟩⟩
def of_lt(p:Pt):(p.inner.map Pt.told).length<sizeLine:=by rw[tz];exact Tc p.cf (by decide)
def kK(p:Pt):(p.inner.map λq=>some (q.d A)).filterMap id=p.inner.map (Pt.d A):=by rw[UW,filterMap_some]
def iP(d:Df K mg "many_within" iX ["told"])(a:HV w K mg "SHAPES" i pB)(fM:bo P w K mg base j "has_shape" ["told"] (wy Pt.ok λp=>.bl (!p.r8))):bo P w K mg base (j+1) "many_within" ["told"] (wy Pt.ok λp=>.int p.inner.length):=by
 refine d.d7 l7 Oy Ol (λf h A e s H E c=>have m:=c.units;have r:=c.hd;have o:=l7
  (aE (aP (Qt (eX (aR fM c (by omega) (by rfl) (aA (dv 0) aC))) (ba (Eh a (by rfl) (ba (dv 0) aI (λ_ _=>rfl)) (λ_ _=>rfl)) aI (λ_ _=>rfl)) aI)))) ?_
 rintro l Q ⟨p,rfl,b,q⟩
 cases p with
 |given v=>exact⟨_,rfl,.given v,rfl,b,_,rfl,aq ⟨_,rfl,_,rfl,"given",sh 2 0,rfl,(by kernel_rfl),_,rfl,q⟩⟩
 |named s=>exact⟨_,rfl,.named s,rfl,b,_,rfl,aq ⟨_,rfl,_,rfl,"named",sh 2 0,rfl,(by kernel_rfl),_,rfl,q⟩⟩
 |turned x=>exact⟨_,rfl,.turned x,rfl,b,_,rfl,aq ⟨_,rfl,_,rfl,"not",sh 2 1,rfl,(by kernel_rfl),_,rfl,q⟩⟩
 |pair g x y=>exact⟨_,rfl,.pair g x y,rfl,b,_,rfl,aU q⟩
 |choice x y z=>exact⟨_,rfl,.choice x y z,rfl,b,_,rfl,aq ⟨_,rfl,_,rfl,"if",sh 4 3,rfl,(by kernel_rfl),_,rfl,q⟩⟩
 |before x f=>exact⟨_,rfl,.before x f,rfl,b,_,rfl,aq ⟨_,rfl,_,rfl,"before",sh 3 1,rfl,(by kernel_rfl),_,rfl,q⟩⟩
 |led x y=>exact⟨_,rfl,.led x y,rfl,b,_,rfl,aq ⟨_,rfl,_,rfl,"then",sh 3 2,rfl,(by kernel_rfl),_,rfl,q⟩⟩
 |cv x s=>exact⟨_,rfl,.cv x s,rfl,b,_,rfl,aq ⟨_,rfl,_,rfl,"when",sh 3 1,rfl,(by kernel_rfl),_,rfl,q⟩⟩
 |held x s f=>exact⟨_,rfl,.held x s f,rfl,b,_,rfl,aq ⟨_,rfl,_,rfl,"held",sh 4 1,rfl,(by kernel_rfl),_,rfl,q⟩⟩
def Dh(T:i+1<=j)(J:n<=N)(d:Df K mg "part_of" mQ ["told"])(iP:bo P w K mg base j "many_within" ["told"] (wy Pt.ok λp=>.int p.inner.length))(fM:bo P w K mg base j "has_shape" ["told"] (wy Pt.ok λp=>.bl (!p.r8)))
  (l:bo P w K mg base j "part_of" ["told"] (Dp A m))(M:n<=m+1)
  (nF:bo P w K mg base j "plain_by" ["told","inner"] (Ay A N true))(nG:bo P w K mg base j "timed_by" ["told","inner"] (Ay A N false))
  (o:pM P w K mg base i "Pair" A.pair (λt Q=>∃(g:Str) (x y:Pt),t=[.str g,x.d A,y.d A]/\g∈lD/\(Pt.pair g x y).depth<=N/\qX (.pair g x y)/\Q [("sign",.str g),("one",x.d A),("other",y.d A)]) [])
  : bo P w K mg base (j+1) "part_of" ["told"] (Dp A n):=by
 refine d.d7 tD RB (fun t Q ⟨x,e,_⟩=>by rw[e];rfl) (λf L A u s H E r=>have S:=r.units;have R:=r.hd;have O:=tD
  (aK (RV (i:=1) O.nd rfl (TQ rfl) (x:="one") (caps:=[]) (cn:=[]) (cl:=[]) (h_ (by rfl) (by rfl) (by decide +kernel) (by decide +kernel) (by decide +kernel)) rfl (cF (dW (dv 0) (dh aI) (dh (bz aI (aR iP r (by omega) (by rfl) (aA (dv 0) aC)))))) (λC F B I=>az (i:=0) (show(["one"]:List Str).Nodup by decide +kernel) rfl (TQ rfl) (.inr rfl)) (λC F B I=>cm) (λC F B I=>(aR l r (by omega) (by rfl) (aA (dv 0) aC))))
 (aK (cw (gz (eX (aR fM r (by omega) (by rfl) (aA (dv 0) aC)))) (aE (aP (qp o r (by omega) (by rfl) (aA (ba (dv 0) aI (λ_ _=>rfl)) (aA (ba (dv 1) aI (λ_ _=>rfl)) (aA (ba (dv 1) aI (λ_ _=>rfl)) aC)))))) ay)
 (aK (cw (zO (ba (dv 0) aI (λ_ _=>rfl)) (bT (pN (by rfl))) (by rfl)) (aE (aP (aR nF r (by omega) (by rfl) (aA (dv 0) (aA (dv 1) aC))))) ay)
 (aE (aP (aR nG r (by omega) (by rfl) (aA (dv 0) (aA (dv 1) aC))))))))) ?_
 rintro t Q ⟨p,rfl,G,a,h,q⟩
 have c:p.depth<=m+1:=G' G M
 have b:p.depth<=N:=G' G J
 cases p with
 |given v =>
  refine⟨_,rfl,_,rfl,_,rfl,.given v,rfl,a,_,rfl,fT,(Pt.given v).inner.map Pt.told,rfl,_,kJ (.given v),fz (.given v) c a h,of_lt (.given v),?_⟩
  rw[kK]
  exact⟨_,rfl,.given v,rfl,a,_,rfl,aU ⟨_,rfl,_,rfl,(by decide),rfl,(by decide),true,congrArg D.bl (by decide +kernel),aq ⟨_,rfl,_,rfl,.given v,rfl,rfl,rfl,a,h,b,q⟩⟩⟩
 |named s =>
  refine⟨_,rfl,_,rfl,_,rfl,.named s,rfl,a,_,rfl,fT,(Pt.named s).inner.map Pt.told,rfl,_,kJ (.named s),fz (.named s) c a h,of_lt (.named s),?_⟩
  rw[kK]
  exact⟨_,rfl,.named s,rfl,a,_,rfl,aU ⟨_,rfl,_,rfl,(by decide),rfl,(by decide),true,congrArg D.bl (by decide +kernel),aq ⟨_,rfl,_,rfl,.named s,rfl,rfl,rfl,a,h,b,q⟩⟩⟩
 |turned x =>
  refine⟨_,rfl,_,rfl,_,rfl,.turned x,rfl,a,_,rfl,fT,(Pt.turned x).inner.map Pt.told,rfl,_,kJ (.turned x),fz (.turned x) c a h,of_lt (.turned x),?_⟩
  rw[kK]
  exact⟨_,rfl,.turned x,rfl,a,_,rfl,aU ⟨_,rfl,_,rfl,(by decide),rfl,(by decide),true,congrArg D.bl (by decide +kernel),aq ⟨_,rfl,_,rfl,.turned x,rfl,rfl,rfl,a,h,b,q⟩⟩⟩
 |pair g x y =>
  refine⟨_,rfl,_,rfl,_,rfl,.pair g x y,rfl,a,_,rfl,fT,(Pt.pair g x y).inner.map Pt.told,rfl,_,kJ (.pair g x y),fz (.pair g x y) c a h,of_lt (.pair g x y),?_⟩
  rw[kK]
  exact⟨_,rfl,.pair g x y,rfl,a,_,rfl,aq ⟨_,rfl,_,rfl,_,rfl,_,rfl,_,rfl,_,rfl,g,x,y,rfl,a.1,b,h,q⟩⟩
 |choice x y z =>
  refine⟨_,rfl,_,rfl,_,rfl,.choice x y z,rfl,a,_,rfl,fT,(Pt.choice x y z).inner.map Pt.told,rfl,_,kJ (.choice x y z),fz (.choice x y z) c a h,of_lt (.choice x y z),?_⟩
  rw[kK]
  exact⟨_,rfl,.choice x y z,rfl,a,_,rfl,aU ⟨_,rfl,_,rfl,(by decide),rfl,(by decide),true,congrArg D.bl (by decide +kernel),aq ⟨_,rfl,_,rfl,.choice x y z,rfl,rfl,rfl,a,h,b,q⟩⟩⟩
 |before x f =>
  refine⟨_,rfl,_,rfl,_,rfl,.before x f,rfl,a,_,rfl,fT,(Pt.before x f).inner.map Pt.told,rfl,_,kJ (.before x f),fz (.before x f) c a h,of_lt (.before x f),?_⟩
  rw[kK]
  exact⟨_,rfl,.before x f,rfl,a,_,rfl,aU ⟨_,rfl,_,rfl,(by decide),rfl,(by decide),false,congrArg D.bl (by decide +kernel),aU ⟨_,rfl,_,rfl,.before x f,rfl,rfl,rfl,a,h,b,q⟩⟩⟩
 |led x y =>
  refine⟨_,rfl,_,rfl,_,rfl,.led x y,rfl,a,_,rfl,fT,(Pt.led x y).inner.map Pt.told,rfl,_,kJ (.led x y),fz (.led x y) c a h,of_lt (.led x y),?_⟩
  rw[kK]
  exact⟨_,rfl,.led x y,rfl,a,_,rfl,aU ⟨_,rfl,_,rfl,(by decide),rfl,(by decide),false,congrArg D.bl (by decide +kernel),aU ⟨_,rfl,_,rfl,.led x y,rfl,rfl,rfl,a,h,b,q⟩⟩⟩
 |cv x s =>
  refine⟨_,rfl,_,rfl,_,rfl,.cv x s,rfl,a,_,rfl,fT,(Pt.cv x s).inner.map Pt.told,rfl,_,kJ (.cv x s),fz (.cv x s) c a h,of_lt (.cv x s),?_⟩
  rw[kK]
  exact⟨_,rfl,.cv x s,rfl,a,_,rfl,aU ⟨_,rfl,_,rfl,(by decide),rfl,(by decide),false,congrArg D.bl (by decide +kernel),aU ⟨_,rfl,_,rfl,.cv x s,rfl,rfl,rfl,a,h,b,q⟩⟩⟩
 |held x s f =>
  refine⟨_,rfl,_,rfl,_,rfl,.held x s f,rfl,a,_,rfl,fT,(Pt.held x s f).inner.map Pt.told,rfl,_,kJ (.held x s f),fz (.held x s f) c a h,of_lt (.held x s f),?_⟩
  rw[kK]
  exact⟨_,rfl,.held x s f,rfl,a,_,rfl,aU ⟨_,rfl,_,rfl,(by decide),rfl,(by decide),false,congrArg D.bl (by decide +kernel),aU ⟨_,rfl,_,rfl,.held x s f,rfl,rfl,rfl,a,h,b,q⟩⟩⟩
def bR(a:List Str)(n:Str):List Str:=if a.contains n then a else a++[n]
def bj(b:List (List Str)):List Str:=b.foldl (λa l=>l.foldl bR a) []
def bQ(l:List Str):D:=.lst (l.map D.str)
def tG:vj:=λc Q=>∃b:List (List Str),c=[.lst (b.map bQ)]/\(b.map VZ).sum<1000/\∀a,Q (.adr a) [(a,.lst ((bj b).map D.str))]
def Ha(a:List Str)(n:Str):(bR a n).length<=a.length+1:=by
 unfold bR
 split
 ·omega
 ·rw[TY];exact S' _
def ri:∀(l a:List Str),(l.foldl bR a).length<=a.length+l.length
 |[],a=>S' _
 |n::l,a=>by
  have b:=ri l (bR a n)
  have c:=Ha a n
  rw[V9,Tg]
  omega
def p6:∀(b:List (List Str)) (a:List Str),(b.foldl (λa l=>l.foldl bR a) a).length<=a.length+(b.map VZ).sum
 |[],a=>S' _
 |l::b,a=>by
  have c:=p6 b (l.foldl bR a)
  have e:=ri l a
  rw[V9,TM,T3]
  omega
def zN(b:List Nat):∀i,(b.take i).sum<=b.sum:=by
 induction b with
 |nil=>intro i;simp
 |cons a b c =>
  intro i
  cases i with
  |zero=>simp
  |succ i=>rw[List.take_succ_cons,T3,T3];have:=c i;omega
def LO(d:Df K mg "once" Ax ["lists"]):vX P w K mg base (j+1) "once" ["lists"] tG:=by
 refine d.vq CA (fun G P R g ⟨b,e,h,q⟩=>⟨b,e,h,λa=>g _ _ (q a)⟩) (fun G Q ⟨b,e,_⟩=>by rw[e];rfl) (λf J A u s H E F=>have O:=F.units;have N:=F.hd;have v:=CA
  (aM (fw (i:=1) v.nd rfl (TQ rfl) aC)
 (aM (de T7 rfl (cF (dv 0)) (bb (i:=2) v.nd rfl (TQ rfl)) (av (de T7 rfl (cF (dv 2)) (bb (i:=3) v.nd rfl (TQ rfl)) (av (oW (rG (dv 3) (dv 1) (by rfl)) (av (dj (i:=1) rfl (TQ rfl) (dv 3))) kH)))))
 (av (cM (aP (dv 1))))))) ?_
 rintro G Q ⟨b,rfl,S,q⟩
 refine⟨(by decide),λa _=>?_⟩
 refine⟨_,rfl,b.map bQ,rfl,λi δ μ=>(∃x y,δ=[some (.lst (b.map bQ)),some (.adr a),x,y])/\μ=[(a,.lst ((bj (b.take i)).map D.str))],⟨⟨none,none,rfl⟩,rfl⟩,?_,?_⟩
 ·rintro i d δ μ m ⟨⟨x,y,rfl⟩,rfl⟩
  rw[TX] at m
  cases hl:b[i]? with
  |none=>rw[hl] at m;cases m
  |some l =>
   rw[hl] at m
   obtain rfl:bQ l=d:=by simpa using m
   have L:bj (b.take (i+1))=l.foldl bR (bj (b.take i)):=by
    unfold bj
    rw[UX,hl,ZE]
    rfl
   have B:(bj (b.take i)).length+l.length<1000:=by
    have r:=p6 (b.take i) []
    have I:=zN (b.map VZ) (i+1)
    rw[<- WW,UX,hl] at I
    simp only[Option.toList_some,Tv,TM,T',List.sum_append,T3,UJ] at I
    simp only[Tz] at r
    unfold bj
    omega
   refine⟨_,rfl,l.map D.str,rfl,λk δ μ=>(∃y,δ=[some (.lst (b.map bQ)),some (.adr a),some (bQ l),y])/\μ=[(a,.lst (((l.take k).foldl bR (bj (b.take i))).map D.str))],⟨⟨y,rfl⟩,rfl⟩,?_,?_⟩
   ·rintro k d δ μ m ⟨⟨y,rfl⟩,rfl⟩
    rw[TX] at m
    cases hn:l[k]? with
    |none=>rw[hn] at m;cases m
    |some n =>
     rw[hn] at m
     obtain rfl:D.str n=d:=by simpa using m
     have M:k<l.length:=(Te.mp hn).1
     have t:(l.take (k+1)).foldl bR (bj (b.take i))=bR ((l.take k).foldl bR (bj (b.take i))) n:=by
      rw[UX,hn,ZE]
      rfl
     have o:((l.take k).foldl bR (bj (b.take i))).length<1000:=by
      have r:=ri (l.take k) (bj (b.take i))
      rw[Tu] at r
      omega
     generalize C:(l.take k).foldl bR (bj (b.take i))=c at t o
     have p:aY [(a,MD.lst (c.map D.str))] (.adr a)=.lst (c.map D.str):=by simp[aY,MD.d,Uc]
     refine⟨_,rfl,_,congrArg (λz=>some (some z)) p,rfl,cH c,!c.contains n,by rw[<- eB];rfl,?_⟩
     cases hc:c.contains n with
     |true =>
      refine aU ?_
      refine⟨⟨_,rfl⟩,?_⟩
      rw[t]
      unfold bR
      rw[hc]
      rfl
     |false =>
      refine aq ?_
      refine⟨a,c.map D.str,rfl,by simp[Uc],?_,_,rfl,⟨_,rfl⟩,?_⟩
      ·rw[tz];exact Vd o (by decide)
      ·rw[t]
       unfold bR
       rw[hc]
       simp[iU]
   ·rintro δ μ ⟨⟨y,rfl⟩,rfl⟩
    refine⟨⟨_,_,rfl⟩,?_⟩
    rw[tz,T2,L]
 ·rintro δ μ ⟨⟨x,y,rfl⟩,rfl⟩
  refine⟨_,rfl,?_⟩
  rw[tz,T2]
  exact q a
def Pt.own:Pt->List Str
 |.named n=>[n]|.cv _ n=>[n]|.held _ n _=>[n]|_=>[]
def Pt.names:Pt->List Str
 |.given _=>bj [[]]
 |.named n=>bj [[n]]
 |.turned p=>bj [p.names,[]]
 |.pair _ a b=>bj [a.names,b.names,[]]
 |.choice t a b=>bj [t.names,a.names,b.names,[]]
 |.before p _=>bj [p.names,[]]
 |.led h r=>bj [h.names,r.names,[]]
 |.cv p n=>bj [p.names,[n]]
 |.held p n _=>bj [p.names,[n]]
def Pt.qV(p:Pt):p.names=bj (p.inner.map Pt.names++[p.own]):=by cases p<;>rfl
def bu(a:List (List Str)):(bj a).length<=(a.map VZ).sum:=by
 have:=p6 a []
 simpa [bj] using this
def Pt.aj:∀p:Pt,p.names.length<=p.size
 |.given _=>by have:=bu [[]];simp only[Pt.names,Pt.size,TM,T',T3,UJ,Tz] at *;omega
 |.named n=>by have:=bu [[n]];simp only[Pt.names,Pt.size,TM,T',T3,UJ,Tg,Tz] at *;omega
 |.turned p=>by have:=bu [p.names,[]];have c:=p.aj;simp only[Pt.names,Pt.size,TM,T',T3,UJ,Tz] at *;omega
 |.pair _ a b=>by have:=bu [a.names,b.names,[]];have c:=a.aj;have e:=b.aj;simp only[Pt.names,Pt.size,TM,T',T3,UJ,Tz] at *;omega
 |.choice t a b=>by have:=bu [t.names,a.names,b.names,[]];have f:=t.aj;have c:=a.aj;have e:=b.aj;simp only[Pt.names,Pt.size,TM,T',T3,UJ,Tz] at *;omega
 |.before p _=>by have:=bu [p.names,[]];have c:=p.aj;simp only[Pt.names,Pt.size,TM,T',T3,UJ,Tz] at *;omega
 |.led h r=>by have:=bu [h.names,r.names,[]];have c:=h.aj;have e:=r.aj;simp only[Pt.names,Pt.size,TM,T',T3,UJ,Tz] at *;omega
 |.cv p n=>by have:=bu [p.names,[n]];have c:=p.aj;simp only[Pt.names,Pt.size,TM,T',T3,UJ,Tg,Tz] at *;omega
 |.held p n _=>by have:=bu [p.names,[n]];have c:=p.aj;simp only[Pt.names,Pt.size,TM,T',T3,UJ,Tg,Tz] at *;omega
def Pt.Ds(p:Pt):((p.inner.map Pt.names++[p.own]).map VZ).sum<=p.size:=by
 cases p<;>simp only[Pt.inner,Pt.own,Pt.size,TM,T',Vy,Wo,T3,UJ,Tg,Tz]
 case turned a=>have:=a.aj;omega
 case pair a b=>have:=a.aj;have:=b.aj;omega
 case choice t a b=>have:=t.aj;have:=a.aj;have:=b.aj;omega
 case before a _=>have:=a.aj;omega
 case led a b=>have:=a.aj;have:=b.aj;omega
 case cv a _=>have:=a.aj;omega
 case held a _ _=>have:=a.aj;omega
 all_goals omega
def okN(p:Pt):Prop:=p.size<=900
def vA:yk "names":=by unfold yk;decide +kernel
def wU:yk "own_names":=by unfold yk;decide +kernel
def Gk(A:bC)(n:Nat)(ok:Pt->Prop)(g:Pt->List Str)(C:Addr):vj:=λb Q=>∃p:Pt,b=[p.d A]/\p.cls A=C/\p.depth<=n/\ok p/\∀a,Q (.adr a) [(a,.lst ((g p).map D.str))]
def AS :jP (Gk A n ok g C):=fun b P i f ⟨p,e,c,h,o,q⟩=>⟨p,e,c,h,o,λa=>f _ _ (q a)⟩
abbrev MF(P:TV)(w:World)(K:l')(b:Str->Option Value)(a:Heap)(A:bC)(j:Nat)(m:Str)(n:Nat)(ok:Pt->Prop)(g:Pt->List Str):Prop:=∀C,xK A C->lG P w K b a j C m (Gk A n ok g C)
def MF.q(h:MF P w K mg base A j m n ok g):MQ P w K mg base A j m n ok λp=>bQ (g p):=λC t=>by
 obtain⟨f,s,ps,c,M,F,b⟩:=(h C t).ex
 refine⟨⟨f,s,ps,[],[],c,M,F.imp (Gs AS fun ds Q ⟨p,e,o,r,l,q⟩=>⟨p,e,o,r,l,λa=>?_⟩),b,.nil,λ_=>.nil⟩,RC⟩
 have i:aY [(a,MD.lst ((g p).map D.str))] (.adr a)=bQ (g p):=by simp[aY,MD.d,Uc,bQ]
 show Q (aY [(a,MD.lst ((g p).map D.str))] (.adr a))
 rw[i]
 exact q
def Fi(d:∀C,xK A C->Dm K C "names" "Part.names" bE ["self"])(g:vX P w K mg base j "once" ["lists"] tG)(h:MP P w K mg base A j "inner" (n+1) (da A))(b:MP P w K mg base A j "own_names" (n+1) λp=>bQ p.own)
  (c:MQ P w K mg base A j "names" n okN λp=>bQ p.names):MF P w K mg base A (j+1) "names" (n+1) okN Pt.names:=by
 intro C L
 refine(d C L).vq ml AS (fun N Q ⟨p,e,_⟩=>by rw[e];rfl) (λf I A u s H E l=>have S:=l.units;have O:=l.hd;have T:=ml
  (av (oX (E5 g l (by omega) (by rfl) (aA (bz (n_ (x:="part") (caps:=[]) (cn:=[]) (cl:=[]) (h_ (by rfl) (by rfl) (by decide +kernel) (by decide +kernel) (by decide +kernel)) rfl (cF (cj h l (by omega) (dv 0))) (λC B y G=>az (i:=0) (show(["part"]:List Str).Nodup by decide +kernel) rfl (TQ rfl) (.inr rfl)) (λC B y G=>cm) (λC B y G=>(cj c l (by omega) (dv 0)))) (cB (aA (cj b l (by omega) (dv 0)) aC))) aC))))) ?_
 rintro N Q ⟨p,rfl,R,t,F,q⟩
 refine cT bW gE ⟨_,rfl,rfl⟩ t ?_
 refine⟨p.inner.map (Pt.d A),rfl,p.inner.map λq=>some (bQ q.names),by simp,λi d o v m=>?_,?_,?_⟩
 ·obtain⟨r,l,M,J⟩:=oQ v m
  subst M J
  exact⟨rfl,λ_=>cS bW vA ⟨_,rfl,rfl⟩ (p.c_ l t) (G' (Pt.wD l) F) rfl⟩
 ·rw[tz];exact Tc p.cf (by decide)
 ·refine cT (p:=p) bW wU ⟨_,rfl,rfl⟩ t ⟨zL1,?_⟩
  have e:(p.inner.map λq=>some (bQ q.names)).filterMap id++[bQ p.own]=(p.inner.map Pt.names++[p.own]).map bQ:=by
   rw[UW,filterMap_some,Tv,UG]
   rfl
  refine⟨?_,p.inner.map Pt.names++[p.own],?_,?_,λa=>?_⟩
  ·show((p.inner.map λq=>some (bQ q.names)).filterMap id).length+1<=sizeLine
   rw[UW,filterMap_some,tz]
   exact G' (V6 p.cf 1) (by decide)
  ·exact congrArg (λz=>[D.lst z]) e
  ·exact Tc p.Ds (Tc F (by decide))
  ·rw[<- Pt.qV];exact q a
def Pt.aJ:Pt->List Str
 |.given _=>bj [[]]
 |.named n=>bj [[n]]
 |.turned p=>bj [p.aJ,[]]
 |.pair _ a b=>bj [a.aJ,b.aJ,[]]
 |.choice t a b=>bj [t.aJ,a.aJ,b.aJ,[]]
 |.before _ _=>[]
 |.led h r=>bj [h.aJ,r.aJ,[]]
 |.cv p n=>bj [p.aJ,[n]]
 |.held p n _=>bj [p.aJ,[n]]
structure HS (K:l') (A:bC):Prop where
 given:Dm K A.given "own_names" "Part.own_names" aN ["self"]
 named:Dm K A.named "own_names" "Named.own_names" cu ["self"]
 turned:Dm K A.turned "own_names" "Part.own_names" aN ["self"]
 pair:Dm K A.pair "own_names" "Part.own_names" aN ["self"]
 choice:Dm K A.choice "own_names" "Part.own_names" aN ["self"]
 before:Dm K A.before "own_names" "Part.own_names" aN ["self"]
 led:Dm K A.led "own_names" "Part.own_names" aN ["self"]
 cv:Dm K A.cv "own_names" "When.own_names" dN ["self"]
 held:Dm K A.held "own_names" "Held.own_names" dJ ["self"]
def Dc(b:hV K A)(d:Dm K A.given "own_names" "Part.own_names" aN ["self"]):bw P w K mg base (j+1) A.given "own_names" (tH A n (λp=>bQ p.own) A.given) []:=by
 refine d.d7 ag uG ur (λf h A a s H E e=>have l:=e.units;have r:=e.hd;have m:=ag
  (aE (aP (cB aC)))) ?_
 rintro i Q ⟨p,rfl,g,t,q⟩
 have c:=b.cl _ (Pt.aW A p)
 have o:=b.ia _ (Pt.aW A p)
 obtain⟨v,rfl⟩:=yL b g
 exact⟨zL0,q⟩
def Dg(b:hV K A)(d:Dm K A.named "own_names" "Named.own_names" cu ["self"]):bw P w K mg base (j+1) A.named "own_names" (tH A n (λp=>bQ p.own) A.named) []:=by
 refine d.d7 gq uG ur (λf h A a s H E e=>have m:=e.units;have r:=e.hd;have o:=gq
  (aE (aP (cB (aA (a_ K rfl (dv 0) (by rfl)) aC))))) ?_
 rintro l Q ⟨p,rfl,g,t,q⟩
 have c:=b.cl _ (Pt.aW A p)
 have i:=b.ia _ (Pt.aW A p)
 obtain⟨s,rfl⟩:=yM b g
 exact bF rfl c (i _ (by decide)) (by kernel_rfl) ⟨zL1,q⟩
def Ak(b:hV K A)(d:Dm K A.turned "own_names" "Part.own_names" aN ["self"]):bw P w K mg base (j+1) A.turned "own_names" (tH A n (λp=>bQ p.own) A.turned) []:=by
 refine d.d7 ag uG ur (λf h A a s H E e=>have l:=e.units;have r:=e.hd;have m:=ag
  (aE (aP (cB aC)))) ?_
 rintro i Q ⟨p,rfl,g,t,q⟩
 have c:=b.cl _ (Pt.aW A p)
 have o:=b.ia _ (Pt.aW A p)
 obtain⟨x,rfl⟩:=uk b g
 exact⟨zL0,q⟩
def F5(b:hV K A)(d:Dm K A.pair "own_names" "Part.own_names" aN ["self"]):bw P w K mg base (j+1) A.pair "own_names" (tH A n (λp=>bQ p.own) A.pair) []:=by
 refine d.d7 ag uG ur (λf i A a s H E e=>have m:=e.units;have t:=e.hd;have o:=ag
  (aE (aP (cB aC)))) ?_
 rintro l Q ⟨p,rfl,h,u,q⟩
 have c:=b.cl _ (Pt.aW A p)
 have r:=b.ia _ (Pt.aW A p)
 obtain⟨g,x,y,rfl⟩:=Bl b h
 exact⟨zL0,q⟩
def Aj(b:hV K A)(d:Dm K A.choice "own_names" "Part.own_names" aN ["self"]):bw P w K mg base (j+1) A.choice "own_names" (tH A n (λp=>bQ p.own) A.choice) []:=by
 refine d.d7 ag uG ur (λf h A a s H E e=>have l:=e.units;have r:=e.hd;have m:=ag
  (aE (aP (cB aC)))) ?_
 rintro i Q ⟨p,rfl,g,t,q⟩
 have c:=b.cl _ (Pt.aW A p)
 have o:=b.ia _ (Pt.aW A p)
 obtain⟨x,y,z,rfl⟩:=uj b g
 exact⟨zL0,q⟩
def Ai(b:hV K A)(d:Dm K A.before "own_names" "Part.own_names" aN ["self"]):bw P w K mg base (j+1) A.before "own_names" (tH A n (λp=>bQ p.own) A.before) []:=by
 refine d.d7 ag uG ur (λf h A a s H E e=>have l:=e.units;have r:=e.hd;have m:=ag
  (aE (aP (cB aC)))) ?_
 rintro i Q ⟨p,rfl,g,t,q⟩
 have c:=b.cl _ (Pt.aW A p)
 have o:=b.ia _ (Pt.aW A p)
 obtain⟨x,f,rfl⟩:=pV b g
 exact⟨zL0,q⟩
def JK(b:hV K A)(d:Dm K A.led "own_names" "Part.own_names" aN ["self"]):bw P w K mg base (j+1) A.led "own_names" (tH A n (λp=>bQ p.own) A.led) []:=by
 refine d.d7 ag uG ur (λf h A a s H E e=>have l:=e.units;have r:=e.hd;have m:=ag
  (aE (aP (cB aC)))) ?_
 rintro i Q ⟨p,rfl,g,t,q⟩
 have c:=b.cl _ (Pt.aW A p)
 have o:=b.ia _ (Pt.aW A p)
 obtain⟨x,y,rfl⟩:=FG b g
 exact⟨zL0,q⟩
def JL(b:hV K A)(d:Dm K A.cv "own_names" "When.own_names" dN ["self"]):bw P w K mg base (j+1) A.cv "own_names" (tH A n (λp=>bQ p.own) A.cv) []:=by
 refine d.d7 iJ uG ur (λf h A a s H E e=>have m:=e.units;have r:=e.hd;have o:=iJ
  (aE (aP (cB (aA (a_ K rfl (dv 0) (by rfl)) aC))))) ?_
 rintro l Q ⟨p,rfl,g,t,q⟩
 have c:=b.cl _ (Pt.aW A p)
 have i:=b.ia _ (Pt.aW A p)
 obtain⟨x,s,rfl⟩:=FH b g
 exact bF rfl c (i _ (by decide)) (by kernel_rfl) ⟨zL1,q⟩
def F3(b:hV K A)(d:Dm K A.held "own_names" "Held.own_names" dJ ["self"]):bw P w K mg base (j+1) A.held "own_names" (tH A n (λp=>bQ p.own) A.held) []:=by
 refine d.d7 iF uG ur (λf h A a s H E e=>have m:=e.units;have r:=e.hd;have o:=iF
  (aE (aP (cB (aA (a_ K rfl (dv 0) (by rfl)) aC))))) ?_
 rintro l Q ⟨p,rfl,g,t,q⟩
 have c:=b.cl _ (Pt.aW A p)
 have i:=b.ia _ (Pt.aW A p)
 obtain⟨x,s,f,rfl⟩:=Bk b g
 exact bF rfl c (i _ (by decide)) (by kernel_rfl) ⟨zL1,q⟩
def wV(a:hV K A)(d:HS K A)(n:Nat):MP P w K mg base A (j+1) "own_names" n λp=>bQ p.own:=fun C ⟨p,e⟩=>by
 subst e
 cases p
 ·exact Dc a d.given
 ·exact Dg a d.named
 ·exact Ak a d.turned
 ·exact F5 a d.pair
 ·exact Aj a d.choice
 ·exact Ai a d.before
 ·exact JK a d.led
 ·exact JL a d.cv
 ·exact F3 a d.held
def Dm.Ab{st:Stmt}(d:Dm K C m a st l)(p:jP sd)(h:∀e Q,¬sd e Q):lG P w K mg base j C m sd:=by
 obtain⟨f,r,F,M,c,b⟩:=d.ex
 exact⟨⟨f,r,l,c,M,⟨fun o H Q E ⟨e,_,q⟩=>(h _ _ q).elim,fun A g s H i t o Q E _ _ _ _ ⟨e,_,q⟩=>(h _ _ q).elim⟩,b⟩,p⟩
def xH(a:List D)(Q:D->Mu->Prop):¬ Gk A 0 ok g C a Q:=fun⟨p,_,_,h,_⟩=>absurd p.gD (by omega)
def uy(b:hV K A)(e:pK K A)(c:HS K A)(a:vX P w K mg base 1 "once" ["lists"] tG)(d:∀C,xK A C->Dm K C "names" "Part.names" bE ["self"]):∀n,MF P w K mg base A (n+1) "names" n okN Pt.names
 | 0=>λC g=>Dm.Ab (d C g) AS xH
 |n+1=>Fi d (let ⟨f,h,F,r⟩:=a.ex;⟨⟨f,h,F.mono (show 1<=n+1 by omega),r⟩,a.ms⟩) (iu b e _) (wV b c _) (MF.q (uy b e c a d n))
def Pt.cG:Pt->Bool
 |.before _ _=>true
 |_=>false
def Pt.iC(p:Pt)(h:p.cG=false):p.aJ=bj (p.inner.map Pt.aJ++[p.own]):=by cases p<;>first|rfl|cases h
def Pt.ak:∀p:Pt,p.aJ.length<=p.size
 |.given _=>by have:=bu [[]];simp only[Pt.aJ,Pt.size,TM,T',T3,UJ,Tz] at *;omega
 |.named n=>by have:=bu [[n]];simp only[Pt.aJ,Pt.size,TM,T',T3,UJ,Tg,Tz] at *;omega
 |.turned p=>by have:=bu [p.aJ,[]];have c:=p.ak;simp only[Pt.aJ,Pt.size,TM,T',T3,UJ,Tz] at *;omega
 |.pair _ a b=>by have:=bu [a.aJ,b.aJ,[]];have c:=a.ak;have e:=b.ak;simp only[Pt.aJ,Pt.size,TM,T',T3,UJ,Tz] at *;omega
 |.choice t a b=>by have:=bu [t.aJ,a.aJ,b.aJ,[]];have f:=t.ak;have c:=a.ak;have e:=b.ak;simp only[Pt.aJ,Pt.size,TM,T',T3,UJ,Tz] at *;omega
 |.before p _=>by simp only[Pt.aJ,Pt.size,Tz];omega
 |.led h r=>by have:=bu [h.aJ,r.aJ,[]];have c:=h.ak;have e:=r.ak;simp only[Pt.aJ,Pt.size,TM,T',T3,UJ,Tz] at *;omega
 |.cv p n=>by have:=bu [p.aJ,[n]];have c:=p.ak;simp only[Pt.aJ,Pt.size,TM,T',T3,UJ,Tg,Tz] at *;omega
 |.held p n _=>by have:=bu [p.aJ,[n]];have c:=p.ak;simp only[Pt.aJ,Pt.size,TM,T',T3,UJ,Tg,Tz] at *;omega
def Pt.Dt(p:Pt):((p.inner.map Pt.aJ++[p.own]).map VZ).sum<=p.size:=by
 cases p<;>simp only[Pt.inner,Pt.own,Pt.size,TM,T',Vy,Wo,T3,UJ,Tg,Tz]
 case turned a=>have:=a.ak;omega
 case pair a b=>have:=a.ak;have:=b.ak;omega
 case choice t a b=>have:=t.ak;have:=a.ak;have:=b.ak;omega
 case before a _=>have:=a.ak;omega
 case led a b=>have:=a.ak;have:=b.ak;omega
 case cv a _=>have:=a.ak;omega
 case held a _ _=>have:=a.ak;omega
 all_goals omega
def mL:yk "needs":=by unfold yk;decide +kernel
def Fj(J:∀p:Pt,p.cls A=C->p.cG=false)(d:Dm K C "needs" "Part.needs" bX ["self"])(g:vX P w K mg base j "once" ["lists"] tG)(h:MP P w K mg base A j "inner" (n+1) (da A))(b:MP P w K mg base A j "own_names" (n+1) λp=>bQ p.own)
  (c:MQ P w K mg base A j "needs" n okN λp=>bQ p.aJ):lG P w K mg base (j+1) C "needs" (Gk A (n+1) okN Pt.aJ C):=by
 refine d.vq mm AS (fun O Q ⟨p,e,_⟩=>by rw[e];rfl) (λf L A u s H E l=>have S:=l.units;have R:=l.hd;have T:=mm
  (av (oX (E5 g l (by omega) (by rfl) (aA (bz (n_ (x:="part") (caps:=[]) (cn:=[]) (cl:=[]) (h_ (by rfl) (by rfl) (by decide +kernel) (by decide +kernel) (by decide +kernel)) rfl (cF (cj h l (by omega) (dv 0))) (λC B y G=>az (i:=0) (show(["part"]:List Str).Nodup by decide +kernel) rfl (TQ rfl) (.inr rfl)) (λC B y G=>cm) (λC B y G=>(cj c l (by omega) (dv 0)))) (cB (aA (cj b l (by omega) (dv 0)) aC))) aC))))) ?_
 rintro O Q ⟨p,rfl,I,t,F,q⟩
 refine cT bW gE ⟨_,rfl,rfl⟩ t ?_
 refine⟨p.inner.map (Pt.d A),rfl,p.inner.map λq=>some (bQ q.aJ),by simp,λi d o v m=>?_,?_,?_⟩
 ·obtain⟨r,l,N,M⟩:=oQ v m
  subst N M
  exact⟨rfl,λ_=>cS bW mL ⟨_,rfl,rfl⟩ (p.c_ l t) (G' (Pt.wD l) F) rfl⟩
 ·rw[tz];exact Tc p.cf (by decide)
 ·refine cT (p:=p) bW wU ⟨_,rfl,rfl⟩ t ⟨zL1,?_⟩
  have e:(p.inner.map λq=>some (bQ q.aJ)).filterMap id++[bQ p.own]=(p.inner.map Pt.aJ++[p.own]).map bQ:=by
   rw[UW,filterMap_some,Tv,UG]
   rfl
  refine⟨?_,p.inner.map Pt.aJ++[p.own],?_,?_,λa=>?_⟩
  ·show((p.inner.map λq=>some (bQ q.aJ)).filterMap id).length+1<=sizeLine
   rw[UW,filterMap_some,tz]
   exact G' (V6 p.cf 1) (by decide)
  ·exact congrArg (λz=>[D.lst z]) e
  ·exact Tc p.Dt (Tc F (by decide))
  ·rw[<- Pt.iC p (J p I)];exact q a
def wN(l:hV K A)(d:Dm K A.before "needs" "Before.needs" eG ["self"]):lG P w K mg base (j+1) A.before "needs" (Gk A n okN Pt.aJ A.before):=by
 refine d.vq ku AS (fun h Q ⟨p,e,_⟩=>by rw[e];rfl) (λf i A b s H E c=>have o:=c.units;have t:=c.hd;have r:=ku
  (av (oX (xw aC)))) ?_
 rintro h Q ⟨p,rfl,g,u,m,q⟩
 obtain⟨x,f,rfl⟩:=pV l g
 exact⟨zL0,λa=>q a⟩
structure EA (K:l') (A:bC):Prop where
 part:∀C,xK A C->C≠A.before->Dm K C "needs" "Part.needs" bX ["self"]
 before:Dm K A.before "needs" "Before.needs" eG ["self"]
def u0(a:hV K A)(e:pK K A)(g:HS K A)(c:vX P w K mg base 1 "once" ["lists"] tG)(d:EA K A):∀n,MF P w K mg base A (n+1) "needs" n okN Pt.aJ
 | 0=>λC b=>by
  by_cases h:C=A.before
  ·subst h;exact Dm.Ab d.before AS xH
  ·exact Dm.Ab (d.part C b h) AS xH
 |n+1=>λC b=>by
  by_cases h:C=A.before
  ·subst h;exact wN a d.before
  ·refine Fj (λp i=>?_) (d.part C b h) (let ⟨f,l,F,r⟩:=c.ex;⟨⟨f,l,F.mono (show 1<=n+1 by omega),r⟩,c.ms⟩) (iu a e _) (wV a g _) (MF.q (u0 a e g c d n))
   cases p<;>first|rfl|exact absurd i.symm h
end
inductive Ln where
 |lP (n k:Str) (o:Option Str)|row (n k:Str) (p:Pt) (o:Option Str)
structure LA where
 lP:Addr
 row:Addr
 sh:Addr
def zd:Option Str->D
 |none=>.ae
 |some x=>.str x
def Ln.cls(L:LA):Ln->Addr
 |.lP _ _ _=>L.lP
 |.row _ _ _ _=>L.row
def Ln.d(A:bC)(L:LA):Ln->D
 |.lP n k o=>.obj L.lP [("name",.str n),("kind",.str k),("on",zd o)]
 |.row n k p o=>.obj L.row [("name",.str n),("kind",.str k),("part",p.d A),("on",zd o)]
def Ln.own:Ln->List Str
 |.lP n _ _=>[n]
 |.row n _ _ _=>[n]
def Ln.parts:Ln->List Pt
 |.lP _ _ _=>[]
 |.row _ _ p _=>[p]
def Ln.on:Ln->Option Str
 |.lP _ _ o=>o
 |.row _ _ _ o=>o
def Ln.tQ:Ln->Bool
 |.lP _ k _=>k == "truth"
 |.row _ k _ _=>k == "truth"
def Nt:List Str:=["name","kind","part","on","binds","module","parts","inputs","outputs","lines"]
structure vf (K:l') (L:LA):Prop where
 n1:L.lP≠L.row
 cl:∀C∈[L.lP,L.row,L.sh],tY K C
 ia:∀C∈[L.lP,L.row,L.sh],∀f∈Nt,dP K C f
def Ln.aW(L:LA)(x:Ln):x.cls L∈[L.lP,L.row,L.sh]:=by cases x<;>simp[Ln.cls]
def AJ{K:l'}{x:Ln}(a:vf K L)(h:x.cls L=L.lP):∃n k o,x=.lP n k o:=by
 cases x with
 |lP n k o=>exact⟨n,k,o,rfl⟩
 |row n k p o=>exact absurd h.symm a.n1
def AK{K:l'}{x:Ln}(a:vf K L)(h:x.cls L=L.row):∃n k p o,x=.row n k p o:=by
 cases x with
 |lP n k o=>exact absurd h a.n1
 |row n k p o=>exact⟨n,k,p,o,rfl⟩
def isL(L:LA)(C:Addr):Prop:=∃x:Ln,x.cls L=C
def pq(x:Ln):Prop:=x.own.length<=8/\x.parts.length<=8/\∀p∈x.parts,p.depth<=4/\p.size<=40
def Gg(A:bC)(L:LA)(g:Ln->D)(C:Addr):cI:=λds Q=>∃x:Ln,ds=[x.d A L]/\x.cls L=C/\pq x/\Q (g x)
def Ow :cN (Gg A L g C):=fun a P b f ⟨x,e,c,o,q⟩=>⟨x,e,c,o,f _ q⟩
def QU(a:List D)(Q:D->Prop)(h:Gg A L g C a Q):a.length=1:=by obtain⟨x,e,_⟩:=h;rw[e];rfl
def Jo(A:bC)(L:LA)(g:Ln->List Str)(C:Addr):vj:=λds Q=>∃x:Ln,ds=[x.d A L]/\x.cls L=C/\pq x/\∀a,Q (.adr a) [(a,.lst ((g x).map D.str))]
def Ox :jP (Jo A L g C):=fun b P h f ⟨x,e,c,o,q⟩=>⟨x,e,c,o,λa=>f _ _ (q a)⟩
def wR(m:Str):Prop:=∀f∈Nt,(m == f)=false
def ym(A:bC)(L:LA)(h:wR m)(x:Ln):∃a,x.d A L=.obj (x.cls L) a/\a.lookup m=none:=by
 have l:∀{f:Str} {d:D} {r:List (Str × D)},f∈Nt->r.lookup m=none->((f,d)::r).lookup m=none:=λb c=>by
  rw[Tx,h _ b]
  exact c
 cases x<;>refine⟨_,rfl,?_⟩<;>repeat (first|rfl|refine l (by decide) ?_)
def lR(mt:bK a)(f:wR m)(h:a δ λd=>d=x.d A L)(b:pq x)(q:Q (g x)) :
  m_ (isL L) m (Gg A L g) [] a vn δ Q:=mt _ _ _ (λd e=>by
 obtain⟨i,c,j⟩:=ym A L f x
 exact⟨x.cls L,i,e.trans c,j,⟨x,rfl⟩,x,by rw[UD,e],rfl,b,q⟩) h
def DK(mt:bK b)(i:wR m)(h:b δ λd=>d=x.d A L)(c:pq x)(q:∀a,Q (.adr a) [(a,.lst ((g x).map D.str))]) :
  KZ (isL L) m (Jo A L g) b δ Q:=mt _ _ _ (λd e=>by
 obtain⟨j,f,l⟩:=ym A L i x
 exact⟨x.cls L,j,e.trans f,l,⟨x,rfl⟩,x,by rw[e],rfl,c,q⟩) h
def B0:wR "own_names":=by unfold wR;decide +kernel
def pj:wR "own_parts":=by unfold wR;decide +kernel
def Ac:wR "is_truths":=by unfold wR;decide +kernel
section
seal wpAny
variable {P:TV}{w:World}{K:l'}{mg:Str->Option Value}{base:Heap}{A:bC}{L:LA}{n j:Nat}
structure vZ (K:l') (L:LA):Prop where
 o1:Dm K L.lP "own_names" "Input.own_names" eL ["self"]
 o2:Dm K L.row "own_names" "Row.own_names" fY ["self"]
 p1:Dm K L.lP "own_parts" "Input.own_parts" eM ["self"]
 p2:Dm K L.row "own_parts" "Row.own_parts" fZ ["self"]
 t1:Dm K L.lP "is_truths" "Input.is_truths" eK ["self"]
 t2:Dm K L.row "is_truths" "Row.is_truths" fX ["self"]
def De(b:vf K L)(d:vZ K L)(h:mg "list"=none):∀C,isL L C->lG P w K mg base (j+1) C "own_names" (Jo A L Ln.own C):=fun C ⟨x,e⟩=>by
 subst e
 have one:1<=sizeLine:=by decide
 cases x with
 |lP n k o =>
  refine d.o1.vq gm Ox (fun l Q ⟨x,e,_⟩=>by rw[e];rfl) (λf m A a s H E g=>have u:=g.units;have y:=g.hd;have v:=gm
  (av (oX (xw (aA (a_ K rfl (dv 0) (by rfl)) aC))))) ?_
  rintro l Q ⟨x,rfl,i,t,q⟩
  have c:=b.cl _ (Ln.aW L x)
  have r:=b.ia _ (Ln.aW L x)
  obtain⟨n,k,o,rfl⟩:=AJ b i
  exact bF rfl c (r _ (by decide)) (by kernel_rfl) ⟨one,q⟩
 |row n k p o =>
  refine d.o2.vq jC Ox (fun l Q ⟨x,e,_⟩=>by rw[e];rfl) (λf m A a s H E g=>have u:=g.units;have y:=g.hd;have v:=jC
  (av (oX (xw (aA (a_ K rfl (dv 0) (by rfl)) aC))))) ?_
  rintro l Q ⟨x,rfl,i,t,q⟩
  have c:=b.cl _ (Ln.aW L x)
  have r:=b.ia _ (Ln.aW L x)
  obtain⟨n,k,p,o,rfl⟩:=AK b i
  exact bF rfl c (r _ (by decide)) (by kernel_rfl) ⟨one,q⟩
def yy(g:vf K L)(d:vZ K L):∀C,isL L C->bw P w K mg base (j+1) C "own_parts" (Gg A L (λx=>.tup (x.parts.map (Pt.d A))) C) []:=fun C ⟨x,e⟩=>by
 subst e
 cases x with
 |lP n k o =>
  refine d.p1.d7 gp Ow QU (λf i A a s H E b=>have r:=b.units;have v:=b.hd;have t:=gp
  (aE (aP (bT aC)))) ?_
  rintro m Q ⟨x,rfl,h,l,q⟩
  obtain⟨n,k,o,rfl⟩:=AJ g h
  exact⟨zL0,q⟩
 |row n k p o =>
  refine d.p2.d7 jD Ow QU (λf i A a s H E b=>have r:=b.units;have v:=b.hd;have t:=jD
  (aE (aP (bT (aA (a_ K rfl (dv 0) (by rfl)) aC))))) ?_
  rintro m Q ⟨x,rfl,h,l,q⟩
  have c:=g.cl _ (Ln.aW L x)
  have u:=g.ia _ (Ln.aW L x)
  obtain⟨n,k,p,o,rfl⟩:=AK g h
  exact bF rfl c (u _ (by decide)) (by kernel_rfl) ⟨zL1,q⟩
def xE(b:vf K L)(d:vZ K L):∀C,isL L C->bw P w K mg base (j+1) C "is_truths" (Gg A L (λx=>.bl x.tQ) C) []:=fun C ⟨x,e⟩=>by
 subst e
 cases x with
 |lP n k o =>
  refine d.t1.d7 gj Ow QU (λf i A a s H E g=>have l:=g.units;have y:=g.hd;have v:=gj
  (aE (aP (xh l (a_ K rfl (dv 0) (by rfl)) ar)))) ?_
  rintro u Q ⟨x,rfl,h,t,q⟩
  have c:=b.cl _ (Ln.aW L x)
  have m:=b.ia _ (Ln.aW L x)
  obtain⟨n,k,o,rfl⟩:=AJ b h
  exact bF (r:=.str k) rfl c (m _ (by decide)) (by kernel_rfl) q
 |row n k p o =>
  refine d.t2.d7 jB Ow QU (λf i A a s H E g=>have l:=g.units;have y:=g.hd;have v:=jB
  (aE (aP (xh l (a_ K rfl (dv 0) (by rfl)) ar)))) ?_
  rintro u Q ⟨x,rfl,h,t,q⟩
  have c:=b.cl _ (Ln.aW L x)
  have m:=b.ia _ (Ln.aW L x)
  obtain⟨n,k,p,o,rfl⟩:=AK b h
  exact bF (r:=.str k) rfl c (m _ (by decide)) (by kernel_rfl) q
structure Sh where
 nm:Str
 ins:List Ln
 outs:List Str
 ls:List Ln
def Sh.all(s:Sh):List Ln:=s.ins++s.ls
def Sh.d(A:bC)(L:LA)(s:Sh):D:=.obj L.sh [("name",.str s.nm),("inputs",.tup (s.ins.map (Ln.d A L))),("outputs",.tup (s.outs.map D.str)),("lines",.tup (s.ls.map (Ln.d A L)))]
def Sh.names(s:Sh):List Str:=s.all.flatMap Ln.own
def tabOf(A:bC)(L:LA)(a:List Ln):List (Key × D):=a.flatMap λx=>x.own.map λn=>((Uz n:Key),x.d A L)
def Sh.tab(A:bC)(L:LA)(s:Sh):List (Key × D):=tabOf A L s.all
structure Sh.Ok (s:Sh):Prop where
 len:s.ins.length<=8/\s.ls.length<=10
 ln:∀x∈s.all,pq x
def Sh.Ok.mG{s:Sh}(h:s.Ok):s.all.length<=18:=by
 unfold Sh.all
 rw[TY]
 have:=h.len
 omega
def oJ:∀{xs:List Ln},(∀x∈xs,pq x)->(xs.flatMap Ln.own).length<=8*xs.length
 |[],_=>S' _
 |x::xs,h=>by
  rw[Uy,TY,Tg]
  have b:=(h x N').1
  have c:=oJ (xs:=xs) λy a=>h y (TR _ a)
  omega
def qJ{a:List Ln}{f:Ln->List Str}(h:a[i]?=some x):(a.take (i+1)).flatMap f=(a.take i).flatMap f++f x:=by
 rw[UX,h,U6]
 simp
def pA(A:bC)(L:LA)(ok:Sh->Prop)(g:Sh->D)(C:Addr):cI:=λa Q=>∃s:Sh,a=[s.d A L]/\L.sh=C/\s.Ok/\ok s/\Q (g s)
def MO :cN (pA A L ok g C):=fun a P b f ⟨s,e,c,o,k,q⟩=>⟨s,e,c,o,k,f _ q⟩
def Oj(a:List D)(Q:D->Prop)(h:pA A L ok g C a Q):a.length=1:=by obtain⟨x,e,_⟩:=h;rw[e];rfl
def Pp(A:bC)(L:LA)(C:Addr):vj:=λb Q=>∃s:Sh,b=[s.d A L]/\L.sh=C/\s.Ok/\∀a,Q (.adr a) [(a,.lst (s.names.map D.str))]
def RD :jP (Pp A L C):=fun b P g f ⟨s,e,c,o,q⟩=>⟨s,e,c,o,λa=>f _ _ (q a)⟩
def AI(L:LA)(C:Addr):Prop:=L.sh=C
def yn(A:bC)(L:LA)(h:wR m)(s:Sh):∃a,s.d A L=.obj L.sh a/\a.lookup m=none:=by
 have l:∀{f:Str} {d:D} {r:List (Str × D)},f∈Nt->r.lookup m=none->((f,d)::r).lookup m=none:=λb c=>by
  rw[Tx,h _ b]
  exact c
 refine⟨_,rfl,?_⟩
 repeat (first|rfl|refine l (by decide) ?_)
def fQ(mt:bK a)(i:wR m)(h:a δ λd=>d=s.d A L)(b:s.Ok)(f:ok s)(q:Q (g s)) :
  m_ (AI L) m (pA A L ok g) [] a vn δ Q:=mt _ _ _ (λd e=>by
 obtain⟨l,c,o⟩:=yn A L i s
 exact⟨L.sh,l,e.trans c,o,rfl,s,by rw[UD,e],rfl,b,f,q⟩) h
def oZ:wR "all_lines":=by unfold wR;decide +kernel
def DY:wR "names":=by unfold wR;decide +kernel
def sN:wR "lines_by_name":=by unfold wR;decide +kernel
def C8(A:bC)(L:LA)(s:Sh):D:=.tup (s.all.map (Ln.d A L))
def vL(h:∀p∈a,p.1≠k):om a k v=a++[(k,v)]:=by
 unfold om
 rw[if_neg]
 intro z
 obtain⟨p,b,e⟩:=XS.mp z
 exact h p b (of_decide_eq_true e)
def tO{A:bC}{L:LA}:∀(a:List Ln),(tabOf A L a).map (·.1)=(a.flatMap Ln.own).map Uz
 |[]=>rfl
 |x::a=>by
  unfold tabOf
  rw[Uy,Tv,Uy,Tv,UG]
  have b:=tO (A:=A) (L:=L) a
  unfold tabOf at b
  rw[b]
  rfl
def Jz(a:List Ln):(tabOf A L a).length=(a.flatMap Ln.own).length:=by
 have:=congrArg VZ (tO (A:=A) (L:=L) a)
 simpa using this
def tN(A:bC)(L:LA)(b:List Ln)(x:Ln)(a:List Str):List (Key × D):=tabOf A L b++a.map λn=>((Uz n:Key),x.d A L)
def G3{n:Str}(h:n∉b.flatMap Ln.own++a):om (tN A L b x a) (.inr n) (x.d A L)=tN A L b x (a++[n]):=by
 unfold tN
 rw[vL,Tv,US]
 ·rfl
 ·intro p g e
  apply h
  have:p.1∈(tabOf A L b++a.map λn=>((Uz n:Key),x.d A L)).map (·.1):=Tj.mpr ⟨p,g,rfl⟩
  rw[Tv,tO,UG,e] at this
  rcases T4.mp this with q|q
  ·obtain⟨m,f,c⟩:=Tj.mp q
   cases c
   exact To _ f
  ·obtain⟨m,f,c⟩:=Tj.mp q
   cases c
   exact Tf _ f
def qR(h:∀p∈a,p.1≠k):ee (a++b) k=ee b k:=by
 unfold ee
 rw[List.find?_append,Y4.mpr]
 ·rfl
 ·intro p c z
  exact h p c (of_decide_eq_true z)
def rH{A:bC}{L:LA}{x:Ln}{n:Str}:∀{xs:List Ln},(xs.flatMap Ln.own).Nodup->x∈xs->n∈x.own->ee (tabOf A L xs) (.inr n)=some (x.d A L)
 |[],_,h,_=>(nomatch h)
 |y::xs,g,h,c=>by
  rw[Uy] at g
  obtain⟨v,t,u⟩:=VD.mp g
  show ee ((y.own.map λn=>((Uz n:Key),y.d A L))++tabOf A L xs) (.inr n)=_
  by_cases f:n∈y.own
  ·have e:x=y:=by
    rcases Gc.mp h with e|h
    ·exact e
    ·exact absurd rfl (u n f n (Vx.mpr ⟨x,h,c⟩))
   subst e
   have z:∀(l:List Str),n∈l->ee ((l.map λn=>((Uz n:Key),x.d A L))++tabOf A L xs) (.inr n)=some (x.d A L):=λl=>by
    induction l with
    |nil=>intro q;cases q
    |cons m l s =>
     intro q
     by_cases a:m=n
     ·subst a
      unfold ee
      rw[TM,Vy,UK]
      simp
     ·have b:=s ((Gc.mp q).resolve_left λz=>a z.symm)
      unfold ee at b ⊢
      rw[TM,Vy,UK,show decide (((Uz m:Key),x.d A L).1=Uz n)=false from decide_eq_false λz=>a (Wl z)]
      exact b
   exact z _ f
  ·have i:x∈xs:=by
    rcases Gc.mp h with e|h
    ·rw[e] at c;exact absurd c f
    ·exact h
   rw[qR]
   ·exact rH t i c
   ·intro p o e
    obtain⟨m,r,a⟩:=Tj.mp o
    rw[<- a] at e
    cases e
    exact f r
def Cd(h:vf K L)(d:Dm K L.sh "all_lines" "Sheet.all_lines" eO ["self"]):∀C,AI L C->bw P w K mg base (j+1) C "all_lines" (pA A L (λ_=>True) (C8 A L) C) []:=λC e=>by
 cases e
 refine d.d7 gr MO Oj (λf l A a s H E b=>have o:=b.units;have t:=b.hd;have p:=gr
  (aE (aP (bz (a_ K rfl (dv 0) (by rfl)) (a_ K rfl (dv 0) (by rfl)))))) ?_
 rintro m Q ⟨s,rfl,_,i,_,q⟩
 have c:=h.cl L.sh (by simp)
 have g:=h.ia L.sh (by simp)
 refine bF (r:=.tup (s.ins.map (Ln.d A L))) rfl c (g _ (by decide)) (by kernel_rfl) (bF (r:=.tup (s.ls.map (Ln.d A L))) rfl c (g _ (by decide)) (by kernel_rfl) ⟨?_,?_⟩)
 ·rw[tz,tz]
  exact G' (show s.ins.length+s.ls.length<=18 by have:=i.len;omega) (by decide)
 ·rw[<- Tv]
  exact q
def yg(d:Dm K L.sh "names" "Sheet.names" iV ["self"])(g:∀C,AI L C->bw P w K mg base j C "all_lines" (pA A L (λ_=>True) (C8 A L) C) [])(c:∀C,isL L C->lG P w K mg base j C "own_names" (Jo A L Ln.own C)) :
  ∀C,AI L C->lG P w K mg base (j+1) C "names" (Pp A L C):=λC e=>by
 cases e
 refine d.vq l5 RD (fun u Q ⟨s,e,_⟩=>by rw[e];rfl) (λf v A p s H E o=>have B:=o.units;have I:=o.hd;have t:=l5
  (aM (fw (i:=1) t.nd rfl (TQ rfl) aC)
 (aM (de T7 rfl (cF (cj g o (by omega) (dv 0))) (bb (i:=2) t.nd rfl (TQ rfl)) (av (mK (i:=1) rfl (TQ rfl) (Lv c o (by omega) (dv 2)))))
 (av (cM (aP (dv 1))))))) ?_
 rintro u Q ⟨s,rfl,_,m,q⟩
 refine⟨zL0,λa _=>?_⟩
 refine fQ bW oZ ⟨_,rfl,rfl⟩ m T9 ⟨s.all.map (Ln.d A L),rfl,λi δ μ=>(∃r,δ=[some (s.d A L),some (.adr a),r])/\μ=[(a,.lst (((s.all.take i).flatMap Ln.own).map D.str))],⟨⟨none,rfl⟩,rfl⟩,?_,?_⟩
 ·rintro i dd δ μ l ⟨⟨r,rfl⟩,rfl⟩
  rw[TX] at l
  cases hx:s.all[i]? with
  |none=>rw[hx] at l;cases l
  |some x =>
   rw[hx] at l
   obtain rfl:x.d A L=dd:=by simpa using l
   have h:=m.ln x (K' hx)
   refine⟨a,_,rfl,cK,DK bW B0 ⟨_,rfl,rfl⟩ h λb=>⟨b,_,rfl,cK,?_,⟨_,rfl⟩,?_⟩⟩
   ·rw[tz,tz]
    have F:=oJ (xs:=s.all.take i) λy z=>m.ln y (Ub z)
    have G:(s.all.take i).length<=18:=G' (by rw[Tu];exact Vc _ _) m.mG
    exact G' (show((s.all.take i).flatMap Ln.own).length+x.own.length<=200 by have:=h.1;omega) (by decide)
   ·rw[oj,<- Tv,<- qJ hx]
 ·rintro δ μ ⟨⟨r,rfl⟩,rfl⟩
  rw[tz,T2]
  exact⟨_,rfl,q a⟩
def Hd(d:Dm K L.sh "lines_by_name" "Sheet.lines_by_name" ck ["self"])(b:∀C,AI L C->bw P w K mg base j C "all_lines" (pA A L (λ_=>True) (C8 A L) C) [])(c:∀C,isL L C->bw P w K mg base j C "own_names" (Gg A L (λx=>.lst (x.own.map D.str)) C) []) :
  ∀C,AI L C->bw P w K mg base (j+1) C "lines_by_name" (pA A L (λs=>s.names.Nodup) (λs=>.dK (s.tab A L)) C) []:=λC e=>by
 cases e
 refine d.uA eW MO Oj (λf N A u s H E o=>have O:=o.units;have S:=o.hd;have v:=eW
  (aM (iB (i:=1) v.nd rfl (TQ rfl) qw)
 (aM (de T7 rfl (cF (cj b o (by omega) (dv 0))) (bb (i:=2) v.nd rfl (TQ rfl)) (av (de T7 rfl (cF (cj c o (by omega) (dv 2))) (bb (i:=3) v.nd rfl (TQ rfl)) (av (oV (i:=1) O rfl (TQ rfl) (dv 3) (dv 2))))))
 (av (ph (dv 1)))))) ?_
 rintro T Q ⟨s,rfl,_,p,B,q⟩
 intro a _
 refine fQ bW oZ ⟨_,rfl,rfl⟩ p T9 ⟨s.all.map (Ln.d A L),rfl,λi δ μ=>(∃t h,δ=[some (s.d A L),some (.adr a),t,h])/\μ=[(a,.dK (tabOf A L (s.all.take i)))],⟨⟨none,none,rfl⟩,rfl⟩,?_,?_⟩
 ·rintro i dd δ μ g ⟨⟨t,h,rfl⟩,rfl⟩
  rw[TX] at g
  cases hx:s.all[i]? with
  |none=>rw[hx] at g;cases g
  |some x =>
   rw[hx] at g
   obtain rfl:x.d A L=dd:=by simpa using g
   have l:=p.ln x (K' hx)
   have J:(s.all.take i).length<=18:=G' (by rw[Tu];exact Vc _ _) p.mG
   have G:=oJ (xs:=s.all.take i) λy I=>p.ln y (Ub I)
   have m:((s.all.take i).flatMap Ln.own++x.own).Nodup:=by
    rw[<- qJ hx]
    have e:s.names=(s.all.take (i+1)).flatMap Ln.own++(s.all.drop (i+1)).flatMap Ln.own:=by rw[<- U6,U9];rfl
    rw[e] at B
    exact(VD.mp B).1
   refine lR bW B0 ⟨_,rfl,rfl⟩ l ⟨x.own.map D.str,rfl,λk δ μ=>(∃h,δ=[some (s.d A L),some (.adr a),some (x.d A L),h])/\μ=[(a,.dK (tN A L (s.all.take i) x (x.own.take k)))],⟨⟨h,rfl⟩,?_⟩,?_,?_⟩
   ·unfold tN
    rw[WE,T',UD]
   ·rintro k F δ μ g ⟨⟨M,rfl⟩,rfl⟩
    rw[TX] at g
    cases hn:x.own[k]? with
    |none=>rw[hn] at g;cases g
    |some n =>
     rw[hn] at g
     obtain rfl:D.str n=F:=by simpa using g
     refine⟨_,rfl,a,_,rfl,cK,?_,_,rfl,.inr n,rfl,⟨_,rfl⟩,?_⟩
     ·unfold tN
      rw[TY,tz,Jz,Tu]
      exact Tc (show _+min k x.own.length<=160 by have:=l.1;omega) (by decide)
     ·rw[oj,G3,UX,hn]
      ·rfl
      ·intro z
       have R:k<x.own.length:=(Te.mp hn).1
       have e:x.own=x.own.take k++x.own.drop k:=(U9 k x.own).symm
       have r:n∈x.own.drop k:=by
        rw[Tp]
        exact⟨0,by rw[WH];exact hn⟩
       rw[e,<- US] at m
       exact(VD.mp m).2.2 n z n r rfl
   ·rintro δ μ ⟨⟨M,rfl⟩,rfl⟩
    refine⟨⟨_,_,rfl⟩,?_⟩
    rw[tz,T2]
    unfold tN tabOf
    rw[UX,hx,U6]
    simp
 ·rintro δ μ ⟨⟨t,h,rfl⟩,rfl⟩
  rw[tz,T2]
  refine⟨.dK (s.tab A L),?_,q⟩
  show some (some (aY [(a,_)] (.adr a)))=_
  rw[fk]
  rfl
def zI:cI:=λa Q=>∃z:Str,a=[.bl true,.str z]/\Q .ae
def Pq:cI:=λa Q=>∃x:Str,a=[.str x]/\x.length<=100000/\lE x=true/\Q .ae
def JB:Option Str->Prop
 |none=>True
 |some x=>x.length<=100000/\gS x=true
def NK:cI:=λa Q=>∃o:Option Str,a=[zd o]/\JB o/\Q .ae
def NL:cI:=λa Q=>∃k:Str,a=[.str k]/\k∈(["truth","number"]:List Str)/\Q (.bl true)
def zG(A:bC)(L:LA):cI:=λa Q=>∃s:Sh,a=[s.d A L]/\s.Ok/\1<=s.outs.length/\s.outs.length<=8/\1<=s.ls.length/\Q .ae
def CH:cI:=λb Q=>∃(a:List Str) (z:Str),(b=[.lst (a.map D.str),.str z]\/b=[.tup (a.map D.str),.str z])/\a.Nodup/\a.length<=200/\Q .ae
def PJ:Option Str->List Str
 |none=>[]
 |some x=>[x]
def Ln.iA(x:Ln):List Str:=PJ x.on++x.parts.flatMap Pt.names
def CC(A:bC)(L:LA):vj:=λb Q=>∃x:Ln,b=[x.d A L]/\pq x/\∀a,Q (.adr a) [(a,.lst (x.iA.map D.str))]
def pY(h:pq x):x.iA.length<=330:=by
 unfold Ln.iA
 rw[TY]
 have g:(PJ x.on).length<=1:=by cases x.on<;>simp[PJ]
 have f:∀(a:List Pt),(∀p∈a,p.depth<=4/\p.size<=40)->(a.flatMap Pt.names).length<=40*a.length:=λa=>by
  induction a with
  |nil=>intro _;exact S' _
  |cons p a c =>
   intro b
   rw[Uy,TY,Tg]
   have:=c λq e=>b q (TR _ e)
   have:=(b p N').2
   have:=p.aj
   omega
 have:=f x.parts h.2.2
 have:=h.2.1
 omega
def CB(A:bC)(L:LA):cI:=λa Q=>∃s:Sh,a=[s.d A L,.dK (s.tab A L)]/\s.Ok/\s.names.Nodup/\s.outs.length<=8/\(∀n∈s.outs++s.all.flatMap Ln.iA,n∈s.names)/\Q .ae
def Kk(s:Sh):Prop:=∃r:Str->Nat,(∀n,r n<=100)/\∀x∈s.all,∀n,x.on=some n->∃y∈s.all,n∈y.own/\y.tQ=true/\∀m,y.on=some m->r m<r n
def Kx(A:bC)(L:LA):cI:=λa Q=>∃s:Sh,a=[s.d A L,.dK (s.tab A L)]/\s.Ok/\s.names.Nodup/\Kk s/\Q .ae
def ah(d:Df K mg "need_sheet" kh ["holds","words"]):bo P w K mg base (j+1) "need_sheet" ["holds","words"] zI:=by
 refine d.d7 m8 (fun b P i f ⟨z,e,q⟩=>⟨z,e,f _ q⟩) (fun b Q ⟨z,e,_⟩=>by rw[e];rfl) (λf g A a s H E c=>have h:=c.units;have m:=c.hd;have l:=m8
  (aE (cw (gz (eX (dv 0))) (aE ki) ay))) ?_
 rintro b Q ⟨z,rfl,q⟩
 exact⟨_,rfl,true,rfl,aU q⟩
def lJ(d:Df K mg "need_word" l0 ["word"])(ic:bo P w K mg base j "is_word" ["thing"] (D8 λx=>.bl (lE x))):bo P w K mg base (j+1) "need_word" ["word"] Pq:=by
 refine d.d7 o9 (fun c P p f ⟨z,e,i,m,q⟩=>⟨z,e,i,m,f _ q⟩) (fun c Q ⟨z,e,_⟩=>by rw[e];rfl) (λf g A b s H E a=>have o:=a.units;have t:=a.hd;have r:=o9
  (aE (cw (gz (eX (aR ic a (by omega) (by rfl) (aA (dv 0) aC)))) (aE ki) ay))) ?_
 rintro c Q ⟨x,rfl,h,l,q⟩
 exact⟨_,rfl,x,rfl,h,true,congrArg some l,aU q⟩
def ie(d:Df K mg "need_on" qB ["on"])(bM:bo P w K mg base j "need_name" ["name"] A3):bo P w K mg base (j+1) "need_on" ["on"] NK:=by
 refine d.d7 s_ (fun g P m f ⟨z,e,i,q⟩=>⟨z,e,i,f _ q⟩) (fun g Q ⟨z,e,_⟩=>by rw[e];rfl) (λf h A b s H E a=>have l:=a.units;have r:=a.hd;have p:=s_
  (aE (cw (rF (dv 0) ig) (aE (bI (aR bM a (by omega) (by rfl) (aA (dv 0) aC)))) ay))) ?_
 rintro g Q ⟨o,rfl,c,q⟩
 cases o with
 |none=>exact⟨_,rfl,false,rfl,aU q⟩
 |some x=>exact⟨_,rfl,true,rfl,aq ⟨_,rfl,x,rfl,c.1,c.2,q⟩⟩
def cY(d:Df K mg "is_plain_kind" ff ["kind"]):bo P w K mg base (j+1) "is_plain_kind" ["kind"] NL:=by
 refine d.d7 jG (fun b P m f ⟨z,e,i,q⟩=>⟨z,e,i,f _ q⟩) (fun b Q ⟨z,e,_⟩=>by rw[e];rfl) (λf h A a s H E g=>have l:=g.units;have p:=g.hd;have o:=jG
  (aE (aP (Cq (dv 0) (bT (pN (by rfl))) (by rfl))))) ?_
 rintro b Q ⟨k,rfl,c,q⟩
 refine⟨_,rfl,zL2,rfl,rfl,?_⟩
 simp only[Gc,Tt,or_false] at c
 rcases c with rfl|rfl<;>exact q
def iQ(B:vf K L)(d:Df K mg "need_counts" iY ["sheet"])(u:mg "len"=none)(g1:GI mg "MOST_INPUTS" 8)(g2:GI mg "MOST_OUTPUTS" 8)(g3:GI mg "MOST_LINES" 80)(ah:bo P w K mg base j "need_sheet" ["holds","words"] zI):bo P w K mg base (j+1) "need_counts" ["sheet"] (zG A L):=by
 obtain⟨X,l⟩:=g1.ex
 obtain⟨W,a⟩:=g2.ex
 obtain⟨M,p⟩:=g3.ex
 have i:RelV (.int 8) (.int 8 X):=⟨_,rfl⟩
 have g:RelV (.int 8) (.int 8 W):=⟨_,rfl⟩
 have o:RelV (.int 80) (.int 80 M):=⟨_,rfl⟩
 have m:∀H,Dv K H (.int 8) (.int 8):=λ_=>.int _
 have h:∀H,Dv K H (.int 8) (.int 8):=λ_=>.int _
 have t:∀H,Dv K H (.int 80) (.int 80):=λ_=>.int _
 refine d.d7 l9 (fun G P P' f ⟨s,e,C,I,J,T,q⟩=>⟨s,e,C,I,J,T,f _ q⟩) (fun G Q ⟨z,e,_⟩=>by rw[e];rfl) (λf R A y s H E v=>have hu:=v.units;have Z:=v.hd;have sc:=l9
  (aK (bI (aR ah v (by omega) (by rfl) (aA (Lb (di (by rfl) u (aA (a_ K rfl (dv 0) (by rfl)) aC)) (d8 (by rfl) l i m)) (aA ar aC))))
 (aK (bI (aR ah v (by omega) (by rfl) (aA (zu aI (di (by rfl) u (aA (a_ K rfl (dv 0) (by rfl)) aC)) (d8 (by rfl) a g h)) (aA ar aC))))
 (aE (bI (aR ah v (by omega) (by rfl) (aA (zu aI (di (by rfl) u (aA (a_ K rfl (dv 0) (by rfl)) aC)) (d8 (by rfl) p o t)) (aA ar aC)))))))) ?_
 rintro G Q ⟨s,rfl,F,C,I,J,q⟩
 have c:=B.cl L.sh (by simp)
 have x:=B.ia L.sh (by simp)
 have U:decide (((s.ins.map (Ln.d A L)).length:Int)<=8)=true:=decide_eq_true (by rw[tz];have:=F.len;omega)
 have S:decide ((1:Int)<=((s.outs.map D.str).length:Int))=true:=decide_eq_true (by rw[tz];omega)
 have Y:decide (((s.outs.map D.str).length:Int)<=8)=true:=decide_eq_true (by rw[tz];omega)
 have N:decide ((1:Int)<=((s.ls.map (Ln.d A L)).length:Int))=true:=decide_eq_true (by rw[tz];omega)
 have O:decide (((s.ls.map (Ln.d A L)).length:Int)<=80)=true:=decide_eq_true (by rw[tz];have:=F.len;omega)
 refine bF (r:=.tup (s.ins.map (Ln.d A L))) rfl c (x _ (by decide)) (by kernel_rfl) ⟨_,_,rfl,rfl,_,congrArg (λb=>[D.bl b,D.str _]) U,?_⟩
 refine bF (r:=.tup (s.outs.map D.str)) rfl c (x _ (by decide)) (by kernel_rfl) ⟨_,_,rfl,rfl,true,congrArg D.bl S,aq ⟨_,congrArg (λb=>[D.bl b,D.str _]) Y,?_⟩⟩
 exact bF (r:=.tup (s.ls.map (Ln.d A L))) rfl c (x _ (by decide)) (by kernel_rfl) ⟨_,_,rfl,rfl,true,congrArg D.bl N,aq ⟨_,congrArg (λb=>[D.bl b,D.str _]) O,q⟩⟩
def hZ(d:Df K mg "need_once" lx ["names","words"])(a:mg "len"=none)(c:mg "set"=none)(ah:bo P w K mg base j "need_sheet" ["holds","words"] zI):bo P w K mg base (j+1) "need_once" ["names","words"] CH:=by
 refine d.d7 o7 (fun l P x f ⟨s,z,e,t,u,q⟩=>⟨s,z,e,t,u,f _ q⟩) (fun l Q ⟨s,z,e,_⟩=>by rcases e with e|e<;>rw[e]<;>rfl) (λf p A i s H E h=>have r:=h.units;have v:=h.hd;have y:=o7
  (aE (bI (aR ah h (by omega) (by rfl) (aA (xh r (Ej v (by rfl) a (by rfl) c (dv 0)) (di (by rfl) a (aA (dv 0) aC))) (aA (dv 1) aC)))))) ?_
 rintro l Q ⟨g,z,e,m,o,q⟩
 rcases e with rfl|rfl
 ·refine⟨_,rfl,g,.inl rfl,m,o,_,rfl,_,_,rfl,rfl,?_⟩
  show C5 false (.int (g.length:Int)) (.int ((g.map D.str).length:Int)) _
  rw[tz]
  exact⟨.str z,rfl,z,congrArg (λb=>[D.bl b,D.str z]) (decide_eq_true rfl),q⟩
 ·refine⟨_,rfl,g,.inr rfl,m,o,_,rfl,_,_,rfl,rfl,?_⟩
  show C5 false (.int (g.length:Int)) (.int ((g.map D.str).length:Int)) _
  rw[tz]
  exact⟨.str z,rfl,z,congrArg (λb=>[D.bl b,D.str z]) (decide_eq_true rfl),q⟩
def nJ{x:Ln}{Q:D->Prop}(a:vf K L)(q:Q (zd x.on)):∃C b r,x.d A L=.obj C b/\tY K C/\dP K C "on"/\b.lookup ("on":Str)=some r/\Q r:=by
 have c:=a.cl _ (Ln.aW L x)
 have e:=a.ia _ (Ln.aW L x)
 cases x<;>exact⟨_,_,_,rfl,c,e _ (by decide),(by kernel_rfl),q⟩
def EV(v:vf K L)(d:Df K mg "names_looked_at" eV ["line"])(c:∀C,isL L C->bw P w K mg base j C "own_parts" (Gg A L (λx=>.tup (x.parts.map (Pt.d A))) C) [])(g:MF P w K mg base A j "names" 4 okN Pt.names):vX P w K mg base (j+1) "names_looked_at" ["line"] (CC A L):=by
 refine d.vq gy (fun F P T f ⟨x,e,h,q⟩=>⟨x,e,h,λa=>f _ _ (q a)⟩) (fun F Q ⟨x,e,_⟩=>by rw[e];rfl) (λf I A u s H E o=>have S:=o.units;have R:=o.hd;have G:=gy
  (aM (iB (i:=1) G.nd rfl (TQ rfl) (Qy (P_ (a_ K rfl (dv 0) (by rfl)) ig) (xw aC) (xw (aA (a_ K rfl (dv 0) (by rfl)) aC))))
 (aM (de T7 rfl (cF (cj c o (by omega) (dv 0))) (bb (i:=2) G.nd rfl (TQ rfl)) (av (mK (i:=1) rfl (TQ rfl) (Lv g o (by omega) (dv 2)))))
 (av (cM (aP (dv 1))))))) ?_
 rintro F Q ⟨x,rfl,t,q⟩
 refine Jt (λδ μ=>∃a,δ=[some (x.d A L),some (.adr a),none]/\μ=[(a,.lst ((PJ x.on).map D.str))]) ?_ λN z=>?_
 rotate_left
 ·refine⟨x.d A L,rfl,nJ v ?_⟩
  cases hon:x.on with
  |none=>exact⟨true,rfl,aq ⟨zL0,λa _=>z _ _ ⟨a,rfl,by rw[hon];rfl⟩⟩⟩
  |some y=>exact⟨false,rfl,aU ⟨x.d A L,rfl,nJ v (by rw[hon];exact⟨zL1,λa _=>z _ _ ⟨a,rfl,by rw[hon];rfl⟩⟩)⟩⟩
 ·rintro δ μ ⟨a,rfl,rfl⟩
  refine lR bW pj ⟨_,rfl,rfl⟩ t ⟨x.parts.map (Pt.d A),rfl,λi δ μ=>(∃r,δ=[some (x.d A L),some (.adr a),r])/\μ=[(a,.lst ((PJ x.on++(x.parts.take i).flatMap Pt.names).map D.str))],⟨⟨none,rfl⟩,?_⟩,?_,?_⟩
  ·rw[WE,ZR,UD]
  ·rintro i dd δ μ m ⟨⟨r,rfl⟩,rfl⟩
   rw[TX] at m
   cases hp:x.parts[i]? with
   |none=>rw[hp] at m;cases m
   |some p =>
    rw[hp] at m
    obtain rfl:p.d A=dd:=by simpa using m
    have l:=t.2.2 p (K' hp)
    obtain⟨J,O,M⟩:=rA A vA p
    refine⟨a,_,rfl,cK,p.d A,rfl,p.cls A,J,O,M,⟨p,rfl⟩,p,rfl,rfl,l.1,G' l.2 (by decide),λb=>⟨b,_,rfl,cK,?_,⟨_,rfl⟩,?_⟩⟩
    ·have B:=pY t
     rw[tz,tz]
     have U:((x.parts.take i).flatMap Pt.names).length<=(x.parts.flatMap Pt.names).length:=by
      have e:x.parts.flatMap Pt.names=(x.parts.take i).flatMap Pt.names++(x.parts.drop i).flatMap Pt.names:=by rw[<- U6,U9]
      rw[e,TY]
      omega
     unfold Ln.iA at B
     rw[TY] at B ⊢
     have W:=p.aj
     exact G' (show _+p.names.length<=400 by omega) (by decide)
    ·rw[oj,<- Tv,US,UX,hp,U6]
     simp
  ·rintro δ μ ⟨⟨r,rfl⟩,rfl⟩
   rw[tz,T2]
   exact⟨_,rfl,q a⟩
def sI:∀{xs:List Ln},(∀x∈xs,pq x)->(xs.flatMap Ln.iA).length<=330*xs.length
 |[],_=>S' _
 |x::xs,h=>by
  rw[Uy,TY,Tg]
  have b:=pY (h x N')
  have c:=sI (xs:=xs) λy a=>h y (TR _ a)
  omega
def Sh.has{s:Sh}{n:Str}(c:s.names.Nodup)(h:n∈s.names):∃x∈s.all,n∈x.own/\ee (s.tab A L) (.inr n)=some (x.d A L):=by
 obtain⟨x,a,b⟩:=Vx.mp h
 exact⟨x,a,b,rH c a b⟩
def MR(l:bK td)(m:bK i):bK (K5 td i):=λδ P p g h=>l _ _ _ (λd o=>m _ _ _ (fun e ⟨f,k,z,a,b,c,q⟩=>⟨f,k,z,a,b,c,g _ q⟩) o) h
def jT(J:vf K L)(d:Df K mg "need_known" kg ["sheet","found"])(o:mg "list"=none)(h:∀C,AI L C->bw P w K mg base j C "all_lines" (pA A L (λ_=>True) (C8 A L) C) [])(g:vX P w K mg base j "names_looked_at" ["line"] (CC A L))
  (ah:bo P w K mg base j "need_sheet" ["holds","words"] zI):bo P w K mg base (j+1) "need_known" ["sheet","found"] (CB A L):=by
 refine d.uA m7 (fun N P P' f ⟨s,e,M,O,R,Z,q⟩=>⟨s,e,M,O,R,Z,f _ q⟩) (fun N Q ⟨s,e,_⟩=>by rw[e];rfl) (λf X A G s H E u=>have Y:=u.units;have hh:=u.hd;have I:=m7
  (aM (iB (i:=2) I.nd rfl (TQ rfl) (C6 (by rfl) o (aA (a_ K rfl (dv 0) (by rfl)) aC)))
 (aM (de T7 rfl (cF (cj h u (by omega) (dv 0))) (bb (i:=3) I.nd rfl (TQ rfl)) (av (mK (i:=2) rfl (TQ rfl) (E5 g u (by omega) (by rfl) (aA (dv 3) aC)))))
 (fN (dS (aE (B_ T7 rfl (cF (dv 2)) (bb (i:=4) I.nd rfl (TQ rfl)) (aE (bI (aR ah u (by omega) (by rfl) (aA (OE Y (dv 4) (dv 1) (by rfl)) (aA ar aC)))))))))))) ?_
 rintro N Q ⟨s,rfl,z,S,hou,B,q⟩
 have c:=J.cl L.sh (by simp)
 have T:=J.ia L.sh (by simp)
 refine bF (r:=.tup (s.outs.map D.str)) rfl c (T _ (by decide)) (by kernel_rfl) ⟨s.outs.map D.str,.inr rfl,λa _=>?_⟩
 refine fQ bW oZ ⟨_,rfl,rfl⟩ z T9 ⟨s.all.map (Ln.d A L),rfl,λi δ μ=>(∃p,δ=[some (s.d A L),some (.dK (s.tab A L)),some (.adr a),p,none])/\μ=[(a,.lst ((s.outs++(s.all.take i).flatMap Ln.iA).map D.str))],⟨⟨none,rfl⟩,?_⟩,?_,?_⟩
 ·simp only[WE,ZR,UD]
 ·rintro i dd δ μ l ⟨⟨p,rfl⟩,rfl⟩
  rw[TX] at l
  cases t:s.all[i]? with
  |none=>rw[t] at l;cases l
  |some x =>
   rw[t] at l
   obtain rfl:x.d A L=dd:=by simpa using l
   have v:=z.ln x (K' t)
   refine⟨a,_,rfl,cK,x.d A L,rfl,x,rfl,v,λb=>⟨b,_,rfl,cK,?_,⟨_,rfl⟩,?_⟩⟩
   ·rw[tz,tz,TY]
    have M:=sI (xs:=s.all.take i) λy U=>z.ln y (Ub U)
    have O:(s.all.take i).length<=18:=G' (by rw[Tu];exact Vc _ _) z.mG
    have R:=pY v
    exact G' (show _+x.iA.length<=7000 by omega) (by decide)
   ·rw[oj,<- Tv,US,<- qJ t]
 ·rintro δ μ ⟨⟨p,rfl⟩,rfl⟩
  rw[tz,T2]
  dsimp only
  refine iq (δ':=[some (s.d A L),some (.dK (s.tab A L)),some (.lst ((s.outs++s.all.flatMap Ln.iA).map D.str)),p.map (aY [(a,.lst ((s.outs++s.all.flatMap Ln.iA).map D.str))]),none]) ?_ ?_
  ·show[some (s.d A L),some (.dK (s.tab A L)),some (aY [(a,_)] (.adr a)),_,none]=_
   rw[fk]
   rfl
  generalize p.map (aY [(a,.lst ((s.outs++s.all.flatMap Ln.iA).map D.str))])=W
  refine⟨_,rfl,_,rfl,λi δ=>∃F,δ=[some (s.d A L),some (.dK (s.tab A L)),some (.lst ((s.outs++s.all.flatMap Ln.iA).map D.str)),W,F],⟨none,rfl⟩,?_,?_⟩
  ·rintro i dd δ l ⟨F,rfl⟩
   rw[TX] at l
   cases hn:(s.outs++s.all.flatMap Ln.iA)[i]? with
   |none=>rw[hn] at l;cases l
   |some m =>
    rw[hn] at l
    obtain rfl:D.str m=dd:=by simpa using l
    obtain⟨x,t,hm,hg⟩:=Sh.has (A:=A) (L:=L) S (B m (K' hn))
    have e:(ee (s.tab A L) (.inr m)).isSome=true:=by rw[hg];rfl
    exact⟨.str m,rfl,.dK (s.tab A L),rfl,s.tab A L,.inr m,rfl,rfl,_,congrArg (λb=>[D.bl b,D.str _]) e,_,rfl⟩
  ·rintro δ ⟨F,rfl⟩
   exact q
def BO(s:Sh)(r:Str->Nat)(b:List Str)(m:Nat):Option Str->Prop
 |none=>True
 |some n=>m=r n+1/\b.length+r n<=100/\(∀k∈b,r n<r k)/\∃y∈s.all,n∈y.own/\y.tQ=true/\∀a,y.on=some a->r a<r n
def e_(a:List Str):List (Key × D):=a.map λk=>((Uz k:Key),D.bl true)
def vF{n:Str}(h:n∉a):∀p∈e_ a,p.1≠Uz n:=λp b e=>by
 obtain⟨k,c,rfl⟩:=Tj.mp b
 exact h (Wl e ▸ c)
def Al{n:Str}(h:n∉a):(ee (e_ a) (.inr n)).isSome=false:=by
 have:=qR (b:=[]) (vF h)
 rw[UD] at this
 rw[this]
 rfl
def Am{n:Str}(h:n∉a):om (e_ a) (.inr n) (.bl true)=e_ (a++[n]):=by
 rw[vL (vF h)]
 unfold e_
 rw[Tv]
 rfl
def nD(hL:vf K L)(d:Df K mg "need_ons" nR ["sheet","found"])(c:∀C,AI L C->bw P w K mg base j C "all_lines" (pA A L (λ_=>True) (C8 A L) C) [])(g:∀C,isL L C->bw P w K mg base j C "is_truths" (Gg A L (λx=>.bl x.tQ) C) [])
  (ah:bo P w K mg base j "need_sheet" ["holds","words"] zI):bo P w K mg base (j+1) "need_ons" ["sheet","found"] (Kx A L):=by
 refine d.uA qa (fun ds P P' f ⟨s,e,h1,h2,h3,q⟩=>⟨s,e,h1,h2,h3,f _ q⟩) (fun ds Q ⟨s,e,_⟩=>by rw[e];rfl) (λf cdv A Z s H E l=>have N:=l.units;have hh:=l.hd;have O:=qa
  (av (de T7 rfl (cF (cj c l (by omega) (dv 0))) (bb (i:=2) O.nd rfl (TQ rfl)) (aM (iB (i:=3) O.nd rfl (TQ rfl) qw)
 (aM (cM (bB (i:=4) O.nd rfl (TQ rfl) (a_ K rfl (dv 2) (by rfl))))
 (av (sM T7 (rF (dv 4) ig) (aM (yf (aR ah l (by omega) (by rfl) (aA (cj g l (by omega) (nI N (dv 1) (dv 4) (λ_ _=>rfl))) (aA ar aC))))
 (aM (yf (aR ah l (by omega) (by rfl) (aA (Ek N (dv 4) (dv 3) (by rfl)) (aA ar aC))))
 (aM (oV (i:=3) N rfl (TQ rfl) (dv 4) nH)
 (av (cM (bB (i:=4) O.nd rfl (TQ rfl) (a_ K rfl (nI N (dv 1) (dv 4) (λ_ _=>rfl)) (by rfl))))))))))))))) ?_
 rintro ds Q ⟨s,rfl,ho,nd,⟨r,l,h⟩,q⟩
 have first:∀x∈s.all,∃m,BO s r [] m x.on:=λx u=>by
  cases e:x.on with
  |none=>exact⟨0,T9⟩
  |some n=>exact⟨_,rfl,by have:=l n;simpa using this,(λk R=>nomatch R),h x u n e⟩
 refine fQ bW oZ ⟨_,rfl,rfl⟩ ho T9 ⟨s.all.map (Ln.d A L),rfl,λi δ μ=>∃Y S W,δ=[some (s.d A L),some (.dK (s.tab A L)),Y,S,W],⟨none,none,none,rfl⟩,?_,?_⟩
 ·rintro i dd δ μ G ⟨Y,S,W,rfl⟩
  rw[TX] at G
  cases u:s.all[i]? with
  |none=>rw[u] at G;cases G
  |some x =>
   rw[u] at G
   obtain rfl:x.d A L=dd:=by simpa using G
   have T:=K' u
   intro a _
   refine⟨x.d A L,rfl,nJ hL ?_⟩
   obtain⟨m0,h0⟩:=first x T
   refine⟨λm δ μ=>∃(o:Option Str) (ks:List Str) (t:Mu),δ=[some (s.d A L),some (.dK (s.tab A L)),some (x.d A L),some (.adr a),some (zd o)]/\μ=(a,.dK (e_ ks))::t/\BO s r ks m o,⟨m0,x.on,[],μ,rfl,rfl,h0⟩,?_⟩
   rintro m δ μ ⟨o,ks,t,rfl,rfl,hm⟩
   cases o with
   |none=>exact⟨.ae,rfl,false,rfl,aU ⟨_,_,_,rfl⟩⟩
   |some k =>
    obtain⟨rfl,hk1,F,y,X,R,ht,U⟩:=hm
    have hg:ee (s.tab A L) (.inr k)=some (y.d A L):=rH nd X R
    have p:k∉ks:=λz=>absurd (F k z) (Uw _)
    refine⟨.str k,rfl,true,rfl,aq ?_⟩
    refine lR (x:=y) (MR bW bW) Ac ⟨.dK (s.tab A L),rfl,.str k,rfl,s.tab A L,.inr k,y.d A L,rfl,rfl,hg,rfl⟩ (ho.ln y X) ⟨_,congrArg (λb=>[D.bl b,D.str _]) ht,?_⟩
    have hv:some (some (aY ((a,.dK (e_ ks))::t) (.adr a)))=some (some (D.dK (e_ ks))):=by simp[aY,Uc,MD.d]
    refine⟨.str k,rfl,.dK (e_ ks),hv,e_ ks,.inr k,rfl,rfl,_,congrArg (λb=>[D.bl (!b),D.str _]) (Al p),?_⟩
    refine⟨a,e_ ks,rfl,(by simp[Uc]),?_,.str k,rfl,.inr k,rfl,?_⟩
    ·unfold e_
     rw[tz]
     exact Tc (show ks.length<=100 by omega) (by decide)
    refine⟨.dK (s.tab A L),rfl,.str k,rfl,s.tab A L,.inr k,y.d A L,rfl,rfl,hg,nJ hL ?_⟩
    have I:∀v,iU a v ((a,.dK (e_ ks))::t)=(a,v)::iU a v t:=λv=>by simp[iU]
    rw[I,Am p]
    cases e:y.on with
    |none=>exact⟨0,by omega,none,ks++[k],_,rfl,rfl,T9⟩
    |some M =>
     have B:=U M e
     refine⟨r M+1,by omega,some M,ks++[k],_,rfl,rfl,rfl,?_,?_,h y X M e⟩
     ·rw[TY]
      show ks.length+1+_<=_
      omega
     ·intro z J
      rcases T4.mp J with J|J
      ·exact Vd B (F z J)
      ·rw[D'.mp J];exact B
 ·rintro δ μ ⟨Y,S,W,rfl⟩
  exact q
end
def SW :(putD f d (putD g e (putD h i []))).length<1000:=Tc (G' (gY f d _) (UH (G' (gY g e _) (UH (gY h i []))))) (by decide)
def AM:List Str:=["truth","number"]
def Po:cI:=λ_ _=>False
def Pr:List D->(List (Str × D)->Prop)->Prop:=λds Q=>∃(n k:Str) (o:Option Str),ds=[.str n,.str k,zd o]/\n.length<=100000/\gS n=true/\JB o/\k∈AM/\Q [("name",.str n),("kind",.str k),("on",zd o)]
def Kz:List D->(List (Str × D)->Prop)->Prop:=λds Q=>∃(n k:Str) (p:D) (o:Option Str),ds=[.str n,.str k,p,zd o]/\n.length<=100000/\gS n=true/\JB o/\k∈AM/\Q [("name",.str n),("kind",.str k),("part",p),("on",zd o)]
structure Sh.Good (s:Sh):Prop where
 ok:s.Ok
 wd:s.nm.length<=100000/\lE s.nm=true
 cnt:1<=s.outs.length/\s.outs.length<=8/\1<=s.ls.length
 nd:s.names.Nodup
 Sv:s.outs.Nodup
 Nr:∀n∈s.outs++s.all.flatMap Ln.iA,n∈s.names
 S0:Kk s
def Pu(A:bC)(L:LA):List D->(List (Str × D)->Prop)->Prop:=λds Q=>∃s:Sh,ds=[.str s.nm,.lst (s.ins.map (Ln.d A L)),.lst (s.outs.map D.str),.lst (s.ls.map (Ln.d A L))]/\s.Good/\Q [("name",.str s.nm),("inputs",.tup (s.ins.map (Ln.d A L))),("outputs",.tup (s.outs.map D.str)),("lines",.tup (s.ls.map (Ln.d A L)))]
section
seal wpAny
variable {P:TV}{w:World}{K:l'}{mg:Str->Option Value}{base:Heap}{A:bC}{L:LA}{n j:Nat}{dd:List D}
def Df.never{st:Stmt}(d:Df K mg x st i)(h:∀a Q,¬sd a Q):bo P w K mg base j x i sd:=by
 obtain⟨f,o,F,m,b⟩:=d.ex
 exact⟨⟨f,o,⟨fun l H Q E ⟨a,_,q⟩=>(h _ _ q).elim,fun A c s H e r l Q E _ _ _ _ ⟨a,_,q⟩=>(h _ _ q).elim⟩,m,F.kp,b⟩,λa P p g q=>(h _ _ q).elim⟩
def IU(v:vf K L)(d:Di K mg "Input" L.lP "Input.__init__" dM ["self","name","kind","on"] dd)(bM:bo P w K mg base j "need_name" ["name"] A3)(ie:bo P w K mg base j "need_on" ["on"] NK)(ah:bo P w K mg base j "need_sheet" ["holds","words"] zI)(cY:bo P w K mg base j "is_plain_kind" ["kind"] NL)(b:bo P w K mg base j "is_stretch" ["kind"] Po) :
  pM P w K mg base (j+1) "Input" L.lP Pr dd:=by
 have h:=v.cl L.lP (by simp)
 have m:=v.ia L.lP (by simp)
 refine d.D7 iG (fun u P z g ⟨n,k,o,e,i,p,r,t,q⟩=>⟨n,k,o,e,i,p,r,t,g _ q⟩) (fun u Q ⟨n,k,o,e,_⟩=>by rw[e];rfl) (λf x A l s H E c=>have y:=c.units;have C:=c.hd;have B:=iG
  (ai (eA (bI (aR bM c (by omega) (by rfl) (aA (dv 1) aC))))
 (ai (eA (bI (aR ie c (by omega) (by rfl) (aA (dv 3) aC))))
 (ai (eA (bI (aR ah c (by omega) (by rfl) (aA (OJ (aR cY c (by omega) (by rfl) (aA (dv 2) aC)) (oB (aR b c (by omega) (by rfl) (aA (dv 2) aC)))) (aA ar aC)))))
 (ai (bV K rfl rfl (TQ rfl) (dv 1))
 (ai (bV K rfl rfl (TQ rfl) (dv 2))
 (ai (bV K rfl rfl (TQ rfl) (dv 3))
 Bi))))))) ?_
 rintro a u Q ⟨n,k,o,rfl,i,p,r,t,q⟩
 exact⟨_,rfl,n,rfl,i,p,_,rfl,o,rfl,r,_,rfl,k,rfl,t,true,rfl,aq ⟨_,rfl,_,rfl,rfl,h,m _ (by decide),vI,_,rfl,rfl,h,m _ (by decide),vJ,_,rfl,rfl,h,m _ (by decide),vK,q⟩⟩
def Oi(v:vf K L)(d:Di K mg "Row" L.row "Row.__init__" eN ["self","name","kind","part","on"] dd)(bM:bo P w K mg base j "need_name" ["name"] A3)(ie:bo P w K mg base j "need_on" ["on"] NK)(ah:bo P w K mg base j "need_sheet" ["holds","words"] zI)(cY:bo P w K mg base j "is_plain_kind" ["kind"] NL) :
  pM P w K mg base (j+1) "Row" L.row Kz dd:=by
 have c:=v.cl L.row (by simp)
 have h:=v.ia L.row (by simp)
 refine d.D7 kz (fun u P z g ⟨n,k,p,o,e,i,m,r,t,q⟩=>⟨n,k,p,o,e,i,m,r,t,g _ q⟩) (fun u Q ⟨n,k,p,o,e,_⟩=>by rw[e];rfl) (λf x A l s H E b=>have y:=b.units;have C:=b.hd;have B:=kz
  (ai (eA (bI (aR bM b (by omega) (by rfl) (aA (dv 1) aC))))
 (ai (eA (bI (aR ie b (by omega) (by rfl) (aA (dv 4) aC))))
 (ai (eA (bI (aR ah b (by omega) (by rfl) (aA (aR cY b (by omega) (by rfl) (aA (dv 2) aC)) (aA ar aC)))))
 (ai (bV K rfl rfl (TQ rfl) (dv 1))
 (ai (bV K rfl rfl (TQ rfl) (dv 2))
 (ai (bV K rfl rfl (TQ rfl) (dv 3))
 (ai (bV K rfl rfl (TQ rfl) (dv 4))
 Bi)))))))) ?_
 rintro a u Q ⟨n,k,p,o,rfl,i,m,r,t,q⟩
 exact⟨_,rfl,n,rfl,i,m,_,rfl,o,rfl,r,_,rfl,k,rfl,t,_,rfl,_,rfl,rfl,c,h _ (by decide),vI,_,rfl,rfl,c,h _ (by decide),vJ,_,rfl,rfl,c,h _ (by decide),vK,_,rfl,rfl,c,h _ (by decide),SW,q⟩
def IV(y:vf K L)(d:Di K mg "Sheet" L.sh "Sheet.__init__" fE ["self","name","inputs","outputs","lines"] [])(c:mg "tuple"=none)(lJ:bo P w K mg base j "need_word" ["word"] Pq)(iQ:bo P w K mg base j "need_counts" ["sheet"] (zG A L))(hZ:bo P w K mg base j "need_once" ["names","words"] CH)
  (m:∀C,AI L C->bw P w K mg base j C "names" (pA A L (λ_=>True) (λs=>.lst (s.names.map D.str)) C) [])(b:∀C,AI L C->bw P w K mg base j C "lines_by_name" (pA A L (λs=>s.names.Nodup) (λs=>.dK (s.tab A L)) C) [])
  (jT:bo P w K mg base j "need_known" ["sheet","found"] (CB A L))(nD:bo P w K mg base j "need_ons" ["sheet","found"] (Kx A L)):pM P w K mg base (j+1) "Sheet" L.sh (Pu A L) []:=by
 have p:=y.cl L.sh (by simp)
 have t:=y.ia L.sh (by simp)
 refine d.D7 iI (fun x P G g ⟨s,e,h,q⟩=>⟨s,e,h,g _ q⟩) (fun x Q ⟨s,e,_⟩=>by rw[e];rfl) (λf z A u s H E o=>have F:=o.units;have M:=o.hd;have B:=iI
  (ai (eA (bI (aR lJ o (by omega) (by rfl) (aA (dv 1) aC))))
 (ai (bV K rfl rfl (TQ rfl) (dv 1))
 (ai (bV K rfl rfl (TQ rfl) (jW (by rfl) c (aA (dv 2) aC)))
 (ai (bV K rfl rfl (TQ rfl) (jW (by rfl) c (aA (dv 3) aC)))
 (ai (bV K rfl rfl (TQ rfl) (jW (by rfl) c (aA (dv 4) aC)))
 (lO (aK (bI (aR iQ o (by omega) (by rfl) (aA (dv 0) aC)))
 (aK (bI (aR hZ o (by omega) (by rfl) (aA (cj m o (by omega) (dv 0)) (aA ar aC))))
 (aK (bI (aR hZ o (by omega) (by rfl) (aA (a_ K rfl (dv 0) (by rfl)) (aA ar aC))))
 (aK (bB (i:=5) B.nd rfl (TQ rfl) (cj b o (by omega) (dv 0)))
 (aK (bI (aR jT o (by omega) (by rfl) (aA (dv 0) (aA (dv 5) aC))))
 (aE (bI (aR nD o (by omega) (by rfl) (aA (dv 0) (aA (dv 5) aC))))))))))))))))) ?_
 rintro a x Q ⟨s,rfl,l,q⟩
 have v:s.names.length<=200:=by
  have I:=oJ (xs:=s.all) l.ok.ln
  have J:=l.ok.mG
  unfold Sh.names
  omega
 refine⟨_,rfl,s.nm,rfl,l.wd.1,l.wd.2,_,rfl,rfl,p,t _ (by decide),vI,_,rfl,_,.inl rfl,rfl,p,t _ (by decide),vJ,_,rfl,_,.inl rfl,rfl,p,t _ (by decide),vK,_,rfl,_,.inl rfl,rfl,p,t _ (by decide),SW,rfl,?_⟩
 refine⟨s.d A L,rfl,s,rfl,l.ok,l.cnt.1,l.cnt.2.1,l.cnt.2.2,?_⟩
 refine fQ (s:=s) bW DY ⟨_,rfl,rfl⟩ l.ok T9 ⟨s.names,_,.inl rfl,l.nd,v,?_⟩
 refine bF (r:=.tup (s.outs.map D.str)) rfl p (t _ (by decide)) (by kernel_rfl) ⟨s.outs,_,.inr rfl,l.Sv,by have:=l.cnt;omega,?_⟩
 refine fQ (s:=s) bW sN ⟨_,rfl,rfl⟩ l.ok l.nd ?_
 refine⟨s.d A L,rfl,.dK (s.tab A L),rfl,s,rfl,l.ok,l.nd,l.cnt.2.1,l.Nr,?_⟩
 exact⟨s.d A L,rfl,.dK (s.tab A L),rfl,s,rfl,l.ok,l.nd,l.S0,q⟩
def zj{xs:List α}{i:Int}(b:0<=i)(a:i<xs.length):∃r,r∈xs/\L2.tZ xs i=some r:=by
 unfold L2.tZ L2.L8
 rw[if_pos b,if_pos a]
 have h:i.toNat<xs.length:=by omega
 exact⟨xs[i.toNat],ZQ h,by simp[F' h]⟩
def dE{i:Nat}{x:α}(h:xs[i]?=some x):L2.tZ xs (i:Int)=some x:=by
 unfold L2.tZ L2.L8
 have a:i<xs.length:=(Te.mp h).1
 rw[if_pos (by omega),if_pos (by omega),U2]
 exact h
def Hb(x y:Str):(x++y).cps.toList=x.cps.toList++y.cps.toList:=by
 show(x.cps++y.cps).toList=_
 exact Array.toList_append
def wI(x:Str):x.length=x.cps.toList.length:=by
 show x.cps.size=_
 exact U4.symm
def Hc(x y:Str):(x++y).length=x.length+y.length:=by rw[wI,Hb,TY,<- wI,<- wI]
def cd{i j:Int}(h:0<j)(a:j<1073741824):K8 i j:=⟨h,a⟩
def kG(a:Int)(h:0<b):0<=a%b:=Zm _ (by omega)
def kE(a:Int)(h:0<b):a%b<b:=ZF _ h
def Iw(c k:Int):Int:=(c+7919*k+11)*48271%2147483647
def Iy(c k:Int):0<=Iw c k/\Iw c k<2147483647:=⟨Zm _ (by decide),ZF _ (by decide)⟩
def CF:cI:=λa Q=>∃c k:Int,a=[.int c,.int k]/\∀m:Int,Q (.int m)
def Az:cI:=λa Q=>∃(b:List Int) (k:Nat),a=[.lst (b.map D.int),.int (k:Int)]/\∀c:Int,Q (.int c)
structure EG (ns:List Str):Prop where
 len:ns.length=8
 nd:ns.Nodup
 ok:∀x∈ns,f7 x
def CG:cI:=λb Q=>∃c:Int,b=[.int c]/\∀a:List Str,EG a->Q (.lst (a.map D.str))
def Kj(x:Str):Bool:=gS x&&(decide (x.length<=100)&&W6 x)
def Af(a:List Str):Bool:=decide (a.length=8)&&decide a.Nodup&&a.all Kj
def rC(h:Af ns=true):EG ns:=by
 unfold Af at h
 rw[Tw,Tw] at h
 refine⟨of_decide_eq_true h.1.1,of_decide_eq_true h.1.2,λx a=>?_⟩
 have z:=Ul.mp h.2 x a
 unfold Kj at z
 rw[Tw,Tw] at z
 exact⟨z.1,of_decide_eq_true z.2.1,z.2.2⟩
def Qq:Str:="abcdefghijklm"
def RK(a:Nat):List Str:=(Ua 8).map λi:Nat=>Fg ⟨#[a]⟩ (0+(i:Int)+1)
def Mc:(Qq.cps.toList.all λa=>Af (RK a))=true:=by decide +kernel
def l1:List Str:=["in","not","row","use","end","on","yes","held"]
def SQ:List Str:=l1.map (·++"z")
def Md:Af SQ=true:=by decide +kernel
def l2:List Str:=["row","no","z","zz","if","abcdefgh","or","in"]
def SR:List Str:=l2.map λx=>"in."++x++".q"
def Me:Af SR=true:=by decide +kernel
def zq:Str:="zqzqzqzq"
def bc:Str:="bcdfghjk"
def wd(sz:Int):Str:=VB zq none (some sz)
def Nv(sz a:Int)(b:Nat):Str:=VB (wd sz) none (some a)++⟨#[b]⟩++VB (wd sz) (some (a+1)) none
def QX(sz a:Int):List Str:=(Ua 8).map λi:Nat=>Nv sz a ((L2.tZ bc.cps.toList (0+(i:Int))).getD 0)
def Mf:((Ua 7).all λa:Nat=>(Ua 8).all λb:Nat=>Af (QX (2+(a:Int)) (b:Int)))=true:=by decide +kernel
def MJ(sz a:Int):Bool:=decide ((wd sz).length<=8)&&(decide ((VB (wd sz) none (some a)).length<=8)&&decide ((VB (wd sz) (some (a+1)) none).length<=8))
def Ic:((Ua 7).all λa:Nat=>(Ua 8).all λb:Nat=>MJ (2+(a:Int)) (b:Int))=true:=by decide +kernel
def g0(a:Nat):D->D
 |.int i=>.str (Fg ⟨#[a]⟩ (i+1))
 |_=>.ae
def g1:D->D
 |.str x=>.str (x++"z")
 |_=>.ae
def g2:D->D
 |.str x=>.str ("in."++x++".q")
 |_=>.ae
def g3(sz a:Int):D->D
 |.int i=>.str (Nv sz a ((L2.tZ bc.cps.toList i).getD 0))
 |_=>.ae
def Ph(h:d∈(Ua (8:Int).toNat).map λi:Nat=>D.int (0+(i:Int))):∃i:Nat,i<8/\d=.int (0+(i:Int)):=by
 obtain⟨i,a,rfl⟩:=Tj.mp h
 exact⟨i,U7.mp a,rfl⟩
def He(d:Df K mg "_law_mixed" kW ["_law_cell_here","_law_k"]):bo P w K mg base (j+1) "_law_mixed" ["_law_cell_here","_law_k"] CF:=by
 refine d.d7 mx (fun b P r f ⟨c,k,e,q⟩=>⟨c,k,e,λm=>f _ (q m)⟩) (fun b Q ⟨c,k,e,_⟩=>by rw[e];rfl) (λf h A a s H E g=>have o:=g.units;have t:=g.hd;have l:=mx
  (aK (bB (i:=2) l.nd rfl (TQ rfl) (et (xl (bz (bz (dv 0) (xl aI (dv 1))) aI) aI) aI))
 (aE (aP (et (bz (xl (dv 2) (dv 2)) (xl aI (dv 2))) aI))))) ?_
 rintro b Q ⟨c,k,rfl,q⟩
 have p:=Iy c k
 refine⟨_,rfl,_,rfl,CY.ok (.inl ⟨by decide,by decide⟩),CY.ok (.inr ⟨by decide,by decide⟩),iP2147483647,?_⟩
 exact⟨_,rfl,_,rfl,CY.ok (i:=Iw c k) (j:=Iw c k) (.inl ⟨by omega,by omega⟩),_,rfl,CY.ok (.inl ⟨by decide,by decide⟩),iP2147483399,q _⟩
def LN(d:Df K mg "_law_cell" lg ["_law_script","_law_k"])(a:mg "len"=none):bo P w K mg base (j+1) "_law_cell" ["_law_script","_law_k"] Az:=by
 refine d.d7 oz (fun l P r f ⟨c,k,e,q⟩=>⟨c,k,e,λc=>f _ (q c)⟩) (fun l Q ⟨c,k,e,_⟩=>by rw[e];rfl) (λf o A g s H E m=>have p:=m.units;have u:=m.hd;have t:=oz
  (aK (cw (Rq (dv 1) (di (by rfl) a (aA (dv 0) aC))) (aE (aP (ba (dv 0) (dv 1) (λ_ _=>rfl)))) ay)
 (aE (aP aI)))) ?_
 rintro l Q ⟨b,k,rfl,q⟩
 refine⟨_,rfl,_,rfl,_,_,rfl,rfl,_,rfl,?_⟩
 show if decide ((k:Int)<((b.map D.int).length:Int))=true then _ else _
 rw[tz]
 cases h:decide ((k:Int)<(b.length:Int)) with
 |true =>
  have i:k<b.length:=by have:=of_decide_eq_true h;omega
  exact aq ⟨_,rfl,_,rfl,.int b[k],dE (by rw[TX,F' i];rfl),q _⟩
 |false=>exact aU (q _)
def Hf(d:Df K mg "_law_names" kY ["_law_cell_here"])(g:mg "range"=none):bo P w K mg base (j+1) "_law_names" ["_law_cell_here"] CG:=by
 refine d.d7 my (fun W P P' f ⟨c,e,q⟩=>⟨c,e,λl h=>f _ (q l h)⟩) (fun W Q ⟨c,e,_⟩=>by rw[e];rfl) (λf cdv A T s H E U=>have S:=U.units;have hh:=U.hd;have N:=my
  (aK (bB (i:=1) N.nd rfl (TQ rfl) (et (dv 0) aI))
 (aK (cw (hJ S (dv 1) aI) (aE (aP (n_ (x:="_law_k") (caps:=[0]) (cn:=["_law_cell_here"]) (cl:=[("_law_cell_here",s.heap.objs.size+1)]) (nz (by rfl) (by rfl) (by decide +kernel) (ft ["_law_cell_here"] rfl (by decide +kernel)) (by decide +kernel) (bU (by rfl) dG) (.cons ⟨rfl,.inl rfl,rfl⟩ .nil)) rfl (rn (by rfl) g (aA aI aC)) (λC p m r=>az (i:=0) (show(["_law_k","_law_cell_here"]:List Str).Nodup by decide +kernel) rfl (TQ rfl) (.inr rfl)) (λC p m r=>cm) (λC p m r=>(Lh (ba ar (et (Ef (dv 1) aI) aI) (λ_ _=>rfl)) (bz (dv 0) aI)))))) ay)
 (aK (cw (hJ S (dv 1) aI) (aE (aP (n_ (x:="_law_word") (caps:=[]) (cn:=[]) (cl:=[]) (h_ (by rfl) (by rfl) (by decide +kernel) (by decide +kernel) (by decide +kernel)) rfl (cF (cB (pN (by rfl)))) (λC p m r=>az (i:=0) (show(["_law_word"]:List Str).Nodup by decide +kernel) rfl (TQ rfl) (.inr rfl)) (λC p m r=>cm) (λC p m r=>(bz (dv 0) ar))))) ay)
 (aK (cw (hJ S (dv 1) aI) (aE (aP (n_ (x:="_law_word") (caps:=[]) (cn:=[]) (cl:=[]) (h_ (by rfl) (by rfl) (by decide +kernel) (by decide +kernel) (by decide +kernel)) rfl (cF (cB (pN (by rfl)))) (λC p m r=>az (i:=0) (show(["_law_word"]:List Str).Nodup by decide +kernel) rfl (TQ rfl) (.inr rfl)) (λC p m r=>cm) (λC p m r=>(bz (bz ar (dv 0)) ar))))) ay)
 (aK (bB (i:=2) N.nd rfl (TQ rfl) (bz aI (et (Ef (dv 0) aI) aI)))
 (aK (bB (i:=3) N.nd rfl (Wc rfl) (et (Ef (dv 0) aI) (dv 2)))
 (aK (bB (i:=4) N.nd rfl (Wc rfl) (dW ar gW (dh (dv 2))))
 (aE (aP (n_ (x:="_law_k") (caps:=[4,3]) (cn:=["_law_word","_law_spot"]) (cl:=[("_law_word",s.heap.objs.size+2),("_law_spot",s.heap.objs.size+3)]) (nz (by rfl) (by rfl) (by decide +kernel) (ft ["_law_word","_law_spot"] rfl (by decide +kernel)) (by decide +kernel) (bU (by rfl) (bU (by rfl) dG)) (.cons ⟨rfl,.inl rfl,rfl⟩ (.cons ⟨rfl,.inl rfl,rfl⟩ .nil))) rfl (rn (by rfl) g (aA aI aC)) (λC p m r=>az (i:=0) (show(["_law_k","_law_word","_law_spot"]:List Str).Nodup by decide +kernel) rfl (TQ rfl) (.inr rfl)) (λC p m r=>cm) (λC p m r=>(bz (bz (dW (dv 1) gW (dh (dv 2))) (ba ar (dv 0) (λ_ _=>rfl))) (dW (dv 1) (dh (bz (dv 2) aI)) gW)))))))))))))) ?_
 rintro W Q ⟨c,rfl,q⟩
 refine⟨_,rfl,iP5,_,rfl,_,rfl,?_⟩
 cases h0:decide (c%5=0) with
 |true =>
  obtain⟨u,G,t⟩:=zj (xs:=Qq.cps.toList) (kG (c / 5) iP13) (by rw[show((Qq.cps.toList.length:Nat):Int)=13 by decide +kernel];exact kE _ (by decide))
  refine aq ⟨8,rfl,(by decide),(by decide),mO (g0 u) _,pZ,?_,(by decide),?_⟩
  ·intro i d o y v
   obtain⟨B,rfl⟩:=uv y v
   obtain⟨i,hi,rfl⟩:=Ph B
   exact⟨rfl,λ_=>⟨_,rfl,cd (by decide) (by decide),iP13,(by decide +kernel),u,t,_,rfl,_,_,rfl,rfl,(by omega),(by omega),(show(0:Nat)<1 by decide),(show(1:Nat)<1000 by decide),rfl⟩⟩
  ·rw[nM,show((Ua (8:Int).toNat).map λi:Nat=>D.int (0+(i:Int))).map (g0 u)=(RK u).map D.str by unfold RK;rw[UG,UG];rfl]
   exact q _ (rC (Ul.mp Mc u G))
 |false =>
  refine aU ⟨_,rfl,_,rfl,?_⟩
  cases h1:decide (c%5=1) with
  |true =>
   refine aq ⟨zL8,_,rfl,mO g1 _,pZ,?_,(by decide),?_⟩
   ·intro i d o y v
    obtain⟨B,rfl⟩:=uv y v
    have F:d∈l1.map D.str:=B
    obtain⟨x,J,rfl⟩:=Tj.mp F
    have M:x.length+1<=sizeLine:=G' (show x.length+1<=9 from(show ∀x∈l1,x.length+1<=9 by decide +kernel) x J) (by decide)
    exact⟨rfl,λ_=>⟨_,rfl,M,rfl⟩⟩
   ·rw[nM]
    exact q SQ (rC Md)
  |false =>
   refine aU ⟨_,rfl,_,rfl,?_⟩
   cases h2:decide (c%5=2) with
   |true =>
    refine aq ⟨zL8,_,rfl,mO g2 _,pZ,?_,(by decide),?_⟩
    ·intro i d o y v
     obtain⟨B,rfl⟩:=uv y v
     have F:d∈l2.map D.str:=B
     obtain⟨x,J,rfl⟩:=Tj.mp F
     have M:(XB "in."+x.length<=sizeLine)/\(("in."++x:Str).length+XB ".q"<=sizeLine):=by
      have z:∀x∈l2,XB "in."+x.length<=20/\("in."++x:Str).length+XB ".q"<=20:=by decide +kernel
      exact⟨G' (z x J).1 (by decide),G' (z x J).2 (by decide)⟩
     exact⟨rfl,λ_=>⟨_,rfl,M.1,M.2,rfl⟩⟩
    ·rw[nM]
     exact q SR (rC Me)
   |false =>
    have a0:=kG (c / 5) iP7
    have a7:=kE (c / 5) iP7
    refine aU ⟨_,rfl,cd (by decide) (by decide),iP7,?_⟩
    have O:(0:Int)<2+c / 5%7:=by omega
    have b0:=kG (c / 40) O
    have b8:=kE (c / 40) O
    refine⟨_,rfl,cd (by decide) (by decide),_,rfl,O,?_⟩
    dsimp only
    obtain⟨a,ea,Z⟩:∃a:Nat,c / 5%7=(a:Int)/\a<7:=⟨(c / 5%7).toNat,by omega,by omega⟩
    rw[ea] at b0 b8 ⊢
    obtain⟨b,eb,X⟩:∃b:Nat,c / 40%(2+(a:Int))=(b:Int)/\b<8:=⟨(c / 40%(2+(a:Int))).toNat,by omega,by omega⟩
    rw[eb]
    have R:Af (QX (2+(a:Int)) (b:Int))=true:=Ul.mp (Ul.mp Mf a (U7.mpr Z)) b (U7.mpr X)
    refine⟨_,rfl,_,rfl,(by decide +kernel),?_⟩
    have I:MJ (2+(a:Int)) (b:Int)=true:=Ul.mp (Ul.mp Ic a (U7.mpr Z)) b (U7.mpr X)
    unfold MJ at I
    rw[Tw,Tw] at I
    have Y:(wd (2+(a:Int))).length<=8:=of_decide_eq_true I.1
    have e1:(VB (wd (2+(a:Int))) none (some (b:Int))).length<=8:=of_decide_eq_true I.2.1
    have e2:(VB (wd (2+(a:Int))) (some ((b:Int)+1)) none).length<=8:=of_decide_eq_true I.2.2
    refine⟨8,rfl,(by decide),(by decide),mO (g3 (2+(a:Int)) (b:Int)) _,pZ,?_,(by decide),?_⟩
    ·intro i d o y v
     obtain⟨B,rfl⟩:=uv y v
     obtain⟨i,hi,rfl⟩:=Ph B
     obtain⟨u,G,t⟩:=zj (xs:=bc.cps.toList) (i:=0+(i:Int)) (by omega) (by rw[show((bc.cps.toList.length:Nat):Int)=8 by decide +kernel];omega)
     have eg:g3 (2+(a:Int)) (b:Int) (.int (0+(i:Int)))=.str (Nv (2+(a:Int)) (b:Int) u):=by unfold g3;dsimp only;rw[t];rfl
     refine⟨rfl,λ_=>⟨_,rfl,_,rfl,_,rfl,G' Y (by decide),_,rfl,(by decide +kernel),u,t,G' (show(VB (wd (2+(a:Int))) none (some (b:Int))).length+1<=9 by omega) (by decide),_,rfl,_,rfl,_,rfl,G' Y (by decide),?_,?_⟩⟩
     ·show(VB (wd (2+(a:Int))) none (some (b:Int))++⟨#[u]⟩).length+(VB (wd (2+(a:Int))) (some ((b:Int)+1)) none).length<=sizeLine
      rw[Hc]
      exact G' (show _+1+_<=17 by omega) (by decide)
     ·rw[eg];rfl
    ·rw[nM,show((Ua (8:Int).toNat).map λi:Nat=>D.int (0+(i:Int))).map (g3 (2+(a:Int)) (b:Int))=(QX (2+(a:Int)) (b:Int)).map D.str by unfold QX;rw[UG,UG];rfl]
     exact q _ (rC R)
def Ln.aJ(x:Ln):List Str:=match x.on with
 |none=>x.parts.flatMap Pt.aJ
 |some o=>if o∈x.parts.flatMap Pt.aJ then x.parts.flatMap Pt.aJ else x.parts.flatMap Pt.aJ++[o]
def jZ:∀{ps:List Pt},(∀p∈ps,p.depth<=4/\p.size<=40)->(ps.flatMap Pt.aJ).length<=40*ps.length
 |[],_=>S' _
 |p::ps,h=>by
  rw[Uy,TY,Tg]
  have b:=jZ (ps:=ps) λq a=>h q (TR _ a)
  have c:=(h p N').2
  have e:=p.ak
  omega
def J_(x:Ln):aY μ (x.d A L)=x.d A L:=by cases x<;>rfl
def Pn(A:bC)(L:LA):cI:=λa Q=>∃x:Ln,a=[x.d A L]/\pq x/\Q (.lst (x.aJ.map D.str))
def jS(z:vf K L)(d:Df K mg "line_needs" ka ["line"])(c:∀C,isL L C->bw P w K mg base j C "own_parts" (Gg A L (λx=>.tup (x.parts.map (Pt.d A))) C) [])(g:MF P w K mg base A j "needs" 4 okN Pt.aJ):bo P w K mg base (j+1) "line_needs" ["line"] (Pn A L):=by
 refine d.uA m5 (fun I P X f ⟨x,e,h,q⟩=>⟨x,e,h,f _ q⟩) (fun I Q ⟨x,e,_⟩=>by rw[e];rfl) (λf N A F s H E v=>have W:=v.units;have T:=v.hd;have J:=m5
  (aM (fw (i:=1) J.nd rfl (TQ rfl) aC)
 (aM (de T7 rfl (cF (cj c v (by omega) (dv 0))) (bb (i:=2) J.nd rfl (TQ rfl)) (av (mK (i:=1) rfl (TQ rfl) (Lv g v (by omega) (dv 2)))))
 (aM (oW (rM.td (w_and (rF (a_ K rfl (dv 0) (by rfl)) ig) (tW (rG (a_ K rfl (dv 0) (by rfl)) (dv 1) (by rfl))))) (av (dj (i:=1) rfl (TQ rfl) (a_ K rfl (dv 0) (by rfl)))) kH)
 (fN (dS (aE (aP (dv 1))))))))) ?_
 rintro I Q ⟨x,rfl,m,q⟩
 refine⟨zL0,λa _=>?_⟩
 refine lR bW pj ⟨_,rfl,rfl⟩ m ⟨x.parts.map (Pt.d A),rfl,λi δ μ=>(∃r,δ=[some (x.d A L),some (.adr a),r])/\μ=[(a,.lst (((x.parts.take i).flatMap Pt.aJ).map D.str))],⟨⟨none,rfl⟩,rfl⟩,?_,?_⟩
 ·rintro i dd δ μ t ⟨⟨r,rfl⟩,rfl⟩
  rw[TX] at t
  cases hp:x.parts[i]? with
  |none=>rw[hp] at t;cases t
  |some p =>
   rw[hp] at t
   obtain rfl:p.d A=dd:=by simpa using t
   have o:=m.2.2 p (K' hp)
   obtain⟨O,S,R⟩:=rA A mL p
   refine⟨a,_,rfl,cK,p.d A,rfl,p.cls A,O,S,R,⟨p,rfl⟩,p,rfl,rfl,o.1,G' o.2 (by decide),λb=>⟨b,_,rfl,cK,?_,⟨_,rfl⟩,?_⟩⟩
   ·rw[tz,tz]
    have Y:=jZ (ps:=x.parts.take i) λq B=>m.2.2 q (Ub B)
    have Z:(x.parts.take i).length<=8:=G' (by rw[Tu];exact Vc _ _) m.2.1
    have h3:=p.ak
    exact G' (show _+p.aJ.length<=400 by omega) (by decide)
   ·rw[oj,<- Tv,UX,hp,U6]
    simp
 ·rintro δ μ ⟨⟨r,rfl⟩,rfl⟩
  rw[tz,T2]
  have U:=jZ (ps:=x.parts) λq B=>m.2.2 q B
  have M:=m.2.1
  have u:∀l:List Str,cD [(a,.lst (l.map D.str))] [some (x.d A L),some (.adr a),r]=[some (x.d A L),some (.lst (l.map D.str)),r.map (aY [(a,.lst (l.map D.str))])]:=λl=>by
   show[some (aY [(a,MD.lst (l.map D.str))] (x.d A L)),some (aY [(a,MD.lst (l.map D.str))] (.adr a)),_]=_
   rw[fk,J_]
   rfl
  dsimp only
  refine Bj (u _) ?_
  ·refine⟨x.d A L,rfl,nJ z ?_⟩
   cases hon:x.on with
   |none =>
    refine⟨false,rfl,aU (aU ?_)⟩
    have e:x.aJ=x.parts.flatMap Pt.aJ:=by unfold Ln.aJ;rw[hon]
    rw[e] at q
    unfold yU
    dsimp only
    refine iq (u _) ?_
    exact⟨_,rfl,q⟩
   |some y =>
    refine⟨true,rfl,aq ⟨x.d A L,rfl,nJ z ?_⟩⟩
    rw[hon]
    refine⟨_,rfl,rfl,cH _,_,rfl,?_⟩
    show if(!inD (.str y) ((x.parts.flatMap Pt.aJ).map D.str))=true then _ else _
    rw[eB]
    cases hin:(x.parts.flatMap Pt.aJ).contains y with
    |true =>
     have e:x.aJ=x.parts.flatMap Pt.aJ:=by
      unfold Ln.aJ
      rw[hon]
      exact if_pos (Th.mp hin)
     rw[e] at q
     refine aU ?_
     unfold yU
     dsimp only
     refine iq (u _) ?_
     exact⟨_,rfl,q⟩
    |false =>
     have e:x.aJ=x.parts.flatMap Pt.aJ++[y]:=by
      unfold Ln.aJ
      rw[hon]
      exact if_neg (λh=>by rw[Th.mpr h] at hin;cases hin)
     rw[e,Tv] at q
     refine aq ⟨a,_,rfl,cK,?_,x.d A L,rfl,nJ z ?_⟩
     ·rw[tz]
      exact Tc (show _<=400 by omega) (by decide)
     ·rw[hon,oj]
      have G:=u (x.parts.flatMap Pt.aJ++[y])
      rw[Tv] at G
      dsimp only
      refine iq G ?_
      exact⟨_,rfl,q⟩
def Ln.nm:Ln->Str
 |.lP n _ _=>n
 |.row n _ _ _=>n
def Ln.wW(x:Ln):x.own=[x.nm]:=by cases x<;>rfl
def B3:∀a:List Ln,a.flatMap Ln.own=a.map Ln.nm
 |[]=>rfl
 |x::a=>by rw[Uy,TM,B3 a,Ln.wW];rfl
def Sh.dU(s:Sh):s.names=s.all.map Ln.nm:=B3 s.all
def Sh.Rows(s:Sh):Prop:=∀x∈s.ls,∃n k p o,x=.row n k p o
def Sh.cA(s:Sh)(n:Str):List Str:=((s.all.find? λx=>x.nm == n).map Ln.aJ).getD []
def qx{n:Str}{x:Ln}:∀{a:List Ln},(a.map Ln.nm).Nodup->x∈a->x.nm=n->(a.find? λx=>x.nm == n)=some x
 |y::a,b,h,e=>by
  rw[TM,UN] at b
  rw[UK]
  rcases Gc.mp h with h|h
  ·subst h;rw[e];simp
  ·have:(y.nm == n)=false:=by
    rw[beq_eq_false_iff_ne]
    intro z
    exact b.1 (Tj.mpr ⟨x,h,e.trans z.symm⟩)
   rw[this]
   exact qx b.2 h e
def Sh.lV{s:Sh}(a:s.names.Nodup)(h:x∈s.all):s.cA x.nm=x.aJ:=by
 unfold Sh.cA
 rw[qx (by rw[<- s.dU];exact a) h rfl]
 rfl
structure SI (K:l') (L:LA):Prop where
 o2:gI K L.row
 k2:kitOne K (.ref L.row) (.ref L.row)=some true
def Gm(A:bC)(L:LA):cI:=λa Q=>∃s:Sh,a=[s.d A L]/\s.Rows/\Q .ae
def Sh.dQ(s:Sh):List (Key × D):=dF s.names λn=>bQ (s.cA n)
def NJ(A:bC)(L:LA):cI:=λa Q=>∃s:Sh,a=[s.d A L]/\s.Ok/\s.names.Nodup/\s.Rows/\Q (.dK s.dQ)
def wu:cI:=λa Q=>∃l m:List Str,a=[.lst (l.map D.str),.lst (m.map D.str)]/\l.length<1000/\Q (.bl (l.all m.contains))
def K9(b:List Str)(a:Str->List Str)(l:List Str)(k:Nat)(n:Str):Prop:=n∈b/\n∉l.take k/\∀x∈a n,x∈l.take k
def EE(a:List Str)(b:Str->List Str)(l:List Str):Prop:=(∀k n,l[k]?=some n->K9 a b l k n)/\l.length=a.length
def Ky(A:bC)(L:LA):cI:=λa Q=>∃(s:Sh) (l:List Str),(a=[s.d A L,.lst (l.map D.str)]\/a=[s.d A L,.tup (l.map D.str)])/\s.Ok/\s.names.Nodup/\s.Rows/\l.length<=100/\∀b:Bool,(b=true ↔ EE s.names s.cA l)->Q (.bl b)
def HG(h:δ[i]?=some (some d))(q:Q (aY μ d)):qL i (cD μ δ) Q:=⟨aY μ d,by unfold cD;rw[TX,h];rfl,q⟩
def dC{α:Type}{l:List α}{x:α}(h:l[i]?=some x):l.take (i+1)=l.take i++[x]:=by rw[UX,h];rfl
def qW(h:pq x):x.aJ.length<=400:=by
 have a:=jZ (ps:=x.parts) h.2.2
 have b:=h.2.1
 unfold Ln.aJ
 split
 ·omega
 ·split
  ·omega
  ·rw[TY]
   show _+1<=_
   omega
def Lz{x:Ln}{Q:D->Prop}(a:vf K L)(q:Q (.str x.nm)):∃C b r,x.d A L=.obj C b/\tY K C/\dP K C "name"/\b.lookup ("name":Str)=some r/\Q r:=by
 have c:=a.cl _ (Ln.aW L x)
 have e:=a.ia _ (Ln.aW L x)
 cases x<;>exact⟨_,_,_,rfl,c,e _ (by decide),(by kernel_rfl),q⟩
def lI(y:vf K L)(v:SI K L)(d:Df K mg "need_rows" lz ["sheet"])(a:mg "isinstance"=none)(b:mg "Row"=some (.ref L.row))(ah:bo P w K mg base j "need_sheet" ["holds","words"] zI):bo P w K mg base (j+1) "need_rows" ["sheet"] (Gm A L):=by
 refine d.d7 o8 (fun u P J f ⟨s,e,h,q⟩=>⟨s,e,h,f _ q⟩) (fun u Q ⟨s,e,_⟩=>by rw[e];rfl) (λf z A l s H E g=>have I:=g.units;have M:=g.hd;have C:=o8
  (aE (B_ T7 rfl (cF (a_ K rfl (dv 0) (by rfl))) (bb (i:=1) C.nd rfl (TQ rfl)) (aE (bI (aR ah g (by omega) (by rfl) (aA (La K rfl (dv 1) (by rfl) a (by rfl) b) (aA ar aC)))))))) ?_
 rintro u Q ⟨s,rfl,g,q⟩
 have c:=y.cl L.sh (by simp)
 have F:=y.ia L.sh (by simp)
 refine bF (r:=.tup (s.ls.map (Ln.d A L))) rfl c (F _ (by decide)) (by kernel_rfl) ⟨s.ls.map (Ln.d A L),rfl,λi δ=>∃t,δ=[some (s.d A L),t],⟨none,rfl⟩,?_,?_⟩
 ·rintro i N δ G ⟨t,rfl⟩
  obtain⟨x,B,rfl⟩:=iR G
  obtain⟨m,k,p,o,rfl⟩:=g x (K' B)
  exact⟨_,rfl,_,_,.o v.o2,v.k2,_,rfl,_,rfl⟩
 ·rintro δ ⟨t,rfl⟩
  exact q
def gL(I:vf K L)(d:Df K mg "needs_of" nS ["sheet"])(lI:bo P w K mg base j "need_rows" ["sheet"] (Gm A L))(b:∀C,AI L C->bw P w K mg base j C "all_lines" (pA A L (λ_=>True) (C8 A L) C) [])(jS:bo P w K mg base j "line_needs" ["line"] (Pn A L)):bo P w K mg base (j+1) "needs_of" ["sheet"] (NJ A L):=by
 refine d.uA qb (fun B P Z f ⟨s,e,O,U,W,q⟩=>⟨s,e,O,U,W,f _ q⟩) (fun B Q ⟨s,e,_⟩=>by rw[e];rfl) (λf M A u s H E c=>have N:=c.units;have X:=c.hd;have F:=qb
  (aM (cM (bI (aR lI c (by omega) (by rfl) (aA (dv 0) aC))))
 (aM (iB (i:=1) F.nd rfl (TQ rfl) qw)
 (aM (de T7 rfl (cF (cj b c (by omega) (dv 0))) (bb (i:=2) F.nd rfl (TQ rfl)) (av (oV (i:=1) N rfl (TQ rfl) (a_ K rfl (dv 2) (by rfl)) (aR jS c (by omega) (by rfl) (aA (dv 2) aC)))))
 (av (ph (dv 1))))))) ?_
 rintro B Q ⟨s,rfl,p,v,c,q⟩
 refine⟨_,rfl,s,rfl,c,λa _=>?_⟩
 refine fQ bW oZ ⟨_,rfl,rfl⟩ p T9 ⟨s.all.map (Ln.d A L),rfl,λi δ μ=>(∃o,δ=[some (s.d A L),some (.adr a),o])/\μ=[(a,.dK (dF ((s.all.take i).map Ln.nm) λn=>bQ (s.cA n)))],⟨⟨none,rfl⟩,rfl⟩,?_,?_⟩
 ·rintro i dd δ μ S ⟨⟨o,rfl⟩,rfl⟩
  obtain⟨x,l,rfl⟩:=iR S
  have g:=K' l
  refine⟨x.d A L,rfl,x,rfl,p.ln x g,a,_,rfl,cK,?_,x.d A L,rfl,Lz I ⟨.inr x.nm,rfl,⟨_,rfl⟩,?_⟩⟩
  ·rw[vx,tz,Tu]
   have:=p.mG
   exact Tc (show _<=18 by omega) (by decide)
  ·have G:x.nm∉(s.all.take i).map Ln.nm:=λz=>by
    have r:(s.all.map Ln.nm).Nodup:=by rw[<- s.dU];exact v
    obtain⟨y,J,e⟩:=Tj.mp z
    obtain⟨k,h⟩:=Tp.mp J
    rw[U8] at h
    split at h
    ·have T:(s.all.map Ln.nm)[k]?=some x.nm:=by rw[TX,h,<- e];rfl
     have R:(s.all.map Ln.nm)[i]?=some x.nm:=by rw[TX,l];rfl
     have:=eE r T R
     omega
    ·cases h
   rw[oj,sW G,dC l,Tv]
   refine congrArg (λt=>[(a,MD.dK t)]) (rS λm Y=>?_)
   unfold D1
   split
   ·rename_i e
    rw[e,Sh.lV v g]
    rfl
   ·rfl
 ·rintro δ μ ⟨⟨o,rfl⟩,rfl⟩
  refine HG rfl ?_
  rw[fk,tz,T2,<- s.dU]
  exact q
def d5(d:Df K mg "are_all_in" kZ ["names","others"])(a:mg "all"=none):bo P w K mg base (j+1) "are_all_in" ["names","others"] wu:=by
 refine d.d7 m4 (fun c P B f ⟨l,m,e,h,q⟩=>⟨l,m,e,h,f _ q⟩) (fun c Q ⟨l,m,e,_⟩=>by rw[e];rfl) (λf t A b s H E p=>have y:=p.units;have v:=p.hd;have F:=m4
  (aE (aP (Ed v (by rfl) a (aA (n_ (x:="name") (caps:=[1]) (cn:=["others"]) (cl:=[("others",s.heap.objs.size+1)]) (nz (by rfl) (by rfl) (by decide +kernel) (ft ["others"] rfl (by decide +kernel)) (by decide +kernel) (bU (by rfl) dG) (.cons ⟨rfl,.inl rfl,rfl⟩ .nil)) rfl (cF (dv 0)) (λC o g r=>az (i:=0) (show(["name","others"]:List Str).Nodup by decide +kernel) rfl (TQ rfl) (.inr rfl)) (λC o g r=>cm) (λC o g r=>(Cq (dv 0) (dv 1) (by rfl)))) aC))))) ?_
 rintro c Q ⟨l,m,rfl,u,q⟩
 refine⟨_,rfl,l.map D.str,rfl,?_⟩
 refine⟨sQ (λx=>.bl (m.contains x)) l,i5,gF λx z=>⟨rfl,λ_=>?_⟩,sL (Vd u (by decide)),?_⟩
 ·refine⟨_,rfl,_,rfl,rfl,cH _,?_⟩
  show some (D.bl (m.contains x))=some (D.bl (inD (.str x) (m.map D.str)))
  rw[eB]
 ·rw[i6]
  refine⟨l.map m.contains,by rw[UG];rfl,?_⟩
  rw[YD]
  exact q
def jR(d:Df K mg "is_order" nP ["sheet","names"])(o:mg "len"=none)(gL:bo P w K mg base j "needs_of" ["sheet"] (NJ A L))(d5:bo P w K mg base j "are_all_in" ["names","others"] wu):bo P w K mg base (j+1) "is_order" ["sheet","names"] (Ky A L):=by
 refine d.uA qY (fun T P P' f ⟨s,l,e,p,B,C,h4,q⟩=>⟨s,l,e,p,B,C,h4,λb hb=>f _ (q b hb)⟩) (fun T Q ⟨s,l,e,_⟩=>by rcases e with e|e<;>rw[e]<;>rfl) (λf cdv A U s H E t=>have O:=t.units;have hh:=t.hd;have W:=qY
  (aM (cM (bB (i:=2) W.nd rfl (TQ rfl) (aR gL t (by omega) (by rfl) (aA (dv 0) aC))))
 (aM (fw (i:=3) W.nd rfl (TQ rfl) aC)
 (aM (de T7 rfl (cF (dv 1)) (bb (i:=4) W.nd rfl (TQ rfl)) (aM (oW (rM.td (w_or (zP O (dv 4) (dv 2) (by rfl)) (w_or (zO (dv 4) (dv 3) (by rfl)) (nA (gz (eX (aR d5 t (by omega) (by rfl) (aA (nI O (dv 2) (dv 4) (λ_ _=>rfl)) (aA (dv 3) aC))))))))) (av (ph nH)) kH)
 (av (dj (i:=3) rfl (TQ rfl) (dv 4)))))
 (av (ph (xh O (di (by rfl) o (aA (dv 3) aC)) (Lc (by rfl) o (aA (dv 2) aC))))))))) ?_
 rintro T Q ⟨s,l,e,ho,Y,t,hl,q⟩
 obtain⟨c,rfl,hv,J⟩:∃c,T=[s.d A L,c]/\(∀ μ,aY μ c=c)/\FJ c=some (l.map D.str):=by
  rcases e with e|e
  ·exact⟨_,e,λ_=>rfl,rfl⟩
  ·exact⟨_,e,λ_=>rfl,rfl⟩
 refine⟨_,rfl,s,rfl,ho,Y,t,zL0,λa _=>?_⟩
 have X:∀(M:List D) (r:Option D),cD [(a,.lst M)] [some (s.d A L),some c,some (.dK s.dQ),some (.adr a),r]=[some (s.d A L),some c,some (.dK s.dQ),some (.lst M),r.map (aY [(a,.lst M)])]:=λM r=>by
  show[some (aY _ (s.d A L)),some (aY _ c),some (aY _ (.dK s.dQ)),some (aY _ (.adr a)),_]=_
  rw[fk,hv]
  rfl
 refine⟨c,rfl,l.map D.str,J,λi δ μ=>(∃r,δ=[some (s.d A L),some c,some (.dK s.dQ),some (.adr a),r])/\μ=[(a,.lst ((l.take i).map D.str))]/\∀k n,k<i->l[k]?=some n->K9 s.names s.cA l k n,⟨⟨none,rfl⟩,rfl,λk n u=>absurd u (by omega)⟩,?_,?_⟩
 ·rintro i dd δ μ hd ⟨⟨r,rfl⟩,rfl,g⟩
  obtain⟨n,F,rfl⟩:=iR hd
  dsimp only
  have G:¬ K9 s.names s.cA l i n->Q (.bl false):=λh=>q false ⟨(λz=>nomatch z),λz=>absurd (z.1 i n F) h⟩
  refine Bj (X _ _) ?_
  by_cases p:n∈s.names
  ·have g1:ee s.dQ (.inr n)=some (bQ (s.cA n)):=mI p
   refine⟨.str n,rfl,_,rfl,_,.inr n,rfl,rfl,_,rfl,?_⟩
   rw[g1]
   refine aU ⟨.str n,rfl,_,rfl,rfl,cH _,_,rfl,?_⟩
   show if(inD (.str n) ((l.take i).map D.str))=true then _ else _
   rw[eB]
   cases B:(l.take i).contains n with
   |true=>exact aq (aq (G λz=>z.2.1 (Th.mp B)))
   |false =>
    have S:n∉l.take i:=λz=>by rw[Th.mpr z] at B;cases B
    obtain⟨x,Z,ex⟩:∃x∈s.all,x.nm=n:=by
     rw[s.dU] at p
     exact Tj.mp p
    have v:(s.cA n).length<1000:=by
     rw[<- ex,Sh.lV Y Z]
     exact Tc (qW (ho.ln x Z)) (by decide)
    refine aU ⟨_,rfl,.str n,rfl,_,.inr n,_,rfl,rfl,g1,_,rfl,s.cA n,l.take i,rfl,v,_,rfl,?_⟩
    cases C:(s.cA n).all (l.take i).contains with
    |false =>
     refine aq (G λz=>?_)
     rw[Ul.mpr λy I=>Th.mpr (z.2.2 y I)] at C
     cases C
    |true =>
     have N:(l.take i).length<=100:=by rw[Tu];omega
     refine aU ⟨a,_,rfl,cK,by rw[tz];exact Tc N (by decide),.str n,rfl,⟨_,rfl⟩,?_,λk m u R=>?_⟩
     ·rw[oj,dC F,Tv];rfl
     ·by_cases e:k=i
      ·subst e
       rw[F] at R
       cases R
       exact⟨p,S,λy I=>Th.mp (Ul.mp C y I)⟩
      ·exact g k m (by omega) R
  ·have g0:ee s.dQ (.inr n)=none:=xy p
   refine⟨.str n,rfl,_,rfl,_,.inr n,rfl,rfl,_,rfl,?_⟩
   rw[g0]
   exact aq (aq (G λz=>p z.1))
 ·rintro δ μ ⟨⟨r,rfl⟩,rfl,g⟩
  dsimp only
  unfold Il
  rw[X]
  refine⟨_,rfl,_,_,rfl,rfl,.dK s.dQ,rfl,_,rfl,?_⟩
  refine q _ ⟨λh=>?_,λh=>?_⟩
  ·have h':=of_decide_eq_true h
   rw[tz,tz,T2,Sh.dQ,vx] at h'
   exact⟨λk n u=>g k n (by rw[tz];exact(Te.mp u).1) u,by omega⟩
  ·refine decide_eq_true ?_
   rw[tz,tz,T2,Sh.dQ,vx,h.2]
def Iu{n m:Str}(h:m∈bR a n):m∈a\/m=n:=by
 unfold bR at h
 split at h
 ·exact .inl h
 ·rcases T4.mp h with h|h
  ·exact .inl h
  ·exact .inr (D'.mp h)
def yV :∀{l a:List Str},m∈l.foldl bR a->m∈a\/m∈l
 |[],_,h=>.inl h
 |n::l,a,h=>by
  rcases yV (l:=l) h with h|h
  ·rcases Iu h with h|h
   ·exact .inl h
   ·exact .inr (h ▸ N')
  ·exact .inr (TR _ h)
def uw :∀{ls:List (List Str)} {a:List Str},m∈ls.foldl (λa l=>l.foldl bR a) a->m∈a\/∃l∈ls,m∈l
 |[],_,h=>.inl h
 |k::ls,a,h=>by
  rcases uw (ls:=ls) h with h|⟨l,b,h⟩
  ·rcases yV h with h|h
   ·exact .inl h
   ·exact .inr ⟨k,N',h⟩
  ·exact .inr ⟨l,TR _ b,h⟩
def yW(h:m∈bj a):∃l∈a,m∈l:=(uw h).resolve_left λz=>nomatch z
def Pt.eD{p:Pt}{ns:List Str}(c:∀q∈p.inner,∀n∈q.names,n∈ns)(f:∀n∈p.own,n∈ns):∀n∈p.names,n∈ns:=λn a=>by
 rw[Pt.qV] at a
 obtain⟨l,b,a⟩:=yW a
 rcases T4.mp b with b|b
 ·obtain⟨q,e,rfl⟩:=Tj.mp b
  exact c q e n a
 ·rw[D'.mp b] at a
  exact f n a
structure Tr (ns:List Str) (dp sz:Nat) (p:Pt):Prop where
 ok:p.ok
 nm:∀n∈p.names,n∈ns
 dp:p.depth<=dp
 sz:p.size<=sz
def Tr.up(h:Tr c d s p)(f:∀n∈c,n∈b)(g:d<=e)(i:s<=t):Tr b e t p:=⟨h.ok,λn a=>f n (h.nm n a),G' h.dp g,G' h.sz i⟩
section
variable {ns:List Str}{d e f a b c:Nat}{p q r:Pt}
def zQ(h:isVal v):Tr ns 1 1 (.given v):=⟨h,Pt.eD (λq g=>nomatch g) (λn i=>nomatch i),S' _,S' _⟩
def jK{n:Str}(h:n∈ns)(o:f7 n):Tr ns 1 1 (.named n):=⟨o,Pt.eD (λq g=>nomatch g) (λm i=>by rw[D'.mp i];exact h),S' _,S' _⟩
def Dw(h:Tr ns d a p):Tr ns (d+1) (a+1) (.turned p):=⟨h.ok,Pt.eD (λq g=>by rw[D'.mp g];exact h.nm) (λn i=>nomatch i),UH h.dp,UH h.sz⟩
def qK(h:Tr ns d a p)(i:fu v):Tr ns (d+1) (a+1) (.before p v):=⟨⟨h.ok,i⟩,Pt.eD (λq g=>by rw[D'.mp g];exact h.nm) (λn l=>nomatch l),UH h.dp,UH h.sz⟩
def Na{n:Str}(h:Tr ns d a p)(l:n∈ns)(o:f7 n):Tr ns (d+1) (a+1) (.cv p n):=⟨⟨h.ok,o⟩,Pt.eD (λq g=>by rw[D'.mp g];exact h.nm) (λm i=>by rw[D'.mp i];exact l),UH h.dp,UH h.sz⟩
def CS{n:Str}(h:Tr ns d a p)(l:n∈ns)(o:f7 n)(i:fu v):Tr ns (d+1) (a+1) (.held p n v):=⟨⟨h.ok,o,i⟩,Pt.eD (λq g=>by rw[D'.mp g];exact h.nm) (λm s=>by rw[D'.mp s];exact l),UH h.dp,UH h.sz⟩
def Nq{α:Type}{P:α->Prop}{x y:α}(h:P x)(i:P y):∀z∈[x,y],P z:=λz g=>by
 rcases Gc.mp g with rfl|g
 ·exact h
 ·rw[D'.mp g];exact i
def SO{α:Type}{P:α->Prop}{x y w:α}(h:P x)(i:P y)(l:P w):∀z∈[x,y,w],P z:=λz g=>by
 rcases Gc.mp g with rfl|g
 ·exact h
 ·exact Nq i l z g
def xD(i:g∈lD)(h:Tr ns d a p)(k:Tr ns d b q):Tr ns (d+1) (a+b+1) (.pair g p q):=⟨⟨i,h.ok,k.ok⟩,Pt.eD (Nq h.nm k.nm) (λn l=>nomatch l),UH (XD.mpr ⟨h.dp,k.dp⟩),by have:=h.sz;have:=k.sz;show p.size+q.size+1<=_;omega⟩
def NZ(h:Tr ns d a p)(k:Tr ns d b q):Tr ns (d+1) (a+b+1) (.led p q):=⟨⟨h.ok,k.ok⟩,Pt.eD (Nq h.nm k.nm) (λn g=>nomatch g),UH (XD.mpr ⟨h.dp,k.dp⟩),by have:=h.sz;have:=k.sz;show p.size+q.size+1<=_;omega⟩
def Du(h:Tr ns d a p)(k:Tr ns d b q)(l:Tr ns d c r):Tr ns (d+1) (a+b+c+1) (.choice p q r):=⟨⟨h.ok,k.ok,l.ok⟩,Pt.eD (SO h.nm k.nm l.nm) (λn g=>nomatch g),UH (XD.mpr ⟨h.dp,XD.mpr ⟨k.dp,l.dp⟩⟩),by have:=h.sz;have:=k.sz;have:=l.sz;show p.size+q.size+r.size+1<=_;omega⟩
end
structure Sy (ks:List Str) (kf:Str->Str):Prop where
 nm:∀n∈ks,f7 n
 kd:∀n∈ks,kf n∈AM
 len:ks.length<=8
def BK{α:Type}{xs:List α}(f:α->D){i:Int}(g:0<=i)(e:i<xs.length):∃x∈xs,L2.tZ (xs.map f) i=some (f x):=by
 obtain⟨r,c,b⟩:=zj (xs:=xs.map f) g (by rw[tz];exact e)
 obtain⟨x,a,rfl⟩:=Tj.mp c
 exact⟨x,a,b⟩
def CL(I:SD->Prop)(b:∀ δ,I δ->u E δ)(a:∀N:SD->Prop,(∀ δ,I δ->N δ)->t { E with nx:=N } δ):Jf t u E δ:=a (u E) b
def Bo{A B:Prop}(a:A)(b:B):if c=true then A else B:=by cases c;exact b;exact a
def Pt.word:Pt->Str
 |.given _=>"given"|.named _=>"named"|.turned _=>"not"|.pair g _ _=>g|.choice _ _ _=>"if"|.before _ _=>"before"|.led _ _=>"then"|.cv _ _=>"when"|.held _ _ _=>"held"
def Pt.tail:Pt->List D
 |.given v=>[v]|.named n=>[.str n]|.before _ f=>[f]|.cv _ n=>[.str n]|.held _ n f=>[.str n,f]|_=>[]
def Pt.J3(p:Pt):p.told=.tup (.str p.word::(p.inner.map Pt.told++p.tail)):=by cases p<;>rfl
def sJ{n m:Str}(h:m∈a\/m=n):m∈bR a n:=by
 unfold bR
 split
 ·rename_i b
  rcases h with h|h
  ·exact h
  ·rw[h];exact Th.mp b
 ·rcases h with h|h
  ·exact To _ h
  ·exact Tf _ (D'.mpr h)
def lU :∀{l a:List Str},m∈a\/m∈l->m∈l.foldl bR a
 |[],_,h=>h.resolve_right λz=>nomatch z
 |n::l,a,h=>by
  refine lU (l:=l) ?_
  rcases h with h|h
  ·exact .inl (sJ (.inl h))
  ·rcases Gc.mp h with h|h
   ·exact .inl (sJ (.inr h))
   ·exact .inr h
def oU :∀{ls:List (List Str)} {a:List Str},(m∈a\/∃l∈ls,m∈l)->m∈ls.foldl (λa l=>l.foldl bR a) a
 |[],_,h=>h.resolve_right fun⟨l,b,_⟩=>nomatch b
 |k::ls,a,h=>by
  refine oU (ls:=ls) ?_
  rcases h with h|⟨l,b,h⟩
  ·exact .inl (lU (.inl h))
  ·rcases Gc.mp b with rfl|b
   ·exact .inl (lU (.inr h))
   ·exact .inr ⟨l,b,h⟩
def B1(a:l∈ls)(h:m∈l):m∈bj ls:=oU (.inr ⟨l,a,h⟩)
def zB(e:cD μ δ=δ')(h:a δ' λd=>E.rt d []):Il a E δ μ:=by
 unfold Il
 rw[e]
 exact h
def mT(p:Pt):aY μ p.told=p.told:=by cases p<;>rfl
def Q6:List D:=[.str "given",.str "named"]
def Q7:List D:=[.str "not",.str "before",.str "when",.str "held"]
def pD:∀g∈lD,inD (.str g) Q6=false/\inD (.str g) Q7=false/\g≠"before"/\g≠"named"/\inD (.str g) [.str "when",.str "held"]=false:=by decide +kernel
def tF:cI:=λa Q=>∃p:Pt,a=[p.told]/\p.ok/\Q (.lst (p.inner.map Pt.told))
def Pt.Kc{p q:Pt}(h:q∈p.inner):q.size<=p.size:=by
 cases p<;>simp only[Pt.inner,Pt.size,Gc,Tt,or_false] at h ⊢
 case turned=>subst h;omega
 case pair=>rcases h with rfl|rfl<;>omega
 case choice=>rcases h with rfl|rfl|rfl<;>omega
 case before=>subst h;omega
 case led=>rcases h with rfl|rfl<;>omega
 case cv=>subst h;omega
 case held=>subst h;omega
structure LC (l:List Str):Prop where
 lo:4<=l.length
 hi:l.length<=8
 nd:l.Nodup
 ok:∀x∈l,f7 x
def sO(l:List Str)(of:Str->Option Str):List (Key × D):=dF l λn=>zd (of n)
def PH(a l r:List Str)(b:Str->Str)(of:Str->Option Str):Prop:=∀n∈a,∀m,of n=some m->m∈l/\b m="truth"/\∃i j:Nat,i<j/\r[i]?=some m/\r[j]?=some n
def kC{α:Type}{l:List α}{x:α}(b:l.Nodup)(h:l[i]?=some x):x∉l.take i:=λz=>by
 obtain⟨k,a⟩:=Tp.mp z
 rw[U8] at a
 split at a
 ·have:=eE b a h
  omega
 ·cases a
def Bz{l:List Str}(h:l.length<=8):l.length<sizeLine:=Tc h (by decide)
def dR{α:Type}{l:List α}{x:α}(h:l[i]?=some x):i<l.length:=(Te.mp h).1
def AQ(a:Str->Str)(of:Str->Option Str)(b:Str->Pt)(n:Str):D:=.tup [.str n,.str (a n),(b n).told,zd (of n)]
def jY{α:Type}{l:List α}{x:α}(h:x∈l.drop k):x∈l:=Ye h
def pE(I:SD->Mu->Prop)(a:∀N:SD->Mu->Prop,(∀ δ μ,I δ μ->N δ μ)->t { E with nx:=N } δ μ)(b:∀ δ μ,I δ μ->u E δ μ):wK t u E δ μ:=a (u E) b
def Fu:Option Str->List Str->List Str
 |none,b=>b
 |some o,b=>if o∈b then b else b++[o]
def Ln.Fl(x:Ln):x.aJ=Fu x.on (x.parts.flatMap Pt.aJ):=by
 unfold Ln.aJ
 cases x.on<;>rfl
def baseOf(l:List Str)(a:Str->Pt)(n:Str):List Str:=if n∈l.drop 3 then(a n).aJ else[]
def oY(l:List Str)(of:Str->Option Str)(a:Str->Pt)(n:Str):List Str:=Fu (of n) (baseOf l a n)
structure Bd (l:List Str) (kf:Str->Str) (of:Str->Option Str) (pf:Str->Pt):Prop where
 O6:LC l
 kd:Sy l kf
 on:∃r:List Str,r.Perm l/\PH l l r kf of
 tr:∀n∈l.drop 3,Tr l 4 19 (pf n)
def gR(l:List Str)(n3:Str)(kf:Str->Str)(of:Str->Option Str)(pf:Str->Pt):Sh:=⟨"z",(l.take 3).map λn=>.lP n (kf n) (of n),[n3],(l.drop 3).map λn=>.row n (kf n) (pf n) (of n)⟩
def iz(l:List Str)(a:Str->Str)(of:Str->Option Str)(b:Str->Pt)(n:Str):Ln:=if n∈l.drop 3 then .row n (a n) (b n) (of n) else .lP n (a n) (of n)
def rk:List Str->Str->Nat
 |[],_=>0
 |x::r,n=>if x=n then 0 else rk r n+1
def Ku:∀(r:List Str) (n:Str),rk r n<=r.length
 |[],_=>S' _
 |x::r,n=>by
  unfold rk
  rw[Tg]
  split
  ·omega
  ·have:=Ku r n
   omega
def GY{n:Str}:∀{r:List Str} {i:Nat},r.Nodup->r[i]?=some n->rk r n=i
 |[],i,_,h=>by rw[XH] at h;cases h
 |x::r,0,_,h=>by
  rw[X6] at h
  cases h
  exact if_pos rfl
 |x::r,i+1,a,h=>by
  rw[VI] at h
  rw[UN] at a
  unfold rk
  rw[if_neg (λe:x=n=>a.1 (e ▸ K' h)),GY a.2 h]
section
variable {l:List Str}{n3:Str}{kf:Str->Str}{of:Str->Option Str}{pf:Str->Pt}
def Bt(n:Str):(iz l kf of pf n).nm=n:=by unfold iz;split<;>rfl
def Bu(n:Str):(iz l kf of pf n).on=of n:=by unfold iz;split<;>rfl
def DO(n:Str):(iz l kf of pf n).tQ=(kf n == "truth"):=by unfold iz;split<;>rfl
def i3(n:Str):(iz l kf of pf n).parts=if n∈l.drop 3 then[pf n] else[]:=by unfold iz;split<;>rfl
def eY{α:Type}{l:List α}{x:α}(a:l.Nodup)(h:x∈l.take k):x∉l.drop k:=λz=>by
 have e:=U9 k l
 rw[<- e] at a
 exact(VD.mp a).2.2 x h x z rfl
def pd(c:l.Nodup):(gR l n3 kf of pf).all=l.map (iz l kf of pf):=by
 have e:(l.take 3).map (λn=>Ln.lP n (kf n) (of n))=(l.take 3).map (iz l kf of pf):=UY λn a=>by unfold iz;rw[if_neg (eY c a)]
 have b:(l.drop 3).map (λn=>Ln.row n (kf n) (pf n) (of n))=(l.drop 3).map (iz l kf of pf):=UY λn a=>by unfold iz;rw[if_pos a]
 show(l.take 3).map (λn=>Ln.lP n (kf n) (of n))++(l.drop 3).map (λn=>Ln.row n (kf n) (pf n) (of n))=_
 rw[e,b,<- Tv,U9]
def i4(a:l.Nodup):(gR l n3 kf of pf).names=l:=by
 rw[Sh.dU,pd a,UG]
 have:(Ln.nm∘iz l kf of pf)=id:=by funext n;exact Bt n
 rw[this,List.map_id]
def wM:(gR l n3 kf of pf).Rows:=λx a=>by
 obtain⟨n,_,rfl⟩:=Tj.mp a
 exact⟨_,_,_,_,rfl⟩
def O3(b:Bd l kf of pf)(n:Str):pq (iz l kf of pf n):=by
 refine⟨?_,?_,?_⟩
 ·rw[Ln.wW];exact(by decide:(1:Nat)<=8)
 ·rw[i3];split
  ·exact(by decide:(1:Nat)<=8)
  ·exact UP _
 ·rw[i3]
  split
  ·rename_i h
   intro p a
   rw[D'.mp a]
   exact⟨(b.tr n h).dp,G' (b.tr n h).sz (by decide)⟩
  ·intro p a;cases a
def yZ(b:Bd l kf of pf){n:Str}(c:n∈l):(gR l n3 kf of pf).cA n=oY l of pf n:=by
 have a:=b.O6.nd
 have h:=Sh.lV (s:=gR l n3 kf of pf) (by rw[i4 a];exact a) (x:=iz l kf of pf n) (by rw[pd a];exact Tj.mpr ⟨n,c,rfl⟩)
 rw[Bt] at h
 rw[h,Ln.Fl,Bu,i3]
 unfold oY baseOf
 split<;>simp
def wL(b:Bd l kf of pf)(G:l[3]?=some n3):(gR l n3 kf of pf).Good:=by
 have c:=b.O6.nd
 have I:=b.O6.lo
 have F:=b.O6.hi
 obtain⟨r,z,e⟩:=b.on
 have s:r.Nodup:=z.nodup_iff.mpr c
 have B:r.length<=8:=by rw[z.length_eq];exact F
 refine⟨⟨⟨?_,?_⟩,λx a=>?_⟩,⟨by show("z":Str).length<=100000;decide,by show lE "z"=true;decide +kernel⟩,⟨S' 1,by show 1<=8;decide,?_⟩,by rw[i4 c];exact c,by show[n3].Nodup;simp,λn hn=>?_,rk r,λn=>G' (Ku r n) (by omega),λx a n hn=>?_⟩
 ·show((l.take 3).map _).length<=8
  rw[tz,Tu];omega
 ·show((l.drop 3).map _).length<=10
  rw[tz,UC];omega
 ·rw[pd c] at a
  obtain⟨n,hn,rfl⟩:=Tj.mp a
  exact O3 b n
 ·show 1<=((l.drop 3).map _).length
  rw[tz,UC];omega
 ·rw[i4 c]
  rcases T4.mp hn with hn|hn
  ·rw[D'.mp hn];exact K' G
  ·obtain⟨x,a,hn⟩:=Vx.mp hn
   rw[pd c] at a
   obtain⟨m,v,rfl⟩:=Tj.mp a
   rcases T4.mp hn with hn|hn
   ·rw[Bu] at hn
    cases ho:of m with
    |none=>rw[ho] at hn;cases hn
    |some o =>
     rw[ho] at hn
     rw[D'.mp hn]
     exact(e m v o ho).1
   ·obtain⟨p,t,hn⟩:=Vx.mp hn
    rw[i3] at t
    split at t
    ·rename_i h
     rw[D'.mp t] at hn
     exact(b.tr m h).nm n hn
    ·cases t
 ·rw[pd c] at a ⊢
  obtain⟨m,v,rfl⟩:=Tj.mp a
  rw[Bu] at hn
  obtain⟨g1,g2,i,j,C,M,H⟩:=e m v n hn
  refine⟨iz l kf of pf n,Tj.mpr ⟨n,g1,rfl⟩,by rw[Ln.wW,Bt];exact D'.mpr rfl,by rw[DO,g2];simp,λE g=>?_⟩
  rw[Bu] at g
  obtain⟨_,_,N,J,f,y,u⟩:=e n g1 E g
  rw[GY s y,GY s u]
  exact f
end
def O4(l:List Str)(a:Str->List Str):D:=.dK (dF l λn=>bQ (a n))
def G5(h:EG l)(c:4<=k)(e:k<=8):LC (l.take k):=by
 have b:=h.len
 refine⟨?_,?_,U1 (WS _ _) h.nd,λx a=>h.ok x (Ub a)⟩
 ·rw[Tu];omega
 ·rw[Tu];omega
def Ae(a:Str->List Str)(b:List Str)(n:Str):Bool:=(a n).all b.contains
def cQ(a b:List Str):List Str:=a.filter λn=>!b.contains n
def p7(b:List Str)(c:Str->List Str)(a:List Str):List Str:=(cQ b a).filter (Ae c a)
def sP(c:List Str)(b:Str->List Str):Nat->List Str->Option (List Str)
 | 0,a=>some a
 |k+1,a=>match p7 c b a with
  |[]=>none
  |n::_=>sP c b k (a++[n])
def Mp(a:List Str)(b:Str->List Str):Option (List Str):=sP a b a.length []
def ra{r:Str}:∀{l:List Str} {j:Nat},l.Nodup->l[j]?=some r->l.eraseIdx j=l.filter λx=>decide (x≠r)
 |[],_,_,h=>by rw[XH] at h;cases h
 |x::l,0,a,h=>by
  rw[X6] at h
  cases h
  rw[UN] at a
  show l=_
  rw[Wf,if_neg (by simp)]
  symm
  rw[Ys]
  intro y b
  exact decide_eq_true (by intro e;exact a.1 (e ▸ b))
 |x::l,j+1,a,h=>by
  rw[VI] at h
  rw[UN] at a
  show x::l.eraseIdx j=_
  rw[Wf,if_pos (show decide (x≠r)=true from decide_eq_true (by intro e;exact a.1 (e ▸ K' h))),ra a.2 h]
def DM :cQ b (a++[r])=(cQ b a).filter λx=>decide (x≠r):=by
 unfold cQ
 rw[List.filter_filter]
 refine List.filter_congr λx _=>?_
 rw[Yg,Yg]
 by_cases c:x∈a<;>by_cases e:x=r<;>simp[c,e]
def oR(ks:List Str):cQ ks []=ks:=by
 unfold cQ
 rw[Ys]
 intro x _
 rfl
def AN(b:a.Nodup)(c:List Str):(cQ a c).Nodup:=U1 List.filter_sublist b
def Fh{s:Sh}(h:s.Ok):s.names.length<=18:=by
 rw[s.dU,tz]
 exact h.mG
def uz{s:Sh}(h:s.Ok)(c:s.names.Nodup){n:Str}(b:n∈s.names):(s.cA n).length<1000:=by
 rw[s.dU] at b
 obtain⟨x,a,rfl⟩:=Tj.mp b
 rw[Sh.lV c a]
 exact Tc (qW (h.ln x a)) (by decide)
def FQ{tt:TD}(e:cD μ δ=g)(h:jL a f tt b g λd=>∃c,d=.lst c/\c.all gN=true/\R E (δ.set k (some d)) μ):wK (MM k a f tt b) R E δ μ:=by
 unfold wK MM
 rw[e]
 exact h
def zW(h:a≠b):aY [(b,e),(a,c)] (.adr a)=c.d/\aY [(b,e),(a,c)] (.adr b)=e.d:=⟨xG (by rw[yR h];exact cK),xG look_same⟩
def B8(h:a≠b):iU a m [(b,e),(a,c)]=[(b,e),(a,m)]/\iU b m [(b,e),(a,c)]=[(b,m),(a,c)]:=by
 unfold iU
 constructor
 ·simp[VG h]
 ·simp[h]
def ro(n:Str):List Pt->Nat
 |[]=>0
 |q::ps=>if q.aJ.contains n=true then 0 else ro n ps+1
def placeIn(n:Str):Nat->Pt->List Nat
 | 0,_=>[]
 |k+1,p=>if p.own.contains n=true then[] else match p.inner[ro n p.inner]? with
  |some q=>ro n p.inner::placeIn n k q
  |none=>[]
def yh(i:Nat):D:=.int (i:Int)
def AA{n:Str}:∀{ps:List Pt},(∃q∈ps,n∈q.aJ)->∃q,ps[ro n ps]?=some q/\n∈q.aJ/\∀m r,m<ro n ps->ps[m]?=some r->n∉r.aJ
 |[],h=>by obtain⟨q,b,_⟩:=h;cases b
 |p::ps,h=>by
  unfold ro
  cases hc:p.aJ.contains n with
  |true=>exact⟨p,rfl,Th.mp hc,λm r a=>absurd a (Zi _)⟩
  |false =>
   have f:n∉p.aJ:=λz=>by rw[Th.mpr z] at hc;cases hc
   obtain⟨q,b,g⟩:=h
   obtain⟨r,i,l,o⟩:=AA (n:=n) (ps:=ps) ⟨q,(Gc.mp b).resolve_left λe=>f (e ▸ g),g⟩
   refine⟨r,i,l,λm x a c=>?_⟩
   cases m with
   |zero=>cases c;exact f
   |succ m=>exact o m x (Nat.lt_of_succ_lt_succ a) c
def q_{p:Pt}{n:Str}(h:n∈p.aJ):p.cG=false/\(n∈p.own\/∃q∈p.inner,n∈q.aJ):=by
 have c:p.cG=false:=by
  cases p<;>first|rfl|(cases h)
 refine⟨c,?_⟩
 rw[Pt.iC p c] at h
 obtain⟨l,a,b⟩:=yW h
 rcases T4.mp a with a|a
 ·obtain⟨q,e,rfl⟩:=Tj.mp a
  exact .inr ⟨q,e,b⟩
 ·rw[D'.mp a] at b
  exact .inl b
def vO(A:bC):cI:=λa Q=>∃(p:Pt) (n:Str),a=[p.d A,.str n]/\p.depth<=4/\p.size<=900/\n∈p.aJ/\Q (.tup ((placeIn n 4 p).map yh))
def place_len(n:Str):∀(k:Nat) (p:Pt),(placeIn n k p).length<=k
 | 0,_=>S' _
 |k+1,p=>by
  unfold placeIn
  split
  ·exact UP _
  ·split
   ·rw[Tg];exact UH (place_len n k _)
   ·exact UP _
def GK(x:Ln)(n:Str):Option (List Nat):=(x.parts.find? λp=>p.aJ.contains n).map (placeIn n 4)
def M7:Option (List Nat)->D
 |none=>.ae
 |some l=>.tup (l.map yh)
def GL{n:Str}{i:Nat}(a:x.parts[i]?=some p)(c:p.aJ.contains n=true)(h:∀k r,k<i->x.parts[k]?=some r->n∉r.aJ):GK x n=some (placeIn n 4 p):=by
 unfold GK
 have:(x.parts.find? λp=>p.aJ.contains n)=some p:=by
  rw[List.find?_eq_some_iff_getElem]
  refine⟨c,i,dR a,(Te.mp a).2,λk b=>?_⟩
  have:=h k _ b (F' (Vd b (dR a)))
  cases hq:(x.parts[k]'(Vd b (dR a))).aJ.contains n with
  |true=>exact absurd (Th.mp hq) this
  |false=>rfl
 rw[this]
 rfl
def sV{n:Str}(h:∀p∈x.parts,n∉p.aJ):GK x n=none:=by
 unfold GK
 rw[Y4.mpr λp a z=>h p a (Th.mp z)]
 rfl
def m9(A:bC)(L:LA):cI:=λa Q=>∃(x:Ln) (n:Str),a=[x.d A L,.str n]/\pq x/\Q (M7 (GK x n))
def Gi(A:bC)(L:LA)(C:Addr):cI:=λa Q=>∃(s:Sh) (x:Ln),a=[s.d A L,.str x.nm]/\L.sh=C/\s.Ok/\s.names.Nodup/\x∈s.all/\Q (x.d A L)
def nE(d:Df K mg "place_in" nU ["part","need"])(a:MP P w K mg base A j "own_names" 4 λp=>bQ p.own)(b:MP P w K mg base A j "inner" 4 (da A))(g:MQ P w K mg base A j "needs" 4 okN λp=>bQ p.aJ):bo P w K mg base (j+1) "place_in" ["part","need"] (vO A):=by
 refine d.d7 qc (fun Y P P' f ⟨p,n,e,h1,h2,O,q⟩=>⟨p,n,e,h1,h2,O,f _ q⟩) (fun Y Q ⟨p,n,e,_⟩=>by rw[e];rfl) (λf cdv A N s H E t=>have hu:=t.units;have hh:=t.hd;have I:=qc
  (aK (bB (i:=2) I.nd rfl (TQ rfl) (bT aC))
 (aK (Jn T7 (rG (dv 1) (cj a t (by omega) (dv 0)) (by rfl)) (aK (bB (i:=3) I.nd rfl (TQ rfl) (Ei (n_ (x:="inner") (caps:=[1]) (cn:=["need"]) (cl:=[("need",s.heap.objs.size+1)]) (nz (by rfl) (by rfl) (by decide +kernel) (ft ["need"] rfl (by decide +kernel)) (by decide +kernel) (bU (by rfl) dG) (.cons ⟨rfl,.inl rfl,rfl⟩ .nil)) rfl (cF (cj b t (by omega) (dv 0))) (λC W U Z=>az (i:=0) (show(["inner","need"]:List Str).Nodup by decide +kernel) rfl (TQ rfl) (.inr rfl)) (λC W U Z=>cm) (λC W U Z=>(Cq (dv 1) (cj g t (by omega) (dv 0)) (by rfl)))) (pN (by rfl))))
 (aK (bB (i:=2) I.nd rfl (TQ rfl) (bz (dv 2) (bT (aA (dv 3) aC))))
 (aE (bB (i:=0) I.nd rfl (TQ rfl) (ba (cj b t (by omega) (dv 0)) (dv 3) (λ_ _=>rfl)))))))
 (aE (aP (dv 2)))))) ?_
 rintro Y Q ⟨p,n,rfl,X,hs,hn,q⟩
 refine⟨zL0,λm δ=>∃(r:Pt) (h:List Nat) (S:Option D),δ=[some (r.d A),some (.str n),some (.tup (h.map yh)),S]/\r.depth<=m/\r.depth<=4/\r.size<=900/\n∈r.aJ/\h.length+m=4/\h++placeIn n m r=placeIn n 4 p,⟨4,p,[],none,rfl,X,X,hs,hn,rfl,rfl⟩,?_⟩
 rintro m δ ⟨r,h,S,rfl,G,v,u,R,hpl,c⟩
 obtain⟨k,rfl⟩:∃k,m=k+1:=⟨m - 1,by have:=r.gD;omega⟩
 refine⟨_,rfl,cT bW wU ⟨_,rfl,rfl⟩ v ⟨rfl,cH _,_,rfl,?_⟩⟩
 show if(!inD (.str n) (r.own.map D.str))=true then _ else _
 rw[eB]
 unfold placeIn at c
 cases hc:r.own.contains n with
 |true =>
  rw[hc,if_pos rfl,UD] at c
  refine aU ⟨_,rfl,?_⟩
  rw[c]
  exact q
 |false =>
  rw[hc,if_neg Fk] at c
  have J:n∉r.own:=λz=>by rw[Th.mpr z] at hc;cases hc
  obtain⟨x,o,F,M⟩:=AA ((q_ R).2.resolve_left J)
  have l:=K' o
  rw[o] at c
  have O:=r.cf
  refine aq ?_
  refine cT bW gE ⟨_,rfl,rfl⟩ v ⟨r.inner.map (Pt.d A),rfl,sQ (λy=>.bl (y.aJ.contains n)) r.inner,i5,gF λy T=>⟨rfl,λ_=>⟨_,rfl,?_⟩⟩,sL (Tc O (by decide)),?_⟩
  ·refine cS bW mL ⟨_,rfl,rfl⟩ (G' (Pt.c_ T (n:=3) v) (by decide)) (G' (Pt.Kc T) u) ⟨rfl,cH _,?_⟩
   show some (D.bl (y.aJ.contains n))=some (D.bl (inD (.str n) (y.aJ.map D.str)))
   rw[eB]
  rw[i6]
  refine⟨r.inner.map λy=>y.aJ.contains n,by rw[UG];rfl,rfl,ro n r.inner,?_,λm G=>?_,?_,?_⟩
  ·rw[TX,o,Y',Th.mpr F]
  ·have B:m<r.inner.length:=Vd G (dR o)
   rw[TX,F' B,Y']
   have:=M m _ G (F' B)
   cases hq:r.inner[m].aJ.contains n with
   |true=>exact absurd (Th.mp hq) this
   |false=>rfl
  ·have:=dR o;omega
  refine⟨_,rfl,_,rfl,zL1,?_,?_⟩
  ·rw[tz]
   exact G' (show h.length+1<=5 by omega) (by decide)
  refine cT bW gE ⟨_,rfl,rfl⟩ v ⟨_,rfl,x.d A,dE (by rw[TX,o];rfl),?_⟩
  refine⟨k,Wi _,x,h++[ro n r.inner],some (.int (ro n r.inner:Int)),?_,Pt.c_ l G,G' (Pt.c_ l (n:=3) v) (by decide),G' (Pt.Kc l) u,F,?_,?_⟩
  ·rw[Tv];rfl
  ·rw[TY];show h.length+1+k=4;omega
  ·rw[US];exact c
def gM(d:Df K mg "place_needed" gf ["line","need"])(a:∀C,isL L C->bw P w K mg base j C "own_parts" (Gg A L (λx=>.tup (x.parts.map (Pt.d A))) C) [])(c:MQ P w K mg base A j "needs" 4 okN λp=>bQ p.aJ)(nE:bo P w K mg base j "place_in" ["part","need"] (vO A)):bo P w K mg base (j+1) "place_needed" ["line","need"] (m9 A L):=by
 refine d.d7 lC (fun B P N f ⟨x,n,e,h,q⟩=>⟨x,n,e,h,f _ q⟩) (fun B Q ⟨x,n,e,_⟩=>by rw[e];rfl) (λf G A v s H E g=>have M:=g.units;have J:=g.hd;have I:=lC
  (aK (B_ T7 rfl (cF (cj a g (by omega) (dv 0))) (bb (i:=2) I.nd rfl (TQ rfl)) (aE (cw (zO (dv 1) (cj c g (by omega) (dv 2)) (by rfl)) (aE (aP (aR nE g (by omega) (by rfl) (aA (dv 2) (aA (dv 1) aC))))) ay)))
 (aE (aP ig)))) ?_
 rintro B Q ⟨x,n,rfl,y,q⟩
 refine lR bW pj ⟨_,rfl,rfl⟩ y ⟨x.parts.map (Pt.d A),rfl,λi δ=>(∃u,δ=[some (x.d A L),some (.str n),u])/\∀k p,k<i->x.parts[k]?=some p->n∉p.aJ,⟨⟨none,rfl⟩,λk p m=>absurd m (Zi _)⟩,?_,?_⟩
 ·rintro i O δ t ⟨⟨u,rfl⟩,b⟩
  obtain⟨p,o,rfl⟩:=iR t
  have l:=y.2.2 p (K' o)
  refine⟨_,rfl,cS bW mL ⟨_,rfl,rfl⟩ l.1 (G' l.2 (by decide)) ⟨rfl,cH _,_,rfl,?_⟩⟩
  show if(inD (.str n) (p.aJ.map D.str))=true then _ else _
  rw[eB]
  cases hc:p.aJ.contains n with
  |true =>
   have F:=Th.mp hc
   refine aq ⟨_,rfl,_,rfl,p,n,rfl,l.1,G' l.2 (by decide),F,?_⟩
   have e:GK x n=some (placeIn n 4 p):=GL o hc λk r m g=>b k r m g
   rw[e] at q
   exact q
  |false =>
   refine aU ⟨⟨_,rfl⟩,λk r m g=>?_⟩
   by_cases e:k=i
   ·subst e
    rw[o] at g
    cases g
    exact λz=>by rw[Th.mpr z] at hc;cases hc
   ·exact b k r (by omega) g
 ·rintro δ ⟨⟨u,rfl⟩,b⟩
  rw[tz] at b
  have e:GK x n=none:=sV λp o=>by
   obtain⟨k,m⟩:=Tp.mp o
   exact b k p (dR m) m
  rw[e] at q
  exact q
def AO(d:Dm K L.sh "line" "Sheet.line" kP ["self","name"])(a:∀C,AI L C->bw P w K mg base j C "lines_by_name" (pA A L (λs=>s.names.Nodup) (λs=>.dK (s.tab A L)) C) []):∀C,AI L C->bw P w K mg base (j+1) C "line" (Gi A L C) []:=λC e=>by
 cases e
 refine d.d7 mn (fun h P v f ⟨s,x,e,c,r,t,u,q⟩=>⟨s,x,e,c,r,t,u,f _ q⟩) (fun h Q ⟨s,x,e,_⟩=>by rw[e];rfl) (λf m A g s H E b=>have o:=b.units;have z:=b.hd;have y:=mn
  (aE (aP (nI o (cj a b (by omega) (dv 0)) (dv 1) (λ_ _=>rfl))))) ?_
 rintro h Q ⟨s,x,rfl,_,l,i,p,q⟩
 exact fQ bW sN ⟨_,rfl,rfl⟩ l i ⟨_,rfl,s.tab A L,.inr x.nm,x.d A L,rfl,rfl,rH i p (by rw[Ln.wW];exact D'.mpr rfl),q⟩
def gU{α:Type} [DecidableEq α]:∀{l m:List α},l.Nodup->(∀x∈l,x∈m)->l.length<=m.length
 |[],_,_,_=>UP _
 |x::l,m,a,c=>by
  rw[UN] at a
  obtain⟨s,t,rfl⟩:=List.append_of_mem (c x N')
  have e:=gU (l:=l) (m:=s++t) a.2 (λy b=>by
   have:=c y (TR _ b)
   rcases T4.mp this with h|h
   ·exact To _ h
   ·rcases Gc.mp h with h|h
    ·exact absurd (h ▸ b) a.1
    ·exact Tf _ h)
  simp only[TY,Tg] at e ⊢
  omega
structure Chain (nf:Str->List Str) (lf ps:List Str) (nm:Str):Prop where
 nd:ps.Nodup
 sub:∀x∈ps,x∈lf
 Nr:nm∈lf
 link:∀(i:Nat) x y,ps[i]?=some x->(ps++[nm])[i+1]?=some y->y∈nf x
structure rK (nf:Str->List Str) (lf rg:List Str):Prop where
 ne:0<rg.length
 nd:rg.Nodup
 sub:∀x∈rg,x∈lf
 link:∀(i:Nat) x y,rg[i]?=some x->(rg.drop 1++rg.take 1)[i]?=some y->y∈nf x
def Chain.start(h:nm∈b):Chain c b [] nm:=⟨WG,(λx a=>nomatch a),h,λi x y a=>by rw[XH] at a;cases a⟩
def Chain.step(c:Chain t p g nm)(h:nm∉g)(z:l∈t nm)(B:l∈p):Chain t p (g++[nm]) l:=by
 refine⟨VD.mpr ⟨c.nd,by simp,λa C b v e=>h (by rw[D'.mp v] at e;exact e ▸ C)⟩,λx f=>?_,B,λi x y f o=>?_⟩
 ·rcases T4.mp f with f|f
  ·exact c.sub x f
  ·rw[D'.mp f];exact c.Nr
 ·by_cases u:i<g.length
  ·rw[UM u] at f
   rw[UM (by rw[TY];show i+1<g.length+1;omega)] at o
   exact c.link i x y f o
  ·have m:=dR f
   rw[TY] at m
   have e:i=g.length:=by have:i<g.length+1:=m;omega
   subst e
   rw[UL (S' _),aAF] at f
   rw[UL (by rw[TY];exact S' _),TY] at o
   have s:some nm=some x:=f
   have r:some l=some y:=by
    have:g.length+1 - (g.length+[nm].length)=0:=by show g.length+1 - (g.length+1)=0;omega
    rw[this] at o
    exact o
   cases s
   cases r
   exact z
def Chain.ring(c:Chain l g a nm)(h:a[t]?=some nm):rK l g (a.drop t):=by
 have p:=dR h
 refine⟨by rw[UC];omega,U1 (XJ _ _) c.nd,λx f=>c.sub x (Ye f),λi x y f b=>?_⟩
 rw[WH] at f
 refine c.link (t+i) x y f ?_
 have r:(a.drop t).take 1=[nm]:=by
  rw[List.take_one,List.head?_drop,h]
  rfl
 rw[r,List.drop_drop] at b
 by_cases m:t+i+1<a.length
 ·rw[UM (by rw[UC];omega),WH] at b
  rw[UM m]
  rw[show t+1+i=t+i+1 by omega] at b
  exact b
 ·have o:=dR f
  have e:t+i+1=a.length:=by omega
  rw[UL (by rw[UC];omega)] at b
  rw[UL (by omega),show t+i+1 - a.length=0 by omega]
  rw[UC,show i - (a.length - (t+1))=0 by omega] at b
  exact b
def zJ:cI:=λc Q=>∃(l a:List Str) (b:Str->List Str),c=[O4 l b,.lst (a.map D.str)]/\(∀n∈l,(b n).length<1000)/\0<a.length/\a.length<=18/\(∀x∈a,x∈l)/\(∀x∈a,∃y∈b x,y∈a)/\∀rg,rK b a rg->Q (.lst (rg.map D.str))
def pP(d:Df K mg "ring_of" qC ["needs","left"]):bo P w K mg base (j+1) "ring_of" ["needs","left"] zJ:=by
 refine d.uA tE (fun Y P P' f ⟨l,lf,b,e,h1,h2,h3,h4,h5,q⟩=>⟨l,lf,b,e,h1,h2,h3,h4,h5,λrg h=>f _ (q rg h)⟩) (fun Y Q ⟨l,lf,b,e,_⟩=>by rw[e];rfl) (λf cdv A J s H E X=>have hu:=X.units;have hh:=X.hd;have N:=tE
  (aM (fw (i:=2) N.nd rfl (TQ rfl) aC)
 (aM (cM (bB (i:=3) N.nd rfl (TQ rfl) (ba (dv 1) aI (λ_ _=>rfl))))
 (aM (sM T7 (rG (dv 3) (dv 2) (by rfl)) (aM (dj (i:=2) rfl (TQ rfl) (dv 3))
 (av (cM (bB (i:=3) N.nd rfl (TQ rfl) (ba (n_ (x:="need") (caps:=[1]) (cn:=["left"]) (cl:=[("left",s.heap.objs.size+1)]) (nz (by rfl) (by rfl) (by decide +kernel) (ft ["left"] rfl (by decide +kernel)) (by decide +kernel) (bU (by rfl) dG) (.cons ⟨rfl,.inl rfl,rfl⟩ .nil)) rfl (cF (nI hu (dv 0) (dv 3) (λ_ _=>rfl))) (λC W U Z=>az (i:=0) (show(["need","left"]:List Str).Nodup by decide +kernel) rfl (TQ rfl) (.inr rfl)) (λC W U Z=>(tR (zO (dv 0) (dv 1) (by rfl)))) (λC W U Z=>(dv 0))) aI (λ_ _=>rfl)))))))
 (av (ph (dW (dv 2) (dh (rV (dv 2) (aA (dv 3) aC))) gW))))))) ?_
 rintro Y Q ⟨l,lf,b,rfl,B,h0,h18,o,G,q⟩
 refine⟨zL0,λa _=>?_⟩
 obtain⟨T,r⟩:∃x,lf[0]?=some x:=⟨_,F' h0⟩
 refine⟨_,rfl,.str T,dE (i:=0) (by rw[TX,r];rfl),?_⟩
 have O:∀(M:List D) (nm:Str),cD [(a,.lst M)] [some (O4 l b),some (.lst (lf.map D.str)),some (.adr a),some (.str nm)]=[some (O4 l b),some (.lst (lf.map D.str)),some (.lst M),some (.str nm)]:=λM nm=>by
  show[some (aY _ (O4 l b)),some (aY _ (.lst (lf.map D.str))),some (aY _ (.adr a)),_]=_
  rw[fk]
  rfl
 refine⟨λm δ μ=>∃(ps:List Str) (nm:Str),δ=[some (O4 l b),some (.lst (lf.map D.str)),some (.adr a),some (.str nm)]/\μ=[(a,.lst (ps.map D.str))]/\Chain b lf ps nm/\m+ps.length=lf.length+1,⟨lf.length+1,[],T,rfl,rfl,Chain.start (K' r),rfl⟩,?_⟩
 rintro m δ μ ⟨ps,nm,rfl,rfl,c,hm⟩
 have hpl:ps.length<=lf.length:=gU c.nd c.sub
 rw[O]
 refine⟨_,rfl,_,rfl,rfl,cH _,_,rfl,?_⟩
 show if(!inD (.str nm) (ps.map D.str))=true then _ else _
 rw[eB]
 cases hc:ps.contains nm with
 |true =>
  obtain⟨t,u⟩:=Tp.mp (Th.mp hc)
  refine aU ?_
  dsimp only
  refine zB (O _ _) ?_
  refine⟨_,rfl,_,rfl,ps,rfl,_,rfl,nm,rfl,t,u,λk y hk S e=>?_,by have:=dR u;omega,_,rfl,?_⟩
  ·subst e
   have:=eE c.nd S u
   omega
  show Q (.lst (DC.cutD (ps.map D.str) (some (t:Int)) none))
  rw[rQ (by rw[tz];exact Vp (dR u)),<- W5]
  exact q _ (c.ring u)
 |false =>
  have v:nm∉ps:=λz=>by rw[Th.mpr z] at hc;cases hc
  refine aq ⟨a,_,rfl,cK,?_,_,rfl,?_⟩
  ·rw[tz]
   exact Tc (show _<=18 by omega) (by decide)
  dsimp only
  rw[oj]
  refine⟨_,rfl,_,rfl,_,.inr nm,_,rfl,rfl,mI (o nm c.Nr),(b nm).map D.str,rfl,outF lf.contains D.str (b nm),lW,i7 λy S=>?_,sL (Vd (B nm (o nm c.Nr)) (by decide)),?_⟩
  ·refine⟨_,rfl,_,rfl,rfl,cH _,_,rfl,?_⟩
   change inD (.str y) (lf.map D.str)=_/\(inD (.str y) (lf.map D.str)=true->_)
   rw[eB]
   cases lf.contains y with
   |true=>exact⟨rfl,λ_=>⟨_,rfl,rfl⟩⟩
   |false=>exact⟨rfl,λz=>nomatch z⟩
  rw[i8]
  obtain⟨y,F,I⟩:=G nm c.Nr
  have g:y∈(b nm).filter lf.contains:=Uq.mpr ⟨F,Th.mpr I⟩
  have p:∀x∈(b nm).filter lf.contains,x∈b nm/\x∈lf:=λx R=>⟨(Uq.mp R).1,Th.mp (Uq.mp R).2⟩
  revert g p
  cases(b nm).filter lf.contains with
  |nil=>intro g;cases g
  |cons z zs =>
   intro _ p
   have hz:=p z N'
   refine⟨.str z,dE (i:=0) rfl,m - 1,by omega,ps++[nm],z,rfl,?_,c.step v hz.1 hz.2,?_⟩
   ·rw[Tv];rfl
   ·rw[TY]
    show m - 1+(ps.length+1)=_
    omega
def Sh.DN(s:Sh)(n:Str):Ln:=(s.all.find? λx=>x.nm == n).getD (.lP n "truth" none)
def Sh.MK{s:Sh}(b:s.names.Nodup){n:Str}(h:n∈s.names):s.DN n∈s.all/\(s.DN n).nm=n/\s.cA n=(s.DN n).aJ:=by
 have c:=h
 rw[s.dU] at c
 obtain⟨x,a,rfl⟩:=Tj.mp c
 have e:(s.all.find? λy=>y.nm == x.nm)=some x:=qx (by rw[<- s.dU];exact b) a rfl
 have f:s.DN x.nm=x:=by unfold Sh.DN;rw[e];rfl
 rw[f,Sh.lV b a]
 exact⟨a,rfl,rfl⟩
def uJ(rg:List Str):List Str:=rg.drop 1++rg.take 1
def pairD(s:Sh)(x y:Str):D:=.tup [.str x,M7 (GK (s.DN x) y)]
def fi(s:Sh)(rg:List Str):List D:=Vm (pairD s) rg (uJ rg)
def ot(h:0<rg.length):(uJ rg).length=rg.length:=by
 unfold uJ
 rw[TY,UC,Tu]
 omega
def tI(A:bC)(L:LA):cI:=λa Q=>∃(s:Sh) (rg:List Str),a=[s.d A L,.lst (rg.map D.str)]/\s.Ok/\s.names.Nodup/\0<rg.length/\rg.length<=18/\(∀x∈rg,x∈s.names)/\Q (.tup (fi s rg))
def HI{α β γ:Type}{f:α->β->γ}{b:List α}{a:List β}{i:Nat}{z:γ}(h:(Vm f b a)[i]?=some z):∃x y,b[i]?=some x/\a[i]?=some y/\f x y=z:=by
 rw[Wt] at h
 cases e1:b[i]? with
 |none=>rw[e1] at h;cases h
 |some x =>
  cases e2:a[i]? with
  |none=>rw[e1,e2] at h;cases h
  |some y=>rw[e1,e2] at h;exact⟨x,y,rfl,rfl,by simpa using h⟩
def Fn:wR "line":=by unfold wR;decide +kernel
def lK(d:Df K mg "ring_told" l4 ["sheet","names"])(g:mg "zip"=none)(b:mg "tuple"=none)(gM:bo P w K mg base j "place_needed" ["line","need"] (m9 A L))(c:∀C,AI L C->bw P w K mg base j C "line" (Gi A L C) []):bo P w K mg base (j+1) "ring_told" ["sheet","names"] (tI A L):=by
 refine d.uA o_ (fun M P P' f ⟨s,rg,e,U,h2,h3,Y,X,q⟩=>⟨s,rg,e,U,h2,h3,Y,X,f _ q⟩) (fun M Q ⟨s,rg,e,_⟩=>by rw[e];rfl) (λf T A r s H E h=>have F:=h.units;have hh:=h.hd;have t:=o_
  (aM (fw (i:=2) t.nd rfl (TQ rfl) aC)
 (aM (de T7 rfl (Og (by rfl) g (aA (dv 1) (aA (bz (dW (dv 1) (dh aI) gW) (dW (dv 1) gW (dh aI))) aC))) (E9 (n:=2) rfl (fH (bb (i:=3) t.nd rfl (TQ rfl)) (fH (bb (i:=4) t.nd rfl (TQ rfl)) rj))) (av (dj (i:=2) rfl (TQ rfl) (bT (aA (dv 3) (aA (aR gM h (by omega) (by rfl) (aA (Sl c h (by omega) (dv 0) (aA (dv 3) aC)) (aA (dv 4) aC))) aC))))))
 (av (ph (jW (by rfl) b (aA (dv 2) aC))))))) ?_
 rintro M Q ⟨s,rg,rfl,I,z,R,Z,o,q⟩
 refine⟨zL0,λa _=>?_⟩
 have J:DC.cutD (rg.map D.str) (some 1) none=(rg.drop 1).map D.str:=by
  rw[show(some (1:Int))=some ((1:Nat):Int) from rfl,rQ (by rw[tz];exact R),W5]
 have G:DC.cutD (rg.map D.str) none (some 1)=(rg.take 1).map D.str:=by
  rw[show(some (1:Int))=some ((1:Nat):Int) from rfl,zp,WW]
 have e3:DC.cutD (rg.map D.str) (some 1) none++DC.cutD (rg.map D.str) none (some 1)=(uJ rg).map D.str:=by rw[J,G,<- Tv];rfl
 refine⟨_,rfl,_,rfl,_,rfl,_,rfl,_,rfl,?_,?_⟩
 ·rw[J,G,tz,tz,UC,Tu]
  exact G' (show _<=40 by omega) (by decide)
 rw[e3]
 refine⟨_,_,_,_,rg.map D.str,(uJ rg).map D.str,rfl,rfl,rfl,λi δ μ=>(∃l m,δ=[some (s.d A L),some (.lst (rg.map D.str)),some (.adr a),l,m])/\μ=[(a,.lst ((fi s rg).take i))],⟨⟨none,none,rfl⟩,rfl⟩,?_,?_⟩
 ·rintro i dd δ μ p ⟨⟨l,m,rfl⟩,rfl⟩
  obtain⟨u,v,F,N,rfl⟩:=HI p
  obtain⟨x,B,rfl⟩:=iR F
  obtain⟨y,S,rfl⟩:=iR N
  obtain⟨g1,g2,_⟩:=Sh.MK z (o x (K' B))
  refine⟨_,rfl,rfl,_,_,rfl,_,_,rfl,rfl,?_⟩
  refine⟨a,_,rfl,cK,?_,_,rfl,?_⟩
  ·rw[Tu]
   have:(fi s rg).length<=rg.length:=by unfold fi;rw[WA];exact Nat.min_le_left _ _
   exact Tc (show _<=18 by omega) (by decide)
  obtain⟨W,f1,f2⟩:=yn A L Fn s
  refine⟨s.d A L,rfl,L.sh,W,f1,f2,rfl,_,rfl,s,s.DN x,by rw[g2];rfl,rfl,I,z,g1,_,rfl,s.DN x,y,rfl,I.ln _ g1,zL2,⟨_,_,rfl⟩,?_⟩
  have h:(fi s rg)[i]?=some (pairD s x y):=by
   unfold fi
   rw[Wt,B,S]
  rw[oj,dC h]
  rfl
 ·rintro δ μ ⟨⟨l,m,rfl⟩,rfl⟩
  have O:(Vm (λx y=>D.tup [x,y]) (rg.map D.str) ((uJ rg).map D.str)).length=(fi s rg).length:=by
   unfold fi
   rw[WA,WA,tz,tz]
  rw[O,T2]
  dsimp only
  refine zB (δ':=[some (s.d A L),some (.lst (rg.map D.str)),some (.lst (fi s rg)),l.map (aY [(a,.lst (fi s rg))]),m.map (aY [(a,.lst (fi s rg))])]) ?_ ?_
  ·show[some (aY _ (s.d A L)),some (aY _ (.lst (rg.map D.str))),some (aY _ (.adr a)),_,_]=_
   rw[fk]
   rfl
  ·exact⟨_,rfl,_,.inl rfl,q⟩
def cP(n:Str):Nat->Pt->List Nat->List (List Nat)
 | 0,_,_=>[]
 |k+1,p,a=>if p.cG=true then[] else(if p.own.contains n=true then[a] else[])++p.inner.zipIdx.flatMap λb=>cP n k b.1 (a++[b.2])
def ql(n:Str)(k:Nat)(p:Pt)(pl:List Nat)(i:Nat):List (List Nat):=(if p.own.contains n=true then[pl] else[])++(p.inner.take i).zipIdx.flatMap λa=>cP n k a.1 (pl++[a.2])
def dB(a:List Nat):D:=.tup (a.map yh)
def Cc{n:Str}(h:p.inner[i]?=some q):ql n k p pl (i+1)=ql n k p pl i++cP n k q (pl++[i]):=by
 unfold ql
 rw[dC h,List.zipIdx_append,U6,<- US]
 congr 1
 have:(p.inner.take i).length=i:=by rw[Tu];have:=dR h;omega
 rw[this]
 simp[List.zipIdx]
def EM{n:Str}(h:p.cG=false):ql n k p pl p.inner.length=cP n (k+1) p pl:=by
 unfold ql
 rw[T2]
 show _=if p.cG=true then[] else _
 rw[h]
 rfl
def lY{n:Str}:∀(k:Nat) (p:Pt) (a:List Nat),n∈p.aJ->p.depth<=k->a++placeIn n k p∈cP n k p a
 | 0,p,a,_,h=>absurd p.gD (by omega)
 |k+1,p,a,l,m=>by
  obtain⟨i,g⟩:=q_ l
  unfold cP placeIn
  rw[i,if_neg Fk]
  cases hc:p.own.contains n with
  |true =>
   rw[if_pos rfl,if_pos rfl,UD]
   exact To _ (D'.mpr rfl)
  |false =>
   rw[if_neg Fk,if_neg Fk]
   have b:n∉p.own:=λz=>by rw[Th.mpr z] at hc;cases hc
   obtain⟨x,c,e,_⟩:=AA (g.resolve_left b)
   rw[c]
   have f:=lY k x (a++[ro n p.inner]) e (Pt.c_ (K' c) m)
   refine Tf _ (Vx.mpr ⟨(x,ro n p.inner),?_,?_⟩)
   ·rw[Xb]
    exact c
   ·rw[US] at f
    exact f
def nN{p q:Pt}{n:Str}(b:p.cG=false)(a:q∈p.inner)(h:n∈q.aJ):n∈p.aJ:=by
 rw[Pt.iC p b]
 exact B1 (To _ (Tj.mpr ⟨q,a,rfl⟩)) h
def fO{p:Pt}{n:Str}(a:p.cG=false)(h:n∈p.own):n∈p.aJ:=by
 rw[Pt.iC p a]
 exact B1 (Tf _ (D'.mpr rfl)) h
def yo{n:Str}:∀(k:Nat) (p:Pt) (b:List Nat),n∉p.aJ->cP n k p b=[]
 | 0,_,_,_=>rfl
 |k+1,p,b,e=>by
  unfold cP
  cases hb:p.cG with
  |true=>rfl
  |false =>
   rw[if_neg Fk]
   have a:p.own.contains n=false:=by
    cases a:p.own.contains n with
    |true=>exact absurd (fO hb (Th.mp a)) e
    |false=>rfl
   rw[a,if_neg Fk,Wo,List.flatMap_eq_nil_iff]
   rintro⟨q,i⟩ hq
   have c:=Xb.mp hq
   exact yo k q (b++[i]) λz=>e (nN hb (K' c) z)
def F4(p:Pt)(n:Str)(a:List Nat):(if p.own.contains n=true then[a] else[]).length<=1:=by split<;>simp
def qG(n:Str):∀(k:Nat) (p:Pt) (a:List Nat),(cP n k p a).length<=4 ^ k
 | 0,_,_=>UP _
 |k+1,p,a=>by
  unfold cP
  split
  ·exact UP _
  ·rw[TY,Yr]
   have i:=F4 p n a
   have c:∀(l:List (Pt × Nat)),(l.map λb=>(cP n k b.1 (a++[b.2])).length).sum<=l.length*4 ^ k:=λl=>by
    induction l with
    |nil=>simp
    |cons x l h =>
     rw[TM,T3,Tg,YS]
     have:=qG n k x.1 (a++[x.2])
     omega
   have e:=c p.inner.zipIdx
   rw[Y2] at e
   have f:=p.cf
   have m:p.inner.length*4 ^ k<=3*4 ^ k:=Yp _ f
   have g:1<=4 ^ k:=Nat.pos_of_ne_zero (by simp)
   rw[Nat.pow_succ]
   omega
def EN(n:Str)(k:Nat)(p:Pt)(pl:List Nat)(i:Nat):(ql n k p pl i).length<=1+3*4 ^ k:=by
 unfold ql
 rw[TY,Yr]
 have f:=F4 p n pl
 have b:∀(l:List (Pt × Nat)),(l.map λa=>(cP n k a.1 (pl++[a.2])).length).sum<=l.length*4 ^ k:=λl=>by
  induction l with
  |nil=>simp
  |cons x l e =>
   rw[TM,T3,Tg,YS]
   have:=qG n k x.1 (pl++[x.2])
   omega
 have c:=b (p.inner.take i).zipIdx
 rw[Y2,Tu] at c
 have h:=p.cf
 have g:min i p.inner.length*4 ^ k<=3*4 ^ k:=Yp _ (by omega)
 omega
def KC{p:Pt}(e:p.ok)(c:p.cG=false):p.word≠"before":=by
 cases p with
 |pair g a b=>exact(pD g e.1).2.2.1
 |before=>cases c
 |given=>exact(show("given":Str)≠"before" by decide)
 |named=>exact(show("named":Str)≠"before" by decide)
 |turned=>exact(show("not":Str)≠"before" by decide)
 |choice=>exact(show("if":Str)≠"before" by decide)
 |led=>exact(show("then":Str)≠"before" by decide)
 |cv=>exact(show("when":Str)≠"before" by decide)
 |held=>exact(show("held":Str)≠"before" by decide)
def rE(k:Nat):cI:=λb Q=>∃(p:Pt) (n:Str) (a:List Nat),b=[p.told,.str n,dB a]/\p.ok/\p.depth<=k/\k<=4/\a.length+k<=4/\Q (.lst ((cP n k p a).map dB))
def Ea(d:Df K mg "_law_inner" kQ ["_law_told"])(c:mg "list"=none):iL P w K mg base (j+1) "_law_inner" ["_law_told"] tF:=by
 refine d.Hg mr (fun r P B f ⟨p,e,h,q⟩=>⟨p,e,h,f _ q⟩) (fun r Q ⟨p,e,_⟩=>by rw[e];rfl) (λf u A l s H E y x=>have z:=fP y;have C:=mr
  (aK (cw (zO (ba (dv 0) aI (λ_ _=>rfl)) (cB (pN (by rfl))) (by rfl)) (aE (aP (cB aC))) ay)
 (aK (cw (zO (ba (dv 0) aI (λ_ _=>rfl)) (cB (pN (by rfl))) (by rfl)) (aE (aP (cB (aA (ba (dv 0) aI (λ_ _=>rfl)) aC)))) ay)
 (aE (aP (Cr (by rfl) c (aA (dW (dv 0) (dh aI) gW) aC))))))) ?_
 rintro r Q ⟨p,rfl,o,q⟩
 have i:1<=sizeLine:=by decide
 cases p with
 |given v=>exact⟨_,rfl,_,rfl,(by decide),rfl,(by decide +kernel),true,congrArg D.bl (by decide +kernel),aq ⟨zL0,q⟩⟩
 |named v=>exact⟨_,rfl,_,rfl,(by decide),rfl,(by decide +kernel),true,congrArg D.bl (by decide +kernel),aq ⟨zL0,q⟩⟩
 |turned v=>exact⟨_,rfl,_,rfl,(by decide),rfl,(by decide +kernel),false,congrArg D.bl (by decide +kernel),aU ⟨_,rfl,_,rfl,(by decide),rfl,(by decide +kernel),true,congrArg D.bl (by decide +kernel),aq ⟨_,rfl,_,rfl,i,q⟩⟩⟩
 |before v f=>exact⟨_,rfl,_,rfl,(by decide),rfl,(by decide +kernel),false,congrArg D.bl (by decide +kernel),aU ⟨_,rfl,_,rfl,(by decide),rfl,(by decide +kernel),true,congrArg D.bl (by decide +kernel),aq ⟨_,rfl,_,rfl,i,q⟩⟩⟩
 |cv v f=>exact⟨_,rfl,_,rfl,(by decide),rfl,(by decide +kernel),false,congrArg D.bl (by decide +kernel),aU ⟨_,rfl,_,rfl,(by decide),rfl,(by decide +kernel),true,congrArg D.bl (by decide +kernel),aq ⟨_,rfl,_,rfl,i,q⟩⟩⟩
 |held v m f=>exact⟨_,rfl,_,rfl,(by decide),rfl,(by decide +kernel),false,congrArg D.bl (by decide +kernel),aU ⟨_,rfl,_,rfl,(by decide),rfl,(by decide +kernel),true,congrArg D.bl (by decide +kernel),aq ⟨_,rfl,_,rfl,i,q⟩⟩⟩
 |pair g a b=>exact⟨_,rfl,_,rfl,(by decide),rfl,(by decide +kernel),false,congrArg D.bl (pD g o.1).1,aU ⟨_,rfl,_,rfl,(by decide),rfl,(by decide +kernel),false,congrArg D.bl (pD g o.1).2.1,aU ⟨_,rfl,_,rfl,fT,[a.told,b.told],.inr rfl,q⟩⟩⟩
 |choice t a b=>exact⟨_,rfl,_,rfl,(by decide),rfl,(by decide +kernel),false,congrArg D.bl (by decide +kernel),aU ⟨_,rfl,_,rfl,(by decide),rfl,(by decide +kernel),false,congrArg D.bl (by decide +kernel),aU ⟨_,rfl,_,rfl,fT,[t.told,a.told,b.told],.inr rfl,q⟩⟩⟩
 |led a b=>exact⟨_,rfl,_,rfl,(by decide),rfl,(by decide +kernel),false,congrArg D.bl (by decide +kernel),aU ⟨_,rfl,_,rfl,(by decide),rfl,(by decide +kernel),false,congrArg D.bl (by decide +kernel),aU ⟨_,rfl,_,rfl,fT,[a.told,b.told],.inr rfl,q⟩⟩⟩
def DQ(e:cD μ δ=δ')(h:a δ' λb=>if b=true then T { E with nx:=R E } δ μ else R E δ μ):wK (Nu a T yU) R E δ μ:=by
 subst e
 exact h
def AU(e:cD μ δ=δ')(h:a δ' λb=>if b=true then T E δ μ else E.nx δ μ):Nu a T yU E δ μ:=by
 subst e
 exact h
def A6{p:Pt}{n:Str}(e:l=[.str "when",.str "held"])(i:p.ok)(r:R (p.own.contains n)):Ru (J5 (e6 (vEq (Nx (qL 0) (vC (D.int 0))) (vC (D.str "named")))) (e6 (vEq (Nx (qL 0) (vC (D.int 1))) (qL 1)))) (J5 (e6 (Rz (Nx (qL 0) (vC (D.int 0))) (QE (EL l)))) (e6 (vEq (Nx (qL 0) (vC (D.int 2))) (qL 1)))) [some p.told,some (.str n),u,o,s,m] R:=by
 subst e
 have c:2<=sizeLine:=by decide
 have h:∀v:Str,decide (v=n)=[v].contains n:=λv=>by simp[eq_comm]
 cases p with
 |given v=>exact⟨_,rfl,_,rfl,_,rfl,aU ⟨_,rfl,_,rfl,c,rfl,(by decide +kernel),false,congrArg D.bl (by decide +kernel),aU r⟩⟩
 |named v=>exact⟨_,rfl,_,rfl,_,rfl,aq ⟨_,rfl,_,rfl,_,rfl,_,congrArg D.bl (h v),by
   change R ([v].contains n) at r
   cases hc:[v].contains n with
   |true=>rw[hc] at r;exact aq r
   |false=>rw[hc] at r;exact aU ⟨_,rfl,_,rfl,c,rfl,(by decide +kernel),false,congrArg D.bl (by decide +kernel),aU r⟩⟩⟩
 |turned v=>exact⟨_,rfl,_,rfl,_,rfl,aU ⟨_,rfl,_,rfl,c,rfl,(by decide +kernel),false,congrArg D.bl (by decide +kernel),aU r⟩⟩
 |choice t a b=>exact⟨_,rfl,_,rfl,_,rfl,aU ⟨_,rfl,_,rfl,c,rfl,(by decide +kernel),false,congrArg D.bl (by decide +kernel),aU r⟩⟩
 |led a b=>exact⟨_,rfl,_,rfl,_,rfl,aU ⟨_,rfl,_,rfl,c,rfl,(by decide +kernel),false,congrArg D.bl (by decide +kernel),aU r⟩⟩
 |before a b=>exact⟨_,rfl,_,rfl,_,rfl,aU ⟨_,rfl,_,rfl,c,rfl,(by decide +kernel),false,congrArg D.bl (by decide +kernel),aU r⟩⟩
 |pair g a b=>exact⟨_,rfl,_,rfl,false,congrArg D.bl (decide_eq_false (pD g i.1).2.2.2.1),aU ⟨_,rfl,_,rfl,c,rfl,(by decide +kernel),false,congrArg D.bl (pD g i.1).2.2.2.2,aU r⟩⟩
 |cv v f=>exact⟨_,rfl,_,rfl,_,rfl,aU ⟨_,rfl,_,rfl,c,rfl,(by decide +kernel),true,congrArg D.bl (by decide +kernel),aq ⟨_,rfl,_,rfl,_,rfl,_,congrArg D.bl (h f),r⟩⟩⟩
 |held v f g=>exact⟨_,rfl,_,rfl,_,rfl,aU ⟨_,rfl,_,rfl,c,rfl,(by decide +kernel),true,congrArg D.bl (by decide +kernel),aq ⟨_,rfl,_,rfl,_,rfl,_,congrArg D.bl (h f),r⟩⟩⟩
def A5(d:Df K mg "_law_spots" gB ["_law_told","_law_name","_law_place"])(g:mg "enumerate"=none)(c:iL P w K mg base j "_law_inner" ["_law_told"] tF)(b:iL P w K mg base j "_law_spots" ["_law_told","_law_name","_law_place"] (rE k)):iL P w K mg base (j+1) "_law_spots" ["_law_told","_law_name","_law_place"] (rE (k+1)):=by
 refine d.N8 mz (fun U P P' f ⟨p,n,pl,e,Y,h2,h3,Z,q⟩=>⟨p,n,pl,e,Y,h2,h3,Z,f _ q⟩) (fun U Q ⟨p,n,pl,e,_⟩=>by rw[e];rfl) (λf X A J s H E G h=>have t:=fP G;have v:=mz
  (aM (oW (hJ t (ba (dv 0) aI (λ_ _=>rfl)) ar) (dS (aE (aP (cB aC)))) kH)
 (aM (fw (i:=3) v.nd rfl (TQ rfl) aC)
 (aM (oW (rM.td (w_or (rM.td (w_and (hJ t (ba (dv 0) aI (λ_ _=>rfl)) ar) (tW (hJ t (ba (dv 0) aI (λ_ _=>rfl)) (dv 1))))) (nA (rM.td (w_and (zO (ba (dv 0) aI (λ_ _=>rfl)) (cB (pN (by rfl))) (by rfl)) (tW (hJ t (ba (dv 0) aI (λ_ _=>rfl)) (dv 1)))))))) (av (dj (i:=3) rfl (TQ rfl) (dv 2))) kH)
 (fN (dS (aK (Gb T7 h (IK (by rfl) g (aA (qt h c G (by omega) (by rfl) (aA (dv 0) aC)) aC)) (E_ (n:=2) h (fH (bb (i:=4) v.nd rfl (TQ rfl)) (fH (bb (i:=5) v.nd rfl (TQ rfl)) rj))) (aE (bB (i:=3) v.nd rfl (TQ rfl) (bz (dv 3) (qt h b G (by omega) (by rfl) (aA (dv 5) (aA (dv 1) (aA (bz (dv 2) (bT (aA (dv 4) aC))) aC))))))))
 (aE (aP (dv 3)))))))))) ?_
 rintro U Q ⟨p,n,pl,rfl,u,hd,hk,hpl,q⟩
 by_cases W:p.cG=true
 ·cases p with
  |before x f=>exact⟨_,rfl,_,rfl,_,rfl,aq ⟨zL0,q⟩⟩
  |_=>cases W
 ·have l:p.cG=false:=by simpa using W
  have M:=KC u l
  have hw:∀{R:D->Prop},R (.str p.word)->Nx (qL 0) (vC (.int 0)) [some p.told,some (.str n),some (dB pl),none,none,none] R:=fun{R} r=>by
   rw[Pt.J3]
   exact⟨_,rfl,_,dE (i:=0) rfl,r⟩
  refine DQ (δ':=[some p.told,some (.str n),some (dB pl),none,none,none]) (by show[some (aY [] p.told),_,_,_,_,_]=_;rw[mT];rfl) ?_
  refine hw ⟨_,rfl,?_⟩
  show if decide (p.word="before")=true then _ else _
  rw[decide_eq_false M]
  refine aU ⟨zL0,λa _=>?_⟩
  dsimp only
  refine pE (λδ μ=>cD μ δ=[some p.told,some (.str n),some (dB pl),some (.lst ((ql n k p pl 0).map dB)),none,none]) (λN S=>?_) ?_
  ·refine AU (δ':=[some p.told,some (.str n),some (dB pl),some (.lst []),none,none]) (by show[some (aY _ p.told),_,_,some (aY _ _),_,_]=_;rw[mT,fk];rfl) ?_
   refine A6 rfl u ?_
   split
   ·rename_i F
    refine⟨a,[],rfl,cK,(by decide),_,rfl,S _ _ ?_⟩
    unfold ql
    rw[F,oj]
    show[some (aY _ p.told),_,_,some (aY _ _),_,_]=_
    rw[mT,fk]
    rfl
   ·rename_i F
    refine S _ _ ?_
    unfold ql
    rw[if_neg F]
    show[some (aY _ p.told),_,_,some (aY _ _),_,_]=_
    rw[mT,fk]
    rfl
  ·intro δ μ O
   show qU _ _ δ μ
   unfold qU
   rw[O]
   clear O
   refine⟨_,rfl,p,rfl,u,_,rfl,λi δ=>∃C z,δ=[some p.told,some (.str n),some (dB pl),some (.lst ((ql n k p pl i).map dB)),C,z],⟨none,none,rfl⟩,?_,?_⟩
   ·rintro i dd δ I ⟨C,z,rfl⟩
    obtain⟨x,T,rfl⟩:=KS I
    have m:=K' T
    have B:(ql n k p pl (i+1)).length<=sizeLine:=G' (EN _ _ _ _ _) (by
     have:4 ^ k<=4 ^ 3:=Nat.pow_le_pow_right (by decide) (by omega)
     exact G' (show _<=193 by omega) (by decide))
    have o:=Cc (n:=n) (k:=k) (pl:=pl) T
    rw[o] at B
    rw[TY] at B
    refine⟨_,rfl,rfl,_,_,rfl,_,_,rfl,rfl,?_⟩
    have y:pl.map yh++[yh i]=(pl++[i]).map yh:=by rw[Tv];rfl
    refine⟨_,rfl,_,rfl,_,rfl,_,rfl,_,rfl,?_⟩
    refine⟨zL1,by rw[tz];exact G' (show pl.length+1<=4 by omega) (by decide),?_⟩
    refine⟨x,n,pl++[i],?_,Pt.Kl m u,Pt.c_ m hd,(by omega),(by rw[TY];show pl.length+1+k<=4;omega),?_⟩
    ·unfold dB
     rw[<- y]
     rfl
    ·refine⟨by rw[tz,tz];exact B,some (.int i),some x.told,?_⟩
     rw[o,Tv]
     rfl
   ·rintro δ ⟨C,z,rfl⟩
    rw[qv,tz,EM l]
    exact⟨_,rfl,q⟩
def Df.MY{st:Stmt}(d:Df K mg x st g)(h:∀a Q,sd a Q->False):iL P w K mg base k x g sd:=by
 obtain⟨f,l,F,m,b⟩:=d.ex
 exact⟨⟨f,l,⟨fun i H Q E ⟨a,_,q⟩=>(h _ _ q).elim,fun A c s H e p i Q E _ _ _ _ _ ⟨a,_,q⟩=>(h _ _ q).elim⟩,m,F.kp,b⟩,λa P o f q=>(h _ _ q).elim⟩
def vR(d:Df K mg "_law_spots" gB ["_law_told","_law_name","_law_place"])(a:mg "enumerate"=none)(b:∀j,iL P w K mg base (j+1) "_law_inner" ["_law_told"] tF):∀k,iL P w K mg base (k+1) "_law_spots" ["_law_told","_law_name","_law_place"] (rE k)
 | 0=>Df.MY d fun c Q ⟨p,n,e,_,_,h,_⟩=>absurd p.gD (by omega)
 |k+1=>A5 (j:=k+1) d a (b k) (vR d a b k)
def iK(l:List Str)(a:Str->Pt)(x y:Str):List (List Nat):=if x∈l then cP y 4 (a x) [] else[]
def vh(l:List Str)(of:Str->Option Str)(b:Str->Pt)(x y:Str):Option (List Nat)->Prop
 |none=>iK (l.drop 3) b x y=[]/\of x=some y
 |some a=>a∈iK (l.drop 3) b x y/\a.length<=4
def Gj:cI:=λc Q=>∃(l:List Str) (e:Str->Str) (of:Str->Option Str) (b:Str->Pt) (x y:Str) (a:Option (List Nat)),c=[.dK (sO l of),.lst ((l.drop 3).map (AQ e of b)),.tup [.str x,M7 a],.str y]/\LC l/\(∀n∈l.drop 3,Tr l 4 19 (b n))/\x∈l/\vh l of b x y a/\Q (.bl true)
def Hl(d:Df K mg "_law_link" lh ["_law_ons","_law_lines","_law_pair","_law_need"])(a:mg "isinstance"=none)(p:mg "tuple"=none)(F:mg "int"=none)(v:mg "bool"=none)(b:iL P w K mg base j "_law_spots" ["_law_told","_law_name","_law_place"] (rE 4)):iL P w K mg base (j+1) "_law_link" ["_law_ons","_law_lines","_law_pair","_law_need"] Gj:=by
 refine d.Hg o3 (fun ds P P' f ⟨l,G,of,g,x,y,c,e,O,R,h3,h4,q⟩=>⟨l,G,of,g,x,y,c,e,O,R,h3,h4,f _ q⟩) (fun ds Q ⟨l,G,of,g,x,y,c,e,_⟩=>by rw[e];rfl) (λf cdv A X s H E hr t=>have I:=fP hr;have S:=o3
  (aK (Ge (dv 2) (E_ (n:=2) t (fH (bb (i:=6) S.nd rfl (TQ rfl)) (fH (bb (i:=7) S.nd rfl (TQ rfl)) rj))))
 (aK (bB (i:=4) S.nd rfl (TQ rfl) (cB aC))
 (aK (Gb T7 t (pU (dv 1)) (bb (i:=5) S.nd rfl (TQ rfl)) (aE (cw (hJ I (ba (dv 5) aI (λ_ _=>rfl)) (dv 6)) (aE (bB (i:=4) S.nd rfl (TQ rfl) (qt t b hr (by omega) (by rfl) (aA (ba (dv 5) aI (λ_ _=>rfl)) (aA (dv 3) (aA (bT aC) aC)))))) ay)))
 (aK (cw (P_ (dv 7) ig) (aE (aP (rT (xh I (dv 4) (cB aC)) (oB (xh I (nI I (dv 0) (dv 6) (λ_ _=>rfl)) (dv 3)))))) ay)
 (aK (cw (rM.td (w_or (gz (eX (pW (by rfl) a (by rfl) p (dv 7)))) (nA (Gy I (xj (x:="_law_k") (caps:=[]) (cn:=[]) (cl:=[]) (h_ (by rfl) (by rfl) (by decide +kernel) (by decide +kernel) (by decide +kernel)) t (pU (dv 7)) (λC Z Y H₂=>az (i:=0) (show(["_law_k"]:List Str).Nodup by decide +kernel) rfl (TQ rfl) (.inr rfl)) (λC Z Y H₂=>(tR (rM.td (w_or (gz (eX (Bm (by rfl) a (by rfl) F (dv 0)))) (nA (eX (sD (by rfl) a (by rfl) v (dv 0)))))))) (λC Z Y H₂ t=>(dv 0))) (cB aC))))) (aE (aP nH)) ay)
 (aE (aP (Hq I (dv 7) (dv 4) (by rfl)))))))))) ?_
 rintro ds Q ⟨l,G,of,g,x,y,c,rfl,hn,ht,hx,U,q⟩
 have hsp:∀i,((if x∈(l.drop 3).take i then cP y 4 (g x) [] else[]).map dB).length<=256:=λi=>by
  rw[tz]
  split
  ·exact qG y 4 _ _
  ·exact UP _
 refine⟨_,rfl,_,rfl,rfl,_,_,rfl,_,_,rfl,rfl,zL0,_,rfl,_,.inl rfl,λi δ=>∃T,δ=[some (.dK (sO l of)),some (.lst ((l.drop 3).map (AQ G of g))),some (.tup [.str x,M7 c]),some (.str y),some (.lst ((if x∈(l.drop 3).take i then cP y 4 (g x) [] else[]).map dB)),T,some (.str x),some (M7 c)],⟨none,?_⟩,?_,?_⟩
 ·rw[WE,if_neg (λz=>nomatch z)]
  rfl
 ·rintro i dd δ W ⟨T,rfl⟩
  obtain⟨n,B,rfl⟩:=iR W
  have N:=K' B
  refine⟨_,rfl,_,rfl,_,rfl,decide (n=x),rfl,?_⟩
  by_cases e:n=x
  ·subst e
   rw[decide_eq_true rfl]
   refine aq ⟨_,rfl,_,rfl,_,rfl,zL0,g n,y,[],rfl,(ht n N).ok,(ht n N).dp,(by decide),(by decide),some (AQ G of g n),?_⟩
   rw[dC B,if_pos (Tf _ (D'.mpr rfl))]
   rfl
  ·rw[decide_eq_false e]
   refine aU ⟨some (AQ G of g n),?_⟩
   rw[dC B]
   have:(x∈(l.drop 3).take i++[n])=(x∈(l.drop 3).take i):=by
    rw[T4,D']
    exact propext ⟨λh=>h.resolve_right λz=>e z.symm,.inl⟩
   simp only[this]
   rfl
 ·rintro δ ⟨T,rfl⟩
  rw[tz,T2]
  change vh l of g x y c at U
  show Jf _ _ _ [_,_,_,_,some (.lst ((iK (l.drop 3) g x y).map dB)),_,_,_]
  have M:Lay 2 (.lst ((iK (l.drop 3) g x y).map dB)):=q9 λd r=>by
   obtain⟨u,hp,rfl⟩:=Tj.mp r
   exact Br λd r=>by
    obtain⟨k,_,rfl⟩:=Tj.mp r
    exact Bq _
  cases c with
  |none =>
   obtain⟨O,R⟩:=U
   refine⟨_,rfl,_,rfl,aq ?_⟩
   refine⟨_,rfl,zL0,Bb M (by decide) ?_⟩
   rw[O]
   refine⟨true,rfl,?_⟩
   refine⟨_,rfl,_,rfl,sO l of,.inr x,zd (of x),rfl,rfl,mI hx,_,rfl,?_⟩
   rw[R]
   show Q (.bl (decide (y=y)))
   rw[decide_eq_true rfl]
   exact q
  |some u =>
   obtain⟨O,R⟩:=U
   refine⟨_,rfl,_,rfl,aU ?_⟩
   refine⟨_,rfl,true,rfl,true,rfl,aU ?_⟩
   refine⟨_,rfl,_,.inr rfl,outF (λ_=>false) yh u,lW,i7 λm hm=>?_,sL (Tc R (by decide)),?_⟩
   ·exact⟨_,rfl,true,rfl,true,rfl,aU ⟨_,rfl,false,rfl,false,rfl,rfl,λz=>nomatch z⟩⟩
   ·have e0:u.filter (λ_=>false)=[]:=by simp
    rw[i8,e0]
    refine⟨zL0,Bb (k:=1) (q9 λd r=>nomatch r) (by decide) ⟨false,rfl,aU ?_⟩⟩
    refine⟨_,rfl,_,rfl,_,rfl,?_⟩
    have o:∀z:List Nat,Lay 1 (dB z):=λz=>Br λd r=>by
     obtain⟨k,_,rfl⟩:=Tj.mp r
     exact Bq _
    have J:((iK (l.drop 3) g x y).map dB).any (λz=>Us (jM z) (jM (M7 (some u))))=true:=by
     rw[XS]
     exact⟨dB u,Tj.mpr ⟨u,O,rfl⟩,ZX _ (o u).cl⟩
    refine⟨(o u).pl,(qz (k:=1) λd r=>?_).1,(o u).sh (by decide),G' (o u).dp (by decide),λd r=>?_,?_⟩
    ·obtain⟨z,_,rfl⟩:=Tj.mp r
     exact o z
    ·obtain⟨z,_,rfl⟩:=Tj.mp r
     exact(o z).sh (by decide)
    ·rw[J]
     exact q
def yw(g:Str->Str->Option (List Nat))(x y:Str):D:=.tup [.str x,M7 (g x y)]
def zH:cI:=λb Q=>∃(l:List Str) (c:Str->Str) (of:Str->Option Str) (a:Str->Pt) (rg:List Str) (g:Str->Str->Option (List Nat)),b=[.tup ((rg.zip (uJ rg)).map λz=>yw g z.1 z.2),.dK (sO l of),.lst ((l.drop 3).map (AQ c of a))]/\LC l/\(∀n∈l.drop 3,Tr l 4 19 (a n))/\0<rg.length/\rg.length<=18/\rg.Nodup/\(∀x∈rg,x∈l)/\(∀(i:Nat) x y,rg[i]?=some x->(uJ rg)[i]?=some y->vh l of a x y (g x y))/\Q (.bl true)
def xb :∀{l:List Str},l.Nodup->l.countP (λy=>decide (y=m))<=1
 |[],_=>UP _
 |x::l,h=>by
  obtain⟨a,b⟩:=UN.mp h
  rw[XQ]
  by_cases e:x=m
  ·subst e
   have:l.countP (λy=>decide (y=x))=0:=List.countP_eq_zero.mpr λy c z=>a (by rw[<- of_decide_eq_true z];exact c)
   rw[this]
   simp
  ·rw[if_neg (by simpa using e)]
   exact xb b
def GZ(h:i<rg.length):(uJ rg)[i]?=rg[(i+1)%rg.length]?:=by
 unfold uJ
 by_cases e:i+1<rg.length
 ·rw[UM (by rw[UC];omega),WH,V1 e,aAI]
 ·have:i+1=rg.length:=by omega
  rw[UL (by rw[UC];omega),this,YT,UC,show i - (rg.length - 1)=0 by omega,U8]
  rfl
def zo(d:Df K mg "_law_is_ring" gb ["_law_ring","_law_ons","_law_lines"])(c:mg "isinstance"=none)(r:mg "tuple"=none)(p:mg "len"=none)(I:mg "all"=none)(t:mg "range"=none)(h:iL P w K mg base j "_law_link" ["_law_ons","_law_lines","_law_pair","_law_need"] Gj):iL P w K mg base (j+1) "_law_is_ring" ["_law_ring","_law_ons","_law_lines"] zH:=by
 refine d.Hg lA (fun ds P P' f ⟨l,U,of,W,rg,g,e,h1,h2,h3,h4,h5,h6,h7,q⟩=>⟨l,U,of,W,rg,g,e,h1,h2,h3,h4,h5,h6,h7,f _ q⟩) (fun ds Q ⟨l,U,of,W,rg,g,e,_⟩=>by rw[e];rfl) (λf cdv A outer s H E hr o=>have R:=fP hr;have sc:=lA
  (aK (cw (rM.td (w_or (gz (eX (pW (by rfl) c (by rfl) r (dv 0)))) (nA (hJ R (di (by rfl) p (aA (dv 0) aC)) aI)))) (aE (aP nH)) ay)
 (aK (cw (Gy R (xj (x:="_law_pair") (caps:=[1]) (cn:=["_law_ons"]) (cl:=[("_law_ons",s.heap.objs.size+2)]) (nz (by rfl) (by rfl) (by decide +kernel) (ft ["_law_ons"] rfl (by decide +kernel)) (by decide +kernel) (bU (by rfl) dG) (.cons ⟨rfl,.inl rfl,rfl⟩ .nil)) o (pU (dv 0)) (λC v u B=>az (i:=0) (show(["_law_pair","_law_ons"]:List Str).Nodup by decide +kernel) rfl (TQ rfl) (.inr rfl)) (λC v u B=>(tR (rM.td (w_or (gz (eX (pW (by rfl) c (by rfl) r (dv 0)))) (w_or (Gy R (di (by rfl) p (aA (dv 0) aC)) aI) (nA (zP R (ba (dv 0) aI (λ_ _=>rfl)) (dv 1) (by rfl)))))))) (λC v u B o=>(dv 0))) (cB aC)) (aE (aP nH)) ay)
 (aK (bB (i:=3) sc.nd rfl (Wc rfl) (xj (x:="_law_pair") (caps:=[]) (cn:=[]) (cl:=[]) (h_ (by rfl) (by rfl) (by decide +kernel) (by decide +kernel) (by decide +kernel)) o (pU (dv 0)) (λC v u B=>az (i:=0) (show(["_law_pair"]:List Str).Nodup by decide +kernel) rfl (TQ rfl) (.inr rfl)) (λC v u B=>cm) (λC v u B o=>(ba (dv 0) aI (λ_ _=>rfl)))))
 (aK (cw (Gy R (xj (x:="_law_name") (caps:=[3]) (cn:=["_law_names_here"]) (cl:=[("_law_names_here",s.heap.objs.size+4)]) (nz (by rfl) (by rfl) (by decide +kernel) (ft ["_law_names_here"] rfl (by decide +kernel)) (by decide +kernel) (bU (by rfl) dG) (.cons ⟨rfl,.inl rfl,rfl⟩ .nil)) o (pU (dv 3)) (λC v u B=>az (i:=0) (show(["_law_name","_law_names_here"]:List Str).Nodup by decide +kernel) rfl (TQ rfl) (.inr rfl)) (λC v u B=>(tR (Gx (Ee (dv 1) (aA (dv 0) aC)) aI))) (λC v u B o=>(dv 0))) (cB aC)) (aE (aP nH)) ay)
 (aE (aP (LR o (by rfl) I (aA (xj (x:="_law_k") (caps:=[1,2,0,3]) (cn:=["_law_ons","_law_lines","_law_ring","_law_names_here"]) (cl:=[("_law_ring",s.heap.objs.size+1),("_law_ons",s.heap.objs.size+2),("_law_names_here",s.heap.objs.size+4),("_law_lines",s.heap.objs.size+3)]) (nz (by rfl) (by rfl) (by decide +kernel) (ft ["_law_ring","_law_ons","_law_names_here","_law_lines"] rfl (by decide +kernel)) (by decide +kernel) (bU (by rfl) (bU (by rfl) (bU (by rfl) (bU (by rfl) dG)))) (.cons ⟨rfl,.inl rfl,rfl⟩ (.cons ⟨rfl,.inl rfl,rfl⟩ (.cons ⟨rfl,.inl rfl,rfl⟩ (.cons ⟨rfl,.inl rfl,rfl⟩ .nil))))) o (C_ (by rfl) t (aA (di (by rfl) p (aA (dv 0) aC)) aC)) (λC v u B=>az (i:=0) (show(["_law_k","_law_ons","_law_lines","_law_ring","_law_names_here"]:List Str).Nodup by decide +kernel) rfl (TQ rfl) (.inr rfl)) (λC v u B=>cm) (λC v u B o=>(qt o h hr (by omega) (by rfl) (aA (dv 1) (aA (dv 2) (aA (ba (dv 3) (dv 0) (λ_ _=>rfl)) (aA (ba (dv 4) (et (bz (dv 0) aI) (di (by rfl) p (aA (dv 4) aC))) (λ_ _=>rfl)) aC))))))) aC))))))))) ?_
 rintro ds Q ⟨l,U,of,W,rg,g,rfl,hn,ht,h0,S,hnd,G,hlk,q⟩
 have J:(rg.zip (uJ rg)).length=rg.length:=by rw[Xc,ot h0,YU]
 have hz1:(rg.zip (uJ rg)).map Prod.fst=rg:=List.map_fst_zip (by rw[ot h0];exact S' _)
 have Z:∀z∈rg.zip (uJ rg),z.1∈rg:=λz X=>(V7 (show(z.1,z.2)∈_ from X)).1
 have O:(rg.zip (uJ rg)).length<sizeLine:=by rw[J];exact Tc S (by decide)
 have N:rg.length<sizeLine:=Tc S (by decide)
 have F:Lay 1 (.lst []):=q9 λd hd=>nomatch hd
 refine⟨_,rfl,true,rfl,true,rfl,aU ⟨_,rfl,_,_,rfl,rfl,false,congrArg D.bl (decide_eq_false ?_),aU ?_⟩⟩
 ·rw[tz,J]
  omega
 refine⟨_,rfl,_,.inr rfl,outF (λ_=>false) (λz=>yw g z.1 z.2) (rg.zip (uJ rg)),lW,i7 λz X=>?_,sL O,?_⟩
 ·refine⟨_,rfl,true,rfl,true,rfl,aU ⟨_,rfl,_,_,rfl,rfl,false,rfl,aU ?_⟩⟩
  refine⟨_,rfl,_,rfl,_,rfl,sO l of,.inr z.1,rfl,rfl,false,?_,rfl,λe=>nomatch e⟩
  rw[show ee (sO l of) (.inr z.1)=some (zd (of z.1)) from mI (G _ (Z z X))]
  rfl
 have e0:∀{α:Type} (l:List α),l.filter (λ_=>false)=[]:=λl=>by simp
 rw[i8,e0]
 refine⟨zL0,Bb F (by decide) ⟨false,rfl,aU ?_⟩⟩
 refine⟨_,rfl,_,.inr rfl,sQ (λz=>.str z.1) (rg.zip (uJ rg)),i5,gF λz X=>?_,sL O,?_⟩
 ·exact⟨rfl,λ_=>⟨_,rfl,_,rfl,rfl⟩⟩
 rw[i6]
 have e1:(rg.zip (uJ rg)).map (λz=>D.str z.1)=rg.map D.str:=by
  conv=>rhs;rw[<- hz1]
  rw[UG]
  rfl
 rw[e1]
 refine⟨_,rfl,_,.inl rfl,outF (λ_=>false) D.str rg,lW,i7 λm hm=>?_,sL N,?_⟩
 ·refine⟨_,rfl,rg,rfl,_,rfl,m,rfl,_,rfl,?_⟩
  have hc:decide ((1:Int)<((rg.countP (λy=>decide (y=m)):Nat):Int))=false:=decide_eq_false (by have:=xb (m:=m) hnd;omega)
  rw[hc]
  exact⟨rfl,λe=>nomatch e⟩
 rw[i8,e0]
 refine⟨zL0,Bb F (by decide) ⟨false,rfl,aU ?_⟩⟩
 refine⟨_,rfl,_,_,rfl,rfl,_,rfl,?_⟩
 rw[tz,J,U2]
 refine⟨by omega,by omega,sQ (λ_=>.bl true) (Ua rg.length),i5,gF λx T=>?_,sL (by rw[WT];exact N),?_⟩
 ·rw[U7] at T
  obtain⟨a,ha⟩:∃a,rg[x]?=some a:=⟨_,F' T⟩
  obtain⟨b,hb⟩:∃b,(uJ rg)[x]?=some b:=⟨_,F' (by rw[ot h0];exact T)⟩
  rw[aAL]
  refine⟨rfl,λ_=>?_⟩
  have Y:((rg.zip (uJ rg)).map λz=>yw g z.1 z.2)[x]?=some (yw g a b):=by
   rw[TX,(Xu (z:=(a,b))).mpr ⟨ha,hb⟩]
   rfl
  have hnx:(rg.map D.str)[(x+1)%rg.length]?=some (.str b):=by
   rw[TX,<- GZ T,hb]
   rfl
  have M:((x:Int)+1)%(rg.length:Int)=(((x+1)%rg.length:Nat):Int):=by simp
  refine⟨_,rfl,_,rfl,_,rfl,_,rfl,_,dE Y,_,rfl,_,rfl,_,rfl,_,_,rfl,rfl,?_⟩
  rw[tz]
  refine⟨(by omega),_,?_,l,U,of,W,a,b,g a b,rfl,hn,ht,G a (K' ha),hlk x a b ha hb,rfl⟩
  rw[M]
  exact dE hnx
 ·rw[i6]
  refine⟨T_ rg.length true,?_,?_⟩
  ·rw[List.map_replicate,List.map_const',WT]
  ·have:(T_ rg.length true).all id=true:=by simp
   rw[this]
   exact q
structure Wr (n o:Str) (d s:Nat) (p:Pt):Prop where
 tr:Tr [n,o] d s p
 has:n∈p.aJ
 only:∀y∈p.aJ,y=n\/y=o
def gT{p:Pt}(a:p.cG=false):y∈p.aJ ↔ y∈p.own\/∃q∈p.inner,y∈q.aJ:=⟨λh=>(q_ h).2,λh=>h.elim (fO a) fun⟨q,b,c⟩=>nN a b c⟩
def hX :y∉(Pt.before p v).aJ:=λh=>by
 have:=(q_ h).1
 cases this
def HL(n:Str):Pt:=.before (.named n) .ae
def NY{n o:Str}(h:f7 n):Tr [n,o] 2 2 (HL n):=qK (jK N' h) (.inl rfl)
section
variable {n o:Str}{d s:Nat}{p:Pt}
def Wr.up(h:Wr n o d s p)(a:d<=e)(b:s<=t):Wr n o e t p:=⟨h.tr.up (λ_ z=>z) a b,h.has,h.only⟩
def Wr.around(h:Wr n o d s p)(b:q.cG=false)(t:Tr [n,o] (d+1) (s+5) q)(c:p∈q.inner)(g:∀y∈q.own,y=n\/y=o)(i:∀r∈q.inner,r=p\/∀y,y∉r.aJ):Wr n o (d+1) (s+5) q:=by
 refine⟨t,nN b c h.has,λy a=>?_⟩
 rcases(gT b).mp a with a|⟨r,f,a⟩
 ·exact g y a
 ·rcases i r f with e|e
  ·subst e
   exact h.only y a
  ·exact absurd a (e y)
def six(n o:Str)(p:Pt):List Pt:=[.turned p,.pair "and" p (HL n),.pair "or" (.given (.bl false)) p,.choice (HL n) p (HL n),.led (HL n) p,.held p o (.bl true)]
def NN(l:f7 n)(i:f7 o)(t:2<=d)(h:Wr n o d s p)(g:q∈six n o p):Wr n o (d+1) (s+5) q:=by
 have c:Tr [n,o] d 2 (HL n):=(NY l).up (λ_ z=>z) t (S' _)
 have u:Tr [n,o] d 1 (.given (.bl false)):=(zQ (.inl ⟨false,rfl⟩)).up (λ_ z=>z) (by omega) (S' _)
 have b:∀y,y∉(HL n).aJ:=λy=>hX
 have m:∀y,y∉(Pt.given (.bl false)).aJ:=λy a=>by cases a
 have f:("and":Str)∈lD/\("or":Str)∈lD:=by decide +kernel
 simp only[six,Gc,Tt,or_false] at g
 rcases g with rfl|rfl|rfl|rfl|rfl|rfl
 ·exact h.around rfl ((Dw h.tr).up (λ_ z=>z) (S' _) (by omega)) (D'.mpr rfl) (λy a=>nomatch a) λr e=>.inl (D'.mp e)
 ·exact h.around rfl ((xD f.1 h.tr c).up (λ_ z=>z) (S' _) (by omega)) N' (λy a=>nomatch a) (Nq (.inl rfl) (.inr b))
 ·exact h.around rfl ((xD f.2 u h.tr).up (λ_ z=>z) (S' _) (by omega)) (TR _ N') (λy a=>nomatch a) (Nq (.inr m) (.inl rfl))
 ·exact h.around rfl ((Du c h.tr c).up (λ_ z=>z) (S' _) (by omega)) (TR _ N') (λy a=>nomatch a) (SO (.inr b) (.inl rfl) (.inr b))
 ·exact h.around rfl ((NZ c h.tr).up (λ_ z=>z) (S' _) (by omega)) (TR _ N') (λy a=>nomatch a) (Nq (.inr b) (.inl rfl))
 ·exact h.around rfl ((CS h.tr (by simp) i (.inr (.inl ⟨true,rfl⟩))).up (λ_ z=>z) (S' _) (by omega)) (D'.mpr rfl) (λy a=>.inr (D'.mp a)) λr e=>.inl (D'.mp e)
def HH(b:f7 n):Wr n o 2 2 (.named n):=by
 refine⟨(jK N' b).up (λ_ z=>z) (by omega) (by omega),fO rfl (D'.mpr rfl),λy a=>?_⟩
 rcases(gT rfl).mp a with a|⟨r,c,_⟩
 ·exact .inl (D'.mp a)
 ·cases c
def KG(b:f7 n):Wr n o 2 2 (.cv (.given (.bl true)) n):=by
 refine⟨Na (zQ (.inl ⟨true,rfl⟩)) N' b,fO rfl (D'.mpr rfl),λy a=>?_⟩
 rcases(gT rfl).mp a with a|⟨r,c,a⟩
 ·exact .inl (D'.mp a)
 ·rw[D'.mp c] at a
  cases a
def KD(e:f7 n)(c:f7 o):Wr n o 2 2 (.held (.named o) n .ae):=by
 refine⟨CS (jK (by simp) c) N' e (.inl rfl),fO rfl (D'.mpr rfl),λy a=>?_⟩
 rcases(gT rfl).mp a with a|⟨r,b,a⟩
 ·exact .inl (D'.mp a)
 ·rw[D'.mp b] at a
  rcases(gT rfl).mp a with a|⟨r,b,_⟩
  ·exact .inr (D'.mp a)
  ·cases b
end
def NG(h:(List.map (λi:Nat=>D.int (0+(i:Int))) (Ua m))[i]?=some d):i<m/\d=.int (i:Int):=by
 obtain⟨r,c,rfl⟩:=iR h
 obtain⟨a,b⟩:=Te.mp c
 rw[WT] at a
 rw[List.getElem_range] at b
 subst b
 exact⟨a,by rw[aAL]⟩
def Gq:cI:=λa Q=>∃(n:Str) (c:Int) (o:Str),a=[.str n,.int c,.str o]/\f7 n/\f7 o/\∀p,Wr n o 4 12 p->Q p.told
def Cj(d:Df K mg "_law_wrapped" gc ["_law_name","_law_cell_here","_law_other"])(g:mg "range"=none)(a:bo P w K mg base j "_law_mixed" ["_law_cell_here","_law_k"] CF):bo P w K mg base (j+1) "_law_wrapped" ["_law_name","_law_cell_here","_law_other"] Gq:=by
 refine d.d7 lB (fun U P P' f ⟨n,c,o,e,S,W,q⟩=>⟨n,c,o,e,S,W,λp h=>f _ (q p h)⟩) (fun U Q ⟨n,c,o,e,_⟩=>by rw[e];rfl) (λf Z A M s H E t=>have R:=t.units;have hh:=t.hd;have l:=lB
  (aK (bB (i:=3) l.nd rfl (TQ rfl) (et (aR a t (by omega) (by rfl) (aA (dv 1) (aA aI aC))) aI))
 (aK (bB (i:=4) l.nd rfl (TQ rfl) (bT (aA ar (aA (dv 0) aC))))
 (aK (cw (hJ R (dv 3) aI) (aE (bB (i:=4) l.nd rfl (TQ rfl) (bT (aA ar (aA (bT (pN (by rfl))) (aA (dv 0) aC)))))) ay)
 (aK (cw (hJ R (dv 3) aI) (aE (bB (i:=4) l.nd rfl (TQ rfl) (bT (aA ar (aA (bT (aA ar (aA (dv 2) aC))) (aA (dv 0) (aA ig aC))))))) ay)
 (aK (B_ T7 rfl (rn (by rfl) g (aA (et (aR a t (by omega) (by rfl) (aA (dv 1) (aA aI aC))) aI) aC)) (bb (i:=5) l.nd rfl (TQ rfl)) (aK (bB (i:=3) l.nd rfl (TQ rfl) (et (aR a t (by omega) (by rfl) (aA (dv 1) (aA (bz aI (dv 5)) aC))) aI))
 (aK (bB (i:=6) l.nd rfl (TQ rfl) (bT (aA ar (aA (bT (aA ar (aA (dv 0) aC))) (aA ig aC)))))
 (aK (bB (i:=7) l.nd rfl (TQ rfl) (cB (aA (bT (aA ar (aA (dv 4) aC))) (aA (bT (aA ar (aA (dv 4) (aA (dv 6) aC)))) (aA (bT (aA ar (aA (bT (pN (by rfl))) (aA (dv 4) aC)))) (aA (bT (aA ar (aA (dv 6) (aA (dv 4) (aA (dv 6) aC))))) aC))))))
 (aE (bB (i:=4) l.nd rfl (TQ rfl) (ba (bz (dv 7) (cB (aA (bT (aA ar (aA (dv 6) (aA (dv 4) aC)))) (aA (bT (aA ar (aA (dv 4) (aA (dv 2) (aA nH aC))))) aC)))) (dv 3) (λ_ _=>rfl))))))))
 (aE (aP (dv 4))))))))) ?_
 rintro U Q ⟨n,c,o,rfl,F,T,q⟩
 have u:2<=sizeLine:=by decide
 have C:3<=sizeLine:=by decide
 have G:4<=sizeLine:=by decide
 refine⟨_,rfl,c,300,rfl,λI=>⟨iP6,?_⟩⟩
 refine⟨_,rfl,u,?_⟩
 let J:Option D->Pt->Option D->Option D->Option D->SD:=λv p y z B=>[some (.str n),some (.int c),some (.str o),v,some p.told,y,z,B]
 dsimp only
 have X:∀k:Int,∃b:Bool,D.bl (decide (I%6=k))=.bl b:=λk=>⟨_,rfl⟩
 refine CL (λδ=>∃p,Wr n o 2 2 p/\δ=J (some (.int (I%6))) p none none none) ?_ λN x=>?_
 ·rintro δ ⟨p,h,rfl⟩
  refine CL (λδ=>∃p,Wr n o 2 2 p/\δ=J (some (.int (I%6))) p none none none) ?_ λN x=>?_
  ·rintro δ ⟨p,h,rfl⟩
   refine⟨_,rfl,c,301,rfl,λO=>⟨iP3,?_⟩⟩
   have S:=kG O iP3
   have W:=kE O iP3
   refine⟨_,rfl,(by omega),(by omega),λi δ=>∃p v y z B,Wr n o (2+i) (2+5*i) p/\δ=J v p y z B,⟨p,_,_,_,_,h,rfl⟩,?_,?_⟩
   ·rintro i dd δ hd ⟨p,v,y,z,B,h,rfl⟩
    obtain⟨hi,rfl⟩:=NG hd
    refine⟨_,rfl,_,rfl,c,_,rfl,λm=>⟨iP6,_,rfl,u,C,?_⟩⟩
    refine⟨_,rfl,u,_,rfl,_,rfl,C,u,_,rfl,C,_,rfl,_,rfl,_,rfl,G,G,?_⟩
    refine⟨_,rfl,_,rfl,_,rfl,C,_,rfl,_,rfl,G,u,zL6,_,rfl,?_⟩
    obtain⟨r,t,Y⟩:=BK (xs:=six n o p) Pt.told (kG m iP6) (kE m iP6)
    refine⟨_,Y,r,_,_,_,_,?_,rfl⟩
    have:=NN F T (by omega) h t
    exact this.up (by omega) (by omega)
   ·rintro δ ⟨p,v,y,z,B,h,rfl⟩
    refine⟨_,rfl,q p ?_⟩
    rw[tz,WT] at h
    exact h.up (by omega) (by omega)
  ·refine⟨_,rfl,_,rfl,?_⟩
   refine Bo ?_ (x _ ⟨p,h,rfl⟩)
   exact⟨_,rfl,u,_,rfl,G,x _ ⟨.held (.named o) n .ae,KD F T,rfl⟩⟩
 ·refine⟨_,rfl,_,rfl,?_⟩
  refine Bo ?_ (x _ ⟨.named n,HH F,rfl⟩)
  exact⟨u,_,rfl,C,x _ ⟨.cv (.given (.bl true)) n,KG F,rfl⟩⟩
def kT:Str->Str:=λ_=>"truth"
def vg(l R:List Str)(a:Int)(n:Str)(p:Pt)(o:Option Str):Prop:=Tr l 4 19 p /\
 (∀(i:Nat) (y:Str),R[i]?=some n->R[(i+1)%R.length]?=some y->(o=none/\y∈p.aJ/\∀z∈p.aJ,z=y\/z∈l.take 3)\/(o=some y/\(i:Int)=a/\1<R.length/\p.aJ=[])) /\
 (n∉R->o=none/\∀z∈p.aJ,z∈R)
structure RL (l R:List Str) (oa:Int) (of:Str->Option Str) (pf:Str->Pt):Prop where
 sub:∀x∈R,x∈l.drop 3
 nd:R.Nodup
 ne:0<R.length
 ln:∀n∈l.drop 3,vg l R oa n (pf n) (of n)
 no:∀n,n∉l.drop 3->of n=none
def qg:cI:=λe Q=>∃(l:List Str) (sz:Nat) (c:Int) (f:List Int),e=[.lst (l.map D.str),.int (sz:Int),.int c,.lst (f.map D.int)]/\LC l/\1<=sz/\sz+3<=l.length/\∀R b of a,RL l R b of a->Q (.tup [.lst (R.map D.str),.lst ((l.drop 3).map (AQ kT of a))])
def Hm{a b:Nat}(h:a+b<=xs.length):DC.cutD xs (some (a:Int)) (some ((a:Int)+(b:Int)))=(xs.drop a).take b:=by
 have e:HT.dX xs.length 0 (some (a:Int))=a:=by simp only[HT.dX];split<;>omega
 have c:HT.dX xs.length xs.length (some ((a:Int)+(b:Int)))=a+b:=by simp only[HT.dX];split<;>omega
 unfold DC.cutD
 rw[e,c,Nat.add_sub_cancel_left]
def DX{p:Pt}(h:∀y,y∉p.aJ):p.aJ=[]:=List.eq_nil_iff_forall_not_mem.mpr h
def vp(d:Df K mg "_law_ring_lines" eT ["_law_names_here","_law_size","_law_cell_here","_law_script"])(C:mg "enumerate"=none)(g:bo P w K mg base j "_law_mixed" ["_law_cell_here","_law_k"] CF)(v:bo P w K mg base j "_law_cell" ["_law_script","_law_k"] Az)
  (u:bo P w K mg base j "_law_wrapped" ["_law_name","_law_cell_here","_law_other"] Gq):bo P w K mg base (j+1) "_law_ring_lines" ["_law_names_here","_law_size","_law_cell_here","_law_script"] qg:=by
 refine d.uA gv (fun ds P P' f ⟨l,sz,c,ns,e,h1,h2,h3,q⟩=>⟨l,sz,c,ns,e,h1,h2,h3,λR oa of pf h=>f _ (q R oa of pf h)⟩) (fun ds Q ⟨l,sz,c,ns,e,_⟩=>by rw[e];rfl) (λf cdv A outer s H E G=>have hu:=G.units;have hh:=G.hd;have I:=gv
  (aM (iB (i:=4) I.nd rfl (TQ rfl) (IE (dv 0) (dh aI) (dh (bz aI (dv 1)))))
 (aM (oW (hJ hu (et (dv 2) aI) aI) (av (AY (i:=4) rfl (TQ rfl))) kH)
 (fN (aM (cM (bB (i:=5) I.nd rfl (TQ rfl) (et (aR g G (by omega) (by rfl) (aA (dv 2) (aA aI aC))) (xl aI (dv 1)))))
 (aM (fw (i:=6) I.nd rfl (TQ rfl) aC)
 (aM (de T7 rfl (L6 (by rfl) C (aA (dW (dv 0) (dh aI) gW) aC)) (E9 (n:=2) rfl (fH (bb (i:=7) I.nd rfl (TQ rfl)) (fH (bb (i:=8) I.nd rfl (TQ rfl)) rj))) (aM (cM (bB (i:=9) I.nd rfl (TQ rfl) (aR v G (by omega) (by rfl) (aA (dv 3) (aA (bz aI (dv 7)) aC)))))
 (aM (cM (bB (i:=10) I.nd rfl (TQ rfl) ig))
 (aM (cM (bB (i:=11) I.nd rfl (TQ rfl) (bT (aA ar (aA (bT (aA ar (aA (ba (dv 4) aI (λ_ _=>rfl)) aC))) (aA ig aC))))))
 (aM (oW (hJ hu (et (aR g G (by omega) (by rfl) (aA (dv 9) (aA aI aC))) aI) aI) (dS (aE (bB (i:=11) I.nd rfl (TQ rfl) (bT (aA ar (aA (dv 11) (aA (bT (aA ar (aA (ba (dv 4) (et (aR g G (by omega) (by rfl) (aA (dv 9) (aA aI aC))) (dv 1)) (λ_ _=>rfl)) aC))) aC))))))) kH)
 (aM (oW (zO (dv 8) (dv 4) (by rfl)) (dS (aK (bB (i:=12) I.nd rfl (TQ rfl) (ba (dv 4) (et (bz (rV (dv 4) (aA (dv 8) aC)) aI) (dv 1)) (λ_ _=>rfl)))
 (aK (bB (i:=11) I.nd rfl (TQ rfl) (aR u G (by omega) (by rfl) (aA (dv 12) (aA (dv 9) (aA (ba (dv 0) (et (aR g G (by omega) (by rfl) (aA (dv 9) (aA aI aC))) aI) (λ_ _=>rfl)) aC)))))
 (aE (cw (rM.td (w_and (hJ hu (rV (dv 4) (aA (dv 8) aC)) (dv 5)) (tW (Gx (dv 1) aI)))) (aK (bB (i:=10) I.nd rfl (TQ rfl) (dv 12))
 (aE (bB (i:=11) I.nd rfl (TQ rfl) (bT (aA ar (aA (bT (aA ar (aA (dv 12) aC))) (aA nH aC))))))) ay))))) kH)
 (av (dj (i:=6) rfl (TQ rfl) (bT (aA (dv 8) (aA ar (aA (dv 11) (aA (dv 10) aC)))))))))))))
 (fN (dS (aE (aP (bT (aA (dv 4) (aA (dv 6) aC)))))))))))))) ?_
 rintro ds Q ⟨l,sz,c,ns,rfl,hl,hs1,hs2,q⟩
 have h8:=hl.hi
 have z2:2<=sizeLine:=by decide
 have z3:3<=sizeLine:=by decide
 have ndd:(l.drop 3).Nodup:=U1 (XJ _ _) hl.nd
 refine⟨_,rfl,_,rfl,_,rfl,_,rfl,_,rfl,λa hnd=>?_⟩
 let R0:=(l.drop 3).take sz
 have ec:DC.cutD (l.map D.str) (some 3) (some (3+(sz:Int)))=R0.map D.str:=by
  have:=Hm (xs:=l.map D.str) (a:=3) (b:=sz) (by rw[tz];omega)
  rw[show((3:Nat):Int)=3 from rfl] at this
  rw[this,WW,W5]
 have nd0:R0.Nodup:=U1 (WS _ _) ndd
 have len0:R0.length=sz:=by
  show((l.drop 3).take sz).length=sz
  rw[Tu,UC]
  omega
 have sub0:∀x∈R0,x∈l.drop 3:=λx hx=>Ub hx
 dsimp only
 refine pE (λδ μ=>∃R:List Str,R.Nodup/\R.length=sz/\(∀x∈R,x∈l.drop 3)/\cD μ δ=[some (.lst (l.map D.str)),some (.int (sz:Int)),some (.int c),some (.lst (ns.map D.int)),some (.lst (R.map D.str)),none,none,none,none,none,none,none,none]) (λN X=>?_) ?_
 ·refine⟨_,rfl,iP2,_,rfl,Bo ?_ (X _ _ ⟨R0,nd0,len0,sub0,?_⟩)⟩
  ·refine⟨a,_,rfl,cK,X _ _ ⟨R0.reverse,(List.pairwise_reverse.mpr (aAK VG nd0)),by rw[WB];exact len0,λx hx=>sub0 x (List.mem_reverse.mp hx),?_⟩⟩
   show[_,_,_,_,some (aY (iU a _ [(a,_)]) (.adr a)),_,_,_,_,_,_,_,_]=_
   rw[oj,fk,ec,<- ZP]
   rfl
  ·show[_,_,_,_,some (aY [(a,_)] (.adr a)),_,_,_,_,_,_,_,_]=_
   rw[fk,ec]
   rfl
 rintro δ μ ⟨R,nd,hR,hsub,hv⟩
 show qU _ _ δ μ
 unfold qU
 rw[hv]
 clear hv
 have S:∀x∈R,x∈l:=λx hx=>jY (hsub x hx)
 have M:=hl.ok
 have hat:∀m:Int,∃x∈R,L2.tZ (R.map D.str) (m%(sz:Int))=some (.str x):=λm=>BK (xs:=R) D.str (kG m (by omega)) (by rw[hR];exact kE m (by omega))
 obtain⟨Y,hr0⟩:∃Y,R[0]?=some Y:=⟨_,F' (by omega)⟩
 refine⟨_,rfl,c,310,rfl,λmo=>⟨_,rfl,.of_left (by decide),(show(0:Int)<2*(sz:Int) by omega),?_⟩⟩
 dsimp only
 generalize mo%(2*(sz:Int))=oa
 refine⟨zL0,λa _=>?_⟩
 let δ0:Option D->Option D->Option D->Option D->Option D->Option D->SD:=λx7 x8 x9 J O B=>[some (.lst (l.map D.str)),some (.int (sz:Int)),some (.int c),some (.lst (ns.map D.int)),some (.lst (R.map D.str)),some (.int oa),some (.adr a),x7,x8,x9,J,O,B]
 have ed:DC.cutD (l.map D.str) (some 3) none=(l.drop 3).map D.str:=by
  rw[show(some (3:Int))=some ((3:Nat):Int) from rfl,rQ (by rw[tz];omega),W5]
 refine⟨_,rfl,_,rfl,(l.drop 3).map D.str,congrArg (λt=>[D.lst t]) ed,λi δ μ=>(∃x7 x8 x9 J O B,δ=δ0 x7 x8 x9 J O B)/\∃(of:Str->Option Str) (pf:Str->Pt),μ.lookup a=some (.lst (((l.drop 3).take i).map (AQ kT of pf)))/\(∀n∈(l.drop 3).take i,vg l R oa n (pf n) (of n))/\∀n,n∉(l.drop 3).take i->of n=none,⟨⟨_,_,_,_,_,_,rfl⟩,λ_=>none,λ_=>.named "z",cK,(λn hn=>nomatch hn),λn _=>rfl⟩,?_,?_⟩
 ·rintro i dd δ μ hd ⟨⟨x7,x8,x9,J,O,B,rfl⟩,of,pf,U,hpf,Z⟩
  obtain⟨n,hn,rfl⟩:=KS hd
  have hnd3:=K' hn
  have hnl:n∈l:=jY hnd3
  refine⟨_,rfl,rfl,_,_,rfl,_,_,rfl,rfl,?_⟩
  refine⟨_,rfl,_,rfl,ns,3+i,?_,λc9=>?_⟩
  ·show[D.lst (ns.map D.int),D.int (3+(i:Int))]=_
   rw[show(3:Int)+(i:Int)=((3+i:Nat):Int) by omega]
  refine⟨_,rfl,.str Y,dE (i:=0) (by rw[TX,hr0];rfl),z2,z3,?_⟩
  have hr0R:Y∈R:=K' hr0
  have tb:Tr l 2 2 (HL Y):=qK (jK (S Y hr0R) (M Y (S Y hr0R))) (.inl rfl)
  dsimp only
  refine pE (λδ μ'=>μ'=μ/\∃p:Pt,δ=δ0 (some (.int i)) (some (.str n)) (some (.int c9)) (some .ae) (some p.told) B/\Tr l 4 19 p/\∀z∈p.aJ,z∈R) (λN X=>?_) ?_
  ·refine⟨_,rfl,c9,311,rfl,λm=>⟨iP2,_,rfl,Bo ?_ (X _ _ ⟨rfl,HL Y,rfl,tb.up (λ_ z=>z) (by decide) (by decide),λz F=>absurd F hX⟩)⟩⟩
   refine⟨_,rfl,_,rfl,_,rfl,c9,312,rfl,λm=>⟨_,rfl,(show(0:Int)<(sz:Int) by omega),?_⟩⟩
   obtain⟨x,hx,ex⟩:=hat m
   refine⟨_,ex,z2,z3,X _ _ ⟨rfl,.pair "or" (HL Y) (.named x),rfl,(xD (by decide +kernel) tb ((jK (S x hx) (M x (S x hx))).up (λ_ z=>z) (by decide) (S' _))).up (λ_ z=>z) (by decide) (by decide),λz F=>?_⟩⟩
   rcases(gT rfl).mp F with F|⟨r,G,F⟩
   ·cases F
   ·rcases Gc.mp G with e|G
    ·rw[e] at F
     exact absurd F hX
    ·rw[D'.mp G] at F
     rcases(gT rfl).mp F with F|⟨r,G,F⟩
     ·rw[D'.mp F]
      exact hx
     ·cases G
  rintro δ μ' ⟨rfl,p,rfl,hp,hpn⟩
  refine pE (λδ μ''=>μ''=μ'/\∃(p:Pt) (o:Option Str) (B:Option D),δ=δ0 (some (.int i)) (some (.str n)) (some (.int c9)) (some (zd o)) (some p.told) B/\vg l R oa n p o) (λN X=>?_) ?_
  ·refine⟨_,rfl,_,rfl,rfl,cH _,_,rfl,?_⟩
   show if inD (.str n) (R.map D.str)=true then _ else _
   rw[eB]
   cases hc:R.contains n with
   |false =>
    have W:n∉R:=λz=>by rw[Th.mpr z] at hc;cases hc
    exact aU (X _ _ ⟨rfl,p,none,_,rfl,hp,λi y hi _=>absurd (K' hi) W,λ_=>⟨rfl,hpn⟩⟩)
   |true =>
    have W:=Th.mp hc
    obtain⟨t,ht⟩:=Tp.mp W
    have htl:=dR ht
    have hu:∀m y,m<t->R[m]?=some y->y≠n:=λm y hm hy e=>by
     subst e
     have:=eE nd hy ht
     omega
    obtain⟨y,hy⟩:∃y,R[(t+1)%sz]?=some y:=⟨_,F' (by rw[hR];exact XC _ (by omega))⟩
    have hyl:=S y (K' hy)
    refine aq ⟨_,rfl,_,rfl,R,rfl,_,rfl,n,rfl,t,ht,hu,by omega,_,rfl,(show(0:Int)<(sz:Int) by omega),.str y,?_,?_⟩
    ·have:((t:Int)+1)%(sz:Int)=(((t+1)%sz:Nat):Int):=by simp
     rw[this]
     exact dE (by rw[TX,hy];rfl)
    refine⟨_,rfl,_,rfl,_,rfl,_,rfl,c9,313,rfl,λm=>⟨iP3,?_⟩⟩
    have m0:=kG m iP3
    have m3:=kE m iP3
    obtain⟨o,ho⟩:∃o,l[(m%3).toNat]?=some o:=⟨_,F' (by omega)⟩
    have hot:o∈l.take 3:=Tp.mpr ⟨(m%3).toNat,by rw[U8,if_pos (by omega)];exact ho⟩
    have hol:o∈l:=K' ho
    refine⟨.str o,?_,y,c9,o,rfl,M y hyl,M o hol,λp' hp'=>?_⟩
    ·have:=dE (xs:=l.map D.str) (i:=(m%3).toNat) (by rw[TX,ho];rfl)
     rw[Int.toNat_of_nonneg m0] at this
     exact this
    have tr':Tr l 4 19 p':=hp'.tr.up (λz F=>by
     rcases Gc.mp F with rfl|F
     ·exact hyl
     ·rw[D'.mp F]
      exact hol) (S' _) (by decide)
    have plain:vg l R oa n p' none:=⟨tr',λi' y' hi' T=>.inl ⟨rfl,by
     have e:=eE nd hi' ht
     subst e
     rw[hR,hy] at T
     cases T
     exact⟨hp'.has,λz F=>(hp'.only z F).imp_right λe=>by rw[e];exact hot⟩⟩,λz=>absurd W z⟩
    refine⟨_,rfl,R,rfl,_,rfl,n,rfl,t,ht,hu,by omega,_,rfl,decide ((t:Int)=oa),rfl,?_⟩
    by_cases e1:(t:Int)=oa
    ·rw[decide_eq_true e1]
     refine aq ⟨_,rfl,decide ((1:Int)<(sz:Int)),rfl,?_⟩
     by_cases e2:(1:Int)<(sz:Int)
     ·rw[decide_eq_true e2]
      refine aq ⟨_,rfl,_,rfl,z2,z3,X _ _ ⟨rfl,.before (.named y) (.bl true),some y,_,rfl,(qK (jK hyl (M y hyl)) (.inr (.inl ⟨true,rfl⟩))).up (λ_ z=>z) (by decide) (by decide),λi' y' hi' T=>.inr ?_,λz=>absurd W z⟩⟩
      have e:=eE nd hi' ht
      subst e
      rw[hR,hy] at T
      cases T
      exact⟨rfl,e1,by omega,DX λz=>hX⟩
     ·rw[decide_eq_false e2]
      exact aU (X _ _ ⟨rfl,p',none,_,rfl,plain⟩)
    ·rw[decide_eq_false e1]
     exact aU (X _ _ ⟨rfl,p',none,_,rfl,plain⟩)
  rintro δ μ'' ⟨rfl,p,o,B,rfl,hline⟩
  refine⟨a,_,rfl,U,?_,_,rfl,_,rfl,_,rfl,zL4,⟨_,_,_,_,_,_,rfl⟩,Qd of n o,Qd pf n p,(yS U).trans ?_,λm hm=>?_,λm hm=>?_⟩
  ·rw[tz,Tu,UC]
   exact Tc (show _<=8 by omega) (by decide)
  ·have hnn:=kC ndd hn
   rw[dC hn,Tv]
   refine congrArg (λt=>some (MD.lst t)) ?_
   refine congr (congrArg _ (UY λm hm=>?_)) ?_
   ·unfold AQ
    rw[tS (λe:m=n=>hnn (e ▸ hm)),tS (λe:m=n=>hnn (e ▸ hm))]
   ·rw[TM,T']
    unfold AQ
    rw[pG,pG]
    rfl
  ·by_cases e:m=n
   ·rw[e,pG,pG];exact hline
   ·rw[tS e,tS e]
    rw[dC hn] at hm
    rcases T4.mp hm with hm|hm
    ·exact hpf m hm
    ·exact absurd (D'.mp hm) e
  ·rw[dC hn] at hm
   have e:m≠n:=λe=>hm (Tf _ (D'.mpr e))
   rw[tS e]
   exact Z m λz=>hm (To _ z)
 ·rintro δ μ ⟨⟨x7,x8,x9,J,O,B,rfl⟩,of,pf,U,hpf,Z⟩
  rw[qv,tz,T2] at hpf Z U
  refine⟨_,rfl,_,congrArg (λd=>some (some d)) (xG U),z2,q R oa of pf ⟨hsub,nd,by omega,hpf,Z⟩⟩
end
def K1(A:bC)(L:LA)(a:Addr):za:=λds _ R=>∃s:Sh,ds=[s.d A L]/\s.Ok/\s.names.Nodup/\s.Rows/\Mp s.names s.cA=none/\(∀x∈s.names,∀y∈s.cA x,y∈s.names)/\∀rg,rK s.cA s.names rg->rg.length<=18->R a [("ring",.tup (fi s rg))]
section
seal wpAny
variable {P:TV}{w:World}{K:l'}{mg:Str->Option Value}{base:Heap}{A:bC}{L:LA}{n j:Nat}{cR:Addr}
def rR(hi:i+1<=j)(d:Df K mg "order" wt ["sheet"])(B:mg "len"=none)(I:mg "list"=none)(u:QN P w K mg base i "Ring" cR ["ring"])(F:mroIn K cR (.type "BaseException")=some true)(G:typeIn K (.ref cR)=some (.type "type"))(gL:bo P w K mg base j "needs_of" ["sheet"] (NJ A L))(d5:bo P w K mg base j "are_all_in" ["names","others"] wu)(pP:bo P w K mg base j "ring_of" ["needs","left"] zJ)(lK:bo P w K mg base j "ring_told" ["sheet","names"] (tI A L)):vY P w K mg base (j+1) "order" ["sheet"] (K1 A L cR):=by
 refine d.N9 zE (fun ds P P' R R' f g ⟨s,e,h1,h2,h3,h4,h5,q⟩=>⟨s,e,h1,h2,h3,h4,h5,λrg h h'=>g _ _ (q rg h h')⟩) (fun ds Q R ⟨s,e,_⟩=>by rw[e];rfl) (λf cdv A outer s H E R M p=>have hu:=M.units;have hh:=M.hd;have sc:=zE
  (aM (cM (bB (i:=1) sc.nd rfl (Wc rfl) (aR gL M (by omega) (by rfl) (aA (dv 0) aC))))
 (aM (fw (i:=2) sc.nd rfl (Wc rfl) aC)
 (aM (iB (i:=3) sc.nd rfl (TQ rfl) (ID hh (by rfl) I (aA (dv 1) aC)))
 (aM (sM W1 (Gx (di (by rfl) B (aA (dv 3) aC)) aI) (aM (Iz (k:=4) sc.nd rfl (TQ rfl) (x:="name") (caps:=[2,1]) (cn:=["ordered","needs"]) (cl:=[("ordered",s.heap.objs.size+2),("needs",s.heap.objs.size+1)]) (nz (by rfl) (by rfl) (by decide +kernel) (ft ["ordered","needs"] rfl (by decide +kernel)) (by decide +kernel) (bU (by rfl) (bU (by rfl) dG)) (.cons ⟨rfl,.inl rfl,rfl⟩ (.cons ⟨rfl,.inl rfl,rfl⟩ .nil))) rfl (cF (dv 3)) (λC fp s₂ H₂=>az (i:=0) (show(["name","ordered","needs"]:List Str).Nodup by decide +kernel) rfl (TQ rfl) (.inr rfl)) (λC fp s₂ H₂=>(tR (eX (aR d5 M (by omega) (by rfl) (aA (nI hu (dv 2) (dv 0) (λ_ _=>rfl)) (aA (dv 1) aC)))))) (λC fp s₂ H₂=>(dv 0)))
 (aM (oW (hJ hu (di (by rfl) B (aA (dv 4) aC)) aI) (fN (dS (aE (Gd p rfl rfl u F G M (by omega) (by rfl) (aA (aR lK M (by omega) (by rfl) (aA (dv 0) (aA (aR pP M (by omega) (by rfl) (aA (dv 1) (aA (dv 3) aC))) aC))) aC))))) kH)
 (aM (dj (i:=2) rfl (Wc (TQ rfl)) (ba (dv 4) aI (λ_ _=>rfl)))
 (av (DS (i:=3) rfl (TQ rfl) (ba (dv 4) aI (λ_ _=>rfl))))))))
 (fN (dS (aE (aP (dv 2)))))))))) ?_
 rintro ds Q R ⟨s,rfl,W,S,M,T,hkn,q⟩
 have h18:=Fh W
 refine⟨_,rfl,s,rfl,W,S,M,zL0,λa _=>?_⟩
 refine⟨_,rfl,_,rfl,λb hnd=>?_⟩
 have v:a≠b:=λe=>by
  subst e
  simp at hnd
 have ek:(s.dQ.map λkv=>keyOf kv.1)=s.names.map D.str:=Hn
 rw[ek]
 have c:∀fd,∀x∈cQ s.names fd,x∈s.names:=λfd x p=>(Uq.mp p).1
 have vw:∀(M1 M2:List D) (O:Option D),cD [(b,.lst M2),(a,.lst M1)] [some (s.d A L),some (.dK s.dQ),some (.adr a),some (.adr b),O]=[some (s.d A L),some (.dK s.dQ),some (.lst M1),some (.lst M2),O.map (aY [(b,.lst M2),(a,.lst M1)])]:=λM1 M2 O=>by
  show[some (aY _ (s.d A L)),some (aY _ (.dK s.dQ)),some (aY _ (.adr a)),some (aY _ (.adr b)),_]=_
  rw[(zW v).1,(zW v).2]
  rfl
 refine⟨λm δ μ=>∃(fd:List Str) (O:Option D),δ=[some (s.d A L),some (.dK s.dQ),some (.adr a),some (.adr b),O]/\μ=[(b,.lst ((cQ s.names fd).map D.str)),(a,.lst (fd.map D.str))]/\m=(cQ s.names fd).length/\(cQ s.names fd).length+fd.length=s.names.length/\sP s.names s.cA (cQ s.names fd).length fd=none,⟨s.names.length,[],none,rfl,?_,by rw[oR],by rw[oR];rfl,by rw[oR];exact T⟩,?_⟩
 ·rw[oR]
  rfl
 rintro m δ μ ⟨fd,O,rfl,rfl,rfl,hlen,o⟩
 rw[vw]
 refine⟨_,rfl,_,_,rfl,rfl,_,rfl,?_⟩
 show if decide ((0:Int)<(((cQ s.names fd).map D.str).length:Int))=true then _ else _
 rw[tz]
 cases h0:decide ((0:Int)<((cQ s.names fd).length:Int)) with
 |false =>
  have h0':=of_decide_eq_false h0
  have e0:(cQ s.names fd).length=0:=by omega
  rw[e0] at o
  cases o
 |true =>
  refine aq ?_
  dsimp only
  refine FQ (vw _ _ _) ?_
  refine⟨_,rfl,(cQ s.names fd).map D.str,rfl,outF (Ae s.cA fd) D.str (cQ s.names fd),lW,i7 λn Z=>?_,sL (Tc (show _<=18 by omega) (by decide)),_,rfl,?_,?_⟩
  ·refine⟨_,rfl,_,rfl,_,.inr n,_,rfl,rfl,mI (c fd n Z),_,rfl,s.cA n,fd,rfl,uz W S (c fd n Z),_,rfl,?_⟩
   change Ae s.cA fd n=_/\(Ae s.cA fd n=true->_)
   cases Ae s.cA fd n with
   |true=>exact⟨rfl,λ_=>⟨_,rfl,rfl⟩⟩
   |false=>exact⟨rfl,λz=>nomatch z⟩
  ·rw[i8];exact cH _
  rw[i8]
  change wK (Nu _ _ _) _ _ (List.set _ 4 (some (.lst ((p7 s.names s.cA fd).map D.str)))) _
  obtain⟨k,ek⟩:∃k,(cQ s.names fd).length=k+1:=⟨(cQ s.names fd).length - 1,by have:=of_decide_eq_true h0;omega⟩
  rw[ek] at o
  unfold sP at o
  have J:∀x∈p7 s.names s.cA fd,x∈cQ s.names fd:=λx p=>(Uq.mp p).1
  revert o J
  cases hrd:p7 s.names s.cA fd with
  |nil =>
   intro o J
   refine⟨_,rfl,_,_,rfl,rfl,true,rfl,aq ?_⟩
   show yT _ _ (cD [(b,.lst ((cQ s.names fd).map D.str)),(a,.lst (fd.map D.str))] [some (s.d A L),some (.dK s.dQ),some (.adr a),some (.adr b),some (.lst (([]:List Str).map D.str))]) []
   rw[vw]
   refine⟨_,rfl,_,rfl,_,rfl,s.names,cQ s.names fd,s.cA,rfl,λn Z=>uz W S Z,by omega,by omega,c fd,λx p=>?_,λrg l=>?_⟩
   ·have U:¬ Ae s.cA fd x=true:=List.filter_eq_nil_iff.mp hrd x p
    unfold Ae at U
    obtain⟨y,hy,hyn⟩:∃y∈s.cA x,fd.contains y=false:=by
     simpa using U
    refine⟨y,hy,Uq.mpr ⟨hkn x (c fd x p) y hy,?_⟩⟩
    rw[hyn]
    rfl
   ·have hl:rg.length<=(cQ s.names fd).length:=gU l.nd l.sub
    refine⟨s,rg,rfl,W,S,l.ne,by omega,λx p=>c fd x (l.sub x p),rfl,?_⟩
    exact q rg ⟨l.ne,l.nd,λx p=>c fd x (l.sub x p),l.link⟩ (by omega)
  |cons r rs =>
   intro o J
   have Y:sP s.names s.cA k (fd++[r])=none:=o
   obtain⟨t,ht⟩:=Tp.mp (J r N')
   have X:=AN S fd
   have el:cQ s.names (fd++[r])=(cQ s.names fd).eraseIdx t:=by rw[DM,ra X ht]
   have N:(cQ s.names (fd++[r])).length=k:=by
    rw[el,List.length_eraseIdx_of_lt (dR ht),ek]
    rfl
   refine⟨_,rfl,_,_,rfl,rfl,false,?_,aU ?_⟩
   ·show D.bl (decide ((((r::rs).map D.str).length:Int)=0))=_
    rw[decide_eq_false]
    rw[tz,Tg]
    omega
   refine⟨a,_,rfl,(yR v).trans cK,?_,_,rfl,.str r,dE (i:=0) rfl,?_⟩
   ·rw[tz]
    exact Tc (show _<=18 by omega) (by decide)
   dsimp only
   rw[(B8 v).1]
   refine⟨b,cQ s.names fd,rfl,look_same,_,rfl,.str r,dE (i:=0) rfl,r,t,rfl,ht,λm y hm hy e=>?_,?_⟩
   ·subst e
    have:=eE X hy ht
    omega
   dsimp only
   rw[(B8 v).2]
   refine⟨k,by omega,fd++[r],_,rfl,?_,N.symm,?_,?_⟩
   ·rw[el,Tv];rfl
   ·rw[N,TY]
    show k+(fd.length+1)=_
    omega
   ·rw[N];exact Y
end
structure Rg (l R:List Str) (nf:Str->List Str):Prop where
 nd:R.Nodup
 ne:0<R.length
 sub:∀x∈R,x∈l/\x∉l.take 3
 has:∀(i:Nat) x y,R[i]?=some x->R[(i+1)%R.length]?=some y->y∈nf x
 only:∀(i:Nat) x y,R[i]?=some x->R[(i+1)%R.length]?=some y->∀z∈nf x,z=y\/z∈l.take 3
 out:∀x∈l,x∉R->∀z∈nf x,z∈R
 fst:∀x∈l.take 3,nf x=[]
section
variable {l R:List Str}{nf:Str->List Str}
def Rg.next(r:Rg l R nf)(h:x∈R):∃(i:Nat) (y:Str),R[i]?=some x/\R[(i+1)%R.length]?=some y/\y∈R/\y∈nf x:=by
 obtain⟨i,b⟩:=Tp.mp h
 have a:R[(i+1)%R.length]?=some (R[(i+1)%R.length]'(XC _ r.ne)):=F' _
 exact⟨i,_,b,a,K' a,r.has i x _ b a⟩
def Rg.MZ(r:Rg l R nf)(B:l.Nodup)(h:EE l nf m):False:=by
 have A:∀(k:Nat) (x:Str),m[k]?=some x->x∉R:=by
  intro k
  induction k using Nat.strongRecOn with
  |_ k v =>
   intro x g w
   obtain⟨_,y,_,_,o,c⟩:=r.next w
   have:=(h.1 k x g).2.2 y c
   obtain⟨j,a⟩:=Tp.mp this
   rw[U8] at a
   split at a
   ·rename_i t
    exact v j t y a o
   ·cases a
 have s:m.Nodup:=by
  rw[List.Nodup,List.pairwise_iff_getElem]
  intro i j u a p e
  exact(h.1 j _ (F' a)).2.1 (Tp.mpr ⟨i,by rw[U8,if_pos p,F' u,e]⟩)
 obtain⟨x,g⟩:∃x,R[0]?=some x:=⟨_,F' r.ne⟩
 have b:=K' g
 have f:x∉m:=λz=>by
  obtain⟨k,n⟩:=Tp.mp z
  exact A k x n b
 have:=gU (l:=x::m) (m:=l) (UN.mpr ⟨f,s⟩) λy c=>by
  rcases Gc.mp c with rfl|c
  ·exact(r.sub _ b).1
  ·obtain⟨k,n⟩:=Tp.mp c
   exact(h.1 k y n).1
 rw[Tg,h.2] at this
 omega
def Rg.go(r:Rg l R nf):∀(k:Nat) (fd f:List Str),fd.Nodup->(∀x∈fd,x∈l)->(∀x∈R,x∉fd)->sP l nf k fd=some f->f.Nodup/\(∀x∈f,x∈l)/\(∀x∈R,x∉f)/\f.length=fd.length+k
 | 0,fd,f,m,t,i,e=>by cases e;exact⟨m,t,i,rfl⟩
 |k+1,fd,f,m,t,i,e=>by
  unfold sP at e
  revert e
  cases hr:p7 l nf fd with
  |nil=>intro e;cases e
  |cons n B =>
   intro e
   have A:n∈p7 l nf fd:=by rw[hr];exact N'
   obtain⟨j,w⟩:=Uq.mp A
   obtain⟨o,u⟩:=Uq.mp j
   have p:n∉fd:=by simpa using u
   obtain⟨a,b,c,d⟩:=Rg.go r k (fd++[n]) f (VD.mpr ⟨m,UN.mpr ⟨(λh=>nomatch h),WG⟩,λx g y s e=>p (by rw[<- D'.mp s,<- e];exact g)⟩) (λx g=>by
    rcases T4.mp g with g|g
    ·exact t x g
    ·rw[D'.mp g];exact o) (λx g z=>by
    rcases T4.mp z with z|z
    ·exact i x g z
    ·rw[D'.mp z] at g
     obtain⟨_,y,_,_,v,s⟩:=r.next g
     have:=Ul.mp w y s
     exact i y v (Th.mp this)) e
   refine⟨a,b,c,?_⟩
   rw[d,TY]
   show fd.length+1+k=_
   omega
def Rg.none(r:Rg l R nf):Mp l nf=none:=by
 cases e:Mp l nf with
 |none=>rfl
 |some f =>
  obtain⟨h1,g,h,i⟩:=r.go l.length [] f WG (λx a=>nomatch a) (λx _ a=>nomatch a) e
  obtain⟨x,a⟩:∃x,R[0]?=some x:=⟨_,F' r.ne⟩
  have b:=K' a
  have:=gU (l:=x::f) (m:=l) (UN.mpr ⟨h x b,h1⟩) λy c=>by
   rcases Gc.mp c with rfl|c
   ·exact(r.sub _ b).1
   ·exact g y c
  rw[Tg,i] at this
  exact absurd this (by simp)
def Rg.perm(r:Rg l R nf)(g:rK nf l rg):rg.Perm R:=by
 have s:∀i,i<rg.length->(rg.drop 1++rg.take 1)[i]?=rg[(i+1)%rg.length]?:=λi h=>GZ h
 have f:∀(i:Nat) (x:Str),rg[i]?=some x->∃y,rg[(i+1)%rg.length]?=some y/\y∈nf x:=λi x c=>by
  have b:rg[(i+1)%rg.length]?=some (rg[(i+1)%rg.length]'(XC _ g.ne)):=F' _
  exact⟨_,b,g.link i x _ c (by rw[s i (dR c)];exact b)⟩
 have inR:∀x∈rg,x∈R:=λx c=>by
  obtain⟨k,n⟩:=Tp.mp c
  have I:=dR n
  obtain⟨j,A,L⟩:∃j,j<rg.length/\(j+1)%rg.length=k:=by
   by_cases e:k=0
   ·exact⟨rg.length - 1,by omega,by rw[ZA (by omega),YT];exact e.symm⟩
   ·exact⟨k - 1,by omega,by rw[ZA (by omega),V1 I]⟩
  obtain⟨w,u⟩:∃w,rg[j]?=some w:=⟨_,F' A⟩
  obtain⟨y,b,o⟩:=f j w u
  rw[L,n] at b
  cases b
  have C:=g.sub w (K' u)
  by_cases m:w∈R
  ·obtain⟨i,z,B,J,H,_⟩:=r.next m
   rcases r.only i w z B J x o with e|e
   ·rw[e];exact H
   ·obtain⟨y,_,b⟩:=f k x n
    rw[r.fst x e] at b
    cases b
  ·exact r.out w C m x o
 have step:∀(i:Nat) (x y:Str),R[i]?=some x->R[(i+1)%R.length]?=some y->x∈rg->y∈rg:=λi x y c b P=>by
  obtain⟨k,n⟩:=Tp.mp P
  obtain⟨z,J,F⟩:=f k x n
  have v:=K' J
  rcases r.only i x y c b z F with e|e
  ·rw[<- e];exact v
  ·exact absurd e (r.sub z (inR z v)).2
 obtain⟨x,c⟩:∃x,rg[0]?=some x:=⟨_,F' g.ne⟩
 have p:=K' c
 obtain⟨i,B⟩:=Tp.mp (inR x p)
 have E:=dR B
 have all:∀(t:Nat) (y:Str),R[(i+t)%R.length]?=some y->y∈rg:=by
  intro t
  induction t with
  |zero =>
   intro y b
   rw[Nat.add_zero,V1 E,B] at b
   cases b
   exact p
  |succ t N =>
   intro y b
   have M:(i+t)%R.length<R.length:=XC _ r.ne
   obtain⟨w,u⟩:∃w,R[(i+t)%R.length]?=some w:=⟨_,F' M⟩
   refine step _ w y u ?_ (N w u)
   rw[Nat.mod_add_mod,Nat.add_assoc]
   exact b
 refine(List.perm_ext_iff_of_nodup g.nd r.nd).mpr λa=>⟨inR a,λO=>?_⟩
 obtain⟨j,A⟩:=Tp.mp O
 have G:=dR A
 refine all (R.length - i+j) a ?_
 rw[show i+(R.length - i+j)=R.length+j by omega,Nat.add_mod_left,V1 G]
 exact A
end
def By(a:n∈l.drop 3)(h:of n=none):oY l of b n=(b n).aJ:=by
 unfold oY baseOf
 rw[h,if_pos a]
 rfl
def RL.rg(h:RL l R p of pf)(n:l.Nodup):Rg l R (oY l of pf):=by
 have nt:∀x,x∈l.drop 3->x∉l.take 3:=λx a c=>eY n c a
 have f:∀(i:Nat) x y,R[i]?=some x->R[(i+1)%R.length]?=some y->y∈oY l of pf x/\∀z∈oY l of pf x,z=y\/z∈l.take 3:=λi x y a g=>by
  have b:=h.sub x (K' a)
  rcases(h.ln x b).2.1 i y a g with⟨e,j,m⟩|⟨e,_,_,j⟩
  ·rw[By b e]
   exact⟨j,m⟩
  ·have:oY l of pf x=[y]:=by
    unfold oY baseOf
    rw[e,if_pos b,j]
    rfl
   rw[this]
   exact⟨D'.mpr rfl,λz c=>.inl (D'.mp c)⟩
 refine⟨h.nd,h.ne,λx a=>⟨jY (h.sub x a),nt x (h.sub x a)⟩,λi x y a g=>(f i x y a g).1,λi x y a g=>(f i x y a g).2,λx a o z c=>?_,λx a=>?_⟩
 ·by_cases b:x∈l.drop 3
  ·obtain⟨e,m⟩:=(h.ln x b).2.2 o
   rw[By b e] at c
   exact m z c
  ·have:oY l of pf x=[]:=by
    unfold oY baseOf
    rw[h.no x b,if_neg b]
    rfl
   rw[this] at c
   cases c
 ·have b:x∉l.drop 3:=eY n a
  unfold oY baseOf
  rw[h.no x b,if_neg b]
  rfl
def RL.bd(h:RL l R oa of pf)(x:LC l):Bd l kT of pf:=by
 have F:∀n∈l.drop 3,Tr l 4 19 (pf n):=λn w=>(h.ln n w).1
 have g:∀n m,of n=some m->n∈l/\m∈l/\n≠m/\∃i:Nat,R[i]?=some n/\(i:Int)=oa:=λn m e=>by
  have y:n∈l.drop 3:=XU λz=>by rw[h.no n z] at e;cases e
  have G:n∈R:=XU λz=>by rw[((h.ln n y).2.2 z).1] at e;cases e
  obtain⟨i,c⟩:=Tp.mp G
  have u:R[(i+1)%R.length]?=some (R[(i+1)%R.length]'(XC _ h.ne)):=F' _
  rcases(h.ln n y).2.1 i _ c u with⟨f,_⟩|⟨f,L,j,_⟩
  ·rw[f] at e;cases e
  ·rw[f] at e
   cases e
   refine⟨jY y,jY (h.sub _ (K' u)),λz=>?_,i,c,L⟩
   rw[<- z] at u
   have:=eE h.nd c u
   have H:=dR c
   by_cases q:i+1<R.length
   ·rw[V1 q] at this;omega
   ·rw[show i+1=R.length by omega,YT] at this;omega
 have B:∀n m s v,of n=some m->of s=some v->n=s:=λn m s v e f=>by
  obtain⟨_,_,_,i,c,Q⟩:=g n m e
  obtain⟨_,_,_,N,A,S⟩:=g s v f
  have:i=N:=by omega
  rw[this,A] at c
  cases c
  rfl
 refine⟨x,⟨x.ok,λn _=>N',x.hi⟩,?_,F⟩
 by_cases o:∃n m,of n=some m
 ·obtain⟨n,m,e⟩:=o
  obtain⟨w,E,C,_⟩:=g n m e
  obtain⟨i,c⟩:=Tp.mp w
  obtain⟨k,t⟩:=Tp.mp E
  have M:i≠k:=λz=>by rw[z,t] at c;cases c;exact C rfl
  have P:=dR c
  have O:=dR t
  have p:∀r:List Str,(∃a b:Nat,a<b/\r[a]?=some m/\r[b]?=some n)->PH l l r kT of:=λr J s _ v f=>by
   have I:=B _ _ _ _ f e
   subst I
   rw[e] at f
   cases f
   exact⟨E,rfl,J⟩
  by_cases j:k<i
  ·exact⟨l,.refl _,p l ⟨k,i,j,t,c⟩⟩
  ·exact⟨l.reverse,List.reverse_perm l,p _ ⟨l.length - 1 - k,l.length - 1 - i,by omega,by rw[Wu (by omega),show l.length - 1 - (l.length - 1 - k)=k by omega];exact t,by rw[Wu (by omega),show l.length - 1 - (l.length - 1 - i)=i by omega];exact c⟩⟩
 ·exact⟨l,.refl _,λn _ m e=>absurd ⟨n,m,e⟩ o⟩
def Ie(b:Bd l kT of a)(v:x∈l)(u:y∈oY l of a x):vh l of a x y (GK ((gR l s kT of a).DN x) y):=by
 have j:=b.O6.nd
 have e:(gR l s kT of a).DN x=iz l kT of a x:=by
  unfold Sh.DN
  rw[qx (x:=iz l kT of a x) (by rw[<- Sh.dU,i4 j];exact j) (by rw[pd j];exact Tj.mpr ⟨x,v,rfl⟩) (Bt x)]
  rfl
 rw[e]
 have g:∀bs:List Str,y∈Fu (of x) bs->y∉bs->of x=some y:=λbs h m=>by
  cases ho:of x with
  |none=>rw[ho] at h;exact absurd h m
  |some o =>
   rw[ho] at h
   have h:y∈(if o∈bs then bs else bs++[o]):=h
   split at h
   ·exact absurd h m
   ·rcases T4.mp h with h|h
    ·exact absurd h m
    ·rw[D'.mp h]
 by_cases c:x∈l.drop 3
 ·have t:=b.tr x c
  have n:(iz l kT of a x).parts=[a x]:=by rw[i3,if_pos c]
  by_cases f:y∈(a x).aJ
  ·rw[GL (i:=0) (p:=a x) (by rw[n];rfl) (Th.mpr f) λk r w=>by omega]
   refine⟨?_,place_len y 4 (a x)⟩
   unfold iK
   rw[if_pos c]
   exact lY 4 (a x) [] f t.dp
  ·rw[sV λp h=>by rw[n] at h;rw[D'.mp h];exact f]
   refine⟨?_,g _ u ?_⟩
   ·unfold iK
    rw[if_pos c]
    exact yo 4 (a x) [] f
   ·unfold baseOf
    rw[if_pos c]
    exact f
 ·rw[sV λp h=>by rw[i3,if_neg c] at h;cases h]
  refine⟨?_,g _ u ?_⟩
  ·unfold iK
   rw[if_neg c]
  ·unfold baseOf
   rw[if_neg c]
   exact λz=>nomatch z
structure K_ (K:l') (C:Addr) (cs:List Addr) (bs:List Bool):Prop where
 ty:nh K C
 at_:∀(i:Nat) (c:Addr) (b:Bool),cs[i]?=some c->bs[i]?=some b->kitOne K (.ref C) (.ref c)=some b
 ve:kitOne K (.ref C) (.type "ValueError")=some true
def GX:List Bool:=[false,false,true,false,false,false,false,false,false,false,false]
def Fc:List D:=[.bl false,.bl false,.bl true,.bl false,.bl false,.bl false,.bl false,.bl false,.bl false,.bl false,.bl false,.bl false]
def CD(b:Addr):cI:=λds Q=>∃(a:Addr) (c:List (Str × D)),ds=[.exc a b c]/\Q (.lst Fc)
structure Ny (K:l') (mg:Str->Option Value) (rg_:Addr):Prop where
 ex:∃c1 c2 c4 c5 c6 c7 c8 c9 c10 c11:Addr,mg "NoKind"=some (.ref c1)/\mg "NoBeat"=some (.ref c2)/\mg "Ring"=some (.ref rg_)/\mg "NoSheet"=some (.ref c4)/\mg "NoName"=some (.ref c5)/\mg "NoPart"=some (.ref c6)/\mg "NoInput"=some (.ref c7)/\mg "NoState"=some (.ref c8)/\mg "NoClaim"=some (.ref c9)/\mg "TooMany"=some (.ref c10)/\mg "NoText"=some (.ref c11) /\
  K_ K rg_ [c1,c2,rg_,c4,c5,c6,c7,c8,c9,c10,c11] GX
structure HU (K:l') (C:Addr) (f:Str):Prop where
 get:jN K C
 SM:Vh K C=true
 no:findIn K (.ref C) f=some none
def qo:UR "ValueError"=some (.type "ValueError"):=by kernel_rfl
def DL:Lay 1 (.lst Fc):=⟨by decide +kernel,by decide +kernel,by decide +kernel⟩
def Rg.congr(r:Rg l R f)(e:∀x∈l,b x=f x):Rg l R b:=by
 have g:∀{x} {i:Nat},R[i]?=some x->b x=f x:=λh=>e _ (r.sub _ (K' h)).1
 exact⟨r.nd,r.ne,r.sub,λi x y a c=>by rw[g a];exact r.has i x y a c,λi x y a c=>by rw[g a];exact r.only i x y a c,λx a=>by rw[e x a];exact r.out x a,λx a=>by rw[e x (Ub a)];exact r.fst x a⟩
def Rg.known(r:Rg l R c)(g:x∈l)(b:y∈c x):y∈l:=by
 by_cases h:x∈R
 ·obtain⟨i,z,f,j,a,_⟩:=r.next h
  rcases r.only i x z f j y b with e|e
  ·rw[e];exact(r.sub z a).1
  ·exact Ub e
 ·exact(r.sub y (r.out x g h y b)).1
def p8(s:Sh)(g:List Str):fi s g=(g.zip (uJ g)).map λz=>yw (λx y=>GK (s.DN x) y) z.1 z.2:=by
 unfold fi
 rw[List.zip_eq_zipWith,List.map_zipWith]
 rfl
def CP(A:bC)(L:LA):za:=λds Q _=>∃(l R:List Str) (a:Int) (of:Str->Option Str) (pf:Str->Pt) (n3:Str),ds=[(gR l n3 kT of pf).d A L,.lst (R.map D.str),.dK (sO l of),.lst ((l.drop 3).map (AQ kT of pf))]/\LC l/\RL l R a of pf/\l[3]?=some n3/\Q (.bl true)
section
seal wpAny
variable {P:TV}{w:World}{K:l'}{mg:Str->Option Value}{base:Heap}{A:bC}{L:LA}{n j:Nat}{rg_ cR:Addr}
def Eb(d:Df K mg "_law_marks" kU ["_law_e"])(b:mg "isinstance"=none)(g:mg "ValueError"=none)(z:Ny K mg rg_):iL P w K mg base (j+1) "_law_marks" ["_law_e"] (CD rg_):=by
 obtain⟨R,T,W,c5,O,c7,X,S,N,G,v,u,y,l,t,r,p,h,o,m,x,c⟩:=z.ex
 refine d.Hg mw (fun F P Y f ⟨a,k,e,q⟩=>⟨a,k,e,f _ q⟩) (fun F Q ⟨a,k,e,_⟩=>by rw[e];rfl) (λf I A B s H E J M=>have U:=fP J;have C:=mw
  (aK (bB (i:=1) C.nd rfl (TQ rfl) (cB (aA (d9 K rfl (dv 0) (by rfl) b (by rfl) v) (aA (d9 K rfl (dv 0) (by rfl) b (by rfl) u) (aA (d9 K rfl (dv 0) (by rfl) b (by rfl) y) (aA (d9 K rfl (dv 0) (by rfl) b (by rfl) l) aC))))))
 (aK (bB (i:=1) C.nd rfl (TQ rfl) (bz (dv 1) (cB (aA (d9 K rfl (dv 0) (by rfl) b (by rfl) t) (aA (d9 K rfl (dv 0) (by rfl) b (by rfl) r) (aA (d9 K rfl (dv 0) (by rfl) b (by rfl) p) (aA (d9 K rfl (dv 0) (by rfl) b (by rfl) h) aC)))))))
 (aK (bB (i:=1) C.nd rfl (TQ rfl) (bz (dv 1) (cB (aA (d9 K rfl (dv 0) (by rfl) b (by rfl) o) (aA (d9 K rfl (dv 0) (by rfl) b (by rfl) m) (aA (d9 K rfl (dv 0) (by rfl) b (by rfl) x) aC))))))
 (aE (aP (bz (dv 1) (cB (aA (OI (Hr K rfl (dv 0) (by rfl) b (by rfl) g qo)) aC))))))))) ?_
 rintro F Q ⟨a,Z,rfl,q⟩
 refine⟨_,rfl,a,_,_,false,rfl,c.ty,c.at_ 0 _ _ rfl rfl,_,rfl,a,_,_,false,rfl,c.ty,c.at_ 1 _ _ rfl rfl,_,rfl,a,_,_,true,rfl,c.ty,c.at_ 2 _ _ rfl rfl,_,rfl,a,_,_,false,rfl,c.ty,c.at_ 3 _ _ rfl rfl,zL4,?_⟩
 refine⟨_,rfl,_,rfl,a,_,_,false,rfl,c.ty,c.at_ 4 _ _ rfl rfl,_,rfl,a,_,_,false,rfl,c.ty,c.at_ 5 _ _ rfl rfl,_,rfl,a,_,_,false,rfl,c.ty,c.at_ 6 _ _ rfl rfl,_,rfl,a,_,_,false,rfl,c.ty,c.at_ 7 _ _ rfl rfl,zL4,zL8,?_⟩
 refine⟨_,rfl,_,rfl,a,_,_,false,rfl,c.ty,c.at_ 8 _ _ rfl rfl,_,rfl,a,_,_,false,rfl,c.ty,c.at_ 9 _ _ rfl rfl,_,rfl,a,_,_,false,rfl,c.ty,c.at_ 10 _ _ rfl rfl,zL3,zL11,?_⟩
 exact⟨_,rfl,_,rfl,a,_,_,true,rfl,c.ty,c.ve,true,rfl,zL1,zL12,q⟩
def Ec(d:Df K mg "_law_ring_right" eU ["_law_sheet","_law_ring","_law_ons","_law_lines"])(v:mg "sorted"=none)(F:mg "RowError"=some (.ref cR))(hk:kitCls K (.ref rg_) (.ref cR)=some true)(z:mroIn K cR (.type "BaseException")=some true)(N:HU K rg_ "ring")
  (rR:vY P w K mg base j "order" ["sheet"] (K1 A L rg_))(m:iL P w K mg base j "_law_marks" ["_law_e"] (CD rg_))(c:iL P w K mg base j "_law_is_ring" ["_law_ring","_law_ons","_law_lines"] zH) :
  vY P w K mg base (j+1) "_law_ring_right" ["_law_sheet","_law_ring","_law_ons","_law_lines"] (CP A L):=by
 have u:∀C,C=rg_->kitCls K (.ref C) (.ref cR)=some true:=λC e=>e ▸ hk
 refine d.N_ gw (fun ds P P' R R' f g ⟨l,r,oa,of,pf,I,e,h1,h2,h3,q⟩=>⟨l,r,oa,of,pf,I,e,h1,h2,h3,f _ q⟩) (fun ds Q R ⟨l,r,oa,of,pf,I,e,_⟩=>by rw[e];rfl) (λf cdv A outer s H E R T B=>have hu:=T.units;have hh:=T.hd;have sc:=gw
  (IF (Lx (i:=4) rfl rfl rfl sc.nd rfl rfl (by rfl) F u z (λpins E' xk B=>(aE (bI (zr B rR T (by omega) (by rfl) (aA (dv 0) aC)))))
 (λea=>(aK (cw (rM.td (w_or (Gy hu (LU rfl m (T.mark _) (by omega) (by rfl) (aA (dv 4) aC)) (bz (cB (pN (by rfl))) (Li (pN (by rfl))))) (nA (gz (eX (LV rfl c (T.mark _) (by omega) (by rfl) (aA (Eg K rfl (dv 4) (by rfl)) (aA (dv 2) (aA (dv 3) aC))))))))) (aE (aP nH)) ay)
 (aE (aP (xh hu (BQ (by rfl) v (aA (OH (x:="_law_pair") (caps:=[]) (cn:=[]) (cl:=[]) (h_ (by rfl) (by rfl) (by decide +kernel) (by decide +kernel) (by decide +kernel)) rfl (pU (Eg K rfl (dv 4) (by rfl))) (λC fp s₂ H₂=>az (i:=0) (show(["_law_pair"]:List Str).Nodup by decide +kernel) rfl (TQ rfl) (.inr rfl)) (λC fp s₂ H₂=>cm) (λC fp s₂ H₂=>(ba (dv 0) aI (λ_ _=>rfl)))) aC)) (BQ (by rfl) v (aA (dv 1) aC))))))))
 (Lw (aE (aP nH))))) ?_
 rintro ds Q X ⟨l,R,oa,of,pf,I,rfl,M,W,h3,q⟩
 have b:=W.bd M
 have nd:=M.nd
 have J:=wL b h3
 have nm:=i4 (l:=l) (n3:=I) (kf:=kT) (of:=of) (pf:=pf) nd
 have U:∀x∈l,(gR l I kT of pf).cA x=oY l of pf x:=λx B=>yZ b B
 have rg:=(W.rg nd).congr U
 have hRl:R.length<=8:=G' (gU W.nd λx B=>jY (W.sub x B)) M.hi
 refine⟨λδ C (gs:List (Str × D))=>C=rg_/\δ=bS ["_law_sheet","_law_ring","_law_ons","_law_lines","_law_e"] [(gR l I kT of pf).d A L,.lst (R.map D.str),.dK (sO l of),.lst ((l.drop 3).map (AQ kT of pf))]/\∃g:List Str,rK (gR l I kT of pf).cA l g/\gs=[(("ring":Str),D.tup (fi (gR l I kT of pf) g))],?_,?_⟩
 ·rintro δ C gs ⟨rfl,rfl,g,G,rfl⟩
  refine⟨rfl,λa=>?_⟩
  have Y:g.length<=8:=G' (gU G.nd G.sub) M.hi
  have perm:=rg.perm G
  refine⟨_,rfl,⟨_,_,D'.mpr rfl⟩,a,_,rfl,zL3,zL1,(by decide),(by decide),(by decide),zL12,CI rfl DL (by decide) ?_⟩
  refine⟨false,rfl,aU ⟨⟨4,_,_,rfl⟩,_,rfl,a,_,_,_,rfl,N.get,N.SM,N.no,rfl,_,rfl,_,rfl,l,kT,of,pf,g,λx y=>GK ((gR l I kT of pf).DN x) y,?_,M,b.tr,G.ne,by omega,G.nd,G.sub,λi x y B Z=>?_,true,rfl,aU ?_⟩⟩
  ·rw[p8]
  ·have S:=G.sub x (K' B)
   exact Ie b S (by rw[<- U x S];exact G.link i x y B Z)
  have hz:∀(i:Nat) (O:D),(fi (gR l I kT of pf) g)[i]?=some O->∃x p,g[i]?=some x/\O=.tup [.str x,p]:=λi O h=>by
   obtain⟨x,y,B,_,e⟩:=HI (show(Vm (pairD (gR l I kT of pf)) g (uJ g))[i]?=some O from h)
   exact⟨x,_,B,e.symm⟩
  refine⟨⟨4,_,_,rfl⟩,_,rfl,a,_,_,_,rfl,N.get,N.SM,N.no,rfl,_,.inr rfl,g.map λx=>some (.str x),?_,λi O o hd ho=>?_,?_,g,?_,by omega,λs1 p1 o1=>⟨_,rfl,R,rfl,by omega,λs2 p2 o2=>?_⟩⟩
  ·rw[p8,tz,tz,Xc,ot G.ne,YU]
  ·obtain⟨x,p,B,rfl⟩:=hz i O hd
   rw[TX,B] at ho
   cases ho
   exact⟨rfl,λ_=>⟨_,rfl,_,rfl,rfl⟩⟩
  ·rw[p8,tz,Xc,ot G.ne,YU]
   exact Tc Y (by decide)
  ·rw[UW]
   exact congrArg (λt=>[D.lst t]) (List.filterMap_eq_map (f:=D.str) ▸ rfl)
  ·have e:s1=s2:=tK ((p1.trans perm).trans p2.symm) o1 o2
   subst e
   exact CI rfl (yP λx B=>(M.ok x (G.sub x (p1.mem_iff.mp B))).2.2) (by decide) q
 ·refine⟨_,rfl,gR l I kT of pf,rfl,J.ok,J.nd,wM,?_,?_,λg G _=>?_⟩
  ·rw[nm]
   exact rg.none
  ·rw[nm]
   exact λx B y Z=>rg.known B Z
  ·rw[nm] at G
   exact⟨rfl,rfl,g,G,rfl⟩
def Pw:za:=λa Q _=>∃b:List Int,a=[.lst (b.map D.int)]/\Q (.bl true)
def Mg(hN:4<=N)(hi:i+1<=j)(F:xO K "law" "law" lr f fd)(n_len:mg "len"=none)(c:bo P w K mg base j "_law_mixed" ["_law_cell_here","_law_k"] CF)(p:bo P w K mg base j "_law_cell" ["_law_script","_law_k"] Az)(G:bo P w K mg base j "_law_names" ["_law_cell_here"] CG)
  (v:bo P w K mg base j "_law_ring_lines" ["_law_names_here","_law_size","_law_cell_here","_law_script"] qg)(M:bo P w K mg base j "part_of" ["told"] (Dp A N))(O:pM P w K mg base i "Input" L.lP Pr [.ae])(W:pM P w K mg base i "Row" L.row Kz [])(S:pM P w K mg base i "Sheet" L.sh (Pu A L) [])
  (g:vY P w K mg base j "_law_ring_right" ["_law_sheet","_law_ring","_law_ons","_law_lines"] (CP A L))(jR:bo P w K mg base j "is_order" ["sheet","names"] (Ky A L)) :
  cE P w K mg base (xJ P w) (j+1) f fd ["_law_script"] (NQ K Pw):=by
 refine PB F Gf (fun ds Q R ⟨ns,e,_⟩=>by rw[e];rfl) (λf cdv A outer s H E R I hx=>have hu:=I.units;have hh:=I.hd;have sc:=Gf
  (aM (cM (bB (i:=1) sc.nd rfl (TQ rfl) (dW (aR G I (by omega) (by rfl) (aA (aR c I (by omega) (by rfl) (aA (aR p I (by omega) (by rfl) (aA (dv 0) (aA aI aC))) (aA aI aC))) aC)) gW (dh (bz aI (et (aR c I (by omega) (by rfl) (aA (aR p I (by omega) (by rfl) (aA (dv 0) (aA aI aC))) (aA aI aC))) aI))))))
 (aM (cM (bB (i:=2) sc.nd rfl (TQ rfl) (bz aI (et (aR c I (by omega) (by rfl) (aA (aR p I (by omega) (by rfl) (aA (dv 0) (aA aI aC))) (aA aI aC))) (OL (di (by rfl) n_len (aA (dv 1) aC)) aI)))))
 (aM (cM (Ge (aR v I (by omega) (by rfl) (aA (dv 1) (aA (dv 2) (aA (aR c I (by omega) (by rfl) (aA (aR p I (by omega) (by rfl) (aA (dv 0) (aA aI aC))) (aA aI aC))) (aA (dv 0) aC))))) (E9 (n:=2) rfl (fH (bb (i:=8) sc.nd rfl (TQ rfl)) (fH (bb (i:=9) sc.nd rfl (TQ rfl)) rj)))))
 (aM (iB (i:=3) sc.nd rfl (TQ rfl) qw)
 (aM (de W1 rfl (cF (dW (dv 1) gW (dh aI))) (bb (i:=4) sc.nd rfl (TQ rfl)) (av (oV (i:=3) hu rfl (TQ rfl) (dv 4) ig)))
 (aM (de W1 rfl (cF (dv 9)) (bb (i:=5) sc.nd rfl (TQ rfl)) (av (oV (i:=3) hu rfl (TQ rfl) (ba (dv 5) aI (λ_ _=>rfl)) (ba (dv 5) aI (λ_ _=>rfl)))))
 (fN (dS (aK (Pl (k:=6) sc.nd rfl (TQ rfl) (x:="_law_name") (y:="_law_kind") (z:="_law_told") (u:="_law_on") (caps:=[]) (cn:=[]) (cl:=[]) (h_ (by rfl) (by rfl) (by decide +kernel) (by decide +kernel) (by decide +kernel)) rfl (cF (dv 9)) (λC fp s₂ H₂=>GC rfl (lX (az (i:=0) (show(["_law_name","_law_kind","_law_told","_law_on"]:List Str).Nodup by decide +kernel) rfl (TQ rfl) (.inr rfl)) (lX (az (i:=1) (show(["_law_name","_law_kind","_law_told","_law_on"]:List Str).Nodup by decide +kernel) rfl (TQ rfl) (.inr rfl)) (lX (az (i:=2) (show(["_law_name","_law_kind","_law_told","_law_on"]:List Str).Nodup by decide +kernel) rfl (TQ rfl) (.inr rfl)) (lX (az (i:=3) (show(["_law_name","_law_kind","_law_told","_law_on"]:List Str).Nodup by decide +kernel) rfl (TQ rfl) (.inr rfl)) B5))))) (λC fp s₂ H₂=>cm) (λC fp s₂ H₂=>(qp W I (by omega) (by rfl) (aA (dv 0) (aA (dv 1) (aA (aR M I (by omega) (by rfl) (aA (dv 2) aC)) (aA (dv 3) aC)))))))
 (aK (bB (i:=7) sc.nd rfl (TQ rfl) (qp S I (by omega) (by rfl) (aA ar (aA (n_ (x:="_law_name") (caps:=[]) (cn:=[]) (cl:=[]) (h_ (by rfl) (by rfl) (by decide +kernel) (by decide +kernel) (by decide +kernel)) rfl (cF (dW (dv 1) gW (dh aI))) (λC fp s₂ H₂=>az (i:=0) (show(["_law_name"]:List Str).Nodup by decide +kernel) rfl (TQ rfl) (.inr rfl)) (λC fp s₂ H₂=>cm) (λC fp s₂ H₂=>(qp O I (by omega) (by rfl) (aA (dv 0) (aA ar aC))))) (aA (cB (aA (ba (dv 1) aI (λ_ _=>rfl)) aC)) (aA (dv 6) aC))))))
 (aK (cw (rM.td (w_or (gz (eX (zr hx g I (by omega) (by rfl) (aA (dv 7) (aA (dv 8) (aA (dv 3) (aA (dv 9) aC))))))) (nA (gz (eX (zr hx g I (by omega) (by rfl) (aA (dv 7) (aA (dv 8) (aA (dv 3) (aA (dv 9) aC)))))))))) (aE (aP nH)) ay)
 (aE (aP (rT (OG (aR jR I (by omega) (by rfl) (aA (dv 7) (aA (dv 1) aC))) nH) (oB (OG (aR jR I (by omega) (by rfl) (aA (dv 7) (aA (OK (dv 1) (KQ aI)) aC))) nH))))))))))))))))) ?_
 rintro ds Q X ⟨ns,rfl,q⟩
 refine⟨_,rfl,ns,0,rfl,λc0=>⟨c0,1,rfl,λm0=>⟨m0,rfl,λl8 h8=>⟨_,rfl,ns,1,rfl,λc1=>⟨c1,2,rfl,λm1=>⟨iP5,_,rfl,?_⟩⟩⟩⟩⟩⟩
 have lo:=kG m1 iP5
 have hi:=kE m1 iP5
 have Y:=G5 h8 (k:=4+(m1%5).toNat) (by omega) (by omega)
 have ec:DC.cutD (l8.map D.str) none (some (4+m1%5))=(l8.take (4+(m1%5).toNat)).map D.str:=by
  rw[show(4:Int)+m1%5=((4+(m1%5).toNat:Nat):Int) by omega,zp,WW]
 dsimp only[OT]
 rw[ec]
 generalize l8.take (4+(m1%5).toNat)=l at Y
 have h4:=Y.lo
 have h8':=Y.hi
 have nd:=Y.nd
 refine⟨_,rfl,ns,1,rfl,λc2=>⟨c2,3,rfl,λm2=>⟨_,rfl,_,_,rfl,rfl,?_⟩⟩⟩
 rw[tz]
 refine⟨(show(0:Int)<(l.length:Int) - 3 by omega),?_⟩
 obtain⟨sz,hs1,hs2,es⟩:∃sz:Nat,1<=sz/\sz+3<=l.length/\(1:Int)+m2%((l.length:Int) - 3)=(sz:Int):=by
  have a1:=kG m2 (show(0:Int)<(l.length:Int) - 3 by omega)
  have a2:=kE m2 (show(0:Int)<(l.length:Int) - 3 by omega)
  exact⟨(1+m2%((l.length:Int) - 3)).toNat,by omega,by omega,by omega⟩
 dsimp only[E4]
 rw[es]
 refine⟨_,rfl,_,rfl,_,rfl,ns,2,rfl,λc3=>⟨c3,4,rfl,λm3=>⟨_,rfl,l,sz,m3,ns,rfl,Y,hs1,hs2,λR oa of pf rl=>?_⟩⟩⟩
 refine⟨_,rfl,rfl,_,_,rfl,_,_,rfl,rfl,λa _=>?_⟩
 have b:=rl.bd Y
 have ndt:(l.take 3).Nodup:=U1 (WS _ _) nd
 have ndd:(l.drop 3).Nodup:=U1 (XJ _ _) nd
 have oft:∀n∈l.take 3,of n=none:=λn B=>rl.no n (eY nd B)
 have hlen:∀(m:List Str) (f:Str->D),m.length<=8->(dF m f).length<sizeLine:=λm f h=>by
  rw[vx]
  exact Tc h (by decide)
 have ec3:some (DC.cutD (l.map D.str) none (some ((3:Nat):Int)))=some ((l.take 3).map D.str):=by rw[zp,WW]
 let δ0:Option D->Option D->SD:=λx4 x5=>[some (.lst (ns.map D.int)),some (.lst (l.map D.str)),some (.int (sz:Int)),some (.adr a),x4,x5,none,none,some (.lst (R.map D.str)),some (.lst ((l.drop 3).map (AQ kT of pf)))]
 refine⟨_,rfl,_,rfl,(l.take 3).map D.str,ec3,λi δ μ=>(∃x4,δ=δ0 x4 none)/\μ=[(a,.dK (dF ((l.take 3).take i) λn=>zd (of n)))],⟨⟨_,rfl⟩,rfl⟩,?_,?_⟩
 ·rintro i dd δ μ hd ⟨⟨x4,rfl⟩,rfl⟩
  obtain⟨n,B,rfl⟩:=iR hd
  refine⟨a,_,rfl,cK,hlen _ _ (by rw[Tu,Tu];omega),_,rfl,.inr n,rfl,⟨_,rfl⟩,?_⟩
  rw[oj,sW (kC ndt B),dC B]
  refine congrArg (λt=>[(a,MD.dK t)]) (rS λm hm=>?_)
  unfold D1
  split
  ·rename_i e
   rw[e,oft n (K' B)]
   rfl
  ·rfl
 rintro δ μ ⟨⟨x4,rfl⟩,rfl⟩
 rw[tz,T2]
 refine⟨_,rfl,(l.drop 3).map (AQ kT of pf),rfl,λi δ μ=>(∃x5,δ=δ0 x4 x5)/\μ=[(a,.dK (dF (l.take 3++(l.drop 3).take i) λn=>zd (of n)))],⟨⟨_,rfl⟩,?_⟩,?_,?_⟩
 ·rw[WE,UD]
 ·rintro i dd δ μ hd ⟨⟨x5,rfl⟩,rfl⟩
  obtain⟨n,B,rfl⟩:=iR hd
  have hno:n∉l.take 3++(l.drop 3).take i:=λz=>by
   rcases T4.mp z with z|z
   ·exact eY nd z (K' B)
   ·exact kC ndd B z
  refine⟨_,rfl,_,rfl,a,_,rfl,cK,hlen _ _ (by rw[TY,Tu,Tu,UC];omega),_,rfl,_,rfl,.inr n,rfl,⟨_,rfl⟩,?_⟩
  rw[oj,sW hno,dC B,US]
  refine congrArg (λt=>[(a,MD.dK t)]) (rS λm hm=>?_)
  unfold D1
  split
  ·rename_i e
   rw[e]
  ·rfl
 rintro δ μ ⟨⟨x5,rfl⟩,rfl⟩
 rw[tz,T2,U9]
 dsimp only
 refine iq (δ':=[some (.lst (ns.map D.int)),some (.lst (l.map D.str)),some (.int (sz:Int)),some (.dK (sO l of)),x4.map (aY [(a,MD.dK (sO l of))]),x5.map (aY [(a,MD.dK (sO l of))]),none,none,some (.lst (R.map D.str)),some (.lst ((l.drop 3).map (AQ kT of pf)))]) ?_ ?_
 ·show[_,_,_,some (aY [(a,_)] (.adr a)),_,_,_,_,_,_]=_
  rw[fk]
  rfl
 obtain⟨U,h3⟩:∃U,l[3]?=some U:=⟨_,F' (by omega)⟩
 obtain⟨r,I,hof⟩:=b.on
 have J:∀n∈l,n.length<=100000/\gS n=true:=λn B=>⟨G' (Y.ok n B).2.1 (by decide),(Y.ok n B).1⟩
 have onok:∀n∈l,JB (of n):=λn B=>by
  cases ho:of n with
  |none=>exact T9
  |some o=>exact J o (hof n B o ho).1
 refine⟨_,rfl,(l.drop 3).map (AQ kT of pf),rfl,sQ (λn=>(Ln.row n (kT n) (pf n) (of n)).d A L) (l.drop 3),i5,gF λn B=>⟨_,_,_,_,rfl,rfl,λ_=>?_⟩,sL (Bz (by rw[UC];omega)),?_⟩
 ·have Z:=jY B
  have t:=b.tr n B
  exact⟨_,rfl,_,rfl,_,rfl,pf n,rfl,G' t.dp hN,t.ok,⟨G' t.dp (by decide),G' t.sz (by decide)⟩,_,rfl,n,kT n,(pf n).d A,of n,rfl,(J n Z).1,(J n Z).2,onok n Z,b.kd.kd n Z,rfl⟩
 rw[i6]
 have ht:∀n∈l.take 3,n∈l:=λn B=>Ub B
 refine⟨_,rfl,_,rfl,(l.take 3).map D.str,ec3,sQ (λn=>(Ln.lP n (kT n) (of n)).d A L) (l.take 3),i5,gF λn B=>⟨rfl,λ_=>?_⟩,sL (Bz (by rw[Tu];omega)),?_⟩
 ·refine⟨_,rfl,n,kT n,none,rfl,(J n (ht n B)).1,(J n (ht n B)).2,T9,b.kd.kd n (ht n B),?_⟩
  rw[oft n B]
  rfl
 rw[i6]
 refine⟨_,rfl,.str U,dE (i:=3) (by rw[TX,h3];rfl),zL1,_,rfl,gR l U kT of pf,?_,wL b h3,?_⟩
 ·show[D.str "z",_,_,_]=[D.str "z",_,_,_]
  unfold gR
  rw[UG,UG]
  rfl
 have rg:=(rl.rg nd).congr λx hx=>yZ (n3:=U) b hx
 have nm:=i4 (l:=l) (n3:=U) (kf:=kT) (of:=of) (pf:=pf) nd
 have T:=wL b h3
 refine⟨_,rfl,_,rfl,_,rfl,_,rfl,l,R,oa,of,pf,U,rfl,Y,rl,h3,true,rfl,aU ⟨_,rfl,_,rfl,_,rfl,_,rfl,l,R,oa,of,pf,U,rfl,Y,rl,h3,true,rfl,aU ?_⟩⟩
 have no:∀(m:List Str) (b:Bool),(b=true ↔ EE (gR l U kT of pf).names (gR l U kT of pf).cA m)->b=false:=λm b hb=>by
  cases b with
  |false=>rfl
  |true =>
   have:=hb.mp rfl
   rw[nm] at this
   exact(rg.MZ nd this).elim
 refine⟨_,rfl,_,rfl,gR l U kT of pf,l,.inl rfl,T.ok,T.nd,wM,by omega,λb hb=>?_⟩
 rw[no l b hb]
 refine⟨false,rfl,true,rfl,aq ⟨_,rfl,_,rfl,1,rfl,rfl,l.map D.str,rfl,gR l U kT of pf,l.reverse,.inl (by rw[ZP];rfl),T.ok,T.nd,wM,by rw[WB];omega,λb hb=>?_⟩⟩
 rw[no _ b hb]
 exact⟨false,rfl,q⟩
end
structure DE (K:l') (mg:Str->Option Value) (x:Str) (C:Addr) (qual:Str) (st:Stmt) (ps:List Str):Prop where
 ex:∃f fd oI,tq K "__init__" qual st f fd/\lM K C f=true/\K.lookup f=some oI/\oI.cls=.type "function"/\mg x=some (.ref C)/\keepIn K (.ref C)=true/\Binds K fd ps []
 g:nC K C
def Ag{α:Type}{a:List α}(h:a.length=1):∃x,a=[x]:=match a,h with|[x],_=>⟨x,rfl⟩
def IW{K:l'}(d:DE K mg "Ring" C "Ring.__init__" fW ["self","ring"])(r:HU K C "ring"):QN P w K mg base (k+1) "Ring" C ["ring"]:=by
 obtain⟨f,G,oI,F,e,l,n,m,y,b⟩:=d.ex
 refine⟨⟨f,G,_,oI,e,l,n,Sw (t:=tX K 1 "ring") F qE rfl (λi A c s H E=>wg (RO (x:="self") (p:="ring") (j:=1) rfl (TQ rfl) rfl (TQ rfl))) ?_,m,y,b⟩,by decide⟩
 intro h a I H Q o B q
 obtain⟨v,rfl⟩:=Ag o
 exact⟨h,a,C,v,rfl,rfl,d.g,r.no,.inl ⟨B,λx u z=>q x u z⟩⟩
/-! ### where things lie -/
def a8:Nat->(List Value->Prop)->Prop
 |0,P=>P []
 |n+1,P=>∀a,a8 n λl=>P (a::l)
def a9:∀{n:Nat} {P:List Value->Prop},a8 n P->∀us,us.length=n->P us
 |0,_,h,[],_=>h
 |n+1,_,h,a::us,e=>a9 (h a) us (Nat.succ.inj e)
def xM(x a:Str)(st:Stmt)(ps:List Str):Prop:=∀(kV c e:Value) (f:Option Addr) (b g:Value) (us:List Value),us.length=ps.length->aAi (fnOf x a (cJ st) (af st) (aB st) .none kV c e f b g) ⟨us,[]⟩=pure (ps.zip us)
section
variable {w:World}{K:l'}{h:Heap}{mg:Str->Option Value}{x m qual:Str}{st:Stmt}{ps:List Str}{f C:Addr}{od an:Option Addr}{sl:Array (Option Value)}{oc kV dc pm cd ct dV:Value}
def bH(X:K.In h)(G:h.Ns TZ mg)(a:autoParam (nsIn K TZ x=some (some (.ref f))) dO)(l:autoParam (K.lookup f=some ⟨oc,od,.func (fnOf x x (cJ st) (af st) (aB st) .none kV dc pm an cd ct),sl⟩) dO)
  (c:autoParam (codeIn K cd x=true) dO)(k:autoParam (keepIn K (.ref f)=true) dO)(b:autoParam (xM x x st ps) f3):Df K mg x st ps:=⟨⟨f,_,j_ (st:=st) l c k,mg_of X G a,(j_ (st:=st) l c k).binds b⟩⟩
structure cg (K:l') (C:Addr) (m qual:Str) (st:Stmt):Prop where
 ex:∃f fd,xO K m qual st f fd/\Meth K C m f/\Binds K fd ["self"] []
def aT(a:autoParam (findIn K (.ref C) m=some (some (.ref f))) dO)(l:autoParam (K.lookup f=some ⟨oc,od,.func (fnOf m qual (cJ st) (af st) (aB st) .none kV dc pm an cd ct),sl⟩) dO)
  (c:autoParam (codeIn K cd qual=true) dO)(k:autoParam (keepIn K (.ref f)=true) dO)(n:autoParam (isFn K (.ref f)=true) dO)(b:autoParam (xM m qual st ["self"]) f3):cg K C m qual st:=⟨⟨f,_,j_ (st:=st) l c k,⟨a,n,k⟩,(j_ (st:=st) l c k).binds b⟩⟩
def cg.dm(d:cg K C m qual st)(c:tY K C):Dm K C m qual st ["self"]:=let ⟨f,a,F,M,b⟩:=d.ex;⟨⟨f,a,F,M,c,b⟩⟩
def qQ(X:K.In h)(G:h.Ns TZ mg)(i:autoParam (nsIn K TZ x=some (some (.ref C))) dO)(mk:autoParam (Y6 K C=true) dO)(g:autoParam (findIn K (.ref C) "__init__"=some (some (.ref f))) dO)(n:autoParam (isFn K (.ref f)=true) dO)(j:autoParam (keepIn K (.ref C)=true) dO)
  (l:autoParam (K.lookup f=some ⟨oc,od,.func (fnOf "__init__" qual (cJ st) (af st) (aB st) .none kV dc pm an cd ct),sl⟩) dO)(c:autoParam (codeIn K cd qual=true) dO)(k:autoParam (keepIn K (.ref f)=true) dO)
  (b:autoParam (xM "__init__" qual st ps) f3):Di K mg x C qual st ps [] :=
 ⟨⟨f,_,[],[],⟨⟨oc,od,.none,kV,dc,pm,an,cd,ct,sl,rfl,l,c⟩,k⟩,⟨mk,g,n,j⟩,mg_of X G i,(j_ (st:=st) l c k).binds b,.nil,λ_=>.nil⟩⟩
def BD(x a:Str)(st:Stmt)(l:List Str):Prop:=∀(K:l') (T:Addr) (e:Obj) (v:Value) (n:Nat),K.lookup T=some e->e.data=.seq #[v] n->∀(kV c g:Value) (i:Option Addr) (b j:Value),Binds K (fnOf x a (cJ st) (af st) (aB st) (.ref T) kV c g i b j) l []
def zv{a:Addr}{n v:Value}{td:Option Addr}{i:Nat}{g:Array (Option Value)}(X:K.In h)(G:h.Ns TZ mg)(b:BD "__init__" qual st ps)(j:autoParam (nsIn K TZ x=some (some (.ref C))) dO)(mk:autoParam (Y6 K C=true) dO)(e:autoParam (findIn K (.ref C) "__init__"=some (some (.ref f))) dO)
  (p:autoParam (isFn K (.ref f)=true) dO)(o:autoParam (keepIn K (.ref C)=true) dO)(l:autoParam (K.lookup f=some ⟨oc,od,.func (fnOf "__init__" qual (cJ st) (af st) (aB st) (.ref a) kV dc pm an cd ct),sl⟩) dO)(c:autoParam (codeIn K cd qual=true) dO)(k:autoParam (keepIn K (.ref f)=true) dO)
  (lt:autoParam (K.lookup a=some ⟨n,td,.seq #[v] i,g⟩) dO):Di K mg x C qual st ps [] :=
 ⟨⟨f,_,[],[],⟨⟨oc,od,.ref a,kV,dc,pm,an,cd,ct,sl,rfl,l,c⟩,k⟩,⟨mk,e,p,o⟩,mg_of X G j,b K a _ v i lt rfl kV dc pm an cd ct,.nil,λ_=>.nil⟩⟩
def D9(x a:Str)(st:Stmt)(l:List Str):Prop:=∀(K:l') (T:Addr) (e:Obj) (v:Value) (n:Nat),K.lookup T=some e->e.data=.seq #[v] n->∀(kV c g:Value) (i:Option Addr) (b j:Value),Binds K (fnOf x a (cJ st) (af st) (aB st) (.ref T) kV c g i b j) l [v]
def Lj{a:Addr}{n:Value}{td:Option Addr}{i:Nat}{e:Array (Option Value)}(X:K.In h)(G:h.Ns TZ mg)(b:D9 "__init__" qual st ps)(j:autoParam (nsIn K TZ x=some (some (.ref C))) dO)(mk:autoParam (Y6 K C=true) dO)(g:autoParam (findIn K (.ref C) "__init__"=some (some (.ref f))) dO)
  (p:autoParam (isFn K (.ref f)=true) dO)(o:autoParam (keepIn K (.ref C)=true) dO)(l:autoParam (K.lookup f=some ⟨oc,od,.func (fnOf "__init__" qual (cJ st) (af st) (aB st) (.ref a) kV dc pm an cd ct),sl⟩) dO)(c:autoParam (codeIn K cd qual=true) dO)(k:autoParam (keepIn K (.ref f)=true) dO)
  (lt:autoParam (K.lookup a=some ⟨n,td,.seq #[.none] i,e⟩) dO):Di K mg x C qual st ps [.ae] :=
 ⟨⟨f,_,[.ae],[.none],⟨⟨oc,od,.ref a,kV,dc,pm,an,cd,ct,sl,rfl,l,c⟩,k⟩,⟨mk,g,p,o⟩,mg_of X G j,b K a _ .none i lt rfl kV dc pm an cd ct,.cons rfl .nil,λ_=>.cons .ae .nil⟩⟩
def ON(X:K.In h)(G:h.Ns TZ mg)(i:autoParam (nsIn K TZ x=some (some (.ref C))) dO)(p:autoParam (findIn K (.ref C) "__init__"=some (some (.ref f))) dO)(n:autoParam (keepIn K (.ref C)=true) dO)
  (l:autoParam (K.lookup f=some ⟨.type "function",od,.func (fnOf "__init__" qual (cJ st) (af st) (aB st) .none kV dc pm an cd ct),sl⟩) dO)(c:autoParam (codeIn K cd qual=true) dO)(k:autoParam (keepIn K (.ref f)=true) dO)
  (g:lM K C f=true:=by kernel_rfl)(j:autoParam (findIn K (.ref C) "__setattr__"=some (some (.builtin "object.__setattr__"))) dO)(r:((clsIn K C).any λcd=>fq cd.mro)=true:=by kernel_rfl)(o:autoParam (Vh K C=true) dO)
  (b:autoParam (xM "__init__" qual st ps) f3):DE K mg x C qual st ps :=
 ⟨⟨f,_,_,⟨⟨.type "function",od,.none,kV,dc,pm,an,cd,ct,sl,rfl,l,c⟩,k⟩,g,l,rfl,mg_of X G i,n,(j_ (st:=st) l c k).binds b⟩,⟨j,r,o⟩⟩
def OA(h:mroIn K C v=some b):(clsIn K C).isSome=true:=by
 unfold mroIn at h
 cases e:clsIn K C with
 |none=>rw[e] at h;cases h
 |some _=>rfl
def Lp(g1:autoParam (findIn K (.ref C) "__getattribute__"=some (some (.builtin "BaseException.__getattribute__"))) dO)(g2:autoParam (findIn K (.ref C) "__getattr__"=some none) dO)(g3:autoParam (mroIn K C (.type "BaseException")=some true) dO)(c:autoParam (findIn K (.ref C) "__class__"=some (some (.builtin "object.__class__"))) dO)(b:autoParam (Yw K (.builtin "object.__class__") "__get__"=some (some (.builtin "getset_descriptor.__get__"))) dO)(e:autoParam (Zy K (.builtin "object.__class__")=some true) dO)(a:autoParam (mroIn K C (.type "object")=some true) dO):nh K C:=⟨⟨g1,g2,g3⟩,OA a,c,b,e,a⟩
def Ly{f:Str}(g1:autoParam (findIn K (.ref C) "__getattribute__"=some (some (.builtin "BaseException.__getattribute__"))) dO)(g2:autoParam (findIn K (.ref C) "__getattr__"=some none) dO)(g3:autoParam (mroIn K C (.type "BaseException")=some true) dO)(a:autoParam (Vh K C=true) dO)(b:autoParam (findIn K (.ref C) f=some none) dO):HU K C f:=⟨⟨g1,g2,g3⟩,a,b⟩
def LP(h:kitOne K (.ref C) (.ref c)=some true)(a:C≠c):kitCls K (.ref C) (.ref c)=some true:=by
 unfold kitOne at h
 rw[if_neg (λe=>a (by have:=eq_of_beq e;cases this;rfl))] at h
 exact h
def fU(a:autoParam (YH K C aAs=true) dO)(b:autoParam (Vh K C=true) dO)(c:autoParam (Z_ K C=true) dO)(d:autoParam (findIn K (.ref C) "__setattr__"=some (some (.builtin "object.__setattr__"))) dO)
  (e:autoParam (findIn K (.ref C) "__class__"=some (some (.builtin "object.__class__"))) dO)(f:autoParam (Yw K (.builtin "object.__class__") "__get__"=some (some (.builtin "getset_descriptor.__get__"))) dO)(g:autoParam (Zy K (.builtin "object.__class__")=some true) dO)(h:autoParam (mroIn K C (.type "object")=some true) dO):gI K C:=⟨⟨a,b,c,d⟩,e,f,g,h⟩
def Nz(K:l')(C:Addr)(a:List (Addr × Bool)):Prop:=∀p∈a,kitOne K (.ref C) (.ref p.1)=some p.2
def IX{cs:List Addr}{bs:List Bool}(h:Nz K C (cs.zip bs)):∀(i:Nat) (c:Addr) (b:Bool),cs[i]?=some c->bs[i]?=some b->kitOne K (.ref C) (.ref c)=some b:=λi c b a e=>h (c,b) (by
 have:(cs.zip bs)[i]?=some (c,b):=by rw[Xu];exact⟨a,e⟩
 exact K' this)
def HW(K:l')(C:Addr)(a:List (Addr × Bool)):Prop:=∀p∈a,kitOne K (.ref C) (.ref p.1)=some p.2
def MI:HW K C []:=λp h=>nomatch h
def eC(r:HW K C a)(e:kitOne K (.ref C) (.ref c)=some b:=by kit_is):HW K C ((c,b)::a):=λp m=>by
 rcases Gc.mp m with rfl|m
 ·exact e
 ·exact r p m
def oP(X:K.In h)(G:h.Ns TZ mg)(e:nsIn K TZ x=some (some (.int i t))):GI mg x i:=⟨⟨t,mg_of X G e⟩⟩
def OW(X:K.In h)(G:h.Ns TZ mg)(e:nsIn K TZ x=some (some (.str y t))):GD K mg x (.str y):=⟨⟨.str y,.str y t,mg_of X G e,⟨_,rfl⟩,λ_=>.str y⟩⟩
def N6(K:l')(t:Addr)(a:List D):Prop:=∀H,Dv K H (.ref t) (.tup a)
def dD(b:List V)(l:K.lookup t=some ⟨.type "tuple",od,.seq a n,sl⟩)(z:a.size<=1000)(v:Vals b a.toList)(d:∀H,bA K H b ds):N6 K t ds :=
 λH=>.tup (.inr ⟨_,a,n,l,rfl,rfl,Vp (Dq z),v⟩) (d H)
def OX(X:K.In h)(G:h.Ns TZ mg)(e:nsIn K TZ x=some (some (.ref t)))(l:N6 K t a):GD K mg x (.tup a):=⟨⟨.ref t,.ref t,mg_of X G e,rfl,l⟩⟩
def Ke(X:K.In h)(G:h.Ns TZ mg)(e:nsIn K TZ x=some (some (.ref s)))(l:K.lookup s=some ⟨.type "dict",none,.dict b n,#[]⟩)(g:Yz w.params b.toList)
  (i:pL a b.toList)(c:(s == U_)=false)(t:Tb K a tab):HV w K mg x s tab:=⟨mg_of X G e,a,⟨⟨b,n,l,g,i⟩,c⟩,t⟩
def b_(g:b.key=.str y t)(e:b.val=.ref r)(q:pL a c):pL ((y,.ref r)::a) (b::c):=.cons g e q
def C0(a:List Str):∀H,bA K H (a.map V.str) (a.map D.str):=λ_=>lL a
def EH(K:l')(C:Addr):Prop:=∀f∈(["value","name","part","sign","one","other","truth","first","head","rest"]:List Str),dP K C f
def kI(e:autoParam (findIn K (.ref C) "value"=some none) dO)(g:autoParam (findIn K (.ref C) "name"=some none) dO)(i:autoParam (findIn K (.ref C) "part"=some none) dO)(j:autoParam (findIn K (.ref C) "sign"=some none) dO)(n:autoParam (findIn K (.ref C) "one"=some none) dO)(l:autoParam (findIn K (.ref C) "other"=some none) dO)(a:autoParam (findIn K (.ref C) "truth"=some none) dO)(o:autoParam (findIn K (.ref C) "first"=some none) dO)(c:autoParam (findIn K (.ref C) "head"=some none) dO)(b:autoParam (findIn K (.ref C) "rest"=some none) dO):EH K C:=by
 unfold EH
 simp only[Gc,Tt,or_false,forall_eq_or_imp,forall_eq]
 exact⟨e,g,i,j,n,l,a,o,c,b⟩
def N4(K:l')(C:Addr):Prop:=∀f∈Nt,dP K C f
def Ad(e:autoParam (findIn K (.ref C) "name"=some none) dO)(g:autoParam (findIn K (.ref C) "kind"=some none) dO)(i:autoParam (findIn K (.ref C) "part"=some none) dO)(j:autoParam (findIn K (.ref C) "on"=some none) dO)(n:autoParam (findIn K (.ref C) "binds"=some none) dO)(l:autoParam (findIn K (.ref C) "module"=some none) dO)(a:autoParam (findIn K (.ref C) "parts"=some none) dO)(o:autoParam (findIn K (.ref C) "inputs"=some none) dO)(c:autoParam (findIn K (.ref C) "outputs"=some none) dO)(b:autoParam (findIn K (.ref C) "lines"=some none) dO):N4 K C:=by
 unfold N4
 simp only[Nt,Gc,Tt,or_false,forall_eq_or_imp,forall_eq]
 exact⟨e,g,i,j,n,l,a,o,c,b⟩
structure QL (K:l') (C:Addr) (m qual:Str) (st:Stmt):Prop where
 ex:∃f fd,xO K m qual st f fd/\Meth K C m f/\Binds K fd ["self","name"] []
def Ll(a:autoParam (findIn K (.ref C) m=some (some (.ref f))) dO)(l:autoParam (K.lookup f=some ⟨oc,od,.func (fnOf m qual (cJ st) (af st) (aB st) .none kV dc pm an cd ct),sl⟩) dO)
  (c:autoParam (codeIn K cd qual=true) dO)(k:autoParam (keepIn K (.ref f)=true) dO)(n:autoParam (isFn K (.ref f)=true) dO)(b:autoParam (xM m qual st ["self","name"]) f3):QL K C m qual st:=⟨⟨f,_,j_ (st:=st) l c k,⟨a,n,k⟩,(j_ (st:=st) l c k).binds b⟩⟩
def QL.dm(d:QL K C m qual st)(c:tY K C):Dm K C m qual st ["self","name"]:=let ⟨f,a,F,M,b⟩:=d.ex;⟨⟨f,a,F,M,c,b⟩⟩
end
def nj:BD "__init__" "Before.__init__" cq ["self","part","first"]:=λK T e v n a c _ _ _ _ _ _ s us X b=>match us,b with|[_,_,_],_=>Zz X rfl a c rfl rfl
def qm:BD "__init__" "Held.__init__" dY ["self","part","name","first"]:=λK T e v n a c _ _ _ _ _ _ s us X b=>match us,b with|[_,_,_,_],_=>Zz X rfl a c rfl rfl
def nk:D9 "__init__" "Input.__init__" dM ["self","name","kind","on"]:=λK T e v n a c _ _ _ _ _ _ s us X b=>match us,(show us.length=3 by simp only[TY,Tg,Tz] at b;omega) with|[_,_,_],_=>Zz X rfl a c rfl rfl
def rN:BD "__init__" "Row.__init__" eN ["self","name","kind","part","on"]:=λK T e v n a c _ _ _ _ _ _ s us X b=>match us,b with|[_,_,_,_,_],_=>Zz X rfl a c rfl rfl
/-- the law's promise over values -/
def zL(K:l'):Sp:=λvs H Q _=>∃(q:Addr) (a:List Int),vs=[.ref q]/\cW K H q (a.map V.int)/\a.length<=63/\∀b,Q (.bl true) b
def xr{K:l'}:∀a:List Int,bA K H (a.map V.int) (a.map D.int)
 |[]=>.nil
 |n::a=>.cons (.int n) (xr a)
section
variable {P:TV}{w:World}{K:l'}{mg:Str->Option Value}{base:Heap}{A:bC}{j k:Nat}{x:Str}{ps:List Str}
def HR(c:vY P w K mg base j x ps sx)(h:j<=k):vY P w K mg base k x ps sx:=⟨let ⟨f,a,F,r⟩:=c.ex;⟨f,a,F.mono h,r⟩,c.ms⟩
def BE(c:iL P w K mg base j x ps sd)(h:j<=k):iL P w K mg base k x ps sd:=⟨let ⟨f,l,F,r⟩:=c.ex;⟨f,l,⟨F.len,λA a s H b i e Q E g=>F.run A a s H b i e Q E (g.mono h)⟩,r⟩,c.ms⟩
def S9(F:cE P w K mg base (xJ P w) k f l ps i)(h:∀b H Q E,c b H Q E->i b H Q λ_ _ _=>False):cE P w K mg base nY k f l ps c:=by
 refine⟨λb H Q E q=>F.len _ _ _ _ (h _ _ _ _ q),λA a s H g v b Q E p t o n q=>codeAny_mono (F.run A a s H g v b Q _ p t o n (h _ _ _ _ q)) λr y z=>?_⟩
 cases r with
 |error e=>obtain⟨_,_,_,_,_,_,_,_,_,_,_,_,_,z⟩:=z;exact z
 |ok m =>
  cases m with
  |ret u=>exact z
  |next=>exact z
  |brk=>exact z
  |cont=>exact z
def yx(d:Df K mg "part_of" mQ ["told"])(f:bo P w K mg base 2 "many_within" ["told"] (wy Pt.ok λp=>.int p.inner.length))(e:bo P w K mg base 1 "has_shape" ["told"] (wy Pt.ok λp=>.bl (!p.r8)))
  (a:bo P w K mg base 15 "plain_by" ["told","inner"] (Ay A 10 true))(b:bo P w K mg base 15 "timed_by" ["told","inner"] (Ay A 10 false))
  (k:pM P w K mg base 13 "Pair" A.pair (λc Q=>∃(g:Str) (x y:Pt),c=[.str g,x.d A,y.d A]/\g∈lD/\(Pt.pair g x y).depth<=10/\qX (.pair g x y)/\Q [("sign",.str g),("one",x.d A),("other",y.d A)]) []) :
  ∀n,n<=10->bo P w K mg base (n+15) "part_of" ["told"] (Dp A n)
 | 0,_=>Df.never d fun c Q ⟨p,_,h,_⟩=>absurd p.gD (by omega)
 |n+1,h=>Dh (m:=n) (N:=10) (by omega) h d (f.up (by omega)) (e.up (by omega)) (yx d f e a b k n (by omega)) (by omega) (a.up (by omega)) (b.up (by omega)) k
end
def LK{K:l'}{m I t r B u z y J b1 b2 Y b4 b5 b6 b7 b8 b9 b10 b11 br l1 l2 T sa sb:Addr}(X:K.In h)(G:h.Ns TZ mg)
  (j0:nsIn K TZ "Given"=some (some (.ref m)))
  (j1:nsIn K TZ "Named"=some (some (.ref I)))
  (j2:nsIn K TZ "Turned"=some (some (.ref t)))
  (j3:nsIn K TZ "Pair"=some (some (.ref r)))
  (j4:nsIn K TZ "Choice"=some (some (.ref B)))
  (j5:nsIn K TZ "Before"=some (some (.ref u)))
  (j6:nsIn K TZ "Led"=some (some (.ref z)))
  (j7:nsIn K TZ "When"=some (some (.ref y)))
  (j8:nsIn K TZ "Held"=some (some (.ref J)))
  (j9:nsIn K TZ "Input"=some (some (.ref l1)))
  (ja:nsIn K TZ "Row"=some (some (.ref l2)))
  (jb:nsIn K TZ "Sheet"=some (some (.ref T)))
  (jc:nsIn K TZ "NoKind"=some (some (.ref b1)))
  (jd:nsIn K TZ "NoBeat"=some (some (.ref b2)))
  (je:nsIn K TZ "Ring"=some (some (.ref Y)))
  (jf:nsIn K TZ "NoSheet"=some (some (.ref b4)))
  (jg:nsIn K TZ "NoName"=some (some (.ref b5)))
  (jh:nsIn K TZ "NoPart"=some (some (.ref b6)))
  (ji:nsIn K TZ "NoInput"=some (some (.ref b7)))
  (jj:nsIn K TZ "NoState"=some (some (.ref b8)))
  (jk:nsIn K TZ "NoClaim"=some (some (.ref b9)))
  (jl:nsIn K TZ "TooMany"=some (some (.ref b10)))
  (jm:nsIn K TZ "NoText"=some (some (.ref b11)))
  (jn:nsIn K TZ "RowError"=some (some (.ref br)))
  (jo:[m,I,t,r,B,u,z,y,J].Nodup)
  (jp:l1≠l2)
  (jq:gI K m)
  (jr:EH K m)
  (js:cg K m "inner" "Part.inner" cV)
  (jt:cg K m "size" "Part.size" bP)
  (ju:cg K m "depth" "Part.depth" bD)
  (jv:cg K m "need_bounds" "Part.need_bounds" aX)
  (jw:cg K m "names" "Part.names" bE)
  (jx:cg K m "own_names" "Part.own_names" aN)
  (jy:cg K m "needs" "Part.needs" bX)
  (jz:Di K mg "Given" m "Given.__init__" fB ["self","value"] [])
  (j10:gI K I)
  (j11:EH K I)
  (j12:cg K I "inner" "Part.inner" cV)
  (j13:cg K I "size" "Part.size" bP)
  (j14:cg K I "depth" "Part.depth" bD)
  (j15:cg K I "need_bounds" "Part.need_bounds" aX)
  (j16:cg K I "names" "Part.names" bE)
  (j17:cg K I "own_names" "Named.own_names" cu)
  (j18:cg K I "needs" "Part.needs" bX)
  (j19:Di K mg "Named" I "Named.__init__" fD ["self","name"] [])
  (j1a:gI K t)
  (j1b:EH K t)
  (j1c:cg K t "inner" "Turned.inner" eQ)
  (j1d:cg K t "size" "Part.size" bP)
  (j1e:cg K t "depth" "Part.depth" bD)
  (j1f:cg K t "need_bounds" "Part.need_bounds" aX)
  (j1g:cg K t "names" "Part.names" bE)
  (j1h:cg K t "own_names" "Part.own_names" aN)
  (j1i:cg K t "needs" "Part.needs" bX)
  (j1j:Di K mg "Turned" t "Turned.__init__" eP ["self","part"] [])
  (j1k:gI K r)
  (j1l:EH K r)
  (j1m:cg K r "inner" "Pair.inner" f_)
  (j1n:cg K r "size" "Part.size" bP)
  (j1o:cg K r "depth" "Part.depth" bD)
  (j1p:cg K r "need_bounds" "Part.need_bounds" aX)
  (j1q:cg K r "names" "Part.names" bE)
  (j1r:cg K r "own_names" "Part.own_names" aN)
  (j1s:cg K r "needs" "Part.needs" bX)
  (j1t:Di K mg "Pair" r "Pair.__init__" fV ["self","sign","one","other"] [])
  (j1u:gI K B)
  (j1v:EH K B)
  (j1w:cg K B "inner" "Choice.inner" eJ)
  (j1x:cg K B "size" "Part.size" bP)
  (j1y:cg K B "depth" "Part.depth" bD)
  (j1z:cg K B "need_bounds" "Part.need_bounds" aX)
  (j20:cg K B "names" "Part.names" bE)
  (j21:cg K B "own_names" "Part.own_names" aN)
  (j22:cg K B "needs" "Part.needs" bX)
  (j23:Di K mg "Choice" B "Choice.__init__" eI ["self","truth","one","other"] [])
  (j24:gI K u)
  (j25:EH K u)
  (j26:cg K u "inner" "Before.inner" eF)
  (j27:cg K u "size" "Part.size" bP)
  (j28:cg K u "depth" "Part.depth" bD)
  (j29:cg K u "need_bounds" "Part.need_bounds" aX)
  (j2a:cg K u "names" "Part.names" bE)
  (j2b:cg K u "own_names" "Part.own_names" aN)
  (j2c:cg K u "needs" "Before.needs" eG)
  (j2d:Di K mg "Before" u "Before.__init__" cq ["self","part","first"] [])
  (j2e:gI K z)
  (j2f:EH K z)
  (j2g:cg K z "inner" "Led.inner" iD)
  (j2h:cg K z "size" "Part.size" bP)
  (j2i:cg K z "depth" "Part.depth" bD)
  (j2j:cg K z "need_bounds" "Part.need_bounds" aX)
  (j2k:cg K z "names" "Part.names" bE)
  (j2l:cg K z "own_names" "Part.own_names" aN)
  (j2m:cg K z "needs" "Part.needs" bX)
  (j2n:Di K mg "Led" z "Led.__init__" gZ ["self","head","rest"] [])
  (j2o:gI K y)
  (j2p:EH K y)
  (j2q:cg K y "inner" "When.inner" gA)
  (j2r:cg K y "size" "Part.size" bP)
  (j2s:cg K y "depth" "Part.depth" bD)
  (j2t:cg K y "need_bounds" "Part.need_bounds" aX)
  (j2u:cg K y "names" "Part.names" bE)
  (j2v:cg K y "own_names" "When.own_names" dN)
  (j2w:cg K y "needs" "Part.needs" bX)
  (j2x:Di K mg "When" y "When.__init__" fb ["self","part","name"] [])
  (j2y:gI K J)
  (j2z:EH K J)
  (j30:cg K J "inner" "Held.inner" f9)
  (j31:cg K J "size" "Part.size" bP)
  (j32:cg K J "depth" "Part.depth" bD)
  (j33:cg K J "need_bounds" "Part.need_bounds" aX)
  (j34:cg K J "names" "Part.names" bE)
  (j35:cg K J "own_names" "Held.own_names" dJ)
  (j36:cg K J "needs" "Part.needs" bX)
  (j37:Di K mg "Held" J "Held.__init__" dY ["self","part","name","first"] [])
  (j38:gI K l1)
  (j39:N4 K l1)
  (j3a:cg K l1 "own_names" "Input.own_names" eL)
  (j3b:cg K l1 "own_parts" "Input.own_parts" eM)
  (j3c:cg K l1 "is_truths" "Input.is_truths" eK)
  (j3d:Di K mg "Input" l1 "Input.__init__" dM ["self","name","kind","on"] [.ae])
  (j3e:gI K l2)
  (j3f:N4 K l2)
  (j3g:cg K l2 "own_names" "Row.own_names" fY)
  (j3h:cg K l2 "own_parts" "Row.own_parts" fZ)
  (j3i:cg K l2 "is_truths" "Row.is_truths" fX)
  (j3j:Di K mg "Row" l2 "Row.__init__" eN ["self","name","kind","part","on"] [])
  (j3k:gI K T)
  (j3l:N4 K T)
  (j3m:cg K T "all_lines" "Sheet.all_lines" eO)
  (j3n:cg K T "names" "Sheet.names" iV)
  (j3o:cg K T "lines_by_name" "Sheet.lines_by_name" ck)
  (j3p:QL K T "line" "Sheet.line" kP)
  (j3q:Di K mg "Sheet" T "Sheet.__init__" fE ["self","name","inputs","outputs","lines"] [])
  (j3r:kitOne K (.ref l2) (.ref l2)=some true)
  (j3s:nh K Y)
  (j3t:HW K Y [(b1,false),(b2,false),(Y,true),(b4,false),(b5,false),(b6,false),(b7,false),(b8,false),(b9,false),(b10,false),(b11,false)])
  (j3u:kitOne K (.ref Y) (.type "ValueError")=some true)
  (j3v:kitOne K (.ref Y) (.ref br)=some true)
  (j3w:Y≠br)
  (j3x:mroIn K br (.type "BaseException")=some true)
  (j3y:mroIn K Y (.type "BaseException")=some true)
  (j3z:typeIn K (.ref Y)=some (.type "type"))
  (j40:DE K mg "Ring" Y "Ring.__init__" fW ["self","ring"])
  (j41:HU K Y "ring")
  (j42:Df K mg "has_letters" iW ["text"])
  (j43:Df K mg "has_word_form" fc ["text"])
  (j44:Df K mg "is_word" qA ["thing"])
  (j45:Df K mg "is_name" p_ ["thing"])
  (j46:Df K mg "is_number" lq ["thing"])
  (j47:Df K mg "is_value" nQ ["thing"])
  (j48:Df K mg "need_name" lu ["name"])
  (j49:Df K mg "need_first" kb ["first"])
  (j4a:Df K mg "has_shape" lj ["told"])
  (j4b:Df K mg "many_within" iX ["told"])
  (j4c:Df K mg "plain_by" nV ["told","inner"])
  (j4d:Df K mg "timed_by" nW ["told","inner"])
  (j4e:Df K mg "part_of" mQ ["told"])
  (j4f:Df K mg "once" Ax ["lists"])
  (j4g:Df K mg "need_sheet" kh ["holds","words"])
  (j4h:Df K mg "need_word" l0 ["word"])
  (j4i:Df K mg "need_on" qB ["on"])
  (j4j:Df K mg "is_plain_kind" ff ["kind"])
  (j4k:Df K mg "is_stretch" wq ["kind"])
  (j4l:Df K mg "need_counts" iY ["sheet"])
  (j4m:Df K mg "need_once" lx ["names","words"])
  (j4n:Df K mg "names_looked_at" eV ["line"])
  (j4o:Df K mg "need_known" kg ["sheet","found"])
  (j4p:Df K mg "need_ons" nR ["sheet","found"])
  (j4q:Df K mg "need_rows" lz ["sheet"])
  (j4r:Df K mg "needs_of" nS ["sheet"])
  (j4s:Df K mg "line_needs" ka ["line"])
  (j4t:Df K mg "are_all_in" kZ ["names","others"])
  (j4u:Df K mg "is_order" nP ["sheet","names"])
  (j4v:Df K mg "order" wt ["sheet"])
  (j4w:Df K mg "ring_of" qC ["needs","left"])
  (j4x:Df K mg "ring_told" l4 ["sheet","names"])
  (j4y:Df K mg "place_needed" gf ["line","need"])
  (j4z:Df K mg "place_in" nU ["part","need"])
  (j50:Df K mg "_law_cell" lg ["_law_script","_law_k"])
  (j51:Df K mg "_law_mixed" kW ["_law_cell_here","_law_k"])
  (j52:Df K mg "_law_names" kY ["_law_cell_here"])
  (j53:Df K mg "_law_inner" kQ ["_law_told"])
  (j54:Df K mg "_law_spots" gB ["_law_told","_law_name","_law_place"])
  (j55:Df K mg "_law_link" lh ["_law_ons","_law_lines","_law_pair","_law_need"])
  (j56:Df K mg "_law_is_ring" gb ["_law_ring","_law_ons","_law_lines"])
  (j57:Df K mg "_law_marks" kU ["_law_e"])
  (j58:Df K mg "_law_wrapped" gc ["_law_name","_law_cell_here","_law_other"])
  (j59:Df K mg "_law_ring_lines" eT ["_law_names_here","_law_size","_law_cell_here","_law_script"])
  (j5a:Df K mg "_law_ring_right" eU ["_law_sheet","_law_ring","_law_ons","_law_lines"])
  (j5b:GI mg "LONGEST_WORD" 8)
  (j5c:GI mg "MOST_WORDS" 4)
  (j5d:GI mg "LOWEST" (-128))
  (j5e:GI mg "HIGHEST" 127)
  (j5f:GI mg "DEEPEST" 10)
  (j5g:GI mg "LARGEST" 40)
  (j5h:GI mg "MOST_INPUTS" 8)
  (j5i:GI mg "MOST_OUTPUTS" 8)
  (j5j:GI mg "MOST_LINES" 80)
  (j5k:GD K mg "LETTERS" (.str wJ))
  (j5l:GD K mg "KEPT_WORDS" (.tup (uo.map D.str)))
  (j5m:HV w K mg "SHAPES" sa pB)
  (j5n:HV w K mg "SIGNS" sb w6)
  (j5o:nsIn K TZ "isinstance"=some none)
  (j5p:nsIn K TZ "bool"=some none)
  (j5q:nsIn K TZ "int"=some none)
  (j5r:nsIn K TZ "len"=some none)
  (j5s:nsIn K TZ "all"=some none)
  (j5t:nsIn K TZ "sum"=some none)
  (j5u:nsIn K TZ "max"=some none)
  (j5v:nsIn K TZ "range"=some none)
  (j5w:nsIn K TZ "tuple"=some none)
  (j5x:nsIn K TZ "list"=some none)
  (j5y:nsIn K TZ "set"=some none)
  (j5z:nsIn K TZ "enumerate"=some none)
  (j60:nsIn K TZ "sorted"=some none)
  (j61:nsIn K TZ "zip"=some none)
  (j62:nsIn K TZ "ValueError"=some none)
  (P:TV)(base:Heap)(f:Addr)(fd:UE)(F:xO K "law" "law" lr f fd):cE P w K mg base nY 26 f fd ["_law_script"] (zL K):=by
 have c1:=jq.cl
 have c2:=j10.cl
 have c3:=j1a.cl
 have c4:=j1k.cl
 have c5:=j1u.cl
 have c6:=j24.cl
 have c7:=j2e.cl
 have c8:=j2o.cl
 have c9:=j2y.cl
 have y0:=Ux X G j5o
 have y1:=Ux X G j5p
 have y2:=Ux X G j5q
 have y3:=Ux X G j5r
 have y4:=Ux X G j5s
 have y5:=Ux X G j5t
 have y6:=Ux X G j5u
 have y7:=Ux X G j5v
 have y8:=Ux X G j5w
 have y9:=Ux X G j5x
 have ya:=Ux X G j5y
 have yb:=Ux X G j5z
 have yc:=Ux X G j60
 have yd:=Ux X G j61
 have ye:=Ux X G j62
 have O:hV K (bC.mk m I t r B u z y J):=⟨jo,?_,?_⟩
 rotate_left
 ·simp only[Gc,Tt,or_false,forall_eq_or_imp,forall_eq]
  exact⟨c1,c2,c3,c4,c5,c6,c7,c8,c9⟩
 ·intro C l f W
  simp only[Gc,Tt,or_false] at l
  rcases l with rfl|rfl|rfl|rfl|rfl|rfl|rfl|rfl|rfl
  ·exact jr f W
  ·exact j11 f W
  ·exact j1b f W
  ·exact j1l f W
  ·exact j1v f W
  ·exact j25 f W
  ·exact j2f f W
  ·exact j2p f W
  ·exact j2z f W
 have U:vf K (LA.mk l1 l2 T):=⟨jp,?_,?_⟩
 rotate_left
 ·simp only[Gc,Tt,or_false,forall_eq_or_imp,forall_eq]
  exact⟨j38.cl,j3e.cl,j3k.cl⟩
 ·intro C l f W
  simp only[Gc,Tt,or_false] at l
  rcases l with rfl|rfl|rfl
  ·exact j39 f W
  ·exact j3f f W
  ·exact j3l f W
 have hR:SI K (LA.mk l1 l2 T):=⟨j3e,j3r⟩
 have g:pK K (bC.mk m I t r B u z y J):=⟨js.dm c1,j12.dm c2,j1c.dm c3,j1m.dm c4,j1w.dm c5,j26.dm c6,j2g.dm c7,j2q.dm c8,j30.dm c9⟩
 have S:HS K (bC.mk m I t r B u z y J):=⟨jx.dm c1,j17.dm c2,j1h.dm c3,j1r.dm c4,j21.dm c5,j2b.dm c6,j2l.dm c7,j2v.dm c8,j35.dm c9⟩
 have L:vZ K (LA.mk l1 l2 T):=⟨j3a.dm j38.cl,j3g.dm j3e.cl,j3b.dm j38.cl,j3h.dm j3e.cl,j3c.dm j38.cl,j3i.dm j3e.cl⟩
 have D_size:∀C,xK (bC.mk m I t r B u z y J) C->Dm K C "size" "Part.size" bP ["self"]:=fun C ⟨p,e⟩=>by
  subst e
  cases p
  ·exact jt.dm c1
  ·exact j13.dm c2
  ·exact j1d.dm c3
  ·exact j1n.dm c4
  ·exact j1x.dm c5
  ·exact j27.dm c6
  ·exact j2h.dm c7
  ·exact j2r.dm c8
  ·exact j31.dm c9
 have D_depth:∀C,xK (bC.mk m I t r B u z y J) C->Dm K C "depth" "Part.depth" bD ["self"]:=fun C ⟨p,e⟩=>by
  subst e
  cases p
  ·exact ju.dm c1
  ·exact j14.dm c2
  ·exact j1e.dm c3
  ·exact j1o.dm c4
  ·exact j1y.dm c5
  ·exact j28.dm c6
  ·exact j2i.dm c7
  ·exact j2s.dm c8
  ·exact j32.dm c9
 have M:∀C,xK (bC.mk m I t r B u z y J) C->Dm K C "need_bounds" "Part.need_bounds" aX ["self"]:=fun C ⟨p,e⟩=>by
  subst e
  cases p
  ·exact jv.dm c1
  ·exact j15.dm c2
  ·exact j1f.dm c3
  ·exact j1p.dm c4
  ·exact j1z.dm c5
  ·exact j29.dm c6
  ·exact j2j.dm c7
  ·exact j2t.dm c8
  ·exact j33.dm c9
 have D_names:∀C,xK (bC.mk m I t r B u z y J) C->Dm K C "names" "Part.names" bE ["self"]:=fun C ⟨p,e⟩=>by
  subst e
  cases p
  ·exact jw.dm c1
  ·exact j16.dm c2
  ·exact j1g.dm c3
  ·exact j1q.dm c4
  ·exact j20.dm c5
  ·exact j2a.dm c6
  ·exact j2k.dm c7
  ·exact j2u.dm c8
  ·exact j34.dm c9
 have Z:EA K (bC.mk m I t r B u z y J):=⟨fun C ⟨p,e⟩ hne=>by
  subst e
  cases p
  ·exact jy.dm c1
  ·exact j18.dm c2
  ·exact j1i.dm c3
  ·exact j1s.dm c4
  ·exact j22.dm c5
  ·exact absurd rfl hne
  ·exact j2m.dm c7
  ·exact j2w.dm c8
  ·exact j36.dm c9
  ,j2c.dm c6⟩
 have k11:Ny K mg Y:=⟨⟨b1,b2,b4,b5,b6,b7,b8,b9,b10,b11,mg_of X G jc,mg_of X G jd,mg_of X G je,mg_of X G jf,mg_of X G jg,mg_of X G jh,mg_of X G ji,mg_of X G jj,mg_of X G jk,mg_of X G jl,mg_of X G jm,⟨j3s,IX (cs:=[b1,b2,Y,b4,b5,b6,b7,b8,b9,b10,b11]) (bs:=GX) j3t,j3u⟩⟩⟩
 have s1:=lH (P:=P) (w:=w) (base:=base) (j:=0) j46 y0 y1 y2 j5d j5e
 have s2:=gK j47 y0 y1 s1
 have s3:=d6 j49 s2
 have w1:=iO (P:=P) (w:=w) (base:=base) (j:=0) j42 y3 y4 j5k
 have w2:=cX j43 y3 j5b w1
 have w3:=ic j44 j5l w2
 have w4:=pO j45 y3 y4 j5c w3 (w2.up (by omega))
 have w5:=bM j48 w4
 have mSize:=Gr (P:=P) (w:=w) (base:=base) O g D_size y5 10
 have mDepth:=Cu (P:=P) (w:=w) (base:=base) O g D_depth y6 10
 have b:=Cg M mDepth mSize j5f j5g
 have k1:=AB (j:=12) (A:=(bC.mk m I t r B u z y J)) c1 (O.ia m (by simp) "value" (by decide)) jz (s2.up (by omega))
 have k2:=AE (j:=12) O j19 (w5.up (by omega))
 have k3:=yH (j:=12) O j1j b
 have k4:=DB (j:=12) O j1t j5n b
 have k5:=yG (j:=12) O j23 b
 have k6:=yF (j:=12) O j2d (s3.up (by omega)) b
 have k7:=FF (j:=12) O j2n b
 have k8:=DD (j:=12) O j2x (w5.up (by omega)) b
 have k9:=DA (j:=12) O j37 (w5.up (by omega)) (s3.up (by omega)) b
 have p1:=fM (P:=P) (base:=base) (j:=0) j4a y3 j5m
 have p0:=iP j4b j5m p1
 have p2:=nF (n:=10) (j:=14) j4c (by omega) k1 k2 k3 k5
 have p3:=nG (n:=10) (j:=14) j4d (by omega) k6 k7 k8 k9
 have p4:=yx j4e p0 p1 p2 p3 k4 4 (by omega)
 have nm1:=LO (P:=P) (w:=w) (base:=base) (j:=0) j4f
 have nm2:=uy O g S nm1 D_names 4
 have Nv:=u0 O g S nm1 Z 4
 have ll1:=De (P:=P) (w:=w) (mg:=mg) (base:=base) (A:=(bC.mk m I t r B u z y J)) (j:=0) U L y9
 have ll1':∀C,isL (LA.mk l1 l2 T) C->bw P w K mg base 1 C "own_names" (Gg (bC.mk m I t r B u z y J) (LA.mk l1 l2 T) (λx=>.lst (x.own.map D.str)) C) []:=λC l=>(ll1 C l).d7 Ow fun ds Q ⟨x,e,c,o,q⟩=>⟨x,e,c,o,λa=>by dsimp only;rw[fk];exact q⟩
 have ll2:=yy (P:=P) (w:=w) (mg:=mg) (base:=base) (A:=(bC.mk m I t r B u z y J)) (j:=4) U L
 have ll3:=xE (P:=P) (w:=w) (mg:=mg) (base:=base) (A:=(bC.mk m I t r B u z y J)) (j:=0) U L
 have sh1:=Cd (P:=P) (w:=w) (mg:=mg) (base:=base) (A:=(bC.mk m I t r B u z y J)) (j:=0) U (j3m.dm j3k.cl)
 have sh2:=yg (j3n.dm j3k.cl) sh1 ll1
 have sh3:=Hd (j3o.dm j3k.cl) sh1 ll1'
 have sh2':∀C,AI (LA.mk l1 l2 T) C->bw P w K mg base 2 C "names" (pA (bC.mk m I t r B u z y J) (LA.mk l1 l2 T) (λ_=>True) (λs=>.lst (s.names.map D.str)) C) []:=λC l=>(sh2 C l).d7 MO fun ds Q ⟨s,e,c,o,_,q⟩=>⟨s,e,c,o,λa=>by dsimp only;rw[fk];exact q⟩
 have u1:=ah (P:=P) (w:=w) (base:=base) (j:=0) j4g
 have u2:=lJ j4h w3
 have u3:=ie j4i w5
 have u4:=cY (P:=P) (w:=w) (base:=base) (j:=0) j4j
 have u5:bo P w K mg base 7 "is_stretch" ["kind"] Po:=Df.never j4k λds Q h=>h
 have u6:=iQ (A:=(bC.mk m I t r B u z y J)) U j4l y3 j5h j5i j5j u1
 have u7:=hZ j4m y3 ya u1
 have u8:=EV U j4n ll2 nm2
 have u9:=jT (j:=6) U j4o y9 (λC l=>(sh1 C l).up (by omega)) u8 (u1.up (by omega))
 have u10:=nD U j4p sh1 ll3 u1
 have f1:=IU (j:=7) U j3d (w5.up (by omega)) (u3.up (by omega)) (u1.up (by omega)) (u4.up (by omega)) u5
 have f2:=Oi (j:=7) U j3j (w5.up (by omega)) (u3.up (by omega)) (u1.up (by omega)) (u4.up (by omega))
 have f5:=IV (j:=7) U j3q y8 (u2.up (by omega)) (u6.up (by omega)) (u7.up (by omega)) (λC l=>(sh2' C l).up (by omega)) (λC l=>(sh3 C l).up (by omega)) u9 (u10.up (by omega))
 have q1:=lI (A:=(bC.mk m I t r B u z y J)) U hR j4q y0 (mg_of X G ja) u1
 have q2:=jS U j4s ll2 Nv
 have q3:=gL (j:=6) U j4r (q1.up (by omega)) (λC l=>(sh1 C l).up (by omega)) q2
 have q4:=d5 (P:=P) (w:=w) (base:=base) (j:=0) j4t y4
 have q5:=jR j4u y3 q3 (q4.up (by omega))
 have r1:=IW (P:=P) (w:=w) (base:=base) (k:=0) j40 j41
 have mOwn:=wV (P:=P) (w:=w) (mg:=mg) (base:=base) (j:=0) O S 4
 have mInner:=iu (P:=P) (w:=w) (mg:=mg) (base:=base) (j:=0) O g 4
 have nm3':MQ P w K mg base (bC.mk m I t r B u z y J) 5 "needs" 4 okN λp=>bQ p.aJ:=λC l=>(Nv C l).d7 RC fun ds Q ⟨p,e,c,h,o,q⟩=>⟨p,e,c,h,o,λa=>by dsimp only;rw[fk];exact q⟩
 have j3r:=nE (j:=6) j4z (λC l=>(mOwn C l).up (by omega)) (λC l=>(mInner C l).up (by omega)) (λC l=>(nm3' C l).up (by omega))
 have r3:=gM (j:=7) j4y (λC l=>(ll2 C l).up (by omega)) (λC l=>(nm3' C l).up (by omega)) j3r
 have r4:=AO (j3p.dm j3k.cl) sh3
 have r5:=lK (j:=8) j4x yd y8 r3 (λC l=>(r4 C l).up (by omega))
 have r6:=pP (P:=P) (w:=w) (base:=base) (j:=0) j4w
 have r7:=rR (i:=1) (j:=9) (by omega) j4v y3 y9 r1 j3y j3z (q3.up (by omega)) (q4.up (by omega)) (r6.up (by omega)) r5
 have t1:=λj=>He (P:=P) (w:=w) (base:=base) (j:=j) j51
 have t2:=LN (P:=P) (w:=w) (base:=base) (j:=0) j50 y3
 have t3:=Hf (P:=P) (w:=w) (base:=base) (j:=0) j52 y7
 have t4:=λj=>Ea (P:=P) (w:=w) (base:=base) (j:=j) j53 y9
 have t5:=vR j54 yb t4 4
 have t6:=Hl j55 y0 y8 y2 y1 t5
 have t7:=zo j56 y0 y8 y3 y4 y7 t6
 have t8:=Eb (P:=P) (w:=w) (base:=base) (j:=0) j57 y0 ye k11
 have t9:=Cj (j:=1) j58 y7 (t1 0)
 have ta:=vp (j:=2) j59 yb (t1 1) (t2.up (by omega)) t9
 have tb:=Ec (j:=10) j5a yc (mg_of X G jn) (LP j3v j3w) j3x j41 r7 (BE t8 (by omega)) (BE t7 (by omega))
 have R:=Mg (j:=25) (N:=4) (i:=8) (by omega) (by omega) F y3 (t1 24) (t2.up (by omega)) (t3.up (by omega)) (ta.up (by omega)) (p4.up (by omega)) f1 f2 f5 (HR tb (by omega)) (q5.up (by omega))
 exact S9 R fun vs H Q E ⟨q,ns,e,hS,hl,k⟩=>⟨[.lst (ns.map D.int)],e ▸ .cons (.lst hS (xr ns)) .nil,ns,rfl,λv H' dv=>by cases dv;exact k H'⟩
def all_mk{l:WV}{K:l'}(X:K.In h)(G:h.Ns TZ n)(r:n "law"=some (.ref y))
  
  (C:nsIn K TZ "law"=some (some (.ref x)))(B:K.lookup x=some ⟨u,p,.func (fnOf "law" "law" (cJ lr) (af lr) (aB lr) .none i g o j b c),t⟩)(A:codeIn K b "law"=true)(z:keepIn K (.ref x)=true)
  (R:∀(P:TV) (a:Heap) (f:Addr) (m:UE),xO K "law" "law" lr f m->cE P w K n a nY 26 f m ["_law_script"] (zL K))
  : ∃m:UE,(∀(s:Shared) (v:Value),BindsTo s m ⟨[v],[]⟩ [("_law_script",v)])/\∀a:Heap,K.In a->a.Ns TZ n->cE l.prog w K n a nY 26 y m ["_law_script"] (zL K):=by
 have e:=r.symm.trans (mg_of X G C)
 cases e
 exact⟨fnOf "law" "law" (cJ lr) (af lr) (aB lr) .none i g o j b c,λs v=>.of_eq rfl,λa _ _=>R _ a _ _ (j_ (st:=lr) B A z)⟩
def walk{l:WV}{K:Params->l'}(v:l.most=some 63)(g:d.params.defaults=[])
  (t:∀(w:World) (h:Heap),j w h->(K w.params).In h)
  (F:∀(w:World) (e:Str->Option Value) (i:Addr) (h:Heap),(K w.params).In h->h.Ns TZ e->e d.name=some (.ref i) ->
   ∃m:UE,(∀(s:Shared) (u:Value),BindsTo s m ⟨[u],[]⟩ [("_law_script",u)])/\∀b:Heap,(K w.params).In b->b.Ns TZ e->cE l.prog w (K w.params) e b nY 26 i m ["_law_script"] (zL (K w.params))) :
  ZK q c y j l.row.toRowW d [] (λf o=>Yk f o) :=
 L2.KA (n:=63) (k:=26) (x:="_law_script") (CX:=λ_=>nY) (sp:=λw=>zL (K w.params)) v (by decide) g ⟨rfl,by decide,by decide⟩ t F (λ_ _ a p r _ A=>⟨a,p,rfl,A,r,λ_=>rfl⟩) λ_ _ _ _ _ z=>z
end K44
open PySem PySem.W PyProof.Rows
set_option maxRecDepth 100000 in
set_option maxHeartbeats 0 in
theorem PySem.Challenge.cw_runrows_k44_rings_holds : PySem.Challenge.rw_runrows_k44_rings.Holds := by
 refine HK.hd ?_
 k_fill
 refine K44.walk (l:=Zt) rfl rfl (λw h Y=>HK.fIn_of Y) ?F
 case F =>
  intro w mg fa h KX G hmg
  refine' K44.all_mk KX G hmg _ _ _ _ (K44.LK KX G _ _ _ _ _ _ _ _ _ _ _ _ _ _ _ _ _ _ _ _ _ _ _ _ _ _ _ _ _ _ _ _ _ _ _ _ _ _ _ _ _ _ _ _ _ _ _ _ _ _ _ _ _ _ _ _ _ _ _ _ _ _ _ _ _ _ _ _ _ _ _ _ _ _ _ _ _ _ _ _ _ _ _ _ _ _ _ _ _ _ _ _ _ _ _ _ _ _ _ _ _ _ _ _ _ _ _ _ _ _ _ _ _ _ _ _ _ _ _ _ _ _ _ _ _ _ _ _ _ _ _ _ _ _ _ _ _ _ _ _ _ _ _ _ _ _ _ _ _ _ _ _ _ _ _ _ _ _ _ _ _ _ _ _ _ _ _ _ _ _ _ _ _ _ _ _ _ _ _ _ _ _ _ _ _ _ _ _ _ _ _ _ _ _ _ _ _ _ _ _ _ _ _ _ _ _ _ _ _ _ _ _ _ _ _ _ _ _ _)
  rotate_left 10
  iterate 4 k_is
  rotate_left 26
  iterate 24 k_is
  iterate 2 decide
  iterate 5 (exact K44.fU;exact K44.kI;(iterate 7 exact K44.aT);exact K44.qQ KX G)
  exact K44.fU
  exact K44.kI
  iterate 7 exact K44.aT
  exact K44.zv KX G K44.nj
  iterate 2 (exact K44.fU;exact K44.kI;(iterate 7 exact K44.aT);exact K44.qQ KX G)
  exact K44.fU
  exact K44.kI
  iterate 7 exact K44.aT
  exact K44.zv KX G K44.qm
  exact K44.fU
  exact K44.Ad
  iterate 3 exact K44.aT
  exact K44.Lj KX G K44.nk
  exact K44.fU
  exact K44.Ad
  iterate 3 exact K44.aT
  exact K44.zv KX G K44.rN
  exact K44.fU
  exact K44.Ad
  iterate 3 exact K44.aT
  exact K44.Ll
  exact K44.qQ KX G
  kit_is
  exact K44.Lp
  exact K44.eC (K44.eC (K44.eC (K44.eC (K44.eC (K44.eC (K44.eC (K44.eC (K44.eC (K44.eC (K44.eC (K44.MI)))))))))))
  iterate 2 kit_is
  decide
  iterate 3 k_is
  exact K44.ON KX G
  exact K44.Ly
  iterate 45 exact K44.bH KX G
  iterate 9 exact K44.oP KX G (by k_is)
  exact K44.OW KX G (by k_is)
  refine' K44.OX KX G ?e (K44.dD (K44.uo.map L2.V.str) ?l ?z ?v (K44.C0 K44.uo));(case e=>k_is);(case l=>k_is);(case z=>exact Ts rfl);(case v=>exact(.cons ⟨_,rfl⟩ (.cons ⟨_,rfl⟩ (.cons ⟨_,rfl⟩ (.cons ⟨_,rfl⟩ (.cons ⟨_,rfl⟩ (.cons ⟨_,rfl⟩ (.cons ⟨_,rfl⟩ (.cons ⟨_,rfl⟩ (.cons ⟨_,rfl⟩ (.cons ⟨_,rfl⟩ (.cons ⟨_,rfl⟩ (.cons ⟨_,rfl⟩ (.cons ⟨_,rfl⟩ (.cons ⟨_,rfl⟩ (.cons ⟨_,rfl⟩ (.cons ⟨_,rfl⟩ (.cons ⟨_,rfl⟩ (.cons ⟨_,rfl⟩ (.cons ⟨_,rfl⟩ (.nil)))))))))))))))))))))
  refine' K44.Ke KX G ?e ?l ?k ?h ?s ?t;(case e=>k_is);(case l=>k_is);(case k=>k_keys);(case h=>exact(K44.b_ rfl rfl (K44.b_ rfl rfl (K44.b_ rfl rfl (K44.b_ rfl rfl (K44.b_ rfl rfl (K44.b_ rfl rfl (K44.b_ rfl rfl (K44.b_ rfl rfl (.nil))))))))));(case s=>exact rfl);(case t=>refine' (.cons ?q0 (.cons ?q1 (.cons ?q2 (.cons ?q3 (.cons ?q4 (.cons ?q5 (.cons ?q6 (.cons ?q7 (.nil)))))))));(case q0=>refine' K44.dD [(.int 2),(.int 0)] ?l ?z ?v ?d;(case l=>k_is);(case z=>exact Ts rfl);(case v=>exact .cons ⟨_,rfl⟩ (.cons ⟨_,rfl⟩ .nil));(case d=>exact λ_=>.cons (.int _) (.cons (.int _) .nil)));(case q1=>refine' K44.dD [(.int 2),(.int 0)] ?l ?z ?v ?d;(case l=>k_is);(case z=>exact Ts rfl);(case v=>exact .cons ⟨_,rfl⟩ (.cons ⟨_,rfl⟩ .nil));(case d=>exact λ_=>.cons (.int _) (.cons (.int _) .nil)));(case q2=>refine' K44.dD [(.int 2),(.int 1)] ?l ?z ?v ?d;(case l=>k_is);(case z=>exact Ts rfl);(case v=>exact .cons ⟨_,rfl⟩ (.cons ⟨_,rfl⟩ .nil));(case d=>exact λ_=>.cons (.int _) (.cons (.int _) .nil)));(case q3=>refine' K44.dD [(.int 4),(.int 3)] ?l ?z ?v ?d;(case l=>k_is);(case z=>exact Ts rfl);(case v=>exact .cons ⟨_,rfl⟩ (.cons ⟨_,rfl⟩ .nil));(case d=>exact λ_=>.cons (.int _) (.cons (.int _) .nil)));(case q4=>refine' K44.dD [(.int 3),(.int 1)] ?l ?z ?v ?d;(case l=>k_is);(case z=>exact Ts rfl);(case v=>exact .cons ⟨_,rfl⟩ (.cons ⟨_,rfl⟩ .nil));(case d=>exact λ_=>.cons (.int _) (.cons (.int _) .nil)));(case q5=>refine' K44.dD [(.int 3),(.int 2)] ?l ?z ?v ?d;(case l=>k_is);(case z=>exact Ts rfl);(case v=>exact .cons ⟨_,rfl⟩ (.cons ⟨_,rfl⟩ .nil));(case d=>exact λ_=>.cons (.int _) (.cons (.int _) .nil)));(case q6=>refine' K44.dD [(.int 3),(.int 1)] ?l ?z ?v ?d;(case l=>k_is);(case z=>exact Ts rfl);(case v=>exact .cons ⟨_,rfl⟩ (.cons ⟨_,rfl⟩ .nil));(case d=>exact λ_=>.cons (.int _) (.cons (.int _) .nil)));(case q7=>refine' K44.dD [(.int 4),(.int 1)] ?l ?z ?v ?d;(case l=>k_is);(case z=>exact Ts rfl);(case v=>exact .cons ⟨_,rfl⟩ (.cons ⟨_,rfl⟩ .nil));(case d=>exact λ_=>.cons (.int _) (.cons (.int _) .nil))))
  refine' K44.Ke KX G ?e ?l ?k ?h ?s ?t;(case e=>k_is);(case l=>k_is);(case k=>k_keys);(case h=>exact(K44.b_ rfl rfl (K44.b_ rfl rfl (K44.b_ rfl rfl (K44.b_ rfl rfl (K44.b_ rfl rfl (K44.b_ rfl rfl (K44.b_ rfl rfl (K44.b_ rfl rfl (.nil))))))))));(case s=>exact rfl);(case t=>refine' (.cons ?q0 (.cons ?q1 (.cons ?q2 (.cons ?q3 (.cons ?q4 (.cons ?q5 (.cons ?q6 (.cons ?q7 (.nil)))))))));(case q0=>refine' K44.dD [(.str "number"),(.str "number")] ?l ?z ?v ?d;(case l=>k_is);(case z=>exact Ts rfl);(case v=>exact .cons ⟨_,rfl⟩ (.cons ⟨_,rfl⟩ .nil));(case d=>exact λ_=>.cons (.str _) (.cons (.str _) .nil)));(case q1=>refine' K44.dD [(.str "number"),(.str "number")] ?l ?z ?v ?d;(case l=>k_is);(case z=>exact Ts rfl);(case v=>exact .cons ⟨_,rfl⟩ (.cons ⟨_,rfl⟩ .nil));(case d=>exact λ_=>.cons (.str _) (.cons (.str _) .nil)));(case q2=>refine' K44.dD [(.str "number"),(.str "number")] ?l ?z ?v ?d;(case l=>k_is);(case z=>exact Ts rfl);(case v=>exact .cons ⟨_,rfl⟩ (.cons ⟨_,rfl⟩ .nil));(case d=>exact λ_=>.cons (.str _) (.cons (.str _) .nil)));(case q3=>refine' K44.dD [.ae,(.str "truth")] ?l ?z ?v ?d;(case l=>k_is);(case z=>exact Ts rfl);(case v=>exact .cons rfl (.cons ⟨_,rfl⟩ .nil));(case d=>exact λ_=>.cons .ae (.cons (.str _) .nil)));(case q4=>refine' K44.dD [(.str "number"),(.str "truth")] ?l ?z ?v ?d;(case l=>k_is);(case z=>exact Ts rfl);(case v=>exact .cons ⟨_,rfl⟩ (.cons ⟨_,rfl⟩ .nil));(case d=>exact λ_=>.cons (.str _) (.cons (.str _) .nil)));(case q5=>refine' K44.dD [(.str "number"),(.str "truth")] ?l ?z ?v ?d;(case l=>k_is);(case z=>exact Ts rfl);(case v=>exact .cons ⟨_,rfl⟩ (.cons ⟨_,rfl⟩ .nil));(case d=>exact λ_=>.cons (.str _) (.cons (.str _) .nil)));(case q6=>refine' K44.dD [(.str "truth"),(.str "truth")] ?l ?z ?v ?d;(case l=>k_is);(case z=>exact Ts rfl);(case v=>exact .cons ⟨_,rfl⟩ (.cons ⟨_,rfl⟩ .nil));(case d=>exact λ_=>.cons (.str _) (.cons (.str _) .nil)));(case q7=>refine' K44.dD [(.str "truth"),(.str "truth")] ?l ?z ?v ?d;(case l=>k_is);(case z=>exact Ts rfl);(case v=>exact .cons ⟨_,rfl⟩ (.cons ⟨_,rfl⟩ .nil));(case d=>exact λ_=>.cons (.str _) (.cons (.str _) .nil))))
  iterate 15 k_is
#print axioms PySem.Challenge.cw_runrows_k44_rings_holds