import PyProof.Rows.All
import KE.KDictList
import KE.KIsAll
import KE.KSortTup
import KE.KUnpack
import KE.LcSums
import OpenK.KEqL
import KE.KItem
import Lean
import PySem.Challenge.RW_turnbase_k35_has_of_known_groups
open Array renaming length_toList → aG, getElem?_eq_getElem → aS, getElem?_toList → bz, getElem?_eq_some_iff → cF, getElem?_eq_none → cR, perm_iff_toList_perm → fk, toList_map → fP
open Bool renaming false_ne_true → aH, and_eq_true → bp, eq_false_iff → cw, false_eq_true → cX, false_and → dC, and_false → dP, eq_iff_iff → eF, or_eq_true → fW
open Int renaming toNat_natCast → aK, emod_nonneg → bh, toNat_of_nonneg → bB, natCast_mul → cm, natCast_emod → cE, emod_lt_of_pos → cH, natCast_add → cM, one_mul → cV, zero_add → dE
open List renaming length_map → aa, getElem?_eq_getElem → ac, getD_eq_getElem?_getD → ae, getElem?_map → af, length_append → ag, mem_cons_of_mem → ah, mem_cons_self → ao, mem_singleton → ar, mem_range → av, getElem?_eq_some_iff → aw, mem_of_getElem? → ax, mem_cons → ay, mem_map → az, length_range → aA, size_toArray → aB, length_cons → aC, getElem?_range → aD, mem_append → aI, map_cons → aJ, nodup_range → aN, map_append → aO, nodup_cons → aQ, getElem?_eq_none → aR, take_length → aT, mem_append_right → aU, length_take → aX, pairwise_map → aZ, mem_nil_iff → ba, getElem?_append_left → bd, take_add_one → be, mem_append_left → bg, nodup_append → bj, getElem?_append_right → bo, length_drop → br, mem_iff_getElem → bt, all_eq_true → bu, mem_filter → bv, flatten_cons → bw, perm_ext_iff_of_nodup → bx, take_append_drop → bA, not_mem_nil → bC, length_set → bD, take_of_length_le → bF, map_map → bG, filter_sublist → bH, mem_of_mem_take → bI, length_singleton → bK, getElem?_set_ne → bM, append_nil → bN, pairwise_iff_getElem → bP, map_congr_left → bQ, length_pos_iff → bR, take_append_of_le_length → bS, length_replicate → bT, length_nil → bV, getElem_mem → bY, getElem?_set_self → cf, replicate_succ → ck, lookup_cons → cp, getElem?_take_of_lt → cr, getElem?_of_mem → cv, toList_toArray → cx, flatten_append → cy, idxOf_lt_length_of_mem → cz, mem_flatten → cD, ext_getElem? → cK, length_eq_zero_iff → cP, find?_cons_of_pos → cT, find?_cons_of_neg → cU, sum_cons → de, mem_range'_1 → df, append_assoc → di, mem_flatMap → dr, cons_ne_nil → du, find?_cons → dw, nodup_nil → dA, drop_of_length_le → dB, map_take → dG, filterMap_cons → dL, take_zero → dM, mem_filterMap → dN, getElem?_drop → dO, drop_eq_getElem_cons → dS, take_sublist → dU, flatMap_cons → dW, any_cons → dZ, getElem?_replicate → eh, map_nil → eB, range_succ → eE, drop_zero → eK, map_drop → eN, all_cons → eO, getElem_range → eQ, find?_append → eT, filter_congr → eU, all_map → eV, filter_cons → eZ, of_mem_zip → fc, nil_append → ff, foldl_cons → fh, sublist_flatten_of_mem → fj, length_eraseIdx_of_lt → fm, mem_or_eq_of_mem_set → fq, length_erase_of_mem → fu, pairwise_lt_range → fz, filter_eq_nil_iff → fA, mem_erase_of_ne → fE, map_id → fF, take_succ_cons → fH, mergeSort_perm → fI, zip_cons_cons → fK, find?_eq_none → fM, filter_append → fN, any_eq_false → fO, range'_succ → fR, getElem_inj → fS, cons_append → fU, drop_drop → fX
open Nat renaming le_refl → aq, le_trans → aM, ne_of_lt → aP, lt_of_lt_of_le → aV, zero_le → aY, le_of_not_lt → bE, mod_lt → bJ, le_of_lt_succ → bL, not_lt_zero → bO, lt_irrefl → bU, div_add_mod → bX, mod_eq_of_lt → bZ, sub_self → ci, mul_comm → cj, lt_of_le_of_lt → cq, le_of_lt → cu, one_mul → cA, lt_succ_self → cQ, zero_add → cY, le_antisymm → cZ, lt_succ_of_lt → dk, mul_le_mul_right → dq, add_comm → dv, lt_or_eq_of_le → dz, ne_of_gt → dD, le_add_right → dF, mul_one → dH, le_succ → dJ, eq_zero_or_pos → dQ, lt_succ_of_le → dX, add_mul → dY, sub_zero → eC, lt_trans → eD, min_eq_left → eJ, one_pos → eM, succ_pos → eW, gcd_comm → eY, mul_assoc → fv, pow_succ → fB, lt_or_ge → fC, le_total → fD, pow_le_pow_right → fG, lt_trichotomy → fQ, dvd_lcm_left → fV, zero_mul → fY, succ_mul → fZ, le_of_eq → gb, mul_pos → gc, lcm_dvd → gf
open Option renaming map_some → cJ, getD_some → cN, isSome_iff_exists → dR, isSome_map → eP, map_eq_some_iff → ft, getD_none → fJ
open PyProof.Rows renaming seqObj → gE
open PySem renaming wpAny_bind → gg, Shared → gh, wpAny_pure → gl, sizeLine → gn, Program → gq, wpAny → gr, starEach → gs, model → gu, World → gv, Around → gw, wpAny_holding → gy, wpAny_mono → gz, bootBuiltins → gB, keywordEach → gC, FuncData → gD
open PySem.Heap renaming get?_push_of_some → au, lt_size → aE, get?_push_size → aF, size_push → cO
set_option Elab.async false
set_option linter.all false
set_option compiler.extract_closed false
set_option genSizeOf false
local macro_rules | `(tactic| trivial) => `(tactic| (intro _ _ _ _ _ _ us hl; rcases us with _ | ⟨_, _ | ⟨_, _ | ⟨_, _ | ⟨_, _ | ⟨_, _ | ⟨_, _⟩⟩⟩⟩⟩⟩ <;> first | rfl | simp at hl))
namespace Tb
open PySem PySem.W
def xb5 (st:SharedT->Thread->Option (SharedT×Thread))(ok thr:Thread->Bool):Nat->SharedT->Thread->Option SharedT
 | 0,_,_=>none
 | n+1,s,t=>match thr t with
  | true=>some s
  | false=>match ok t with
   | false=>none
   | true=>match st s t with
    | some (s',t')=>xb5 st ok thr n s' t'
    | none=>none
theorem yo1 {tb:String->Option Builtin}{p:gq}{w:gv}{n₀:Nat}{ann:Option Value}:∀{n:Nat} {s r:SharedT} {t:Thread},xb5 (stepT (denote tb) p w) (stepOk n₀ ann) through n s t=some r->topRun tb p w n₀ ann n s.abs t=some r.abs
 | 0,_,_,_,h=>by cases h
 | n+1,s,r,t,h=>by
  unfold xb5 at h
  unfold topRun
  cases ht:through t with
  | true=>rw[ht]at h;cases h;rfl
  | false =>
   rw[ht]at h
   cases hk:stepOk n₀ ann t with
   | false=>rw[hk]at h;cases h
   | true =>
    rw[hk]at h
    cases hs:stepT (denote tb) p w s t with
    | none=>rw[hs]at h;cases h
    | some q =>
     obtain⟨s₂,t₂⟩:=q
     rw[hs]at h
     rw[stepT_spec hs]
     exact yo1 h
def ze0:List Obj->Nat->BT->Option BT
 | [],_,T=>some T
 | o::r,k,T=>match ((T.ins k o).get k).isSome with
  | true=>ze0 r (k+1) (T.ins k o)
  | false=>none
theorem zn0 {life:Life}:∀{l:List Obj} {k:Nat} {T T':BT},ze0 l k T=some T'->(absHeap T' (k+l.length) life).objs=(absHeap T k life).objs++l.toArray
 | [],k,T,T',h=>by
  cases h
  simp
 | o::r,k,T,T',h=>by
  unfold ze0 at h
  cases hs:((T.ins k o).get k).isSome with
  | false=>rw[hs]at h;cases h
  | true =>
   rw[hs]at h
   have ih:=zn0 (life:=life) h
   rw[absHeap_ins hs]at ih
   rw[aC,show k+(r.length+1)=k+1+r.length by lia,ih]
   show((absHeap T k life).objs.push o)++r.toArray=_
   simp
theorem yf5 {h:Heap}{T:BT}(e:ze0 h.objs.toList 0 .nil=some T):absHeap T h.objs.size h.life=h:=by
 have q:=zn0 (life:=h.life) e;rw[cY,aG]at q;have a:(absHeap BT.nil 0 h.life).objs=#[]:=by
  apply Array.ext_getElem?;intro i;rw[absHeap_at];simp
 rw[a]at q;have:(absHeap T h.objs.size h.life).objs=h.objs:=by rw[q];simp
 show Heap.mk _ _=h;rw[show h=Heap.mk h.objs h.life from rfl];exact congrArg (Heap.mk · h.life) this
def yw7 (fo:Option gh)(st:SharedT->Thread->Option (SharedT×Thread))(ok:Nat->Option Value->Thread->Bool)(p:gq)(N:Nat):Option (gh×SharedT) :=
 match fo with
 | none=>none
 | some s₀=>match ze0 s₀.heap.objs.toList 0 .nil with
  | none=>none
  | some T=>match xb5 st (ok s₀.heap.objs.size (s₀.heap.nsMap mainGlobals "__annotations__")) through N ⟨T,s₀.heap.objs.size,s₀.heap.life,s₀.gens,s₀.drawn,s₀.toks,s₀.os⟩ (topStub p) with
   | none=>none
   | some s₁=>some (s₀,s₁)
def yp4 {β:Type}:Nat->List β->List β
 | 0,_=>[]
 | _+1,[]=>[]
 | n+1,x::l=>x::yp4 n l
def zz8 {β:Type}:Nat->List β->List β
 | 0,l=>l
 | _+1,[]=>[]
 | n+1,_::l=>zz8 n l
theorem yf4 {β:Type}:∀(n:Nat) (l:List β),yp4 n l=l.take n
 | 0,_=>rfl
 | _+1,[]=>rfl
 | n+1,x::l=>congrArg (x :: ·) (yf4 n l)
theorem A6 {β:Type}:∀(n:Nat) (l:List β),zz8 n l=l.drop n
 | 0,_=>rfl
 | _+1,[]=>rfl
 | n+1,_::l=>A6 n l
theorem leftC {p q:gq}{loose:List Str}{Xt:gh->Bool}{β:Type}{Yf:gh->List β}{Ya:gv->List β}{N:Nat}{g0:Bool}(n:Nat)(e:opening p=plainProg p.main.scope.names)(hN:Nat.ble 600 N=true)(f:∀s,fenceModules? p s=some s)
  (hA:∀w os,(yw7 (some ⟨boot_heap w.params,Array.mk [],boot_drawn,boot_toks,os⟩) (stepT (denote treeTable) p w) stepOk p N).map (λr=>(r.1.heap.isNs mainGlobals&&r.1.gens.size==0,staticsOk (importedModules p.main.body) r.1.heap r.2.abs.heap&&namesBound p r.2.abs.heap&&gensDone r.2.abs&&laidKept r.1.heap r.2.abs.heap,openSeen q loose (importedModules p.main.body) Xt g0 r.2.abs))=some (true,true,openGood q loose))
  (hB:∀w os,(yw7 (some ⟨boot_heap w.params,Array.mk [],boot_drawn,boot_toks,os⟩) (stepT (denote treeTable) p w) stepOk p N).map (λr=>(Yf r.2.abs).take n)=some (yp4 n (Ya w)))
  (hC:∀w os,(yw7 (some ⟨boot_heap w.params,Array.mk [],boot_drawn,boot_toks,os⟩) (stepT (denote treeTable) p w) stepOk p N).map (λr=>((Yf r.2.abs).drop n).take n)=some (yp4 n (zz8 n (Ya w))))
  (hD:∀w os,(yw7 (some ⟨boot_heap w.params,Array.mk [],boot_drawn,boot_toks,os⟩) (stepT (denote treeTable) p w) stepOk p N).map (λr=>((Yf r.2.abs).drop n).drop n)=some (zz8 n (zz8 n (Ya w)))):LeftO p q loose Xt Yf Ya N g0:=λw=>by
 obtain⟨s₀,hs,hv⟩:=ft.mp (boot_open e hN f w)
 have es:(⟨boot_heap w.params,Array.mk [],boot_drawn,boot_toks,s₀.os⟩:gh)=s₀:=by
  obtain⟨h1,h2⟩:=Prod.mk.inj hv
  obtain⟨h2,h3⟩:=Prod.mk.inj h2
  obtain⟨h3,h4⟩:=Prod.mk.inj h3
  rw[←h1,←h2,←h3,←h4]
 have a:=hA w s₀.os
 have b:=hB w s₀.os
 have c:=hC w s₀.os
 have d:=hD w s₀.os
 rw[es]at a b c d
 clear es hv
 unfold openEnds
 rw[hs]
 unfold yw7 at a b c d
 dsimp only at a b c d
 cases ht:ze0 s₀.heap.objs.toList 0 .nil with
 | none=>rw[ht]at a;cases a
 | some T =>
  rw[ht]at a b c d
  dsimp only at a b c d
  cases hr:xb5 (stepT (denote treeTable) p w) (stepOk s₀.heap.objs.size (s₀.heap.nsMap mainGlobals "__annotations__")) through N ⟨T,s₀.heap.objs.size,s₀.heap.life,s₀.gens,s₀.drawn,s₀.toks,s₀.os⟩ (topStub p) with
  | none=>rw[hr]at a;cases a
  | some s₁ =>
   rw[hr]at a b c d
   have a:=Option.some.inj a
   have b:=Option.some.inj b
   have c:=Option.some.inj c
   have d:=Option.some.inj d
   dsimp only at a b c d
   rw[yf4]at b c
   rw[A6]at c
   rw[A6,A6]at d
   have c':(Yf s₁.abs).drop n=(Ya w).drop n:=by rw[←bA n ((Yf s₁.abs).drop n),c,d,bA]
   have b':Yf s₁.abs=Ya w:=by rw[←bA n (Yf s₁.abs),b,c',bA]
   have e1:=(Prod.mk.inj a).1
   have e2:=(Prod.mk.inj (Prod.mk.inj a).2).1
   have e3:=(Prod.mk.inj (Prod.mk.inj a).2).2
   have r:=yo1 hr
   have ab:(SharedT.mk T s₀.heap.objs.size s₀.heap.life s₀.gens s₀.drawn s₀.toks s₀.os).abs=s₀:=by
    show Shared.mk (absHeap T s₀.heap.objs.size s₀.heap.life) s₀.gens s₀.drawn s₀.toks s₀.os=s₀
    rw[yf5 ht]
   rw[ab]at r
   show Option.map _ (topFrom treeTable p w N s₀)=_
   unfold topFrom
   rw[e1]
   dsimp only
   rw[r]
   show Option.map _ (match staticsOk (importedModules p.main.body) s₀.heap s₁.abs.heap&&namesBound p s₁.abs.heap&&gensDone s₁.abs&&laidKept s₀.heap s₁.abs.heap with|true=>some s₁.abs|false=>none)=_
   rw[e2]
   exact congrArg some (Prod.ext e3 b')
end Tb
section
open PySem PySem.W PyProof.Rows
namespace Tb
def seenQ:gq:=view PySem.Challenge.pw_turnbase_k35_has_of_known_groups [0,2,3,4,5,6,7,8,10,11,12,13,15,16,18,19,20,22,23,24,25,26,27,28,29,30,31,32,33,34,35,36,37,38,39,40]
end Tb
local macro_rules | `(tactic| o_head $H:term)=>`(tactic| refine W.holds_open (q:=Tb.seenQ) (loose:=[]) (Xt:=λs=>xlAt Tb.seenQ [] s&&recOk (RowW.records (OpenRow.toRowW PySem.Challenge.rw_turnbase_k35_has_of_known_groups.row)) s) (XP:=XL Tb.seenQ []) (Yf:=Hook.obs $H) (Ya:=Hook.val $H) (YP:=Hook.says $H) (N:=6486) ?hl (Hook.of $H) (Hook.keeps $H) (λs e=>xl_of s (Bool.and_eq_true_iff.mp e).1) XL.keeps (by rfl) (by rfl) (by rfl) (λs e=>recFacts_of (Bool.and_eq_true_iff.mp e).2) (by rfl) (by assumption) (by decide +kernel) ⟨rfl,rfl,rfl,rfl,rfl,by decide +kernel⟩ ?hw ?hc)
set_option maxRecDepth 100000 in
set_option maxHeartbeats 0 in
def Tb.early:PSigma (λT:Prop×Prop×Prop×Prop×Prop=>T.1->T.2.1->T.2.2.1->T.2.2.2.1->T.2.2.2.2->PySem.Challenge.rw_turnbase_k35_has_of_known_groups.Holds):=by
 refine⟨(∀w os,(?A:gv->OsState->Prop) w os,∀w os,(?B:gv->OsState->Prop) w os,∀w os,(?C:gv->OsState->Prop) w os,∀w os,(?D:gv->OsState->Prop) w os,?T),λha hb hc hd he=>?m⟩
 (case m =>
  w_on;refine W.holds_law (by kernel_rfl) λsaid=>?_;k_head
  (case hl =>
  refine Tb.leftC (β:=Option Obj) 190 (by kernel_rfl) (by decide) (λs=>by kernel_rfl) ?_ ?_ ?_ ?_ <;> intro w os <;> (try unfold Tb.seenQ) <;> (repeat (first|rw[PySem.W.Fast.te10274390034422433532]|rw[PySem.W.Fast.te14289696077712309145]|rw[PySem.W.Fast.te10156331382660048174]|rw[PySem.W.Fast.te6613529449190102663]|rw[PySem.W.Fast.te11892475500146522536]|rw[PySem.W.Fast.te4187177175401517315]|rw[PySem.W.Fast.te14364793385576792824]|rw[PySem.W.Fast.te1435165496053646825]|rw[PySem.W.Fast.te5923862056798008813]))
  .exact ha w os
  .exact hb w os
  .exact hc w os
  .exact hd w os)
  (case hw=>w_witness2)
  k_fill
  exact he)
set_option maxRecDepth 100000 in
set_option maxHeartbeats 0 in
theorem Tb.early2:Tb.early.1.1:=by
 refine λw a=>?_;kernel_rfl
set_option maxRecDepth 100000 in
set_option maxHeartbeats 0 in
theorem Tb.early3:Tb.early.1.2.1:=by
 refine λw a=>?_;kernel_rfl
set_option maxRecDepth 100000 in
set_option maxHeartbeats 0 in
theorem Tb.early4:Tb.early.1.2.2.1:=by
 refine λw a=>?_;kernel_rfl
set_option maxRecDepth 100000 in
set_option maxHeartbeats 0 in
theorem Tb.early5:Tb.early.1.2.2.2.1:=by
 refine λw a=>?_;kernel_rfl
end
set_option Elab.async false
set_option linter.all false
set_option maxRecDepth 100000
namespace L2
open PySem PySem.Spec PyProof.Rows
abbrev Key:=Sum Int Str
def zj2 : Key -> Value -> Bool
  | .inl k,v=>Value.isInt k v
  | .inr x,v=>Value.isStrOf x v
def xx2 (w : gv) : Key -> Int
  | .inl k=>hashInt k
  | .inr x=>hashStr w x
theorem i7 : ∀{k : Key} {v : Value}, zj2 k v = true -> (∃i t, k = Sum.inl i /\ v = Value.int i t)∨(∃x t, k = Sum.inr x /\ v = Value.str x t)
  | .inl i,v,h=>by
    obtain⟨t,e⟩:=Value.isInt_shape (k:=i) (v:=v) h
    exact .inl ⟨i,t,rfl,e⟩
  | .inr x,v,h=>by
    obtain⟨t,e⟩:=Value.isStrOf_shape (x:=x) (v:=v) h
    exact .inr ⟨x,t,rfl,e⟩
theorem ys0 (i:Int)(t:Tok):zj2 (.inl i) (.int i t)=true:=by simp[zj2,Value.isInt]
theorem ys1 (x:Str)(t:Tok):zj2 (.inr x) (.str x t)=true:=by simp[zj2,Value.isStrOf]
theorem xo3 (a b:Int):decide ((Sum.inl a:Key)=Sum.inl b)=(a==b):=by
  by_cases e:a=b
  . subst e;simp
  . have h : ¬(Sum.inl a : Key) = Sum.inl b := λq => e (Sum.inl.inj q);rw[decide_eq_false h];exact(beq_eq_false_iff_ne.mpr e).symm
theorem xo6 (a b:Str):decide ((Sum.inr a:Key)=Sum.inr b)=decide (a=b):=by
  by_cases e:a=b
  . subst e;simp
  . have h : ¬(Sum.inr a : Key) = Sum.inr b := λq => e (Sum.inr.inj q);rw[decide_eq_false h,decide_eq_false e]
theorem xo4 (a:Int)(b:Str):decide ((Sum.inl a:Key)=Sum.inr b)=false:=decide_eq_false (λq=>nomatch q)
theorem xo5 (a:Str)(b:Int):decide ((Sum.inr a:Key)=Sum.inl b)=false:=decide_eq_false (λq=>nomatch q)
def d9 (prog:gq)(w:gv):PySem.KeyKind prog w Key where
  is:=zj2
  hash:=xx2 w
  inj:=λv a b ha hb=>by
    rcases i7 ha with⟨i,t,rfl,rfl⟩|⟨x,t,rfl,rfl⟩
    . rcases i7 hb with⟨j, u, rfl, e⟩|⟨y, u, rfl, e⟩
      . injection e with e1 _;rw[e1]
      . exact nomatch e
    . rcases i7 hb with⟨j, u, rfl, e⟩|⟨y, u, rfl, e⟩
      . exact nomatch e
      . injection e with e1 _;rw[e1]
  byValue:=λk v h=>by
    rcases i7 h with⟨i,t,rfl,rfl⟩|⟨x,t,rfl,rfl⟩ <;> rfl
  pyHash:=λhv h=>by
    rcases i7 hv with⟨i,t,rfl,rfl⟩|⟨x,t,rfl,rfl⟩
    . exact wpAny_pyHash_int h
    . exact wpAny_pyHash_str h
  eqBool:=λhu hv h=>by
    rcases i7 hu with⟨i,t,rfl,rfl⟩|⟨x,t,rfl,rfl⟩
    . rcases i7 hv with⟨j, u, rfl, rfl⟩|⟨y, u, rfl, rfl⟩
      . rw[xo3]at h;exact wpAny_eqBool_int h
      . rw[xo4]at h;exact SeqAt.EqAt.int_str i t y u _ _ _ _ h
    . rcases i7 hv with⟨j, u, rfl, rfl⟩|⟨y, u, rfl, rfl⟩
      . rw[xo5]at h;exact SeqAt.EqAt.str_int x t j u _ _ _ _ h
      . rw[xo6]at h;exact wpAny_eqBool_str h
  «strs»:=λk x t v h=>by
    rcases i7 h with⟨i,u,rfl,e⟩|⟨y,u,rfl,e⟩
    . exact nomatch e
    . injection e with e1 _
      subst e1
      cases v <;> rfl
theorem yb7 (prog:gq)(w:gv)(i:Int)(t:Tok):(d9 prog w).is (.inl i) (.int i t)=true:=ys0 i t
theorem yb8 (prog:gq)(w:gv)(x:Str)(t:Tok):(d9 prog w).is (.inr x) (.str x t)=true:=ys1 x t
inductive V where
  | non|bl (b:Bool)|int (i:Int)|str (x:Str)|byt (b:Array UInt8)|flt (b:UInt64)|ref (a:Addr)|ty (n:String)
  deriving DecidableEq
def o5 : V -> Value -> Prop
  | .non,u=>u=Value.none
  | .bl b,u=>u=Value.bool b
  | .int i,u=>∃t,u=Value.int i t
  | .str x,u=>∃t,u=Value.str x t
  | .byt b,u=>∃t,u=Value.bytes b t
  | .flt b,u=>∃t,u=Value.float b t
  | .ref a,u=>u=Value.ref a
  | .ty n,u=>u=Value.type n
abbrev o0:List V->List Value->Prop:=Paired o5
theorem o0.length {xs:List V}{us:List Value}(r:o0 xs us):xs.length=us.length:=Paired.length r
theorem o0.get : ∀{xs : List V} {us : List Value} {i : Nat} {x : V}, o0 xs us -> xs[i]? = some x -> ∃u, us[i]? = some u /\ o5 x u
  | _,_,_,_,.nil,e=>by simp at e
  | _,_,0,_,.cons r _,e=>by simp at e;subst e;exact⟨_,rfl,r⟩
  | _,_,i+1,x,.cons _ t,e=>by
    obtain⟨u,h1,h2⟩:=o0.get (i:=i) (x:=x) t (by simpa using e)
    exact⟨u,by simpa using h1,h2⟩
theorem o0.set {x : V}{u : Value}(r : o5 x u) : ∀{xs : List V} {us : List Value} (i : Nat), o0 xs us -> o0 (xs.set i x) (us.set i u)
  | _,_,_,.nil=>.nil
  | _,_,0,.cons _ t=>.cons r t
  | _,_,i+1,.cons q t=>.cons q (o0.set r i t)
theorem o0.append : ∀{xs ys : List V} {us ws : List Value}, o0 xs us -> o0 ys ws -> o0 (xs ++ ys) (us ++ ws)
  | _,_,_,_,.nil,s=>s
  | _,_,_,_,.cons r t,s=>.cons r (o0.append t s)
theorem o0.take : ∀{xs : List V} {us : List Value} (n : Nat), o0 xs us -> o0 (xs.take n) (us.take n)
  | _,_,0,_=>.nil
  | _,_,_+1,.nil=>.nil
  | _,_,n+1,.cons r t=>.cons r (o0.take n t)
theorem o0.drop : ∀{xs : List V} {us : List Value} (n : Nat), o0 xs us -> o0 (xs.drop n) (us.drop n)
  | _,_,0,r=>r
  | _,_,_+1,.nil=>.nil
  | _,_,n+1,.cons _ t=>o0.drop n t
def D9 : Option V -> Option Value -> Prop
  | some v,some u=>o5 v u
  | none,none=>True
  | _,_=>False
def KV {κ:Type}:List (κ×V)->List (κ×Value)->Prop:=Paired λ(p:κ×V) (q:κ×Value)=>p.1=q.1/\o5 p.2 q.2
def kV : Key -> V
  | .inl i=>.int i
  | .inr x=>.str x
inductive HO where
  | lst (xs:List V)
  | tup (xs:List V)
  | dK (kvs:List (Key×V))|dT (kvs:List (List Key×V))
  | set (S:Int->Bool) (n:Nat)
  | ins (C dx:Addr) (fs:List (Str×V))
  | own (x:Addr)
  | xd (fs:List (Str×V))
  | met (f x:Addr)
  | rng (lo hi:Int)
  | frz (o:Obj) (u:HO)
  | tbl (ps:Array Value)
  | ext (φ:Heap->Prop)
abbrev Hp:=Addr->Option HO
def upd (H:Hp)(a:Addr)(o:HO):Hp:=λb=>if b=a then some o else H b
theorem z3 {H:Hp}{a:Addr}{o:HO}:upd H a o a=some o:=by unfold upd;rw[if_pos rfl]
theorem y0 {H:Hp}{a b:Addr}{o:HO}(h:b≠a):upd H a o b=H b:=by unfold upd;rw[if_neg h]
theorem l4 {H:Hp}{a b:Addr}{o u:HO}(h:H a=some o)(h':H b=some u)(d:o≠u):a≠b:=by
  intro e;subst e;rw[h]at h';exact d (Option.some.inj h')
theorem y9 {H:Hp}{a b:Addr}{o:HO}(h:H a=some o)(h':H b=none):a≠b:=by
  intro e;subst e;rw[h]at h';cases h'
def zn4 (h:Heap)(a:Addr)(items:Array Value):Prop:=∃o,h.get? a=some o/\o.cls=.type "tuple"/\∃n,o.data=.seq items n/\o.dict=none
theorem zn4.new (h:Heap)(items:Array Value):zn4 (h.push { cls:=.type "tuple",data:=.seq items }) h.objs.size items:=⟨_,aF _ rfl,rfl,_,rfl,rfl⟩
theorem zn4.is {h:Heap}{a:Addr}{items:Array Value}(x:zn4 h a items):IsTup h a items:=let ⟨o,h1,h2,n,h3,_⟩:=x;⟨o,h1,h2,n,h3⟩
section
variable (P:gq)(w:gv)
def k8 (H : Hp)(h : Heap)(a : Addr) : HO -> Prop
  | .lst xs=>xs.length<=gn/\∃(its:List Value) (n:Nat),o0 xs its/\h.get? a=some { cls:=.type "list",data:=.seq its.toArray n }
  | .tup xs=>xs.length<=gn/\∃its:List Value,o0 xs its/\zn4 h a its.toArray
  | .dK kvs=>kvs.length<=gn/\(a==sysModules)=false/\∃vs,KV kvs vs/\h.DictOf (d9 P w) a vs
  | .dT kvs=>kvs.length<=gn/\(a==sysModules)=false/\∃xs:List (List Key×Addr×Value),
      Paired (λ(p:List Key×V) (q:List Key×Addr×Value)=>p.1=q.1/\H q.2.1=some (.tup (p.1.map kV))/\o5 p.2 q.2.2) kvs xs /\
      ∃o es ep,h.get? a=some o/\o.ExactDict/\o.data=.dict es ep/\es.toList=xs.map (entryOfKey (tupleKind (d9 P w)))/\(xs.map (·.1)).Nodup
  | .set S n=>h.SetOf (intKind P w) a S n
  | .ins C dx fs=>H dx=some (.own a)/\fs.length<=1000/\dx≠a/\h.get? a=some (W.instObj C dx) /\
      ∃mA,h.Ns1 dx mA/\(∀f,D9 (fs.lookup f) (mA f))/\PySem.Within mA (fs.map (·.1))
  | .own _=>∃o,h.get? a=some o
  | .xd fs=>∃mA,h.Ns1 a mA/\∀f,D9 (fs.lookup f) (mA f)
  | .rng lo hi=>∃t u v,h.get? a=some { cls:=.type "range",data:=.fields #[.int lo t,.int hi u,.int 1 v] }
  | .frz o u=>h.get? a=some o/\k8 H h a u
  | .tbl ps=>h.get? a=some { cls:=.none,data:=.fields ps }
  | .met f x=>h.get? a=some (W.methodObj (.ref f) (.ref x))
  | .ext φ=>φ h/\(∃o,h.get? a=some o)/\∀h1 h2:Heap,φ h1->(∀o,h1.get? a=some o->h2.get? a=some o)->φ h2
def HOk (H:Hp)(h:Heap):Prop:=∀a o,H a=some o->k8 P w H h a o
end
section
variable {P:gq}{w:gv}{H H':Hp}{h h':Heap}{a:Addr}{o:HO}
theorem k8.lt (x:k8 P w H h a o):a<h.objs.size:=by
  cases o with
  | lst xs=>obtain⟨_,_,_,_,e⟩:=x;exact aE e
  | tup xs=>obtain⟨_,_,_,p⟩:=x;exact p.is.lt
  | dK kvs=>obtain⟨_,_,_,_,o,_,_,e,_⟩:=x;exact aE e
  | dT kvs=>obtain⟨_,_,_,_,o,_,_,e,_⟩:=x;exact aE e
  | set S n=>obtain⟨o,_,_,_,e,_⟩:=x;exact aE e
  | ins C dx fs=>obtain⟨_,_,_,e,_⟩:=x;exact aE e
  | own y=>obtain⟨_,e⟩:=x;exact aE e
  | xd fs=>obtain⟨_,⟨_,_,_,e,_⟩,_⟩:=x;exact aE e
  | rng lo hi=>obtain⟨_,_,_,e⟩:=x;exact aE e
  | frz ob u=>obtain⟨e,_⟩:=x;exact aE e
  | tbl ps=>exact aE (show h.get? a=some _ from x)
  | met f y=>exact aE (show h.get? a=some _ from x)
  | ext φ=>obtain⟨_,⟨_,e⟩,_⟩:=x;exact aE e
theorem Paired.mapP {α β : Type}{F G : α -> β -> Prop} : ∀{l₁ : List α} {l₂ : List β}, Paired F l₁ l₂ -> (∀a b, F a b -> G a b) -> Paired G l₁ l₂
  | _,_,.nil,_=>.nil
  | _,_,.cons r t,f=>.cons (f _ _ r) (Paired.mapP t f)
theorem Paired.imp' {α β:Type}{F G:α->β->Prop}(f:∀a b,F a b->G a b){l₁:List α}{l₂:List β}(r:Paired F l₁ l₂):Paired G l₁ l₂:=Paired.mapP r f
theorem k8.stay (x : k8 P w H h a o)(k : ∀b u, (b = a∨H b = some (.own a)) -> h.get? b = some u -> h'.get? b = some u)
    (m:∀b,H b=some (.own a)->H' b=some (.own a)) (s:∀b xs,H b=some (.tup xs)->H' b=some (.tup xs)):k8 P w H' h' a o:=by
  induction o with
  | lst xs=>obtain⟨z,j,n,r,e⟩:=x;exact⟨z,j,n,r,k _ _ (.inl rfl) e⟩
  | tup xs=>obtain⟨z,j,r,g,e,c⟩:=x;exact⟨z,j,r,g,k _ _ (.inl rfl) e,c⟩
  | dK kvs=>obtain⟨z,y,B,r,g,es,i,e,c⟩:=x;exact⟨z,y,B,r,g,es,i,k _ _ (.inl rfl) e,c⟩
  | dT kvs =>
    obtain⟨z,y,xs,r,g,es,i,e,c⟩:=x;exact⟨z,y,xs,Paired.mapP r λp q z=>⟨z.1,s _ _ z.2.1,z.2.2⟩,g,es,i,k _ _ (.inl rfl) e,c⟩
  | set S n=>obtain⟨g,es,i,t,e,c⟩:=x;exact⟨g,es,i,t,k _ _ (.inl rfl) e,c⟩
  | ins C dx fs =>
    obtain⟨d,z,A,e,mA,⟨od,es,i,l,c⟩,r⟩:=x;exact⟨m _ d,z,A,k _ _ (.inl rfl) e,mA,⟨od,es,i,k _ _ (.inr d) l,c⟩,r⟩
  | own y=>obtain⟨g,e⟩:=x;exact⟨g,k _ _ (.inl rfl) e⟩
  | xd fs=>obtain⟨mA,⟨od,es,i,e,c⟩,r⟩:=x;exact⟨mA,⟨od,es,i,k _ _ (.inl rfl) e,c⟩,r⟩
  | rng lo hi=>obtain⟨t,u,v,e⟩:=x;exact⟨t,u,v,k _ _ (.inl rfl) e⟩
  | frz g u ih=>obtain⟨e,q⟩:=x;exact⟨k _ _ (.inl rfl) e,ih q⟩
  | tbl ps =>
    have e:h.get? a=some { cls:=.none,data:=.fields ps }:=x;show h'.get? a=some { cls:=.none,data:=.fields ps };exact k a _ (.inl rfl) e
  | met f y =>
    have e:h.get? a=some (W.methodObj (.ref f) (.ref y)):=x;show h'.get? a=some (W.methodObj (.ref f) (.ref y));exact k a _ (.inl rfl) e
  | ext φ=>obtain⟨p,⟨o,e⟩,st⟩:=x;exact⟨st _ _ p λo q=>k _ _ (.inl rfl) q,⟨o,k _ _ (.inl rfl) e⟩,st⟩
theorem HOk.lt (x:HOk P w H h)(e:H a=some o):a<h.objs.size:=(x a o e).lt
theorem HOk.fresh (x:HOk P w H h)(e:h.objs.size<=a):H a=none:=by
  cases q:H a with
  | none=>rfl
  | some u=>exact absurd (aV (x.lt q) e) (bU _)
theorem HOk.kept (x:HOk P w H h)(k:∀b u,h.get? b=some u->h'.get? b=some u):HOk P w H h':=λa o e =>
  (x a o e).stay (λb u _ q=>k b u q) (λ_ q=>q) λ_ _ q=>q
theorem HOk.laid (x:HOk P w H h)(k:∀b u,h.get? b=some u->h'.get? b=some u)(hp:h.objs.size<=a)(new:k8 P w (upd H a o) h' a o):HOk P w (upd H a o) h':=λb u e=>by
  have hn:=x.fresh hp
  by_cases hb:b=a
  . subst hb;rw[z3]at e;cases e;exact new
  . rw[y0 hb]at e
    exact(x b u e).stay (λc v _ q=>k c v q) (λc q=>by rw[y0 (y9 q hn)];exact q) λc xs q=>by rw[y0 (y9 q hn)];exact q
end
def Rd (H:Hp)(a:Addr)(u:HO):Prop:=H a=some u∨∃o,H a=some (.frz o u)
theorem Rd.ok {P:gq}{w:gv}{H:Hp}{h:Heap}{a:Addr}{u:HO}(r:Rd H a u)(x:HOk P w H h):k8 P w H h a u:=by
  rcases r with r|⟨o,r⟩
  . exact x a u r
  . obtain⟨_, q⟩ := x a _ r;exact q
def Mut : Option HO -> Prop
  | some (.lst _)=>True
  | some (.dK _)=>True
  | some (.dT _)=>True
  | some (.set _ _)=>True
  | some (.ins _ _ _)=>True
  | some (.ext _)=>True
  | _=>False
section
variable {P:gq}{w:gv}{H:Hp}{h h':Heap}{x e:Addr}{o':HO}
theorem HOk.write (ok : HOk P w H h)(mu : Mut (H x))(he : e = x∨H e = some (.own x))(k : ∀b u, b ≠ e -> h.get? b = some u -> h'.get? b = some u)(heo : ∃u, h'.get? e = some u)
    (new:k8 P w (upd H x o') h' x o'):HOk P w (upd H x o') h':=λb u q=>by
  have nown:∀c y,H c=some (.own y)->c≠x:=λc y r z=>by subst z;rw[r]at mu;exact mu
  have ntup:∀c xs,H c=some (.tup xs)->c≠x:=λc xs r z=>by subst z;rw[r]at mu;exact mu
  by_cases hb:b=x
  . subst hb;rw[z3]at q;cases q;exact new
  . rw[y0 hb]at q
    by_cases hbe:b=e
    . have q':H b=some (.own x):=by
        rcases he with z|z
        . exact absurd (hbe.trans z) hb
        . rw[hbe];exact z
      rw[q]at q';cases q'
      obtain⟨v,hv⟩:=heo
      exact⟨v,by rw[hbe];exact hv⟩
    . refine(ok b u q).stay (λc v hc r => k c v ?_ r) (λc r => by rw[y0 (nown c b r)]; exact r) λc xs r => by rw[y0 (ntup c xs r)]; exact r
      rcases hc with rfl|hc
      . exact hbe
      . rintro rfl
        rcases he with z|z
        . exact nown c b hc z
        . rw[hc]at z;cases z;exact hb rfl
end
structure Un (fs ex:List Addr) (H H':Hp) (h h':Heap):Prop where
  keep:∀b o,h.get? b=some o->H b=none->b∉fs->b∉ex->h'.get? b=some o
  slot:∀b o,h.get? b=some o->H b=none->b∈fs->b∉ex->∃sl,h'.get? b=some { o with slots:=sl }
  free:∀b o,h.get? b=some o->H b=none->b∉ex->H' b=none
  there:∀b o,h.get? b=some o->b∉ex->∃o',h'.get? b=some o'
  tups:∀b xs,H b=some (.tup xs)->H' b=some (.tup xs)
  frzs:∀b o u,H b=some (.frz o u)->H' b=some (.frz o u)
  tbls:∀b ps,H b=some (.tbl ps)->∃more,H' b=some (.tbl (ps++more))
section
variable {fs fs' ex ex':List Addr}{H H1 H2:Hp}{h h1 h2 h':Heap}{a x e:Addr}{o:HO}
theorem Un.any (u:Un fs ex H H1 h h1){b:Addr}{a:Obj}(q:h.get? b=some a)(n:H b=none)(c:b∉ex):∃sl,h1.get? b=some { a with slots:=sl }:=by
  by_cases hb:b∈fs
  . exact u.slot b a q n hb c
  . exact⟨a.slots,u.keep b a q n hb c⟩
theorem Un.kept (k:∀b u,h.get? b=some u->h'.get? b=some u):Un fs ex H H h h' :=
  ⟨λb ob q _ _ _=>k b ob q,λb ob q _ _ _=>⟨ob.slots,k b ob q⟩,λ_ _ _ n _=>n,λb ob q _=>⟨ob,k b ob q⟩,λ_ _ q=>q,λ_ _ _ q=>q,λ_ ps q=>⟨#[],by rw[q];simp⟩⟩
theorem Un.refl:Un fs ex H H h h:=Un.kept λ_ _ q=>q
theorem Un.laid (k:∀b u,h.get? b=some u->h'.get? b=some u)(hp:h.objs.size<=a)(hn:H a=none):Un fs ex H (upd H a o) h h' where
  keep:=λb u q _ _ _=>k b u q
  slot:=λb u q _ _ _=>⟨u.slots,k b u q⟩
  free:=λb u q n _=>by rw[y0 (aP (aV (aE q) hp))];exact n
  there:=λb u q _=>⟨u,k b u q⟩
  tups:=λb xs q=>by rw[y0 (y9 q hn)];exact q
  frzs:=λb u xs q=>by rw[y0 (y9 q hn)];exact q
  tbls:=λb ps q=>⟨#[],by rw[y0 (y9 q hn),q];simp⟩
theorem Un.write (c:Mut (H x))(g:e=x∨H e=some (.own x))(k:∀b u,b≠e->h.get? b=some u->h'.get? b=some u)(d:∃u,h'.get? e=some u):Un fs ex H (upd H x o) h h':=by
  have f:∀b,H b=none->b≠x:=λb n z=>by subst z;rw[n]at c;exact c
  have hb:∀b,H b=none->b≠e:=λb n z=>by
    subst z;rcases g with r|r
    . exact f b n r
    . rw[n]at r;cases r
  have hm:∀b u,H b=some u->¬Mut (some u)->b≠x:=λb u q i z=>by subst z;rw[q]at c;exact i c
  refine⟨λb u q n _ _=>k b u (hb b n) q,λb u q n _ _=>⟨u.slots,k b u (hb b n) q⟩,λb u q n _=>by rw[y0 (f b n)];exact n,λb u q _=>?_,
    λb xs q=>by rw[y0 (hm b _ q λz=>z)];exact q,λb u xs q=>by rw[y0 (hm b _ q λz=>z)];exact q,λb ps q=>⟨#[],by rw[y0 (hm b _ q λz=>z),q];simp⟩⟩
  by_cases a:b=e
  . subst a;exact d
  . exact⟨u,k b u a q⟩
end
def trk (h:Heap)(H:Hp):List Addr:=(List.range h.objs.size).filter λa=>(H a).isSome
def zu5 (h:Heap)(H:Hp):Heap:=W.hideAll h (trk h H)
theorem yr7 (h:Heap)(H:Hp):(zu5 h H).objs.size=h.objs.size:=W.hideAll_size _ _
theorem yy3 {h:Heap}{H:Hp}{b:Addr}{o:Obj}(e:h.get? b=some o)(n:H b=none):(zu5 h H).get? b=some o :=
  W.hideAll_get _ e λhm=>by
    have q:(H b).isSome=true:=(bv.mp hm).2
    rw[n]at q;simp at q
theorem xh1 {h:Heap}{H:Hp}{b:Addr}{o:Obj}(e:(zu5 h H).get? b=some o):h.get? b=some o/\H b=none:=by
  have a:h.get? b=some o:=W.of_hideAll (trk h H) e;refine⟨a,?_⟩
  cases q:H b with
  | none=>rfl
  | some x =>
    have hm:b∈trk h H:=bv.mpr ⟨av.mpr (aE a),by simp[q]⟩;have z:(zu5 h H).get? b=none:=W.hideAll_none (trk h H) hm;rw[z]at e;cases e
def zs7 (g h:Heap)(L:Addr):List (Addr×Obj):=(List.range h.objs.size).filterMap λa=>if a=L∨(g.get? a).isSome=true then none else(h.get? a).map λo=>(a,o)
theorem zj9 {g h:Heap}{L:Addr}{p:Addr×Obj}(a:p∈zs7 g h L):p.1≠L/\g.get? p.1=none/\h.get? p.1=some p.2:=by
  obtain⟨b,_,e⟩:=dN.mp a;split at e
  . cases e
  . rename_i hn
    cases q:h.get? b with
    | none=>rw[q]at e;simp at e
    | some u =>
      rw[q]at e;simp only[cJ,Option.some.injEq]at e;subst e;refine⟨λz=>hn (.inl z),?_,q⟩;show g.get? b=none
      cases r:g.get? b with
      | none=>rfl
      | some v=>exact(hn (.inr (by simp[r]))).elim
def Y3 (g h:Heap)(L d:Addr):List (Addr×Obj):=(zs7 g h L).filter λp=>decide (p.1≠d)
theorem yz7 {g h:Heap}{L:Addr}:News g L h (zs7 g h L):=λp hp=>let ⟨a,b,c⟩:=zj9 hp;⟨c,a,b⟩
structure Mod (K:W.Frag) (mg:Str->Option Value) (base:Heap):Prop where
  kin:K.In base
  glob:base.Ns mainGlobals mg
  blt:∃mb,base.Ns builtinsNs mb/\∀x:Str,x≠"__name__"->mb x=gB x
  nolimit:base.NoLimit
structure Cx where
  prog:gq
  w:gv
  K:W.Frag
  mg:Str->Option Value
  base:Heap
  A:gw
  N:List Str
  s₀:gh
  H₀:Hp
  env:Env
  outer:List Env
  stack:List Env
  ex:List Addr
  fn:Str->Bool
  calm:Bool
  pn:List (Addr×Obj)
  xe:Value->gh->Prop
def frs (l:List Env):List Addr:=l.filterMap (·.frame)
abbrev Cx.fs (X:Cx):List Addr:=frs X.outer
def Vis (sc:Scope)(x:Str):Prop:=sc.names.lookup x=some .local∨sc.names.lookup x=some .cell∨sc.names.lookup x=some .free
def Loc (sc:Scope)(x:Str):Prop:=sc.names.lookup x=some .local∨sc.names.lookup x=some .cell
def xw4 (env:Env)(h:Heap)(m:Str->Option Value)(x:Str)(u:Value):Prop :=
  (env.kindOf x=some .local/\m x=some u)∨((env.kindOf x=some .cell∨env.kindOf x=some .free)/\∃c,env.cells.lookup x=some c/\h.IsCell c (some u))
structure Cx.Ok (X:Cx):Prop where
  mod:Mod X.K X.mg X.base
  kind:X.env.scope.kind=.function
  glob:X.env.globals=mainGlobals
  blt:X.env.builtins=builtinsNs
  above:X.s₀.heap.objs.size<=X.env.locals
  inj:∀x y c,X.env.cells.lookup x=some c->X.env.cells.lookup y=some c->x=y
  has:∀x,(X.env.kindOf x=some .cell∨X.env.kindOf x=some .free)->∃c,X.env.cells.lookup x=some c
  cab:∀x c,X.fn x=true->X.env.cells.lookup x=some c->X.s₀.heap.objs.size<=c
  hd:X.calm=true->X.A.handled=none
  frames:X.A.frames=some X.stack
  stk:X.stack=X.outer∨(X.stack=X.env::X.outer/\X.env.frame=some X.env.locals)
  exf:∀b∈X.ex,b≠X.env.locals/\∀x c,X.env.cells.lookup x=some c->c≠b
  bs:∀b o,X.base.get? b=some o->X.s₀.heap.get? b=some o/\X.H₀ b=none
  bsz:X.base.objs.size<=X.s₀.heap.objs.size
  noex:∀b o,X.base.get? b=some o->b∉X.ex
  exfs:∀b∈X.ex,b∉X.fs
  funs:X.s₀.heap.FunFrames X.base X.outer
  frf:∀b∈X.fs,X.H₀ b=none
structure Inv (X:Cx) (pins:List (Addr×Obj)) (σ:List (Option V)) (H:Hp) (s:gh):Prop where
  ok:X.Ok
  os:s.os=X.s₀.os
  bare:AllBare s.gens
  base:Un X.fs X.ex X.H₀ H X.s₀.heap s.heap
  loc:∃m,s.heap.Ns X.env.locals m/\∀(i:Nat) (x:Str) (v:V),X.N[i]?=some x->σ[i]?=some (some v)->Vis X.env.scope x->∃u,o5 v u/\xw4 X.env s.heap m x u
  cell:∀x c,X.env.cells.lookup x=some c->∃v,s.heap.IsCell c v
  free:H X.env.locals=none
  freeC:∀x c,X.env.cells.lookup x=some c->H c=none
  pin:∀p∈X.pn++pins,s.heap.get? p.1=some p.2/\H p.1=none/\p.1≠X.env.locals/\p.1∉X.fs/\∀v,p.2.data≠.cell v
  hok:HOk X.prog X.w H s.heap
  len:σ.length=X.N.length
section
variable {X:Cx}{pins:List (Addr×Obj)}{σ:List (Option V)}{H H':Hp}{s:gh}{h':Heap}
theorem Cx.Ok.nofr (ok:X.Ok){b:Addr}{o:Obj}(e:X.base.get? b=some o):b∉X.fs:=λhb=>by
  have:=(ok.funs.mem hb).1
  rw[e]at this;cases this
theorem Inv.bs (I:Inv X pins σ H s):∀b o,X.base.get? b=some o->s.heap.get? b=some o/\H b=none:=λb o e =>
  ⟨I.base.keep b o (I.ok.bs b o e).1 (I.ok.bs b o e).2 (I.ok.nofr e) (I.ok.noex b o e),I.base.free b o (I.ok.bs b o e).1 (I.ok.bs b o e).2 (I.ok.noex b o e)⟩
theorem Inv.bk (I:Inv X pins σ H s):∀b o,X.base.get? b=some o->s.heap.get? b=some o:=λb o e=>(I.bs b o e).1
theorem Inv.mod (I:Inv X pins σ H s):Mod X.K X.mg X.base:=I.ok.mod
theorem Inv.kIn (I:Inv X pins σ H s):X.K.In s.heap:=I.ok.mod.kin.keeps I.bk
theorem Inv.fr (I:Inv X pins σ H s):∃m,Fr X.base X.env.locals s.heap m :=
  let ⟨m,hn,_⟩:=I.loc
  ⟨m,hn,I.bk,aM I.ok.bsz I.ok.above⟩
theorem Inv.lt (I:Inv X pins σ H s):X.env.locals<s.heap.objs.size:=let ⟨_,hn,_⟩:=I.loc;hn.lt
theorem Inv.sz (I:Inv X pins σ H s):X.s₀.heap.objs.size<=s.heap.objs.size:=aM I.ok.above (cu I.lt)
theorem Inv.nofs (I:Inv X pins σ H s){a:Addr}(h:s.heap.objs.size<=a):a∉X.fs:=λhb=>by
  obtain⟨_,o,ho,_⟩:=I.ok.funs.mem hb
  exact absurd (aV (aE ho) (aM I.sz h)) (bU _)
theorem Inv.cne (I:Inv X pins σ H s):∀x c,X.env.cells.lookup x=some c->c≠X.env.locals:=λx c e z=>by
  obtain⟨v,o,ho,hd⟩:=I.cell x c e
  obtain⟨m,⟨o',es,ep,ho',hd',_⟩,_⟩:=I.loc
  rw[z,ho']at ho;cases ho;rw[hd']at hd;cases hd
theorem Inv.funs (I:Inv X pins σ H s):s.heap.FunFrames X.base X.outer:=by
  have all:∀(l:List Env),(∀b∈frs l,b∈X.fs)->X.s₀.heap.FunFrames X.base l->s.heap.FunFrames X.base l:=by
    intro l
    induction l with
    | nil=>intro _ _;trivial
    | cons env r ih =>
      intro hs hl;obtain⟨f,⟨L,o,c,g,h,d⟩,i⟩:=hl;have a:L∈X.fs:=hs L (by unfold frs;rw[dL,c];exact ao);obtain⟨sl,e⟩:=I.base.slot L o h (I.ok.frf L a) a λz=>I.ok.exfs L z a;exact⟨f,⟨L,_,c,g,e,d⟩,ih (λb hb=>hs b (by unfold frs;rw[dL,c];exact ah _ hb)) i⟩
  exact all X.outer (λ_ hb=>hb) I.ok.funs
theorem Inv.stack (I:Inv X pins σ H s):s.heap.FunFrames X.base X.stack:=by
  rcases I.ok.stk with e|⟨e,a⟩
  . rw[e];exact I.funs
  . rw[e];obtain⟨m,b,_⟩:=I.loc;refine .cons (by rw[I.ok.kind];decide) a b ?_ I.funs;exact Heap.get?_none_of_le (aM I.ok.bsz I.ok.above)
theorem Inv.stkSub (I:Inv X pins σ H s):∀b∈frs X.stack,b∈X.env.locals::X.fs:=λb hb=>by
  rcases I.ok.stk with e|⟨e,hf⟩
  . rw[e]at hb;exact ah _ hb
  . rw[e]at hb
    unfold frs at hb
    rw[dL,hf]at hb
    exact hb
theorem Inv.stkFree (I:Inv X pins σ H s):∀b∈frs X.stack,H b=none:=λb hb=>by
  rcases ay.mp (I.stkSub b hb) with e|hb
  . rw[e];exact I.free
  . obtain⟨_, o, ho, _⟩ := I.ok.funs.mem hb
    exact I.base.free b o ho (I.ok.frf b hb) λz=>I.ok.exfs b z hb
theorem Inv.step {g' : Array GenState}{t' : Nat}{d' : Drawn}{ch : List Addr}(I : Inv X pins σ H s)
    (g:∀b∈ch,(b∈X.ex∨X.s₀.heap.objs.size<=b)/\b≠X.env.locals/\(∀x c,X.env.cells.lookup x=some c->c≠b)/\∀p∈X.pn++pins,p.1≠b)
    (keep:∀b o,b≠X.env.locals->b∉X.fs->b∉ch->s.heap.get? b=some o->H b=none->h'.get? b=some o)
    (y:∀b o,b≠X.env.locals->b∈X.fs->b∉ch->s.heap.get? b=some o->H b=none->∃sl,h'.get? b=some { o with slots:=sl }) (free:∀b o,b∉ch->s.heap.get? b=some o->H b=none->H' b=none)
    (A:∀b o,b∉ch->s.heap.get? b=some o->∃o',h'.get? b=some o')
    (G:∀b xs,H b=some (.tup xs)->H' b=some (.tup xs)) (D:∀b o u,H b=some (.frz o u)->H' b=some (.frz o u)) (F:∀b ps,H b=some (.tbl ps)->∃more,H' b=some (.tbl (ps++more)))
    (V:∀m,s.heap.Ns X.env.locals m->h'.Ns X.env.locals m) (K:HOk X.prog X.w H' h') (R:AllBare g') :
    Inv X pins σ H' { s with heap:=h',gens:=g',drawn:=d',toks:=t' }:=by
  have E:∀b o,X.s₀.heap.get? b=some o->b≠X.env.locals:=λb o e=>aP (aV (aE e) I.ok.above)
  have t:∀b o,X.s₀.heap.get? b=some o->b∉X.ex->b∉ch:=λb o e a hb=>by
    rcases (g b hb).1 with z|z
    . exact a z
    . exact absurd (aV (aE e) z) (bU _)
  have f:∀x c,X.env.cells.lookup x=some c->∀v,s.heap.IsCell c v->h'.IsCell c v:=λx c e v ⟨o,B,J⟩=>by
    have h:c∉ch:=λz=>(g c z).2.2.1 x c e rfl
    by_cases M:c∈X.fs
    . obtain⟨sl, q⟩ := y c o (I.cne x c e) M h B (I.freeC x c e)
      exact⟨_,q,J⟩
    . exact⟨o,keep c o (I.cne x c e) M h B (I.freeC x c e),J⟩
  refine⟨I.ok,I.os,R,⟨λb o e n hb a=>?_,λb o e n hb a=>?_,λb o e n a=>?_,λb o e a=>?_,λb xs e=>G b xs (I.base.tups b xs e),λb o xs e=>D b o xs (I.base.frzs b o xs e),λb ps e=>?_⟩,?_,λx c e=>?_,?_,λx c e=>?_,λp N=>?_,K,I.len⟩
  . exact keep b o (E b o e) hb (t b o e a) (I.base.keep b o e n hb a) (I.base.free b o e n a)
  . obtain⟨sl, j⟩ := I.base.slot b o e n hb a
    obtain⟨L,C⟩:=y b _ (E b o e) hb (t b o e a) j (I.base.free b o e n a)
    exact⟨L,C⟩
  . obtain⟨o', j⟩ := I.base.there b o e a
    exact free b o' (t b o e a) j (I.base.free b o e n a)
  . obtain⟨o', j⟩ := I.base.there b o e a
    exact A b o' (t b o e a) j
  . obtain⟨T, j⟩ := I.base.tbls b ps e
    obtain⟨U,C⟩:=F b _ j
    exact⟨T++U,by rw[C,Array.append_assoc]⟩
  . obtain⟨m, S, hl⟩ := I.loc
    refine⟨m,V m S,λi x v j C Q=>?_⟩
    obtain⟨u,r,l⟩:=hl i x v j C Q
    refine⟨u,r,?_⟩
    rcases l with l|⟨k,c,e,z⟩
    . exact .inl l
    . exact .inr ⟨k,c,e,f x c e _ z⟩
  . obtain⟨v, z⟩ := I.cell x c e
    exact⟨v,f x c e v z⟩
  . obtain⟨m, ⟨o, _, _, B, _⟩, _⟩ := I.loc
    exact free _ o (λz=>(g _ z).2.1 rfl) B I.free
  . obtain⟨v, o, B, J⟩ := I.cell x c e
    exact free c o (λz=>(g c z).2.2.1 x c e rfl) B (I.freeC x c e)
  . obtain⟨e, n, O, P, d⟩ := I.pin p N
    have h:p.1∉ch:=λz=>(g p.1 z).2.2.2 p N rfl
    exact⟨keep p.1 p.2 O P h e n,free p.1 p.2 h e n,O,P,d⟩
theorem Inv.un {t':Nat}(I:Inv X pins σ H s)(u:Un X.fs [] H H' s.heap h')(f:HOk X.prog X.w H' h'):Inv X pins σ H' { s with heap:=h',toks:=t' }:=by
  obtain⟨m,⟨o,es,j,g,r⟩,_⟩:=id I.loc;obtain⟨sl,h⟩:=u.any g I.free (by simp);exact I.step (g':=s.gens) (d':=s.drawn) (ch:=[]) (λ_ z=>nomatch z) (λb o _ hb _ e n=>u.keep b o e n hb (by simp)) (λb o _ hb _ e n=>u.slot b o e n hb (by simp)) (λb o _ e n=>u.free b o e n (by simp)) (λb o _ e=>u.there b o e (by simp)) u.tups u.frzs u.tbls (λk hm=>by
    obtain⟨o',d,c,a,i⟩:=hm
    rw[g]at a;cases a
    exact⟨_,d,c,h,i⟩) f I.bare
theorem Inv.call {g' : Array GenState}{t' : Nat}{d' : Drawn}{ch : List Addr}(I : Inv X pins σ H s)(u : Un (frs X.stack) ch H H' s.heap h')(j : HOk X.prog X.w H' h')(l : AllBare g')
    (d:∀b∈ch,(b∈X.ex∨X.s₀.heap.objs.size<=b)/\b≠X.env.locals/\(∀x c,X.env.cells.lookup x=some c->c≠b)/\∀p∈X.pn++pins,p.1≠b) :
    Inv X pins σ H' { s with heap:=h',gens:=g',drawn:=d',toks:=t' }:=by
  obtain⟨m,⟨o,es,t,k,r⟩,_⟩:=id I.loc;obtain⟨sl,i⟩:=u.any k I.free λz=>(d _ z).2.1 rfl;exact I.step (ch:=ch) d (λb o i hb a e n=>u.keep b o e n (λz=>(ay.mp (I.stkSub b z)).elim i hb) a) (λb o _ _ a e n=>u.any e n a) (λb o a e n=>u.free b o e n a) (λb o a e=>u.there b o e a) u.tups u.frzs u.tbls (λv hm=>by
    obtain⟨o',h,g,f,q⟩:=hm
    rw[k]at f;cases f
    exact⟨_,h,g,i,q⟩) j l
theorem Inv.turned {t' : Nat}{it : Addr}(I : Inv X pins σ H s)(k : ∀b o, b ≠ it -> s.heap.get? b = some o -> h'.get? b = some o)(i : H it = none)(f : it ≠ X.env.locals)
    (h1:it∈X.ex∨X.s₀.heap.objs.size<=it) (h2:∀x c,X.env.cells.lookup x=some c->c≠it) (h:∀p∈X.pn++pins,p.1≠it):Inv X pins σ H { s with heap:=h',toks:=t' }:=by
  have d:∀b u,H b=some u->b≠it:=λb u e z=>by rw[z,i]at e;cases e
  refine I.step (g' := s.gens) (d' := s.drawn) (ch := [it]) (λb hb => ?_) (λb o _ _ a e _ => k b o (λz => a (by simp[z])) e) (λb o _ _ a e _ => ⟨o.slots, k b o (λz => a (by simp[z])) e⟩) (λ_ _ _ _ n => n)
    (λb o a e=>⟨o,k b o (λz=>a (by simp[z])) e⟩) (λ_ _ e=>e) (λ_ _ _ e=>e) (λb ps e=>⟨#[],by rw[e];simp⟩) (λm hm=>?_) (λb u e=>?_) I.bare
  . have e : b = it := by simpa using hb
    subst e;exact⟨h1,f,h2,h⟩
  . obtain⟨o, es, g, j, r⟩ := hm;exact⟨o,es,g,k _ o (Ne.symm f) j,r⟩
  . refine(I.hok b u e).stay (λc v a q => k c v ?_ q) (λ_ q => q) λ_ _ q => q;rcases a with z|z
    . rw[z];exact d b u e
    . exact d c _ z
theorem Inv.tok (I:Inv X pins σ H s)(t:Nat):Inv X pins σ H { s with toks:=t }:=I.un (h':=s.heap) (t':=t) Un.refl I.hok
theorem Inv.kept {t':Nat}(I:Inv X pins σ H s)(k:∀b u,s.heap.get? b=some u->h'.get? b=some u):Inv X pins σ H { s with heap:=h',toks:=t' }:=I.un (Un.kept k) (I.hok.kept k)
theorem Inv.laid {a : Addr}{o : HO}{t' : Nat}(I : Inv X pins σ H s)(k : ∀b u, s.heap.get? b = some u -> h'.get? b = some u)(hp : s.heap.objs.size <= a)(new : k8 X.prog X.w (upd H a o) h' a o) :
    Inv X pins σ (upd H a o) { s with heap:=h',toks:=t' }:=I.un (Un.laid k hp (I.hok.fresh hp)) (I.hok.laid k hp new)
theorem Inv.write {x e : Addr}{o : HO}{t' : Nat}(I : Inv X pins σ H s)(mu : Mut (H x))(he : e = x∨H e = some (.own x))(k : ∀b u, b ≠ e -> s.heap.get? b = some u -> h'.get? b = some u)(heo : ∃u, h'.get? e = some u)
    (new:k8 X.prog X.w (upd H x o) h' x o):Inv X pins σ (upd H x o) { s with heap:=h',toks:=t' }:=I.un (Un.write mu he k heo) (I.hok.write mu he k heo new)
theorem Inv.pins_of {pins':List (Addr×Obj)}(I:Inv X pins σ H s)(h:∀p∈pins',s.heap.get? p.1=some p.2/\H p.1=none/\p.1≠X.env.locals/\p.1∉X.fs/\∀v,p.2.data≠.cell v):Inv X pins' σ H s :=
  ⟨I.ok,I.os,I.bare,I.base,I.loc,I.cell,I.free,I.freeC,λp hp=>(aI.mp hp).elim (λz=>I.pin p (bg _ z)) (h p),I.hok,I.len⟩
theorem yc1 {N:List Str}(e:N.Nodup){i j:Nat}{x:Str}(a:N[i]?=some x)(b:N[j]?=some x):i=j:=by
  obtain⟨h1,c⟩:=aw.mp a;obtain⟨h2,d⟩:=aw.mp b;exact(fS e).mp (c.trans d.symm)
theorem zs4 {M : Model}{A : gw}{E : Value -> gh -> Prop}{i : Nat}{x : Str}{v : V}{u : Value}{Q : Unit -> gh -> Prop}(I : Inv X pins σ H s)(hN : X.N.Nodup)(hi : X.N[i]? = some x)(hx : Loc X.env.scope x)(r : o5 v u)
    (h:∀s',Inv X pins (σ.set i (some v)) H s'->(∃a,Heap.SameBut a s.heap s'.heap/\(a=X.env.locals∨X.env.cells.lookup x=some a))->Q () s') (hf:X.fn x=true∨X.env.scope.names.lookup x=some .local:=by first|exact .inl rfl|exact .inr rfl|assumption):gr M A (storeName X.env x u) Q E s:=by
  obtain⟨m,hn,hl⟩:=id I.loc;have hcls:(X.env.scope.kind == .class || (X.env.scope.kind == .module&&X.env.locals != X.env.globals))=false:=by rw[I.ok.kind];rfl
  have hiσ:i<σ.length:=by rw[I.len];exact(aw.mp hi).1
  have cne:=I.cne;have tracked:∀{a:Addr} {h':Heap},(∃o,s.heap.get? a=some o/\H a=none)->Heap.SameBut a s.heap h'->HOk X.prog X.w H h':=λ{a h'} ha hs b ob e=>by
    obtain⟨_,_,hfree⟩:=ha;refine(I.hok b ob e).stay (λc w' hc q=>(hs.2 c ?_).trans q) (λ_ q=>q) λ_ _ q=>q;rintro rfl;rcases hc with rfl|hc
    . rw[hfree]at e;cases e
    . rw[hfree]at hc;cases hc
  rcases hx with hk|hk
  . refine wpAny_storeName_local hk hn (λh' hn' hs => ?_) hcls;obtain⟨oL,_,_,hoL,_⟩:=id hn;refine h _ ⟨I.ok,I.os,I.bare,⟨λb o e n hb hx=>?_,λb o e n hb hx=>?_,I.base.free,λb o e hx=>?_,I.base.tups,I.base.frzs,I.base.tbls⟩,⟨_,hn',λj y v' e1 e2 e3=>?_⟩,λy c e=>?_,I.free,I.freeC,λp hp=>?_,tracked ⟨oL,hoL,I.free⟩ hs,by simpa using I.len⟩ ⟨_,hs,.inl rfl⟩
    . exact(hs.2 b (aP (aV (aE e) I.ok.above))).trans (I.base.keep b o e n hb hx)
    . obtain⟨sl, e1⟩ := I.base.slot b o e n hb hx;exact⟨sl,(hs.2 b (aP (aV (aE e) I.ok.above))).trans e1⟩
    . obtain⟨o', e1⟩ := I.base.there b o e hx;exact⟨o',(hs.2 b (aP (aV (aE e) I.ok.above))).trans e1⟩
    . by_cases hj : j = i
      . subst hj;rw[hi]at e1;cases e1;rw[cf hiσ]at e2
        cases e2
        exact⟨u,r,.inl ⟨hk,by simp⟩⟩
      . rw[bM (Ne.symm hj)]at e2;obtain⟨u',r',q⟩:=hl j y v' e1 e2 e3;refine⟨u',r',?_⟩;rcases q with⟨k,e⟩|⟨k,c,e,z⟩
        . refine .inl ⟨k, ?_⟩;have:y≠x:=λe=>hj (yc1 hN e1 (e ▸ hi));simp[this,e]
        . exact .inr ⟨k,c,e,z.sameBut hs (cne y c e)⟩
    . obtain⟨w', z⟩ := I.cell y c e;exact⟨w',z.sameBut hs (cne y c e)⟩
    . obtain⟨e, n, ne, nf, d⟩ := I.pin p hp;exact⟨(hs.2 p.1 ne).trans e,n,ne,nf,d⟩
  . have hfn:X.fn x=true:=by
      rcases hf with z|z
      . exact z
      . rw[z]at hk;cases hk
    obtain⟨c,hc⟩:=I.ok.has x (.inl hk);obtain⟨w',z⟩:=I.cell x c hc;refine wpAny_storeName_cell I.ok.kind hk hc z (λh' hc' hs=>?_);obtain⟨oc,hoc,hocd⟩:=id z;refine h { s with heap:=h' } ⟨I.ok,I.os,I.bare,⟨λb o e n hb hx=>?_,λb o e n hb hx=>?_,I.base.free,λb o e hx=>?_,I.base.tups,I.base.frzs,I.base.tbls⟩,⟨m,hn.sameBut hs (Ne.symm (cne x c hc)),λj y v' e1 e2 e3=>?_⟩,λy c' e=>?_,I.free,I.freeC,λp hp=>?_,tracked ⟨oc,hoc,I.freeC x c hc⟩ hs,by simpa using I.len⟩ ⟨c,hs,.inr hc⟩
    . exact(hs.2 b (aP (aV (aE e) (I.ok.cab x c hfn hc)))).trans (I.base.keep b o e n hb hx)
    . obtain⟨sl, e1⟩ := I.base.slot b o e n hb hx;exact⟨sl,(hs.2 b (aP (aV (aE e) (I.ok.cab x c hfn hc)))).trans e1⟩
    . obtain⟨o', e1⟩ := I.base.there b o e hx;exact⟨o',(hs.2 b (aP (aV (aE e) (I.ok.cab x c hfn hc)))).trans e1⟩
    . by_cases hj : j = i
      . subst hj;rw[hi]at e1;cases e1;rw[cf hiσ]at e2
        cases e2
        exact⟨u,r,.inr ⟨.inl hk,c,hc,hc'⟩⟩
      . rw[bM (Ne.symm hj)]at e2;obtain⟨u',r',q⟩:=hl j y v' e1 e2 e3;refine⟨u',r',?_⟩;rcases q with q|⟨k,c',e,z'⟩
        . exact .inl q
        . refine .inr ⟨k, c', e, z'.sameBut hs ?_⟩;rintro rfl;exact hj (yc1 hN e1 (I.ok.inj _ _ _ e hc ▸ hi))
    . by_cases hcc : c' = c
      . subst hcc;exact⟨_,hc'⟩
      . obtain⟨w2, z2⟩ := I.cell y c' e;exact⟨w2,z2.sameBut hs hcc⟩
    . obtain⟨e, n, ne, nf, d⟩ := I.pin p hp;refine⟨(hs.2 p.1 ?_).trans e,n,ne,nf,d⟩;intro q;rw[q,hoc]at e;have q':oc=p.2:=Option.some.inj e;exact d w' (by rw[←q'];exact hocd)
theorem E9 {M : Model}{A : gw}{E : Value -> gh -> Prop}{i : Nat}{x : Str}{v : V}{u : Value}{Q : Unit -> gh -> Prop}(I : Inv X pins σ H s)(hN : X.N.Nodup)(hi : X.N[i]? = some x)(hx : Loc X.env.scope x)(r : o5 v u)
    (h:∀s',Inv X pins (σ.set i (some v)) H s'->Q () s') (hf:X.fn x=true∨X.env.scope.names.lookup x=some .local:=by first|exact .inl rfl|exact .inr rfl|assumption):gr M A (storeName X.env x u) Q E s :=
  zs4 I hN hi hx r (λs' I' _=>h s' I') hf
theorem Inv.call' {s' : gh}{ch : List Addr}(I : Inv X pins σ H s)(g : s'.os = s.os)(u : Un (frs X.stack) ch H H' s.heap s'.heap)(d : HOk X.prog X.w H' s'.heap)(f : AllBare s'.gens)
    (a:∀b∈ch,(b∈X.ex∨X.s₀.heap.objs.size<=b)/\b≠X.env.locals/\(∀x c,X.env.cells.lookup x=some c->c≠b)/\∀p∈X.pn++pins,p.1≠b):Inv X pins σ H' s':=by
  obtain⟨h',g',d',t',o'⟩:=s';have e:o'=s.os:=g;subst e;exact I.call (g':=g') (t':=t') (d':=d') u d f a
end
abbrev XK:=Value->Option Addr->Hp->Prop
abbrev St:=List (Option V)
abbrev VK:=V->Hp->Prop
abbrev TE:=St->Hp->VK->Prop
abbrev TT:=St->Hp->(Bool->Hp->Prop)->Prop
abbrev TA:=St->Hp->(List V->Hp->Prop)->Prop
structure zg8 where
  nx:St->Hp->Prop
  rt:VK
  bk:St->Hp->Prop:=λ_ _=>False
  ct:St->Hp->Prop:=λ_ _=>False
abbrev TS:=zg8->St->Hp->Prop
def EP (X:Cx)(pins:List (Addr×Obj))(σ:St)(Q:VK)(u:Value)(s':gh):Prop:=∃v H',Inv X pins σ H' s'/\o5 v u/\Q v H'
def TP (X:Cx)(pins:List (Addr×Obj))(σ:St)(Q:Bool->Hp->Prop)(b:Bool)(s':gh):Prop:=∃H',Inv X pins σ H' s'/\Q b H'
def AP (X:Cx)(pins:List (Addr×Obj))(σ:St)(Q:List V->Hp->Prop)(us:List Value)(s':gh):Prop:=∃vs H',Inv X pins σ H' s'/\o0 vs us/\Q vs H'
def SP (X:Cx)(pins:List (Addr×Obj))(D:zg8)(f:Flow)(s':gh):Prop :=
  match f with
  | .next=>∃σ' H',Inv X pins σ' H' s'/\D.nx σ' H'
  | .brk=>∃σ' H',Inv X pins σ' H' s'/\D.bk σ' H'
  | .cont=>∃σ' H',Inv X pins σ' H' s'/\D.ct σ' H'
  | .ret u=>∃v σ' H',Inv X pins σ' H' s'/\o5 v u/\D.rt v H'
def PE (X:Cx)(e:Expr)(t:TE):Prop :=
  ∀(pins:List (Addr×Obj)) (s:gh) (σ:St) (H:Hp) (Q:VK),Inv X pins σ H s->t σ H Q->gr (gu X.prog X.w) X.A (eval e X.env) (EP X pins σ Q) X.xe s
def PT (X:Cx)(e:Expr)(t:TT):Prop :=
  ∀(pins:List (Addr×Obj)) (s:gh) (σ:St) (H:Hp) (Q:Bool->Hp->Prop),Inv X pins σ H s->t σ H Q->gr (gu X.prog X.w) X.A (isTrue e X.env (eval e X.env)) (TP X pins σ Q) X.xe s
def PW (X:Cx)(e:Expr)(t:TT):Prop :=
  ∀(whole:Sem Value) (pins:List (Addr×Obj)) (s:gh) (σ:St) (H:Hp) (Q:Bool->Hp->Prop),Inv X pins σ H s->t σ H Q->gr (gu X.prog X.w) X.A (isTrue e X.env whole) (TP X pins σ Q) X.xe s
theorem PW.pt {X:Cx}{e:Expr}{t:TT}(h:PW X e t):PT X e t:=h _
def PA (X:Cx)(es:List Expr)(t:TA):Prop :=
  ∀(pos:Pos) (pins:List (Addr×Obj)) (s:gh) (σ:St) (H:Hp) (Q:List V->Hp->Prop),Inv X pins σ H s->t σ H Q->gr (gu X.prog X.w) X.A (spliced (backTo pos (gs es X.env))) (AP X pins σ Q) X.xe s
def PS (X:Cx)(st:Stmt)(t:TS):Prop :=
  ∀(pins:List (Addr×Obj)) (s:gh) (σ:St) (H:Hp) (D:zg8),Inv X pins σ H s->t D σ H->gr (gu X.prog X.w) X.A (exec st X.env) (SP X pins D) X.xe s
def PSs (X:Cx)(st:List Stmt)(t:TS):Prop :=
  ∀(pins:List (Addr×Obj)) (s:gh) (σ:St) (H:Hp) (D:zg8),Inv X pins σ H s->t D σ H->gr (gu X.prog X.w) X.A (execs st X.env) (SP X pins D) X.xe s
theorem thn {α:Type}{t:Sem α}{Q Q':α->gh->Prop}{M:Model}{A:gw}{E:Value->gh->Prop}{s:gh}(h:gr M A t Q E s)(hQ:∀a s,Q a s->Q' a s):gr M A t Q' E s:=gz h hQ λ_ _ x=>x
section
variable {X:Cx}
def xv9 (i:Nat):TE:=λσ H Q=>∃v,σ[i]?=some (some v)/\Q v H
def tC (v:V):TE:=λ_ H Q=>Q v H
theorem xq3 {i:Nat}{x:Str}{pos:Pos}(hN:X.N[i]?=some x)(hv:Vis X.env.scope x)(hd:(x==("__debug__":Str))=false:=by decide)(hcd:(x==("__classdict__":Str))=false:=by decide):PE X (.Name x pos) (xv9 i):=by
  intro pins s σ H Q I h;obtain⟨v,e,h⟩:=h;obtain⟨m,hn,hl⟩:=I.loc;obtain⟨u,r,l⟩:=hl i x v hN e hv;have fin:EP X pins σ Q u s:=⟨v,H,I,r,h⟩;rcases l with⟨hk,hm⟩|⟨hk,c,hc,hcell⟩
  . exact wpAny_Name (wpAny_loadName_local I.ok.kind hk hn hm fin) hd
  . rcases hk with hk|hk
    . exact wpAny_Name (wpAny_loadName_cell I.ok.kind hk hc hcell fin) hd
    . exact wpAny_Name (wpAny_loadName_free I.ok.kind hk hc hcell fin hcd) hd
theorem z8 {i j pos}:PE X (.Constant (.int i) j pos) (tC (.int i)):=λ_ _ _ H _ I h=>wpAny_Constant_int ⟨.int i,H,I.tok _,⟨_,rfl⟩,h⟩
theorem Z5 {b j pos}:PE X (.Constant (.bool b) j pos) (tC (.bl b)):=λ_ _ _ H _ I h=>Constant_bool ⟨.bl b,H,I,rfl,h⟩
theorem zw9 {j pos}:PE X (.Constant .none j pos) (tC .non):=λ_ _ _ H _ I h=>Constant_none ⟨.non,H,I,rfl,h⟩
theorem zl2 {x j pos}:PE X (.Constant (.str x) j pos) (tC (.str x)):=λ_ _ _ H _ I h=>Calls.Constant_str ⟨.str x,H,I.tok _,⟨_,rfl⟩,h⟩
def Gl (X:Cx)(x:Str):Prop:=X.env.kindOf x=some .globalImplicit
theorem zv0 {E : Value -> gh -> Prop}{pins : List (Addr×Obj)}{s : gh}{σ : St}{H : Hp}{x : Str}{u : Value}{pos : Pos}{Q : Value -> gh -> Prop}(I : Inv X pins σ H s)(hg : Gl X x)(hm : X.mg x = some u)(h : Q u s)
    (hd:(x==("__debug__":Str))=false:=by decide):gr (gu X.prog X.w) X.A (eval (.Name x pos) X.env) Q E s :=
  Calls.Name_function_global I.ok.kind hg (Calls.loadGlobal_global (by rw[I.ok.glob];exact I.mod.glob.keeps I.bk) hm h) hd
theorem B2 {E : Value -> gh -> Prop}{pins : List (Addr×Obj)}{s : gh}{σ : St}{H : Hp}{x : Str}{u : Value}{pos : Pos}{Q : Value -> gh -> Prop}(I : Inv X pins σ H s)(hg : Gl X x)(hm : X.mg x = none)(hv : gB x = some u)(h : Q u s)
    (hn:x≠"__name__":=by decide) (hd:(x==("__debug__":Str))=false:=by decide):gr (gu X.prog X.w) X.A (eval (.Name x pos) X.env) Q E s:=by
  obtain⟨mb,h1,h2⟩:=I.mod.blt;exact Calls.Name_function_global I.ok.kind hg (Calls.loadGlobal_builtin (by rw[I.ok.glob];exact I.mod.glob.keeps I.bk) hm (by rw[I.ok.blt];exact h1.keeps I.bk) ((h2 x hn).trans hv) h) hd
theorem xh9 {x:Str}{v:V}{u:Value}{pos:Pos}(hg:Gl X x)(hm:X.mg x=some u)(r:o5 v u)(hd:(x==("__debug__":Str))=false:=by decide):PE X (.Name x pos) (tC v) :=
  λ_ _ _ H _ I h=>zv0 I hg hm ⟨v,H,I,r,h⟩ hd
theorem D5 {x:Str}{v:V}{u:Value}{pos:Pos}(hg:Gl X x)(hm:X.mg x=none)(hv:gB x=some u)(r:o5 v u)(hn:x≠"__name__":=by decide)(hd:(x==("__debug__":Str))=false:=by decide):PE X (.Name x pos) (tC v) :=
  λ_ _ _ H _ I h=>B2 I hg hm hv ⟨v,H,I,r,h⟩ hn hd
variable {a b:Expr}{ta tb:TE}{pos:Pos}
def PC (X:Cx)(op:CmpOp)(a b:Expr)(t:TE):Prop :=
  ∀(pins:List (Addr×Obj)) (s:gh) (σ:St) (H:Hp) (Q:VK),Inv X pins σ H s->t σ H Q ->
    gr (gu X.prog X.w) X.A (eval a X.env) (λv s₁=>gr (gu X.prog X.w) X.A (eval b X.env) (λu s₂=>gr (gu X.prog X.w) X.A (compareOp op v u) (EP X pins σ Q) X.xe s₂) X.xe s₁) X.xe s
theorem yz9 (b:Expr){a:CmpOp}(h:a≠.In)(h2:a≠.NotIn):behindInMarks a b=false:=by
  have c:(a==CmpOp.In)=false:=by cases a <;> first|rfl|exact absurd rfl h
  have d:(a==CmpOp.NotIn)=false:=by cases a <;> first|rfl|exact absurd rfl h2
  cases b <;> simp[behindInMarks,c,d]
def xy3 (ta:TE):TE:=λσ H Q=>ta σ H λx H1=>Q (.bl (decide (x=.non))) H1
theorem o5.none_iff {x:V}{v:Value}(r:o5 x v):(v==Value.none)=decide (x=.non):=by
  cases x with
  | non=>cases r;rfl
  | bl _=>cases r;rfl
  | int _=>obtain⟨t,rfl⟩:=r;rfl
  | str _=>obtain⟨t,rfl⟩:=r;rfl
  | byt _=>obtain⟨t,rfl⟩:=r;rfl
  | flt _=>obtain⟨t,rfl⟩:=r;rfl
  | ref _=>cases r;rfl
  | ty _=>cases r;rfl
theorem xp6 {j pos'}(c:PE X a ta):PC X .Is a (.Constant .none j pos') (xy3 ta):=by
  intro pins s σ H Q I h;refine thn (c pins s σ H _ I h) λv f ⟨x,H1,b,e,d⟩=>?_;exact Constant_none (is_none_gen ⟨.bl _,H1,b,by rw[e.none_iff];rfl,d⟩)
def tB (t:TE):TT:=λσ H Q=>t σ H λx H1=>∃c,x=.bl c/\Q c H1
theorem B7 {op:CmpOp}{t:TE}(h:PC X op a b t)(h1:behindInMarks op b=false:=by first|exact yz9 _ (by decide) (by decide)|rfl):PT X (.Compare a [op] [b] pos) (tB t):=by
  intro pins s σ H Q I hw;refine wpAny_isTrue_Compare1 (thn (h pins s σ H _ I hw) λv s1 h1=>thn h1 λu s2 h2=>thn h2 λc s3 ⟨x,H1,I1,r1,q1⟩=>?_) h1;obtain⟨d,rfl,q⟩:=q1
  cases r1
  exact wpAny_truthy_bool ⟨H1,I1,q⟩
theorem P8 {e:Expr}{t:TE}(h:PE X e t)(he:∀whole,isTrue e X.env whole=(do let v ←whole;standAt e.pos;holding [v] (truthy v)):=by intro _;rfl):PT X e (tB t):=by
  intro pins s σ H Q I hw;refine isTrue_plain (thn (h pins s σ H _ I hw) λv s1 ⟨x,H1,I1,r1,q1⟩=>?_) (he _);obtain⟨d,rfl,q⟩:=q1
  cases r1
  exact wpAny_truthy_bool ⟨H1,I1,q⟩
variable {tA tB':TT}{Y3:List Expr}
def xx7 (t u:TT):TT:=λσ H Q=>t σ H λc H1=>if c=true then u σ H1 Q else Q false H1
def tOr (t u:TT):TT:=λσ H Q=>t σ H λc H1=>if c=true then Q true H1 else u σ H1 Q
def xy5 (t:TT):TT:=λσ H Q=>t σ H λc H1=>Q (!c) H1
theorem zx4 (b:PT X a tA):PW X (.BoolOp .And [a] pos) tA:=by
  intro f pins s σ H Q I h;refine isTrue_and (thn (b pins s σ H Q I h) λc d e=>?_)
  cases c with
  | true=>exact isTrue_and_nil e
  | false=>exact e
theorem zl8 (b:PT X a tA):PW X (.BoolOp .Or [a] pos) tA:=by
  intro f pins s σ H Q I h;refine isTrue_or (thn (b pins s σ H Q I h) λc d e=>?_)
  cases c with
  | false=>exact isTrue_or_nil e
  | true=>exact e
theorem yi6 (f:PT X a tA)(hb:PW X (.BoolOp .And (b::Y3) pos) tB'):PW X (.BoolOp .And (a::b::Y3) pos) (xx7 tA tB'):=by
  intro i pins s σ H Q I h;refine isTrue_and (thn (f pins s σ H _ I h) λc g ⟨H1,d,e⟩=>?_)
  cases c with
  | true=>exact hb i pins g σ H1 Q d e
  | false=>exact⟨H1,d,e⟩
theorem yd3 (f:PT X a tA)(hb:PW X (.BoolOp .Or (b::Y3) pos) tB'):PW X (.BoolOp .Or (a::b::Y3) pos) (tOr tA tB'):=by
  intro i pins s σ H Q I h;refine isTrue_or (thn (f pins s σ H _ I h) λc g ⟨H1,d,e⟩=>?_)
  cases c with
  | true=>exact⟨H1,d,e⟩
  | false=>exact hb i pins g σ H1 Q d e
theorem E2 (b:PT X a tA):PT X (.UnaryOp .Not a pos) (xy5 tA):=by
  intro pins s σ H Q I h;exact isTrue_not (b pins s σ H (λc H1=>Q (!c) H1) I h)
def xv0 (ta tb:TE):TE:=λσ H Q=>ta σ H λx H1=>∃c,x=.bl c/\if c=true then tb σ H1 Q else Q (.bl false) H1
def xy6 (ta tb:TE):TE:=λσ H Q=>ta σ H λx H1=>∃c,x=.bl c/\if c=true then Q (.bl true) H1 else tb σ H1 Q
def xv6 (ta:TE):TE:=λσ H Q=>ta σ H λx H1=>∃c,x=.bl c/\Q (.bl (!c)) H1
theorem zl1 {op}{t:TE}(h:PE X a t):PE X (.BoolOp op [a] pos) t:=λpins s σ H Q I hw=>BoolOp_one (h pins s σ H Q I hw)
theorem zw6 (f:PE X a ta)(hb:PE X (.BoolOp .And (b::Y3) pos) tb):PE X (.BoolOp .And (a::b::Y3) pos) (xv0 ta tb):=by
  intro pins s σ H Q I h;refine BoolOp_and (thn (f pins s σ H _ I h) λv i ⟨x,H1,e,g,d⟩=>?_);obtain⟨c,rfl,d⟩:=d
  cases g
  refine wpAny_truthy_bool ?_
  cases c with
  | true=>exact hb pins i σ H1 Q e d
  | false=>exact⟨.bl false,H1,e,rfl,d⟩
theorem xu1 (f:PE X a ta)(hb:PE X (.BoolOp .Or (b::Y3) pos) tb):PE X (.BoolOp .Or (a::b::Y3) pos) (xy6 ta tb):=by
  intro pins s σ H Q I h;refine BoolOp_or (thn (f pins s σ H _ I h) λv i ⟨x,H1,e,g,d⟩=>?_);obtain⟨c,rfl,d⟩:=d
  cases g
  refine wpAny_truthy_bool ?_
  cases c with
  | false=>exact hb pins i σ H1 Q e d
  | true=>exact⟨.bl true,H1,e,rfl,d⟩
theorem xq2 (e:PE X a ta):PE X (.UnaryOp .Not a pos) (xv6 ta):=by
  intro pins s σ H Q I h;refine UnaryOp_ (thn (e pins s σ H _ I h) λv g ⟨x,H1,d,f,b⟩=>?_);obtain⟨c,rfl,b⟩:=b
  cases f
  exact not_of (wpAny_truthy_bool ⟨.bl (!c),H1,d,rfl,b⟩)
def tIf (t:TT)(ta tb:TE):TE:=λσ H Q=>t σ H λc H1=>if c=true then ta σ H1 Q else tb σ H1 Q
theorem xa6 {c:Expr}(hc:PT X c tA)(i:PE X a ta)(hb:PE X b tb):PE X (.IfExp c a b pos) (tIf tA ta tb):=by
  intro pins s σ H Q I h;refine wpAny_IfExp (thn (hc pins s σ H _ I h) λd g ⟨H1,e,f⟩=>?_)
  cases d with
  | true=>exact i pins g σ H1 Q e f
  | false=>exact hb pins g σ H1 Q e f
end
def SqL (K:W.Frag)(H:Hp)(a:Addr)(xs:List V):Prop :=
  Rd H a (.lst xs) ∨
    ∃(o:Obj) (its:Array Value) (n:Nat),K.lookup a=some o/\o.cls=.type "list"/\o.dict=none/\o.data=.seq its n/\its.size<=gn/\o0 xs its.toList
def SqT (K:W.Frag)(H:Hp)(a:Addr)(xs:List V):Prop :=
  Rd H a (.tup xs) ∨
    ∃(o:Obj) (its:Array Value) (n:Nat),K.lookup a=some o/\o.cls=.type "tuple"/\o.data=.seq its n/\its.size<=gn/\o0 xs its.toList
def xw5 : Value -> Option V
  | .none=>some .non
  | .bool b=>some (.bl b)
  | .int i _=>some (.int i)
  | .str x _=>some (.str x)
  | .bytes b _=>some (.byt b)
  | .float b _=>some (.flt b)
  | .ref a=>some (.ref a)
  | .type n=>some (.ty n)
  | _=>none
theorem o5.abs {x:V}{u:Value}(r:o5 x u):xw5 u=some x:=by
  cases x with
  | non=>cases r;rfl
  | bl _=>cases r;rfl
  | int _=>obtain⟨t,rfl⟩:=r;rfl
  | str _=>obtain⟨t,rfl⟩:=r;rfl
  | byt _=>obtain⟨t,rfl⟩:=r;rfl
  | flt _=>obtain⟨t,rfl⟩:=r;rfl
  | ref _=>cases r;rfl
  | ty _=>cases r;rfl
theorem o5.inj {x y:V}{u:Value}(r:o5 x u)(q:o5 y u):x=y:=Option.some.inj (r.abs.symm.trans q.abs)
theorem o0.inj : ∀{xs ys : List V} {us : List Value}, o0 xs us -> o0 ys us -> xs = ys
  | _,_,_,.nil,.nil=>rfl
  | _,_,_,.cons r t,.cons r' t'=>by rw[r.inj r',o0.inj t t']
section
variable {X:Cx}{pins:List (Addr×Obj)}{σ:St}{H:Hp}{s:gh}{a:Addr}{xs ys:List V}
theorem SqL.of {K:W.Frag}(h:H a=some (.lst xs)):SqL K H a xs:=.inl (.inl h)
theorem SqT.of {K:W.Frag}(h:H a=some (.tup xs)):SqT K H a xs:=.inl (.inl h)
theorem Inv.list (I:Inv X pins σ H s)(h:SqL X.K H a xs):∃b:List Value,o0 xs b/\PlainL s.heap a b.toArray/\xs.length<=gn:=by
  rcases h with h|⟨o,b,n,f,c,d,hs,g,r⟩
  . obtain⟨z, b, n, r, e⟩ := h.ok I.hok;exact⟨b,r,⟨_,n,e,rfl,rfl,rfl⟩,z⟩
  . refine⟨b.toList, r, ⟨o, n, I.kIn a o f, c, d, by simpa using hs⟩, ?_⟩;have e:=r.length;simp only[aG]at e;lia
theorem Inv.tuple (I:Inv X pins σ H s)(h:SqT X.K H a xs):∃b:List Value,o0 xs b/\IsTup s.heap a b.toArray/\xs.length<=gn:=by
  rcases h with h|⟨o,b,n,d,c,hs,f,r⟩
  . obtain⟨z, b, r, p⟩ := h.ok I.hok;exact⟨b,r,p.is,z⟩
  . refine⟨b.toList, r, ⟨o, I.kIn a o d, c, n, by simpa using hs⟩, ?_⟩;have e:=r.length;simp only[aG]at e;lia
theorem Inv.list_inj (I:Inv X pins σ H s)(h:SqL X.K H a xs)(h':SqL X.K H a ys):xs=ys:=by
  obtain⟨c,r,⟨o,n,e,_,_,d⟩,_⟩:=I.list h;obtain⟨b,i,⟨o',j,g,_,_,f⟩,_⟩:=I.list h';rw[e]at g;cases g;rw[d]at f;injection f with d1 _
  have:c=b:=by simpa using congrArg Array.toList d1
  subst this;exact r.inj i
theorem Inv.tuple_inj (I:Inv X pins σ H s)(h:SqT X.K H a xs)(h':SqT X.K H a ys):xs=ys:=by
  obtain⟨c,r,⟨o,e,_,n,d⟩,_⟩:=I.tuple h;obtain⟨b,i,⟨o',g,_,j,f⟩,_⟩:=I.tuple h';rw[e]at g;cases g;rw[d]at f;injection f with d1 _
  have:c=b:=by simpa using congrArg Array.toList d1
  subst this;exact r.inj i
end
abbrev Cx.wish (X:Cx) (E:Value->gh->Prop):Cx:={ X with xe:=E }
abbrev Cx.nox (X:Cx):Cx:=X.wish λ_ _=>False
theorem Cx.Ok.wish {X:Cx}(ok:X.Ok)(E:Value->gh->Prop):(X.wish E).Ok :=
  ⟨ok.mod,ok.kind,ok.glob,ok.blt,ok.above,ok.inj,ok.has,ok.cab,ok.hd,ok.frames,ok.stk,ok.exf,ok.bs,ok.bsz,ok.noex,ok.exfs,ok.funs,ok.frf⟩
theorem Cx.Ok.unwish {X:Cx}{E:Value->gh->Prop}(ok:(X.wish E).Ok):X.Ok :=
  ⟨ok.mod,ok.kind,ok.glob,ok.blt,ok.above,ok.inj,ok.has,ok.cab,ok.hd,ok.frames,ok.stk,ok.exf,ok.bs,ok.bsz,ok.noex,ok.exfs,ok.funs,ok.frf⟩
section
variable {X:Cx}{pins:List (Addr×Obj)}{σ:St}{H:Hp}{s:gh}{E:Value->gh->Prop}
theorem Inv.wish (I:Inv X pins σ H s)(E:Value->gh->Prop):Inv (X.wish E) pins σ H s:=⟨I.ok.wish E,I.os,I.bare,I.base,I.loc,I.cell,I.free,I.freeC,I.pin,I.hok,I.len⟩
theorem Inv.unwish (I:Inv (X.wish E) pins σ H s):Inv X pins σ H s:=⟨I.ok.unwish,I.os,I.bare,I.base,I.loc,I.cell,I.free,I.freeC,I.pin,I.hok,I.len⟩
theorem SP.unwish {D:zg8}{f:Flow}{s':gh}(h:SP (X.wish E) pins D f s'):SP X pins D f s':=by
  cases f with
  | next=>obtain⟨a,H',I,q⟩:=h;exact⟨a,H',I.unwish,q⟩
  | brk=>obtain⟨a,H',I,q⟩:=h;exact⟨a,H',I.unwish,q⟩
  | cont=>obtain⟨a,H',I,q⟩:=h;exact⟨a,H',I.unwish,q⟩
  | ret u=>obtain⟨v,a,H',I,r,q⟩:=h;exact⟨v,a,H',I.unwish,r,q⟩
theorem PSs.nox {st:List Stmt}{t:TS}(h:PSs X.nox st t):PSs X st t:=λpins s σ H D I hw =>
  gz (h pins s σ H D (I.wish _) hw) (λ_ _ q=>q.unwish) λ_ _ z=>False.elim z
end
section
variable {X:Cx}{st:Stmt}{Y3:List Stmt}{t u:TS}{e:Expr}{te:TE}{pos:Pos}
def xl3:TS:=λD σ H=>D.nx σ H
def xr4 (t u:TS):TS:=λD σ H=>t { D with nx:=u D } σ H
theorem u5:PSs X [] xl3:=λ_ _ σ H _ I h=>wpAny_execs_nil ⟨σ,H,I,h⟩
theorem z6 (h1:PS X st t)(h2:PSs X Y3 u):PSs X (st::Y3) (xr4 t u):=by
  intro pins s σ H D I h;refine wpAny_execs_cons (thn (h1 pins s σ H { D with nx:=u D } I h) λf b q=>?_)
  cases f with
  | next =>
    obtain⟨c,H',a,q⟩:=q;exact h2 pins b c H' D a q
  | ret v=>exact q
  | brk=>exact q
  | cont=>exact q
theorem z7 (h1:PS X st t):PSs X [st] t:=by
  intro pins s σ H D I h;refine wpAny_execs_cons (thn (h1 pins s σ H D I h) λf a q=>?_)
  cases f with
  | next=>exact wpAny_execs_nil q
  | ret v=>exact q
  | brk=>exact q
  | cont=>exact q
def xv2:TS:=λD σ H=>D.ct σ H
theorem yd1:PS X (.Continue pos) xv2:=λ_ _ σ H _ I h=>wpAny_Continue ⟨σ,H,I,h⟩
theorem Inv.quiet {pins:List (Addr×Obj)}{σ:St}{H:Hp}{s:gh}(I:Inv X pins σ H s):interactive X.env=false:=by simp[interactive,I.ok.kind]
def xv5 (te:TE):TS:=λD σ H=>te σ H λ_ H1=>D.nx σ H1
theorem i3 (he:PE X e te)(hs:swapsWith e none pos.line X.env=pure false:=by rfl):PS X (.Expr e pos) (xv5 te):=by
  intro pins s σ H D I h;exact wpAny_Expr_any (thn (he pins s σ H _ I h) λv s1 ⟨x,H1,I1,r1,q1⟩=>⟨σ,H1,I1,q1⟩) I.quiet hs
def xy8 (te:TE):TS:=λD σ H=>te σ H D.rt
theorem u4 (b:PE X e te):PS X (.Return (some e) pos) (xy8 te):=by
  intro pins s σ H D I h;exact wpAny_Return_some (thn (b pins s σ H _ I h) λv f ⟨x,H1,a,d,c⟩=>⟨x,σ,H1,a,d,c⟩)
def xy2 (c:TT)(t u:TS):TS:=λD σ H=>c σ H λb H1=>if b=true then t D σ H1 else u D σ H1
theorem o3 {c:Expr}{a b:List Stmt}{tc:TT}(hc:PT X c tc)(i:PSs X a t)(hb:PSs X b u):PS X (.If c a b pos) (xy2 tc t u):=by
  intro pins s σ H D I h;refine wpAny_If (thn (hc pins s σ H _ I h) λd g ⟨H1,e,f⟩=>?_)
  cases d with
  | true=>exact i pins g σ H1 D e f
  | false=>exact hb pins g σ H1 D e f
def xr3:TS:=λ_ _ _=>False
theorem zl5:PS X st xr3:=λ_ _ _ _ _ _ h=>h.elim
end
abbrev TG:=V->St->Hp->(St->Hp->Prop)->Prop
abbrev TGs:=List V->St->Hp->(St->Hp->Prop)->Prop
def PG (X:Cx)(target:Expr)(t:TG):Prop :=
  ∀(pins:List (Addr×Obj)) (s:gh) (σ:St) (H:Hp) (v:V) (u:Value) (Q:St->Hp->Prop),Inv X pins σ H s->o5 v u->t v σ H Q ->
    gr (gu X.prog X.w) X.A (assign target X.env u) (λ_ s'=>∃σ' H',Inv X pins σ' H' s'/\Q σ' H') X.xe s
def PGs (X:Cx)(ts:List Expr)(t:TGs):Prop :=
  ∀(pins:List (Addr×Obj)) (s:gh) (σ:St) (H:Hp) (vs:List V) (us:List Value) (Q:St->Hp->Prop),Inv X pins σ H s->o0 vs us->t vs σ H Q ->
    gr (gu X.prog X.w) X.A (assignInOrder ((assignEach ts X.env).map (·.2)) us) (λ_ s'=>∃σ' H',Inv X pins σ' H' s'/\Q σ' H') X.xe s
abbrev xl8:=V->V->V->Hp->(Hp->Prop)->Prop
def xs0 (X:Cx)(t:xl8):Prop :=
  ∀(pins:List (Addr×Obj)) (s:gh) (σ:St) (H:Hp) (o i v:V) (ov iv u:Value) (Q:Hp->Prop),Inv X pins σ H s->o5 o ov->o5 i iv->o5 v u->t o i v H Q ->
    gr (gu X.prog X.w) X.A (setItem ov iv u) (λ_ s'=>∃H',Inv X pins σ H' s'/\Q H') X.xe s
abbrev TIp:=V->V->Hp->VK->Prop
def PIp (X:Cx)(op:Operator)(t:TIp):Prop :=
  ∀(pins:List (Addr×Obj)) (s:gh) (σ:St) (H:Hp) (x y:V) (v u:Value) (Q:VK),Inv X pins σ H s->o5 x v->o5 y u->t x y H Q ->
    gr (gu X.prog X.w) X.A (inplaceOp op v u) (EP X pins σ Q) X.xe s
section
variable {X:Cx}{pos:Pos}
def Z0 (i:Nat):TG:=λv σ H Q=>Q (σ.set i (some v)) H
theorem p6 {i:Nat}{x:Str}(hN:X.N.Nodup)(hi:X.N[i]?=some x)(hx:Loc X.env.scope x)(hf:X.fn x=true∨X.env.scope.names.lookup x=some .local:=by first|exact .inl rfl|exact .inr rfl|assumption):PG X (.Name x pos) (Z0 i):=by
  intro pins s σ H v u Q I r h;exact wpAny_assign_Name (E9 I hN hi hx r (λs' I'=>⟨_,H,I',h⟩) hf)
def xw8:TGs:=λvs σ H Q=>vs=[]/\Q σ H
def xt2 (t:TG)(u:TGs):TGs:=λvs σ H Q=>∃v r,vs=v::r/\t v σ H λσ' H'=>u r σ' H' Q
theorem K4:PGs X [] xw8:=by
  intro pins s σ H b a Q I r h;obtain⟨e,h⟩:=h;subst e
  cases r
  exact assignInOrder_nil ⟨σ,H,I,h⟩
theorem h8 {e : Expr}{es : List Expr}{t : TG}{u : TGs}(h1 : PG X e t)(h2 : PGs X es u)
    (hs:(assignEach (e::es) X.env).map (·.2)=assign e X.env::(assignEach es X.env).map (·.2):=by rfl):PGs X (e::es) (xt2 t u):=by
  intro pins s σ H vs us Q I r h;obtain⟨v,vr,e1,h⟩:=h;subst e1
  cases r with
  | cons r rr =>
    rw[hs];refine assignInOrder_cons (thn (h1 pins s σ H _ _ _ I r h) λ_ s1 ⟨σ1,H1,I1,q1⟩=>?_);exact h2 pins s1 σ1 H1 _ _ Q I1 rr q1
def xx0 (K:W.Frag)(n:Nat)(t:TGs):TG:=λv σ H Q=>∃a xs,v=.ref a/\SqT K H a xs/\xs.length=n/\t xs σ H Q
theorem zd3 {es : List Expr}{k : Nat}{t : TGs}{n : Nat}(hc : X.calm = true)(h : PGs X es t)
    (hn:(assignEach es X.env).length=n:=by rfl) (hst:(assignEach es X.env).findIdx? (·.1)=none:=by rfl):PG X (.Tuple es k pos) (xx0 X.K n t):=by
  intro pins s σ H v u Q I r hw;obtain⟨a,xs,e1,hq,hl,hw⟩:=hw;subst e1
  cases r
  obtain⟨its,rv,ht,hz⟩:=I.tuple hq;refine assign_Tuple_tuple (I.ok.hd hc) ht (by simp[hn,←hl,rv.length]) hst λh' hx=>?_;have I1:Inv X pins σ H { s with heap:=h' }:=I.kept (t':=s.toks) λb o e=>hx b o (aP (aE e)) e;exact h pins _ σ H xs _ Q I1 (by simpa using rv) hw
def xw9 (to ti:TE)(t:xl8):TG:=λv σ H Q=>to σ H λo H1=>ti σ H1 λi H2=>t o i v H2 λH3=>Q σ H3
theorem zd2 {o i : Expr}{to ti : TE}{t : xl8}(ho : PE X o to)(hi : PE X i ti)(hs : xs0 X t)
    (ha : ∀v, assign (.Subscript o i pos) X.env v = (do
      let ov ←holding [v] (eval o X.env)
      let iv ←holding [v,ov] (eval i X.env)
      standAt pos
      holding [v,ov,iv] (setItem ov iv v)
      release [v,ov,iv] []):=by intro _;rfl):PG X (.Subscript o i pos) (xw9 to ti t):=by
  intro pins s σ H v u Q I r h
  rw[ha]
  refine gg (gy (thn (ho pins s σ H _ I h) λov s1 ⟨x,H1,I1,r1,q1⟩=>?_))
  refine gg (gy (thn (hi pins s1 σ H1 _ I1 q1) λiv s2 ⟨y,H2,I2,r2,q2⟩=>?_))
  refine gg (wpAny_standAt (gg (gy (thn (hs pins s2 σ H2 x y v ov iv u _ I2 r1 r2 r q2) λ_ s3 ⟨H3,I3,q3⟩=>?_))))
  exact wpAny_release ⟨σ,H3,I3,q3⟩
def xd3 (te:TE)(g:TG):TS:=λD σ H=>te σ H λx H1=>g x σ H1 D.nx
theorem zl4 {tg e : Expr}{te : TE}{g : TG}(he : PE X e te)(hg : PG X tg g)(hs : swapsWithSole [tg] e pos.line X.env = pure false := by rfl)(hw : swappedStores [tg] e X.env = pure none := by rfl)
    (h1:(assignEach [tg] X.env).map (·.2)=[assign tg X.env]:=by rfl):PS X (.Assign [tg] e pos) (xd3 te g):=by
  intro pins s σ H D I h;refine wpAny_Assign_stores (thn (he pins s σ H _ I h) λv s1 ⟨x,H1,I1,r1,q1⟩=>?_) hs hw;rw[h1];exact thn (hg pins s1 σ H1 x v _ I1 r1 q1) λ_ s2 q=>q
theorem v0 {i : Nat}{x : Str}{e : Expr}{te : TE}{pos' : Pos}(hN : X.N.Nodup)(hi : X.N[i]? = some x)(hx : Loc X.env.scope x)(he : PE X e te)(hs : swapsWith e (some (.Name x pos')) pos.line X.env = pure false := by rfl)(hf : X.fn x = true∨X.env.scope.names.lookup x = some .local := by first|exact .inl rfl|exact .inr rfl|assumption) :
    PS X (.Assign [.Name x pos'] e pos) (xd3 te (Z0 i)):=by
  intro pins s σ H D I h;refine wpAny_Assign_Name (thn (he pins s σ H _ I h) λv s1 ⟨y,H1,I1,r1,q1⟩=>?_) hs;exact E9 I1 hN hi hx r1 (λs2 I2=>⟨_,H1,I2,q1⟩) hf
def xy7 (i j:Nat)(ta:TA):TS:=λD σ H=>ta σ H λvs H1=>∃v w,vs=[v,w]/\D.nx ((σ.set i (some v)).set j (some w)) H1
theorem xq5 {i j : Nat}{x y : Str}{a b : Expr}{ta : TA}{px py pt : Pos}{kt k2 pt2}(hc : X.calm = true)(hN : X.N.Nodup)(hi : X.N[i]? = some x)(hj : X.N[j]? = some y)(hij : i ≠ j)
    (hx:X.env.scope.names.lookup x=some .local) (hy:X.env.scope.names.lookup y=some .local) (ha:PA X [a,b] ta)
    (hw:swappedStores [.Tuple [.Name x px,.Name y py] kt pt] (.Tuple [a,b] k2 pt2) X.env=pure (some [x,y]))
    (hs:swapsWithSole [.Tuple [.Name x px,.Name y py] kt pt] (.Tuple [a,b] k2 pt2) pos.line X.env=pure false:=by rfl) :
    PS X (.Assign [.Tuple [.Name x px,.Name y py] kt pt] (.Tuple [a,b] k2 pt2) pos) (xy7 i j ta):=by
  intro pins s σ H D I h
  rw[exec_Assign_arm]
  refine gg (wpAny_standAt ?_)
  rw[hs]
  refine gg (gl ?_)
  rw[if_neg (by decide)]
  refine gg (Tuple_ (thn (ha _ pins s σ H _ I h) λus s1 ⟨vs,H1,I1,r1,q1⟩=>?_))
  obtain⟨v,w,e1,q1⟩:=q1
  subst e1
  obtain⟨u1,u2,rfl,rv,rw'⟩:∃u1 u2,us=[u1,u2]/\o5 v u1/\o5 w u2:=by
    cases r1 with
    | cons p q =>
      cases q with
      | cons p' q' =>
        cases q'
        exact⟨_,_,rfl,p,p'⟩
  refine wpAny_newObj_type ?_ (by show 2<=gn;decide)
  have I2:Inv X pins σ H1 { s1 with heap:=s1.heap.push { cls:=.type "tuple",data:=.seq [u1,u2].toArray } }:=I1.kept (t':=s1.toks) λb o e=>au _ e
  rw[hw]
  refine gg (gl ?_)
  show gr (gu X.prog X.w) X.A (do rule "assign.swapped-stores";let items ←unpackItems (.ref s1.heap.objs.size) 2 none;assignInOrder [λv=>bindName X.env y v,λv=>bindName X.env x v] items.reverse;pure Flow.next) _ _ _
  refine gg (wpAny_rule (gg (unpackItems_tuple (items:=#[u1,u2]) (I.ok.hd hc) (IsTup.new s1.heap _) λh' hx'=>?_)))
  have I3:=I2.kept (h':=h') (t':=s1.toks) λb o e=>hx' b o (aP (aE e)) e
  show gr _ _ (assignInOrder [λv=>bindName X.env y v,λv=>bindName X.env x v] [u2,u1] >>= λ_=>pure Flow.next) _ _ _
  refine gg (assignInOrder_cons (wpAny_bindName (E9 I3 hN hj (.inl hy) rw' (λs2 I4=>?_) (.inr hy))))
  refine assignInOrder_cons (wpAny_bindName (E9 I4 hN hi (.inl hx) rv (λs3 I5=>assignInOrder_nil (gl ?_)) (.inr hx)))
  rw[List.set_comm _ _ (Ne.symm hij)]at I5
  exact⟨_,H1,I5,q1⟩
def xx8 (i:Nat)(te:TE)(ti:TIp):TS:=λD σ H=>∃x,σ[i]?=some (some x)/\te σ H λy H1=>ti x y H1 λz H2=>D.nx (σ.set i (some z)) H2
theorem yi4 {i : Nat}{x : Str}{e : Expr}{te : TE}{op : Operator}{ti : TIp}{pos' : Pos}(hN : X.N.Nodup)(hi : X.N[i]? = some x)(hx : Loc X.env.scope x)(he : PE X e te)(ho : PIp X op ti)(hf : X.fn x = true∨X.env.scope.names.lookup x = some .local := by first|exact .inl rfl|exact .inr rfl|assumption) :
    PS X (.AugAssign (.Name x pos') op e pos) (xx8 i te ti):=by
  intro pins s σ H D I h;obtain⟨v,e1,h⟩:=h;obtain⟨m,hn,hl⟩:=I.loc;have vis:Vis X.env.scope x:=by rcases hx with k|k;exact .inl k;exact .inr (.inl k)
  obtain⟨u,r,l⟩:=hl i x v hi e1 vis;refine wpAny_AugAssign_Name ?_;have go:gr (gu X.prog X.w) X.A (eval e X.env) (λw s₂=>gr (gu X.prog X.w) X.A (inplaceOp op u w) (λr s₃=>gr (gu X.prog X.w) X.A (storeName X.env x r) (λ_=>SP X pins D .next) X.xe s₃) X.xe s₂) X.xe s:=by
    refine thn (he pins s σ H _ I h) λw s1 ⟨y,H1,I1,r1,q1⟩=>?_;refine thn (ho pins s1 σ H1 v y u w _ I1 r r1 q1) λz s2 ⟨zv,H2,I2,r2,q2⟩=>?_;exact E9 I2 hN hi hx r2 (λs3 I3=>⟨_,H2,I3,q2⟩) hf
  rcases l with⟨hk,hm⟩|⟨hk,c,hc,hcell⟩
  . exact wpAny_loadName_local I.ok.kind hk hn hm go
  . rcases hk with hk|hk
    . exact wpAny_loadName_cell I.ok.kind hk hc hcell go
    . rcases hx with k|k
      . have : X.env.scope.names.lookup x = some .free := hk;rw[k]at this;cases this
      . have : X.env.scope.names.lookup x = some .free := hk;rw[k]at this;cases this
def ipI (f:Int->Int->Int):TIp:=λx y H Q=>∃i j,x=.int i/\y=.int j/\Q (.int (f i j)) H
theorem xn0:PIp X .Add (ipI λi j=>i+j):=by
  intro pins s σ H x y v u Q I c d h;obtain⟨i,j,a,b,q⟩:=h;subst a;subst b;obtain⟨t,rfl⟩:=c;obtain⟨e,rfl⟩:=d;exact iadd_int ⟨.int _,H,I.tok _,⟨_,rfl⟩,q⟩
theorem xn2:PIp X .Sub (ipI λi j=>i-j):=by
  intro pins s σ H x y v u Q I c d h;obtain⟨i,j,a,b,q⟩:=h;subst a;subst b;obtain⟨t,rfl⟩:=c;obtain⟨e,rfl⟩:=d;exact isub_int ⟨.int _,H,I.tok _,⟨_,rfl⟩,q⟩
end
section
variable {X:Cx}{pos:Pos}
def xd6 (c:TT)(tb:TS):TS:=λD σ H=>∃W:Nat->St->Hp->Prop,(∃m,W m σ H)/\∀m σ H,W m σ H ->
  c σ H λb H1=>if b=true then ∃N:St->Hp->Prop,(∀σ' H',N σ' H'->∃m',m'<m/\W m' σ' H')/\tb { D with nx:=N,ct:=N,bk:=D.nx } σ H1 else D.nx σ H1
theorem zl6 {c:Expr}{a:List Stmt}{tc:TT}{tb:TS}(t:PassesOwn (gu X.prog X.w) X.A X.env X.xe)(hc:PT X c tc)(hb:PSs X a tb):PS X (.While c a [] pos) (xd6 tc tb):=by
  intro pins s σ H D I h;obtain⟨W,⟨x,B⟩,e⟩:=h;refine wpAny_While (codeAny_whileLoop (λn s'=>∃σ' H',Inv X pins σ' H' s'/\W n σ' H') ?_ x ⟨σ,H,I,B⟩);rintro n y ⟨k,H1,u,C⟩;refine wpAny_passesOwn t (thn (hc pins y k H1 _ u (e n k H1 C)) λb z ⟨H2,q,i⟩=>?_)
  cases b with
  | true =>
    obtain⟨N,r,i⟩:=i;rw[if_pos rfl];refine wpAny_passesOwn t (thn (hb pins z k H2 _ q i) λf E j=>?_)
    cases f with
    | next =>
      obtain⟨g,d,l,o⟩:=j;obtain⟨m,hm,p⟩:=r g d o;exact⟨m,hm,g,d,l,p⟩
    | cont =>
      obtain⟨g,d,l,o⟩:=j;obtain⟨m,hm,p⟩:=r g d o;exact⟨m,hm,g,d,l,p⟩
    | brk=>exact j
    | ret v=>exact j
  | false =>
    rw[if_neg aH];exact wpAny_execs_nil ⟨k,H2,q,i⟩
end
structure It where
  go:Nat->Hp->Prop
  yld:Nat->Hp->V->Hp->Prop
  stop:Nat->Hp->Prop
def zb7 (X:Cx)(pins:List (Addr×Obj))(H:Hp)(b:Addr):Prop :=
  H b=none/\b≠X.env.locals/\b∉X.fs/\(b∈X.ex∨X.s₀.heap.objs.size<=b)/\(∀x c,X.env.cells.lookup x=some c->c≠b)/\∀p∈X.pn++pins,p.1≠b
theorem Inv.fpOk {X:Cx}{pins:List (Addr×Obj)}{σ:St}{H H':Hp}{s:gh}{b:Addr}(I:Inv X pins σ H s)(hb:s.heap.objs.size<=b)(a:H' b=none):zb7 X pins H' b:=by
  refine⟨a,dD (aV I.lt hb),I.nofs hb,.inr (aM I.sz hb),λx c e z=>?_,λp d z=>?_⟩
  . obtain⟨v, q⟩ := I.cell x c e;exact absurd (aV q.lt (by rw[z];exact hb)) (bU _)
  . exact absurd (aV (aE (I.pin p d).1) (by rw[z];exact hb)) (bU _)
structure yg3 (P:gq) (w:gv) (K:W.Frag) (tg:Expr) (J:It) (fp:List Addr) (it:Addr) (tn:Nat->Heap->Prop):Prop where
  mem:it∈fp
  obj:∀i h,tn i h->∀b∈fp,∃o,h.get? b=some o/\∀v,o.data≠.cell v
  keep:∀i h h',tn i h->(∀b∈fp,∀o,h.get? b=some o->h'.get? b=some o)->tn i h'
  item:∀(X:Cx),X.prog=P->X.w=w->X.K=K->X.calm=true->∀(i:Nat) (pins:List (Addr×Obj)) (s:gh) (σ:St) (H:Hp) (E:Value->gh->Prop),Inv X pins σ H s->(∀b∈fp,zb7 X pins H b)->tn i s.heap->J.go i H ->
    gr (gu P w) X.A (pyNext (.ref it)) (λr s1=>∃u,r=some u /\
      gr (gu P w) X.A (letOwnedTupleGo tg (.ref it) u) (λ_ s2=>∃x H',Inv X pins σ H' s2/\o5 x u/\J.yld i H x H'/\tn (i+1) s2.heap/\∀b∈fp,H' b=none) E s1) E s
  done:∀(X:Cx),X.prog=P->X.w=w->X.K=K->X.calm=true->∀(i:Nat) (pins:List (Addr×Obj)) (s:gh) (σ:St) (H:Hp) (E:Value->gh->Prop),Inv X pins σ H s->(∀b∈fp,zb7 X pins H b)->tn i s.heap->J.stop i H ->
    gr (gu P w) X.A (pyNext (.ref it)) (λr s1=>r=none/\Inv X pins σ H s1) E s
  self:∀(A:gw) (i:Nat) (s:gh) (Q:Value->gh->Prop) (E:Value->gh->Prop),tn i s.heap->Q (.ref it) s->gr (gu P w) A (pyIter (.ref it)) Q E s
abbrev TI:=St->Hp->(It->Hp->Prop)->Prop
def PIE (X:Cx)(pins:List (Addr×Obj))(σ:St)(tg:Expr)(R:It->Hp->Prop)(itv:Value)(s2:gh):Prop :=
  ∃(it:Addr) (fp:List Addr) (tn:Nat->Heap->Prop) (J:It) (H':Hp),itv=.ref it/\Inv X pins σ H' s2/\yg3 X.prog X.w X.K tg J fp it tn/\tn 0 s2.heap/\(∀b∈fp,zb7 X pins H' b)/\R J H'
def PI (X:Cx)(tg iter:Expr)(wi:TI):Prop :=
  ∀(pins:List (Addr×Obj)) (s:gh) (σ:St) (H:Hp) (R:It->Hp->Prop),Inv X pins σ H s->wi σ H R ->
    gr (gu X.prog X.w) X.A (eval iter X.env) (λv s1=>gr (gu X.prog X.w) X.A (pyIter v) (PIE X pins σ tg R) X.xe s1) X.xe s
theorem ya6 {M : Model}{A : gw}{E : Value -> gh -> Prop}{s : gh}{tg : Expr}{it : Addr}{u : Value}{o : Obj}{n : String}{vs : Array Value}{Q : Unit -> gh -> Prop}(d : s.heap.get? it = some o)(hc : o.cls = .type n)(b : o.data = .fields vs)
    (c:["enumerate","zip","dict_itemiterator","dict_reverseitemiterator","odict_iterator","itertools.zip_longest","itertools.pairwise"].contains n=false) (a:Q () s):gr M A (letOwnedTupleGo tg (.ref it) u) Q E s:=by
  unfold letOwnedTupleGo
  cases tg <;> first
    | exact gl a
    | (cases u <;> first
        | exact gl a
        | (refine gg (wpAny_load d ?_)
           rw[hc,b]
           show gr M A (if (["enumerate","zip","dict_itemiterator","dict_reverseitemiterator","odict_iterator","itertools.zip_longest","itertools.pairwise"].contains n&&vs[0]?==some (rawInt _))=true then _ else _) Q E s
           rw[if_neg (by intro h;rw[c,dC]at h;cases h)]
           exact gl a))
def Itl (K:W.Frag)(a:Addr):It :=
  ⟨λi H=>∃xs x,SqL K H a xs/\xs[i]?=some x,λi H x H'=>H'=H/\∀xs,SqL K H a xs->xs[i]?=some x,λi H=>∃xs,SqL K H a xs/\xs.length<=i⟩
def Itt (K:W.Frag)(a:Addr):It :=
  ⟨λi H=>∃xs x,SqT K H a xs/\xs[i]?=some x,λi H x H'=>H'=H/\∀xs,SqT K H a xs->xs[i]?=some x,λi H=>∃xs,SqT K H a xs/\xs.length<=i⟩
def Itr (lo:Int)(n:Nat):It:=⟨λi _=>i<n,λi H x H'=>H'=H/\x=.int (lo+i),λi _=>n<=i⟩
theorem yu7 {P:gq}{w:gv}{K:W.Frag}{tg:Expr}(a it:Addr):yg3 P w K tg (Itl K a) [it] it (λi h=>h.IsListIter it a i) where
  mem:=by simp
  obj:=λi h st b hb=>by
    have e:b=it:=by simpa using hb
    subst e
    obtain⟨o,e,c,d⟩:=st
    exact⟨o,e,λv z=>by rw[d]at z;cases z⟩
  keep:=λi h h' st k=>st.at λo e=>k it (by simp) o e
  item:=by
    intro X y B t G i pins s σ H E I g st A
    subst y B t
    obtain⟨xs,x,j,C⟩:=A
    obtain⟨D,F,p,Q⟩:=I.list j
    obtain⟨u,N,R⟩:=F.get C
    obtain⟨l,m,M,n,q,r⟩:=g it (by simp)
    refine wpAny_pyNext_list_item st p.isList (x:=u) (by simpa using N) λh' f S=>?_
    have J:Inv X pins σ H { s with heap:=h' }:=I.turned (t':=s.toks) (λb o hb e=>(S.2 b hb).trans e) l m n q r
    obtain⟨o,e,c,d⟩:=id f
    exact⟨u,rfl,ya6 (s:={ s with heap:=h' }) e c d (by decide) ⟨x,H,J,R,⟨rfl,λys O=>by rw[I.list_inj O j];exact C⟩,f,λb hb=>(g b hb).1⟩⟩
  done:=by
    intro X y B t G i pins s σ H E I g st A
    subst y B t
    obtain⟨xs,j,C⟩:=A
    obtain⟨D,F,p,Q⟩:=I.list j
    obtain⟨l,m,M,n,q,r⟩:=g it (by simp)
    have hl:=F.length
    exact wpAny_pyNext_list_end (I.ok.hd G) st p.isList (by simp;lia) λh' L=>⟨rfl,I.turned (t':=s.toks) (λb o hb e=>L b o hb e) l m n q r⟩
  self:=λ_ _ _ _ _ st h=>wpAny_pyIter_listiter st h
theorem yk3 {P:gq}{w:gv}{K:W.Frag}{tg:Expr}(a it:Addr):yg3 P w K tg (Itt K a) [it] it (λi h=>h.IsTupleIter it a i) where
  mem:=by simp
  obj:=λi h st b hb=>by
    have e:b=it:=by simpa using hb
    subst e
    obtain⟨o,e,c,d⟩:=st
    exact⟨o,e,λv z=>by rw[d]at z;cases z⟩
  keep:=λi h h' st k=>st.at λo e=>k it (by simp) o e
  item:=by
    intro X A C y G i pins s σ H E I j st B
    subst A C y
    obtain⟨xs,x,l,D⟩:=B
    obtain⟨f,F,p,Q⟩:=I.tuple l
    obtain⟨u,N,R⟩:=F.get D
    obtain⟨m,n,M,q,r,t⟩:=j it (by simp)
    refine wpAny_pyNext_tuple_item st (show s.heap.IsTuple a f.toArray from p) (x:=u) (by simpa using N) λh' g S=>?_
    have J:Inv X pins σ H { s with heap:=h' }:=I.turned (t':=s.toks) (λb o hb e=>(S.2 b hb).trans e) m n q r t
    obtain⟨o,e,c,d⟩:=id g
    exact⟨u,rfl,ya6 (s:={ s with heap:=h' }) e c d (by decide) ⟨x,H,J,R,⟨rfl,λys O=>by rw[I.tuple_inj O l];exact D⟩,g,λb hb=>(j b hb).1⟩⟩
  done:=by
    intro X A C y G i pins s σ H E I j st B
    subst A C y
    obtain⟨xs,l,D⟩:=B
    obtain⟨f,F,p,Q⟩:=I.tuple l
    obtain⟨m,n,M,q,r,t⟩:=j it (by simp)
    have hl:=F.length
    exact wpAny_pyNext_tuple_end (I.ok.hd G) st (show s.heap.IsTuple a f.toArray from p) (by simp;lia) λh' L=>⟨rfl,I.turned (t':=s.toks) (λb o hb e=>L b o hb e) m n q r t⟩
  self:=λ_ _ _ _ _ st h=>wpAny_pyIter_tupleiter st h
theorem yk2 {P:gq}{w:gv}{K:PySem.W.Frag}{tg:Expr}(it:Addr)(lo:Int)(n:Nat):yg3 P w K tg (Itr lo n) [it] it (λi h=>IsRangeIter h it (lo+(i:Nat)*1) ((n:Int)-(i:Nat)) 1) where
  mem:=by simp
  obj:=λi h st b hb=>by
    have e:b=it:=by simpa using hb
    subst e
    exact⟨_,st,λv z=>by
      have D:Data.fields _=Data.cell v:=z
      cases D⟩
  keep:=λi h h' st k=>k it (by simp) _ st
  item:=by
    intro X p u m q i pins s σ H E I c st r
    subst p u m
    obtain⟨d,f,A,g,j,l⟩:=c it (by simp)
    have W:=Walks.range (prog:=X.prog) (w:=X.w) (I.ok.hd q) it lo 1 n
    refine W.item i s _ _ r st λv h' tk B a C=>?_
    obtain⟨t,rfl⟩:=B
    have x:Inv X pins σ H { s with heap:=h',toks:=tk }:=I.turned (λb o hb e=>C b o (by simpa using hb) e) d f g j l
    refine⟨_,rfl,ya6 (s:={ s with heap:=h',toks:=tk }) (n:="range_iterator") a rfl rfl (by decide) ⟨.int (lo+i),H,x,⟨t,?_⟩,⟨rfl,rfl⟩,a,λb hb=>(c b hb).1⟩⟩
    rw[Int.mul_one]
  done:=by
    intro X p u m q i pins s σ H E I c st r
    subst p u m
    obtain⟨d,f,A,g,j,l⟩:=c it (by simp)
    exact wpAny_pyNext_range_end (I.ok.hd q) st (by have:n<=i:=r;lia) λh' y=>⟨rfl,I.turned (t':=s.toks) (λb o hb e=>y b o hb e) d f g j l⟩
  self:=λ_ _ _ _ _ st h=>wpAny_pyIter_rangeiter st h
section
variable {X:Cx}{tg:Expr}
def xt5 (K:W.Frag)(tl:TE):TI:=λσ H R=>tl σ H λx H1=>∃a,x=.ref a/\(∃xs,SqL K H1 a xs)/\R (Itl K a) H1
def xx1 (K:W.Frag)(tl:TE):TI:=λσ H R=>tl σ H λx H1=>∃a,x=.ref a/\(∃xs,SqT K H1 a xs)/\R (Itt K a) H1
theorem c9 {l:Expr}{tl:TE}(hl:PE X l tl):PI X tg l (xt5 X.K tl):=by
  intro pins s σ H R I h;refine thn (hl pins s σ H _ I h) λv d ⟨x,H1,c,j,i⟩=>?_;obtain⟨a,e,⟨xs,f⟩,q⟩:=i;subst e
  cases j
  obtain⟨g,m,p,k⟩:=c.list f;refine wpAny_pyIter_list p.isList ?_;refine⟨d.heap.objs.size,[d.heap.objs.size],_,_,H1,rfl,c.kept (t':=d.toks) λb o e=>au _ e,yu7 a _,⟨_,aF _ rfl,rfl,rfl⟩,λb hb=>?_,q⟩;have e:b=d.heap.objs.size:=by simpa using hb
  subst e;exact c.fpOk (aq _) (c.hok.fresh (aq _))
theorem zx1 {l:Expr}{tl:TE}(hl:PE X l tl):PI X tg l (xx1 X.K tl):=by
  intro pins s σ H R I h;refine thn (hl pins s σ H _ I h) λv c ⟨x,H1,d,j,i⟩=>?_;obtain⟨a,e,⟨xs,g⟩,q⟩:=i;subst e
  cases j
  obtain⟨f,m,p,k⟩:=d.tuple g;refine wpAny_pyIter_tuple (show c.heap.IsTuple a f.toArray from p) ?_;refine⟨c.heap.objs.size,[c.heap.objs.size],_,_,H1,rfl,d.kept (t':=c.toks) λb o e=>au _ e,yk3 a _,⟨_,aF _ rfl,rfl,rfl⟩,λb hb=>?_,q⟩;have e:b=c.heap.objs.size:=by simpa using hb
  subst e;exact d.fpOk (aq _) (d.hok.fresh (aq _))
theorem yd4 {pins : List (Addr×Obj)}{σ : St}{H : Hp}{s : gh}{R : It -> Hp -> Prop}{E : Value -> gh -> Prop}{lo hi : Int}{t u v : Tok}{c : Nat}(I : Inv X pins σ H s)(h1 : -(2 ^ 62) <= lo)(h2 : lo<2 ^ 62)(g : -(2 ^ 62) <= hi)(h : hi<2 ^ 62)
    (q:R (Itr lo (hi-lo).toNat) H):gr (gu X.prog X.w) X.A (pyIter (.ref s.heap.objs.size)) (PIE X pins σ tg R) E { s with heap:=s.heap.push { cls:=.type "range",data:=.fields #[.int lo t,.int hi u,.int 1 v] },toks:=c }:=by
  refine wpAny_pyIter_range (IsRange.new ..) (small_one h1 h2 g h) ?_;have a:Inv X pins σ H { s with heap:=s.heap.push { cls:=.type "range",data:=.fields #[.int lo t,.int hi u,.int 1 v] },toks:=c }:=I.kept λb o e=>au _ e;refine⟨(s.heap.push { cls:=.type "range",data:=.fields #[.int lo t,.int hi u,.int 1 v] }).objs.size,[(s.heap.push { cls:=.type "range",data:=.fields #[.int lo t,.int hi u,.int 1 v] }).objs.size],_,_,H,rfl,
    a.kept (t':=c) λb o e=>au _ e,yk2 _ lo (hi-lo).toNat,?_,λb hb=>?_,q⟩
  . have d : lo+((0 : Nat) : Int)*1 = lo := by simp
    have f:(((hi-lo).toNat:Nat):Int)-((0:Nat):Int)=Builtin.Range.rangeSize lo hi 1:=by rw[rangeSize_one];split <;> lia
    show IsRangeIter _ _ (lo+((0:Nat):Int)*1) ((((hi-lo).toNat:Nat):Int)-((0:Nat):Int)) 1;rw[d,f];exact aF _ rfl
  . have e : b = (s.heap.push { cls := .type "range", data := .fields #[.int lo t, .int hi u, .int 1 v] }).objs.size := by simpa using hb
    subst e;exact a.fpOk (aq _) (a.hok.fresh (aq _))
def xt6 (ta:TA):TI:=λσ H R=>ta σ H λvs H1=>∃j:Int,vs=[.int j]/\-(2 ^ 62)<=j/\j<2 ^ 62/\R (Itr 0 j.toNat) H1
def xt7 (ta:TA):TI:=λσ H R=>ta σ H λvs H1=>∃i j:Int,vs=[.int i,.int j]/\(-(2 ^ 62)<=i/\i<2 ^ 62/\-(2 ^ 62)<=j/\j<2 ^ 62)/\R (Itr i (j-i).toNat) H1
theorem l5 {a:Expr}{ta:TA}{p pos:Pos}(hg:Gl X "range")(hm:X.mg "range"=none)(ha:PA X [a] ta)(hs:gs [a] X.env=[(false,eval a X.env)]:=by rfl):PI X tg (.Call (.Name "range" p) [a] [] pos) (xt6 ta):=by
  intro pins s σ H R I h;refine Call_ (B2 I hg hm boot_range (PyProof.Rows.callWith_type1 (thn (ha pos pins s σ H _ I h) λus s1 ⟨vs,H1,I1,r1,q1⟩=>?_) hs rfl));obtain⟨j,e,q1,q2,q⟩:=q1;subst e
  cases r1 with
  | cons r rr =>
    cases rr
    obtain⟨t,rfl⟩:=r;exact call_range_1 (yd4 I1 (by lia) (by lia) q1 q2 (by simpa using q))
theorem zr7 {a b : Expr}{ta : TA}{p pos : Pos}(hg : Gl X "range")(hm : X.mg "range" = none)(ha : PA X [a, b] ta)(hs : gs [a, b] X.env = [(false, eval a X.env), (false, eval b X.env)] := by rfl)(hs2 : gs [b] X.env = [(false, eval b X.env)] := by rfl) :
    PI X tg (.Call (.Name "range" p) [a,b] [] pos) (xt7 ta):=by
  intro pins s σ H R I h;refine Call_ (B2 I hg hm boot_range (PyProof.Rows.callWith_type1 (thn (ha pos pins s σ H _ I h) λus s1 ⟨vs,H1,I1,r1,q1⟩=>?_) (by rw[hs,hs2]) (by rw[hs2];rfl)));obtain⟨i,j,e,⟨q1,q2,q3,q4⟩,q⟩:=q1;subst e
  cases r1 with
  | cons r rr =>
    cases rr with
    | cons r' rr =>
      cases rr
      obtain⟨t,rfl⟩:=r;obtain⟨t',rfl⟩:=r';exact call_range_2 (yd4 I1 q1 q2 q3 q4 q)
def xy1 (wi:TI)(g:TG)(tb:TS):TS:=λD σ H=>wi σ H λJ H1=>∃W:Nat->Nat->St->Hp->Prop,(∃m,W 0 m σ H1)/\∀i m σ H,W i m σ H ->
  (J.stop i H/\D.nx σ H)∨(J.go i H/\∃N:St->Hp->Prop,(∀σ' H',N σ' H'->∃m',m'<m/\W (i+1) m' σ' H')/\∀x H',J.yld i H x H'->g x σ H' λσ2 H2=>tb { D with nx:=N,ct:=N,bk:=D.nx } σ2 H2)
def zx2 (fp:List Addr)(h:Heap):List (Addr×Obj):=fp.filterMap λb=>(h.get? b).map λo=>(b,o)
theorem B3 {fp:List Addr}{h:Heap}{b:Addr}{o:Obj}(hb:b∈fp)(e:h.get? b=some o):(b,o)∈zx2 fp h:=dN.mpr ⟨b,hb,by rw[e];rfl⟩
theorem ys9 {fp:List Addr}{h:Heap}{p:Addr×Obj}(c:p∈zx2 fp h):p.1∈fp/\h.get? p.1=some p.2:=by
  obtain⟨b,hb,e⟩:=dN.mp c
  cases q:h.get? b with
  | none=>rw[q]at e;cases e
  | some o =>
    rw[q]at e;have a:(b,o)=p:=Option.some.inj e;subst a;exact⟨hb,q⟩
theorem Inv.pinned {pins:List (Addr×Obj)}{σ:St}{H:Hp}{s:gh}{fp:List Addr}(I:Inv X pins σ H s)(hf:∀b∈fp,zb7 X pins H b)(ho:∀b∈fp,∃o,s.heap.get? b=some o/\∀v,o.data≠.cell v):Inv X (pins++zx2 fp s.heap) σ H s :=
  I.pins_of λp hp=>(aI.mp hp).elim (λz=>I.pin p (aU _ z)) λz=>by
    obtain⟨hb,e⟩:=ys9 z
    obtain⟨f0,f1,f2,_⟩:=hf p.1 hb
    obtain⟨o,e',d⟩:=ho p.1 hb
    rw[e]at e';cases e'
    exact⟨e,f0,f1,f2,d⟩
theorem Inv.unpinned {pins pl:List (Addr×Obj)}{σ:St}{H:Hp}{s:gh}(I:Inv X (pins++pl) σ H s):Inv X pins σ H s:=I.pins_of λp hp=>I.pin p (aU _ (bg _ hp))
theorem l9 {iter : Expr}{body : List Stmt}{wi : TI}{g : TG}{tb : TS}{pos : Pos}(hp : PassesOwn (gu X.prog X.w) X.A X.env X.xe)(hc : X.calm = true)(hi : PI X tg iter wi)(hg : PG X tg g)(hb : PSs X body tb)
    (hs:∀x,foldedSetIterable iter X.env x=pure x:=by intro _;rfl):PS X (.For tg iter body [] pos) (xy1 wi g tb):=by
  intro pins s σ H D I h;refine wpAny_For (thn (hi pins s σ H _ I h) λv s1 h1=>thn h1 λitv s2 h2=>?_) hs;obtain⟨it,fp,tn,J,H2,e,I2,T,st2,f2,W,⟨m0,w0⟩,turn⟩:=h2;subst e;have stat:∀{H':Hp},(∀b∈fp,H' b=none)->∀b∈fp,zb7 X pins H' b:=λhn b hb=>⟨hn b hb,(f2 b hb).2⟩;refine codeAny_forLoop_any (λn s'=>∃i σ' H',Inv X pins σ' H' s'/\tn i s'.heap/\(∀b∈fp,H' b=none)/\W i n σ' H') ?_ m0 ⟨0,σ,H2,I2,st2,λb hb=>(f2 b hb).1,w0⟩;rintro n s3 ⟨i,σ3,H3,I3,st3,fr3,w3⟩;rcases turn i n σ3 H3 w3 with⟨stop,qn⟩|⟨go,N,hN,step⟩
  . refine wpAny_passesOwn hp (thn (T.done X rfl rfl rfl hc i pins s3 σ3 H3 X.xe I3 (stat fr3) st3 stop) λr s4 ⟨hr, I4⟩ => ?_);subst hr;exact wpAny_execs_nil ⟨σ3,H3,I4,qn⟩
  . refine wpAny_passesOwn hp (thn (T.item X rfl rfl rfl hc i pins s3 σ3 H3 X.xe I3 (stat fr3) st3 go) λr s4 ⟨u, hr, h4⟩ => ?_);subst hr;refine wpAny_passesOwn hp (thn h4 λ_ s5 ⟨x,H5,I5,r5,y5,st5,fr5⟩=>?_);have I5':=I5.pinned (stat fr5) (T.obj _ _ st5);refine wpAny_passesOwn hp (thn (hg _ s5 σ3 H5 x u _ I5' r5 (step x H5 y5)) λ_ s6 ⟨σ6,H6,I6,q6⟩=>?_);refine wpAny_passesOwn hp (thn (hb _ s6 σ6 H6 _ I6 q6) λf s7 q7=>?_);have again:∀{σ7:St} {H7:Hp},Inv X (pins++zx2 fp s5.heap) σ7 H7 s7->N σ7 H7->∃m,m<n/\∃i σ' H',Inv X pins σ' H' s7/\tn i s7.heap/\(∀b∈fp,H' b=none)/\W i m σ' H':=λ{σ7 H7} I7 n7=>by
      obtain⟨m',hm,w7⟩:=hN σ7 H7 n7;refine⟨m',hm,i+1,σ7,H7,I7.unpinned,T.keep _ _ _ st5 λb hb o e=>(I7.pin (b,o) (aU _ (aU _ (B3 hb e)))).1,λb hb=>?_,w7⟩;obtain⟨o,e,d⟩:=T.obj _ _ st5 b hb;exact(I7.pin (b,o) (aU _ (aU _ (B3 hb e)))).2.1
    cases f with
    | next=>obtain⟨σ7,H7,I7,n7⟩:=q7;exact again I7 n7
    | cont=>obtain⟨σ7,H7,I7,n7⟩:=q7;exact again I7 n7
    | brk=>obtain⟨σ7,H7,I7,q7⟩:=q7;exact⟨σ7,H7,I7.unpinned,q7⟩
    | ret v=>obtain⟨x7,σ7,H7,I7,r7,q7⟩:=q7;exact⟨x7,σ7,H7,I7.unpinned,r7,q7⟩
end
theorem Z4 {K : PySem.W.Frag}{a : Addr}{xs : List V}{g : TG}{tb : TS}{D : zg8}{σ : St}{H : Hp}(b : Nat -> St -> Hp -> Prop)(d : b 0 σ H)(hl : ∀i σ H, i <= xs.length -> b i σ H -> SqL K H a xs)
    (hs:∀i x σ H,xs[i]?=some x->b i σ H->g x σ H λσ2 H2=>tb { D with nx:=b (i+1),ct:=b (i+1),bk:=D.nx } σ2 H2) (f:∀σ H,b xs.length σ H->D.nx σ H) :
    ∃W:Nat->Nat->St->Hp->Prop,(∃m,W 0 m σ H)/\∀i m σ H,W i m σ H ->
      ((Itl K a).stop i H/\D.nx σ H)∨((Itl K a).go i H/\∃N:St->Hp->Prop,(∀c H',N c H'->∃m',m'<m/\W (i+1) m' c H')/\∀x H',(Itl K a).yld i H x H'->g x σ H' λσ2 H2=>tb { D with nx:=N,ct:=N,bk:=D.nx } σ2 H2):=by
  refine⟨λi m σ H=>m=xs.length-i/\i<=xs.length/\b i σ H,⟨xs.length,by simp,aY _,d⟩,?_⟩;rintro i m σ H ⟨rfl,hi,p⟩;have q:=hl i σ H hi p;by_cases hlt:i<xs.length
  . refine .inr ⟨⟨xs, xs[i], q, by simp[hlt]⟩, b (i+1), λc H' h => ⟨xs.length-(i+1), by lia, rfl, hlt, h⟩, λx H' y => ?_⟩;obtain⟨e,y⟩:=y;subst e;exact hs i x σ _ (y xs q) p
  . have e : i = xs.length := by lia
    subst e;exact .inl ⟨⟨xs,q,aq _⟩,f σ H p⟩
theorem b5 {lo : Int}{n : Nat}{g : TG}{tb : TS}{D : zg8}{σ : St}{H : Hp}(a : Nat -> St -> Hp -> Prop)(c : a 0 σ H)
    (hs:∀i σ H,i<n->a i σ H->g (.int (lo+i)) σ H λσ2 H2=>tb { D with nx:=a (i+1),ct:=a (i+1),bk:=D.nx } σ2 H2) (d:∀σ H,a n σ H->D.nx σ H) :
    ∃W:Nat->Nat->St->Hp->Prop,(∃m,W 0 m σ H)/\∀i m σ H,W i m σ H ->
      ((Itr lo n).stop i H/\D.nx σ H)∨((Itr lo n).go i H/\∃N:St->Hp->Prop,(∀b H',N b H'->∃m',m'<m/\W (i+1) m' b H')/\∀x H',(Itr lo n).yld i H x H'->g x σ H' λσ2 H2=>tb { D with nx:=N,ct:=N,bk:=D.nx } σ2 H2):=by
  refine⟨λi m σ H=>m=n-i/\i<=n/\a i σ H,⟨n,by simp,aY _,c⟩,?_⟩;rintro i m σ H ⟨rfl,hi,p⟩;by_cases hlt:i<n
  . refine .inr ⟨hlt, a (i+1), λb H' f => ⟨n-(i+1), by lia, rfl, hlt, f⟩, λx H' y => ?_⟩;obtain⟨e,y⟩:=y;subst e y;exact hs i σ _ hlt p
  . have e : i = n := by lia
    subst e;exact .inl ⟨aq _,d σ H p⟩
theorem xd8 {c : TT}{tb : TS}{D : zg8}{σ : St}{H : Hp}(d : St -> Hp -> Prop)(μ : St -> Hp -> Nat)(e : d σ H)
    (hs:∀σ H,d σ H->c σ H λb H1=>if b=true then tb { D with nx:=λa H'=>d a H'/\μ a H'<μ σ H,ct:=λa H'=>d a H'/\μ a H'<μ σ H,bk:=D.nx } σ H1 else D.nx σ H1)
    (mono:∀σ H Q Q',(∀b H1,Q b H1->Q' b H1)->c σ H Q->c σ H Q'):xd6 c tb D σ H:=by
  refine⟨λm σ H=>m=μ σ H/\d σ H,⟨_,rfl,e⟩,?_⟩;rintro m σ H ⟨rfl,p⟩;refine mono σ H _ _ (λb H1 q=>?_) (hs σ H p)
  cases b with
  | true=>exact⟨_,λa H' ⟨f,l⟩=>⟨_,l,rfl,f⟩,q⟩
  | false=>exact q
abbrev R2:=V->V->Hp->VK->Prop
def OpR (X:Cx)(f:Value->Value->Sem Value)(r:R2):Prop :=
  ∀(pins:List (Addr×Obj)) (s:gh) (σ:St) (H:Hp) (x y:V) (v u:Value) (Q:VK),Inv X pins σ H s->o5 x v->o5 y u->r x y H Q ->
    gr (gu X.prog X.w) X.A (f v u) (EP X pins σ Q) X.xe s
def UnR (X:Cx)(f:Value->Sem Value)(r:V->Hp->VK->Prop):Prop :=
  ∀(pins:List (Addr×Obj)) (s:gh) (σ:St) (H:Hp) (x:V) (v:Value) (Q:VK),Inv X pins σ H s->o5 x v->r x H Q ->
    gr (gu X.prog X.w) X.A (f v) (EP X pins σ Q) X.xe s
def S6 (X:Cx)(f:Value)(r:List V->Hp->VK->Prop):Prop :=
  ∀(pins:List (Addr×Obj)) (s:gh) (σ:St) (H:Hp) (xs:List V) (us:List Value) (Q:VK),Inv X pins σ H s->o0 xs us->r xs H Q ->
    gr (gu X.prog X.w) X.A (call f us) (EP X pins σ Q) X.xe s
def tOp (r:R2)(ta tb:TE):TE:=λσ H Q=>ta σ H λx H1=>tb σ H1 λy H2=>r x y H2 Q
def tUn (r:V->Hp->VK->Prop)(ta:TE):TE:=λσ H Q=>ta σ H λx H1=>r x H1 Q
def rI (C:Int->Int->Prop)(g:Int->Int->V):R2:=λx y H Q=>∃i j,x=.int i/\y=.int j/\C i j/\Q (g i j) H
def rI0 (g:Int->Int->V):R2:=λx y H Q=>∃i j,x=.int i/\y=.int j/\Q (g i j) H
def rU (g:Int->V):V->Hp->VK->Prop:=λx H Q=>∃i,x=.int i/\Q (g i) H
section
variable {X:Cx}{a b c:Expr}{ta tb tc:TE}{pos:Pos}
theorem xl9 (g : PE X a ta)(hb : PE X b tb){pins : List (Addr×Obj)}{s : gh}{σ : St}{H : Hp}{R : V -> V -> Hp -> Prop}(I : Inv X pins σ H s)
    (h:ta σ H λx H1=>tb σ H1 λy H2=>R x y H2) {Q:Value->gh->Prop} {f:Value->Value->Sem Value}
    (i:∀v u c x y H2,Inv X pins σ H2 c->o5 x v->o5 y u->R x y H2->gr (gu X.prog X.w) X.A (f v u) Q X.xe c) :
    gr (gu X.prog X.w) X.A (eval a X.env) (λv s₁=>gr (gu X.prog X.w) X.A (eval b X.env) (λu s₂=>gr (gu X.prog X.w) X.A (f v u) Q X.xe s₂) X.xe s₁) X.xe s:=by
  refine thn (g pins s σ H _ I h) λv n ⟨x,H1,d,l,j⟩=>?_;refine thn (hb pins n σ H1 _ d j) λu c ⟨y,H2,e,m,k⟩=>?_;exact i v u c x y H2 e l m k
theorem w8 {c:Operator}{r:R2}(f:OpR X (binaryOp c) r)(e:PE X a ta)(hb:PE X b tb):PE X (.BinOp a c b pos) (tOp r ta tb):=by
  intro pins s σ H Q I h;exact wpAny_BinOp (xl9 e hb I h λv u j x y H2 d g i q=>f pins j σ H2 x y v u Q d g i q)
theorem yn5 {b:UnaryOp}{r:V->Hp->VK->Prop}(e:UnR X (unaryOp b) r)(d:PE X a ta):PE X (.UnaryOp b a pos) (tUn r ta):=by
  intro pins s σ H Q I h;exact UnaryOp_ (thn (d pins s σ H _ I h) λv i ⟨x,H1,c,g,f⟩=>e pins i σ H1 x v Q c g f)
theorem opI {f : Value -> Value -> Sem Value}{C : Int -> Int -> Prop}{g : Int -> Int -> Int}
    (a:∀(i j:Int) (t u:Tok) (s:gh) (Q:Value->gh->Prop) (E:Value->gh->Prop),C i j->Q (.int (g i j) s.toks) { s with toks:=s.toks+1 }->gr (gu X.prog X.w) X.A (f (.int i t) (.int j u)) Q E s) :
    OpR X f (rI C λi j=>.int (g i j)):=by
  intro pins s σ H x y v u Q I c d h;obtain⟨i,j,rfl,rfl,b,q⟩:=h;obtain⟨t,rfl⟩:=c;obtain⟨e,rfl⟩:=d;exact a i j t e s _ _ b ⟨.int (g i j),H,I.tok _,⟨_,rfl⟩,q⟩
theorem xp2 {f : Value -> Value -> Sem Value}{g : Int -> Int -> Int}
    (a:∀(i j:Int) (t u:Tok) (s:gh) (Q:Value->gh->Prop) (E:Value->gh->Prop),Q (.int (g i j) s.toks) { s with toks:=s.toks+1 }->gr (gu X.prog X.w) X.A (f (.int i t) (.int j u)) Q E s) :
    OpR X f (rI0 λi j=>.int (g i j)):=by
  intro pins s σ H x y v u Q I b c h;obtain⟨i,j,rfl,rfl,q⟩:=h;obtain⟨t,rfl⟩:=b;obtain⟨d,rfl⟩:=c;exact a i j t d s _ _ ⟨.int (g i j),H,I.tok _,⟨_,rfl⟩,q⟩
theorem xh3 {f : Value -> Value -> Sem Value}{g : Int -> Int -> Bool}
    (a:∀(i j:Int) (t u:Tok) (s:gh) (Q:Value->gh->Prop) (E:Value->gh->Prop),Q (.bool (g i j)) s->gr (gu X.prog X.w) X.A (f (.int i t) (.int j u)) Q E s) :
    OpR X f (rI0 λi j=>.bl (g i j)):=by
  intro pins s σ H x y v u Q I b c h;obtain⟨i,j,rfl,rfl,q⟩:=h;obtain⟨t,rfl⟩:=b;obtain⟨d,rfl⟩:=c;exact a i j t d s _ _ ⟨.bl (g i j),H,I,rfl,q⟩
def xw0 (i j:Int):Prop:=0<j/\j<1073741824
def xl6 (i j:Int):Prop:=0<=j/\j<=1000000/\i.natAbs<2 ^ 64
def xe2 (i j:Int):Prop:=(-(2 ^ 64)<i/\i<2 ^ 64)∨(-(2 ^ 64)<j/\j<2 ^ 64)
theorem xe2.ok {i j:Int}(h:xe2 i j):IntMulOk i j:=by
  rcases h with⟨h1,h2⟩|⟨h1,h2⟩
  . exact .of_left (intBits_le_64 h1 h2)
  . exact .of_right (intBits_le_64 h1 h2)
theorem l7:OpR X (binaryOp .Add) (rI0 λi j=>.int (i+j)):=xp2 λ_ _ _ _ _ _ _ q=>add_int q
theorem N8:OpR X (binaryOp .Sub) (rI0 λi j=>.int (i-j)):=xp2 λ_ _ _ _ _ _ _ q=>sub_int q
theorem P7:OpR X (binaryOp .Mult) (rI xe2 λi j=>.int (i*j)):=opI λ_ _ _ _ _ _ _ hc q=>mul_int q hc.ok
theorem g6:OpR X (binaryOp .FloorDiv) (rI xw0 λi j=>.int (i / j)):=opI λi j _ _ _ _ _ hc q=>by
  have h1:(0:Int)<j:=hc.1
  have h2:j<1073741824:=hc.2
  exact floordiv_int (by lia) (by rw[Int.fdiv_eq_ediv_of_nonneg i (by lia)];exact q) (.inl (PyProof.noPylong_small (by lia)))
theorem p8:OpR X (binaryOp .Mod) (rI (λ_ j=>0<j) λi j=>.int (i % j)):=opI λi j _ _ _ _ _ hc q=>by
  have h1:(0:Int)<j:=hc
  exact mod_int' (by lia) (by rw[Int.fmod_eq_emod_of_nonneg i (by lia)];exact q)
theorem xa4:OpR X (binaryOp .Pow) (rI xl6 λi j=>.int (i ^ j.toNat)):=opI λ_ _ _ _ _ _ _ hc q=>pow_int_small hc.1 hc.2.1 hc.2.2 q
theorem xg4:OpR X (inplaceOp .Add) (rI0 λi j=>.int (i+j)):=xp2 λ_ _ _ _ _ _ _ q=>iadd_int q
theorem unI {f : Value -> Sem Value}{g : Int -> Int}
    (a:∀(i:Int) (t:Tok) (s:gh) (Q:Value->gh->Prop) (E:Value->gh->Prop),Q (.int (g i) s.toks) { s with toks:=s.toks+1 }->gr (gu X.prog X.w) X.A (f (.int i t)) Q E s) :
    UnR X f (rU λi=>.int (g i)):=by
  intro pins s σ H x v Q I b h;obtain⟨i,rfl,q⟩:=h;obtain⟨t,rfl⟩:=b;exact a i t s _ _ ⟨.int (g i),H,I.tok _,⟨_,rfl⟩,q⟩
theorem zy6:UnR X (unaryOp .USub) (rU λi=>.int (-i)):=unI λ_ _ _ _ _ q=>neg_int q
end
def xu9 : V -> V -> Bool
  | .non,.non=>true | .non,.int _=>true | .int _,.non=>true | .non,.bl _=>true | .bl _,.non=>true | .non,.str _=>true | .str _,.non=>true
  | .int _,.int _=>true | .bl _,.bl _=>true | .str _,.str _=>true | .byt _,.byt _=>true
  | .int _,.str _=>true | .str _,.int _=>true | .bl _,.str _=>true | .str _,.bl _=>true
  | _,_=>false
def rEq:R2:=λx y H Q=>xu9 x y=true/\Q (.bl (decide (x=y))) H
def rNe:R2:=λx y H Q=>xu9 x y=true/\Q (.bl (!decide (x=y))) H
theorem yl1 {i j:Int}:decide (V.int i=V.int j)=(i==j):=by
  rw[eF];simp
theorem yw3 {i j:Bool}:decide (V.bl i=V.bl j)=(i==j):=by
  rw[eF];simp
theorem yl2 {i j:Str}:decide (V.str i=V.str j)=(i==j):=by
  rw[eF];simp
theorem yl0 {i j:Array UInt8}:decide (V.byt i=V.byt j)=(i.toList==j.toList):=by
  rw[eF]
  cases i
  cases j
  simp
section
variable {X:Cx}{a b c:Expr}{ta tb tc:TE}{pos:Pos}
theorem n6 {pins:List (Addr×Obj)}{σ:St}{H:Hp}{s:gh}{Q:VK}{k a:Bool}(I:Inv X pins σ H s)(q:Q (.bl k) H)(e:k=a):EP X pins σ Q (.bool a) s:=by
  subst e;exact⟨.bl k,H,I,rfl,q⟩
theorem h7:OpR X (compareOp .Eq) rEq:=by
  intro pins s σ H x y v u Q I c a h;obtain⟨hs,q⟩:=h
  cases x with
  | non =>
    cases c
    cases y with
    | non=>cases a;exact PySem.EqNone.eq_none_none (n6 I q (by simp))
    | bl j=>cases a;exact PySem.EqNone.eq_none_bool (n6 I q (by simp))
    | int j=>obtain⟨b,rfl⟩:=a;exact PySem.EqNone.eq_none_int (n6 I q (by simp))
    | str j=>obtain⟨b,rfl⟩:=a;exact PySem.EqNone.eq_none_str (n6 I q (by simp))
    | _=>exact absurd (show false=true from hs) aH
  | bl i =>
    cases c
    cases y with
    | non=>cases a;exact PySem.EqNone.eq_bool_none (n6 I q (by simp))
    | bl j=>cases a;exact eq_bool (n6 I q yw3)
    | str j=>obtain⟨b,rfl⟩:=a;exact PySem.EqMixed.eq_bool_str (n6 I q (by simp))
    | _=>exact absurd (show false=true from hs) aH
  | int i =>
    obtain⟨t,rfl⟩:=c
    cases y with
    | non=>cases a;exact PySem.EqNone.eq_int_none (n6 I q (by simp))
    | int j=>obtain⟨b,rfl⟩:=a;exact eq_int (n6 I q yl1)
    | str j=>obtain⟨b,rfl⟩:=a;exact PySem.EqMixed.eq_int_str (n6 I q (by simp))
    | _=>exact absurd (show false=true from hs) aH
  | str i =>
    obtain⟨t,rfl⟩:=c
    cases y with
    | non=>cases a;exact PySem.EqNone.eq_str_none (n6 I q (by simp))
    | bl j=>cases a;exact PySem.EqMixed.eq_str_bool (n6 I q (by simp))
    | int j=>obtain⟨b,rfl⟩:=a;exact PySem.EqMixed.eq_str_int (n6 I q (by simp))
    | str j=>obtain⟨b,rfl⟩:=a;exact eq_str (n6 I q yl2)
    | _=>exact absurd (show false=true from hs) aH
  | byt i =>
    obtain⟨t,rfl⟩:=c
    cases y with
    | byt j=>obtain⟨b,rfl⟩:=a;exact W.eq_bytes (n6 I q yl0)
    | _=>exact absurd (show false=true from hs) aH
  | _=>cases y <;> exact absurd (show false=true from hs) aH
theorem zr6:OpR X (compareOp .NotEq) rNe:=by
  intro pins s σ H x y v u Q I c a h;obtain⟨hs,q⟩:=h
  cases x with
  | non =>
    cases c
    cases y with
    | non=>cases a;exact PySem.EqNone.ne_none_none (n6 I q (by simp))
    | bl j=>cases a;exact PySem.EqNone.ne_none_bool (n6 I q (by simp))
    | int j=>obtain⟨b,rfl⟩:=a;exact PySem.EqNone.ne_none_int (n6 I q (by simp))
    | str j=>obtain⟨b,rfl⟩:=a;exact PySem.EqNone.ne_none_str (n6 I q (by simp))
    | _=>exact absurd (show false=true from hs) aH
  | bl i =>
    cases c
    cases y with
    | non=>cases a;exact PySem.EqNone.ne_bool_none (n6 I q (by simp))
    | bl j=>cases a;exact ne_bool (n6 I q (congrArg not yw3))
    | str j=>obtain⟨b,rfl⟩:=a;exact PySem.EqMixed.ne_bool_str (n6 I q (by simp))
    | _=>exact absurd (show false=true from hs) aH
  | int i =>
    obtain⟨t,rfl⟩:=c
    cases y with
    | non=>cases a;exact PySem.EqNone.ne_int_none (n6 I q (by simp))
    | int j=>obtain⟨b,rfl⟩:=a;exact ne_int (n6 I q (congrArg not yl1))
    | str j=>obtain⟨b,rfl⟩:=a;exact PySem.EqMixed.ne_int_str (n6 I q (by simp))
    | _=>exact absurd (show false=true from hs) aH
  | str i =>
    obtain⟨t,rfl⟩:=c
    cases y with
    | non=>cases a;exact PySem.EqNone.ne_str_none (n6 I q (by simp))
    | bl j=>cases a;exact PySem.EqMixed.ne_str_bool (n6 I q (by simp))
    | int j=>obtain⟨b,rfl⟩:=a;exact PySem.EqMixed.ne_str_int (n6 I q (by simp))
    | str j=>obtain⟨b,rfl⟩:=a;exact ne_str (n6 I q (congrArg not yl2))
    | _=>exact absurd (show false=true from hs) aH
  | byt i =>
    obtain⟨t,rfl⟩:=c
    cases y with
    | byt j=>obtain⟨b,rfl⟩:=a;exact W.ne_bytes (n6 I q (congrArg not yl0))
    | _=>exact absurd (show false=true from hs) aH
  | _=>cases y <;> exact absurd (show false=true from hs) aH
theorem xk8:OpR X (compareOp .Lt) (rI0 λi j=>.bl (decide (i<j))):=xh3 λ_ _ _ _ _ _ _ q=>lt_int q
theorem yn3:OpR X (compareOp .LtE) (rI0 λi j=>.bl (decide (i<=j))):=xh3 λ_ _ _ _ _ _ _ q=>le_int q
theorem zr5:OpR X (compareOp .Gt) (rI0 λi j=>.bl (decide (j<i))):=xh3 λ_ _ _ _ _ _ _ q=>gt_int q
theorem xu0:OpR X (compareOp .GtE) (rI0 λi j=>.bl (decide (j<=i))):=xh3 λ_ _ _ _ _ _ _ q=>ge_int q
theorem xh6:OpR X (compareOp .IsNot) (λx y H Q=>y=.non/\Q (.bl (!decide (x=.non))) H):=by
  intro pins s σ H x y v u Q I a b h;obtain⟨rfl,q⟩:=h
  cases b
  refine isnot_none_gen (n6 I q ?_)
  cases x <;> first
    | (cases a;rfl)
    | (obtain⟨t,rfl⟩:=a;rfl)
theorem r6 (b:Expr){op:CmpOp}(h:op≠.In:=by decide)(h2:op≠.NotIn:=by decide):behindInMarks op b=false:=by
  have e1:(op==CmpOp.In)=false:=by cases op <;> first|rfl|exact absurd rfl h
  have e2:(op==CmpOp.NotIn)=false:=by cases op <;> first|rfl|exact absurd rfl h2
  cases b <;> simp[behindInMarks,e1,e2]
theorem V3 {c:CmpOp}{r:R2}(f:OpR X (compareOp c) r)(e:PE X a ta)(hb:PE X b tb)(hm:behindInMarks c b=false):PE X (.Compare a [c] [b] pos) (tOp r ta tb):=by
  intro pins s σ H Q I h;exact wpAny_Compare1 (xl9 e hb I h λv u j x y H2 d g i q=>f pins j σ H2 x y v u Q d g i q) hm
def xl4 (t:TE):TT:=λσ H Q=>t σ H λx H'=>∃k,x=.bl k/\Q k H'
theorem u8 {d:CmpOp}{r:R2}(m:OpR X (compareOp d) r)(l:PE X a ta)(hb:PE X b tb)(hm:behindInMarks d b=false):PT X (.Compare a [d] [b] pos) (xl4 (tOp r ta tb)):=by
  intro pins s σ H Q I h;refine wpAny_isTrue_Compare1 (thn (l pins s σ H _ I h) λv A ⟨x,H1,g,q,n⟩=>thn (hb pins A σ H1 _ g n) λu B ⟨y,H2,i,t,o⟩ =>
    thn (m pins B σ H2 x y v u _ i q t o) λc C ⟨z,f,j,w,k,e,p⟩=>?_) hm
  subst e
  cases w
  exact wpAny_truthy_bool ⟨f,j,p⟩
def xr0 (r r':R2)(ta tb tc:TE):TE:=λσ H Q=>ta σ H λx H1=>tb σ H1 λy H2=>r x y H2 λz H3=>∃k,z=.bl k /\
  (if k=true then tc σ H3 λw' H4=>r' y w' H4 Q else Q (.bl false) H3)
theorem yd2 {op op' : CmpOp}{r r' : R2}(ho : OpR X (compareOp op) r)(ho' : OpR X (compareOp op') r')(ha : PE X a ta)(hb : PE X b tb)(hc : PE X c tc)
    (hm:lastMarks [op,op'] [b,c]=false:=by with_unfolding_all rfl):PT X (.Compare a [op,op'] [b,c] pos) (xl4 (xr0 r r' ta tb tc)):=by
  intro pins s σ H Q I h;refine isTrue_chain (thn (ha pins s σ H _ I h) λv s1 ⟨x,H1,I1,r1,q1⟩=>test_link (thn (hb pins s1 σ H1 _ I1 q1) λu s2 ⟨y,H2,I2,r2,q2⟩ =>
    thn (ho pins s2 σ H2 x y v u _ I2 r1 r2 q2) λd s3 ⟨z,H3,I3,r3,k,e,q3⟩=>?_)) hm
  subst e
  cases r3
  refine wpAny_truthy_bool ?_
  cases k with
  | false =>
    obtain⟨k',e',q'⟩:=q3
    cases e'
    exact ite_ff ⟨H3,I3,q'⟩
  | true =>
    refine ite_tt (test_last (thn (hc pins s3 σ H3 _ I3 q3) λw' s4 ⟨z',H4,I4,r4,q4⟩=>thn (ho' pins s4 σ H4 y z' u w' _ I4 r2 r4 q4) λd' s5 ⟨z2,H5,I5,r5,k2,e2,q5⟩=>?_));subst e2
    cases r5
    exact wpAny_truthy_bool ⟨H5,I5,q5⟩
theorem zj6:(gn:Nat)<2 ^ 63:=by rw[sizeLine_eq];decide
theorem O9 {x:V}{us:List Value}(r:o0 [x] us):∃u,us=[u]/\o5 x u:=by
  cases r with
  | cons r1 r2=>cases r2;exact⟨_,rfl,r1⟩
theorem yp6 {x y:V}{us:List Value}(r:o0 [x,y] us):∃u w',us=[u,w']/\o5 x u/\o5 y w':=by
  cases r with
  | cons r1 r2 =>
    cases r2 with
    | cons r3 r4=>cases r4;exact⟨_,_,rfl,r1,r3⟩
theorem yq5:S6 X (.type "int") (λxs H Q=>(∃i,xs=[.int i]/\Q (.int i) H)∨∃k,xs=[.bl k]/\Q (.int (if k then 1 else 0)) H):=by
  intro pins s σ H xs b Q I r h;rcases h with⟨i,rfl,q⟩|⟨k,rfl,q⟩
  . obtain⟨u, rfl, t, rfl⟩ := O9 r;exact call_int_int ⟨.int i,H,I,⟨_,rfl⟩,q⟩
  . obtain⟨u, rfl, a⟩ := O9 r
    cases a
    exact call_int_bool ⟨.int (if k then 1 else 0),H,I.tok _,⟨_,rfl⟩,q⟩
end
structure yg2 (h:Heap) (x dx C:Addr) (mA:Str->Option Value):Prop where
  obj:h.get? x=some (W.instObj C dx)
  ns:h.Ns1 dx mA
  ne:dx≠x
theorem ys6 {h:Heap}{dx:Addr}{mA:Str->Option Value}(n:h.Ns1 dx mA):∃od,h.get? dx=some od/\∀name,W.lookIn name od=some (mA name):=by
  obtain⟨o,es,j,g,d,f,_,hm⟩:=n;refine⟨o,g,λname=>?_⟩;have e:=hm name;unfold nsFind findBy at e;rw[←Array.find?_toList]at e;unfold W.lookIn;rw[d];dsimp only;split
  . rename_i y q;rw[q]at e;exact congrArg some e
  . rename_i q;rw[q]at e;have a:es.toList.any (·.refKey)=false:=by
      rw[fO];intro y i;obtain⟨z,t,b⟩:=f y (Array.mem_toList_iff.mp i);simp[DictEntry.refKey,b]
    have c:¬es.toList.any (·.refKey)=true:=by rw[a];exact aH
    rw[if_neg c];exact congrArg some e
theorem yg2.look {h:Heap}{x dx C:Addr}{mA:Str->Option Value}(I:yg2 h x dx C mA):∃od,W.InstAt h x (W.instObj C dx) C (some od)/\∀name,W.lookIn name od=some (mA name) :=
  let ⟨od,ho,hl⟩:=ys6 I.ns
  ⟨od,⟨I.obj,rfl,rfl,ho⟩,hl⟩
section
variable {prog:gq}{w:gv}{A:gw}{E:Value->gh->Prop}{s:gh}{K:W.Frag}{x dx C f:Addr}{mA:Str->Option Value}{name:Str}{v:Value}
theorem xg1 {a : Bool}{Q : Value -> gh -> Prop}(X : K.In s.heap)(I : yg2 s.heap x dx C mA)(d : W.plainGet K C name = true)(e : W.hasDictIn K C = true)
    (c:W.findIn K (.ref C) name=some none) (f:mA name=some v) (b:W.handedIn v=true) (h:Q v { s with toks:=s.toks+1 }) :
    gr (gu prog w) A (getAttr (.ref x) name a) Q E s:=by
  obtain⟨od,J,hl⟩:=I.look;exact W.get_value X J (W.plainGet_of d).1 (W.findObj_own e c rfl (by rw[hl,f])) b h
theorem yy0 {pl : Sem Bool}{Q : Value×List Value -> gh -> Prop}(X : K.In s.heap)(I : yg2 s.heap x dx C mA)(a : W.plainGet K C name = true)
    (b:W.findIn K (.ref C) name=some (some (.ref f))) (c:W.isFn K (.ref f)=true) (d:mA name=none) (h:Q (.ref f,[.ref x]) s) :
    gr (gu prog w) A (getMethod (.ref x) name pl) Q E s:=by
  obtain⟨od,J,hl⟩:=I.look;exact W.method_fn X J (W.plainGet_of a).1 (W.plainGet_of a).2 b (beq_iff_eq.mp c) (by show(W.lookIn name od).map (·.isSome)=some false;rw[hl,d];rfl) h
theorem xi9 {j : List Str}{Q : Unit -> gh -> Prop}(X : K.In s.heap)(I : yg2 s.heap x dx C mA)
    (hs:W.findIn K (.ref C) "__setattr__"=some (some (.builtin "object.__setattr__"))) (o:W.plainOver K C=true) (p:W.takerIn K C name=some none) (n:W.hasDictIn K C=true)
    (hw:PySem.Within mA j) (hsz:j.length<=gn)
    (h:∀h',yg2 h' x dx C (λy=>if y=name then some v else mA y)->Heap.SameBut dx s.heap h'->Q () { s with heap:=h',toks:=s.toks+2 }) :
    gr (gu prog w) A (setAttr (.ref x) name v) Q E s:=by
  obtain⟨od,J,hl⟩:=I.look
  refine W.set_plain X J hs (W.osa_open (s:={ s with toks:=s.toks+1 }) (r:=none) X J o p λb=>?_)
  obtain⟨cd,m,f⟩:=W.any_some n
  have q:s.heap.get? x=some ⟨.ref C,some dx,.plain,#[]⟩:=I.obj
  refine gg (gl (gg (gg (wpAny_loadPart q (gg (W.Looks.here (s:={ s with toks:=s.toks+1 }) (W.looks_clsIn X m) ?_))))))
  rw[f]
  refine gl (a:=some dx) (gg (gl (gg ?_)))
  refine wpAny_nsSet1 (s:={ s with toks:=s.toks+1 }) I.ns λh' c d=>?_
  obtain⟨t,l,k,i,g,e⟩:=c.count (PySem.Within.cons name v hw)
  refine gg (wpAny_lookBehind i (by rw[g];exact pastItsLine_dict (aM e (by rw[aC];lia))) ?_)
  exact gl (h _ ⟨(d.2 _ (Ne.symm I.ne)).trans I.obj,c,I.ne⟩ d)
theorem yz5 {R : Result -> gh -> Prop}{vs : List Value}{a : List (Str×Value)}(X : K.In s.heap)(hm : W.makesIn K C = true)
    (hi:W.findIn K (.ref C) "__init__"=some (some (.ref f))) (b:W.typeIn K (.ref f)=some (.type "function"))
    (h : codeAny (gu prog w) (A.under (.builtin "type.__call__" ⟨.ref C::vs, a⟩)) (.call (.ref f) ⟨.ref (s.heap.objs.size+1)::vs, a⟩) (W.InitBack (s.heap.objs.size+1) R)
      { s with heap:=(s.heap.push W.emptyDict).push (W.instObj C s.heap.objs.size) }) :
    codeAny (gu prog w) A (.call (.ref C) ⟨vs,a⟩) R s:=by
  obtain⟨c,g,d,t,e⟩:=s
  exact W.make_core (W.makes_of X hm) (W.looks_findIn X hi) (λself=>W.bind_fn X self b) (.inl rfl) h
end
def Y6 (f : Str)(v : V) : List (Str×V) -> List (Str×V)
  | []=>[(f,v)]
  | (g,x)::r=>if g=f then(g,v)::r else(g,x)::Y6 f v r
theorem ze9 (f g : Str)(v : V) : ∀fs : List (Str×V), (Y6 f v fs).lookup g = if g = f then some v else fs.lookup g
  | []=>by
    show List.lookup g [(f,v)]=_
    by_cases h:g=f
    . have hb : (g==f) = true := beq_iff_eq.mpr h
      simp only[List.lookup,hb,if_pos h]
    . have hb : (g==f) = false := beq_eq_false_iff_ne.mpr h
      simp only[List.lookup,hb,if_neg h]
  | (k,x)::r=>by
    have ih:=ze9 f g v r
    rw[show Y6 f v ((k,x)::r)=(if k=f then(k,v)::r else(k,x)::Y6 f v r) from rfl]
    by_cases hk:k=f
    . rw[if_pos hk]
      by_cases h:g=k
      . have hb : (g==k) = true := beq_iff_eq.mpr h
        simp only[List.lookup,hb,if_pos (h.trans hk)]
      . have hb : (g==k) = false := beq_eq_false_iff_ne.mpr h
        simp only[List.lookup,hb,if_neg (λe:g=f=>h (e.trans hk.symm))]
    . rw[if_neg hk]
      by_cases h:g=k
      . have hb : (g==k) = true := beq_iff_eq.mpr h
        simp only[List.lookup,hb,if_neg (λe:g=f=>hk (h.symm.trans e))]
      . have hb : (g==k) = false := beq_eq_false_iff_ne.mpr h
        simp only[List.lookup,hb]
        exact ih
theorem zc6 (f : Str)(v : V) : ∀fs : List (Str×V), f ∈ (Y6 f v fs).map (·.1) /\ ∀g, g ∈ fs.map (·.1) -> g ∈ (Y6 f v fs).map (·.1)
  | []=>⟨by simp[Y6],λg h=>by simp at h⟩
  | (k,x)::r=>by
    obtain⟨i1,i2⟩:=zc6 f v r
    rw[show Y6 f v ((k,x)::r)=(if k=f then(k,v)::r else(k,x)::Y6 f v r) from rfl]
    by_cases hk:k=f
    . rw[if_pos hk]
      subst hk
      exact⟨by simp,λg h=>by simpa using h⟩
    . rw[if_neg hk]
      refine⟨?_,λg h=>?_⟩
      . rw[aJ]
        exact ah _ i1
      . rw[aJ]at h ⊢
        rcases ay.mp h with e|e
        . exact ay.mpr (.inl e)
        . exact ah _ (i2 g e)
theorem ze8 (f : Str)(v : V) : ∀fs : List (Str×V), (Y6 f v fs).length <= fs.length+1
  | []=>by simp[Y6]
  | (k,x)::r=>by
    have ih:=ze8 f v r
    rw[show Y6 f v ((k,x)::r)=(if k=f then(k,v)::r else(k,x)::Y6 f v r) from rfl]
    by_cases hk:k=f
    . rw[if_pos hk,aC,aC];lia
    . rw[if_neg hk,aC,aC];lia
theorem D9.some_of {v:V}{o:Option Value}(r:D9 (some v) o):∃u,o=some u/\o5 v u:=by
  cases o with
  | none=>exact(show False from r).elim
  | some u=>exact⟨u,rfl,r⟩
theorem D9.none_of {o:Option Value}(r:D9 none o):o=none:=by
  cases o with
  | none=>rfl
  | some u=>exact(show False from r).elim
theorem yr6 {v:V}{u:Value}(r:o5 v u):W.handedIn u=true:=by
  cases v with
  | non=>cases (show u=Value.none from r);rfl
  | bl b=>cases (show u=Value.bool b from r);rfl
  | int i=>obtain⟨t,e⟩:=(show ∃t,u=Value.int i t from r);cases e;rfl
  | str x=>obtain⟨t,e⟩:=(show ∃t,u=Value.str x t from r);cases e;rfl
  | byt b=>obtain⟨t,e⟩:=(show ∃t,u=Value.bytes b t from r);cases e;rfl
  | flt b=>obtain⟨t,e⟩:=(show ∃t,u=Value.float b t from r);cases e;rfl
  | ref a=>cases (show u=Value.ref a from r);rfl
  | ty n=>cases (show u=Value.type n from r);rfl
section
variable {P:gq}{w:gv}{H H':Hp}{h h':Heap}{a C dx:Addr}{fs fs':List (Str×V)}
theorem L8 (b:HOk P w H h)(e:H a=some (.ins C dx fs)):∃mA,yg2 h a dx C mA/\(∀f,D9 (fs.lookup f) (mA f))/\PySem.Within mA (fs.map (·.1))/\fs.length<=1000/\H dx=some (.own a):=by
  obtain⟨d,z,c,g,mA,n,r,q⟩:=(show k8 P w H h a (.ins C dx fs) from b a _ e);exact⟨mA,⟨g,n,c⟩,r,q,z,d⟩
end
structure Cls (K:W.Frag) (C:Addr):Prop where
  pg:W.plainGet K C Str.empty=true
  hd:W.hasDictIn K C=true
  po:W.plainOver K C=true
  sa:W.findIn K (.ref C) "__setattr__"=some (some (.builtin "object.__setattr__"))
theorem Cls.get {K:W.Frag}{C:Addr}(c:Cls K C)(f:Str):W.plainGet K C f=true:=c.pg
def G3 (K:W.Frag)(C:Addr)(f:Str):Prop:=W.findIn K (.ref C) f=some none
theorem G3.taker {K:W.Frag}{C:Addr}{f:Str}(n:G3 K C f):W.takerIn K C f=some none:=by
  unfold W.takerIn;rw[show W.findIn K (.ref C) f=some none from n];rfl
structure xe4 (K:W.Frag) (C:Addr) (m:Str) (f:Addr):Prop where
  at_:W.findIn K (.ref C) m=some (some (.ref f))
  fn:W.isFn K (.ref f)=true
  kp:W.keepIn K (.ref f)=true
section
variable {X:Cx}{pins:List (Addr×Obj)}{σ:St}{H:Hp}{s:gh}{a C dx:Addr}{fs:List (Str×V)}{f:Str}{v:V}{A:gw}{E:Value->gh->Prop}
theorem zi8 {b : Bool}{Q : Value -> gh -> Prop}(I : Inv X pins σ H s)(e : H a = some (.ins C dx fs))(c : Cls X.K C)(n : G3 X.K C f)(l : fs.lookup f = some v)
    (h:∀u s',Inv X pins σ H s'->o5 v u->Q u s'):gr (gu X.prog X.w) A (getAttr (.ref a) f b) Q E s:=by
  obtain⟨mA,O,r,_,_,_⟩:=L8 I.hok e;obtain⟨u,g,d⟩:=D9.some_of (v:=v) (o:=mA f) (by rw[←l];exact r f);exact xg1 I.kIn O (c.get f) c.hd n g (yr6 d) (h u _ (I.tok _) d)
theorem zi9 {m : Str}{g : Addr}{pl : Sem Bool}{Q : Value×List Value -> gh -> Prop}(I : Inv X pins σ H s)(e : H a = some (.ins C dx fs))(c : Cls X.K C)(k : xe4 X.K C m g)(l : fs.lookup m = none)
    (h:Q (.ref g,[.ref a]) s):gr (gu X.prog X.w) A (getMethod (.ref a) m pl) Q E s:=by
  obtain⟨mA,O,r,_,_,_⟩:=L8 I.hok e;have b:mA m=none:=D9.none_of (by rw[←l];exact r m);exact yy0 I.kIn O (c.get m) k.at_ k.fn b h
theorem zm3 {y : V}{u : Value}{Q : Unit -> gh -> Prop}(I : Inv X pins σ H s)(e : H a = some (.ins C dx fs))(c : Cls X.K C)(n : G3 X.K C f)(hl : fs.length<1000)(m : o5 y u)
    (h:∀s',Inv X pins σ (upd H a (.ins C dx (Y6 f y fs))) s'->Q () s'):gr (gu X.prog X.w) A (setAttr (.ref a) f u) Q E s:=by
  obtain⟨mA,O,r,wi,_,i⟩:=L8 I.hok e;have l:(fs.map (·.1)).length<=gn:=by rw[aa,sizeLine_eq];lia
  refine xi9 I.kIn O c.sa c.po n.taker c.hd wi l λh' d p=>h _ ?_;have j:∃o,h'.get? dx=some o:=let ⟨o,_,_,e',_⟩:=d.ns;⟨o,e'⟩;refine I.write (x:=a) (e:=dx) (by rw[e];exact True.intro) (.inr i) (λb q hb z=>(p.2 b hb).trans z) j ?_;refine⟨by rw[y0 O.ne];exact i,?_,O.ne,d.obj,_,d.ns,λg=>?_,λg k=>?_⟩
  . have:=ze8 f y fs;lia
  . show D9 ((Y6 f y fs).lookup g) (if g = f then some u else mA g);rw[ze9];by_cases q:g=f
    . rw[if_pos q,if_pos q];exact m
    . rw[if_neg q,if_neg q];exact r g
  . by_cases q : g = f
    . rw[q];exact(zc6 f y fs).1
    . refine(zc6 f y fs).2 g (wi g λz => k ?_);show(if g=f then some u else mA g)=none;rw[if_neg q];exact z
theorem Inv.made (I : Inv X pins σ H s) : Inv X pins σ (upd (upd H s.heap.objs.size (.own (s.heap.objs.size+1))) (s.heap.objs.size+1) (.ins C s.heap.objs.size []))
    { s with heap:=(s.heap.push W.emptyDict).push (W.instObj C s.heap.objs.size) }:=by
  have c:(s.heap.push W.emptyDict).get? s.heap.objs.size=some W.emptyDict:=aF s.heap rfl;have g:((s.heap.push W.emptyDict).push (W.instObj C s.heap.objs.size)).get? (s.heap.objs.size+1)=some (W.instObj C s.heap.objs.size):=by
    have:=aF (s.heap.push W.emptyDict) (o:=W.instObj C s.heap.objs.size) rfl;rwa [cO]at this
  have h:(s.heap.push W.emptyDict).Ns s.heap.objs.size (λ_=>none):=⟨W.emptyDict,#[],_,c,rfl,(λe i=>absurd i (by simp)),λ_=>rfl⟩;have f:=I.laid (a:=s.heap.objs.size) (o:=.own (s.heap.objs.size+1)) (h':=s.heap.push W.emptyDict) (t':=s.toks) (λb u q=>au _ q) (aq _) ⟨_,c⟩;refine f.laid (a:=s.heap.objs.size+1) (o:=.ins C s.heap.objs.size []) (t':=s.toks) (λb u q=>au _ q) (gb (cO _ _)) ?_;have d:s.heap.objs.size≠s.heap.objs.size+1:=aP (cQ _);refine⟨by rw[y0 d,z3],aY _,d,g,λ_=>none,(Heap.Ns1.of_empty h).at λo q=>au _ q,λ_=>True.intro,λy j=>absurd rfl j⟩
theorem xe8 {prog : gq}{w : gv}{env : Env}{e : Expr}{f : Str}{pos : Pos}{s : gh}{Q : Value -> gh -> Prop}(hb : attributeBase e f env (eval e env) = eval e env)
    (h:gr (gu prog w) A (eval e env) (λo s₁=>gr (gu prog w) A (getAttr o f true) Q E s₁) E s):gr (gu prog w) A (eval (.Attribute e f pos) env) Q E s :=
  Attribute_any_ h (by rw[arm_eval_Attribute,hb])
end
def xy0 (K:W.Frag)(ta:TE)(f:Str):TE:=λσ H Q=>ta σ H λx H1=>∃a C dx fs v,x=.ref a/\H1 a=some (.ins C dx fs)/\Cls K C/\G3 K C f/\fs.lookup f=some v/\Q v H1
def xx6 (K:W.Frag)(ta tv:TE)(f:Str):TS:=λD σ H=>tv σ H λy H1=>ta σ H1 λx H2=>∃a C dx fs,x=.ref a/\H2 a=some (.ins C dx fs)/\Cls K C/\G3 K C f/\fs.length<1000 /\
  D.nx σ (upd H2 a (.ins C dx (Y6 f y fs)))
def xw2 (X:Cx)(op:Operator)(rd:V->V->Hp->VK->Prop):Prop :=
  ∀(pins:List (Addr×Obj)) (s:gh) (σ:St) (H:Hp) (x y:V) (u v:Value) (Q:VK),Inv X pins σ H s->o5 x u->o5 y v->rd x y H Q->gr (gu X.prog X.w) X.A (inplaceOp op u v) (EP X pins σ Q) X.xe s
def xi7 (K:W.Frag)(ta tv:TE)(rd:V->V->Hp->VK->Prop)(f:Str):TS:=λD σ H=>ta σ H λx H1=>∃a C dx fs v,x=.ref a/\H1 a=some (.ins C dx fs)/\Cls K C/\G3 K C f/\fs.lookup f=some v /\
  tv σ H1 λy H2=>rd v y H2 λz H3=>∃dx' fs',H3 a=some (.ins C dx' fs')/\fs'.length<1000/\D.nx σ (upd H3 a (.ins C dx' (Y6 f z fs')))
section
variable {X:Cx}{o e value:Expr}{f:Str}{pos pos' tpos:Pos}{ta tv:TE}
theorem q9 (i:PE X e ta)(hb:attributeBase e f X.env (eval e X.env)=eval e X.env):PE X (.Attribute e f pos) (xy0 X.K ta f):=by
  intro pins s σ H Q I h;refine xe8 hb (thn (i pins s σ H _ I h) λu m ⟨x,H1,b,k,a,C,dx,fs,v,ex,g,c,n,l,q⟩=>?_);subst ex;obtain rfl:u=Value.ref a:=k;exact zi8 b g c n l λp o d j=>⟨v,H1,d,j,q⟩
theorem V5 (i:PE X o ta)(j:PE X value tv)(hs:swapsWith value (some (.Attribute o f pos')) pos.line X.env=pure false):PS X (.Assign [.Attribute o f pos'] value pos) (xx6 X.K ta tv f):=by
  intro pins s σ H D I h;refine plainObj_wpAny_Assign_Attribute (thn (j pins s σ H _ I h) λu t ⟨y,H1,b,r,q⟩=>thn (i pins t σ H1 _ b q) λk v ⟨x,H2,d,p,a,C,dx,fs,ex,g,c,n,l,m⟩=>?_) hs;subst ex;obtain rfl:k=Value.ref a:=p;exact zm3 d g c n l r λw e=>⟨σ,_,e,m⟩
theorem yt3 {e:Operator}{g:V->V->Hp->VK->Prop}(w:PE X o ta)(A:PE X value tv)(d:xw2 X e g):PS X (.AugAssign (.Attribute o f tpos) e value pos) (xi7 X.K ta tv g f):=by
  intro pins s σ H D I h;refine wpAny_AugAssign_AttributeAny (thn (w pins s σ H _ I h) λE S ⟨x,H1,i,L,a,C,dx,fs,v,ex,t,c,n,l,q⟩=>?_);subst ex;obtain rfl:E=Value.ref a:=L;refine zi8 i t c n l λu O j J=>thn (A pins O σ H1 _ j q) λQ P ⟨y,H2,k,M,F⟩=>thn (d pins P σ H2 v y u Q _ k J M F) λW T ⟨z,R,m,N,r,fs',b,B,G⟩=>?_;exact zm3 m b c n B N λU p=>⟨σ,_,p,G⟩
end
section
variable {X:Cx}{pins:List (Addr×Obj)}{σ:St}{H:Hp}{s:gh}{A:gw}{E:Value->gh->Prop}{Q:Value->gh->Prop}{c:Value}{b:Bool}
inductive G4 (K:W.Frag) (H:Hp):V->Value->Prop where
  | non:G4 K H .non (.type "NoneType")
  | bl (x:Bool):G4 K H (.bl x) (.type "bool")
  | int (i:Int):G4 K H (.int i) (.type "int")
  | str (x:Str):G4 K H (.str x) (.type "str")
  | flt (x:UInt64):G4 K H (.flt x) (.type "float")
  | lst {a:Addr} {xs:List V} (e:H a=some (.lst xs)):G4 K H (.ref a) (.type "list")
  | frz {a:Addr} {o:Obj} {xs:List V} (e:H a=some (.frz o (.lst xs))):G4 K H (.ref a) (.type "list")
  | tup {a:Addr} {xs:List V} (e:H a=some (.tup xs)):G4 K H (.ref a) (.type "tuple")
  | dK {a:Addr} {kvs:List (Key×V)} (e:H a=some (.dK kvs)):G4 K H (.ref a) (.type "dict")
  | dT {a:Addr} {kvs:List (List Key×V)} (e:H a=some (.dT kvs)):G4 K H (.ref a) (.type "dict")
  | ins {a C dx : Addr} {fs : List (Str×V)} (e : H a = some (.ins C dx fs)) (cl : Cls K C) (ha : W.findIn K (.ref C) "__class__" = some (some (.builtin "object.__class__")))
      (hn:W.specialIn K (.builtin "object.__class__") "__get__"=some (some (.builtin "getset_descriptor.__get__"))) (htk:W.takesIn K (.builtin "object.__class__")=some true)
      (hm:W.mroIn K C (.type "object")=some true):G4 K H (.ref a) (.ref C)
theorem yr9 {x : V}{u t : Value}(I : Inv X pins σ H s)(d : o5 x u)(ty : G4 X.K H x t)(e : W.kitOne X.K t c = some b)(h : ∀tk, Q (.bool b) { s with toks := tk }) :
    gr (gu X.prog X.w) A (call (.builtin "isinstance") [u,c]) Q E s:=by
  cases ty with
  | non=>cases (show u=Value.none from d);exact W.kia_one W.kitx_none I.kIn True.intro e (λz=>nomatch z) h
  | bl y=>cases (show u=Value.bool y from d);exact W.kia_one W.kitx_bool I.kIn True.intro e (λz=>nomatch z) h
  | int i=>obtain⟨t,q⟩:=(show ∃t,u=Value.int i t from d);cases q;exact W.kia_one W.kitx_int I.kIn True.intro e (λz=>nomatch z) h
  | str y=>obtain⟨t,q⟩:=(show ∃t,u=Value.str y t from d);cases q;exact W.kia_one W.kitx_str I.kIn True.intro e (λz=>nomatch z) h
  | flt y=>obtain⟨t,q⟩:=(show ∃t,u=Value.float y t from d);cases q;exact W.kia_one W.kitx_float I.kIn True.intro e (λz=>nomatch z) h
  | @lst a xs ea =>
    cases (show u=Value.ref a from d)
    obtain⟨_,_,n,_,h1⟩:=(show k8 X.prog X.w H s.heap a (.lst xs) from I.hok a _ ea);exact W.kia_one W.kitx_list I.kIn ⟨_,h1,rfl⟩ e (λz=>nomatch z) h
  | @frz a ob xs ea =>
    cases (show u=Value.ref a from d)
    obtain⟨_,_,_,n,_,h1⟩:=(show k8 X.prog X.w H s.heap a (.frz ob (.lst xs)) from I.hok a _ ea);exact W.kia_one W.kitx_list I.kIn ⟨_,h1,rfl⟩ e (λz=>nomatch z) h
  | @tup a xs ea =>
    cases (show u=Value.ref a from d)
    obtain⟨_,_,_,p⟩:=(show k8 X.prog X.w H s.heap a (.tup xs) from I.hok a _ ea);obtain⟨o,h1,h2,_⟩:=p;exact W.kia_one W.kitx_tuple I.kIn ⟨o,h1,h2⟩ e (λz=>nomatch z) h
  | @dK a kvs ea =>
    cases (show u=Value.ref a from d)
    obtain⟨_,_,g,_,p⟩:=(show k8 X.prog X.w H s.heap a (.dK kvs) from I.hok a _ ea);obtain⟨o,es,f,h1,h2,_⟩:=p;exact W.kia_one W.kitx_dict I.kIn ⟨o,h1,h2.1⟩ e (λz=>nomatch z) h
  | @dT a kvs ea =>
    cases (show u=Value.ref a from d)
    obtain⟨_,_,xs,_,o,es,f,h1,h2,_⟩:=(show k8 X.prog X.w H s.heap a (.dT kvs) from I.hok a _ ea);exact W.kia_one W.kitx_dict I.kIn ⟨o,h1,h2.1⟩ e (λz=>nomatch z) h
  | @ins a C dx fs ea cl ha hn htk hm =>
    cases (show u=Value.ref a from d)
    obtain⟨mA,O,_⟩:=L8 I.hok ea;obtain⟨od,J,_⟩:=O.look;exact W.kia_one (W.kitx_own (cl.get _) cl.hd ha hn htk hm) I.kIn J e (λz=>nomatch z) h
end
structure V0 (k:Nat) (A:gw):Prop where
  hd:A.handled=none
  dp:A.depth+3*k+5<recursionLimit
  un:A.units+16*k+200<cLine
theorem V0.mono {j k:Nat}{A:gw}(r:V0 k A)(h:j<=k):V0 j A:=⟨r.hd,by have:=r.dp;lia,by have:=r.un;lia⟩
theorem V0.deeper {k:Nat}{A:gw}(r:V0 (k+1) A)(env:Env):V0 k (A.deeper env) :=
  ⟨r.hd,by have:=r.dp;show A.depth+1+3*k+5<_;lia,by have:=r.un;show A.units+3+16*k+200<_;lia⟩
theorem yh6 {A:gw}{C:Addr}{us:List Value}{a:List (Str×Value)}:(A.under (.builtin "type.__call__" ⟨.ref C::us,a⟩)).depth=A.depth+1:=by
  first|rfl|simp[Around.under,Code.weight,Code.isCreation,Code.isGuard,Code.isCaller,Code.frames,Code.isFrame,guardIds]
theorem yh7 {A:gw}{C:Addr}{us:List Value}{a:List (Str×Value)}:(A.under (.builtin "type.__call__" ⟨.ref C::us,a⟩)).units=A.units+1:=by
  first|rfl|simp[Around.under,Code.cUnits,Code.frames,Code.isFrame]
theorem V0.make {k:Nat}{A:gw}(r:V0 (k+1) A)(C:Addr)(us:List Value)(kw:List (Str×Value)):V0 k (A.under (.builtin "type.__call__" ⟨.ref C::us,kw⟩)) :=
  ⟨r.hd,by have:=r.dp;rw[yh6];lia,by have:=r.un;rw[yh7];lia⟩
theorem V0.depth {k:Nat}{A:gw}(r:V0 k A):A.depth<recursionLimit:=by have:=r.dp;lia
theorem V0.units {k:Nat}{A:gw}(r:V0 k A):A.units+64<cLine:=by have:=r.un;lia
def xj8:TA:=λ_ H Q=>Q [] H
def xv1 (ta:TE)(tr:TA):TA:=λσ H Q=>ta σ H λx H1=>tr σ H1 λxs H2=>Q (x::xs) H2
section
variable {X:Cx}{e:Expr}{es:List Expr}{te:TE}{t:TA}{pos:Pos}
theorem z4:PA X [] xj8:=λ_ _ _ _ H Q I h=>Calls.spliced_nil ⟨[],H,I,.nil,h⟩
theorem z0 (ha:PE X e te)(hr:PA X es t)(hs:gs (e::es) X.env=(false,eval e X.env)::gs es X.env:=by rfl):PA X (e::es) (xv1 te t):=by
  intro pos pins s σ H Q I h;rw[hs];show gr _ _ (spliced ((false,eval e X.env)::backTo pos (gs es X.env))) _ _ s;refine Calls.spliced_cons (thn (ha pins s σ H _ I h) λu s1 ⟨x,H1,I1,r1,q1⟩=>?_);exact thn (hr pos pins s1 σ H1 _ I1 q1) λus s2 ⟨xs,H2,I2,r2,q2⟩=>⟨x::xs,H2,I2,.cons r1 r2,q2⟩
def xy9 (t:TA):TE:=λσ H Q=>t σ H λxs H1=>xs.length<=gn/\∀p,H1 p=none->Q (.ref p) (upd H1 p (.tup xs))
def xy4 (t:TA):TE:=λσ H Q=>t σ H λxs H1=>xs.length<=gn/\∀p,H1 p=none->Q (.ref p) (upd H1 p (.lst xs))
theorem R5 {x1}(h:PA X es t):PE X (.Tuple es x1 pos) (xy9 t):=by
  intro pins s σ H Q I f;refine wpAny_Tuple_spliced (thn (h pos pins s σ H _ I f) λg a ⟨xs,H1,c,r,z,q⟩=>⟨by rw[←r.length];exact z,?_⟩);have d:H1 a.heap.objs.size=none:=c.hok.fresh (aq _);refine⟨.ref a.heap.objs.size,upd H1 a.heap.objs.size (.tup xs),c.laid (t':=a.toks) (λb u e=>au _ e) (aq _) ?_,rfl,q _ d⟩;exact⟨z,g,r,⟨_,aF _ rfl,rfl,_,rfl,rfl⟩⟩
theorem m9 (h:PA X es t):PE X (.List es pos) (xy4 t):=by
  intro pins s σ H Q I f;refine wpAny_List_spliced (thn (h pos pins s σ H _ I f) λg a ⟨xs,H1,c,r,z,q⟩=>⟨by rw[←r.length];exact z,?_⟩);have d:H1 a.heap.objs.size=none:=c.hok.fresh (aq _);refine⟨.ref a.heap.objs.size,upd H1 a.heap.objs.size (.lst xs),c.laid (t':=a.toks) (λb u e=>au _ e) (aq _) ?_,rfl,q _ d⟩;exact⟨z,g,0,r,aF _ rfl⟩
end
abbrev Sp:=List V->Hp->VK->XK->Prop
abbrev CXT:=List Env->Hp->gh->XK->Value->gh->Prop
structure yg1 (P:gq) (w:gv) (K:W.Frag) (mg:Str->Option Value) (base:Heap) (A:gw) (outer:List Env) (s:gh) (H:Hp):Prop where
  frames:A.frames=some outer
  mod:Mod K mg base
  bs:∀b o,base.get? b=some o->s.heap.get? b=some o/\H b=none
  bsz:base.objs.size<=s.heap.objs.size
  funs:s.heap.FunFrames base outer
  frf:∀b∈frs outer,H b=none
  hok:HOk P w H s.heap
  bare:AllBare s.gens
def CE (outer:List Env)(P:gq)(w:gv)(H:Hp)(s:gh)(Q:VK)(u:Value)(s':gh):Prop :=
  ∃v H',s'.os=s.os/\AllBare s'.gens/\Un (frs outer) [] H H' s.heap s'.heap/\HOk P w H' s'.heap/\o5 v u/\Q v H'
def CR (CX:CXT)(outer:List Env)(P:gq)(w:gv)(H:Hp)(s:gh)(Q:VK)(E:XK)(r:Result)(s':gh):Prop :=
  match r with
  | .ok (.ret u)=>CE outer P w H s Q u s'
  | .ok _=>False
  | .error e=>CX outer H s E e s'
structure o8 (P:gq) (w:gv) (K:W.Frag) (mg:Str->Option Value) (base:Heap) (CX:CXT) (k:Nat) (f:Addr) (fd:gD) (ps:List Str) (sp:Sp):Prop where
  len:∀vs H Q E,sp vs H Q E->vs.length=ps.length
  run:∀(A:gw) (outer:List Env) (s:gh) (H:Hp) (args:Args) (us:List Value) (vs:List V) (Q:VK) (E:XK),V0 k A->yg1 P w K mg base A outer s H->BindsTo s fd args (ps.zip us)->o0 vs us->sp vs H Q E ->
    codeAny (gu P w) A (.call (.ref f) args) (CR CX outer P w H s Q E) s
theorem yg1.make {P : gq}{w : gv}{K : W.Frag}{mg : Str -> Option Value}{base : Heap}{A : gw}{outer : List Env}{s : gh}{H : Hp}(e : yg1 P w K mg base A outer s H)(C : Addr)(us : List Value)(kw : List (Str×Value)) :
    yg1 P w K mg base (A.under (.builtin "type.__call__" ⟨.ref C::us,kw⟩)) outer s H:=⟨by first|exact e.frames|(simpa[Around.under,Code.envs,Code.isFrame,pushEnvs] using e.frames),e.mod,e.bs,e.bsz,e.funs,e.frf,e.hok,e.bare⟩
section
variable {X:Cx}{pins:List (Addr×Obj)}{σ:St}{H:Hp}{s s':gh}
theorem Inv.env0 (I:Inv X pins σ H s):yg1 X.prog X.w X.K X.mg X.base X.A X.stack s H :=
  ⟨I.ok.frames,I.ok.mod,I.bs,aM I.ok.bsz I.sz,I.stack,I.stkFree,I.hok,I.bare⟩
theorem Inv.after {Q:VK}{u:Value}(I:Inv X pins σ H s)(h:CE X.stack X.prog X.w H s Q u s'):EP X pins σ Q u s':=by
  obtain⟨v,H',i,a,un,c,r,q⟩:=h;obtain⟨f,g,d,t,e⟩:=s';obtain rfl:e=s.os:=i;exact⟨v,H',I.call (h':=f) (g':=g) (d':=d) (t':=t) (ch:=[]) un c a (λb z=>absurd z (by simp)),r,q⟩
end
def xl1 (sp:Sp)(dvs:List V)(E:XK)(t:TA):TE:=λσ H Q=>t σ H λvs H1=>sp (vs++dvs) H1 Q E
def yp3 (C:Addr)(m:Str)(sp:Sp)(dvs:List V)(E:XK)(ta:TE)(t:TA):TE:=λσ H Q=>ta σ H λx H1=>∃a dx fs,x=.ref a/\H1 a=some (.ins C dx fs)/\fs.lookup m=none /\
  t σ H1 λvs H2=>sp (x::(vs++dvs)) H2 Q E
def xl2 (C:Addr)(sp:Sp)(dvs:List V)(E:XK)(t:TA):TE:=λσ H Q=>t σ H λvs H1=>∀x dx,H1 x=none->H1 dx=none->dx≠x ->
  sp (.ref x::(vs++dvs)) (upd (upd H1 dx (.own x)) x (.ins C dx [])) (λv H2=>v=.non/\Q (.ref x) H2) E
def M3 (K:W.Frag)(fd:gD)(ps:List Str)(ds:List Value):Prop :=
  ∀(s:gh) (us:List Value),K.In s.heap->(us++ds).length=ps.length->BindsTo s fd ⟨us,[]⟩ (ps.zip (us++ds))
theorem M3.all {K:W.Frag}{fd:gD}{ps:List Str}(h:∀us:List Value,us.length=ps.length->bindArgs fd ⟨us,[]⟩=pure (ps.zip us)):M3 K fd ps []:=λs us _ hl=>by
  rw[bN]at hl ⊢
  exact .of_eq (h us hl)
def C7 (CX:CXT)(X:Cx)(E:XK):Prop:=∀(pins:List (Addr×Obj)) (σ:St) (H:Hp) (s:gh) (e:Value) (s':gh),Inv X pins σ H s->CX X.stack H s E e s'->X.xe e s'
section
variable {X:Cx}{CX:CXT}{k:Nat}{f C:Addr}{fd:gD}{ps:List Str}{sp:Sp}{dvs:List V}{ds:List Value}{E:XK}{x m:Str}{p pos apos:Pos}{e o:Expr}{es:List Expr}{ta:TE}{t:TA}
theorem yi9 {pins : List (Addr×Obj)}{σ : St}{H : Hp}{s : gh}{Q : VK}{us : List Value}{vs : List V}(F : o8 X.prog X.w X.K X.mg X.base CX k f fd ps sp)(d : V0 k X.A)(hb : M3 X.K fd ps ds)(c : o0 dvs ds)(g : C7 CX X E)
    (I:Inv X pins σ H s) (r:o0 vs us) (h:sp (vs++dvs) H Q E):gr (gu X.prog X.w) X.A (call (.ref f) us) (EP X pins σ Q) X.xe s:=by
  have b:o0 (vs++dvs) (us++ds):=r.append c;have hl:(us++ds).length=ps.length:=by rw[←b.length];exact F.len _ _ _ _ h
  refine wpAny_call (codeAny_mono (F.run X.A X.stack s H ⟨us,[]⟩ (us++ds) (vs++dvs) Q E d I.env0 (hb s us I.kIn hl) b h) λr s' a=>?_)
  cases r with
  | error e=>exact g pins σ H s e s' I a
  | ok fl =>
    cases fl with
    | ret u=>exact I.after a
    | next=>exact False.elim a
    | brk=>exact False.elim a
    | cont=>exact False.elim a
theorem xh7 (F : o8 X.prog X.w X.K X.mg X.base CX k f fd ps sp)(hr : V0 k X.A)(hg : Gl X x)(hm : X.mg x = some (.ref f))(hk : W.keepIn X.K (.ref f) = true)(hb : M3 X.K fd ps ds)(hd : o0 dvs ds)(hx : C7 CX X E)
    (ha:PA X (e::es) t) (hdb:(x==("__debug__":Str))=false:=by decide) (he:gs (e::es) X.env=(false,eval e X.env)::gs es X.env:=by rfl) (hpl:(backTo pos (gs es X.env)).any (·.1)=false:=by rfl) :
    PE X (.Call (.Name x p) (e::es) [] pos) (xl1 sp dvs E t):=by
  intro pins s σ H Q I h;refine wpAny_Call_Name_kw (zv0 I hg hm ?_ hdb);refine W.callWith_K (h₀:=X.base) I.ok.mod.kin hk (thn (ha pos pins s σ H _ I h) λus s1 ⟨vs,H1,I1,r,q⟩=>⟨I1.kIn,?_⟩) he hpl;exact yi9 F hr hb hd hx I1 r q
theorem xi1 {pl : Sem Bool}(he : PE X o ta)(c : Cls X.K C)(hm : xe4 X.K C m f)(F : o8 X.prog X.w X.K X.mg X.base CX k f fd ps sp)(hr : V0 k X.A)(hb : M3 X.K fd ps ds)(hd : o0 dvs ds)(hx : C7 CX X E)(ha : PA X (e::es) t)
    (hst:gs (e::es) X.env=(false,eval e X.env)::gs es X.env:=by rfl) (hpl:(backTo pos (gs es X.env)).any (·.1)=false:=by rfl)
    (ht : eval (.Call (.Attribute o m apos) (e::es) [] pos) X.env = (do
      let ov ←eval o X.env
      standAt apos.atName
      let (f,first) ←holding [ov] (getMethod ov m pl)
      callWith pos f first (backTo pos (gs (e::es) X.env)) (backToKw pos (gC [] X.env))):=by rfl) :
    PE X (.Call (.Attribute o m apos) (e::es) [] pos) (yp3 C m sp dvs E ta t):=by
  intro pins s σ H Q I h
  refine W.methodCall_KW (pl:=pl) (thn (he pins s σ H _ I h) λu s1 ⟨x,H1,I1,rx,a,dx,fs,ex,ea,l,q⟩=>?_) ht
  subst ex
  obtain rfl:u=Value.ref a:=rx
  refine zi9 I1 ea c hm l ?_
  refine W.callWith_K (first:=[.ref a]) (h₀:=X.base) I.ok.mod.kin hm.kp (thn (ha pos pins s1 σ H1 _ I1 q) λus s2 ⟨vs,H2,I2,r,q2⟩=>⟨I2.kIn,?_⟩) hst hpl
  exact yi9 (us:=.ref a::us) (vs:=.ref a::vs) F hr hb hd hx I2 (.cons rfl r) q2
theorem xa7 {pl : Sem Bool}(he : PE X o ta)(c : Cls X.K C)(hm : xe4 X.K C m f)(F : o8 X.prog X.w X.K X.mg X.base CX k f fd ps sp)(hr : V0 k X.A)(hb : M3 X.K fd ps ds)(hd : o0 dvs ds)(hx : C7 CX X E)
    (ht : eval (.Call (.Attribute o m apos) [] [] pos) X.env = (do
      let ov ←eval o X.env
      standAt apos.atName
      let (f,first) ←holding [ov] (getMethod ov m pl)
      callWith pos f first (backTo pos (gs [] X.env)) (backToKw pos (gC [] X.env))):=by rfl) :
    PE X (.Call (.Attribute o m apos) [] [] pos) (yp3 C m sp dvs E ta xj8):=by
  intro pins s σ H Q I h
  refine W.methodCall_KW (pl:=pl) (thn (he pins s σ H _ I h) λu s1 ⟨x,H1,I1,rx,a,dx,fs,ex,ea,l,q⟩=>?_) ht
  subst ex
  obtain rfl:u=Value.ref a:=rx
  refine zi9 I1 ea c hm l ?_
  exact W.callWith_K0 (first:=[.ref a]) I1.kIn hm.kp (yi9 (us:=[.ref a]) (vs:=[.ref a]) F hr hb hd hx I1 (.cons rfl .nil) q)
structure Mk (K:W.Frag) (C f:Addr):Prop where
  makes:W.makesIn K C=true
  init:W.findIn K (.ref C) "__init__"=some (some (.ref f))
  fn:W.isFn K (.ref f)=true
  kp:W.keepIn K (.ref C)=true
theorem xb6 {pins : List (Addr×Obj)}{σ : St}{H : Hp}{s : gh}{Q : VK}{us : List Value}{vs : List V}(M : Mk X.K C f)(F : o8 X.prog X.w X.K X.mg X.base CX k f fd ps sp)(l : V0 (k+1) X.A)(hb : M3 X.K fd ps ds)(j : o0 dvs ds)
    (m:C7 CX X E) (I:Inv X pins σ H s) (r:o0 vs us)
    (h:∀x dx,H x=none->H dx=none->dx≠x->sp (.ref x::(vs++dvs)) (upd (upd H dx (.own x)) x (.ins C dx [])) (λv H2=>v=.non/\Q (.ref x) H2) E) :
    gr (gu X.prog X.w) X.A (call (.ref C) us) (EP X pins σ Q) X.xe s:=by
  have c:=h (s.heap.objs.size+1) s.heap.objs.size (I.hok.fresh (dJ _)) (I.hok.fresh (aq _)) (aP (cQ _));have b:=Inv.made (C:=C) I;have d:o0 (V.ref (s.heap.objs.size+1)::(vs++dvs)) (Value.ref (s.heap.objs.size+1)::(us++ds)):=.cons rfl (r.append j);have hl:(Value.ref (s.heap.objs.size+1)::us++ds).length=ps.length:=by
    have e:=d.length;rw[F.len _ _ _ _ c]at e;exact e.symm
  refine wpAny_call (yz5 (f := f) I.kIn M.makes M.init (beq_iff_eq.mp M.fn) (codeAny_mono (F.run _ X.stack _ _ ⟨Value.ref (s.heap.objs.size+1)::us, []⟩ (Value.ref (s.heap.objs.size+1)::(us ++ ds)) _ _ E (l.make C us [])
    (b.env0.make C us []) (hb _ (Value.ref (s.heap.objs.size+1)::us) b.kIn hl) d c) λr s' a=>?_))
  cases r with
  | error e=>exact m pins σ _ _ e s' b a
  | ok fl =>
    cases fl with
    | ret u =>
      obtain⟨v,H',g,o,i,n⟩:=b.after a;subst i;exact⟨o,⟨V.ref (s.heap.objs.size+1),H',g,rfl,n⟩⟩
    | next=>exact False.elim a
    | brk=>exact False.elim a
    | cont=>exact False.elim a
theorem xi0 (M : Mk X.K C f)(F : o8 X.prog X.w X.K X.mg X.base CX k f fd ps sp)(hr : V0 (k+1) X.A)(hg : Gl X x)(hm : X.mg x = some (.ref C))(hb : M3 X.K fd ps ds)(hd : o0 dvs ds)(hx : C7 CX X E)
    (ha:PA X (e::es) t) (hdb:(x==("__debug__":Str))=false:=by decide) (he:gs (e::es) X.env=(false,eval e X.env)::gs es X.env:=by rfl) (hpl:(backTo pos (gs es X.env)).any (·.1)=false:=by rfl) :
    PE X (.Call (.Name x p) (e::es) [] pos) (xl2 C sp dvs E t):=by
  intro pins s σ H Q I h;refine wpAny_Call_Name_kw (zv0 I hg hm ?_ hdb);refine W.callWith_K (h₀:=X.base) I.ok.mod.kin M.kp (thn (ha pos pins s σ H _ I h) λus s1 ⟨vs,H1,I1,r,q⟩=>⟨I1.kIn,?_⟩) he hpl;exact xb6 M F hr hb hd hx I1 r q
end
structure u6 (N P:List Str) (sc:Scope):Prop where
  kind:sc.kind=.function
  co:sc.isCoroutine=false
  gen:sc.isGenerator=false
  nd:N.Nodup
  pre:N.take P.length=P
  par:∀x∈P,sc.names.lookup x=some .local∨sc.names.lookup x=some .cell
  nofree:∀y∈sc.names,y.2≠.free
theorem zp5 {a : Str -> Option NameKind}{x : Str} : ∀{binds : List (Str×Value)} {m : Str -> Option Value}, (∀v, (x, v) ∉ binds) -> bindL a binds m x = m x
  | [],_,_=>rfl
  | (n,v)::r,m,h=>by
    unfold bindL
    rw[zp5 λw hw=>h w (ah _ hw)]
    split
    . have : x ≠ n := by rintro rfl; exact h v ao
      simp[this]
    . rfl
theorem zp3 {a : Str -> Option NameKind}{x : Str} : ∀{binds : List (Str×Value)} {m : Str -> Option Value}, (∀v, (x, v) ∉ binds) -> bindC a binds m x = m x
  | [],_,_=>rfl
  | (n,v)::r,m,h=>by
    unfold bindC
    rw[zp3 λw hw=>h w (ah _ hw)]
    split
    . rfl
    . have : x ≠ n := by rintro rfl; exact h v ao
      simp[this]
theorem zp4 {kindOf:Str->Option NameKind}{x:Str}{v:Value}:∀{P:List Str} {vs:List Value} {i:Nat} {m:Str->Option Value},P.Nodup->P[i]?=some x->vs[i]?=some v->kindOf x=some .local ->
    bindL kindOf (P.zip vs) m x=some v
  | [],_,_,_,_,h,_,_=>by simp at h
  | _::_,[],_,_,_,_,h,_=>by simp at h
  | p::P,w::vs,0,m,nd,h1,h2,hk=>by
    simp at h1 h2;subst h1;subst h2
    show bindL kindOf ((p,w)::P.zip vs) m p=_
    unfold bindL
    rw[zp5 λv hv=>(aQ.mp nd).1 (fc hv).1,if_pos hk]
    simp
  | p::P,w::vs,i+1,m,nd,h1,h2,hk=>by
    show bindL kindOf ((p,w)::P.zip vs) m x=_
    unfold bindL
    exact zp4 (i:=i) (aQ.mp nd).2 (by simpa using h1) (by simpa using h2) hk
theorem zp2 {kindOf:Str->Option NameKind}{x:Str}{v:Value}:∀{P:List Str} {vs:List Value} {i:Nat} {m:Str->Option Value},P.Nodup->P[i]?=some x->vs[i]?=some v->kindOf x≠some .local ->
    bindC kindOf (P.zip vs) m x=some v
  | [],_,_,_,_,h,_,_=>by simp at h
  | _::_,[],_,_,_,_,h,_=>by simp at h
  | p::P,w::vs,0,m,nd,h1,h2,hk=>by
    simp at h1 h2;subst h1;subst h2
    show bindC kindOf ((p,w)::P.zip vs) m p=_
    unfold bindC
    rw[zp3 λv hv=>(aQ.mp nd).1 (fc hv).1,if_neg hk]
    simp
  | p::P,w::vs,i+1,m,nd,h1,h2,hk=>by
    show bindC kindOf ((p,w)::P.zip vs) m x=_
    unfold bindC
    exact zp2 (i:=i) (aQ.mp nd).2 (by simpa using h1) (by simpa using h2) hk
def start (N:List Str)(vs:List V):St:=vs.map some++List.replicate (N.length-vs.length) none
def yr0 (CX:CXT)(P:gq)(w:gv)(K:W.Frag)(mg:Str->Option Value)(base:Heap)(N:List Str)(qual:Str)(scope:Scope)(f:Addr)(cd:Value)(A:gw)(outer:List Env)(s:gh)(H:Hp)(E:XK):Cx where
  prog:=P
  w:=w
  K:=K
  mg:=mg
  base:=base
  A:=A.deeper (envOfC qual scope s.heap.objs.size f cd)
  N:=N
  s₀:=s
  H₀:=H
  env:=envOfC qual scope s.heap.objs.size f cd
  outer:=outer
  stack:=envOfC qual scope s.heap.objs.size f cd::outer
  ex:=[]
  calm:=true
  fn:=λ_=>true
  pn:=[]
  xe:=λe s'=>gr (gu P w) (A.deeper (envOfC qual scope s.heap.objs.size f cd)) (leaving (envOfC qual scope s.heap.objs.size f cd) e) (λ_ s''=>CX outer H s E e s'') (λe' s''=>CX outer H s E e' s'') s'
theorem zz1 {a:Scope}{n:Nat}{x:Str}(h:a.names.lookup x=some .cell):∃c,(cellsFrom n a.names []).lookup x=some c:=by
  have q:=W.cellsFrom_some a.names n [] (.inl h);exact dR.mp q
theorem yr8 {CX : CXT}{P : gq}{w : gv}{K : W.Frag}{mg : Str -> Option Value}{base : Heap}{N ps : List Str}{g : Str}{scope : Scope}{f : Addr}{cd : Value}{A : gw}{d : List Env}{s D : gh}{H : Hp}{E : XK}{us : List Value}{vs : List V}
    (S:u6 N ps scope) (G:A.handled=none) (j:yg1 P w K mg base A d s H) (hl:vs.length=ps.length) (r:o0 vs us)
    (x:InCallC s s.heap.objs.size (bindL (envOfC g scope s.heap.objs.size f cd).kindOf (ps.zip us) λ_=>none) (cellsFrom (s.heap.objs.size+1) scope.names []) (bindC (envOfC g scope s.heap.objs.size f cd).kindOf (ps.zip us) λ_=>none) D) :
    Inv (yr0 CX P w K mg base N g scope f cd A d s H E) [] (start N vs) H D:=by
  have I:ps.length<=N.length:=by have:=congrArg List.length S.pre;rw[aX]at this;lia
  obtain⟨h1,M,rfl,B⟩:=x.done;have m:∀b:Addr,b∉(yr0 CX P w K mg base N g scope f cd A d s H E).ex:=λb z=>absurd (show b∈([]:List Addr) from z) (by simp);refine⟨⟨j.mod,S.kind,rfl,rfl,aq _,λy z c h1 h2=>?_,λy l=>?_,λy c _ h=>?_,λ_=>G,Around.frames_deeper j.frames,.inr ⟨rfl,rfl⟩,λb z=>absurd z (m b),j.bs,j.bsz,λb _ _=>m b,λb z=>absurd z (m b),j.funs,j.frf⟩,
    rfl,j.bare,Un.kept B,⟨_,x.toInCall.ns,λi y v h1 h2 L=>?_⟩,λy c h=>⟨_,x.cell y c h⟩,j.hok.fresh (aq _),λy c h=>?_,λp o=>absurd (show p∈([]:List (Addr×Obj)) from o) (by simp),j.hok.kept B,?_⟩
  . exact name_of_addr x.apart (PySem.mem_of_lookup h1) (PySem.mem_of_lookup h2)
  . have l : scope.names.lookup y = some .cell∨scope.names.lookup y = some .free := l;rcases l with l|l
    . exact zz1 l
    . exact absurd rfl (S.nofree _ (PySem.mem_of_lookup l))
  . exact cu (x.above y c (PySem.mem_of_lookup h))
  . have hi:i<vs.length:=by
      unfold start at h2;by_cases hi:i<vs.length
      . exact hi
      . rw[bo (by simpa using hi)]at h2;rw[eh]at h2;split at h2 <;> cases h2
    have F:vs[i]?=some v:=by
      unfold start at h2;rw[bd (by simpa using hi),af]at h2
      cases e:vs[i]? with
      | none=>rw[e]at h2;cases h2
      | some a=>rw[e]at h2;cases h2;rfl
    obtain⟨u,C,J⟩:=r.get F;have o:ps[i]?=some y:=by
      rw[←S.pre,cr (by lia)];exact h1
    have t:ps.Nodup:=by rw[←S.pre];exact S.nd.sublist (dU _ _)
    refine⟨u,J,?_⟩;rcases S.par y (ax o) with k|k
    . exact .inl ⟨k,zp4 t o C k⟩
    . obtain⟨c, e⟩ := zz1 (n := s.heap.objs.size+1) k;refine .inr ⟨.inl k,c,e,?_⟩;have q:=x.cell y c e;rw[zp2 t o C (by show scope.names.lookup y≠_;rw[k];decide)]at q;exact q
  . exact j.hok.fresh (cu (x.above y c (PySem.mem_of_lookup h)))
  . unfold start;show _=N.length;rw[ag,aa,bT];lia
theorem xt1 {CX : CXT}{P : gq}{w : gv}{K : W.Frag}{mg : Str -> Option Value}{base : Heap}{k : Nat}{f : Addr}{name c : Str}{g : Arguments}{h : List Stmt}{scope : Scope}{U kV m pm d ct oc : Value}{an od : Option Addr}
    {M:Array (Option Value)} {N ps:List Str} {sp:Sp} (lk:K.lookup f=some ⟨oc,od,.func (W.fnOf name c g h scope U kV m pm an d ct),M⟩) (F:W.codeIn K d c=true) (S:u6 N ps scope)
    (C:∀i H Q E,sp i H Q E->i.length=ps.length)
    (j:∀(A:gw) (a:List Env) (s:gh) (H:Hp) (i:List V) (Q:VK) (E:XK),V0 k (A.deeper (envOfC c scope s.heap.objs.size f d))->sp i H Q E ->
      ∃t,PSs (yr0 CX P w K mg base N c scope f d A a s H E) h t/\t { nx:=λ_ H'=>Q .non H',rt:=Q } (start N i) H) :
    o8 P w K mg base CX (k+1) f (W.fnOf name c g h scope U kV m pm an d ct) ps sp:=by
  refine⟨C,λA a s H T us i Q E G p hb r B=>?_⟩
  have hl:=C _ _ _ _ B
  have R:K.In s.heap:=p.mod.kin.keeps λb o e=>(p.bs b o e).1
  have L:s.heap.NoLimit:=p.mod.nolimit.keeps λb o e=>(p.bs b o e).1
  have l:∀y∈ps.zip us,scope.names.lookup y.1=some .local∨(scope.names.lookup y.1=some .cell/\((cellsFrom (s.heap.objs.size+1) scope.names []).lookup y.1).isSome=true):=λ⟨n,v⟩ hy=>by
    rcases S.par n (fc hy).1 with q|q
    . exact .inl q
    . exact .inr ⟨q,W.cellsFrom_some _ _ _ (.inl q)⟩
  refine codeAny_call_function G.depth (R _ _ lk) rfl S.co S.gen rfl (W.codeRec_of R F) (hb _ _ _ _ ?_)
  refine wpAny_newFunctionEnv_cells S.kind l λY he X x=>?_
  subst he
  refine⟨L.keeps x.toInCall.keep,codeAny_func ?_⟩
  obtain⟨t,ht,hq⟩:=j A a s H i Q E (G.deeper _) B
  have I:Inv (yr0 CX P w K mg base N c scope f d A a s H E) [] (start N i) H X:=yr8 S G.hd p hl r x
  refine gz (ht [] X (start N i) H _ I hq) (λZ s' hs=>?_) λe s' hs=>hs
  have z:∀{D:St} {H':Hp} {v:V} {u:Value},Inv (yr0 CX P w K mg base N c scope f d A a s H E) [] D H' s'->o5 v u->Q v H'->CE a P w H s Q u s' :=
    λ{D H' v u} J O q=>⟨v,H',J.os,J.bare,J.base,J.hok,O,q⟩
  cases Z with
  | ret u =>
    obtain⟨v,D,H',J,O,q⟩:=hs
    exact z J O q
  | next =>
    obtain⟨D,H',J,q⟩:=hs
    exact z (v:=V.non) (u:=Value.none) J rfl q
  | brk =>
    obtain⟨_,_,_,q⟩:=hs
    exact False.elim q
  | cont =>
    obtain⟨_,_,_,q⟩:=hs
    exact False.elim q
section
variable {X:Cx}{x:Str}{p pos:Pos}{e:Expr}{es:List Expr}{t:TA}{id T:String}{r:List V->Hp->VK->Prop}
def tCB (r:List V->Hp->VK->Prop)(t:TA):TE:=λσ H Q=>t σ H λvs H1=>r vs H1 Q
theorem w6 (hc : S6 X (.builtin id) r)(hg : Gl X x)(hm : X.mg x = none)(hv : gB x = some (.builtin id))(ha : PA X (e::es) t)(hn : x ≠ "__name__" := by decide)(hdb : (x==("__debug__" : Str)) = false := by decide)
    (he:gs (e::es) X.env=(false,eval e X.env)::gs es X.env:=by rfl) (hpl:(backTo pos (gs es X.env)).any (·.1)=false:=by rfl):PE X (.Call (.Name x p) (e::es) [] pos) (tCB r t):=by
  intro pins s σ H Q I h;refine wpAny_Call_Name_kw (B2 I hg hm hv ?_ hn hdb);exact PyProof.Rows.callWith_builtin1 (thn (ha pos pins s σ H _ I h) λus s1 ⟨vs,H1,I1,r1,q1⟩=>hc pins s1 σ H1 vs us Q I1 r1 q1) he hpl
theorem r8 (hc : S6 X (.type T) r)(hg : Gl X x)(hm : X.mg x = none)(hv : gB x = some (.type T))(ha : PA X (e::es) t)(hn : x ≠ "__name__" := by decide)(hdb : (x==("__debug__" : Str)) = false := by decide)
    (he:gs (e::es) X.env=(false,eval e X.env)::gs es X.env:=by rfl) (hpl:(backTo pos (gs es X.env)).any (·.1)=false:=by rfl):PE X (.Call (.Name x p) (e::es) [] pos) (tCB r t):=by
  intro pins s σ H Q I h;refine wpAny_Call_Name_kw (B2 I hg hm hv ?_ hn hdb);exact PyProof.Rows.callWith_type1 (thn (ha pos pins s σ H _ I h) λus s1 ⟨vs,H1,I1,r1,q1⟩=>hc pins s1 σ H1 vs us Q I1 r1 q1) he hpl
end
end L2
namespace HT
open PySem PyProof.Rows
section
variable {prog:gq}{w:gv}{A:gw}{E:Value->gh->Prop}{s:gh}
theorem cat_tup {t b : Addr}{vs a : List Value}{Q : Value -> gh -> Prop}(u : IsTup s.heap t vs.toArray)(hb : IsTup s.heap b a.toArray)(q : vs ≠ [])
    (h1:a=[]->Q (.ref t) s) (h2:a≠[]->Q (.ref s.heap.objs.size) { s with heap:=s.heap.push { cls:=.type "tuple",data:=.seq (vs++a).toArray } })
    (hsz:vs.length+a.length<=gn):gr (gu prog w) A (binaryOp .Add (.ref t) (.ref b)) Q E s:=by
  obtain⟨⟨cls,m,data,sl⟩,i,o,n,p⟩:=id u;obtain⟨⟨l,d,k,h⟩,c,f,r,g⟩:=id hb;simp only at o p f g;subst o p f g;have e:vs.toArray++a.toArray=(vs++a).toArray:=by simp
  by_cases j:a=[]
  . exact concat_meets ⟨_, i, rfl⟩ ⟨_, c, rfl⟩ noFill_tuple_add seq_tuple_add PySem.F.slot_tuple_add PySem.F.entry_tuple_add (PySem.F.args_tuple_add_2 _ _)
      (tuple_addW1 t b vs.toArray a.toArray n r m d sl h (by simpa using q) (by simp[j])) ⟨i,c,h1 j⟩
  . refine concat_meets ⟨_, i, rfl⟩ ⟨_, c, rfl⟩ noFill_tuple_add seq_tuple_add PySem.F.slot_tuple_add PySem.F.entry_tuple_add (PySem.F.args_tuple_add_2 _ _)
      (tuple_addW2 t b vs.toArray a.toArray n r m d sl h (by simpa using q) (by simpa using j) (by rw[aB,aB];exact hsz)) ⟨i,c,?_⟩
    rw[e];exact h2 j
def sIx (n d : Nat) : Option Int -> Nat
  | none=>d
  | some v=>if v<0 then(v+(n:Int)).toNat else min v.toNat n
theorem sIx_none (n d:Nat):sIx n d none=d:=rfl
theorem sIx_nat (n d k:Nat):sIx n d (some (k:Int))=min k n:=by
  show(if (k:Int)<0 then((k:Int)+(n:Int)).toNat else min (k:Int).toNat n)=min k n;rw[if_neg (by lia),aK]
theorem xq8 (n d:Nat)(b:d<=n)(o:Option Int):sIx n d o<=n:=by
  cases o with
  | none=>exact b
  | some v =>
    show(if v<0 then(v+(n:Int)).toNat else min v.toNat n)<=n;by_cases a:v<0
    . rw[if_pos a];lia
    . rw[if_neg a];exact Nat.min_le_right _ _
theorem yk9 (v:Int)(n d:Nat):(if v<0 then max (v+(n:Int)) 0 else min v (n:Int))=((sIx n d (some v):Nat):Int):=by
  show(if v<0 then max (v+(n:Int)) 0 else min v (n:Int))=(((if v<0 then(v+(n:Int)).toNat else min v.toNat n):Nat):Int);by_cases a:v<0
  . simp only[if_pos a];lia
  . simp only[if_neg a];lia
theorem yg4 (lo hi:Option Int)(n:Nat):Builtin.Slice.sliceAdjust lo hi 1 (n:Int)=(((sIx n 0 lo:Nat):Int),((sIx n n hi:Nat):Int)):=by
  have h1:¬((1:Int)<0):=by lia
  unfold Builtin.Slice.sliceAdjust;simp only[h1,if_false];refine Prod.ext ?_ ?_
  . cases lo with
    | none=>rfl
    | some v=>exact yk9 v n 0
  . cases hi with
    | none=>rfl
    | some v=>exact yk9 v n n
theorem yi3 (i j:Nat):Builtin.Slice.slicePlaces (i:Int) (j:Int) 1=j-i:=by
  unfold Builtin.Slice.slicePlaces;have h1:(1:Int) > 0:=by lia
  simp only[h1,if_true,Int.ediv_one]
  split <;> lia
theorem zm4 {v:Value}{o:Option Int}{Q:Option Int->gh->Prop}(p:IsPart v o)(h:Q o s):gr (gu prog w) A (Builtin.Slice.slicePartIndex v) Q E s:=by
  cases p with
  | none=>exact slicePart_none h
  | int i t=>exact slicePart_int h
theorem sliceApplied_gen {sl : Addr}{c d : Value}{lo hi : Option Int}{n : Nat}{Q : Int×Int×Nat -> gh -> Prop}(hs : s.heap.IsSliceOf sl c d .none)(pl : IsPart c lo)(f : IsPart d hi)
    (h:Q (((sIx n 0 lo:Nat):Int),1,sIx n n hi-sIx n 0 lo) s):gr (gu prog w) A (Builtin.Slice.sliceApplied (.ref sl) (pure (n:Int))) Q E s:=by
  obtain⟨g,b,e,a⟩:=id hs;unfold Builtin.Slice.sliceApplied Builtin.Slice.sliceFields;refine gg (gg (wpAny_field b a (x:=c) rfl (gg (wpAny_field b a (x:=d) rfl (gg (wpAny_field b a (x:=.none) rfl (gl ?_)))))));refine gg (slicePart_none ?_);show gr _ _ (if ((1:Int)==0)=true then _ else _) _ _ s;rw[if_neg (by decide)];refine gg (zm4 pl (gg (zm4 f (gg (gl ?_)))));show gr _ _ (match Builtin.Slice.sliceAdjust lo hi 1 (n:Int) with|(lo,hi)=>pure (lo,(1:Int),Builtin.Slice.slicePlaces lo hi 1)) _ _ s;rw[yg4 lo hi n];show gr _ _ (pure (((sIx n 0 lo:Nat):Int),(1:Int),Builtin.Slice.slicePlaces ((sIx n 0 lo:Nat):Int) ((sIx n n hi:Nat):Int) 1)) _ _ s;rw[yi3];exact gl h
theorem xa9 (xs:Array Value)(i k:Nat):((List.range k).filterMap λ(m:Nat)=>xs[((i:Int)+(m:Int)*1).toNat]?).toArray=((xs.toList.drop i).take k).toArray:=by
  have e:(λ(m:Nat)=>xs[((i:Int)+(m:Int)*1).toNat]?)=λm=>xs[i+m]?:=by
    funext m;have:((i:Int)+(m:Int)*1).toNat=i+m:=by lia
    rw[this]
  rw[e];have:=pick_run xs i k;rw[List.filterMap_map]at this;have a:((λx=>xs[x]?) ∘ λx=>i+x)=λm=>xs[i+m]?:=rfl;rw[a]at this;rw[this]
theorem getItem_tuple_cut {t sl : Addr}{items : Array Value}{g i : Value}{lo hi : Option Int}{Q : Value -> gh -> Prop}(b : IsTup s.heap t items)(hs : s.heap.IsSliceOf sl g i .none)(pl : IsPart g lo)(l : IsPart i hi)
    (hw:¬(sIx items.size 0 lo=0/\sIx items.size items.size hi=items.size))
    (h:Q (.ref s.heap.objs.size) { s with heap:=s.heap.push { cls:=.type "tuple",data:=.seq ((items.toList.drop (sIx items.size 0 lo)).take (sIx items.size items.size hi-sIx items.size 0 lo)).toArray } })
    (hsz:items.size<=gn):gr (gu prog w) A (getItem (.ref t) (.ref sl)) Q E s:=by
  have a:sizeOk (.seq ((items.toList.drop (sIx items.size 0 lo)).take (sIx items.size items.size hi-sIx items.size 0 lo)).toArray):=by
    show((items.toList.drop (sIx items.size 0 lo)).take (sIx items.size items.size hi-sIx items.size 0 lo)).toArray.size<=gn;rw[aB,aX,br,aG];lia
  have n:sIx items.size items.size hi<=items.size:=xq8 _ _ (aq _) hi;obtain⟨k,f,d,j⟩:=id hs;have c:s.TypeIs (.ref sl) "slice":=⟨k,f,d⟩;unfold getItem
  try with_reducible refine gy ?_
  first|refine gg (gl ?_)|skip
  refine gg (wpAny_sequenceKey b.typeIs (by decide) ?_);refine gg (wpAny_callSpecial?_slot (name := Str.ofString "__getitem__") b.typeIs PyProof.Rows.slot_tuple_getitem
    (wpAny_call_entry PyProof.Rows.slot_tuple_getitem b.typeIs entry_tuple_getitem ?_ (args_tuple_getitem _ _)))
  show gr _ _ (Builtin.Tuple.tupleItemsOf (.ref t) >>= _) _ _ s;refine gg (tupleItemsOf_ b ?_);refine gg (wpAny_typeOf c ?_);rw[if_pos (by decide)];refine gg (sliceApplied_gen hs pl l ?_);have e:¬((((sIx items.size 0 lo:Nat):Int)==0&&(1:Int)==1&&(sIx items.size items.size hi-sIx items.size 0 lo)==items.size)=true):=by
    intro q;rw[bp,bp]at q;have o:((sIx items.size 0 lo:Nat):Int)=0:=eq_of_beq q.1.1;have p:sIx items.size items.size hi-sIx items.size 0 lo=items.size:=eq_of_beq q.2;exact hw ⟨by lia,by lia⟩
  show gr _ _ (if (((sIx items.size 0 lo:Nat):Int)==0&&(1:Int)==1&&(sIx items.size items.size hi-sIx items.size 0 lo)==items.size)=true then _ else _) _ _ s;rw[if_neg e,xa9]
  first
    | exact gg (m:=Builtin.Tuple.tupleExact _) (wpAny_newObj_type (gl ⟨_,rfl,gl h⟩) a)
    | exact gg (m:=Builtin.Tuple.tupleExact _) (wpAny_newObj_type (gg (gl (gl ⟨_,rfl,gl h⟩))) a)
    | exact gg (gg (m:=Builtin.Tuple.tupleExact _) (wpAny_newObj_type (gl (gl ⟨_,rfl,gl h⟩)) a))
    | exact gg (gg (m:=Builtin.Tuple.tupleExact _) (wpAny_newObj_type (gl ⟨_,rfl,gl h⟩) a))
end
end HT
namespace L2
open PySem PySem.Spec PyProof.Rows
abbrev TO:=St->Hp->(Option Int->Hp->Prop)->Prop
def PO (X:Cx)(e:Option Expr)(t:TO):Prop :=
  ∀(pins:List (Addr×Obj)) (s:gh) (σ:St) (H:Hp) (Q:Option Int->Hp->Prop),Inv X pins σ H s->t σ H Q ->
    gr (gu X.prog X.w) X.A (evalPart e X.env) (λu s'=>∃o H',Inv X pins σ H' s'/\IsPart u o/\Q o H') X.xe s
def xj9:TO:=λ_ H Q=>Q none H
def xv7 (t:TE):TO:=λσ H Q=>t σ H λx H1=>∃i,x=.int i/\Q (some i) H1
theorem L9 {a:List Int}:∀{b:List Value},o0 (a.map V.int) b->IntsAre b a:=by
  induction a with
  | nil=>intro b r;rw[eB]at r;cases r;exact .nil
  | cons n a ih =>
    intro b r;rw[aJ]at r
    cases r with
    | cons r1 r2 =>
      obtain⟨t,e⟩:=r1;subst e;exact .cons n t (ih r2)
section
variable {X:Cx}{e:Expr}{te:TE}{lo hi:Option Expr}{tl th:TO}{pos p2:Pos}
theorem P2:PO X none xj9:=by
  intro pins s σ H Q I h;rw[evalPart_none];exact gl ⟨none,H,I,.none,h⟩
theorem V4 (h:PE X e te):PO X (some e) (xv7 te):=by
  intro pins s σ H Q I b;rw[evalPart_some];refine thn (h pins s σ H _ I b) λu f ⟨x,H1,a,d,c⟩=>?_;obtain⟨i,rfl,q⟩:=c;obtain⟨t,rfl⟩:=d;exact⟨some i,H1,a,.int i t,q⟩
def SlR (X:Cx)(r:V->Option Int->Option Int->Hp->VK->Prop):Prop :=
  ∀(pins:List (Addr×Obj)) (s:gh) (σ:St) (H:Hp) (x:V) (v vl vu:Value) (lo hi:Option Int) (sl:Addr) (Q:VK),Inv X pins σ H s->o5 x v->s.heap.IsSliceOf sl vl vu .none->IsPart vl lo->IsPart vu hi->r x lo hi H Q ->
    ∃T id,typeLookup (.type T) "__getitem__"=pure (some (.builtin id))/\s.TypeIs v T/\gr (gu X.prog X.w) X.A (getItem v (.ref sl)) (EP X pins σ Q) X.xe s
theorem SlR.or {r b:V->Option Int->Option Int->Hp->VK->Prop}(h:SlR X r)(h':SlR X b):SlR X (λx lo hi H Q=>r x lo hi H Q∨b x lo hi H Q):=by
  intro pins s σ H x v d e lo hi sl Q I c hs pl a q;rcases q with q|q
  . exact h pins s σ H x v d e lo hi sl Q I c hs pl a q
  . exact h' pins s σ H x v d e lo hi sl Q I c hs pl a q
def tSl (r:V->Option Int->Option Int->Hp->VK->Prop)(te:TE)(tl th:TO):TE:=λσ H Q=>te σ H λx H1=>tl σ H1 λl H2=>th σ H2 λu H3=>r x l u H3 Q
theorem X8 {r:V->Option Int->Option Int->Hp->VK->Prop}(m:SlR X r)(j:PE X e te)(hl:PO X lo tl)(o:PO X hi th):PE X (.Subscript e (.Slice lo hi none p2) pos) (tSl r te tl th):=by
  intro pins s σ H Q I h;refine Subscript_ (thn (j pins s σ H _ I h) λv C ⟨x,H1,d,B,t⟩=>?_);refine wpAny_Slice (thn (hl pins C σ H1 _ d t) λvl D ⟨l,H2,f,pl,y⟩=>thn (o pins D σ H2 _ f y) λvu a ⟨u,c,g,p,z⟩=>?_);rw[evalPart_none];refine gl ?_;have i:Inv X pins σ c { a with heap:=a.heap.push { cls:=.type "slice",data:=.fields #[vl,vu,.none] } }:=g.kept (t':=a.toks) λb E q=>au _ q;obtain⟨T,id,hT,n,k⟩:=m pins { a with heap:=a.heap.push { cls:=.type "slice",data:=.fields #[vl,vu,.none] } } σ c x v vl vu l u a.heap.objs.size Q i B (Heap.IsSliceOf.new ..) pl p z;show gr (gu X.prog X.w) X.A (subscriptTail e (.Slice lo hi none p2) v (.ref a.heap.objs.size)) (EP X pins σ Q) X.xe { a with heap:=a.heap.push { cls:=.type "slice",data:=.fields #[vl,vu,.none] } };exact tail_any (ops:=[.ref a.heap.objs.size,v]) n hT k (by with_unfolding_all rfl)
def P6 (xs:List V)(lo hi:Option Int):List V:=(xs.drop (HT.sIx xs.length 0 lo)).take (HT.sIx xs.length xs.length hi-HT.sIx xs.length 0 lo)
theorem ze5 (xs:List V)(lo hi:Option Int):(P6 xs lo hi).length<=xs.length:=by
  unfold P6;rw[aX,br];lia
def xx5 (K:W.Frag):V->Option Int->Option Int->Hp->VK->Prop:=λx lo hi H Q=>∃a xs,x=.ref a/\SqT K H a xs /\
  ¬(HT.sIx xs.length 0 lo=0/\HT.sIx xs.length xs.length hi=xs.length)/\∀p,H p=none->Q (.ref p) (upd H p (.tup (P6 xs lo hi)))
theorem yj2:SlR X (xx5 X.K):=by
  intro pins s σ H x v m n lo hi sl Q I k hs pl j h;obtain⟨a,xs,rfl,i,g,q⟩:=h
  cases k
  obtain⟨d,r,e,f⟩:=I.tuple i;have c:d.toArray.size=xs.length:=by rw[aB];exact r.length.symm
  refine⟨"tuple",_,PyProof.Rows.slot_tuple_getitem.lookup,e.typeIs,?_⟩;refine HT.getItem_tuple_cut e hs pl j (by rw[c];exact g) ?_ (by rw[c];exact f);rw[c];refine⟨.ref s.heap.objs.size,_,I.laid (t':=s.toks) (o:=.tup (P6 xs lo hi)) (λb l q=>au _ q) (aq _) ?_,rfl,q _ (I.hok.fresh (aq _))⟩;exact⟨aM (ze5 xs lo hi) f,_,(r.drop (HT.sIx xs.length 0 lo)).take (HT.sIx xs.length xs.length hi-HT.sIx xs.length 0 lo),zn4.new _ _⟩
def xu3 (K:W.Frag):R2:=λx y H Q=>∃a b xs ys,x=.ref a/\y=.ref b/\SqT K H a xs/\SqT K H b ys/\xs≠[]/\xs.length+ys.length<=gn /\
  (ys=[]->Q (.ref a) H)/\(ys≠[]->∀p,H p=none->Q (.ref p) (upd H p (.tup (xs++ys))))
theorem o0.nil_iff {xs:List V}{us:List Value}(r:o0 xs us):us=[]↔xs=[]:=by
  cases r with
  | nil=>simp
  | cons _ _=>simp
theorem xh5:OpR X (binaryOp .Add) (xu3 X.K):=by
  intro pins s σ H x y v u Q I n p h;obtain⟨a,b,xs,ys,rfl,rfl,g,hb,i,e,l,m⟩:=h
  cases n
  cases p
  obtain⟨j,d,k,_⟩:=I.tuple g;obtain⟨f,c,p2,_⟩:=I.tuple hb;refine HT.cat_tup k p2 (λz=>i (d.nil_iff.mp z)) (λz=>⟨.ref a,H,I,rfl,l (c.nil_iff.mp z)⟩) (λz=>?_) (by rw[←d.length,←c.length];exact e);refine⟨.ref s.heap.objs.size,_,I.laid (t':=s.toks) (o:=.tup (xs++ys)) (λb r q=>au _ q) (aq _) ?_,rfl,m (λw=>z (c.nil_iff.mpr w)) _ (I.hok.fresh (aq _))⟩;exact⟨by rw[ag];exact e,_,d.append c,zn4.new _ _⟩
end
def ixN (n:Nat)(i:Int):Option Nat:=if 0<=i then(if i<n then some i.toNat else none) else if -(n:Int)<=i then some (i+n).toNat else none
def atI {α:Type}(xs:List α)(i:Int):Option α:=(ixN xs.length i).bind λj=>xs[j]?
theorem zu7 {n:Nat}{i:Int}{j:Nat}(h:ixN n i=some j):seqIndex? i n=some j/\j<n/\-(n:Int)<=i/\i<n:=by
  unfold ixN at h;by_cases a:0<=i
  . rw[if_pos a]at h;by_cases h1:i<n
    . rw[if_pos h1]at h;have e:i.toNat=j:=Option.some.inj h;exact⟨by rw[seqIndex_of a h1,e],by lia,by lia,h1⟩
    . rw[if_neg h1]at h;cases h
  . rw[if_neg a]at h;by_cases h1:-(n:Int)<=i
    . rw[if_pos h1]at h;have e:(i+n).toNat=j:=Option.some.inj h;exact⟨by rw[seqIndex_neg (by lia) h1,e],by lia,h1,by lia⟩
    . rw[if_neg h1]at h;cases h
theorem zs9 {α:Type}{xs:List α}{i:Int}{v:α}(h:atI xs i=some v):∃j,seqIndex? i xs.length=some j/\xs[j]?=some v/\j<xs.length/\-(xs.length:Int)<=i/\i<xs.length:=by
  unfold atI at h
  cases e:ixN xs.length i with
  | none=>rw[e]at h;cases h
  | some j =>
    rw[e]at h;obtain⟨h1,h2,a,b⟩:=zu7 e;exact⟨j,h1,h,h2,a,b⟩
theorem l8 {α:Type}{xs:List α}{j:Nat}{v:α}(h:xs[j]?=some v):atI xs (j:Int)=some v:=by
  have a:j<xs.length:=(aw.mp h).1;have e:ixN xs.length (j:Int)=some j:=by
    unfold ixN;rw[if_pos (by lia),if_pos (by lia)];simp
  unfold atI;rw[e];exact h
theorem yv2 {α:Type}(xs:List α)(v:α):atI (xs++[v]) (-1)=some v:=by
  have hl:(xs++[v]).length=xs.length+1:=by simp
  have e:ixN (xs++[v]).length (-1)=some xs.length:=by
    unfold ixN;rw[hl,if_neg (by decide),if_pos (by lia)];congr 1;lia
  unfold atI;rw[e];show(xs++[v])[xs.length]?=some v;simp
def xe5 (b:Expr):Prop:=∀o i,subscripted b false o i=operate [o,i] (getItem o i)
def IxR (X:Cx)(r:R2):Prop :=
  ∀(value slice:Expr) (pins:List (Addr×Obj)) (s:gh) (σ:St) (H:Hp) (x y:V) (v u:Value) (Q:VK),Inv X pins σ H s->o5 x v->o5 y u->r x y H Q ->
    subscripted slice false v u=operate [v,u] (getItem v u)->gr (gu X.prog X.w) X.A (subscriptTail value slice v u) (EP X pins σ Q) X.xe s
def MtR (X:Cx)(id:String)(r:V->List V->Hp->VK->Prop):Prop :=
  ∀(pins:List (Addr×Obj)) (s:gh) (σ:St) (H:Hp) (x:V) (xs:List V) (v:Value) (us:List Value) (Q:VK),Inv X pins σ H s->o5 x v->o0 xs us->r x xs H Q ->
    gr (gu X.prog X.w) X.A (call (.builtin id) (v::us)) (EP X pins σ Q) X.xe s
section
variable {X:Cx}{a b:Expr}{ta tb:TE}{pos:Pos}
theorem IxR.or {r b:R2}(h:IxR X r)(h':IxR X b):IxR X (λx y H Q=>r x y H Q∨b x y H Q):=by
  intro value a pins s σ H x y v u Q I c d q hs;rcases q with q|q
  . exact h value a pins s σ H x y v u Q I c d q hs
  . exact h' value a pins s σ H x y v u Q I c d q hs
theorem p5 {r:R2}(e:IxR X r)(d:PE X a ta)(hb:PE X b tb)(hs:xe5 b):PE X (.Subscript a b pos) (tOp r ta tb):=by
  intro pins s σ H Q I h;exact Subscript_ (xl9 d hb I h λv u i x y H2 c f g q=>e a b pins i σ H2 x y v u Q c f g q (hs _ _))
def xu4 (K:W.Frag):R2:=λx y H Q=>∃p xs i v,x=.ref p/\y=.int i/\SqL K H p xs/\atI xs i=some v/\Q v H
def xu6 (K:W.Frag):R2:=λx y H Q=>∃p xs i v,x=.ref p/\y=.int i/\SqT K H p xs/\atI xs i=some v/\Q v H
def xu5:R2:=λx y H Q=>∃z i c,x=.str z/\y=.int i/\z.length<=gn/\atI z.cps.toList i=some c/\Q (.str ⟨#[c]⟩) H
theorem t4:IxR X (xu4 X.K):=by
  intro value e pins s σ H x y v u Q I o A h hs;obtain⟨p,xs,i,z,rfl,rfl,n,m,q⟩:=h
  cases o
  obtain⟨t,rfl⟩:=A;obtain⟨c,r,pl,D⟩:=I.list n;obtain⟨j,h1,h2,B,k,l⟩:=zs9 m;obtain⟨w,f,d⟩:=r.get h2;have hl:=r.length;have C:=zj6;have a:EP X pins σ Q w s:=⟨z,H,I,d,q⟩;by_cases g:0<=i
  . have b:i.toNat=j:=by
      rw[seqIndex_of g l]at h1;exact Option.some.inj h1
    exact item_listR pl.isList g (by lia) (by rw[b];simpa using f) a hs
  . have b:(i+(c.toArray.size:Int)).toNat=j:=by
      rw[seqIndex_neg (by lia) k]at h1;rw[aB,←hl];exact Option.some.inj h1
    exact subscriptTail_builtinR (x := w) pl.isList.typeIs slot_list_getitem.lookup
      (wpAny_getItem_list_neg (Q:=λr s'=>r=w/\EP X pins σ Q r s') pl.isList (by lia) (by rw[aB] <;> lia) (by lia) (by rw[b];simpa using f) ⟨rfl,a⟩) hs
theorem Z9:IxR X (xu6 X.K):=by
  intro value c pins s σ H x y v u Q I k l h hs;obtain⟨p,xs,i,z,rfl,rfl,f,e,q⟩:=h
  cases k
  obtain⟨t,rfl⟩:=l;obtain⟨g,r,pl,B⟩:=I.tuple f;obtain⟨j,h1,h2,m,n,o⟩:=zs9 e;obtain⟨w,d,b⟩:=r.get h2;have hl:=r.length;have A:=zj6;have a:EP X pins σ Q w s:=⟨z,H,I,b,q⟩;exact subscriptTail_builtinR (x := w) pl.typeIs slot_tuple_getitem.lookup
    (getItem_tuple (j:=j) (Q:=λr s'=>r=w/\EP X pins σ Q r s') pl (by lia) (by lia) (by rw[aB,←hl];exact h1) (by simpa using d) ⟨rfl,a⟩) hs
theorem xn9:IxR X xu5:=by
  intro value a pins s σ H x y v u Q I k l h hs;obtain⟨z,i,c,rfl,rfl,o,g,q⟩:=h;obtain⟨t,rfl⟩:=k;obtain⟨p,rfl⟩:=l;obtain⟨j,h1,h2,m,e,f⟩:=zs9 g;have hl:z.cps.toList.length=z.length:=by simp[Str.length]
  rw[hl]at h1 e f;have n:=zj6;exact tail_any (typeIs_str s z t) slot_str_getitem.lookup (getItem_str (c:=c) (by
    have b:decide (i < -(2 ^ 63:Int))=false:=decide_eq_false (by lia)
    have d:decide (i ≥ 2 ^ 63)=false:=decide_eq_false (by lia)
    rw[b,d,Bool.or_false]) (by rw[h1];simpa using h2) ⟨.str ⟨#[c]⟩,H,I.tok _,⟨_,rfl⟩,q⟩) hs
def rIx (K:W.Frag):R2:=λx y H Q=>xu4 K x y H Q∨xu6 K x y H Q∨xu5 x y H Q
theorem xn8:IxR X (rIx X.K):=t4.or (Z9.or xn9)
theorem yh8 (its:List Value)(n j:Nat)(u:Value):Obj.mapSeq (·.setIfInBounds j u) { cls:=.type "list",data:=.seq its.toArray n }={ cls:=.type "list",data:=.seq (its.set j u).toArray n }:=by
  simp[Obj.mapSeq]
theorem Inv.lst {pins : List (Addr×Obj)}{σ : St}{H : Hp}{s : gh}{p : Addr}{xs : List V}(I : Inv X pins σ H s)(h : H p = some (.lst xs)) :
    ∃(a:List Value) (n:Nat),o0 xs a/\s.heap.get? p=some { cls:=.type "list",data:=.seq a.toArray n }/\xs.length<=gn:=by
  obtain⟨z,a,n,r,e⟩:=I.hok p _ h;exact⟨a,n,r,e,z⟩
theorem Inv.lstUpd {pins : List (Addr×Obj)}{σ : St}{H : Hp}{s : gh}{p : Addr}{xs ys : List V}{its its' : List Value}{n n' : Nat}{f : Obj -> Obj}(I : Inv X pins σ H s)(h : H p = some (.lst xs))
    (c:s.heap.get? p=some { cls:=.type "list",data:=.seq its.toArray n }) (a:f { cls:=.type "list",data:=.seq its.toArray n }={ cls:=.type "list",data:=.seq its'.toArray n' }) (r:o0 ys its') (d:ys.length<=gn) (t:Nat) :
    Inv X pins σ (upd H p (.lst ys)) { s with heap:=s.heap.update p f,toks:=t }:=by
  have e:(s.heap.update p f).get? p=some { cls:=.type "list",data:=.seq its'.toArray n' }:=by
    rw[Heap.get?_update_self f c (by rw[a] <;> rfl),a]
  refine I.write (x:=p) (e:=p) (by rw[h];trivial) (.inl rfl) (λb u hb q=>(Heap.get?_update_other _ _ (Ne.symm hb)).trans q) ⟨_,e⟩ ?_;exact⟨d,its',n',r,e⟩
def xu7:V->V->V->Hp->(Hp->Prop)->Prop:=λo i v H Q=>∃p xs k j,o=.ref p/\i=.int k/\H p=some (.lst xs)/\ixN xs.length k=some j/\Q (upd H p (.lst (xs.set j v)))
theorem M7:xs0 X xu7:=by
  intro pins s σ H o i v C B u Q I y x z h;obtain⟨p,xs,k,j,rfl,rfl,l,m,q⟩:=h
  cases y
  obtain⟨t,rfl⟩:=x;obtain⟨a,n,r,c,w⟩:=I.lst l;obtain⟨h1,h2,f,g⟩:=zu7 m;have hl:=r.length;have A:=zj6;have d:Inv X pins σ (upd H p (.lst (xs.set j v))) { s with heap:=s.heap.update p (Obj.mapSeq (·.setIfInBounds j u)) } :=
    I.lstUpd l c (yh8 a n j u) (r.set z j) (by rw[bD];exact w) s.toks
  by_cases e:0<=k
  . have b:k.toNat=j:=by
      rw[seqIndex_of e g]at h1;exact Option.some.inj h1
    exact W.ki_setAt c e (by lia) (by rw[aB,←hl];exact g) (by rw[b];exact⟨_,d,q⟩)
  . have b:(k+(a.toArray.size:Int)).toNat=j:=by
      rw[seqIndex_neg (by lia) f]at h1;rw[aB,←hl];exact Option.some.inj h1
    exact W.ki_setBack c (by lia) (by rw[aB,←hl];exact f) (by lia) (by rw[b];exact⟨_,d,q⟩)
theorem zx9 (lo hi:Option Int)(n:Nat):(sliceBounds lo hi none n).1=((HT.sIx n 0 lo:Nat):Int)/\(sliceBounds lo hi none n).2.1=((HT.sIx n n hi:Nat):Int)/\(sliceBounds lo hi none n).2.2=1:=by
  refine⟨?_,?_,rfl⟩
  . cases lo with
    | none=>simp[sliceBounds,HT.sIx]
    | some i =>
      simp only[sliceBounds,HT.sIx,fJ,show(1:Int) > 0 by decide,if_true];by_cases h:i<0
      . simp only[h,if_true] <;> lia
      . simp only[h,if_false] <;> lia
  . cases hi with
    | none=>simp[sliceBounds,HT.sIx]
    | some i =>
      simp only[sliceBounds,HT.sIx,fJ,show(1:Int) > 0 by decide,if_true];by_cases h:i<0
      . simp only[h,if_true] <;> lia
      . simp only[h,if_false] <;> lia
theorem zp1 (its:List Value)(lo hi:Option Int):slicePick its.toArray lo hi none=((its.drop (HT.sIx its.length 0 lo)).take (HT.sIx its.length its.length hi-HT.sIx its.length 0 lo)).toArray:=by
  obtain⟨h1,h2,a⟩:=zx9 lo hi its.toArray.size;unfold slicePick;rw[h1,h2,a];simp only[sliceRange_one,pick_run,aB] <;> rfl
def xx4 (K:W.Frag):V->Option Int->Option Int->Hp->VK->Prop:=λx lo hi H Q=>∃a xs,x=.ref a/\SqL K H a xs/\∀p,H p=none->Q (.ref p) (upd H p (.lst (P6 xs lo hi)))
theorem J6:SlR X (xx4 X.K):=by
  intro pins s σ H x v l m lo hi sl Q I j hs pl i h;obtain⟨a,xs,rfl,e,q⟩:=h
  cases j
  obtain⟨g,r,d,f⟩:=I.list e;have c:=r.length;refine⟨"list",_,slot_list_getitem.lookup,d.isList.typeIs,?_⟩;refine wpAny_getItem_list_slice d.isList hs pl i .none (by simp) ?_ (by rw[aB] <;> lia);rw[zp1,←c];refine⟨.ref s.heap.objs.size,_,I.laid (t':=s.toks) (o:=.lst (P6 xs lo hi)) (λb k q=>au _ q) (aq _) ?_,rfl,q _ (I.hok.fresh (aq _))⟩;exact⟨aM (ze5 xs lo hi) f,_,0,(r.drop (HT.sIx xs.length 0 lo)).take (HT.sIx xs.length xs.length hi-HT.sIx xs.length 0 lo),aF _ rfl⟩
def A8 : V -> Bool
  | .non=>true
  | .bl _=>true
  | .int _=>true
  | .str _=>true
  | _=>false
def eqV : V -> V -> Bool
  | .non,.non=>true
  | .bl a,.bl b=>a==b
  | .bl a,.int b=>(if a then 1 else 0)==b
  | .int a,.bl b=>a==(if b then 1 else 0)
  | .int a,.int b=>a==b
  | .str a,.str b=>a==b
  | _,_=>false
theorem xm3 {A:gw}{s:gh}{y x:V}{u v:Value}(f:o5 y u)(c:o5 x v)(g:A8 y=true)(e:A8 x=true):SeqAt.EqAt A s u v (eqV y x):=by
  cases y with
  | non =>
    cases f
    cases x with
    | non=>cases c;exact SeqAt.EqAt.same _
    | bl b=>cases c;exact SeqAt.EqAt.none_bool b
    | int b=>obtain⟨t,rfl⟩:=c;exact SeqAt.EqAt.none_int b t
    | str b=>obtain⟨t,rfl⟩:=c;exact SeqAt.EqAt.none_str b t
    | _=>exact absurd (show false=true from e) aH
  | bl a =>
    cases f
    cases x with
    | non=>cases c;exact SeqAt.EqAt.bool_none a
    | bl b=>cases c;exact SeqAt.EqAt.bool_bool a b
    | int b=>obtain⟨t,rfl⟩:=c;exact SeqAt.EqAt.bool_int a b t
    | str b=>obtain⟨t,rfl⟩:=c;exact SeqAt.EqAt.bool_str a b t
    | _=>exact absurd (show false=true from e) aH
  | int a =>
    obtain⟨d,rfl⟩:=f
    cases x with
    | non=>cases c;exact SeqAt.EqAt.int_none a d
    | bl b=>cases c;exact SeqAt.EqAt.int_bool a d b
    | int b=>obtain⟨t,rfl⟩:=c;exact SeqAt.EqAt.int_int a d b t
    | str b=>obtain⟨t,rfl⟩:=c;exact SeqAt.EqAt.int_str a d b t
    | _=>exact absurd (show false=true from e) aH
  | str a =>
    obtain⟨d,rfl⟩:=f
    cases x with
    | non=>cases c;exact SeqAt.EqAt.str_none a d
    | bl b=>cases c;exact SeqAt.EqAt.str_bool a d b
    | int b=>obtain⟨t,rfl⟩:=c;exact SeqAt.EqAt.str_int a d b t
    | str b=>obtain⟨t,rfl⟩:=c;exact SeqAt.EqAt.str_str a d b t
    | _=>exact absurd (show false=true from e) aH
  | _=>exact absurd (show false=true from g) aH
def eqU (x:V)(u:Value):Bool:=match u with
  | .none=>eqV .non x
  | .bool b=>eqV (.bl b) x
  | .int i _=>eqV (.int i) x
  | .str z _=>eqV (.str z) x
  | _=>false
theorem yw8 {x y:V}{u:Value}(r:o5 y u)(f:A8 y=true):eqU x u=eqV y x:=by
  cases y with
  | non=>cases r;rfl
  | bl b=>cases r;rfl
  | int i=>obtain⟨t,rfl⟩:=r;rfl
  | str z=>obtain⟨t,rfl⟩:=r;rfl
  | _=>exact absurd (show false=true from f) aH
theorem zs8 {x : V} : ∀{xs : List V} {us : List Value}, o0 xs us -> xs.all A8 = true -> us.any (eqU x) = xs.any λy => eqV y x
  | _,_,.nil,_=>rfl
  | y::xs,u::us,.cons r t,f=>by
    rw[eO,bp]at f
    rw[dZ,dZ,yw8 r f.1,zs8 t f.2]
theorem zj7 {A : gw}{s : gh}{x : V}{v : Value}(rx : o5 x v)(fx : A8 x = true) : ∀{xs : List V} {us : List Value}, o0 xs us -> xs.all A8 = true -> ∀u ∈ us, SeqAt.EqAt A s u v (eqU x u)
  | _,_,.nil,_=>λu hu=>by cases hu
  | y::xs,u::us,.cons r t,f=>λu' hu=>by
    rw[eO,bp]at f
    rcases ay.mp hu with rfl|hu
    . rw[yw8 r f.1];exact xm3 r rx f.1 fx
    . exact zj7 rx fx t f.2 u' hu
def inV (x:V)(xs:List V):Bool:=xs.any λy=>eqV y x
def rIn (K:W.Frag)(neg:Bool):R2:=λx y H Q=>∃p xs,y=.ref p/\(SqL K H p xs∨SqT K H p xs)/\A8 x=true/\xs.all A8=true/\Q (.bl (if neg then !inV x xs else inV x xs)) H
theorem zw3:OpR X (compareOp .NotIn) (rIn X.K true):=by
  intro pins s σ H x y v u Q I e g h;obtain⟨p,xs,rfl,b,d,fs,q⟩:=h
  cases g
  rcases b with b|b
  . obtain⟨a, r, pl, f⟩ := I.list b;refine SeqAt.notIn_listAt (eqU x) pl.isList (λw c=>zj7 e d r fs w (by simpa using c)) ⟨.bl _,H,I,rfl,?_⟩;rw[show a.toArray.any (eqU x)=a.any (eqU x) by simp,zs8 r fs];exact q
  . obtain⟨a, r, pl, f⟩ := I.tuple b;refine SeqAt.notIn_tupleAt (eqU x) pl (λw c=>zj7 e d r fs w (by simpa using c)) ⟨.bl _,H,I,rfl,?_⟩;rw[show a.toArray.any (eqU x)=a.any (eqU x) by simp,zs8 r fs];exact q
theorem y6:S6 X (.builtin "len") (λxs H Q=>∃p ys,xs=[.ref p]/\(SqL X.K H p ys∨SqT X.K H p ys)/\Q (.int ys.length) H):=by
  intro pins s σ H xs i Q I r h;obtain⟨p,ys,rfl,b,q⟩:=h;obtain⟨u,rfl,f⟩:=O9 r
  cases f
  have g:=zj6;rcases b with b|b
  . obtain⟨c, d, pl, e⟩ := I.list b;have a:=d.length;exact Calls.call_len_list pl.isList (by simp only[aB] <;> lia) ⟨.int ys.length,H,I.tok _,⟨s.toks+1,by rw[aB,a]⟩,q⟩
  . obtain⟨c, d, pl, e⟩ := I.tuple b;have a:=d.length;exact len_tuple pl (by simp only[aB] <;> lia) ⟨.int ys.length,H,I.tok _,⟨s.toks+1,by rw[aB,a]⟩,q⟩
theorem V2:S6 X (.type "list") (λxs H Q=>∃p ys,xs=[.ref p]/\(SqL X.K H p ys∨SqT X.K H p ys)/\∀l,H l=none->Q (.ref l) (upd H l (.lst ys))):=by
  intro pins s σ H xs t Q I r h;obtain⟨p,ys,rfl,f,q⟩:=h;obtain⟨u,rfl,m⟩:=O9 r
  cases m
  have c:∀(its:List Value),o0 ys its->ys.length<=gn->∀(h':Heap) (c':Nat),(∀b o',s.heap.get? b=some o'->h'.get? b=some o') ->
      h'.get? s.heap.objs.size=some { cls:=.type "list",dict:=none,data:=.seq its.toArray c',slots:=#[] }->EP X pins σ Q (.ref s.heap.objs.size) { s with heap:=h' }:=λits a g h' c' kp e =>
    ⟨.ref s.heap.objs.size,_,I.laid (t':=s.toks) kp (aq _) (show k8 X.prog X.w _ h' _ (.lst ys) from⟨g,its,c',a,e⟩),rfl,q _ (I.hok.fresh (aq _))⟩
  rcases f with f|f
  . obtain⟨its, a, pl, g⟩ := I.list f;have d:=a.length;obtain⟨o,k,i,n,j⟩:=pl.isList;exact call_list_seq p (.inl rfl) k i j (λh' c' kp e=>c its a g h' c' kp e) (by simp only[aB] <;> lia)
  . obtain⟨its, a, pl, g⟩ := I.tuple f;have d:=a.length;obtain⟨o,k,i,n,j⟩:=pl;exact call_list_seq p (.inr rfl) k i j (λh' c' kp e=>c its a g h' c' kp e) (by simp only[aB] <;> lia)
theorem i6:S6 X (.type "tuple") (λxs H Q=>∃p ys,xs=[.ref p]/\((SqL X.K H p ys/\∀l,H l=none->Q (.ref l) (upd H l (.tup ys)))∨(SqT X.K H p ys/\Q (.ref p) H))):=by
  intro pins s σ H xs k Q I r h;obtain⟨p,ys,rfl,h⟩:=h;obtain⟨u,rfl,j⟩:=O9 r
  cases j
  rcases h with⟨a,q⟩|⟨a,q⟩
  . obtain⟨its, c, pl, g⟩ := I.list a;have f:=c.length;refine call_tuple_list pl.isList (λh' kp=>?_) (by simp only[aB] <;> lia);have d:Inv X pins σ H { s with heap:=h' }:=I.kept (t':=s.toks) kp;have i:Inv X pins σ (upd H h'.objs.size (.tup ys)) { s with heap:=h'.push { cls:=.type "tuple",data:=.seq its.toArray } } :=
      d.laid (t':=s.toks) (λb o e=>au _ e) (aq _) (show k8 X.prog X.w _ _ _ (.tup ys) from⟨g,its,c,zn4.new _ _⟩)
    exact⟨.ref h'.objs.size,_,i,rfl,q _ (d.hok.fresh (aq _))⟩
  . obtain⟨its, c, pl, g⟩ := I.tuple a;exact call_tuple_same pl ⟨.ref p,H,I,rfl,q⟩
def tyV (K:W.Frag)(T:String)(x:V)(H:Hp):Prop:=match x with
  | .str _=>T="str"
  | .int _=>T="int"
  | .ref p => (T = "list" /\ ∃xs, SqL K H p xs)∨(T = "tuple" /\ ∃o, K.lookup p = some o /\ o.cls = .type "tuple" /\ o.dict = none) ∨
      (T="dict"/\((∃kvs,H p=some (.dK kvs))∨∃kvs,H p=some (.dT kvs)))∨(T="set"/\∃S n,H p=some (.set S n))
  | _=>False
theorem xr5 {pins : List (Addr×Obj)}{σ : St}{H : Hp}{s : gh}{T : String}{x : V}{v : Value}(I : Inv X pins σ H s)(r : o5 x v)(ty : tyV X.K T x H) :
    s.TypeIs v T/\∀a,v=.ref a->∃ob,s.heap.get? a=some ob/\ob.dict=none:=by
  cases x with
  | str z =>
    obtain⟨t,rfl⟩:=r
    cases (show T="str" from ty)
    exact⟨typeIs_str s z t,λ_ e=>nomatch e⟩
  | int i =>
    obtain⟨t,rfl⟩:=r
    cases (show T="int" from ty)
    exact⟨typeIs_int s i t,λ_ e=>nomatch e⟩
  | ref p =>
    cases r
    rcases ty with⟨rfl,xs,h⟩|⟨rfl,o,b,g,f⟩|⟨rfl,b⟩|⟨rfl,S,n,b⟩
    . obtain⟨j, _, pl, _⟩ := I.list h;refine⟨pl.isList.typeIs,λa e=>?_⟩
      cases e
      obtain⟨o,n,e,c,f,_⟩:=pl;exact⟨o,e,f⟩
    . refine⟨⟨o, I.kIn p o b, g⟩, λa e => ?_⟩
      cases e
      exact⟨o,I.kIn _ o b,f⟩
    . have z:∃o,s.heap.get? p=some o/\o.ExactDict:=by
        rcases b with⟨kvs,b⟩|⟨kvs,b⟩
        . obtain⟨_, _, _, _, o, _, _, e, ex, _⟩ := I.hok p _ b;exact⟨o,e,ex⟩
        . obtain⟨_, _, _, _, o, _, _, e, ex, _⟩ := I.hok p _ b;exact⟨o,e,ex⟩
      obtain⟨o,e,ex⟩:=z;refine⟨⟨o,e,ex.1⟩,λa d=>?_⟩
      cases d
      exact⟨o,e,ex.2.1⟩
    . obtain⟨o, _, _, _, e, ex, _⟩ := I.hok p _ b;refine⟨⟨o,e,ex.1⟩,λa d=>?_⟩
      cases d
      exact⟨o,e,ex.2.1⟩
  | _=>exact False.elim ty
def tBM (K:W.Frag)(T:String)(r:V->List V->Hp->VK->Prop)(to:TE)(t:TA):TE:=λσ H Q=>to σ H λx H1=>tyV K T x H1/\t σ H1 λxs H2=>r x xs H2 Q
variable {o e:Expr}{es:List Expr}{to:TE}{t:TA}{name:Str}{apos cpos:Pos}{T id:String}{r:V->List V->Hp->VK->Prop}
theorem Q3 (pa : PlainAttrs T)(slot : Slot T name id)(hty : typeOf (.builtin id) = pure (.type "method_descriptor"))(hm : MtR X id r)(ho : PE X o to)(ha : PA X (e::es) t)
    (hbase:attributeBase o name X.env (eval o X.env)=eval o X.env:=by rfl)
    (hfew : ((backTo cpos (gs (e::es) X.env)).all (λx => !x.1)&&(backToKw cpos (gC [] X.env)).all (λx => x.1.isSome)
      && decide ((e::es).length+([]:List Keyword).length+(if ([]:List Keyword).isEmpty then 0 else 1)<30))=true:=by rfl)
    (hline:(apos.endLine==cpos.line)=true:=by rfl) (hs:gs (e::es) X.env=(false,eval e X.env)::gs es X.env:=by rfl) (hplain:(backTo cpos (gs es X.env)).any (·.1)=false:=by rfl) :
    PE X (.Call (.Attribute o name apos) (e::es) [] cpos) (tBM X.K T r to t):=by
  intro pins s σ H Q I h
  refine wpAny_Call_method_late hbase hfew hline rfl (thn (ho pins s σ H _ I h) λv s1 ⟨x,H1,I1,r1,ty,q1⟩=>?_)
  obtain⟨h1,h2⟩:=xr5 I1 r1 ty
  refine⟨T,id,pa,slot,hty,h1,h2,?_⟩
  have hA:=ha cpos pins s1 σ H1 _ I1 q1
  rw[hs]at hA ⊢
  refine Calls.callWith_builtin (by show(false || (backTo cpos (gs es X.env)).any (·.1))=false;rw[hplain] <;> rfl) (Calls.evalArgs_plain ?_)
  exact thn hA λus s2 ⟨vs,H2,I2,r2,q2⟩=>hm pins s2 σ H2 x vs v us Q I2 r1 r2 q2
end
def MtM (X:Cx)(id:String)(r:V->List V->Hp->VK->Prop):Prop :=
  ∀(pins:List (Addr×Obj)) (s:gh) (σ:St) (H:Hp) (x:V) (xs:List V) (v:Value) (us:List Value) (Q:VK),Inv X pins σ H s->o5 x v->o0 xs us->r x xs H Q ->
    gr (gu X.prog X.w) X.A (call (.builtin id) (v::us)) (EP X pins σ Q) X.xe s
theorem o0.one : ∀{x : V} {us : List Value}, o0 [x] us -> ∃u, us = [u] /\ o5 x u
  | _,_,.cons r .nil=>⟨_,rfl,r⟩
theorem o0.eraseIdx : ∀{xs : List V} {us : List Value} (i : Nat), o0 xs us -> o0 (xs.eraseIdx i) (us.eraseIdx i)
  | _,_,_,.nil=>.nil
  | _,_,0,.cons _ t=>t
  | _,_,i+1,.cons r t=>.cons r (o0.eraseIdx i t)
theorem o0.rep {xs : List V}{us : List Value}(h : o0 xs us) : ∀k : Nat, o0 (List.replicate k xs).flatten (List.replicate k us).flatten
  | 0=>.nil
  | k+1=>by
    rw[ck,ck,bw,bw]
    exact o0.append h (o0.rep h k)
theorem zr2 {α : Type} : ∀(l : List α) (i : Nat), (l.eraseIdx i).length <= l.length
  | [],_=>aq _
  | _::_,0=>dJ _
  | _::r,i+1=>Nat.succ_le_succ (zr2 r i)
theorem zq9 (its:List Value):∀(k:Nat) (acc:List Value),
    List.foldl (λx1 x2=>x1++x2) acc.toArray (List.replicate k its.toArray)=(acc++(List.replicate k its).flatten).toArray
  | 0,acc=>by simp
  | k+1,acc=>by
    have e:acc.toArray++its.toArray=(acc++its).toArray:=by simp
    have a:(acc++its)++(List.replicate k its).flatten=acc++(List.replicate (k+1) its).flatten:=by
      rw[ck,bw,di]
    rw[←a,←zq9 its k (acc++its),←e,ck,fh]
section
variable {X:Cx}{pins:List (Addr×Obj)}{σ:St}{H:Hp}{s:gh}{l b:Addr}{xs ys zs:List V}
theorem Inv.lset {its its' : List Value}{n : Nat}{f : Array Value -> Array Value}{t' : Nat}(I : Inv X pins σ H s)(a : H l = some (.lst xs))
    (e:s.heap.get? l=some { cls:=.type "list",data:=.seq its.toArray n }) (b:f its.toArray=its'.toArray) (d:o0 ys its') (g:ys.length<=gn) :
    Inv X pins σ (upd H l (.lst ys)) { s with heap:=s.heap.update l (Obj.mapSeq f),toks:=t' }:=by
  have q:=PySem.IsL.update e f;rw[b]at q;refine I.write (x:=l) (e:=l) (by rw[a];exact trivial) (.inl rfl) (λh u hb c=>(Heap.get?_update_other s.heap (Obj.mapSeq f) (Ne.symm hb)).trans c) ⟨_,q⟩ ?_;exact⟨g,its',_,d,q⟩
theorem Inv.lnew {its : List Value}{t' : Nat}(I : Inv X pins σ H s)(hv : o0 ys its)(hz : ys.length <= gn) :
    Inv X pins σ (upd H s.heap.objs.size (.lst ys)) { s with heap:=s.heap.push { cls:=.type "list",data:=.seq its.toArray },toks:=t' } :=
  I.laid (λ_ _ q=>au _ q) (aq _) ⟨hz,its,0,hv,aF _ rfl⟩
theorem Inv.fresh (I:Inv X pins σ H s):H s.heap.objs.size=none:=I.hok.fresh (aq _)
theorem Inv.lstM (I:Inv X pins σ H s)(b:H l=some (.lst xs)):xs.length<=gn/\∃(a:List Value) (n:Nat),o0 xs a/\xs.length=a.length/\s.heap.get? l=some { cls:=.type "list",data:=.seq a.toArray n }:=by
  obtain⟨z,a,n,r,e⟩:=I.hok l _ b;exact⟨z,a,n,r,r.length,e⟩
theorem yc2 {n:Nat}(h:n<=gn):Builtin.List.listTooLong n=false:=by
  unfold Builtin.List.listTooLong;exact decide_eq_false (by lia)
end
section
variable {X:Cx}
def xi4:V->List V->Hp->VK->Prop:=λx vs H Q=>∃l xs y,x=.ref l/\vs=[y]/\H l=some (.lst xs)/\xs.length<gn/\Q .non (upd H l (.lst (xs++[y])))
theorem i8:MtM X "list.append" xi4:=by
  intro pins s σ H x j v i Q I f d h;obtain⟨l,xs,y,rfl,rfl,b,g,q⟩:=h
  cases f
  obtain⟨u,rfl,c⟩:=d.one;obtain⟨z,a,n,r,hl,e⟩:=I.lstM b;refine call_meets F.slot_list_append ⟨_,e,rfl⟩ F.entry_list_append (F.args_list_append_2 _ _) (PySem.list_append l a.toArray n u (by rw[aB];lia)) ⟨e,?_⟩;refine⟨.non,_,I.lset (its':=a++[u]) b e (by simp) (r.append (.cons c .nil)) ?_,rfl,q⟩;rw[ag,bK];lia
def xi5:V->List V->Hp->VK->Prop:=λx vs H Q=>∃l b xs zs,x=.ref l/\vs=[.ref b]/\H l=some (.lst xs)/\H b=some (.lst zs)/\xs.length+zs.length<=gn/\Q .non (upd H l (.lst (xs++zs)))
theorem zr4:MtM X "list.extend" xi5:=by
  intro pins s σ H x B v A Q I w t h;obtain⟨l,b,xs,zs,rfl,rfl,g,j,y,q⟩:=h
  cases w
  obtain⟨u,rfl,p⟩:=t.one
  cases p
  obtain⟨z,c,n,r,hl,e⟩:=I.lstM g;obtain⟨C,a,m,o,k,i⟩:=I.lstM j;have f:c.toArray.size+a.toArray.size<=gn:=by rw[aB,aB];lia
  have d:¬(!c.toArray.isEmpty&&Builtin.List.listTooLong (c.toArray.size+a.toArray.size))=true:=by
    rw[yc2 f,dP];exact aH
  refine call_meets F.slot_list_extend ⟨_, e, rfl⟩ F.entry_list_extend (F.args_list_extend_2 _ _)
    (AutoSeq1.list_extend_list_list_0 l c.toArray n b a.toArray m d (by rw[aB];lia) (by lia)) ⟨e,i,?_⟩
  refine⟨.non,_,I.lset (its':=c++a) g e (by simp) (r.append o) ?_,rfl,q⟩;rw[ag];lia
def xq6:V->List V->Hp->VK->Prop:=λx vs H Q=>∃l xs i k y,x=.ref l/\vs=[.int i]/\H l=some (.lst xs)/\-(2 ^ 63)<=i/\i<2 ^ 63/\seqIndex? i xs.length=some k/\xs[k]?=some y/\Q y (upd H l (.lst (xs.eraseIdx k)))
theorem yz6:MtM X "list.pop" xq6:=by
  intro pins s σ H x A v p Q I o m h;obtain⟨l,xs,i,k,y,rfl,rfl,c,h1,h2,d,g,q⟩:=h
  cases o
  obtain⟨u,rfl,j⟩:=m.one;obtain⟨t,rfl⟩:=j;obtain⟨z,a,n,r,hl,e⟩:=I.lstM c;obtain⟨w,f,b⟩:=r.get g;refine call_meets F.slot_list_pop ⟨_, e, rfl⟩ F.entry_list_pop (F.args_list_pop_2 _ _)
    (MeetsSeq.list_pop_at l a.toArray n i t k w (fitsIndex_both h1 h2) (by rw[aB,←hl];exact d) (by rw[←bz];exact f) (by rw[aB];lia)) ⟨e,?_⟩
  refine⟨y,_,I.lset (its':=a.eraseIdx k) c e ?_ (r.eraseIdx k) ?_,b,q⟩
  . show a.toArray.eraseIdxIfInBounds k = (a.eraseIdx k).toArray;rw[List.eraseIdxIfInBounds_toArray]
  . have := zr2 xs k;lia
def xu2:R2:=λx y H Q=>∃l b xs zs,x=.ref l/\y=.ref b/\H l=some (.lst xs)/\H b=some (.lst zs)/\xs.length+zs.length<=gn/\∀p,H p=none->Q (.ref p) (upd H p (.lst (xs++zs)))
theorem zk6:OpR X (binaryOp .Add) xu2:=by
  intro pins s σ H x y v u Q I m o h;obtain⟨l,b,xs,zs,rfl,rfl,i,g,p,q⟩:=h
  cases m
  cases o
  obtain⟨z,c,n,r,hl,e⟩:=I.lstM i;obtain⟨w,a,t,k,j,d⟩:=I.lstM g;refine PySem.P.add_list e d ?_ (by rw[aB,aB];lia);have f:c.toArray++a.toArray=(c++a).toArray:=by simp
  rw[f];exact⟨.ref _,_,I.lnew (t':=s.toks) (r.append k) (by rw[ag];lia),rfl,q _ I.fresh⟩
def xx3:R2:=λx y H Q=>∃l k xs,x=.ref l/\y=.int k/\H l=some (.lst xs)/\-(2 ^ 63)<=k/\k<2 ^ 63/\xs.length*k.toNat<=gn /\
  ∀p,H p=none->Q (.ref p) (upd H p (.lst (List.replicate k.toNat xs).flatten))
theorem xg9 {α:Type}(xs:List α)(k:Nat):(List.replicate k xs).flatten.length=k*xs.length:=by
  induction k with
  | zero=>simp
  | succ k ih=>rw[ck,bw,ag,ih,fZ,dv]
theorem xp4:OpR X (binaryOp .Mult) xx3:=by
  intro pins s σ H x y v u Q I B C h;obtain⟨l,k,xs,rfl,rfl,A,h1,h2,p,q⟩:=h
  cases B
  obtain⟨t,rfl⟩:=C;obtain⟨z,b,n,r,hl,e⟩:=I.lstM A;have g:b.toArray.size*k.toNat<=gn:=by rw[aB,←hl];exact p
  have d:¬b.toArray.size*k.toNat > (2 ^ 63-1) / 8:=by
    have:(gn:Nat)<=(2 ^ 63-1) / 8:=by decide
    lia
  have f:¬(!Builtin.List.listFitsIndex k)=true:=by
    rw[fitsIndex_both h1 h2];exact aH
  have c:¬Builtin.List.listTooLong (b.toArray.size*k.toNat)=true:=by
    rw[yc2 g];exact aH
  have i:List.foldl (λj o=>j++o) #[] (List.replicate (if b.toArray.isEmpty=true then 0 else k.toNat) b.toArray)=(List.replicate k.toNat b).flatten.toArray:=by
    have w:∀m:Nat,List.foldl (λj o=>j++o) #[] (List.replicate m b.toArray)=(List.replicate m b).flatten.toArray:=λm=>by
      have:=zq9 b m [];rw[ff]at this;exact this
    rw[w]
    cases b with
    | nil=>simp
    | cons a r'=>rw[if_neg (by simp)]
  refine wpAny_binaryOp_repeat_ref (T := "list") (U := "int") (by decide) ⟨_, e, rfl⟩ (λs' => typeIs_int s' k t) noFill_list_mul F.fills_int_mul F.slot_int_rmul repeat_list F.slot_int_index.lookup
    (call_meets F.slot_int_rmul (typeIs_int s k t) F.entry_int_rmul (F.args_int_rmul_2 _ _) (int___rmul___int_list k t l b.toArray n)
      ⟨e,rfl,⟨_,e,rfl⟩,call_meets F.slot_list_mul ⟨_,e,rfl⟩ F.entry_list_mul (F.args_list_mul_2 _ _) (AutoListH.list___mul___list_int_3 l b.toArray n k t f d c) ⟨e,?_⟩⟩)
  rw[i];exact⟨.ref _,_,I.lnew (t':=s.toks) (r.rep k.toNat) (by rw[xg9,cj];exact p),rfl,q _ I.fresh⟩
end
section
variable {κ:Type}[DecidableEq κ]
def X1 (kvs:List (κ×V))(k:κ):Option V:=(kvs.find? λkv=>decide (kv.1=k)).map (·.2)
def putK (kvs:List (κ×V))(k:κ)(v:V):List (κ×V) :=
  if (kvs.any λkv=>decide (kv.1=k))=true then kvs.map (λkv=>if kv.1=k then(kv.1,v) else kv) else kvs++[(k,v)]
theorem b9 {p:κ×V}{r:List (κ×V)}{k:κ}(e:p.1=k):X1 (p::r) k=some p.2:=by simp[X1,dw,e]
theorem c6 {p:κ×V}{r:List (κ×V)}{k:κ}(e:¬p.1=k):X1 (p::r) k=X1 r k:=by simp[X1,dw,e]
theorem M9 (k : κ) : ∀kvs : List (κ×V), (kvs.any λkv => decide (kv.1 = k)) = (X1 kvs k).isSome
  | []=>rfl
  | p::r=>by
    rw[dZ]
    by_cases e:p.1=k
    . simp only[b9 e,decide_eq_true e,Bool.true_or,Option.isSome_some]
    . rw[c6 e,decide_eq_false e,Bool.false_or];exact M9 k r
theorem yf9 (k j : κ)(y : V) : ∀kvs : List (κ×V), X1 (kvs.map λkv => if kv.1 = k then(kv.1, y) else kv) j = (X1 kvs j).map λx => if j = k then y else x
  | []=>rfl
  | p::r=>by
    have ih:=yf9 k j y r
    rw[aJ]
    by_cases h:p.1=k
    . rw[if_pos h]
      by_cases e:p.1=j
      . rw[b9 (p:=(p.1,y)) e,b9 e,cJ,if_pos (e.symm.trans h)]
      . rw[c6 (p:=(p.1,y)) e,c6 e,ih]
    . rw[if_neg h]
      by_cases e:p.1=j
      . rw[b9 (p:=p) e,b9 e,cJ,if_neg (λz=>h (e.trans z))]
      . rw[c6 (p:=p) e,c6 e,ih]
theorem zs5 (k j : κ)(y : V) : ∀kvs : List (κ×V), X1 kvs k = none -> X1 (kvs ++ [(k, y)]) j = if j = k then some y else X1 kvs j
  | [],_=>by
    by_cases e:k=j
    . rw[if_pos e.symm];exact b9 (p:=(k,y)) e
    . rw[if_neg (λz=>e z.symm)];exact c6 (p:=(k,y)) e
  | p::r,hn=>by
    rw[fU]
    have hk:¬p.1=k:=λz=>by rw[b9 z]at hn;cases hn
    rw[c6 hk]at hn
    have ih:=zs5 k j y r hn
    by_cases e:p.1=j
    . rw[b9 e,b9 e,if_neg (λz=>hk (e.trans z))]
    . rw[c6 e,c6 e,ih]
theorem zn1 (kvs:List (κ×V))(k j:κ)(y:V):X1 (putK kvs k y) j=if j=k then some y else X1 kvs j:=by
  unfold putK;by_cases a:(kvs.any λc=>decide (c.1=k))=true
  . rw[if_pos a, yf9];rw[M9]at a;by_cases e:j=k
    . obtain⟨x, b⟩ := dR.mp a;rw[if_pos e,e,b,cJ,if_pos rfl]
    . rw[if_neg e]
      cases X1 kvs j with
      | none=>rfl
      | some x=>rw[cJ,if_neg e]
  . rw[if_neg a];refine zs5 k j y kvs ?_;rw[M9]at a
    cases q:X1 kvs k with
    | none=>rfl
    | some x=>rw[q]at a;exact(a rfl).elim
theorem W7 (kvs:List (κ×V))(k:κ)(v:V):(putK kvs k v).length<=kvs.length+1:=by
  unfold putK;split
  . rw[aa];lia
  . rw[ag,aC,bV];lia
theorem D9.isSome_eq {o:Option V}{u:Option Value}(r:D9 o u):o.isSome=u.isSome:=by
  cases o with
  | none=>cases u with
    | none=>rfl
    | some _=>exact(show False from r).elim
  | some _=>cases u with
    | none=>exact(show False from r).elim
    | some _=>rfl
theorem KV.val {kvs:List (κ×V)}{vs:List (κ×Value)}(r:KV kvs vs)(k:κ):D9 (X1 kvs k) (valueAt vs k):=by
  unfold KV at r
  induction r with
  | nil=>exact True.intro
  | @cons p q ps qs h t ih =>
    obtain⟨h1,h2⟩:=h;by_cases e:p.1=k
    . have a : q.1 = k := h1.symm.trans e;have b:valueAt (q::qs) k=some q.2:=by simp[valueAt,dw,a]
      rw[b9 e,b];exact h2
    . have a : ¬q.1 = k := λz => e (h1.trans z);have b:valueAt (q::qs) k=valueAt qs k:=by simp[valueAt,dw,a]
      rw[c6 e,b];exact ih
theorem KV.any {kvs:List (κ×V)}{vs:List (κ×Value)}(r:KV kvs vs)(k:κ):(kvs.any λkv=>decide (kv.1=k))=vs.any λkv=>decide (kv.1=k):=by
  unfold KV at r
  induction r with
  | nil=>rfl
  | cons h t ih=>rw[dZ,dZ,ih,h.1]
theorem KV.repl {kvs : List (κ×V)}{vs : List (κ×Value)}(r : KV kvs vs)(k : κ){y : V}{u : Value}(a : o5 y u) :
    KV (kvs.map λkv=>if kv.1=k then(kv.1,y) else kv) (vs.map λkv=>if kv.1=k then(kv.1,u) else kv):=by
  unfold KV at r ⊢
  induction r with
  | nil=>exact .nil
  | @cons p q ps qs h t ih =>
    rw[aJ,aJ];refine .cons ?_ ih;obtain⟨h1,h2⟩:=h;by_cases e:p.1=k
    . rw[if_pos e,if_pos (h1.symm.trans e)];exact⟨h1,a⟩
    . rw[if_neg e,if_neg (λz=>e (h1.trans z))];exact⟨h1,h2⟩
theorem KV.put {kvs:List (κ×V)}{vs:List (κ×Value)}(r:KV kvs vs)(k:κ){y:V}{u:Value}(a:o5 y u):KV (putK kvs k y) (stored vs k u):=by
  unfold putK stored;rw[r.any k];by_cases e:(vs.any λb=>decide (b.1=k))=true
  . rw[if_pos e,if_pos e];exact r.repl k a
  . rw[if_neg e,if_neg e];exact Paired.snoc r ⟨rfl,a⟩
theorem KV.length {kvs:List (κ×V)}{vs:List (κ×Value)}(r:KV kvs vs):kvs.length=vs.length:=Paired.length r
end
theorem zr0 {P:gq}{w:gv}{k:Key}{u:Value}(r:o5 (kV k) u):(d9 P w).is k u=true:=by
  cases k with
  | inl i=>obtain⟨t,e⟩:=(show ∃t,u=Value.int i t from r);subst e;exact yb7 P w i t
  | inr x=>obtain⟨t,e⟩:=(show ∃t,u=Value.str x t from r);subst e;exact yb8 P w x t
theorem zc5 {P : gq}{w : gv} : ∀{ks : List Key} {us : List Value}, o0 (ks.map kV) us -> ItemsAre (d9 P w) ks us
  | [],_,r=>by rw[eB]at r;cases r;exact .nil
  | k::ks,_,r=>by
    rw[aJ]at r
    cases r with
    | cons h t=>exact .cons (zr0 h) (zc5 t)
abbrev KT (H:Hp):List (List Key×V)->List (List Key×Addr×Value)->Prop:=Paired λp q=>p.1=q.1/\H q.2.1=some (.tup (p.1.map kV))/\o5 p.2 q.2.2
theorem KT.val {H:Hp}{kvs:List (List Key×V)}{xs:List (List Key×Addr×Value)}(r:KT H kvs xs)(k:List Key):D9 (X1 kvs k) ((atKey xs k).map (·.2)):=by
  induction r with
  | nil=>exact True.intro
  | @cons p q ps qs h t ih =>
    obtain⟨h1,_,h2⟩:=h;by_cases e:p.1=k
    . have a : q.1 = k := h1.symm.trans e;have b:atKey (q::qs) k=some q.2:=by simp[atKey,dw,a]
      rw[b9 e,b];exact h2
    . have a : ¬q.1 = k := λz => e (h1.trans z);have b:atKey (q::qs) k=atKey qs k:=by simp[atKey,dw,a]
      rw[c6 e,b];exact ih
theorem KT.repl {H : Hp}{kvs : List (List Key×V)}{xs : List (List Key×Addr×Value)}(r : KT H kvs xs)(k : List Key){y : V}{u : Value}(b : o5 y u) :
    KT H (kvs.map λkv=>if kv.1=k then(kv.1,y) else kv) (xs.map (putAt k u)):=by
  induction r with
  | nil=>exact .nil
  | @cons p q ps qs h t ih =>
    rw[aJ,aJ];refine .cons ?_ ih;obtain⟨h1,h2,a⟩:=h;unfold putAt;by_cases e:p.1=k
    . rw[if_pos e,if_pos (h1.symm.trans e)];exact⟨h1,h2,b⟩
    . rw[if_neg e,if_neg (λz=>e (h1.trans z))];exact⟨h1,h2,a⟩
theorem KT.put {H : Hp}{kvs : List (List Key×V)}{xs : List (List Key×Addr×Value)}(r : KT H kvs xs)(k : List Key){b : Addr}{y : V}{u : Value}(hb : H b = some (.tup (k.map kV)))(a : o5 y u) :
    KT H (putK kvs k y) (storedH xs k b u):=by
  have e:(kvs.any λc=>decide (c.1=k))=(atKey xs k).isSome:=by
    rw[M9,(r.val k).isSome_eq,eP]
  unfold putK storedH;rw[e];by_cases q:(atKey xs k).isSome=true
  . rw[if_pos q,if_pos q];exact r.repl k a
  . rw[if_neg q,if_neg q];exact Paired.snoc r ⟨rfl,hb,a⟩
theorem KT.keeps {H H':Hp}{kvs:List (List Key×V)}{xs:List (List Key×Addr×Value)}(r:KT H kvs xs)(ht:∀b ys,H b=some (.tup ys)->H' b=some (.tup ys)):KT H' kvs xs :=
  Paired.mapP r λ_ _ z=>⟨z.1,ht _ _ z.2.1,z.2.2⟩
section
variable {P:gq}{w:gv}{H:Hp}{h:Heap}{a:Addr}
theorem xk9 {u:HO}(ok:HOk P w H h)(e:Rd H a u):k8 P w H h a u:=e.ok ok
theorem zq6 {kvs:List (Key×V)}(ok:HOk P w H h)(e:Rd H a (.dK kvs)):kvs.length<=gn/\(a==sysModules)=false/\∃vs,KV kvs vs/\h.DictOf (d9 P w) a vs :=
  show k8 P w H h a (.dK kvs) from xk9 ok e
theorem yw6 {kvs:List (Key×V)}(ok:HOk P w H h)(e:H a=some (.dK kvs)):kvs.length<=gn/\(a==sysModules)=false/\∃vs,KV kvs vs/\h.DictOf (d9 P w) a vs:=zq6 ok (.inl e)
theorem zj3 {ks:List Key}(ok:HOk P w H h)(e:H a=some (.tup (ks.map kV))):(tupleKind (d9 P w)).is h ks a:=by
  obtain⟨_,b,r,o,h1,h2,n,c⟩:=(show k8 P w H h a (.tup (ks.map kV)) from ok a _ e);exact⟨o,b.toArray,n,h1,h2,c.1,by simpa using zc5 r⟩
theorem zz9 {kvs:List (List Key×V)}(ok:HOk P w H h)(e:Rd H a (.dT kvs)):kvs.length<=gn/\(a==sysModules)=false /\
    ∃xs,KT H kvs xs/\h.DictOfH (tupleKind (d9 P w)) a xs:=by
  obtain⟨z,y,xs,r,o,es,c,h1,h2,d,f,g⟩:=(show k8 P w H h a (.dT kvs) from xk9 ok e);refine⟨z,y,xs,r,o,es,c,h1,h2,d,f,λx b=>?_,g⟩;have all:∀{l:List (List Key×V)} {m:List (List Key×Addr×Value)},KT H l m->∀x∈m,(tupleKind (d9 P w)).is h x.1 x.2.1:=by
    intro l m q
    induction q with
    | nil=>intro x b;exact nomatch b
    | @cons p q ps qs hq t ih =>
      intro x b;rcases ay.mp b with e|b
      . subst e;exact zj3 ok (by rw[←hq.1];exact hq.2.1)
      . exact ih x b
  exact all r x b
theorem xt0 {kvs:List (List Key×V)}(ok:HOk P w H h)(e:H a=some (.dT kvs)):kvs.length<=gn/\(a==sysModules)=false /\
    ∃xs,KT H kvs xs/\h.DictOfH (tupleKind (d9 P w)) a xs:=zz9 ok (.inl e)
end
def W9 (H:Hp)(a:Addr)(y:V)(r:Option V):Prop :=
  (∃kvs k,Rd H a (.dK kvs)/\y=kV k/\r=X1 kvs k)∨∃kvs k b,Rd H a (.dT kvs)/\y=.ref b/\H b=some (.tup (k.map kV))/\r=X1 kvs k
def zg7 (H:Hp)(a:Addr)(y v:V)(H':Hp):Prop :=
  (∃kvs k,H a=some (.dK kvs)/\y=kV k/\kvs.length<gn/\H'=upd H a (.dK (putK kvs k v))) ∨
  ∃kvs k b,H a=some (.dT kvs)/\y=.ref b/\H b=some (.tup (k.map kV))/\kvs.length<gn/\H'=upd H a (.dT (putK kvs k v))
theorem W9.k {H:Hp}{a:Addr}{kvs:List (Key×V)}{k:Key}(e:H a=some (.dK kvs)):W9 H a (kV k) (X1 kvs k):=.inl ⟨kvs,k,.inl e,rfl,rfl⟩
theorem zg7.k {H:Hp}{a:Addr}{kvs:List (Key×V)}{k:Key}{v:V}(e:H a=some (.dK kvs))(hl:kvs.length<gn):zg7 H a (kV k) v (upd H a (.dK (putK kvs k v))):=.inl ⟨kvs,k,e,rfl,hl,rfl⟩
section
variable {X:Cx}{pins:List (Addr×Obj)}{σ:St}{H:Hp}{s:gh}{a:Addr}{y v:V}{u r:Value}{o:Option V}{A:gw}{E:Value->gh->Prop}
theorem Inv.big (I:Inv X pins σ H s):sysModules<s.heap.objs.size:=by
  have h:mainGlobals<s.heap.objs.size:=(I.mod.glob.keeps I.bk).lt;exact eD (by decide) h
theorem yr1 {Q : Value -> gh -> Prop}(B : A.units+1<cLine)(I : Inv X pins σ H s)(g : W9 H a y (some v))(q : o5 y u)(h : ∀f s', Inv X pins σ H s' -> o5 v f -> Q f s') :
    gr (gu X.prog X.w) A (getItem (.ref a) u) Q E s:=by
  rcases g with⟨kvs,k,e,j,l⟩|⟨kvs,k,b,e,j,r,l⟩
  . subst j;obtain⟨z,t,C,c,i⟩:=zq6 I.hok e;obtain⟨f,n,d⟩:=D9.some_of (v:=v) (o:=valueAt C k) (by rw[l];exact c.val k);exact wpAny_getItem_of (zr0 q) i.mapOf n (h f _ (I.tok _) d)
  . subst j
    cases (show u=Value.ref b from q)
    obtain⟨z,t,xs,c,i⟩:=zz9 I.hok e;obtain⟨f,n,d⟩:=D9.some_of (v:=v) (o:=(atKey xs k).map (·.2)) (by rw[l];exact c.val k);obtain⟨p,x,m⟩:=ft.mp n;refine wpAny_getItem_heap (tupleKind_room_in1 B) (zj3 I.hok r) i x ?_;rw[m];exact h f _ (I.tok _) d
theorem xw6 {Q : Value -> gh -> Prop}(n : A.units+1<cLine)(I : Inv X pins σ H s)(g : W9 H a y o)(j : o5 y u)(h : ∀s', Inv X pins σ H s' -> Q (.bool o.isSome) s') :
    gr (gu X.prog X.w) A (compareOp .In u (.ref a)) Q E s:=by
  rcases g with⟨kvs,k,e,f,l⟩|⟨kvs,k,b,e,f,m,l⟩
  . subst f;obtain⟨z,i,p,c,d⟩:=zq6 I.hok e;refine wpAny_in_of (zr0 j) i d.mapOf ?_;rw[←(c.val k).isSome_eq,←l];exact h _ (I.tok _)
  . subst f
    cases (show u=Value.ref b from j)
    obtain⟨z,i,xs,c,d⟩:=zz9 I.hok e;refine wpAny_in_heap (tupleKind_room_in1 n) (zj3 I.hok m) i d ?_;have q:=(c.val k).isSome_eq;rw[eP]at q;rw[←q,←l];exact h _ (I.tok _)
theorem xf4 {Q : Value -> gh -> Prop}(n : A.units+1<cLine)(I : Inv X pins σ H s)(g : W9 H a y o)(j : o5 y u)(h : ∀s', Inv X pins σ H s' -> Q (.bool (!o.isSome)) s') :
    gr (gu X.prog X.w) A (compareOp .NotIn u (.ref a)) Q E s:=by
  rcases g with⟨kvs,k,e,f,l⟩|⟨kvs,k,b,e,f,m,l⟩
  . subst f;obtain⟨z,i,p,c,d⟩:=zq6 I.hok e;refine wpAny_notIn_of (zr0 j) i d.mapOf ?_;rw[←(c.val k).isSome_eq,←l];exact h _ (I.tok _)
  . subst f
    cases (show u=Value.ref b from j)
    obtain⟨z,i,xs,c,d⟩:=zz9 I.hok e;refine wpAny_notIn_heap (tupleKind_room_in1 n) (zj3 I.hok m) i d ?_;have q:=(c.val k).isSome_eq;rw[eP]at q;rw[←q,←l];exact h _ (I.tok _)
theorem zt8 {h' : Heap}{t' : Nat}{ob : HO}(I : Inv X pins σ H s)(mu : Mut (H a))(hs : Heap.SameBut a s.heap h')(he : ∃q, h'.get? a = some q)(new : k8 X.prog X.w (upd H a ob) h' a ob) :
    Inv X pins σ (upd H a ob) { s with heap:=h',toks:=t' } :=
  I.write (x:=a) (e:=a) mu (.inl rfl) (λb q hb z=>(hs.2 b hb).trans z) he new
theorem yw5 {P : gq}{w : gv}{H' : Hp}{h' : Heap}{kvs : List (Key×V)}{vs : List (Key×Value)}(z : kvs.length <= gn)(hd : (a==sysModules) = false)(rel : KV kvs vs)(dd : h'.DictOf (d9 P w) a vs) :
    k8 P w H' h' a (.dK kvs):=⟨z,hd,vs,rel,dd⟩
theorem yr2 {H' : Hp}{Q : Unit -> gh -> Prop}(L : A.units+1<cLine)(I : Inv X pins σ H s)(g : zg7 H a y v H')(C : o5 y u)(B : o5 v r)(h : ∀s', Inv X pins σ H' s' -> Q () s') :
    gr (gu X.prog X.w) A (setItem (.ref a) u r) Q E s:=by
  rcases g with⟨kvs,k,e,n,l,m⟩|⟨kvs,k,b,e,n,t,l,m⟩
  . subst n m;obtain⟨z,o,M,d,j⟩:=yw6 I.hok e;have p:M.length<=gn:=by rw[←d.length];exact z
    have hl:(putK kvs k v).length<=gn:=by have:=W7 kvs k v;lia
    refine wpAny_setItem_pairs (hsz:=p) (zr0 C) j λh' f hs=>h _ ?_;have K:∃q,h'.get? a=some q:=let ⟨q,_,_,i,_⟩:=f;⟨q,i⟩;exact zt8 I (by rw[e];exact True.intro) hs K (yw5 hl o (d.put k B) f)
  . subst n m
    cases (show u=Value.ref b from C)
    obtain⟨z,o,xs,d,j⟩:=xt0 I.hok e;have p:xs.length<=gn:=by rw[←Paired.length d];exact z
    have hl:(putK kvs k v).length<=gn:=by have:=W7 kvs k v;lia
    refine wpAny_setItem_heap (hsz:=p) (tupleKind_room_in1 L) (zj3 I.hok t) j λh' f hs=>h _ ?_;obtain⟨q,es,D,i,h2,F,G,_,J⟩:=f;refine zt8 I (by rw[e];exact True.intro) hs ⟨q,i⟩ ⟨hl,o,_,(d.put k t B).keeps λc ys x=>?_,q,es,D,i,h2,F,G,J⟩;rw[y0 (l4 x e (λz=>nomatch z))];exact x
end
section
variable {X:Cx}{pins:List (Addr×Obj)}{σ:St}{H:Hp}{s:gh}{a:Addr}{kvs:List (Key×V)}{k:Key}{u:Value}{A:gw}{E:Value->gh->Prop}
theorem xs9 {Q:Value->gh->Prop}(I:Inv X pins σ H s)(e:Rd H a (.dK kvs))(h:∀t s',Inv X pins σ H s'->Q (.int kvs.length t) s'):gr (gu X.prog X.w) A (call (.builtin "len") [.ref a]) Q E s:=by
  obtain⟨z,d,f,b,c⟩:=zq6 I.hok e;refine call_len_dict d c (by rw[←b.length];rw[sizeLine_eq]at z;lia) ?_;rw[←b.length];exact h _ _ (I.tok _)
end
def xr9 (i:Expr):Prop:=∀ov iv,subscripted i false ov iv=operate [ov,iv] (getItem ov iv)
theorem xj2 {prog : gq}{w : gv}{A : gw}{E : Value -> gh -> Prop}{s : gh}{b : Env}{value a : Expr}{pos : Pos}{T id : String}{Q : Value -> gh -> Prop}
    (hl:typeLookup (.type T) "__getitem__"=pure (some (.builtin id))) (hs:xr9 a)
    (h:gr (gu prog w) A (eval value b) (λo f=>gr (gu prog w) A (eval a b) (λi d=>d.TypeIs o T/\gr (gu prog w) A (getItem o i) Q E d) E f) E s) :
    gr (gu prog w) A (eval (.Subscript value a pos) b) Q E s:=by
  refine Subscript_ (gz h (λo f j=>gz j (λi d e=>?_) λ_ _ x=>x) λ_ _ x=>x);obtain⟨hT,e⟩:=e;unfold subscriptTail;refine gg ?_;rw[getitemInPython_of_ne hT.not_modules];refine gg (wpAny_specialOf hT hl ?_);have c:gr (gu prog w) A (subscripted a false o i) (λr g=>gr (gu prog w) A (letTemporaryGo value o r >>= λ_=>pure r) Q E g) E d:=by
    rw[hs o i];exact wpAny_operating (gz e (λr g k=>gg (wpAny_letTemporaryGo (gl k))) λ_ _ x=>x)
  first
    | exact gl (gg c)
    | exact gg (gl (gg c))
    | exact gg c
theorem zz6 {X:Cx}{pins:List (Addr×Obj)}{σ:St}{H:Hp}{s:gh}{a:Addr}{y:V}{o:Option V}(I:Inv X pins σ H s)(g:W9 H a y o):s.TypeIs (.ref a) "dict":=by
  rcases g with⟨kvs,k,e,_,_⟩|⟨kvs,k,b,e,_,_,_⟩
  . obtain⟨_, _, d, _, c⟩ := zq6 I.hok e;exact c.typeIs
  . obtain⟨_, _, xs, _, c⟩ := zz9 I.hok e;exact c.typeIs
def xv3 (td ty:TE):TE:=λσ H Q=>td σ H λx H1=>ty σ H1 λy H2=>∃a v,x=.ref a/\W9 H2 a y (some v)/\Q v H2
def xx9 (ty td:TE):TE:=λσ H Q=>ty σ H λy H1=>td σ H1 λx H2=>∃a o,x=.ref a/\W9 H2 a y o/\Q (.bl o.isSome) H2
def xj6 (ty td:TE):TE:=λσ H Q=>ty σ H λy H1=>td σ H1 λx H2=>∃a o,x=.ref a/\W9 H2 a y o/\Q (.bl (!o.isSome)) H2
def xu8 (td ty tv:TE):TS:=λD σ H=>tv σ H λv H1=>td σ H1 λx H2=>ty σ H2 λy H3=>∃a H4,x=.ref a/\zg7 H3 a y v H4/\D.nx σ H4
section
variable {X:Cx}{o i e value:Expr}{pos pos' tpos:Pos}{td ty tv:TE}
theorem Y5 (j:X.A.units+1<cLine)(f:PE X o td)(hi:PE X i ty)(hs:xr9 i):PE X (.Subscript o i pos) (xv3 td ty):=by
  intro pins s σ H Q I h;refine xj2 PySem.F.slot_dict_getitem.lookup hs (thn (f pins s σ H _ I h) λu p ⟨x,H1,d,m,k⟩=>thn (hi pins p σ H1 _ d k) λq r ⟨y,H2,c,n,a,v,ex,g,l⟩=>?_);subst ex;obtain rfl:u=Value.ref a:=m;exact⟨zz6 c g,yr1 j c g n λw t e b=>⟨v,H2,e,b,l⟩⟩
theorem xp5 (f:X.A.units+1<cLine)(hi:PE X i ty)(e:PE X o td):PC X .In i o (xx9 ty td):=by
  intro pins s σ H Q I h;refine thn (hi pins s σ H _ I h) λq p ⟨y,H1,b,n,k⟩=>thn (e pins p σ H1 _ b k) λu r ⟨x,H2,c,m,a,j,ex,g,l⟩=>?_;subst ex;obtain rfl:u=Value.ref a:=m;exact xw6 f c g n λt d=>⟨.bl j.isSome,H2,d,rfl,l⟩
theorem M6 (f:X.A.units+1<cLine)(hi:PE X i ty)(e:PE X o td):PC X .NotIn i o (xj6 ty td):=by
  intro pins s σ H Q I h;refine thn (hi pins s σ H _ I h) λq p ⟨y,H1,b,n,k⟩=>thn (e pins p σ H1 _ b k) λu r ⟨x,H2,c,m,a,j,ex,g,l⟩=>?_;subst ex;obtain rfl:u=Value.ref a:=m;exact xf4 f c g n λt d=>⟨.bl (!j.isSome),H2,d,rfl,l⟩
theorem K5 (k : X.A.units+1<cLine)(j : PE X o td)(hi : PE X i ty)(l : PE X value tv)(hs : swapsWith value (some (.Subscript o i pos')) pos.line X.env = pure false) :
    PS X (.Assign [.Subscript o i pos'] value pos) (xu8 td ty tv):=by
  intro pins s σ H D I h;refine wpAny_Assign_Subscript (thn (l pins s σ H _ I h) λr z ⟨v,H1,c,q,m⟩=>thn (j pins z σ H1 _ c m) λu B ⟨x,H2,d,t,n⟩=>thn (hi pins B σ H2 _ d n) λE F ⟨y,C,e,w,a,b,ex,g,p⟩=>?_) hs;subst ex;obtain rfl:u=Value.ref a:=t;exact yr2 k e g w q λG f=>⟨σ,b,f,p⟩
end
theorem zz7 {P:gq}{w:gv}{H:Hp}(h:Heap)(hb:sysModules<h.objs.size):k8 P w H (h.push { cls:=.type "dict",data:=.dict #[] }) h.objs.size (.dK []) :=
  ⟨aY _,beq_eq_false_iff_ne.mpr (Ne.symm (aP hb)),[],.nil,Heap.DictOf.new h⟩
def xr1:TE:=λ_ H Q=>∀p,H p=none->Q (.ref p) (upd H p (.dK []))
section
variable {X:Cx}{pos:Pos}
theorem E1:PE X (.Dict [] [] pos) xr1:=λpins s σ H Q I h =>
  wpAny_Dict_empty ⟨.ref s.heap.objs.size,_,I.laid (a:=s.heap.objs.size) (o:=.dK []) (t':=s.toks) (λ_ _ q=>au _ q) (aq _) (zz7 s.heap I.big),rfl,h _ (I.hok.fresh (aq _))⟩
end
def yj9 : List (TE×TE) -> St -> Hp -> (List (V×V) -> Hp -> Prop) -> Prop
  | [],_,H,Q=>Q [] H
  | (tk,tv)::r,σ,H,Q=>tk σ H λx H1=>tv σ H1 λy H2=>yj9 r σ H2 λps H3=>Q ((x,y)::ps) H3
abbrev VV:List (V×V)->List (Value×Value)->Prop:=Paired λp q=>o5 p.1 q.1/\o5 p.2 q.2
def PPs (X:Cx)(pos:Pos)(keys:List (Option Expr))(values:List Expr)(trs:List (TE×TE)):Prop :=
  ∀(pins:List (Addr×Obj)) (s:gh) (σ:St) (H:Hp) (Q:List (V×V)->Hp->Prop),Inv X pins σ H s->yj9 trs σ H Q ->
    gr (gu X.prog X.w) X.A (evalPairs (pairTrees keys values X.env pos)) (λvs s'=>∃ps H',Inv X pins σ H' s'/\VV ps vs/\Q ps H') X.xe s
theorem zx3 {X:Cx}{pos:Pos}:PPs X pos [] [] []:=λpins s σ H Q I h=>pairTrees_nil_walk ⟨[],H,I,.nil,h⟩
theorem zl3 {X : Cx}{pos : Pos}{k v : Expr}{ks : List (Option Expr)}{vs : List Expr}{tk tv : TE}{trs : List (TE×TE)}(hk : PE X k tk)(hv : PE X v tv)(hr : PPs X pos ks vs trs) :
    PPs X pos (some k::ks) (v::vs) ((tk,tv)::trs):=λpins s σ H Q I h =>
  pairTrees_cons_walk (thn (hk pins s σ H _ I h) λu s1 ⟨x,H1,I1,rx,q1⟩=>thn (hv pins s1 σ H1 _ I1 q1) λw2 s2 ⟨y,H2,I2,ry,q2⟩ =>
    thn (hr pins s2 σ H2 _ I2 q2) λws s3 ⟨ps,H3,I3,rel,q3⟩=>⟨(x,y)::ps,H3,I3,.cons ⟨rx,ry⟩ rel,q3⟩)
def W5 (kvs more:List (Key×V)):List (Key×V):=more.foldl (λacc kv=>putK acc kv.1 kv.2) kvs
theorem KV.merge:∀{more:List (Key×V)} {b:List (Key×Value)} {kvs:List (Key×V)} {a:List (Key×Value)},KV more b->KV kvs a->KV (W5 kvs more) (merged a b):=by
  intro more b kvs a r;unfold KV at r
  induction r generalizing kvs a with
  | nil=>intro q;exact q
  | @cons p q ps qs h t ih =>
    intro c;have e:KV (putK kvs p.1 p.2) (stored a q.1 q.2):=by
      have:=c.put p.1 h.2;rw[←h.1];exact this
    exact ih e
theorem C1 : ∀(more kvs : List (Key×V)), (W5 kvs more).length <= kvs.length+more.length
  | [],kvs=>by show kvs.length<=kvs.length+0;lia
  | p::r,kvs=>by
    have h1:=C1 r (putK kvs p.1 p.2)
    have h2:=W7 kvs p.1 p.2
    show(W5 (putK kvs p.1 p.2) r).length<=_
    rw[aC];lia
theorem zh8 {P : gq}{w : gv} : ∀{kvs : List (Key×V)} {ws : List (Value×Value)}, VV (kvs.map λkv => (kV kv.1, kv.2)) ws -> ∃rs, Carries (d9 P w) ws rs /\ KV kvs rs
  | [],_,r=>by rw[eB]at r;cases r;exact⟨[],True.intro,.nil⟩
  | p::kvs,_,r=>by
    rw[aJ]at r
    cases r with
    | @cons a b as bs h t =>
      obtain⟨rs,c,q⟩:=zh8 (P:=P) (w:=w) t
      obtain⟨b1,b2⟩:=b
      exact⟨(p.1,b2)::rs,⟨zr0 h.1,rfl,c⟩,.cons ⟨rfl,h.2⟩ q⟩
def xv4 (trs:List (TE×TE)):TE:=λσ H Q=>∀p,H p=none->yj9 trs σ (upd H p (.dK [])) λps H2=>H2 p=some (.dK [])/\∃kvs:List (Key×V),ps=kvs.map (λkv=>(kV kv.1,kv.2))/\kvs.length<=15/\Q (.ref p) (upd H2 p (.dK (W5 [] kvs)))
theorem zw7 {X : Cx}{pos : Pos}{b : List (Option Expr)}{d : List Expr}{i : List (TE×TE)}(h : PPs X pos b d i)(g : b.all (·.isSome) = true)(hl : b.length = d.length)(r : b ≠ [])
    (j:b.length<=15):PE X (.Dict b d pos) (xv4 i):=by
  intro pins s σ H Q I q;have v:=I.hok.fresh (aq s.heap.objs.size);have m:=I.laid (a:=s.heap.objs.size) (o:=.dK []) (h':=s.heap.push { cls:=.type "dict",data:=.dict #[] }) (t':=s.toks) (λ_ _ q=>au _ q) (aq _) (zz7 s.heap I.big);refine wpAny_Dict_walk (knd:=d9 X.prog X.w) g hl r j (thn (h pins _ σ _ _ m (q _ v)) λG F ⟨ps,H2,l,k,e,kvs,p,E,y⟩=>?_);subst p;obtain⟨C,c,B⟩:=zh8 (P:=X.prog) (w:=X.w) k;obtain⟨z,t,D,A,n⟩:=yw6 l.hok e
  cases A
  refine⟨C,c,n,λh' f hs=>⟨.ref s.heap.objs.size,_,?_,rfl,y⟩⟩;have x:(W5 [] kvs).length<=gn:=by
    have h1:=C1 kvs [];rw[bV]at h1;rw[sizeLine_eq];lia
  have u:∃q,h'.get? s.heap.objs.size=some q:=let ⟨q,_,_,hq,_⟩:=f;⟨q,hq⟩;exact zt8 l (by rw[e];exact True.intro) hs u (yw5 x t (B.merge .nil) f)
end L2
namespace Att
open PySem PySem.W PySem.Calls PyProof.Rows
theorem zf6 {P:Params}{h:Heap}:∀(c:List Int) (d:List Value),WellAll P h d (c.map WData.int)->IntsAre d c:=by
  intro c
  induction c with
  | nil =>
    intro d w;rw[eB]at w
    cases w
    exact .nil
  | cons n c ih =>
    intro d w;rw[aJ]at w
    cases w with
    | cons a b =>
      cases a
      exact .cons _ _ (ih _ b)
theorem yt8 {l : OpenLaw}{n : Nat}(o : l.most = some n){P : Params}{h : Heap}{args : List WData}{c : List Value}
    (b:l.row.toRowW.claim.pre args=true) (j:WellAll P h c args) :
    ∃a vs ns,c=[Value.ref a]/\args=[WData.list (ns.map WData.int)]/\h.get? a=some { cls:=.type "list",data:=.seq vs.toArray }/\IntsAre vs ns/\ns.length<=n:=by
  have i:WShape.hasAll [] args [.list .int]=true:=(pre_splitW b).1;have k:l.pre.holds [] { args:=args }=true:=(pre_splitW b).2;obtain⟨d,r,rfl,h1,h2⟩:=hasAllW_cons i;obtain rfl:=hasAllW_nil h2;obtain⟨xs,rfl,m⟩:=hasW_list h1;obtain⟨ns,rfl⟩:=items_int m;have e:ns.length<=n:=by
    unfold OpenLaw.pre at k;have f:(WTm.not (.lt (.lit (.int n)) (.len (.arg 0)))).holds [] { args:=[.list (ns.map .int)] }=true:=by
      have f:=(holds_andW k).1;rw[o]at f;exact f
    have g:=condW_of f (w_not (w_lt w_lit (w_len_list (w_arg rfl))));rw[aa]at g;refine bE λq=>?_;have p:(n:Int)<((ns.length:Nat):Int):=by lia
    first
      | (rw[decide_eq_true p]at g;exact absurd g (by decide))
      | (simp at g;lia)
  cases j with
  | cons w1 w2 =>
    cases w2
    cases w1 with
    | list ho hall=>exact⟨_,_,ns,rfl,rfl,ho,zf6 ns _ hall,e⟩
theorem yt2 (l:OpenLaw)(args:List WData):l.row.toRowW.claim.post args (.bool true) args=true :=
  postW_of (r := l.row.toRowW) (X := (true==true))
    (show WShape.has [] (.bool true) .bool=true by first|rfl|decide|simp[WShape.has,WShape.arms,WShape.armsAll])
    (show(WTm.eq .res (.lit (.bool true))).value [] { args:=args,res:=some (.bool true),after:=args }=some (.bool (true==true)) from w_eq_bool (w_res rfl) w_lit) rfl
end Att
namespace L2
open PySem PySem.Spec PyProof.Rows
theorem ze1 : ∀{vs : List Value} {ns : List Int}, IntsAre vs ns -> o0 (ns.map V.int) vs
  | _,_,.nil=>.nil
  | _,_,.cons n t h=>.cons ⟨t,rfl⟩ (ze1 h)
def Only (H:Hp):Prop:=∀b,H b=none∨∃o xs,H b=some (.frz o (.lst xs))
theorem yz1 {P : gq}{w : gv}{K : W.Frag}{mg Q : Str -> Option Value}{CX : CXT}{k : Nat}{L a : Addr}{fd : gD}{x : Str}{sp : Sp}{c : gh}{vs : List Value}{E : List Int}
    (S:K.In c.heap) (A:c.heap.Ns mainGlobals mg) (hb:c.heap.Ns builtinsNs Q) (N:∀x:Str,x≠"__name__"->Q x=gB x) (y:c.heap.NoLimit) (hg:c.gens=#[])
    (I:c.heap.get? a=some { cls:=.type "list",data:=.seq vs.toArray }) (hi:IntsAre vs E) (hl:E.length<=gn) (hr:V0 k callerA)
    (F:∀base:Heap,K.In base->base.Ns mainGlobals mg->o8 P w K mg base CX k L fd [x] sp) (j:∀(s:gh) (u:Value),BindsTo s fd ⟨[u],[]⟩ [(x,u)])
    (O:∀H:Hp,Only H->SqL K H a (E.map V.int)->sp [.ref a] H (λv _=>v=.bl true) λ_ _ _=>False)
    (M:∀H e s',CX [] H c (λ_ _ _=>False) e s'->False) :
    codeAny (gu P w) callerA (.call (.ref L) ⟨[.ref a],[]⟩) (λr s'=>r=.ok (.ret (.bool true))/\OldK c.heap s'.heap/\s'.os=c.os/\AllBare s'.gens) c:=by
  have Y:=ze1 hi
  have D:=hi.length
  have i:∀H:Hp,Only H->SqL K H a (E.map V.int)->HOk P w H c.heap->(∀b,H b≠none->b=a)->(H a≠none->K.lookup a=none) ->
      codeAny (gu P w) callerA (.call (.ref L) ⟨[.ref a],[]⟩) (λr s'=>r=.ok (.ret (.bool true))/\OldK c.heap s'.heap/\s'.os=c.os/\AllBare s'.gens) c:=by
    intro H X hS B U hK
    have f:∀{b:Addr} {o:Obj},c.heap.get? b=some o->H b=none->(zu5 c.heap H).get? b=some o:=λe n=>yy3 e n
    have R:∀{b:Addr} {o:Obj} {es:Array DictEntry} {p:Nat},c.heap.get? b=some o->o.data=.dict es p->H b=none:=λ{b o es p} e d=>by
      cases q:H b with
      | none=>rfl
      | some u =>
        have J:b=a:=U b (by rw[q];simp)
        subst J
        rw[I]at e;cases e
        have Z:Data.seq vs.toArray _=Data.dict es p:=d
        cases Z
    have g:∀{b:Addr} {m:Str->Option Value},c.heap.Ns b m->(zu5 c.heap H).Ns b m:=λ{b m} ⟨o,es,p,e,d,r⟩=>⟨o,es,p,f e (R e d),d,r⟩
    have t:K.In (zu5 c.heap H):=λb o e=>f (S b o e) (by
      cases q:H b with
      | none=>rfl
      | some u =>
        have J:b=a:=U b (by rw[q];simp)
        subst J
        rw[hK (by rw[q];simp)]at e;cases e)
    have hM:Mod K mg (zu5 c.heap H):=⟨t,g A,⟨Q,g hb,N⟩,let ⟨mc,h1,h2⟩:=y;⟨mc,g h1,h2⟩⟩
    have e0:yg1 P w K mg (zu5 c.heap H) callerA [] c H:=⟨rfl,hM,λb o e=>xh1 e,gb (yr7 _ _),trivial,λb hb=>absurd (show b∈([]:List Addr) from hb) (by simp),B,.of_eq hg⟩
    refine codeAny_mono ((F _ t (g A)).run callerA [] c H ⟨[.ref a],[]⟩ [.ref a] [.ref a] _ _ hr e0 (j c (.ref a)) (.cons rfl .nil) (O H X hS)) λr s' h=>?_
    cases r with
    | error e=>exact(M H e s' h).elim
    | ok fl =>
      cases fl with
      | next=>exact False.elim h
      | brk=>exact False.elim h
      | cont=>exact False.elim h
      | ret u =>
        obtain⟨v,H',os,l,un,C,r',q⟩:=h
        have q':v=.bl true:=q
        subst q'
        obtain rfl:u=Value.bool true:=r'
        refine⟨rfl,OldK.of_keep λb o e=>?_,os,l⟩
        cases q:H b with
        | none=>exact un.keep b o e q (by intro z;exact absurd (show b∈([]:List Addr) from z) (by simp)) (by simp)
        | some u =>
          rcases X b with z|⟨ob,xs,z⟩
          . rw[q]at z;cases z
          . have z2 := un.frzs b ob _ z
            obtain⟨T,_⟩:=B b _ z
            obtain⟨e2,_⟩:=C b _ z2
            rw[e]at T;cases T
            exact e2
  cases hk:K.lookup a with
  | some o =>
    have e:=S a o hk
    rw[I]at e
    cases e
    refine i (λ_=>none) (λ_=>.inl rfl) (.inr ⟨_,vs.toArray,_,hk,rfl,rfl,rfl,by rw[aB,D];exact hl,by simpa using Y⟩) (λb u z=>by have G:(none:Option HO)=some u:=z;cases G) (λb z=>absurd rfl z) λz=>absurd rfl z
  | none =>
    refine i (λb=>if b=a then some (.frz { cls:=.type "list",data:=.seq vs.toArray } (.lst (E.map V.int))) else none) (λb=>?_) (.inl (.inr ⟨{ cls:=.type "list",data:=.seq vs.toArray },if_pos rfl⟩)) (λb u z=>?_) (λb z=>?_) λ_=>hk
    . by_cases hb : b = a
      . exact .inr ⟨_,_,if_pos hb⟩
      . exact .inl (if_neg hb)
    . by_cases hb : b = a
      . have G := (if_pos hb).symm.trans z
        cases G
        subst hb
        exact⟨I,by rw[aa];exact hl,vs,_,Y,I⟩
      . have G := (if_neg hb).symm.trans z
        cases G
    . by_cases hb : b = a
      . exact hb
      . exact absurd (if_neg hb) z
end L2
namespace L2
open PySem PySem.Spec PyProof.Rows
def Q9 (s:Stmt):Arguments:=match s with
  | .FunctionDef _ a _ _ _ _ _ _ _ _=>a
  | _=>{ posonlyargs:=[],args:=[],vararg:=none,kwonlyargs:=[],kw_defaults:=[],kwarg:=none,defaults:=[] }
def T7 (s:Stmt):List Stmt:=match s with
  | .FunctionDef _ _ b _ _ _ _ _ _ _=>b
  | _=>[]
def x9 (s:Stmt):Scope:=match s with
  | .FunctionDef _ _ _ _ _ _ sc _ _ _=>sc
  | _=>{ kind:=.function,names:=[],isGenerator:=false,isCoroutine:=false }
abbrev CX0:CXT:=λ_ _ _ _ _ _=>False
abbrev E0:XK:=λ_ _ _=>False
theorem yn4 {X:Cx}:C7 CX0 X E0:=λ_ _ _ _ _ _ _ h=>h.elim
structure Fun (K:W.Frag) (x qual:Str) (st:Stmt) (f:Addr) (fd:gD):Prop where
  ex:∃(oc:Value) (od:Option Addr) (kV doc pm:Value) (an:Option Addr) (cdv ct:Value) (osl:Array (Option Value)),
    fd=W.fnOf x qual (Q9 st) (T7 st) (x9 st) .none kV doc pm an cdv ct/\K.lookup f=some ⟨oc,od,.func fd,osl⟩/\W.codeIn K cdv qual=true
  kp:W.keepIn K (.ref f)=true
section
variable {P:gq}{w:gv}{K:W.Frag}{mg:Str->Option Value}{base:Heap}
theorem Fun.ok {x b : Str}{st : Stmt}{f : Addr}{fd : gD}{N ps : List Str}{k : Nat}{sp : Sp}(F : Fun K x b st f fd)(S : u6 N ps (x9 st))(j : ∀e H Q E, sp e H Q E -> e.length = ps.length)
    (d:∀(c:Value) (A:gw) (a:List Env) (s:gh) (H:Hp) (e:List V) (Q:VK) (E:XK),V0 k (A.deeper (envOfC b (x9 st) s.heap.objs.size f c))->sp e H Q E ->
      ∃t,PSs (yr0 CX0 P w K mg base N b (x9 st) f c A a s H E).nox (T7 st) t/\t { nx:=λ_ H'=>Q .non H',rt:=Q } (start N e) H):o8 P w K mg base CX0 (k+1) f fd ps sp:=by
  obtain⟨oc,od,kV,l,pm,an,c,ct,o,rfl,n,g⟩:=F.ex;refine xt1 n g S j λA a s H e Q E m i=>?_;obtain⟨t,h,q⟩:=d c A a s H e Q E m i;exact⟨t,h.nox,q⟩
theorem Fun.binds {x a : Str}{st : Stmt}{f : Addr}{fd : gD}{ps : List Str}(F : Fun K x a st f fd)
    (h:∀(kV c pm:Value) (an:Option Addr) (b ct:Value) (us:List Value),us.length=ps.length->bindArgs (W.fnOf x a (Q9 st) (T7 st) (x9 st) .none kV c pm an b ct) ⟨us,[]⟩=pure (ps.zip us)):M3 K fd ps []:=by
  obtain⟨oc,od,kV,c,pm,an,b,ct,e,rfl,g,d⟩:=F.ex;exact .all (h kV c pm an b ct)
theorem zu0 {x qual : Str}{st : Stmt}{f : Addr}{oc : Value}{od an : Option Addr}{osl : Array (Option Value)}{kV doc pm cdv ct : Value}(l : K.lookup f = some ⟨oc, od, .func (W.fnOf x qual (Q9 st) (T7 st) (x9 st) .none kV doc pm an cdv ct), osl⟩)
    (c:W.codeIn K cdv qual=true) (k:W.keepIn K (.ref f)=true):Fun K x qual st f (W.fnOf x qual (Q9 st) (T7 st) (x9 st) .none kV doc pm an cdv ct):=⟨⟨oc,od,kV,doc,pm,an,cdv,ct,osl,rfl,l,c⟩,k⟩
end
theorem ym2 {A:gw}{k:Nat}(hr:V0 k A):A.units+1<cLine:=cq (Nat.add_le_add_left (by decide:1<=64) _) hr.units
theorem T5 {n:Nat}(h:n<=1000):n<gn:=cq h (by decide)
section
variable {X:Cx}
theorem pv (i : Nat){x : Str}{pos : Pos}(hN : X.N[i]? = some x := by rfl)(hv : Vis X.env.scope x := by first|exact Or.inl rfl|exact Or.inr (Or.inl rfl)|exact Or.inr (Or.inr rfl))(hd : (x==("__debug__" : Str)) = false := by decide)
    (hcd:(x==("__classdict__":Str))=false:=by decide):PE X (.Name x pos) (xv9 i):=xq3 hN hv hd hcd
end
theorem o9 {A B:Prop}(h:B):if false=true then A else B:=by
  rw[if_neg aH];exact h
theorem m7 {A B:Prop}(h:A):if true=true then A else B:=by
  rw[if_pos rfl];exact h
theorem xg6 {c A B:Prop}[Decidable c](h1:c->A)(h2:¬c->B):if c then A else B:=by
  by_cases h:c
  . rw[if_pos h];exact h1 h
  . rw[if_neg h];exact h2 h
def y8 (H H':Hp):Prop:=∀b o,H b=some o->H' b=some o
theorem y8.refl (H:Hp):y8 H H:=λ_ _ h=>h
theorem y8.trans {H H1 H2:Hp}(a:y8 H H1)(b:y8 H1 H2):y8 H H2:=λc o h=>b c o (a c o h)
theorem y8.free {H H':Hp}(e:y8 H H'){l:Addr}(h:H' l=Option.none):H l=Option.none:=by
  cases q:H l with
  | none=>rfl
  | some o =>
    rw[e l o q]at h
    cases h
theorem y8.seq {K:W.Frag}{H H':Hp}{a:Addr}{xs:List V}(e:y8 H H')(h:SqL K H a xs):SqL K H' a xs:=by
  rcases h with (h|⟨o,h⟩)|h
  . exact .inl (.inl (e _ _ h))
  . exact .inl (.inr ⟨o,e _ _ h⟩)
  . exact .inr h
section
variable {X:Cx}
theorem yq6:S6 X (.builtin "len") (λxs H Q=>∃a kvs,xs=[V.ref a]/\H a=some (.dK kvs)/\Q (.int kvs.length) H):=by
  intro pins s σ H xs e Q I r h;obtain⟨a,kvs,rfl,c,q⟩:=h;obtain⟨u,rfl,d⟩:=O9 r
  cases d
  exact xs9 I (.inl c) λt s' b=>⟨.int kvs.length,H,b,⟨t,rfl⟩,q⟩
end
end L2
set_option maxHeartbeats 4000000
namespace Att
open PySem PySem.W PySem.Calls PyProof.Rows
theorem yq3 {a:List Int}{z:Int}(h:(WData.list (a.map WData.int)).layable=true)(c:z∈a):Builtin.Int.intBits z<=2 ^ 20:=by
 have h1:=layableW_item h (WData.int z) (az.mpr ⟨z,c,rfl⟩);obtain⟨_,_,b⟩:=layableW_iff.mp h1;simpa only[WData.weight,Builtin.Int.intBits] using b
theorem attach_callB {l:OpenLaw}{n:Nat}{q:gq}{loose:List Str}{XP:(Str->Option Value)->Heap->Prop}{YP:gv->Heap->Prop}{d:DefRec}
  (L:l.most=some n) (u:d.params.defaults=[])
  (call:∀(w:gv) (A b:gh) (mg y:Str->Option Value) (j:Addr) (o:Obj) (pm cd c:Value) (a:Addr) (i:List Value) (h:List Int),
   Ground q loose [] XP w A mg y b.heap->YP w b.heap ->
   b.heap.get? j=some o->o.data=.func (docDef d.name d.params d.body d.scope pm cd c)->b.heap.CodeRec cd d.name->mg d.name=some (.ref j) ->
   b.heap.get? a=some { cls:=.type "list",data:=.seq i.toArray }->IntsAre i h->h.length<=n->(∀z∈h,Builtin.Int.intBits z<=2 ^ 20)->b.gens=#[] ->
   codeAny (gu l.prog w) callerA (.call (.ref j) ⟨[.ref a],[]⟩) (λr s'=>r=.ok (.ret (.bool true))/\OldK b.heap s'.heap/\s'.os=b.os/\AllBare s'.gens) b) :
  WalkO q loose XP YP l.row.toRowW d [] (λf i=>PySem.call f i):=by
 intro w A b mg y G Y j o pm cd c E kV M I t C v J B D Q s k O x K
 obtain rfl:E=.none:=Dflts.none C u
 obtain rfl:kV=.none:=Dflts.noKw C
 obtain⟨a,i,h,rfl,rfl,p,g,m⟩:=yt8 L s x
 have e:∀z∈h,Builtin.Int.intBits z<=2 ^ 20:=λz P=>yq3 (layableW_arg k _ ao) P
 refine enter_call (codeAny_mono (call w A b mg y j o pm cd c a i h G Y M (fd_plain I) t v p g m e J) λr s' N=>?_)
 obtain⟨rfl,h2,F,H⟩:=N
 exact⟨.inl ⟨.bool true,.bool true,[],rfl,λ_=>rfl,.bool true,yt2 l _,λ_=>⟨List.Pairwise.nil,λ_ hm=>(nomatch hm)⟩⟩,h2,F,H⟩
end Att
namespace L2
open PySem PySem.Spec PyProof.Rows
theorem walk_ofB {l:W.OpenLaw}{n k:Nat}{q:gq}{loose:List Str}{XP:(Str->Option Value)->Heap->Prop}{YP:gv->Heap->Prop}{d:DefRec}{K:Params->W.Frag}{CX:CXT}{sp:W.Frag->Sp}{x:Str}
  (P:l.most=some n) (B:n<=gn) (y:d.params.defaults=[]) (Q:V0 k callerA)
  (M:∀(w:gv) (h:Heap),YP w h->(K w.params).In h)
  (F:∀(w:gv) (mg:Str->Option Value) (r:Addr) (h:Heap),(K w.params).In h->h.Ns mainGlobals mg->mg d.name=some (.ref r) ->
   ∃fd:gD,(∀(s:gh) (u:Value),BindsTo s fd ⟨[u],[]⟩ [(x,u)]) /\
    ∀base:Heap,(K w.params).In base->base.Ns mainGlobals mg->o8 l.prog w (K w.params) mg base CX k r fd [x] (sp (K w.params)))
  (C:∀(K:W.Frag) (H:Hp) (a:Addr) (p:List Int),p.length<=n->(∀z∈p,Builtin.Int.intBits z<=2 ^ 20)->Only H->SqL K H a (p.map V.int)->sp K [.ref a] H (λv _=>v=.bl true) λ_ _ _=>False)
  (t:∀(H:Hp) (s:gh) (e:Value) (s':gh),CX [] H s (λ_ _ _=>False) e s'->False) :
  W.WalkO q loose XP YP l.row.toRowW d [] (λf E=>PySem.call f E):=by
 refine Att.attach_callB P y λw Z R mg X r o pm cd I a E p G Y U S N A m j c i O=>?_
 have D:=M w _ Y
 obtain⟨fd,hb,J⟩:=F w mg r _ D G.T.g A
 exact yz1 D G.T.g G.T.b G.T.builtins G.T.nolimit O m j (aM c B) Q J hb (λH L hS=>C (K w.params) H a p c i L hS) λH e s'=>t H R e s'
theorem yr5 {α β:Type}{l:List α}{f:α->β->Sem (ForInStep β)}{g:β->α->β}:∀(c:β),(∀x∈l,∀c,f x c=pure (.yield (g c x)))->forIn l c f=pure (l.foldl g c):=by
 induction l with
 | nil=>intro c _;rfl
 | cons x l ih =>
  intro c h;rw[List.forIn_cons,h x ao,pure_bind];exact ih _ λy a=>h y (ah _ a)
def Z3 (cells:List (Str×Addr))(cs:List (Str×Addr))(x:Str×NameKind):List (Str×Addr):=if (x.2==NameKind.free)=true then(x.1,(cells.lookup x.1).getD 0)::cs else cs
def yv7 (cells:List (Str×Addr))(names:List (Str×NameKind)):List (Str×Addr):=names.foldl (Z3 cells) []
theorem zh9 {scope:Scope}{b:Env}(h:∀y∈scope.names,y.2=.free->∃c,b.cells.lookup y.1=some c):closureFor scope b=pure (yv7 b.cells scope.names):=by
 simp only[closureFor];rw[yr5 (g:=Z3 b.cells) [] (λx i c=>by
  obtain⟨n,k⟩:=x
  by_cases e:k=.free
  .subst e
   obtain⟨a,f⟩:=h _ i rfl
   have d:b.cells.lookup n=some a:=f
   simp only[Z3,beq_self_eq_true,if_true,cellOf,d,cN,pure_bind]
  .have hb:(k==NameKind.free)=false:=by simpa using e
   simp only[Z3,hb,cX,if_false])]
 rfl
theorem zp8 {cells:List (Str×Addr)}:∀{names:List (Str×NameKind)} {cs:List (Str×Addr)},(∀y∈names,y.2=.free->∃c,cells.lookup y.1=some c)->(∀x c,cs.lookup x=some c->cells.lookup x=some c) ->
  ∀x c,(names.foldl (Z3 cells) cs).lookup x=some c->cells.lookup x=some c
 | [],cs,_,h,x,c,e=>h x c e
 | (n,k)::r,cs,hn,h,x,c,e=>by
  refine zp8 (names:=r) (λy hy=>hn y (ah _ hy)) (λx c e=>?_) x c e
  by_cases hk:k=.free
  .subst hk
   obtain⟨a,ha⟩:=hn (n,.free) ao rfl
   have ha':cells.lookup n=some a:=ha
   simp only[Z3,beq_self_eq_true,if_true,ha',cN,cp]at e
   cases q:x==n with
   | true =>
    rw[q]at e
    have q':x=n:=by simpa using q
    rw[q',ha']
    exact e
   | false =>
    rw[q]at e
    exact h x c e
  .have hb:(k==NameKind.free)=false:=by simpa using hk
   simp only[Z3,hb,cX,if_false]at e
   exact h x c e
theorem zc1 {cells:List (Str×Addr)}{x:Str}:∀{names:List (Str×NameKind)} {cs:List (Str×Addr)},((x,NameKind.free)∈names∨∃c,cs.lookup x=some c)->∃c,(names.foldl (Z3 cells) cs).lookup x=some c
 | [],cs,h=>by
  rcases h with h|h
  .cases h
  .exact h
 | (n,k)::r,cs,h=>by
  refine zc1 (names:=r) (cs:=Z3 cells cs (n,k)) ?_
  rcases h with h|⟨c,h⟩
  .rcases ay.mp h with e|e
   .cases e
    right
    simp[Z3]
   .exact .inl e
  .right
   by_cases hk:k=.free
   .subst hk
    simp only[Z3,beq_self_eq_true,if_true,cp]
    cases x==n with
    | true=>exact⟨_,rfl⟩
    | false=>exact⟨c,h⟩
   .have hb:(k==NameKind.free)=false:=by simpa using hk
    simp only[Z3,hb,cX,if_false]
    exact⟨c,h⟩
def zc2 (sc osc:Scope)(fr:List Str):Bool :=
 sc.kind == .function&&(sc.names.all λy=>y.2 != .cell)&&(sc.names.all λy=>y.2 != .local || sc.names.lookup y.1==some .local) &&
 (sc.names.all λy=>y.2 != .free || (osc.names.lookup y.1==some .cell || osc.names.lookup y.1==some .free))&&(fr.all λx=>sc.names.lookup x==some .free)
structure yg0 (sc osc:Scope) (fr:List Str):Prop where
 kind:sc.kind=.function
 cell:∀y∈sc.names,y.2≠.cell
 loc:∀y∈sc.names,y.2=.local->sc.names.lookup y.1=some .local
 free:∀y∈sc.names,y.2=.free->osc.names.lookup y.1=some .cell∨osc.names.lookup y.1=some .free
 fr:∀x∈fr,sc.names.lookup x=some .free
theorem zp9 {c b:Scope}{fr:List Str}(h:zc2 c b fr=true):yg0 c b fr:=by
 unfold zc2 at h;rw[bp,bp,bp,bp]at h;obtain⟨⟨⟨⟨h1,h2⟩,d⟩,f⟩,g⟩:=h;refine⟨by simpa using h1,λy a=>?_,λy a e=>?_,λy a e=>?_,λx i=>?_⟩
 .simpa using bu.mp h2 y a
 .have:=bu.mp d y a;rw[e]at this;simpa using this
 .have:=bu.mp f y a;rw[e]at this;simpa using this
 .simpa using bu.mp g x i
theorem mem_of_lookup {x:Str}{k:NameKind}:∀{l:List (Str×NameKind)},l.lookup x=some k->(x,k)∈l
 | [],h=>by cases h
 | (n,j)::r,h=>by
  rw[cp]at h
  cases q:x==n with
  | true =>
   rw[q]at h
   have q':x=n:=by simpa using q
   cases h
   rw[q']
   exact ao
  | false =>
   rw[q]at h
   exact ah _ (mem_of_lookup h)
theorem Q0 {env:Env}:∀{names:List (Str×NameKind)} {x:Str},names.lookup x=some .free ->
  (names.map λ(n,k)=>if (k==NameKind.free&&env.scope.kind == .function&&env.kindOf n==some .cell) then(n,NameKind.cell) else(n,k)).lookup x=some .cell ∨
  (names.map λ(n,k)=>if (k==NameKind.free&&env.scope.kind == .function&&env.kindOf n==some .cell) then(n,NameKind.cell) else(n,k)).lookup x=some .free
 | [],_,h=>by cases h
 | (n,k)::r,x,h=>by
  have ih:=@Q0 env r x
  show List.lookup x ((if (k==NameKind.free&&env.scope.kind == .function&&env.kindOf n==some .cell)=true then(n,NameKind.cell) else(n,k))::_)=_∨List.lookup x ((if (k==NameKind.free&&env.scope.kind == .function&&env.kindOf n==some .cell)=true then(n,NameKind.cell) else(n,k))::_)=_
  rw[cp]at h
  by_cases hc:(k==NameKind.free&&env.scope.kind == .function&&env.kindOf n==some .cell)=true
  .rw[if_pos hc]
   simp only[cp]
   cases hx:x==n with
   | true=>exact .inl rfl
   | false=>rw[hx]at h;exact ih h
  .rw[if_neg hc]
   simp only[cp]
   cases hx:x==n with
   | true=>rw[hx]at h;exact .inr h
   | false=>rw[hx]at h;exact ih h
def X4 (X:Cx)(N':List Str)(scope:Scope)(C:Addr)(s₃:gh)(H₃:Hp)(fp:List Addr):Cx where
 prog:=X.prog
 w:=X.w
 K:=X.K
 mg:=X.mg
 base:=X.base
 A:=X.A
 N:=N'
 s₀:=s₃
 H₀:=H₃
 env:=compEnvC scope (yv7 X.env.cells scope.names) C X.env
 outer:=X.stack
 stack:=X.stack
 ex:=fp
 fn:=λ_=>false
 calm:=X.calm
 pn:=[]
 xe:=λ_ _=>False
def M2 (own:Nat)(fr:List Nat)(σ:St):St:=List.replicate own none++fr.map λj=>(σ[j]?).getD none
section
variable {X:Cx}{pins:List (Addr×Obj)}{σ:St}{H:Hp}{s:gh}
theorem yy7 {N':List Str}{own:Nat}{fr:List Nat}{scope:Scope}{fp:List Addr}{C:Heap}{m:Str->Option Value}{t:Nat}{U:Obj}(I:Inv X pins σ H s)(hf:∀b∈fp,zb7 X pins H b)(hob:∀b∈fp,∃o,s.heap.get? b=some o)
  (hok:yg0 scope X.env.scope (N'.drop own)) (w:fr.map (λj=>X.N[j]?)=(N'.drop own).map some) (J:own<=N'.length)
  (R:C.Ns s.heap.objs.size m) (E:Heap.SameBut s.heap.objs.size (s.heap.push U) C) :
  Inv (X4 X N' scope s.heap.objs.size s H fp) [] (M2 own fr σ) H { s with heap:=C,toks:=t }:=by
 have cellsSub:∀x c,(yv7 X.env.cells scope.names).lookup x=some c->X.env.cells.lookup x=some c:=λx c e =>
  zp8 (λy hy hk=>I.ok.has y.1 (hok.free y hy hk)) (λx c e=>by cases e) x c e
 have D:∀b o,s.heap.get? b=some o->C.get? b=some o:=λb o e=>(E.2 b (aP (aE e))).trans (au _ e);have A:fr.length=(N'.drop own).length:=by
  have:=congrArg List.length w;simpa using this
 have F:(X4 X N' scope s.heap.objs.size s H fp).Ok :=
  {mod:=I.ok.mod
   kind:=hok.kind
   glob:=I.ok.glob
   blt:=I.ok.blt
   above:=aq _
   inj:=λx y c e1 e2=>I.ok.inj x y c (cellsSub x c e1) (cellsSub y c e2)
   has:=λx hk=>by
    have hk':(relabel scope X.env).names.lookup x=some .cell∨(relabel scope X.env).names.lookup x=some .free:=hk
    have key:(x,NameKind.free)∈scope.names:=by
     have all:∀(l:List (Str×NameKind)),(∀y∈l,y.2≠.cell)->((l.map λ(n,k)=>if (k==NameKind.free&&X.env.scope.kind == .function&&X.env.kindOf n==some .cell) then(n,NameKind.cell) else(n,k)).lookup x=some .cell ∨
       (l.map λ(n,k)=>if (k==NameKind.free&&X.env.scope.kind == .function&&X.env.kindOf n==some .cell) then(n,NameKind.cell) else(n,k)).lookup x=some .free)->(x,NameKind.free)∈l:=by
      intro l
      induction l with
      | nil=>intro _ h;rcases h with h|h <;> cases h
      | cons p r ih =>
       obtain⟨n,k⟩:=p
       intro hc h
       have hr:∀y∈r,y.2≠.cell:=λy hy=>hc y (ah _ hy)
       have hkc:k≠.cell:=hc (n,k) ao
       rw[aJ]at h
       by_cases hx:(x==n)=true
       .have hx':x=n:=by simpa using hx
        subst hx'
        by_cases hk:k=.free
        .subst hk
         exact ao
        .exfalso
         have hb:(k==NameKind.free)=false:=by simpa using hk
         simp[hb,cp]at h
         rcases h with h|h
         .exact hkc h
         .exact hk h
       .have hx0:(x==n)=false:=by simpa using hx
        refine ah _ (ih hr ?_)
        by_cases hc:(k==NameKind.free&&X.env.scope.kind == .function&&X.env.kindOf n==some .cell)=true
        .simp only[hc,if_true,cp,hx0]at h
         exact h
        .have hc':(k==NameKind.free&&X.env.scope.kind == .function&&X.env.kindOf n==some .cell)=false:=by simpa using hc
         simp only[hc',cX,if_false,cp,hx0]at h
         exact h
     exact all scope.names hok.cell hk'
    exact zc1 (.inl key)
   cab:=λx c e=>by cases e
   hd:=I.ok.hd
   frames:=I.ok.frames
   stk:=.inl rfl
   exf:=λb hb=>⟨λe=>by
     obtain⟨o,ho⟩:=hob b hb
     exact absurd (aE ho) (by rw[e];exact bU _),λx c e=>(hf b hb).2.2.2.2.1 x c (cellsSub x c e)⟩
   bs:=I.bs
   bsz:=aM I.ok.bsz I.sz
   noex:=λb o e hb=>by
    rcases (hf b hb).2.2.2.1 with z|z
    .exact I.ok.noex b o e z
    .exact absurd (aE (I.ok.bs b o e).1) (Nat.not_lt.mpr z)
   exfs:=λb hb z=>by
    rcases ay.mp (I.stkSub b z) with e|e
    .exact(hf b hb).2.1 e
    .exact(hf b hb).2.2.1 e
   funs:=I.stack
   frf:=I.stkFree }
 refine⟨F,rfl,I.bare,Un.kept D,⟨m,R,λi x v e1 e2 V=>?_⟩,λx c e=>?_,I.hok.fresh (aq _),λx c e=>I.freeC x c (cellsSub x c e),λp S=>(by cases S),I.hok.kept D,?_⟩
 .have a:(List.replicate own none++fr.map λj=>(σ[j]?).getD none)[i]?=some (some v):=e2;by_cases hi:i<own
  .rw[bd (by simpa using hi),eh]at a;rw[if_pos hi]at a
   cases a
  .rw[bo (by simpa using bE hi),bT,af]at a
   cases hj:fr[i-own]? with
   | none=>rw[hj]at a;cases a
   | some j =>
    rw[hj]at a;have B:(σ[j]?).getD none=some v:=by simpa using a
    have M:σ[j]?=some (some v):=by
     cases q:σ[j]? with
     | none=>rw[q]at B;cases B
     | some z=>rw[q]at B;simpa using B
    have O:N'[own+(i-own)]?=some x:=by
     rw[show own+(i-own)=i by lia];exact e1
    have G:(N'.drop own)[i-own]?=some x:=by rw[dO];exact O
    have P:X.N[j]?=some x:=by
     have q:=congrArg (λl=>l[i-own]?) w;simp only[af,hj,G,cJ]at q;simpa using q
    have hx:=hok.fr x (ax G);have d:=mem_of_lookup hx;have f:=hok.free _ d rfl;obtain⟨W,_,hl⟩:=I.loc;obtain⟨u,r,l⟩:=hl j x v P M (.inr f);refine⟨u,r,?_⟩;rcases l with⟨k,_⟩|⟨_,c,Q,z⟩
    .have T:X.env.scope.names.lookup x=some .local:=k;rcases f with q|q <;> (have K:X.env.scope.names.lookup x=_:=q;rw[T]at K;cases K)
    .obtain⟨L,g⟩:=zc1 (cells:=X.env.cells) (cs:=[]) (.inl d);have q:=cellsSub x L g;rw[Q]at q
     cases q
     obtain⟨o,ho,hd⟩:=z;exact .inr ⟨Q0 hx,c,g,o,D c o ho,hd⟩
 .obtain⟨v,o,ho,hd⟩:=I.cell x c (cellsSub x c e);exact⟨v,o,D c o ho,hd⟩
 .show(List.replicate own none++fr.map λj=>(σ[j]?).getD none).length=N'.length;rw[ag,bT,aa,A,br];lia
end
section
variable {prog:gq}{w:gv}{A:gw}{s:gh}
theorem G8 {elt a iter:Expr}{scope:Scope}{pos:Pos}{it c:Value}{b:Env}{R:Result->gh->Prop}(I:Nat->gh->Prop)
  (f:∀n s,I n s->gr (gu prog w) A (pyNext it) (λr i=>match r with
   | none=>R (.ok .next) i
   | some v=>gr (gu prog w) A (letOwnedTupleGo a it v) (λ_ d=>gr (gu prog w) A (assign a b v) (λ_ k=>gr (gu prog w) A (eval elt b) (λx l =>
     gr (gu prog w) A (call (.builtin "list.append") [c,x]) (λ_ o=>∃m,m<n/\I m o) (notedBy (gu prog w) A b λe s'=>R (.error e) s') l)
     (notedBy (gu prog w) A b λe s'=>R (.error e) s') k) (notedBy (gu prog w) A b λe s'=>R (.error e) s') d) (notedBy (gu prog w) A b λe s'=>R (.error e) s') i) (notedBy (gu prog w) A b λe s'=>R (.error e) s') s)
  (n:Nat) (h:I n s):codeAny (gu prog w) A (.compLoop (.ListComp elt [⟨a,iter,[],0⟩] scope pos) 0 it c b) R s:=by
 refine codeAny_loop rfl I (λn s p=>?_) n h
 show gr _ _ ((compTurn (.ListComp elt [⟨a,iter,[],0⟩] scope pos) 0 it c b).onRaise (λx=>do noteFrame x b;theTreesLotGoes x)) _ _ s
 refine wpAny_noted ?_
 rw[compTurn_list1]
 refine gg (wpAny_standAt (gg (gz (f n s p) (λr i j=>?_) λ_ _ h'=>h')))
 cases r with
 | none=>exact gl j
 | some v =>
  refine gg (gz j (λ_ d g=>?_) λ_ _ h'=>h')
  exact gg (gz g (λ_ k q=>gg (gg (gz q (λx l t=>gg (gz t
   (λ_ o u=>gl (gl ⟨rfl,u⟩)) λ_ _ h'=>h')) λ_ _ h'=>h'))) λ_ _ h'=>h')
end
abbrev CT (α:Type):=Addr->gh->Hp->List Addr->α
def xd4 (own:Nat)(fr:List Nat)(wi:TI)(g:CT TG)(te:CT TE)(σ:St)(H:Hp)(Q:Addr->Hp->Prop):Prop:=wi σ H λJ H1=>∀D,H1 D=none ->
 ∃W:Nat->Nat->St->Hp->Prop,(∃m,W 0 m (M2 own fr σ) (upd H1 D (.lst [])))/\∀i m σ' H',W i m σ' H' ->
  (J.stop i H'/\Q D H')∨(J.go i H'/\∀x H2,J.yld i H' x H2->∀C₀ s₀ H₀ fp,g C₀ s₀ H₀ fp x σ' H2 λσ3 H3=>∃N:VK,te C₀ s₀ H₀ fp σ3 H3 N/\∀y H4,N y H4 ->
   ∃ys m',H4 D=some (.lst ys)/\ys.length<gn/\m'<m/\W (i+1) m' σ3 (upd H4 D (.lst (ys++[y]))))
def yp2 (own:Nat)(fr:List Nat)(wi:TI)(g:CT TG)(te:CT TE):TE:=λσ H Q=>xd4 own fr wi g te σ H λD H'=>Q (.ref D) H'
def xs5 (X:Cx)(pins:List (Addr×Obj))(H:Hp)(C:Addr):Prop :=
 H C=none/\C≠X.env.locals/\X.s₀.heap.objs.size<=C/\(∀x c,X.env.cells.lookup x=some c->c≠C)/\∀p∈X.pn++pins,p.1≠C
section
variable {X:Cx}{own:Nat}{fr:List Nat}{N':List Str}{tg iter elt:Expr}{scope:Scope}{pos:Pos}{wi:TI}{g:CT TG}{te:CT TE}
theorem zz5 {pins:List (Addr×Obj)}{s:gh}{σ:St}{H:Hp}{Q:Addr->Hp->Prop}{use:Option (Value->Sem Unit)}{Q':Value->gh->Prop}{pos':Pos}(hc:X.calm=true)(hi:PI X tg iter wi)(hg:∀C s₃ H₃ fp,PG (X4 X N' scope C s₃ H₃ fp) tg (g C s₃ H₃ fp))(he:∀C s₃ H₃ fp,PE (X4 X N' scope C s₃ H₃ fp) elt (te C s₃ H₃ fp))
  (a:yg0 scope X.env.scope (N'.drop own)) (ap:fr.map (λj=>X.N[j]?)=(N'.drop own).map some) (Z:own<=N'.length) (hs:∀x,foldedSetIterable iter X.env x=pure x)
  (I:Inv X pins σ H s) (h:xd4 own fr wi g te σ H Q)
  (am:∀D C m H' s',Inv X pins σ H' s'->s'.heap.Ns C m->xs5 X pins H' C->Q D H'->compPost (gu X.prog X.w) X.A X.xe use Q' (.ref D) C (.ok .next) s') :
  gr (gu X.prog X.w) X.A (comprehension (.ListComp elt [⟨tg,iter,[],0⟩] scope pos) scope X.env pos' (newList []) false (eval iter X.env) use) Q' X.xe s:=by
 refine wpAny_comprehension_free rfl hs (zh9 λy hy hk=>I.ok.has y.1 (a.free y hy hk)) a.kind a.loc (thn (hi pins s σ H _ I h) λxv s1 h1=>thn h1 λbv f h2=>?_)
 obtain⟨it,fp,tn,J,H2,e,I2,T,ab,f2,S⟩:=h2
 subst e
 refine wpAny_newList (items:=[]) ?_
 have hD:H2 f.heap.objs.size=none:=I2.hok.fresh (aq _)
 have l:Inv X pins σ (upd H2 f.heap.objs.size (.lst [])) { f with heap:=f.heap.push { cls:=.type "list",data:=.seq ([]:List Value).toArray } }:=I2.lnew (its:=[]) (t':=f.toks) .nil (by decide)
 obtain⟨W,⟨m0,w0⟩,G⟩:=S _ hD
 generalize hDD:f.heap.objs.size=D at hD l w0 G ⊢
 have ba:∀b o,f.heap.get? b=some o->(f.heap.push { cls:=.type "list",data:=.seq ([]:List Value).toArray }).get? b=some o:=λb o e=>au _ e
 have a':tn 0 (f.heap.push { cls:=.type "list",data:=.seq ([]:List Value).toArray }):=T.keep _ _ _ ab λb _ o e=>ba b o e
 have U:∀b∈fp,b≠D:=λb hb e=>by
  obtain⟨o,ho,_⟩:=T.obj _ _ ab b hb
  rw[e,←hDD]at ho
  exact absurd (aE ho) (bU _)
 have L:∀b∈fp,zb7 X pins (upd H2 D (.lst [])) b:=λb hb=>⟨by rw[y0 (U b hb)];exact(f2 b hb).1,(f2 b hb).2⟩
 generalize hs3:({ f with heap:=f.heap.push { cls:=.type "list",data:=.seq ([]:List Value).toArray } }:gh)=s3 at l ⊢
 have F:tn 0 s3.heap:=by rw[←hs3];exact a'
 generalize upd H2 D (.lst [])=K at l L w0
 have as:∀b∈fp,∃o,s3.heap.get? b=some o:=λb hb=>let ⟨o,ho,_⟩:=T.obj _ _ F b hb;⟨o,ho⟩
 refine wpAny_newFunctionEnv a.cell (by intro y hy;simp at hy) (λh₁ Y B=>?_) a.kind
 have bb:∀b o,s3.heap.get? b=some o->h₁.get? b=some o:=λb o e=>(B.2 b (aP (aE e))).trans (au _ e)
 have I4:=yy7 (N':=N') (own:=own) (fr:=fr) (scope:=scope) (t:=s3.toks+([]:List (Str×Value)).length) l L as a ap Z Y B
 have ac:tn 0 h₁:=T.keep _ _ _ F λb _ o e=>bb b o e
 have k:∀{H':Hp} ,(∀b∈fp,H' b=none)->∀b∈fp,zb7 (X4 X N' scope s3.heap.objs.size s3 K fp) [] H' b:=λhn b hb=>by
  refine⟨hn b hb,(I4.ok.exf b hb).1,I4.ok.exfs b hb,.inl hb,(I4.ok.exf b hb).2,λp hp=>by cases hp⟩
 have E:codeAny (gu X.prog X.w) X.A (.compLoop (.ListComp elt [⟨tg,iter,[],0⟩] scope pos) 0 (.ref it) (.ref D) (X4 X N' scope s3.heap.objs.size s3 K fp).env)
   (compPost (gu X.prog X.w) X.A X.xe use Q' (.ref D) s3.heap.objs.size) { s3 with heap:=h₁,toks:=s3.toks+([]:List (Str×Value)).length }:=by
  refine G8 (λn s'=>∃i σ' H',Inv (X4 X N' scope s3.heap.objs.size s3 K fp) [] σ' H' s'/\tn i s'.heap/\(∀b∈fp,H' b=none)/\W i n σ' H') ?_ m0 ⟨0,_,K,I4,ac,λb hb=>(L b hb).1,w0⟩
  rintro n s5 ⟨i,σ5,P,I5,ad,V,w5⟩
  rcases G i n σ5 P w5 with⟨ae,q⟩|⟨go,step⟩
  .refine thn (T.done (X4 X N' scope s3.heap.objs.size s3 K fp) rfl rfl rfl hc i [] s5 σ5 P _ I5 (k V) ad ae) λr s6 ⟨hr,O⟩=>?_
   subst hr
   obtain⟨m6,ar,_⟩:=O.loc
   have I7:Inv X pins σ P s6:=l.call' (ch:=fp) (by have:=O.os;exact this) O.base O.hok O.bare λb hb=>⟨(L b hb).2.2.2.1,(L b hb).2.1,(L b hb).2.2.2.2.1,(L b hb).2.2.2.2.2⟩
   refine am D s3.heap.objs.size m6 P s6 I7 ar ⟨O.free,dD l.lt,l.sz,λx c e z=>?_,λp hp z=>?_⟩ q
   .obtain⟨v,z1⟩:=l.cell x c e
    exact absurd z1.lt (by rw[z];exact bU _)
   .exact absurd (aE (l.pin p hp).1) (by rw[z];exact bU _)
  .refine thn (T.item (X4 X N' scope s3.heap.objs.size s3 K fp) rfl rfl rfl hc i [] s5 σ5 P _ I5 (k V) ad go) λr s6 ⟨u,hr,h6⟩=>?_
   subst hr
   refine thn h6 λ_ s7 ⟨x,H7,I7,r7,y7,M,an⟩=>?_
   have al:=I7.pinned (k an) (T.obj _ _ M)
   refine gz (hg _ _ _ _ _ s7 σ5 H7 x u _ al r7 (step x H7 y7 _ _ _ _)) (λ_ s8 ⟨σ8,H8,I8,N,q8,hN⟩=>?_) λ_ _ z=>z.elim
   refine gz (he _ _ _ _ _ s8 σ8 H8 N I8 q8) (λyv s9 ⟨y,H9,I9,r9,n9⟩=>?_) λ_ _ z=>z.elim
   obtain⟨ys,m',ao,hlt,hm,w9⟩:=hN y H9 n9
   refine gz (i8 (X:=X4 X N' scope s3.heap.objs.size s3 K fp) _ s9 σ8 H9 (.ref D) [y] (.ref D) [yv] (λ_ H'=>H'=upd H9 D (.lst (ys++[y]))) I9 rfl (.cons r9 .nil) ⟨D,ys,y,rfl,rfl,ao,hlt,rfl⟩) (λ_ cd ⟨_,bl,R,_,ay⟩=>?_) λ_ _ z=>z.elim
   subst ay
   have aa:=λb hb o e=>R.pin (b,o) (aU _ (aU _ (B3 (h:=s7.heap) (fp:=fp) hb e)))
   refine⟨m',hm,i+1,σ8,_,R.unpinned,T.keep _ _ _ M λb hb o e=>(aa b hb o e).1,λb hb=>?_,w9⟩
   obtain⟨o,e,d⟩:=T.obj _ _ M b hb
   exact(aa b hb o e).2.1
 exact codeAny_compStart_list E (T.self X.A 0 _ _ _ ac E)
theorem xh8 (own:Nat)(fr:List Nat)(N':List Str)(hc:X.calm=true)(hi:PI X tg iter wi)(hg:∀C s₃ H₃ fp,PG (X4 X N' scope C s₃ H₃ fp) tg (g C s₃ H₃ fp))(he:∀C s₃ H₃ fp,PE (X4 X N' scope C s₃ H₃ fp) elt (te C s₃ H₃ fp))
  (hok:zc2 scope X.env.scope (N'.drop own)=true:=by rfl) (hfr:fr.map (λj=>X.N[j]?)=(N'.drop own).map some:=by rfl) (hown:own<=N'.length:=by decide) (hs:∀x,foldedSetIterable iter X.env x=pure x:=by intro _;rfl) :
  PE X (.ListComp elt [⟨tg,iter,[],0⟩] scope pos) (yp2 own fr wi g te):=by
 intro pins s σ H Q I h;rw[eval_ListComp];refine zz5 (use:=none) hc hi hg he (zp9 hok) hfr hown hs I h λD C m H' s' I' hn sp q=>?_;refine⟨m,hn,λh' sb=>⟨.ref D,H',?_,rfl,q⟩⟩;exact I'.turned (t':=s'.toks) (λb o hb e=>(sb.2 b hb).trans e) sp.1 sp.2.1 (.inr sp.2.2.1) sp.2.2.2.1 sp.2.2.2.2
theorem yi5 {i:Nat}{y:Str}{py spos:Pos}(own:Nat)(fr:List Nat)(N':List Str)(hN:X.N.Nodup)(hy:X.N[i]?=some y)(hl:X.env.scope.names.lookup y=some .local)(hc:X.calm=true)(hi:PI X tg iter wi)(hg:∀C s₃ H₃ fp,PG (X4 X N' scope C s₃ H₃ fp) tg (g C s₃ H₃ fp))(he:∀C s₃ H₃ fp,PE (X4 X N' scope C s₃ H₃ fp) elt (te C s₃ H₃ fp))
  (hsw:swapsWith (.ListComp elt [⟨tg,iter,[],0⟩] scope pos) (some (.Name y py)) spos.line X.env=pure true:=by rfl)
  (hok:zc2 scope X.env.scope (N'.drop own)=true:=by rfl) (hfr:fr.map (λj=>X.N[j]?)=(N'.drop own).map some:=by rfl) (hown:own<=N'.length:=by decide) (hs:∀x,foldedSetIterable iter X.env x=pure x:=by intro _;rfl) :
  PS X (.Assign [.Name y py] (.ListComp elt [⟨tg,iter,[],0⟩] scope pos) spos) (xd3 (yp2 own fr wi g te) (Z0 i)):=by
 intro pins s σ H D I h;rw[exec_Assign_Name_used _ _ _ _ hsw];refine gg (wpAny_standAt (gg ?_));show gr _ X.A (do let _ ←comprehension (.ListComp elt [⟨tg,iter,[],0⟩] scope pos) scope X.env _ (newList []) false (eval iter X.env) (some (assign (.Name y py) X.env))) _ _ s;refine gg (gz (zz5 (use:=some (assign (.Name y py) X.env)) (Q':=λ_ s'=>SP X pins D .next s') hc hi hg he (zp9 hok) hfr hown hs I h λDl C m H' s' I' hn sp q=>?_) (λ_ s' hq=>gl (gl hq)) λ_ _ e=>e);show gr _ X.A (assign (.Name y py) X.env (.ref Dl)) _ _ _;refine wpAny_assign_Name (zs4 (v:=.ref Dl) I' hN hy (.inl hl) rfl (λs2 I2 ⟨a,sb,ha⟩=>?_) (.inr hl));have hCa:C≠a:=by
  rcases ha with e|e
  .rw[e];exact sp.2.1
  .exact λz=>sp.2.2.2.1 y a e z.symm
 refine⟨m,hn.sameBut sb hCa,λh' sb'=>⟨_,H',?_,q⟩⟩;exact I2.turned (t':=s2.toks) (λb o hb e=>(sb'.2 b hb).trans e) sp.1 sp.2.1 (.inr sp.2.2.1) sp.2.2.2.1 sp.2.2.2.2
theorem c5 {x:Str}{px:Pos}(fr:List Nat)(N':List Str)(hc:X.calm=true)(hi:PI X (.Name x px) iter wi)(he:∀C s₃ H₃ fp,PE (X4 X N' scope C s₃ H₃ fp) elt (te C s₃ H₃ fp))(hN:N'.Nodup:=by decide +kernel)(h0:N'[0]?=some x:=by rfl)(hx:scope.names.lookup x=some .local:=by rfl)
  (hok:zc2 scope X.env.scope (N'.drop 1)=true:=by rfl) (hfr:fr.map (λj=>X.N[j]?)=(N'.drop 1).map some:=by rfl) (hown:1<=N'.length:=by decide) (hs:∀x,foldedSetIterable iter X.env x=pure x:=by intro _;rfl) :
  PE X (.ListComp elt [⟨.Name x px,iter,[],0⟩] scope pos) (yp2 1 fr wi (λ_ _ _ _=>Z0 0) te) :=
 xh8 1 fr N' hc hi (λ_ _ _ _=>p6 hN h0 (.inl (lookup_relabel_local hx)) (.inr (lookup_relabel_local hx))) he hok hfr hown hs
theorem N3 {i:Nat}{x y:Str}{px py spos:Pos}(fr:List Nat)(N':List Str)(hNd:X.N.Nodup)(hy:X.N[i]?=some y)(hl:X.env.scope.names.lookup y=some .local)(hc:X.calm=true)(hi:PI X (.Name x px) iter wi)(he:∀C s₃ H₃ fp,PE (X4 X N' scope C s₃ H₃ fp) elt (te C s₃ H₃ fp))
  (hsw:swapsWith (.ListComp elt [⟨.Name x px,iter,[],0⟩] scope pos) (some (.Name y py)) spos.line X.env=pure true:=by rfl) (hN:N'.Nodup:=by decide +kernel) (h0:N'[0]?=some x:=by rfl) (hx:scope.names.lookup x=some .local:=by rfl)
  (hok:zc2 scope X.env.scope (N'.drop 1)=true:=by rfl) (hfr:fr.map (λj=>X.N[j]?)=(N'.drop 1).map some:=by rfl) (hown:1<=N'.length:=by decide) (hs:∀x,foldedSetIterable iter X.env x=pure x:=by intro _;rfl) :
  PS X (.Assign [.Name y py] (.ListComp elt [⟨.Name x px,iter,[],0⟩] scope pos) spos) (xd3 (yp2 1 fr wi (λ_ _ _ _=>Z0 0) te) (Z0 i)) :=
 yi5 1 fr N' hNd hy hl hc hi (λ_ _ _ _=>p6 hN h0 (.inl (lookup_relabel_local hx)) (.inr (lookup_relabel_local hx))) he hsw hok hfr hown hs
end
end L2
namespace PySem
open Sem (wp)
section
variable {prog:gq}{w:gv}{A:gw}{E:Value->gh->Prop}{s:gh}
theorem C0 {Q:List Value->gh->Prop}{r:Addr}{a b c:Int}{t u v:Tok}{n:Nat}(B:A.handled=none)(D:IsRange s.heap r a b c t u v)(g:Builtin.Range.small a b c=true)
  (C:Builtin.Range.rangeSize a b c=n) (m:n<=2 ^ 24)
  (z:∀h' tk acc,(∀b o,s.heap.get? b=some o->h'.get? b=some o)->ItemsOf (λi v=>∃t,v=.int (a+i*c) t) acc n->Q acc.toList { s with heap:=h',toks:=tk }) :
  gr (gu prog w) A (collect (.ref r)) Q E s:=by
 unfold collect;refine gg (wpAny_runValue (codeAny_builtin F.entry_proto_collect ?_));rw[Around.under_plainId F.plain_proto_collect _];show gr _ A.in1 (newList [] >>= λl=>again (.builtin "list.__iadd__" ⟨[l,.ref r],[]⟩)) _ _ s;refine gg (wpAny_newObj_type ?_);refine gl ⟨plainId_quiet F.plain_list_iadd _,codeAny_builtin F.entry_list_iadd ?_⟩;rw[Around.under_plainId F.plain_list_iadd _];show gr _ A.in1 (Builtin.List.listExtendWith (.ref s.heap.objs.size) (.ref r) (.ref s.heap.objs.size)) _ _ _;have k:∀(q:Result) (h:gh),(q=.ok (.ret (.ref s.heap.objs.size))/\∃h' tk acc' c',h={ s with heap:=h',toks:=tk }/\(∀b o,s.heap.get? b=some o->h'.get? b=some o)/\h'.get? s.heap.objs.size=some { cls:=.type "list",dict:=none,data:=.seq acc' c',slots:=#[] }/\ItemsOf (λi v=>∃t,v=.int (a+i*c) t) acc' n) ->
   (match q with
    | .ok (.ret v)=>gr (gu prog w) A (match v with
      | .ref a=>do
       match (←load a).data with
       | .seq xs _=>pure xs.toList
       | _=>unsupported "internal:collect"
      | _=>unsupported "internal:collect") Q E h
    | .ok _=>False
    | .error e=>E e h):=by
  rintro q h ⟨rfl,h',tk,acc',c',rfl,y,j,d⟩;show gr _ A (load s.heap.objs.size >>= _) _ _ _;refine gg (wpAny_load j ?_);exact gl (z h' tk acc' y d)
 refine gz (wpAny_extend_range (s:={ s with heap:=s.heap.push { cls:=.type "list",data:=.seq ([]:List Value).toArray } }) (A:=A)
  (R:=λq h=>q=.ok (.ret (.ref s.heap.objs.size))/\∃h' tk acc' c',h={ s with heap:=h',toks:=tk }/\(∀b o,s.heap.get? b=some o->h'.get? b=some o)/\h'.get? s.heap.objs.size=some { cls:=.type "list",dict:=none,data:=.seq acc' c',slots:=#[] }/\ItemsOf (λi v=>∃t,v=.int (a+i*c) t) acc' n)
  B (au _ D) g C m s.heap.objs.size (.ref s.heap.objs.size) 0 (aF _ rfl) λh' tk acc' c' y j d=>⟨rfl,h',tk,acc',c',rfl,λb o e=>y b o (aP (aE e)) (au _ e),j,d⟩) (λx h p=>?_) λe h p=>k _ _ p
 cases x with
 | done f=>exact k _ _ p
 | again c'=>exact⟨p.1,codeAny_mono p.2 λH I G=>k _ _ G⟩
open AutoSeq1 (wpAny_loadPart')
theorem G2 {r:Addr}{a b c:Int}{t u v:Tok}{n:Nat}(hsmall:Builtin.Range.small a b c=true)(hn:Builtin.Range.rangeSize a b c=n)(hlen:n<=2 ^ 24)(hsz:n<=gn) :
  Meets (Builtin.«tuple.__new__» ⟨[.type "tuple",.ref r],[]⟩)
   (λA R s=>A.handled=none/\IsRange s.heap r a b c t u v/\∀(h':Heap) (tk:Nat) (acc:Array Value),(∀b o,s.heap.get? b=some o->h'.get? b=some o)->ItemsOf (λi v=>∃t,v=.int (a+i*c) t) acc n ->
    R (.ok (.ret (.ref h'.objs.size))) { s with heap:=h'.push { cls:=.type "tuple",data:=.seq acc },toks:=tk }) :=
 .of_wp λprog w A R s h=>by
  obtain⟨hh,hr,h⟩:=h
  have hsub:=sub_tuple_self
  have hinit:=init_tuple_lookup
  have hmh:=madeHere_tuple
  have hT:s.TypeIs (.ref r) "range":=⟨_,hr,rfl⟩
  have hh1:A.in1.handled=none:=hh
  wp_walk using wpAny_typeOf hT,C0 hh1 hr hsmall hn hlen
  intro h' tk acc hk hacc
  show gr _ _ (Builtin.Tuple.tupleExact acc.toList.toArray >>= λv=>ret v) _ _ _
  unfold Builtin.Tuple.tupleExact
  refine gg (wpAny_newObj_type ?_ (show acc.toList.toArray.size<=gn by simp only[Array.toArray_toList];rw[hacc.1];exact hsz))
  refine gl ⟨_,rfl,?_⟩
  have e:acc.toList.toArray=acc:=by simp
  rw[e]
  exact h h' tk acc hk hacc
theorem zc0 {Q:Value->gh->Prop}{r:Addr}{a b c:Int}{t u v:Tok}{n:Nat}(hh:A.handled=none)(hr:IsRange s.heap r a b c t u v)(hsmall:Builtin.Range.small a b c=true)
  (hn:Builtin.Range.rangeSize a b c=n) (hlen:n<=2 ^ 24) (hsz:n<=gn)
  (h:∀(h':Heap) (tk:Nat) (acc:Array Value),(∀b o,s.heap.get? b=some o->h'.get? b=some o)->ItemsOf (λi v=>∃t,v=.int (a+i*c) t) acc n->Q (.ref h'.objs.size) { s with heap:=h'.push { cls:=.type "tuple",data:=.seq acc },toks:=tk }) :
  gr (gu prog w) A (call (.type "tuple") [.ref r]) Q E s :=
 callType_new F.called_tuple (by decide) (F.typeCall_tuple_1 _) (F.newCall_tuple_1 _) (λobj=>F.args_object_init_2 obj _) F.entry_tuple_new
  (G2 hsmall hn hlen hsz) ⟨hh,hr,λh' tk acc hk hacc=>⟨⟨_,aF _ rfl,rfl⟩,h h' tk acc hk hacc⟩⟩
end
end PySem
namespace L2
open PySem PySem.Spec PyProof.Rows
theorem C6:∀{xs:List V} {us:List Value},xs.length=us.length->(∀(i:Nat) x u,xs[i]?=some x->us[i]?=some u->o5 x u)->o0 xs us
 | [],[],_,_=>.nil
 | [],_::_,h,_=>by cases h
 | _::_,[],h,_=>by cases h
 | x::xs,u::us,h,r=>.cons (r 0 x u rfl rfl) (C6 (by simpa using h) λi y w e1 e2=>r (i+1) y w (by simpa using e1) (by simpa using e2))
def X5 (lo:Int)(n:Nat):List V:=(List.range n).map λi=>V.int (lo+(i:Nat))
theorem T8 (lo:Int)(n:Nat):(X5 lo n).length=n:=by unfold X5;rw[aa,aA]
theorem zn2 {a:Array Value}{lo:Int}{n:Nat}(h:ItemsOf (λi v=>∃t,v=.int (lo+i*1) t) a n):o0 (X5 lo n) a.toList:=by
 obtain⟨h1,h2⟩:=h;refine C6 (by rw[T8,aG,h1]) λi x u b c=>?_;have hi:i<n:=by
  have:=(aw.mp b).1;rwa [T8]at this
 obtain⟨t,rfl⟩:=h2 i u (by simpa using c);unfold X5 at b;rw[af,aD hi]at b
 cases b
 exact⟨t,by rw[Int.mul_one]⟩
section
variable {X:Cx}
theorem U6:S6 X (.type "range") (λxs H Q=>∃j,xs=[.int j]/\∀p,H p=none->Q (.ref p) (upd H p (.rng 0 j))):=by
 intro pins s σ H xs a Q I r h;obtain⟨j,rfl,q⟩:=h;obtain⟨u,rfl,t,rfl⟩:=O9 r;exact call_range_1 ⟨.ref s.heap.objs.size,_,I.laid (λb o e=>au _ e) (aq _) (show k8 X.prog X.w _ _ _ (.rng 0 j) from⟨_,_,_,aF _ rfl⟩),rfl,q _ (I.hok.fresh (aq _))⟩
def yu9 (lo hi:Int):Prop:=-(2 ^ 62)<=lo/\lo<2 ^ 62/\-(2 ^ 62)<=hi/\hi<2 ^ 62/\(hi-lo).toNat<=1000000
theorem J5:1000000<=gn:=by decide
theorem Z8 (hc:X.calm=true):S6 X (.type "list") (λxs H Q=>∃p lo hi,xs=[.ref p]/\H p=some (.rng lo hi)/\yu9 lo hi/\∀l,H l=none->Q (.ref l) (upd H l (.lst (X5 lo (hi-lo).toNat)))):=by
 intro pins s σ H xs y Q I r h;obtain⟨p,lo,hi,rfl,d,⟨g,i,j,k,x⟩,q⟩:=h;obtain⟨u,rfl,f⟩:=O9 r
 cases f
 obtain⟨t,u,v,e⟩:=I.hok p _ d;have o:=J5;refine call_list_range (n:=(hi-lo).toNat) (I.ok.hd hc) e (small_one g i j k) (by rw[rangeSize_one];split <;> lia) (by lia) λh' m a c kp hS b=>?_;refine⟨.ref s.heap.objs.size,_,I.laid (t':=m) kp (aq _) (show k8 X.prog X.w _ h' _ (.lst (X5 lo (hi-lo).toNat)) from⟨by rw[T8];lia,a.toList,c,zn2 b,by simpa using hS⟩),rfl,q _ (I.hok.fresh (aq _))⟩
theorem G7 (hc:X.calm=true):S6 X (.type "tuple") (λxs H Q=>∃p lo hi,xs=[.ref p]/\H p=some (.rng lo hi)/\yu9 lo hi/\∀l,H l=none->Q (.ref l) (upd H l (.tup (X5 lo (hi-lo).toNat)))):=by
 intro pins s σ H xs A Q I r h;obtain⟨p,lo,hi,rfl,f,⟨j,k,m,x,z⟩,q⟩:=h;obtain⟨u,rfl,i⟩:=O9 r
 cases i
 obtain⟨t,u,v,g⟩:=I.hok p _ f;have y:=J5;refine zc0 (n:=(hi-lo).toNat) (I.ok.hd hc) g (small_one j k m x) (by rw[rangeSize_one];split <;> lia) (by lia) (by lia) λh' tk acc kp a=>?_;have c:Inv X pins σ H { s with heap:=h',toks:=tk }:=I.kept kp;have d:Inv X pins σ (upd H h'.objs.size (.tup (X5 lo (hi-lo).toNat))) { s with heap:=h'.push { cls:=.type "tuple",data:=.seq acc },toks:=tk } :=
  c.laid (t':=tk) (λb o e=>au _ e) (aq _) (show k8 X.prog X.w _ _ _ (.tup (X5 lo (hi-lo).toNat)) from⟨by rw[T8];lia,acc.toList,zn2 a,by simpa using zn4.new h' acc⟩)
 exact⟨.ref h'.objs.size,_,d,rfl,q _ (c.hok.fresh (aq _))⟩
def Itd (lo:Int)(n:Nat):It:=⟨λi _=>i<n,λi H x H'=>H'=H/\x=.int (lo-i),λi _=>n<=i⟩
theorem yf7 {P:gq}{w:gv}{K:PySem.W.Frag}{tg:Expr}(it:Addr)(lo:Int)(n:Nat):yg3 P w K tg (Itd lo n) [it] it (λi h=>IsRangeIter h it (lo+(i:Nat)*(-1)) ((n:Int)-(i:Nat)) (-1)) where
 mem:=by simp
 obj:=λi h st b hb=>by
  have e:b=it:=by simpa using hb
  subst e
  exact⟨_,st,λv z=>by
   have D:Data.fields _=Data.cell v:=z
   cases D⟩
 keep:=λi h h' st k=>k it (by simp) _ st
 item:=by
  intro X p u m q i pins s σ H E I c st r
  subst p u m
  obtain⟨d,f,A,g,j,l⟩:=c it (by simp)
  have W:=Walks.range (prog:=X.prog) (w:=X.w) (I.ok.hd q) it lo (-1) n
  refine W.item i s _ _ r st λv h' tk B a C=>?_
  obtain⟨t,rfl⟩:=B
  have x:Inv X pins σ H { s with heap:=h',toks:=tk }:=I.turned (λb o hb e=>C b o (by simpa using hb) e) d f g j l
  refine⟨_,rfl,ya6 (s:={ s with heap:=h',toks:=tk }) (n:="range_iterator") a rfl rfl (by decide) ⟨.int (lo-i),H,x,⟨t,?_⟩,⟨rfl,rfl⟩,a,λb hb=>(c b hb).1⟩⟩
  rw[show lo+(i:Int)*(-1)=lo-i by lia]
 done:=by
  intro X p u m q i pins s σ H E I c st r
  subst p u m
  obtain⟨d,f,A,g,j,l⟩:=c it (by simp)
  exact wpAny_pyNext_range_end (I.ok.hd q) st (by have:n<=i:=r;lia) λh' y=>⟨rfl,I.turned (t':=s.toks) (λb o hb e=>y b o hb e) d f g j l⟩
 self:=λ_ _ _ _ _ st h=>wpAny_pyIter_rangeiter st h
theorem za7 (a b:Int):Builtin.Range.rangeSize a b (-1)=((a-b).toNat:Int):=by
 unfold Builtin.Range.rangeSize;simp only[show ¬((-1:Int) > 0) by decide,if_false,show(-(-1):Int)=1 from rfl,Int.ediv_one]
 split <;> lia
theorem xb9 {a b:Int}(e:-(2 ^ 62)<=a)(c:a<2 ^ 62)(hb:-(2 ^ 62)<=b)(d:b<2 ^ 62):Builtin.Range.small a b (-1)=true:=by
 unfold Builtin.Range.small;rw[za7];simp only[Builtin.Range.rangeFitsLong,bp,fW,decide_eq_true_eq,beq_iff_eq,show ¬((-1:Int) > 0) by decide,if_false];lia
def xt8 (ta:TA):TI:=λσ H R=>ta σ H λvs H1=>∃i j:Int,vs=[.int i,.int j,.int (-1)]/\(-(2 ^ 62)<=i/\i<2 ^ 62/\-(2 ^ 62)<=j/\j<2 ^ 62)/\R (Itd i (i-j).toNat) H1
theorem yt4 {tg:Expr}{pins:List (Addr×Obj)}{σ:St}{H:Hp}{s:gh}{R:It->Hp->Prop}{E:Value->gh->Prop}{lo hi:Int}{t u v:Tok}{c:Nat}(I:Inv X pins σ H s)(h1:-(2 ^ 62)<=lo)(h2:lo<2 ^ 62)(g:-(2 ^ 62)<=hi)(h:hi<2 ^ 62)
  (q:R (Itd lo (lo-hi).toNat) H):gr (gu X.prog X.w) X.A (pyIter (.ref s.heap.objs.size)) (PIE X pins σ tg R) E { s with heap:=s.heap.push { cls:=.type "range",data:=.fields #[.int lo t,.int hi u,.int (-1) v] },toks:=c }:=by
 refine wpAny_pyIter_range (IsRange.new ..) (xb9 h1 h2 g h) ?_;have a:Inv X pins σ H { s with heap:=s.heap.push { cls:=.type "range",data:=.fields #[.int lo t,.int hi u,.int (-1) v] },toks:=c }:=I.kept λb o e=>au _ e;refine⟨(s.heap.push { cls:=.type "range",data:=.fields #[.int lo t,.int hi u,.int (-1) v] }).objs.size,[(s.heap.push { cls:=.type "range",data:=.fields #[.int lo t,.int hi u,.int (-1) v] }).objs.size],_,_,H,rfl,
  a.kept (t':=c) λb o e=>au _ e,yf7 _ lo (lo-hi).toNat,?_,λb hb=>?_,q⟩
 .have d:lo+((0:Nat):Int)*(-1)=lo:=by simp
  have f:(((lo-hi).toNat:Nat):Int)-((0:Nat):Int)=Builtin.Range.rangeSize lo hi (-1):=by rw[za7];lia
  show IsRangeIter _ _ (lo+((0:Nat):Int)*(-1)) ((((lo-hi).toNat:Nat):Int)-((0:Nat):Int)) (-1);rw[d,f];exact aF _ rfl
 .have e:b=(s.heap.push { cls:=.type "range",data:=.fields #[.int lo t,.int hi u,.int (-1) v] }).objs.size:=by simpa using hb
  subst e;exact a.fpOk (aq _) (a.hok.fresh (aq _))
theorem yt1 {tg a b c:Expr}{ta:TA}{p pos:Pos}(hg:Gl X "range")(hm:X.mg "range"=none)(ha:PA X [a,b,c] ta)(hs:gs [a,b,c] X.env=[(false,eval a X.env),(false,eval b X.env),(false,eval c X.env)]:=by rfl)
  (hs2:gs [b,c] X.env=[(false,eval b X.env),(false,eval c X.env)]:=by rfl):PI X tg (.Call (.Name "range" p) [a,b,c] [] pos) (xt8 ta):=by
 intro pins s σ H R I h;refine Call_ (B2 I hg hm boot_range (PyProof.Rows.callWith_type1 (thn (ha pos pins s σ H _ I h) λus s1 ⟨vs,H1,I1,r1,q1⟩=>?_) (by rw[hs,hs2]) (by rw[hs2];rfl)));obtain⟨i,j,e,⟨q1,q2,q3,q4⟩,q⟩:=q1;subst e
 cases r1 with
 | cons r rr =>
  cases rr with
  | cons r' rr =>
   cases rr with
   | cons r'' rr =>
    cases rr
    obtain⟨t,rfl⟩:=r;obtain⟨t',rfl⟩:=r';obtain⟨t'',rfl⟩:=r'';exact call_range_3 (by decide) (yt4 I1 q1 q2 q3 q4 q) (Or.inl (PyProof.noPylong_small (by lia)))
theorem yh0 {lo:Int}{n:Nat}{g:TG}{tb:TS}{D:zg8}{σ:St}{H:Hp}(a:Nat->St->Hp->Prop)(c:a 0 σ H)
  (hs:∀i σ H,i<n->a i σ H->g (.int (lo-i)) σ H λσ2 H2=>tb { D with nx:=a (i+1),ct:=a (i+1),bk:=D.nx } σ2 H2) (d:∀σ H,a n σ H->D.nx σ H) :
  ∃W:Nat->Nat->St->Hp->Prop,(∃m,W 0 m σ H)/\∀i m σ H,W i m σ H ->
   ((Itd lo n).stop i H/\D.nx σ H)∨((Itd lo n).go i H/\∃N:St->Hp->Prop,(∀b H',N b H'->∃m',m'<m/\W (i+1) m' b H')/\∀x H',(Itd lo n).yld i H x H'->g x σ H' λσ2 H2=>tb { D with nx:=N,ct:=N,bk:=D.nx } σ2 H2):=by
 refine⟨λi m σ H=>m=n-i/\i<=n/\a i σ H,⟨n,by simp,aY _,c⟩,?_⟩;rintro i m σ H ⟨rfl,hi,p⟩;by_cases hlt:i<n
 .refine .inr ⟨hlt,a (i+1),λb H' f=>⟨n-(i+1),by lia,rfl,hlt,f⟩,λx H' y=>?_⟩;obtain⟨e,y⟩:=y;subst e y;exact hs i σ _ hlt p
 .have e:i=n:=by lia
  subst e;exact .inl ⟨aq _,d σ H p⟩
theorem W6:S6 X (.builtin "isinstance") (λxs H Q=>∃x t c b,xs=[x,.ty c]/\G4 X.K H x t/\W.kitOne X.K t (.type c)=some b/\Q (.bl b) H):=by
 intro pins s σ H xs i Q I r h;obtain⟨x,t,c,b,rfl,ty,e,q⟩:=h;obtain⟨u,g,rfl,d,a⟩:=yp6 r
 cases (show g=Value.type c from a)
 exact yr9 I d ty e λf=>⟨.bl b,H,I.tok f,rfl,q⟩
theorem D1 {J:It}{fr:List Nat}{te:CT TE}{σ:St}{H1:Hp}{Q:Addr->Hp->Prop}{n:Nat}(ys:List V)(B:ys.length=n)(C:n<=gn)
  (a:∀H,y8 H1 H->J.stop n H) (t:∀i H,i<n->y8 H1 H->J.go i H)
  (l:∀i H x H2,i<n->y8 H1 H->J.yld i H x H2->H2=H/\∀d k f g,te d k f g (some x::fr.map λj=>(σ[j]?).getD none) H λy c=>y8 H c/\ys[i]?=some y)
  (r:∀D H,H1 D=none->y8 H1 H->H D=some (.lst ys)->Q D H) :
  ∀D,H1 D=none->∃W:Nat->Nat->St->Hp->Prop,(∃m,W 0 m (M2 1 fr σ) (upd H1 D (.lst [])))/\∀i m p H',W i m p H' ->
  (J.stop i H'/\Q D H')∨(J.go i H'/\∀x H2,J.yld i H' x H2->∀d k f g,Z0 0 x p H2 λσ3 H3=>∃N:VK,te d k f g σ3 H3 N/\∀y c,N y c ->
   ∃ys m',c D=some (.lst ys)/\ys.length<gn/\m'<m/\W (i+1) m' σ3 (upd c D (.lst (ys++[y])))):=by
 intro D s
 have A:∀o,y8 H1 (upd H1 D o):=λo b u e=>by rw[y0 (y9 e s)];exact e
 refine⟨λi m p H'=>m=n-i/\i<=n/\y8 H1 H'/\H' D=some (.lst (ys.take i))/\∃z,p=z::fr.map λj=>(σ[j]?).getD none,⟨n,rfl,aY _,A _,by rw[z3];rfl,none,rfl⟩,?_⟩
 rintro i m p H' ⟨rfl,hi,h,hl,z,rfl⟩
 by_cases hlt:i<n
 .refine .inr ⟨t i H' hlt h,λx H2 y d k f g=>?_⟩
  obtain⟨e,q⟩:=l i H' x H2 hlt h y
  subst e
  refine⟨_,q d k f g,λy c ⟨v,w⟩=>⟨ys.take i,n-(i+1),v _ _ hl,?_,by lia,rfl,hlt,?_,?_,_,rfl⟩⟩
  .rw[aX];lia
  .intro b u e
   rw[y0 (y9 e s)]
   exact v _ _ (h _ _ e)
  .rw[z3,be,w]
   rfl
 .have e:i=n:=by lia
  subst e
  refine .inl ⟨a H' h,r D H' s h ?_⟩
  rw[hl,bF (by lia)]
theorem y8.seqT {K:W.Frag}{H H':Hp}{a:Addr}{xs:List V}(e:y8 H H')(h:SqT K H a xs):SqT K H' a xs:=by
 rcases h with (h|⟨o,h⟩)|h
 .exact .inl (.inl (e _ _ h))
 .exact .inl (.inr ⟨o,e _ _ h⟩)
 .exact .inr h
theorem A4 {K:PySem.W.Frag}{a:Addr}{xs:List V}{fr:List Nat}{te:CT TE}{σ:St}{H1:Hp}{Q:Addr->Hp->Prop}(hS:SqT K H1 a xs)(ys:List V)(hn:ys.length=xs.length)(hz:xs.length<=gn)
  (turn:∀(i:Nat) H x,xs[i]?=some x->y8 H1 H->∀C₀ s₀ H₀ fp,te C₀ s₀ H₀ fp (some x::fr.map λj=>(σ[j]?).getD none) H λy H4=>y8 H H4/\ys[i]?=some y)
  (fin:∀D H,H1 D=none->y8 H1 H->H D=some (.lst ys)->Q D H) :
  ∀D,H1 D=none->∃W:Nat->Nat->St->Hp->Prop,(∃m,W 0 m (M2 1 fr σ) (upd H1 D (.lst [])))/\∀i m σ' H',W i m σ' H' ->
  ((Itt K a).stop i H'/\Q D H')∨((Itt K a).go i H'/\∀x H2,(Itt K a).yld i H' x H2->∀C₀ s₀ H₀ fp,Z0 0 x σ' H2 λσ3 H3=>∃N:VK,te C₀ s₀ H₀ fp σ3 H3 N/\∀y H4,N y H4 ->
   ∃ys m',H4 D=some (.lst ys)/\ys.length<gn/\m'<m/\W (i+1) m' σ3 (upd H4 D (.lst (ys++[y])))) :=
 D1 ys hn hz (λH s=>⟨xs,s.seqT hS,aq _⟩) (λi H hi s=>⟨xs,xs[i],s.seqT hS,by simp[hi]⟩) (λi H x H2 hi s y=>⟨y.1,turn i H x (y.2 xs (s.seqT hS)) s⟩) fin
theorem zq1 {K:PySem.W.Frag}{a:Addr}{xs:List V}{fr:List Nat}{te:CT TE}{σ:St}{H1:Hp}{Q:Addr->Hp->Prop}(hS:SqL K H1 a xs)(ys:List V)(hn:ys.length=xs.length)(hz:xs.length<=gn)
  (turn:∀(i:Nat) H x,xs[i]?=some x->y8 H1 H->∀C₀ s₀ H₀ fp,te C₀ s₀ H₀ fp (some x::fr.map λj=>(σ[j]?).getD none) H λy H4=>y8 H H4/\ys[i]?=some y)
  (fin:∀D H,H1 D=none->y8 H1 H->H D=some (.lst ys)->Q D H) :
  ∀D,H1 D=none->∃W:Nat->Nat->St->Hp->Prop,(∃m,W 0 m (M2 1 fr σ) (upd H1 D (.lst [])))/\∀i m σ' H',W i m σ' H' ->
  ((Itl K a).stop i H'/\Q D H')∨((Itl K a).go i H'/\∀x H2,(Itl K a).yld i H' x H2->∀C₀ s₀ H₀ fp,Z0 0 x σ' H2 λσ3 H3=>∃N:VK,te C₀ s₀ H₀ fp σ3 H3 N/\∀y H4,N y H4 ->
   ∃ys m',H4 D=some (.lst ys)/\ys.length<gn/\m'<m/\W (i+1) m' σ3 (upd H4 D (.lst (ys++[y])))) :=
 D1 ys hn hz (λH s=>⟨xs,s.seq hS,aq _⟩) (λi H hi s=>⟨xs,xs[i],s.seq hS,by simp[hi]⟩) (λi H x H2 hi s y=>⟨y.1,turn i H x (y.2 xs (s.seq hS)) s⟩) fin
end
end L2
namespace PySem
open Sem (wp)
open AutoSeq1 (wpAny_loadPart')
section
variable {prog:gq}{w:gv}{A:gw}{E:Value->gh->Prop}{s:gh}
theorem L0 {it t:Addr}{i:Nat}{items}{x:Value}{Q:Value->gh->Prop}(hit:s.heap.IsTupleIter it t i)(g:s.heap.IsTuple t items)(h:items[i]?=some x)
  (e:∀h',h'.IsTupleIter it t (i+1)->Heap.SameBut it s.heap h'->Q x { s with heap:=h' }):gr (gu prog w) A (Builtin.SmallTypes.nextOf (.ref it)) Q E s:=by
 obtain⟨o,b,f,a⟩:=id hit;obtain⟨k,d,_,j,c⟩:=g;unfold Builtin.SmallTypes.nextOf;refine gg (wpAny_callSpecial?_slot (name:=Str.ofString "__next__") hit.typeIs F.slot_tuple_iterator_next
  (wpAny_call_entry F.slot_tuple_iterator_next hit.typeIs F.entry_tuple_iterator_next ?_ (F.args_tuple_iterator_next_1 _)))
 show gr _ _ (field (.ref it) 0 >>= _) _ _ s;refine gg (wpAny_field b a (x:=.ref t) rfl ?_);show gr _ _ (if (Value.ref t==Value.none)=true then _ else _) _ _ s;rw[if_neg (show ¬((Value.ref t==Value.none)=true) from aH)];show gr _ _ (field (.ref it) 1 >>= _) _ _ s;refine gg (wpAny_field b a (x:=.int i 0) rfl ?_);show gr _ _ (seqItems? (.ref t) >>= _) _ _ s;refine gg (wpAny_seqItems d c ?_);simp only[aK,h];refine gg (wpAny_setField b a (by simp) (gl ⟨x,rfl,gl (e _ ?_ (Heap.SameBut.update ..))⟩));exact⟨_,Heap.get?_update_self _ b (Obj.isFreed_of_fields (Obj.data_mapFields a _)),(Obj.cls_mapFields ..).trans f,by
  rw[Obj.data_mapFields a];simp[rawInt]⟩
theorem U3 {it t:Addr}{i:Nat}{items}{Q:Value->gh->Prop}(g:A.handled=none)
  (hit:s.heap.IsTupleIter it t i) (j:s.heap.IsTuple t items) (k:items[i]?=none)
  (h:∀h' e,Heap.ExtBut it s.heap h'->(∃o,h'.get? e=some o/\o.cls=.type "StopIteration")->E (.ref e) { s with heap:=h' }) :
  gr (gu prog w) A (Builtin.SmallTypes.nextOf (.ref it)) Q E s:=by
 obtain⟨o,d,l,b⟩:=id hit;obtain⟨p,f,_,n,c⟩:=j;unfold Builtin.SmallTypes.nextOf;refine gg (wpAny_callSpecial?_slot (name:=Str.ofString "__next__") hit.typeIs F.slot_tuple_iterator_next
  (wpAny_call_entry F.slot_tuple_iterator_next hit.typeIs F.entry_tuple_iterator_next ?_ (F.args_tuple_iterator_next_1 _)))
 show gr _ _ (field (.ref it) 0 >>= _) _ _ s;refine gg (wpAny_field d b (x:=.ref t) rfl ?_);show gr _ _ (if (Value.ref t==Value.none)=true then _ else _) _ _ s;rw[if_neg (show ¬((Value.ref t==Value.none)=true) from aH)];show gr _ _ (field (.ref it) 1 >>= _) _ _ s;refine gg (wpAny_field d b (x:=.int i 0) rfl ?_);show gr _ _ (seqItems? (.ref t) >>= _) _ _ s;refine gg (wpAny_seqItems f c ?_);simp only[aK,k];refine gg (wpAny_rule (gg (wpAny_setField d b (by simp) ?_)));show gr _ _ (newExc (.type "StopIteration") [] >>= _) _ _ _;refine gg ?_;simp only[newExc,newTuple];refine gg (wpAny_newObj_type ?_ (by size_fits));refine gg (m:=firstArgMember _ _) (wpAny_of_eq (a:=Value.none) (by first|rfl|(simp only[firstArgMember];rfl)) ?_);refine wpAny_newObj_type ?_ (by size_fits);simp only[raiseNew];refine gg (wpAny_handled ?_)
 first|rw[show A.in1.handled=none from g]|rw[g]
 refine gg (gl (wpAny_throw ?_));exact h _ _ (((Heap.SameBut.update ..).extBut.push _).push _) ⟨_,aF _ rfl,rfl⟩
end
theorem Draws.tuple {prog:gq}{w:gv}{A:gw}(hh:A.handled=none)(it l:Addr)(hne:l≠it)(items:Array Value) :
  Draws prog w A it [it,l] items.size (λi v=>items[i]?=some v) (λi h=>h.IsTupleIter it l i/\h.IsTuple l items) where
 live:=λ_ _ st=>let ⟨o,ho,_⟩:=st.1;⟨o,ho⟩
 frame:=λ_ _ _ st hk=>⟨st.1.at λo e=>hk it (by simp) o e,let ⟨o,ho,r⟩:=st.2;⟨o,hk l (by simp) o ho,r⟩⟩
 item:=λi s Q E hi st hQ=>by
  refine L0 st.1 st.2 (x:=items[i]) (by simp[hi]) λh' hit' hs'=>?_
  exact hQ _ h' s.toks (by simp[hi]) ⟨hit',st.2.extBut hs'.extBut hne⟩ hs'
 done:=λs Q E st hE=>U3 hh st.1 st.2 (by simp) hE
theorem F6 (l:Addr)(items:Array Value)(n:Nat)(dct:Option Addr)(sl:Array (Option Value)) :
  Meets (Builtin.«enumerate.__new__» ⟨[.type "enumerate",.ref l],[]⟩) (λ_ R s=>s.heap.get? l=some { cls:=.type "tuple",dict:=dct,data:=.seq items n,slots:=sl } /\
   R (.ok (.ret (.ref (s.heap.push { cls:=.type "tuple_iterator",data:=.fields #[.ref l,.int 0 0] }).objs.size)))
    {s with heap:=(s.heap.push { cls:=.type "tuple_iterator",data:=.fields #[.ref l,.int 0 0] }).push { cls:=.type "enumerate",data:=.fields #[.none,.bool false,.ref s.heap.objs.size,rawInt 0,.none,.none] } }) :=
 .of_wp λprog w A R s h=>by
  obtain⟨hp,g,d,tk,os⟩:=s;obtain⟨hl,h⟩:=h
  have hsub:=sub_enumerate
  have hL:Heap.IsTuple (Shared.heap ⟨hp,g,d,tk,os⟩) l items:=⟨_,hl,rfl,n,rfl⟩
  wp_walk using wpAny_loadPart' hl
  refine wpAny_stack_any λst=>gl ?_
  split
  .rename_i c _ _ _ _ _
   cases (c==Value.type "enumerate")
   .wp_walk using wpAny_loadPart' hl,wpAny_pyIter_tuple hL
    exact⟨_,rfl,h⟩
   .wp_walk using wpAny_loadPart' hl,wpAny_pyIter_tuple hL
    exact⟨_,rfl,h⟩
  .wp_walk using wpAny_loadPart' hl,wpAny_pyIter_tuple hL
   exact⟨_,rfl,h⟩
section
variable {prog:gq}{w:gv}{A:gw}{E:Value->gh->Prop}{s:gh}
theorem G6 {l:Addr}{items:Array Value}{Q:Value->gh->Prop}(k:s.heap.IsTuple l items)
  (h:∀h',IsEnum h' (s.heap.objs.size+1) s.heap.objs.size 0 .none->h'.IsTupleIter s.heap.objs.size l 0->h'.objs.size=s.heap.objs.size+2 ->
   (∀b o,s.heap.get? b=some o->h'.get? b=some o)->Q (.ref (s.heap.objs.size+1)) { s with heap:=h' }) :
  gr (gu prog w) A (call (.type "enumerate") [.ref l]) Q E s:=by
 obtain⟨⟨c,a,j,sl⟩,hl,d,n,e⟩:=k;replace d:c=.type "tuple":=d;replace e:j=.seq items n:=e;subst d e;refine callType_new F.called_enumerate (by decide) (F.typeCall_enumerate_1 _) (F.newCall_enumerate_1 _) (λg=>F.args_object_init_2 g _) F.entry_enumerate_new
  (F6 l items n a sl) ⟨hl,?_⟩
 have f:(s.heap.push { cls:=.type "tuple_iterator",data:=.fields #[.ref l,.int 0 0] }).objs.size=s.heap.objs.size+1:=cO ..;show _/\_;rw[f];have i:IsEnum ((s.heap.push { cls:=.type "tuple_iterator",data:=.fields #[.ref l,.int 0 0] }).push
   {cls:=.type "enumerate",data:=.fields #[.none,.bool false,.ref s.heap.objs.size,rawInt 0,.none,.none] }) (s.heap.objs.size+1) s.heap.objs.size 0 .none:=by
  have:=aF (s.heap.push { cls:=.type "tuple_iterator",data:=.fields #[.ref l,.int 0 0] })
   (o:={ cls:=.type "enumerate",data:=.fields #[.none,.bool false,.ref s.heap.objs.size,rawInt 0,.none,.none] }) rfl
  rw[f]at this;exact this
 refine⟨⟨_,i,rfl⟩,h _ i ⟨_,au _ (aF _ rfl),rfl,rfl⟩ (by rw[cO,f]) λb o x=>au _ (au _ x)⟩
end
end PySem
namespace L2
open PySem PySem.Spec PyProof.Rows
section
variable {X:Cx}
theorem Inv.pair {pins:List (Addr×Obj)}{σ:St}{H:Hp}{s:gh}{h':Heap}{t':Nat}{e it:Addr}{xs:List V}{its:List Value}(I:Inv X pins σ H s)(g:zb7 X pins H e)(h:zb7 X pins H it)
  (k:∀b o,b≠e->b≠it->s.heap.get? b=some o->h'.get? b=some o) (hT:zn4 h' s.heap.objs.size its.toArray) (w:o0 xs its) (x:xs.length<=gn) :
  Inv X pins σ (upd H s.heap.objs.size (.tup xs)) { s with heap:=h',toks:=t' }:=by
 have i:zb7 X pins H s.heap.objs.size:=I.fpOk (aq _) (I.hok.fresh (aq _));have f:∀b o,H b=some o->b≠s.heap.objs.size:=λb o q z=>by rw[z,i.1]at q;cases q
 have j:∀b o,H b=some o->b≠e:=λb o q z=>by rw[z,g.1]at q;cases q
 have l:∀b o,H b=some o->b≠it:=λb o q z=>by rw[z,h.1]at q;cases q
 have ok:∀b∈[e,it,s.heap.objs.size],zb7 X pins H b:=λb hb=>by
  simp only[ay,ba,or_false]at hb;rcases hb with rfl|rfl|rfl
  .exact g
  .exact h
  .exact i
 have a:∀b,b∉[e,it,s.heap.objs.size]->b≠e/\b≠it/\b≠s.heap.objs.size:=λb hb=>by
  simp only[ay,ba,or_false,not_or]at hb;exact hb
 refine I.step (g':=s.gens) (d':=s.drawn) (ch:=[e,it,s.heap.objs.size]) (λb hb=>⟨(ok b hb).2.2.2.1,(ok b hb).2.1,(ok b hb).2.2.2.2.1,(ok b hb).2.2.2.2.2⟩)
  (λb o _ _ d q _=>k b o (a b d).1 (a b d).2.1 q) (λb o _ _ d q _=>⟨o.slots,k b o (a b d).1 (a b d).2.1 q⟩) (λb o d q n=>by rw[y0 (a b d).2.2];exact n)
  (λb o d q=>⟨o,k b o (a b d).1 (a b d).2.1 q⟩) (λb ys q=>by rw[y0 (f b _ q)];exact q) (λb o u q=>by rw[y0 (f b _ q)];exact q) (λb ps q=>⟨#[],by rw[y0 (f b _ q),q];simp⟩)
  (λm hm=>?_) (λb u q=>?_) I.bare
 .obtain⟨o,es,p,t,r⟩:=hm;exact⟨o,es,p,k _ o (Ne.symm g.2.1) (Ne.symm h.2.1) t,r⟩
 .by_cases hb:b=s.heap.objs.size
  .subst hb;rw[z3]at q
   cases q
   exact⟨x,its,w,hT⟩
  .rw[y0 hb]at q;refine(I.hok b u q).stay (λc v d z=>k c v ?_ ?_ z) (λc z=>by rw[y0 (f c _ z)];exact z) λc ys z=>by rw[y0 (f c _ z)];exact z
   .rcases d with z|z
    .rw[z];exact j b u q
    .exact j c _ z
   .rcases d with z|z
    .rw[z];exact l b u q
    .exact l c _ z
def Ite (Sq:Hp->List V->Prop):It :=
 ⟨λi H=>∃xs x,Sq H xs/\xs[i]?=some x,λi H x H'=>∃T v,H T=none/\x=.ref T/\H'=upd H T (.tup [.int (i:Nat),v])/\∀xs,Sq H xs->xs[i]?=some v,λi H=>∃xs,Sq H xs/\xs.length<=i⟩
theorem yk1 {P:gq}{w:gv}{K:W.Frag}{B:List Expr}{x1:Nat}{tp:Pos}(a e it:Addr)(n:e≠it):yg3 P w K (.Tuple B x1 tp) (Ite λH xs=>SqT K H a xs) [e,it] e (λi h=>(∃old,IsEnum h e it i old)/\h.IsTupleIter it a i) where
 mem:=by simp
 obj:=λi h st b hb=>by
  obtain⟨⟨old,f⟩,o,r,c,d⟩:=st
  rcases ay.mp hb with z|z
  .subst z
   exact⟨_,f,λv q=>by have q':Data.fields _=Data.cell v:=q;cases q'⟩
  .have z':b=it:=by simpa using z
   subst z'
   exact⟨o,r,λv q=>by rw[d]at q;cases q⟩
 keep:=λi h h' st k=>⟨let ⟨old,f⟩:=st.1;⟨old,k e (by simp) _ f⟩,st.2.at λo q=>k it (by simp) o q⟩
 item:=by
  intro X t Y M Q i pins s σ H E I G st U
  subst t Y M
  obtain⟨xs,x,L,Z⟩:=U
  obtain⟨its,rv,p,hz⟩:=I.tuple L
  obtain⟨u,hu,ru⟩:=rv.get Z
  obtain⟨⟨old,f⟩,hit⟩:=st
  have C:=G e (by simp)
  have l:=G it (by simp)
  have hlt:i<its.toArray.size:=by
   have:=(aw.mp hu).1
   simpa using this
  obtain⟨oa,g,m,na,ah⟩:=id p
  have O:a≠it:=λz=>by
   obtain⟨o,r,c,d⟩:=id hit
   rw[z,r]at g
   cases g
   rw[c]at m
   exact absurd m (by decide)
  have N:e∉[it,a]:=by
   intro z
   simp only[ay,ba,or_false]at z
   rcases z with z|z
   .exact n z
   .rw[←z,f]at g
    cases g
    exact absurd (show Value.type "enumerate"=Value.type "tuple" from m) (by decide)
  refine wpAny_pyNext_enum_itemD (Draws.tuple (A:=X.A.in1) (I.ok.hd Q) it a O its.toArray) f ⟨hit,p⟩ hlt n N λy h' tk t r V hT ai kk=>?_
  obtain rfl:y=u:=by
   have:its.toArray[i]?=some u:=by simpa using hu
   rw[this]at t
   exact(Option.some.inj t).symm
  have I1:Inv X pins σ (upd H s.heap.objs.size (.tup [.int (i:Nat),x])) { s with heap:=h',toks:=tk+1 }:=I.pair (its:=[.int i tk,y]) C l kk ⟨_,hT,rfl,_,rfl,rfl⟩ (.cons ⟨tk,rfl⟩ (.cons ru .nil)) (by show 2<=gn;decide)
  have ab:∀b∈[e,it],b≠s.heap.objs.size:=λb hb z=>by
   rcases ay.mp hb with q|q
   .rw[←q,z]at f
    exact absurd (aE f) (bU _)
   .have q':b=it:=by simpa using q
    obtain⟨o,J,_⟩:=hit
    rw[←q',z]at J
    exact absurd (aE J) (bU _)
  have fr:∀b∈[e,it],(upd H s.heap.objs.size (.tup [.int (i:Nat),x])) b=none:=λb hb=>by rw[y0 (ab b hb)];exact(G b hb).1
  refine⟨_,rfl,wpAny_letOwnedTupleGo_enum (s:={ s with heap:=h',toks:=tk+1 }) r λh'' D j=>?_⟩
  have I2:Inv X pins σ (upd H s.heap.objs.size (.tup [.int (i:Nat),x])) { s with heap:=h'',toks:=tk+1 }:=I1.turned (t':=tk+1) (λb o hb q=>(j.2 b hb).trans q) (fr e (by simp)) C.2.1 C.2.2.2.1 C.2.2.2.2.1 C.2.2.2.2.2
  refine⟨.ref s.heap.objs.size,_,I2,rfl,⟨s.heap.objs.size,x,I.hok.fresh (aq _),rfl,rfl,λys hy=>by rw[I.tuple_inj hy L];exact Z⟩,⟨⟨y,by simpa using D⟩,V.1.at λo q=>(j.2 it (Ne.symm n)).trans q⟩,fr⟩
 done:=by
  intro X t Y M Q i pins s σ H E I G st U
  subst t Y M
  obtain⟨xs,L,Z⟩:=U
  obtain⟨its,rv,p,hz⟩:=I.tuple L
  obtain⟨⟨old,f⟩,hit⟩:=st
  have l:=G it (by simp)
  have hT:s.TypeIs (.ref e) "enumerate":=⟨_,f,rfl⟩
  unfold pyNext
  refine gg (wpAny_attempt (wpAny_callSpecial?_slot (name:=Str.ofString "__next__") hT F.slot_enumerate_next
   (wpAny_call_entry F.slot_enumerate_next hT F.entry_enumerate_next ?_ (F.args_enumerate_next_1 _))))
  show gr _ _ (field (.ref e) 2 >>= _) _ _ _
  refine gg (wpAny_field f rfl (x:=.ref it) rfl ?_)
  have hl:=rv.length
  refine gg (U3 (A:=_) (I.ok.hd Q) hit p (by simp;lia) λh' x S aa=>?_)
  obtain⟨o,r,R⟩:=aa
  refine gg (wpAny_isInstance (T:="StopIteration") (b:=true) ⟨o,r,R⟩ isSubtype_stop ?_)
  exact gl ⟨rfl,I.turned (t':=s.toks) (λb o hb q=>S b o hb q) l.1 l.2.1 l.2.2.2.1 l.2.2.2.2.1 l.2.2.2.2.2⟩
 self:=λ_ _ _ _ _ st h=>let ⟨_,f⟩:=st.1;wpAny_pyIter_enum f h
def xm8 (K:W.Frag)(ta:TA):TI:=λσ H R=>ta σ H λvs H1=>∃a,vs=[.ref a]/\(∃xs,SqT K H1 a xs)/\R (Ite λH xs=>SqT K H a xs) H1
theorem yc9 {elts:List Expr}{x1:Nat}{tp:Pos}{a:Expr}{ta:TA}{p pos:Pos}(hg:Gl X "enumerate")(hm:X.mg "enumerate"=none)(ha:PA X [a] ta)(hs:gs [a] X.env=[(false,eval a X.env)]:=by rfl):PI X (.Tuple elts x1 tp) (.Call (.Name "enumerate" p) [a] [] pos) (xm8 X.K ta):=by
 intro pins s σ H R I h;refine Call_ (B2 I hg hm boot_enumerate (PyProof.Rows.callWith_type1 (thn (ha pos pins s σ H _ I h) λus s1 ⟨vs,H1,I1,r1,q1⟩=>?_) hs rfl));obtain⟨b,e,⟨xs,hq⟩,q⟩:=q1;subst e
 cases r1 with
 | cons r rr =>
  cases rr
  cases r
  obtain⟨its,rv,pl,hz⟩:=I1.tuple hq;refine G6 pl λh' he hit hsz kk=>?_;have I2:Inv X pins σ H1 { s1 with heap:=h' }:=I1.kept (t':=s1.toks) kk;refine wpAny_pyIter_enum he ⟨s1.heap.objs.size+1,[s1.heap.objs.size+1,s1.heap.objs.size],_,_,H1,rfl,I2,yk1 b _ _ (dD (cQ _)),⟨⟨.none,by simpa using he⟩,hit⟩,λc hc=>?_,q⟩;have hle:s1.heap.objs.size<=c:=by
   simp only[ay,ba,or_false]at hc;rcases hc with rfl|rfl
   .exact dJ _
   .exact aq _
  exact I1.fpOk hle (I1.hok.fresh hle)
theorem ya4 {b:Hp->List V->Prop}{xs:List V}{g:TG}{tb:TS}{D:zg8}{σ:St}{H:Hp}(a:Nat->St->Hp->Prop)(d:a 0 σ H)(hl:∀i σ H,i<=xs.length->a i σ H->b H xs)
  (hs:∀i x σ H T,xs[i]?=some x->a i σ H->H T=none->g (.ref T) σ (upd H T (.tup [.int (i:Nat),x])) λσ2 H2=>tb { D with nx:=a (i+1),ct:=a (i+1),bk:=D.nx } σ2 H2) (f:∀σ H,a xs.length σ H->D.nx σ H) :
  ∃W:Nat->Nat->St->Hp->Prop,(∃m,W 0 m σ H)/\∀i m σ H,W i m σ H ->
   ((Ite b).stop i H/\D.nx σ H)∨((Ite b).go i H/\∃N:St->Hp->Prop,(∀c H',N c H'->∃m',m'<m/\W (i+1) m' c H')/\∀x H',(Ite b).yld i H x H'->g x σ H' λσ2 H2=>tb { D with nx:=N,ct:=N,bk:=D.nx } σ2 H2):=by
 refine⟨λi m σ H=>m=xs.length-i/\i<=xs.length/\a i σ H,⟨xs.length,by simp,aY _,d⟩,?_⟩;rintro i m σ H ⟨rfl,hi,p⟩;have q:=hl i σ H hi p;by_cases hlt:i<xs.length
 .refine .inr ⟨⟨xs,xs[i],q,by simp[hlt]⟩,a (i+1),λc H' j=>⟨xs.length-(i+1),by lia,rfl,hlt,j⟩,λx H' y=>?_⟩;obtain⟨T,v,hT,rfl,rfl,h⟩:=y;exact hs i v σ H T (h xs q) p hT
 .have e:i=xs.length:=by lia
  subst e;exact .inl ⟨⟨xs,q,aq _⟩,f σ H p⟩
end
section
variable {X:Cx}
theorem xa3 (g:X.A.units+64<cLine):OpR X (compareOp .Eq) (λx y H Q=>∃(a b:Addr) (d c:List Int),x=.ref a/\y=.ref b/\SqL X.K H a (d.map V.int)/\SqL X.K H b (c.map V.int)/\Q (.bl (decide (d=c))) H):=by
 intro pins s σ H x y v u Q I m n h;obtain⟨a,b,d,c,rfl,rfl,f,hb,q⟩:=h
 cases m
 cases n
 obtain⟨i,k,j,_⟩:=I.list f;obtain⟨e,l,p2,_⟩:=I.list hb;exact W.eq_intsK j.isList (L9 k) p2.isList (L9 l) g ⟨.bl _,H,I,rfl,q⟩
end
section
variable {X:Cx}
theorem zp7 (hc:X.calm=true):S6 X (.builtin "sum") (λxs H Q=>∃(p:Addr) (a:List Int),xs=[.ref p]/\SqL X.K H p (a.map V.int)/\Q (.int a.sum) H):=by
 intro pins s σ H xs w Q I r h;obtain⟨p,a,rfl,j,q⟩:=h;obtain⟨u,rfl,n⟩:=O9 r
 cases n
 obtain⟨c,l,k,t⟩:=I.list j;obtain⟨m,F⟩:=I.fr;have N:=yz7 (g:=X.base) (h:=s.heap) (L:=X.env.locals);have hi:=L9 l;obtain⟨ys,d⟩:=hi.allInts.items;have b:s.heap.IsList p (intItems ys):=d ▸ k.isList;refine sum_intListG (I.ok.hd hc) b λh' v o i=>?_;have e:a=ys.toList.map (·.1):=by
  rw[←nums_intItems,←d];exact(show numsOf c.toArray.toList=a from hi.numsOf).symm
 have f:preSum (numAt ys) ys.size=a.sum:=by rw[preSum_eq,bF (by simp),e]
 exact⟨.int a.sum,H,I.kept i,⟨o,by rw[f]⟩,q⟩
end
section
variable {X:Cx}
theorem xh4:OpR X (binaryOp .Add) (λx y H Q=>∃(l b:Addr) (xs zs:List V),x=.ref l/\y=.ref b/\SqL X.K H l xs/\SqL X.K H b zs/\xs.length+zs.length<=gn/\∀p,H p=none->Q (.ref p) (upd H p (.lst (xs++zs)))):=by
 intro pins s σ H x y v u Q I L M h;obtain⟨l,b,xs,zs,rfl,rfl,E,D,N,q⟩:=h
 cases L
 cases M
 obtain⟨c,r,J,_⟩:=I.list E;obtain⟨a,A,p2,_⟩:=I.list D;obtain⟨⟨B,C,o,sl⟩,n,z,t,_,w⟩:=J;obtain⟨⟨m,j,i,k⟩,G,g,d,_,f⟩:=p2;simp only at t w d f;subst t w d f;have O:=r.length;have P:=A.length;have e:c.toArray++a.toArray=(c++a).toArray:=by simp
 refine concat_meets ⟨_,z,rfl⟩ ⟨_,g,rfl⟩ noFill_list_add seq_list_add PySem.F.slot_list_add PySem.F.entry_list_add (PySem.F.args_list_add_2 _ _) (list_addW l b c.toArray a.toArray n G C j sl k (by simp only[aB];lia)) ⟨z,g,?_⟩;rw[e];exact⟨.ref _,_,I.lnew (t':=s.toks) (r.append A) (by rw[ag];lia),rfl,q _ I.fresh⟩
end
end L2
namespace L2
open PySem PySem.Spec PyProof.Rows PyProof.Rows.LSm
mutual
inductive RdD (K:W.Frag) (H:Hp):V->PyData->Prop
 | non:RdD K H .non .none
 | bl (b:Bool):RdD K H (.bl b) (.bool b)
 | int (i:Int):RdD K H (.int i) (.int i)
 | str (x:Str):RdD K H (.str x) (.str x)
 | lst {a:Addr} {xs:List V} {ds:List PyData}:SqL K H a xs->C8 K H xs ds->RdD K H (.ref a) (.list ds)
 | tup {a:Addr} {xs:List V} {ds:List PyData}:SqT K H a xs->C8 K H xs ds->RdD K H (.ref a) (.tuple ds)
inductive C8 (K:W.Frag) (H:Hp):List V->List PyData->Prop
 | nil:C8 K H [] []
 | cons {x:V} {d:PyData} {xs:List V} {ds:List PyData}:RdD K H x d->C8 K H xs ds->C8 K H (x::xs) (d::ds)
end
theorem C8.ints {K:W.Frag}{H:Hp}:∀(ns:List Int),C8 K H (ns.map V.int) (ns.map PyData.int)
 | []=>.nil
 | n::r=>.cons (.int n) (C8.ints r)
section
variable {X:Cx}{pins:List (Addr×Obj)}{σ:St}{H:Hp}{s:gh}
mutual
theorem RdD.reads (I:Inv X pins σ H s):∀{x:V} {d:PyData},RdD X.K H x d->∀u,o5 x u->∃as,Reads s.heap u d as
 | _,_,.non,u,r=>by cases (show u=Value.none from r);exact⟨_,.none⟩
 | _,_,.bl b,u,r=>by cases (show u=Value.bool b from r);exact⟨_,.bool b⟩
 | _,_,.int i,u,r=>by obtain⟨t,rfl⟩:=(show ∃t,u=Value.int i t from r);exact⟨_,.int i t⟩
 | _,_,.str x,u,r=>by obtain⟨t,rfl⟩:=(show ∃t,u=Value.str x t from r);exact⟨_,.str x t⟩
 | _,_,.lst h hs,u,r=>by
  cases (show u=Value.ref _ from r)
  obtain⟨its,rv,p,_⟩:=I.list h
  obtain⟨o,ho,hc,n,hd⟩:=p.isList
  obtain⟨as,ha⟩:=C8.reads I hs its rv
  exact⟨_,.list ho hc hd (by simpa using ha)⟩
 | _,_,.tup h hs,u,r=>by
  cases (show u=Value.ref _ from r)
  obtain⟨its,rv,p,_⟩:=I.tuple h
  obtain⟨o,ho,hc,n,hd⟩:=p
  obtain⟨as,ha⟩:=C8.reads I hs its rv
  exact⟨_,.tuple ho hc hd (by simpa using ha)⟩
theorem C8.reads (I:Inv X pins σ H s):∀{xs:List V} {ds:List PyData},C8 X.K H xs ds->∀us,o0 xs us->∃as,ReadsAll s.heap us ds as
 | _,_,.nil,us,r=>by cases r;exact⟨_,.nil⟩
 | _,_,.cons h hs,us,r=>by
  cases r with
  | cons r1 r2 =>
   obtain⟨as,ha⟩:=RdD.reads I h _ r1
   obtain⟨bs,hb⟩:=C8.reads I hs _ r2
   exact⟨_,.cons ha hb⟩
end
end
section
variable {X:Cx}
theorem xp3 (c:X.A.units+64<cLine):OpR X (compareOp .Eq) (λx y H Q=>∃d e,RdD X.K H x d/\RdD X.K H y e/\PySem.SeqAt.shaped d=true/\PySem.SeqAt.shaped e=true/\Q (.bl (PyData.eqv d e)) H):=by
 intro pins s σ H x y v u Q I i j h;obtain⟨d,e,a,b,k,l,q⟩:=h;obtain⟨m,f⟩:=a.reads I v i;obtain⟨bs,g⟩:=b.reads I u j;exact eq_dataH f g k l c ⟨.bl _,H,I,rfl,q⟩
theorem ze4:∀{bs:List Bool} {us:List Value},o0 (bs.map V.bl) us->BoolsAre us bs
 | [],_,r=>by cases r;exact .nil
 | b::bs,_,r=>by
  cases r with
  | cons a c =>
   cases (show _=Value.bool b from a)
   exact .cons b (ze4 c)
theorem D0 (hc:X.calm=true):S6 X (.builtin "all") (λxs H Q=>∃(p:Addr) (bs:List Bool),xs=[.ref p]/\SqL X.K H p (bs.map V.bl)/\Q (.bl (bs.all id)) H):=by
 intro pins s σ H xs x Q I r h;obtain⟨p,bs,rfl,g,q⟩:=h;obtain⟨u,rfl,l⟩:=O9 r
 cases l
 obtain⟨a,k,j,t⟩:=I.list g;obtain⟨m,F⟩:=I.fr;have hb:=ze4 k;have hl:=j.isList;have hlt:p<s.heap.objs.size:=by obtain⟨_,e,_⟩:=hl;exact aE e
 refine call_all_walk (wpAny_pyIter_list hl ?_);refine⟨s.heap.objs.size,[s.heap.objs.size,p],[s.heap.objs.size],a.toArray.size,_,_,λi=>(bs[i]?).getD true,rfl,Walks.list (A:=X.A.in1) (I.ok.hd hc) _ p (aP hlt) a.toArray,
  ⟨⟨_,aF _ rfl,rfl,rfl⟩,hl.push _⟩,λi v s' o n d c=>?_,λh' w f=>?_⟩
 .obtain⟨b,e,rfl⟩:=hb.get i v (by simpa using d);simp only[e,cN]at c;exact wpAny_truthy_bool c
 .have e:((List.range a.toArray.size).all λi=>(bs[i]?).getD true)=bs.all id:=by
   rw[aB,hb.length];exact range_all bs
  rw[e];exact⟨.bl _,H,I.kept (kept_iter f),rfl,q⟩
end
end L2
namespace L2
open PySem PySem.Spec PyProof.Rows
abbrev bmV:List Value:=[.type "ValueError",.type "Exception",.type "BaseException",.type "object"]
structure xs7 (K:W.Frag) (C:Addr) (tl:List Value) (newId:String):Prop where
 obj:∃nm qn N bs hdct sn sub ab col dd k0 k1 k2 k3 k5 oN,K.lookup C=some (excClassObj nm qn C N bs tl hdct sn sub ab col dd k0 k1 k2 k3 k5 newId)/\K.lookup N=some oN/\W.nsOkIn K N=true/\W.nsIn K N "__init__"=some none
 tail:W.tailIn K bmV tl=true
theorem xs7.mk' {K:W.Frag}{C:Addr}{tl:List Value}{newId:String}{nm qn:Str}{N:Addr}{bs:List Value}{hdct:Bool}{sn:List Str}{sub:List Value}{ab:Bool}{col:Option Bool}{dd:Option Addr}{k0 k1 k2 k3 k5:Option Value}{oN:Obj}
  (l:K.lookup C=some (excClassObj nm qn C N bs tl hdct sn sub ab col dd k0 k1 k2 k3 k5 newId)) (n:K.lookup N=some oN) (o:W.nsOkIn K N=true) (i:W.nsIn K N "__init__"=some none) (t:W.tailIn K bmV tl=true):xs7 K C tl newId :=
 ⟨⟨nm,qn,N,bs,hdct,sn,sub,ab,col,dd,k0,k1,k2,k3,k5,oN,l,n,o,i⟩,t⟩
def kvD (x:Key×V):PyData×PyData:=(match x.1 with | .inl i=>.int i | .inr t=>.str t,match x.2 with | .int i=>.int i|_=>.none)
mutual
inductive Dt (H:Hp):V->PyData->Prop
 | non:Dt H .non .none
 | bl (b:Bool):Dt H (.bl b) (.bool b)
 | int (i:Int):Dt H (.int i) (.int i)
 | str (x:Str):Dt H (.str x) (.str x)
 | lst {a:Addr} {xs:List V} {ds:List PyData}:H a=some (.lst xs)->Dts H xs ds->Dt H (.ref a) (.list ds)
 | tup {a:Addr} {xs:List V} {ds:List PyData}:H a=some (.tup xs)->Dts H xs ds->Dt H (.ref a) (.tuple ds)
 | dct {a:Addr} {kvs:List (Key×V)}:H a=some (.dK kvs)->Dt H (.ref a) (.dict (kvs.map kvD))
inductive Dts (H:Hp):List V->List PyData->Prop
 | nil:Dts H [] []
 | cons {x:V} {d:PyData} {xs:List V} {ds:List PyData}:Dt H x d->Dts H xs ds->Dts H (x::xs) (d::ds)
end
mutual
theorem Dt.same {H H':Hp}(s:y8 H H'):∀{x:V} {d:PyData},Dt H x d->Dt H' x d
 | _,_,.non=>.non
 | _,_,.bl b=>.bl b
 | _,_,.int i=>.int i
 | _,_,.str x=>.str x
 | _,_,.lst h r=>.lst (s _ _ h) (Dts.same s r)
 | _,_,.tup h r=>.tup (s _ _ h) (Dts.same s r)
 | _,_,.dct h=>.dct (s _ _ h)
theorem Dts.same {H H':Hp}(s:y8 H H'):∀{xs:List V} {ds:List PyData},Dts H xs ds->Dts H' xs ds
 | _,_,.nil=>.nil
 | _,_,.cons h r=>.cons (Dt.same s h) (Dts.same s r)
end
theorem Dts.length {H:Hp}:∀{xs:List V} {ds:List PyData},Dts H xs ds->xs.length=ds.length
 | _,_,.nil=>rfl
 | _,_,.cons _ r=>by rw[aC,aC,Dts.length r]
theorem Dts.append {H:Hp}:∀{xs ys:List V} {ds es:List PyData},Dts H xs ds->Dts H ys es->Dts H (xs++ys) (ds++es)
 | _,_,_,_,.nil,q=>q
 | _,_,_,_,.cons h r,q=>.cons h (Dts.append r q)
theorem Dts.get {H:Hp}:∀{xs:List V} {ds:List PyData} {i:Nat} {x:V},Dts H xs ds->xs[i]?=some x->∃d,ds[i]?=some d/\Dt H x d
 | _,_,_,_,.nil,e=>by simp at e
 | _,_,0,_,.cons h _,e=>by simp at e;subst e;exact⟨_,rfl,h⟩
 | _,_,i+1,x,.cons _ r,e=>by
  obtain⟨d,h1,h2⟩:=Dts.get (i:=i) (x:=x) r (by simpa using e)
  exact⟨d,by simpa using h1,h2⟩
def tyD:PyData->String
 | .none=>"NoneType"
 | .bool _=>"bool"
 | .int _=>"int"
 | .str _=>"str"
 | .list _=>"list"
 | .tuple _=>"tuple"
 | .dict _=>"dict"
theorem Dt.ty {K:W.Frag}{H:Hp}{x:V}{d:PyData}(h:Dt H x d):G4 K H x (.type (tyD d)):=by
 cases h with
 | non=>exact .non
 | bl b=>exact .bl b
 | int i=>exact .int i
 | str x=>exact .str x
 | lst h _=>exact .lst h
 | tup h _=>exact .tup h
 | dct h=>exact .dK h
section
variable {X:Cx}{e:Expr}{es:List Expr}{pos:Pos}{C:St->Hp->Prop}{d:PyData}{ds:List PyData}
def tDt (C:St->Hp->Prop)(d:PyData):TE:=λσ H Q=>C σ H/\∀v H',y8 H H'->Dt H' v d->Q v H'
def yt9 (C:St->Hp->Prop)(ds:List PyData):TA:=λσ H Q=>C σ H/\∀vs H',y8 H H'->Dts H' vs ds->Q vs H'
def xk4 (C:St->Hp->Prop):Prop:=∀σ H H',y8 H H'->C σ H->C σ H'
theorem PE.weak {t t':TE}(h:PE X e t)(k:∀σ H Q,t' σ H Q->t σ H Q):PE X e t':=λpins s σ H Q I q=>h pins s σ H Q I (k σ H Q q)
theorem PA.weak {t t':TA}(h:PA X es t)(k:∀σ H Q,t' σ H Q->t σ H Q):PA X es t':=λpos pins s σ H Q I q=>h pos pins s σ H Q I (k σ H Q q)
structure DE (X:Cx) (e:Expr) (t:TE):Prop where
 h:PE X e t
structure DA (X:Cx) (es:List Expr) (t:TA):Prop where
 h:PA X es t
structure DS (X:Cx) (st:Stmt) (t:TS):Prop where
 h:PS X st t
structure DSs (X:Cx) (st:List Stmt) (t:TS):Prop where
 h:PSs X st t
theorem b4 {st:Stmt}{Y3:List Stmt}{t u:TS}(h1:DS X st t)(h2:DSs X Y3 u):DSs X (st::Y3) (xr4 t u):=⟨@z6 _ _ _ _ _ h1.h h2.h⟩
theorem xm2 {i:Nat}{x:Str}{te:TE}{pos':Pos}(hN:X.N.Nodup)(hi:X.N[i]?=some x)(hx:Loc X.env.scope x)(he:DE X e te)(hs:swapsWith e (some (.Name x pos')) pos.line X.env=pure false:=by rfl)(hf:X.fn x=true∨X.env.scope.names.lookup x=some .local:=by first|exact .inl rfl|exact .inr rfl|assumption) :
  DS X (.Assign [.Name x pos'] e pos) (xd3 te (Z0 i)):=⟨v0 hN hi hx he.h hs hf⟩
theorem xp9 {j pos}:DE X (.Constant .none j pos) (tDt C .none):=⟨zw9.weak λ_ H _ q=>q.2 _ H (y8.refl _) .non⟩
theorem xq0 {x j pos}:DE X (.Constant (.str x) j pos) (tDt C (.str x)):=⟨zl2.weak λ_ H _ q=>q.2 _ H (y8.refl _) (.str x)⟩
theorem F7 {H:Hp}{p:Addr}(hp:H p=none)(u:HO):y8 H (upd H p u):=λb o h=>by
 have hne:b≠p:=λz=>by rw[z,hp]at h;cases h
 show(if b=p then _ else _)=_
 rw[if_neg hne];exact h
theorem new_at {H:Hp}{p:Addr}(u:HO):upd H p u p=some u:=by show(if p=p then _ else _)=_;rw[if_pos rfl]
theorem xp7:DE X (.Dict [] [] pos) (tDt C (.dict [])):=⟨E1.weak λ_ H _ q p hp=>q.2 _ _ (F7 hp _) (.dct (kvs:=[]) (new_at _))⟩
theorem zw5:DA X [] (yt9 C []):=⟨z4.weak λ_ H _ q=>q.2 [] H (y8.refl _) .nil⟩
theorem X7 (hC:xk4 C)(he:DE X e (tDt C d))(hr:DA X es (yt9 C ds))(hs:gs (e::es) X.env=(false,eval e X.env)::gs es X.env:=by rfl):DA X (e::es) (yt9 C (d::ds)) :=
 ⟨(z0 he.h hr.h hs).weak λσ H Q q=>⟨q.1,λv H1 s1 hv=>⟨hC σ H H1 s1 q.1,λvs H2 s2 hvs=>q.2 (v::vs) H2 (s1.trans s2) (.cons (hv.same s2) hvs)⟩⟩⟩
theorem xq1 {x1}(h:DA X es (yt9 C ds))(hz:ds.length<=gn):DE X (.Tuple es x1 pos) (tDt C (.tuple ds)) :=
 ⟨(R5 h.h).weak λ_ _ _ q=>⟨q.1,λvs H1 s1 hvs=>⟨by rw[hvs.length];exact hz,λp hp=>q.2 _ _ (s1.trans (F7 hp _)) (.tup (new_at _) (hvs.same (F7 hp _)))⟩⟩⟩
theorem xp8 (h:DA X es (yt9 C ds))(hz:ds.length<=gn):DE X (.List es pos) (tDt C (.list ds)) :=
 ⟨(m9 h.h).weak λ_ _ _ q=>⟨q.1,λvs H1 s1 hvs=>⟨by rw[hvs.length];exact hz,λp hp=>q.2 _ _ (s1.trans (F7 hp _)) (.lst (new_at _) (hvs.same (F7 hp _)))⟩⟩⟩
theorem yc7 {t:TE}(h:PE X e t)(k:∀σ H Q,C σ H->(∀v H',y8 H H'->Dt H' v d->Q v H')->t σ H Q):DE X e (tDt C d):=⟨h.weak λσ H Q q=>k σ H Q q.1 q.2⟩
theorem R1:OpR X (compareOp .IsNot) (λx y H Q=>∃a b,x=.bl a/\y=.bl b/\Q (.bl (!decide (a=b))) H):=by
 intro pins s σ H x y v u Q I c d h;obtain⟨a,b,rfl,rfl,q⟩:=h
 cases c
 cases d
 exact PySem.wpAny_isNot_plain (by rfl) ⟨.bl (!decide (a=b)),H,I,(by cases a <;> cases b <;> rfl),q⟩
end
section
variable {prog:gq}{w:gv}{A:gw}{E:Value->gh->Prop}{s:gh}
def gat (h:Heap)(vs:List Value):Heap:=(h.push (gE "list" #[] 0)).update h.objs.size (Obj.mapSeq (·++vs.toArray))
theorem zz4 {a:Addr}{vs:List Value}{R:List Value->gh->Prop}(i:IsTup s.heap a vs.toArray)(j:vs.length<=gn)(q:R vs { s with heap:=gat s.heap vs }):gr (gu prog w) A (collect (.ref a)) R E s:=by
 obtain⟨o,h,f,n,g⟩:=i;have c:(s.heap.push (gE "list" #[] 0)).get? a=some o:=au _ h;have b:(s.heap.push (gE "list" #[] 0)).get? s.heap.objs.size=some (gE "list" #[] 0):=aF _ rfl;unfold collect;refine gg (wpAny_runValue (codeAny_builtin entry_proto_collect' (gg (m:=newList []) (wpAny_newList (gl ⟨Code.quiet_builtin _ (by decide +kernel),codeAny_builtin entry_list_iadd' ?_⟩)))));show gr _ _ (Builtin.List.listExtendWith (.ref s.heap.objs.size) (.ref a) (.ref s.heap.objs.size)) _ _ { s with heap:=s.heap.push (gE "list" #[] 0) };(unfold Builtin.List.listExtendWith;refine gg (wpAny_typeOf (T:="tuple") ⟨o,c,f⟩ ?_));have d:(Value.type "tuple" == Value.type "tuple")=true:=rfl;rw[if_pos (show _=true by rw[d,Bool.or_true])];refine gg (listItems_at c g (gg (listItems_at (xs:=#[]) (n:=0) b rfl ?_)));rw[if_neg (show ¬_=true by simp)];refine gg (listUpdate_at (xs:=#[]) (n:=0) b rfl (gl ?_) (aY _) (by simp only[Array.size_append,aB,bV];show 0+vs.length<=_;lia));show gr (gu prog w) A (load s.heap.objs.size >>= _) R E { s with heap:=gat s.heap vs };refine gg (wpAny_load (get?_update_seq b _) ?_);have e:((#[]:Array Value)++vs.toArray).toList=vs:=by simp
 exact gl (e.symm ▸ q)
theorem yx8 (h:Heap)(vs:List Value):(gat h vs).objs.size=h.objs.size+1:=by unfold gat;rw[Heap.size_update,size_push']
theorem xg0 {h:Heap}{vs:List Value}{b:Addr}{o:Obj}(e:h.get? b=some o):(gat h vs).get? b=some o:=by
 have hlt:=aE e;unfold gat;rw[Heap.get?_update_ne _ _ _ _ (aP hlt),Heap.get?_push_ne _ _ _ (aP hlt)];exact e
theorem yj3 {a:Addr}{vs:List Value}{f:List Int}{R:Value->gh->Prop}(k:IsTup s.heap a vs.toArray)(j:IntsAre vs f)(d:vs.length<64)
  (q:∀(b:Array Value) (c:List Int),IntsAre b.toList c->c.Perm f->c.Pairwise (·<=·)->R (.ref (gat s.heap vs).objs.size) { s with heap:=sortedHeap ((gat s.heap vs).push (gE "list" vs.toArray 0)) (gat s.heap vs).objs.size vs b }) :
  gr (gu prog w) A (call (.builtin "sorted") [.ref a]) R E s:=by
 have e:((gat s.heap vs).push (gE "list" vs.toArray 0)).get? (gat s.heap vs).objs.size=some (gE "list" vs.toArray 0):=aF _ rfl;refine Calls.call_function_entry kind_sorted plain_sorted entry_sorted (args_sorted1 (.ref a)) ?_;unfold Builtin.«sorted»;refine gg (m:=checkCount "sorted" 1 1 _) (gl (gg (zz4 k (by rw[sizeLine_eq];lia) (gg (wpAny_newList ?_)))));show gr _ _ _ _ _ { s with heap:=(gat s.heap vs).push (gE "list" vs.toArray 0) };refine gg (gy (wpAny_call_entry slot_list_sort ⟨_,e,rfl⟩ entry_list_sort (list_sort_tree e j d λb c g h i=>⟨_,rfl,gl ⟨_,rfl,q b c g h i⟩⟩) (args_list_sort _)))
end
section
variable {X:Cx}
theorem zt5:S6 X (.builtin "sorted") (λxs H Q=>∃(p:Addr) (f:List Int),xs=[.ref p]/\SqT X.K H p (f.map V.int)/\f.length<64/\∀(l:Addr) (c:List Int),H l=none->c.Perm f->c.Pairwise (·<=·)->Q (.ref l) (upd H l (.lst (c.map V.int)))):=by
 intro pins s σ H xs D Q I r h;obtain⟨p,f,rfl,x,t,q⟩:=h;obtain⟨u,rfl,C⟩:=O9 r
 cases C
 obtain⟨a,j,B,y⟩:=I.tuple x;have A:=j.length;rw[aa]at A y;refine yj3 B (L9 j) (by lia) λout c k i m=>?_;have hl:=i.length_eq;have g:=yx8 s.heap a;obtain⟨e,v⟩:=sortedHeap_at (vs:=a) (out:=out) (n:=0) (show((gat s.heap a).push (gE "list" a.toArray 0)).get? (gat s.heap a).objs.size=some (gE "list" a.toArray 0) from aF _ rfl);have d:∀b o,s.heap.get? b=some o->(sortedHeap ((gat s.heap a).push (gE "list" a.toArray 0)) (gat s.heap a).objs.size a out).get? b=some o:=λb o z=>by
  have hlt:=aE z;have h1:b<(gat s.heap a).objs.size:=g.symm ▸ dk hlt;rw[sortedHeap_old (aP h1) (by rw[size_push'];exact dk h1),Heap.get?_push_ne _ _ _ (aP h1)];exact xg0 z
 refine⟨.ref (gat s.heap a).objs.size,_,I.laid (t':=s.toks) d (by lia) (show k8 X.prog X.w _ _ _ (.lst (c.map V.int)) from⟨by rw[aa];lia,out.toList,e,ze1 k,by simpa using v⟩),rfl,q _ c (I.hok.fresh (by lia)) i m⟩
end
section
variable {X:Cx}{pins:List (Addr×Obj)}{σ:St}{H:Hp}{s:gh}
mutual
theorem Dt.reads (I:Inv X pins σ H s):∀{x:V} {d:PyData},Dt H x d->d.canLay0=true->∀u,o5 x u->∃as,Reads s.heap u d as
 | _,_,.non,_,u,r=>by cases (show u=Value.none from r);exact⟨_,.none⟩
 | _,_,.bl b,_,u,r=>by cases (show u=Value.bool b from r);exact⟨_,.bool b⟩
 | _,_,.int i,_,u,r=>by obtain⟨t,rfl⟩:=(show ∃t,u=Value.int i t from r);exact⟨_,.int i t⟩
 | _,_,.str x,_,u,r=>by obtain⟨t,rfl⟩:=(show ∃t,u=Value.str x t from r);exact⟨_,.str x t⟩
 | _,_,.lst h hs,c,u,r=>by
  cases (show u=Value.ref _ from r)
  obtain⟨its,rv,p,_⟩:=I.list (SqL.of h)
  obtain⟨o,ho,hc,n,hd⟩:=p.isList
  rw[PyData.canLay0]at c
  obtain⟨as,ha⟩:=Dts.reads I hs c its rv
  exact⟨_,.list ho hc hd (by simpa using ha)⟩
 | _,_,.tup h hs,c,u,r=>by
  cases (show u=Value.ref _ from r)
  obtain⟨its,rv,p,_⟩:=I.tuple (SqT.of h)
  obtain⟨o,ho,hc,n,hd⟩:=p
  rw[PyData.canLay0]at c
  obtain⟨as,ha⟩:=Dts.reads I hs c its rv
  exact⟨_,.tuple ho hc hd (by simpa using ha)⟩
 | _,_,.dct h,c,u,r=>by
  rw[PyData.canLay0]at c
  cases c
theorem Dts.reads (I:Inv X pins σ H s):∀{xs:List V} {ds:List PyData},Dts H xs ds->PyData.canLayAll0 ds=true->∀us,o0 xs us->∃as,ReadsAll s.heap us ds as
 | _,_,.nil,_,us,r=>by cases r;exact⟨_,.nil⟩
 | _,_,.cons h hs,c,us,r=>by
  cases r with
  | cons r1 r2 =>
   rw[PyData.canLayAll0,bp]at c
   obtain⟨as,ha⟩:=Dt.reads I h c.1 _ r1
   obtain⟨bs,hb⟩:=Dts.reads I hs c.2 _ r2
   exact⟨_,.cons ha hb⟩
end
end
end L2
namespace Tb.ST
open PySem PySem.SetTable
def adv (mask:Nat)(p:Probe):Probe:=if p.more > 0 then { p with j:=p.j+1,more:=p.more-1 } else
 {p with j:=(leap mask p.i p.perturb).1,more:=runEnd mask (leap mask p.i p.perturb).1-(leap mask p.i p.perturb).1,i:=(leap mask p.i p.perturb).1,perturb:=(leap mask p.i p.perturb).2 }
def start (mask:Nat)(h:Int):Probe:={ j:=bits h % (mask+1),more:=runEnd mask (bits h % (mask+1))-bits h % (mask+1),i:=bits h % (mask+1),perturb:=bits h,dummy:=none }
def go (mask:Nat):Nat->Probe->Probe
 | 0,p=>p
 | q+1,p=>go mask q (adv mask p)
theorem zu2 (mask:Nat):∀(a b:Nat) (p:Probe),go mask (a+b) p=go mask b (go mask a p)
 | 0,b,p=>by rw[cY];rfl
 | a+1,b,p=>by rw[show a+1+b=(a+b)+1 by lia];exact zu2 mask a b _
def pj (mask:Nat)(h:Int)(q:Nat):Nat:=(go mask q (start mask h)).j
structure Wf (mask:Nat) (p:Probe):Prop where
 j:p.j+p.more<=mask
 m:p.more<=9
 i:p.i<=mask
 b:p.perturb<2 ^ 64
 d:p.dummy=none
theorem yj0 (a i:Nat)(h:i<=a):i+(runEnd a i-i)<=a/\runEnd a i-i<=9/\i<=runEnd a i:=by
 unfold runEnd
 split <;> lia
theorem Wf.adv {a:Nat}{p:Probe}(h:Wf a p):Wf a (adv a p):=by
 unfold ST.adv;split
 .exact⟨by have:=h.j;show p.j+1+(p.more-1)<=a;lia,by have:=h.m;show p.more-1<=9;lia,h.i,h.b,h.d⟩
 .have hl:(leap a p.i p.perturb).1<=a:=bL (bJ _ (eW _));have:=yj0 a _ hl;exact⟨this.1,this.2.1,hl,cq (Nat.div_le_self _ _) h.b,h.d⟩
theorem Wf.start (a:Nat)(h:Int):Wf a (start a h):=by
 have hl:bits h % (a+1)<=a:=bL (bJ _ (eW _));have:=yj0 a _ hl;refine⟨this.1,this.2.1,hl,?_,rfl⟩;show(h % (2 ^ 64:Int)).toNat<2 ^ 64;have h1:=bh h (show(2 ^ 64:Int)≠0 by decide);have h2:=cH h (show(0:Int)<2 ^ 64 by decide);have b:((2 ^ 64:Nat):Int)=2 ^ 64:=by decide
 lia
theorem Wf.go {mask:Nat}:∀(q:Nat) {p:Probe},Wf mask p->Wf mask (go mask q p)
 | 0,_,h=>h
 | q+1,_,h=>Wf.go q h.adv
theorem xb0 (a:Nat)(h:Int)(q:Nat):pj a h q<=a:=by
 have:=(Wf.go q (Wf.start a h)).j;unfold pj;lia
def lp (mask:Nat)(p:Probe):Probe:={ p with j:=(leap mask p.i p.perturb).1,more:=runEnd mask (leap mask p.i p.perturb).1-(leap mask p.i p.perturb).1,i:=(leap mask p.i p.perturb).1,perturb:=(leap mask p.i p.perturb).2 }
theorem ym0 {a:Nat}:∀(n:Nat) (p:Probe),p.more=n->go a (n+1) p=lp a p
 | 0,p,h=>by
  show adv a p=lp a p
  unfold adv
  rw[if_neg (by lia)]
  rfl
 | n+1,p,h=>by
  show go a (n+1) (adv a p)=lp a p
  have e:adv a p={ p with j:=p.j+1,more:=p.more-1 }:=by unfold adv;rw[if_pos (by lia)]
  rw[ym0 n (adv a p) (by rw[e];show p.more-1=n;lia),e]
  rfl
def lps (mask:Nat):Nat->Probe->Probe
 | 0,p=>p
 | k+1,p=>lps mask k (lp mask p)
theorem Wf.lp {a:Nat}{p:Probe}(h:Wf a p):Wf a (lp a p):=by
 rw[←ym0 p.more p rfl];exact Wf.go _ h
theorem yh2 {mask:Nat}:∀(k:Nat) {p:Probe},Wf mask p->∃q,q<=10*k/\go mask q p=lps mask k p
 | 0,p,_=>⟨0,aq _,rfl⟩
 | k+1,p,h=>by
  obtain⟨q,hq,e⟩:=yh2 k h.lp
  have hm:=h.m
  refine⟨p.more+1+q,by lia,?_⟩
  rw[zu2,ym0 p.more p rfl,e]
  rfl
theorem zv2 (mask:Nat):∀(a b:Nat) (p:Probe),lps mask (a+b) p=lps mask b (lps mask a p)
 | 0,b,p=>by rw[cY];rfl
 | a+1,b,p=>by rw[show a+1+b=(a+b)+1 by lia];exact zv2 mask a b _
theorem F0 (mask:Nat):∀(k:Nat) (p:Probe),(lps mask k p).perturb=p.perturb / 32 ^ k
 | 0,p=>by show p.perturb=_;rw[Nat.pow_zero,Nat.div_one]
 | k+1,p=>by
  show(lps mask k (lp mask p)).perturb=_
  rw[F0 mask k]
  show p.perturb / 32 / 32 ^ k=_
  rw[Nat.div_div_eq_div_mul,fB,cj]
def lc (M x:Nat):Nat:=(x*5+1) % M
def lcs (M:Nat):Nat->Nat->Nat
 | 0,x=>x
 | k+1,x=>lcs M k (lc M x)
theorem zg4 (M:Nat):∀(a b x:Nat),lcs M (a+b) x=lcs M b (lcs M a x)
 | 0,b,x=>by rw[cY];rfl
 | a+1,b,x=>by rw[show a+1+b=(a+b)+1 by lia];exact zg4 M a b _
theorem zv3 (a:Nat):∀(k:Nat) (p:Probe),p.perturb=0->1<=k->(lps a k p).j=lcs (a+1) k p.i
 | 1,p,h,_=>by
  show(p.i*5+1+p.perturb / 32) % (a+1)=_
  rw[h]
  rfl
 | k+2,p,h,_=>by
  have e:(lp a p).perturb=0:=by show p.perturb / 32=0;rw[h]
  have:=zv3 a (k+1) (lp a p) e (by lia)
  show(lps a (k+1) (lp a p)).j=lcs (a+1) (k+1) (lc (a+1) p.i)
  rw[this]
  show lcs (a+1) (k+1) ((p.i*5+1+p.perturb / 32) % (a+1))=_
  rw[h]
  rfl
def xa5 (M:Nat):Nat->Nat->List Nat
 | 0,_=>[]
 | k+1,x=>lc M x::xa5 M k (lc M x)
theorem zr3 {M:Nat}:∀{k x e:Nat},e∈xa5 M k x->∃r,1<=r/\r<=k/\lcs M r x=e
 | 0,_,_,h=>by cases h
 | k+1,x,e,h=>by
  rcases ay.mp h with z|z
  .exact⟨1,aq _,by lia,z.symm⟩
  .obtain⟨r,h1,h2,h3⟩:=zr3 z
   exact⟨r+1,by lia,by lia,h3⟩
def full (M:Nat):Bool:=((List.range M).all λe=>(xa5 M M 0).contains e)&&lcs M M 0==0
theorem xm6:full 8=true:=by decide +kernel
theorem xf9:full 32=true:=by decide +kernel
theorem yx6:full 128=true:=by decide +kernel
theorem yx7:full 512=true:=by decide +kernel
theorem zi6 {M:Nat}(c:full M=true){i e:Nat}(hi:i<M)(j:e<M):∃r,1<=r/\r<=M/\lcs M r i=e:=by
 unfold full at c;rw[bp,beq_iff_eq,bu]at c;have mem:∀x,x<M->∃r,1<=r/\r<=M/\lcs M r 0=x:=λx k=>zr3 (by
  have:=c.1 x (av.mpr k)
  rw[List.contains_iff_mem]at this
  exact this)
 obtain⟨a,l,m,d⟩:=mem i hi;obtain⟨b,n,o,f⟩:=mem e j;by_cases h:a<b
 .refine⟨b-a,by lia,by lia,?_⟩;rw[←d,←zg4,show a+(b-a)=b by lia];exact f
 .refine⟨(M-a)+b,by lia,by lia,?_⟩;have g:lcs M (M-a) i=0:=by rw[←d,←zg4,show a+(M-a)=M by lia,c.2]
  rw[zg4,g];exact f
def Size (mask:Nat):Prop:=mask=7∨mask=31∨mask=127∨mask=511
theorem Size.full {a:Nat}(h:Size a):full (a+1)=true:=by
 rcases h with rfl|rfl|rfl|rfl
 .exact xm6
 .exact xf9
 .exact yx6
 .exact yx7
theorem xk5 {a:Nat}(g:Size a){p:Probe}(c:Wf a p){e:Nat}(h:e<=a):∃q,q<10*turns a/\(go a q p).j=e:=by
 have d:(lps a 13 p).perturb=0:=by
  rw[F0];exact Nat.div_eq_of_lt (aV c.b (by decide))
 have k:Wf a (lps a 13 p):=by
  obtain⟨q,_,e⟩:=yh2 13 c;rw[←e];exact Wf.go q c
 obtain⟨r,l,o,m⟩:=zi6 g.full (i:=(lps a 13 p).i) (e:=e) (dX k.i) (dX h);obtain⟨q,n,f⟩:=yh2 (13+r) c;refine⟨q,by unfold turns;lia,?_⟩;rw[f,zv2,zv3 a r _ d l,m]
theorem zh6 (xs:Array Nat)(j:Nat)(g:∀(a b x y:Nat),xs[a]?=some x->xs[b]?=some y->a<b->x<y):∀(fuel lo hi:Nat),hi-lo<=fuel->lo<=hi->hi<=xs.size->(∀i x,i<lo->xs[i]?=some x->x<j)->(∀i x,hi<=i->xs[i]?=some x->j<=x) ->
  below.go xs j fuel lo hi<=xs.size/\(∀i x,i<below.go xs j fuel lo hi->xs[i]?=some x->x<j)/\∀i x,below.go xs j fuel lo hi<=i->xs[i]?=some x->j<=x
 | 0,lo,hi,h1,h2,h3,h4,h5=>by
  have:lo=hi:=by lia
  subst this
  exact⟨h3,h4,h5⟩
 | fuel+1,lo,hi,h1,h2,h3,h4,h5=>by
  unfold below.go
  by_cases hlt:lo<hi
  .rw[if_pos hlt]
   dsimp only
   have l:(lo+hi) / 2<hi:=by lia
   have e:lo<=(lo+hi) / 2:=by lia
   have h:xs[(lo+hi) / 2]?=some (xs.getD ((lo+hi) / 2) j):=by
    have:(lo+hi) / 2<xs.size:=by lia
    rw[aS this]
    simp[Array.getD,this]
   by_cases f:xs.getD ((lo+hi) / 2) j<j
   .rw[if_pos f]
    refine zh6 xs j g fuel _ hi (by lia) (by lia) h3 (λi x k c=>?_) h5
    by_cases d:i=(lo+hi) / 2
    .subst d
     rw[h]at c
     rw[←Option.some.inj c]
     exact f
    .exact eD (g i _ _ _ c h (by lia)) f
   .rw[if_neg f]
    refine zh6 xs j g fuel lo _ (by lia) e (by lia) h4 (λi x k c=>?_)
    by_cases d:i=(lo+hi) / 2
    .subst d
     rw[h]at c
     rw[←Option.some.inj c]
     lia
    .have:=g _ i _ _ h c (by lia)
     lia
  .rw[if_neg hlt]
   have:lo=hi:=by lia
   subst this
   exact⟨h3,h4,h5⟩
theorem below_spec (xs:Array Nat)(j:Nat)(c:∀(a b x y:Nat),xs[a]?=some x->xs[b]?=some y->a<b->x<y):below xs j<=xs.size/\(∀i x,i<below xs j->xs[i]?=some x->x<j)/\∀i x,below xs j<=i->xs[i]?=some x->j<=x:=by
 refine zh6 xs j c xs.size 0 xs.size (by lia) (aY _) (aq _) (λi x h=>absurd h (bO _)) (λi x h e=>?_);have:=(cF.mp e).1;lia
theorem below_at {xs:Array Nat}{i j:Nat}(c:∀(a b x y:Nat),xs[a]?=some x->xs[b]?=some y->a<b->x<y)(h:xs[i]?=some j):below xs j=i:=by
 obtain⟨h1,h2,d⟩:=below_spec xs j c;have a:¬i<below xs j:=λz=>bU _ (h2 i j z h);have b:¬below xs j<i:=λz=>by
  have hi:=(cF.mp h).1;have e:=aS (xs:=xs) (i:=below xs j) (by lia);have:=d _ _ (aq _) e;have:=c _ _ _ _ e h z;lia
 lia
theorem insertAt_toList {α:Type}(xs:Array α)(p:Nat)(x:α)(h:p<=xs.size):(insertAt xs p x).toList=xs.toList.take p++x::xs.toList.drop p:=by
 unfold insertAt;rw[Array.toList_append,Array.toList_push,Array.toList_extract,Array.toList_extract];simp[bF]
end Tb.ST
namespace Tb.ST
open PySem PySem.SetTable
structure Tab (t:SetTable) (hs:List Int):Prop where
 m:Size t.mask
 nod:t.dummies=#[]
 ris:∀(a b x y:Nat),t.place[a]?=some x->t.place[b]?=some y->a<b->x<y
 le:∀(i j:Nat),t.place[i]?=some j->j<=t.mask
 len:t.place.size=hs.length
 room:t.place.size*5<t.mask*3
 path:∀(i j:Nat) (h:Int),t.place[i]?=some j->hs[i]?=some h->∃q,pj t.mask h q=j/\∀r,r<q->∃i:Nat,t.place[i]?=some (pj t.mask h r)
theorem Tab.fits {t:SetTable}{hs:List Int}(T:Tab t hs):t.place.size=hs.length/\t.fill<=t.mask/\t.gaveWay=false:=by
 have h1:=T.room;refine⟨T.len,?_,?_⟩
 .unfold fill;rw[T.nod];show t.place.size+0<=t.mask;lia
 .unfold gaveWay;rcases T.m with h|h|h|h <;> rw[h] <;> rfl
theorem Tab.live {t:SetTable}{hs:List Int}(T:Tab t hs){i j:Nat}(h:t.place[i]?=some j):t.slot j=.live i:=by
 unfold slot;rw[below_at T.ris h];dsimp only;rw[h,if_pos (by simp)]
theorem Tab.empty {t:SetTable}{hs:List Int}(T:Tab t hs){j:Nat}(h:∀i:Nat,t.place[i]?≠some j):t.slot j=.empty:=by
 unfold slot;dsimp only;rw[if_neg (by rw[beq_iff_eq];exact h _),T.nod];rfl
theorem yh9:∀{l m:List Nat},l.Nodup->(∀x∈l,x∈m)->l.length<=m.length
 | [],_,_,_=>aY _
 | x::l,m,hn,hs=>by
  obtain⟨h1,h2⟩:=aQ.mp hn
  have hx:=hs x ao
  have:=yh9 (l:=l) (m:=m.erase x) h2 λy hy=>(fE (λ(z:y=x)=>h1 (by rw[←z];exact hy))).mpr (hs y (ah _ hy))
  rw[fu hx]at this
  have hp:=List.length_pos_of_mem hx
  rw[aC]
  lia
theorem Tab.free {t:SetTable}{hs:List Int}(T:Tab t hs):∃e,e<=t.mask/\∀i:Nat,t.place[i]?≠some e:=by
 have h:=T.room;by_cases b:∃e,e<=t.mask/\∀i:Nat,t.place[i]?≠some e
 .exact b
 .have:=yh9 (l:=List.range (t.mask+1)) (m:=t.place.toList) aN λx a=>by
   by_cases hm:∃i:Nat,t.place[i]?=some x
   .obtain⟨i,hi⟩:=hm;rw[←bz]at hi;exact ax hi
   .exact absurd ⟨x,bL (av.mp a),λi hi=>hm ⟨i,hi⟩⟩ b
  rw[aA,aG]at this;lia
theorem Tab.first {t:SetTable}{hs:List Int}(T:Tab t hs)(h:Int):∃Q,Q<10*turns t.mask/\(∀i:Nat,t.place[i]?≠some (pj t.mask h Q))/\∀r,r<Q->∃i:Nat,t.place[i]?=some (pj t.mask h r):=by
 obtain⟨e,g,d⟩:=T.free;obtain⟨q,k,j⟩:=xk5 T.m (Wf.start t.mask h) g;have:∀n,n<=q->(∃Q,Q<n/\(∀i:Nat,t.place[i]?≠some (pj t.mask h Q))/\∀r,r<Q->∃i:Nat,t.place[i]?=some (pj t.mask h r))∨∀r,r<n->∃i:Nat,t.place[i]?=some (pj t.mask h r):=by
  intro n
  induction n with
  | zero=>exact λ_=>.inr λr f=>absurd f (bO _)
  | succ n ih =>
   intro l;rcases ih (by lia) with⟨Q,a,b,c⟩|all
   .exact .inl ⟨Q,by lia,b,c⟩
   .by_cases hm:∃i:Nat,t.place[i]?=some (pj t.mask h n)
    .refine .inr λr f=>?_;by_cases e:r=n
     .rw[e];exact hm
     .exact all r (by lia)
    .exact .inl ⟨n,by lia,λi hi=>hm ⟨i,hi⟩,all⟩
 rcases this q (aq _) with⟨Q,a,b,c⟩|all
 .exact⟨Q,by lia,b,c⟩
 .exact⟨q,k,by rw[show pj t.mask h q=e from j];exact d,all⟩
theorem B6 {t:SetTable}{hashAt:Nat->Int}{h:Int}{m:Met}:∀(r fuel:Nat) (p:Probe),r<fuel->(∀r',r'<r->∃i,t.slot (go t.mask r' p).j=.live i/\(hashAt i==h)=false) ->
  (t.slot (go t.mask r p).j=.empty/\m=.empty (go t.mask r p).j (go t.mask r p).dummy∨∃i,t.slot (go t.mask r p).j=.live i/\(hashAt i==h)=true/\m=.candidate (go t.mask r p).j i (go t.mask (r+1) p))->probe.go t hashAt h fuel p=some m
 | 0,fuel+1,p,_,_,hm=>by
  unfold probe.go
  rcases hm with⟨e,rfl⟩|⟨i,e,e2,rfl⟩
  .rw[show t.slot p.j=.empty from e];rfl
  .rw[show t.slot p.j=.live i from e]
   dsimp only
   rw[if_pos e2]
   rfl
 | r+1,fuel+1,p,hf,hb,hm=>by
  unfold probe.go
  obtain⟨i,e,e2⟩:=hb 0 (eW _)
  rw[show t.slot p.j=.live i from e]
  dsimp only
  rw[if_neg (by rw[e2];exact aH)]
  refine B6 r fuel (t.advance p) (by lia) (λr' hr'=>hb (r'+1) (by lia)) hm
def HashAt (hs:List Int)(f:Nat->Int):Prop:=∀(i:Nat) (x:Int),hs[i]?=some x->f i=x
theorem Tab.next {t:SetTable}{hs:List Int}(T:Tab t hs){h:Int}{q Q:Nat}(G:q<=Q)(F:Q-q<10*turns t.mask)(p:∀r,r<Q->∃i:Nat,t.place[i]?=some (pj t.mask h r))
  (s:(∀i:Nat,t.place[i]?≠some (pj t.mask h Q))∨∃i:Nat,t.place[i]?=some (pj t.mask h Q)/\hs[i]?=some h) :
  ((∀i:Nat,t.place[i]?≠some (pj t.mask h Q))/\∀f,HashAt hs f->t.probe f h (go t.mask q (start t.mask h))=some (.empty (pj t.mask h Q) none)) ∨
  ∃(r i:Nat),q<=r/\r<=Q/\t.place[i]?=some (pj t.mask h r)/\hs[i]?=some h/\∀f,HashAt hs f->t.probe f h (go t.mask q (start t.mask h))=some (.candidate (pj t.mask h r) i (go t.mask (r+1) (start t.mask h))):=by
 have C:∀{i j:Nat},t.place[i]?=some j->∃x,hs[i]?=some x:=λ{i j} hi=>by
  have:=(cF.mp hi).1;rw[T.len]at this;exact⟨_,ac this⟩
 have D:∀n,∀q,Q-q=n->q<=Q->(∃r i:Nat,q<=r/\r<=Q/\t.place[i]?=some (pj t.mask h r)/\hs[i]?=some h/\∀k,q<=k->k<r->∃(i:Nat) (x:Int),t.slot (pj t.mask h k)=.live i/\hs[i]?=some x/\x≠h)∨((∀i:Nat,t.place[i]?≠some (pj t.mask h Q))/\∀k,q<=k->k<Q->∃(i:Nat) (x:Int),t.slot (pj t.mask h k)=.live i/\hs[i]?=some x/\x≠h):=by
  intro n
  induction n with
  | zero =>
   intro q e w;have:q=Q:=by lia
   subst this;rcases s with z|⟨i,h1,h2⟩
   .exact .inr ⟨z,λk a b=>absurd b (by lia)⟩
   .exact .inl ⟨q,i,aq _,aq _,h1,h2,λk a b=>absurd b (by lia)⟩
  | succ n ih =>
   intro q e w;obtain⟨i,hi⟩:=p q (by lia);obtain⟨x,y⟩:=C hi;by_cases m:x=h
   .exact .inl ⟨q,i,aq _,w,hi,by rw[y,m],λk a b=>absurd b (by lia)⟩
   .rcases ih (q+1) (by lia) (by lia) with⟨r,A,a,b,c,d,f⟩|⟨a,f⟩
    .refine .inl ⟨r,A,by lia,b,c,d,λk u v=>?_⟩;by_cases z:k=q
     .rw[z];exact⟨i,x,T.live hi,y,m⟩
     .exact f k (by lia) v
    .refine .inr ⟨a,λk u v=>?_⟩;by_cases z:k=q
     .rw[z];exact⟨i,x,T.live hi,y,m⟩
     .exact f k (by lia) v
 have l:∀k,go t.mask k (go t.mask q (start t.mask h))=go t.mask (q+k) (start t.mask h):=λk=>(zu2 _ _ _ _).symm;have E:∀{f:Nat->Int} (o:HashAt hs f) {i:Nat} {x:Int},hs[i]?=some x->x≠h->(f i==h)=false:=λ{f} o {i x} y m=>by rw[o i x y];simpa using m
 rcases D _ q rfl G with⟨r,i,a,b,c,d,g⟩|⟨a,g⟩
 .refine .inr ⟨r,i,a,b,c,d,λf o=>?_⟩;unfold probe;refine B6 (r-q) _ _ (by lia) (λk B=>?_) (.inr ⟨i,?_,?_,?_⟩)
  .rw[l];obtain⟨A,x,u,v,z⟩:=g (q+k) (by lia) (by lia);exact⟨A,u,E o v z⟩
  .rw[l,show q+(r-q)=r by lia];exact T.live c
  .rw[o i h d];simp
  .rw[l,l,show q+(r-q)=r by lia,show q+(r-q+1)=r+1 by lia];rfl
 .refine .inl ⟨a,λf o=>?_⟩;unfold probe;refine B6 (Q-q) _ _ F (λk B=>?_) (.inl ⟨?_,?_⟩)
  .rw[l];obtain⟨A,x,u,v,z⟩:=g (q+k) (by lia) (by lia);exact⟨A,u,E o v z⟩
  .rw[l,show q+(Q-q)=Q by lia];exact T.empty a
  .rw[l,show q+(Q-q)=Q by lia,(Wf.go Q (Wf.start t.mask h)).d];rfl
theorem Tab.near {t:SetTable}{hs:List Int}(T:Tab t hs){i j:Nat}{h:Int}(hi:t.place[i]?=some j)(e:hs[i]?=some h):∃q,q<10*turns t.mask/\pj t.mask h q=j/\∀r,r<q->∃i:Nat,t.place[i]?=some (pj t.mask h r):=by
 obtain⟨a,c,all⟩:=T.path i j h hi e;obtain⟨b,h1,d⟩:=xk5 T.m (Wf.start t.mask h) (T.le i j hi);by_cases f:b<=a
 .exact⟨b,h1,d,λr g=>all r (by lia)⟩
 .exact⟨a,by lia,c,all⟩
theorem Size.turns {a:Nat}(h:Size a):10*SetTable.turns a<90000:=by
 unfold SetTable.turns;rcases h with rfl|rfl|rfl|rfl <;> decide
theorem L8 {α:Type}{l:List α}{p i:Nat}{x:α}(b:p<=l.length):(l.take p++x::l.drop p)[i]?=if i<p then l[i]? else if i=p then some x else l[i-1]?:=by
 have a:(l.take p).length=p:=by rw[aX];lia
 by_cases h1:i<p
 .rw[if_pos h1,bd (by lia),cr h1]
 .rw[if_neg h1,bo (by lia),a];by_cases h2:i=p
  .rw[if_pos h2,h2,ci];rfl
  .rw[if_neg h2,show i-p=(i-p-1)+1 by lia,List.getElem?_cons_succ,dO,show p+(i-p-1)=i-1 by lia]
structure Put (t t':SetTable) (hs hs':List Int) (p:Nat) (h:Int):Prop where
 mask:t'.mask=t.mask
 size:t'.place.size=t.place.size+1
 le:p<=hs.length
 eq:hs'=hs.take p++h::hs.drop p
 tab:t'.place.size*5<t'.mask*3->Tab t' hs'
 nod':t'.dummies=#[]
theorem Tab.put {t:SetTable}{hs:List Int}(T:Tab t hs){h:Int}{Q:Nat}(O:∀i:Nat,t.place[i]?≠some (pj t.mask h Q))(o:∀r,r<Q->∃i:Nat,t.place[i]?=some (pj t.mask h r))(b:Bool) :
  Put t (if b=true then(t.put (pj t.mask h Q)).1 else { (t.put (pj t.mask h Q)).1 with plain:=false }) hs (hs.take (t.put (pj t.mask h Q)).2++h::hs.drop (t.put (pj t.mask h Q)).2) (t.put (pj t.mask h Q)).2 h:=by
 obtain⟨H,X,S⟩:=below_spec t.place (pj t.mask h Q) T.ris;have Y:(t.put (pj t.mask h Q)).2=below t.place (pj t.mask h Q):=rfl;have L:(t.put (pj t.mask h Q)).1.place.toList=t.place.toList.take (below t.place (pj t.mask h Q))++pj t.mask h Q::t.place.toList.drop (below t.place (pj t.mask h Q)):=insertAt_toList _ _ _ H;have A:(t.put (pj t.mask h Q)).1.mask=t.mask:=rfl;have K:(t.put (pj t.mask h Q)).1.dummies=#[]:=by
  show(if has t.dummies _=true then _ else t.dummies)=#[];rw[T.nod];rfl
 rw[Y];generalize (t.put (pj t.mask h Q)).1=n at L A K;generalize hp:below t.place (pj t.mask h Q)=p at *;have f:∀i:Nat,n.place[i]?=if i<p then t.place[i]? else if i=p then some (pj t.mask h Q) else t.place[i-1]?:=λi=>by
  rw[←bz,L,L8 (by rw[aG];exact H),bz,bz]
 have D:n.place.size=t.place.size+1:=by
  rw[←aG,L,ag,aC,aX,br,aG];lia
 have sub:∀{i x:Nat},t.place[i]?=some x->∃w:Nat,n.place[w]?=some x:=λ{i x} hi=>by
  by_cases N:i<p
  .exact⟨i,by rw[f,if_pos N];exact hi⟩
  .exact⟨i+1,by rw[f,if_neg (by lia),if_neg (by lia)];exact hi⟩
 have l:∀G:SetTable,G.mask=n.mask->G.place=n.place->G.dummies=n.dummies->Put t G hs (hs.take p++h::hs.drop p) p h:=by
  intro G I p2 W;refine⟨by rw[I,A],by rw[p2,D],by rw[←T.len];exact H,rfl,λs=>?_,by rw[W,K]⟩;refine⟨by rw[I,A];exact T.m,by rw[W,K],λa c x y k d M=>?_,λi j hi=>?_,?_,s,λi j x hi g=>?_⟩
  .rw[p2,f]at k d;by_cases J:a<p
   .rw[if_pos J]at k;by_cases U:c<p
    .rw[if_pos U]at d;exact T.ris a c x y k d M
    .rw[if_neg U]at d;have g:=X a x J k;by_cases V:c=p
     .rw[if_pos V]at d;rw[←Option.some.inj d];exact g
     .rw[if_neg V]at d;have:=S (c-1) y (by lia) d;lia
   .rw[if_neg J]at k;rw[if_neg (by lia),if_neg (by lia)]at d;have hy:=S (c-1) y (by lia) d;by_cases R:a=p
    .rw[if_pos R]at k;have:pj t.mask h Q≠y:=λz=>O (c-1) (by rw[z];exact d);have e:=Option.some.inj k;lia
    .rw[if_neg R]at k;exact T.ris (a-1) (c-1) x y k d (by lia)
  .rw[p2,f]at hi;rw[I,A];by_cases E:i<p
   .rw[if_pos E]at hi;exact T.le i j hi
   .rw[if_neg E]at hi;by_cases F:i=p
    .rw[if_pos F]at hi;rw[←Option.some.inj hi];exact xb0 _ _ _
    .rw[if_neg F]at hi;exact T.le (i-1) j hi
  .rw[p2,D,ag,aC,aX,br,T.len];have:=T.len;lia
  .have C:p<=hs.length:=by rw[←T.len];exact H
   rw[L8 C]at g;rw[p2,f]at hi;rw[I,A,p2];have old:∀{w:Nat},t.place[w]?=some j->hs[w]?=some x->∃q,pj t.mask x q=j/\∀r,r<q->∃i:Nat,n.place[i]?=some (pj t.mask x r):=λ{w} u v=>by
    obtain⟨q,Z,B⟩:=T.path w j x u v;exact⟨q,Z,λr P=>(B r P).elim λi hi=>sub hi⟩
   by_cases E:i<p
   .rw[if_pos E]at hi g;exact old hi g
   .rw[if_neg E]at hi g;by_cases F:i=p
    .rw[if_pos F]at hi g;rw[←Option.some.inj g,←Option.some.inj hi];exact⟨Q,rfl,λr P=>(o r P).elim λi hi=>sub hi⟩
    .rw[if_neg F]at hi g;exact old hi g
 cases b with
 | true=>exact l n rfl rfl rfl
 | false=>exact l _ rfl rfl rfl
end Tb.ST
namespace Tb.ST
open PySem PySem.SetTable
theorem yz4 (mask:Nat):∀(k:Nat) (p:Probe),1<=k->(lps mask k p).j=(lps mask k p).i
 | 1,_,_=>rfl
 | k+2,p,_=>yz4 mask (k+1) (lp mask p) (by lia)
theorem Wf.lps {mask:Nat}:∀(k:Nat) {p:Probe},Wf mask p->Wf mask (lps mask k p)
 | 0,_,h=>h
 | k+1,_,h=>Wf.lps k h.lp
structure Rs (mask:Nat) (p:Probe):Prop where
 w:Wf mask p
 j:p.j=p.i
 m:p.more=runEnd mask p.i-p.i
theorem Rs.start (mask:Nat)(h:Int):Rs mask (start mask h):=⟨Wf.start mask h,rfl,rfl⟩
theorem Rs.lp {mask:Nat}{p:Probe}(h:Rs mask p):Rs mask (lp mask p):=⟨h.w.lp,rfl,rfl⟩
theorem yv9 {a:Nat}(f:Size a){p:Probe}(d:Wf a p){e:Nat}(g:e<=a):∃k,k<turns a/\(lps a k p).i=e:=by
 have c:(lps a 13 p).perturb=0:=by
  rw[F0];exact Nat.div_eq_of_lt (aV d.b (by decide))
 obtain⟨r,h,l,j⟩:=zi6 f.full (i:=(lps a 13 p).i) (e:=e) (dX (Wf.lps 13 d).i) (dX g);refine⟨13+r,by unfold turns;lia,?_⟩;rw[←yz4 a _ _ (by lia),zv2,zv3 a r _ c h,j]
theorem zj0 {a:Nat}:∀(d:Nat) (p:Probe),d<=p.more->(go a d p).j=p.j+d
 | 0,_,_=>rfl
 | d+1,p,h=>by
  have e:adv a p={ p with j:=p.j+1,more:=p.more-1 }:=by unfold adv;rw[if_pos (by lia)]
  show(go a d (adv a p)).j=_
  rw[zj0 d (adv a p) (by rw[e];show d<=p.more-1;lia),e]
  show p.j+1+d=_
  lia
def Fr (owner:Array (Option Nat))(j:Nat):Prop:=(owner.getD j (some 0)).isNone=true
theorem yl8 {mask:Nat}{owner:Array (Option Nat)}:∀(k fuel:Nat) (p:Probe),Rs mask p->k<fuel->Fr owner (lps mask k p).i->∃Q,layClean.free mask owner fuel p.i p.perturb=some (go mask Q p).j/\Fr owner (go mask Q p).j/\∀r,r<Q->¬Fr owner (go mask r p).j
 | k,fuel+1,p,hp,hk,hf=>by
  have hrun:=yj0 mask p.i hp.w.i
  unfold layClean.free
  cases e:(List.range (runEnd mask p.i+1-p.i)).find? λd=>(owner.getD (p.i+d) (some 0)).isNone with
  | some d =>
   obtain⟨hd,as,bs,hab,hno⟩:=List.find?_eq_some_iff_append.mp e
   have hdm:d∈List.range (runEnd mask p.i+1-p.i):=by rw[hab];simp
   have hdl:=av.mp hdm
   have hdr:d<=p.more:=by rw[hp.m];lia
   refine⟨d,?_,?_,λr hr=>?_⟩
   .rw[zj0 d p hdr,hp.j]
   .rw[zj0 d p hdr,hp.j];exact hd
   .rw[zj0 r p (by lia),hp.j]
    have hra:r∈as:=by
     have h1:(List.range (runEnd mask p.i+1-p.i))[r]?=some r:=aD (by lia)
     have h2:(List.range (runEnd mask p.i+1-p.i))[as.length]?=some d:=by rw[hab];simp
     have h3:as.length=d:=by
      obtain⟨_,h4⟩:=aw.mp h2
      rw[eQ]at h4
      exact h4
     rw[hab,bd (by lia)]at h1
     exact ax h1
    have:=hno r hra
    intro z
    unfold Fr at z
    rw[z]at this
    cases this
  | none =>
   have hall:=fM.mp e
   have occ:∀r,r<=p.more->¬Fr owner (go mask r p).j:=λr hr=>by
    rw[zj0 r p hr,hp.j]
    exact hall r (av.mpr (by rw[hp.m]at hr;lia))
   match k,hf with
   | 0,hf =>
    exfalso
    refine occ 0 (aY _) ?_
    show Fr owner p.j
    rw[hp.j]
    exact hf
   | k+1,hf =>
    obtain⟨Q,h1,h2,h3⟩:=yl8 k fuel (lp mask p) hp.lp (by lia) hf
    have hgo:∀r,go mask (p.more+1+r) p=go mask r (lp mask p):=λr=>by rw[zu2,ym0 p.more p rfl]
    refine⟨p.more+1+Q,?_,?_,λr hr=>?_⟩
    .rw[hgo]
     exact h1
    .rw[hgo];exact h2
    .by_cases hr2:r<=p.more
     .exact occ r hr2
     .have:=h3 (r-(p.more+1)) (by lia)
      rw[←hgo,show p.more+1+(r-(p.more+1))=r by lia]at this
      exact this
structure Own (mask:Nat) (owner:Array (Option Nat)) (hs:List Int):Prop where
 size:owner.size=mask+1
 has:∀(i:Nat) (h:Int),hs[i]?=some h->∃q,owner[pj mask h q]?=some (some i)/\∀r,r<q->∃i':Nat,owner[pj mask h r]?=some (some i')
 lt:∀(j i:Nat),owner[j]?=some (some i)->i<hs.length
 one:∀(j j' i:Nat),owner[j]?=some (some i)->owner[j']?=some (some i)->j=j'
theorem Own.nil (a:Nat):Own a (Array.replicate (a+1) none) []:=by
 have b:∀(j i:Nat),(Array.replicate (a+1) (none:Option Nat))[j]?≠some (some i):=λj i h=>by
  rw[Array.getElem?_replicate]at h;split at h
  .cases Option.some.inj h
  .cases h
 exact⟨Array.size_replicate,λi h e=>(by cases e),λj i h=>absurd h (b j i),λj c i h=>absurd h (b j i)⟩
theorem yx5 {owner:Array (Option Nat)}{j:Nat}:Fr owner j↔owner[j]?=some none:=by
 unfold Fr;by_cases h:j<owner.size
 .rw[aS h];simp[Array.getD,h]
 .rw[cR (by lia)];simp[Array.getD,h]
theorem nfr {a:Nat}{owner:Array (Option Nat)}(hs:owner.size=a+1){j:Nat}(b:j<=a)(h:¬Fr owner j):∃i:Nat,owner[j]?=some (some i):=by
 rw[yx5]at h;rw[aS (by lia)]at h ⊢
 cases e:owner[j] with
 | none=>rw[e]at h;exact absurd rfl h
 | some i=>exact⟨i,rfl⟩
theorem Own.free {c:Nat}{owner:Array (Option Nat)}{hs:List Int}(O:Own c owner hs)(hl:hs.length<=c):∃e,e<=c/\Fr owner e:=by
 by_cases o:∃e,e<=c/\Fr owner e
 .exact o
 .exfalso;have all:∀e,e<=c->∃i:Nat,owner[e]?=some (some i):=λe f=>nfr O.size f λz=>o ⟨e,f,z⟩;have d:∀e,e<=c->owner[e]?=some (some ((owner.getD e none).getD 0)):=λe f=>by
   obtain⟨i,hi⟩:=all e f;have hlt:e<owner.size:=by rw[O.size];lia
   rw[hi];have:owner.getD e none=some i:=by
    rw[aS hlt]at hi;simp[Array.getD,hlt,Option.some.inj hi]
   rw[this];rfl
  have j:((List.range (c+1)).map λe=>(owner.getD e none).getD 0).Nodup:=by
   refine aZ.mpr ?_;refine List.Pairwise.imp_of_mem ?_ (aN (n:=c+1));intro a b p hb k z;have g:=d a (bL (av.mp p));have h:=d b (bL (av.mp hb));rw[z]at g;exact k (O.one a b _ g h)
  have:=yh9 (m:=List.range hs.length) j λx l=>by
   obtain⟨e,f,rfl⟩:=az.mp l;exact av.mpr (O.lt e _ (d e (bL (av.mp f))))
  rw[aa,aA,aA]at this;lia
theorem Own.step {a:Nat}{owner:Array (Option Nat)}{hs:List Int}(B:Size a)(O:Own a owner hs)(hl:hs.length<=a)(h:Int) :
  ∃j,layClean.free a owner (turns a) (bits h % (a+1)) (bits h)=some j/\Own a (owner.setIfInBounds j (some hs.length)) (hs++[h]):=by
 obtain⟨e,C,D⟩:=O.free hl;obtain⟨k,E,y⟩:=yv9 B (Wf.start a h) C;obtain⟨Q,h1,h2,A⟩:=yl8 (owner:=owner) k (turns a) (start a h) (Rs.start a h) E (by rw[y];exact D);refine⟨_,h1,?_⟩;have G:pj a h Q<=a:=xb0 _ _ _;have o:pj a h Q<owner.size:=by rw[O.size];lia
 have c:owner[pj a h Q]?=some none:=yx5.mp h2;show Own a (owner.setIfInBounds (pj a h Q) (some hs.length)) (hs++[h]);have get:∀b:Nat,(owner.setIfInBounds (pj a h Q) (some hs.length))[b]?=if b=pj a h Q then some (some hs.length) else owner[b]?:=λb=>by
  rw[Array.getElem?_setIfInBounds];by_cases z:pj a h Q=b
  .rw[if_pos z,if_pos z.symm,if_pos o]
  .rw[if_neg z,if_neg (Ne.symm z)]
 have keep:∀{b i:Nat},owner[b]?=some (some i)->(owner.setIfInBounds (pj a h Q) (some hs.length))[b]?=some (some i):=λ{b i} q=>by
  rw[get,if_neg]
  .exact q
  .intro z;rw[z,c]at q
   cases Option.some.inj q
 refine⟨by rw[Array.size_setIfInBounds];exact O.size,λi x g=>?_,λb i hi=>?_,λt m i u v=>?_⟩
 .by_cases hi:i<hs.length
  .rw[bd hi]at g;obtain⟨q,F,f⟩:=O.has i x g;exact⟨q,keep F,λr p=>(f r p).elim λs d=>⟨s,keep d⟩⟩
  .have n:i=hs.length:=by
    have:=(aw.mp g).1;rw[ag,aC,bV]at this;lia
   subst n;rw[bo (aq _),ci]at g;have ex:h=x:=Option.some.inj g;subst ex;refine⟨Q,by rw[get,if_pos rfl],λr p=>?_⟩;obtain⟨s,d⟩:=nfr O.size (xb0 a h r) (A r p);exact⟨s,keep d⟩
 .rw[get]at hi;rw[ag,aC,bV];by_cases z:b=pj a h Q
  .rw[if_pos z]at hi;have:=Option.some.inj (Option.some.inj hi);lia
  .rw[if_neg z]at hi;have:=O.lt b i hi;lia
 .rw[get]at u v;by_cases w:t=pj a h Q
  .by_cases l:m=pj a h Q
   .rw[w,l]
   .rw[if_pos w]at u;rw[if_neg l]at v;have:=O.lt m i v;have:=Option.some.inj (Option.some.inj u);lia
  .rw[if_neg w]at u;by_cases l:m=pj a h Q
   .rw[if_pos l]at v;have:=O.lt t i u;have:=Option.some.inj (Option.some.inj v);lia
   .rw[if_neg l]at v;exact O.one t m i u v
theorem yb2 {mask:Nat}(hM:Size mask):∀(Y3:List Int) (hs:List Int) (owner:Array (Option Nat)),Own mask owner hs->hs.length+Y3.length<=mask ->
  ∃owner',Y3.foldl (λacc h=>do
   let (owner,k) ←acc
   let j ←layClean.free mask owner (turns mask) (bits h % (mask+1)) (bits h)
   pure (owner.setIfInBounds j (some k),k+1)) (some (owner,hs.length))=some (owner',(hs++Y3).length)/\Own mask owner' (hs++Y3)
 | [],hs,owner,O,_=>⟨owner,by rw[bN];rfl,by rw[bN];exact O⟩
 | h::Y3,hs,owner,O,hl=>by
  rw[aC]at hl
  obtain⟨j,e,O'⟩:=O.step hM (by lia) h
  obtain⟨owner',e2,O2⟩:=yb2 hM Y3 (hs++[h]) _ O' (by rw[ag,aC,bV];lia)
  have ea:hs++[h]++Y3=hs++h::Y3:=by simp
  rw[ea]at e2 O2
  refine⟨owner',?_,O2⟩
  rw[fh,←e2]
  congr 1
  show(do
   let j ←layClean.free mask owner (turns mask) (bits h % (mask+1)) (bits h)
   pure (owner.setIfInBounds j (some hs.length),hs.length+1))=_
  rw[e,ag]
  rfl
theorem xo7 {b:Nat}(d:Size b)(hs:Array Int)(hl:hs.size<=b):∃a,layClean b hs=some a/\Own b a hs.toList:=by
 obtain⟨a,e,O⟩:=yb2 d hs.toList [] _ (Own.nil b) (by rw[bV,aG];lia);refine⟨a,?_,O⟩;unfold layClean;rw[←Array.foldl_toList];have c:=congrArg (Option.map Prod.fst) e;exact c
structure xw3 (hs:List Int) (t':SetTable) (order:List Nat):Prop where
 perm:order.Perm (List.range hs.length)
 tab:hs.length*5<t'.mask*3->Tab t' (order.map λi=>hs.getD i 0)
theorem laid_ok {mask finger moves:Nat}{led plain:Bool}(L:Size mask)(hs:Array Int)(hl:hs.size<=mask):∃(t':SetTable) (order:Array Nat),laid mask finger moves led plain hs=some (t',order)/\t'.mask=mask/\t'.moves=moves/\t'.led=led/\xw3 hs.toList t' order.toList:=by
 obtain⟨c,e,O⟩:=xo7 L hs hl;have t:∀(j i:Nat),c.getD j none=some i↔c[j]?=some (some i):=λj i=>by
  by_cases h:j<c.size
  .rw[aS h];simp[Array.getD,h]
  .rw[cR (by lia)];simp[Array.getD,h]
 obtain⟨live,d⟩:∃live,live=(List.range (mask+1)).filterMap λj=>(c.getD j none).map (j,·):=⟨_,rfl⟩;have mem:∀(j i:Nat),(j,i)∈live↔c[j]?=some (some i):=λj i=>by
  rw[d,dN,←t];constructor
  .rintro⟨a,_,g⟩
   cases l:c.getD a none with
   | none=>rw[l]at g;cases g
   | some b =>
    rw[l]at g;have:=Option.some.inj g
    cases this
    exact l
  .intro l;refine⟨j,av.mpr ?_,by rw[l];rfl⟩;have:=(cF.mp ((t j i).mp l)).1;rw[O.size]at this;exact this
 have w:live.Pairwise λa b=>a.1<b.1:=by
  rw[d];refine List.Pairwise.filterMap _ (R:=λa b=>a<b) ?_ (fz);intro a b m x p y B
  cases qa:c.getD a none with
  | none=>rw[qa]at p;cases p
  | some u =>
   cases qb:c.getD b none with
   | none=>rw[qb]at B;cases B
   | some v =>
    rw[qa]at p;rw[qb]at B;have N:=Option.some.inj (show some (a,u)=some x from p);have P:=Option.some.inj (show some (b,v)=some y from B);rw[←N,←P];exact m
 have H:(live.map (·.2)).Nodup:=by
  refine aZ.mpr (List.Pairwise.imp_of_mem ?_ w);intro a b g hb hlt z;have h1:=(mem a.1 a.2).mp g;have h2:=(mem b.1 b.2).mp hb;rw[z]at h1;have:=O.one _ _ _ h1 h2;lia
 have n:∀i,i∈live.map (·.2)↔i<hs.toList.length:=λi=>by
  constructor
  .intro h;obtain⟨⟨j,K⟩,h1,rfl⟩:=az.mp h;exact O.lt j K ((mem j K).mp h1)
  .intro h;obtain⟨q,l,_⟩:=O.has i _ (ac h);exact az.mpr ⟨(_,i),(mem _ _).mpr l,rfl⟩
 have f:(live.map (·.2)).Perm (List.range hs.toList.length):=by
  refine(bx H aN).mpr λi=>?_;rw[n,av]
 refine⟨{ mask,place:=(live.map (·.1)).toArray,dummies:=#[],finger,led,moves,plain },(live.map (·.2)).toArray,?_,rfl,rfl,rfl,⟨f,λo=>?_⟩⟩
 .unfold laid;rw[e,d];rfl
 .have k:∀a:Nat,((live.map (·.1)).toArray)[a]?=(live[a]?).map (·.1):=λa=>by
   rw[List.getElem?_toArray,af]
  have A:((live.map (·.1)).toArray).size=hs.toList.length:=by
   rw[aB,aa];have:=f.length_eq;rw[aa,aA]at this;exact this
  refine⟨L,rfl,λa b x y g hb m=>?_,λi j hi=>?_,?_,?_,λi j x hi p=>?_⟩
  .rw[k]at g hb
   cases qa:live[a]? with
   | none=>rw[qa]at g;cases g
   | some u =>
    cases qb:live[b]? with
    | none=>rw[qb]at hb;cases hb
    | some v =>
     rw[qa]at g;rw[qb]at hb;rw[←Option.some.inj g,←Option.some.inj hb];obtain⟨C,D⟩:=aw.mp qa;obtain⟨E,F⟩:=aw.mp qb;rw[←D,←F];exact bP.mp w a b C E m
  .rw[k]at hi
   cases q:live[i]? with
   | none=>rw[q]at hi;cases hi
   | some u =>
    rw[q]at hi;rw[←Option.some.inj hi];have:=(mem u.1 u.2).mp (ax q);have:=(cF.mp this).1;rw[O.size]at this;show u.1<=mask;lia
  .rw[A,aa,cx];exact(f.length_eq.trans aA).symm
  .show((live.map (·.1)).toArray).size*5<mask*3;rw[A];exact o
  .rw[k]at hi
   cases q:live[i]? with
   | none=>rw[q]at hi;cases hi
   | some u =>
    rw[q]at hi;have Q:u.1=j:=Option.some.inj hi;rw[cx,af,af,q]at p;have ex:hs.toList.getD u.2 0=x:=Option.some.inj p;have M:=(mem u.1 u.2).mp (ax q);have hlt:=O.lt _ _ M;have J:hs.toList[u.2]?=some x:=by
     rw[←ex,ac hlt];simp[List.getD,ac hlt]
    obtain⟨T,I,s⟩:=O.has u.2 x J;refine⟨T,?_,λr S=>?_⟩
    .rw[←Q];exact O.one _ _ _ I M
    .obtain⟨K,G⟩:=s r S;obtain⟨a,g⟩:=cv ((mem _ _).mpr G);exact⟨a,by rw[k,g];rfl⟩
end Tb.ST
namespace L2
open PySem PySem.Spec PyProof.Rows
section
variable {prog:gq}{w:gv}{K:Type}[DecidableEq K]{knd:KeyKind prog w K}{A:gw}{E:Value->gh->Prop}{s:gh}
theorem zz2 {n:Nat}{v:Value}(h:carriedByValue v=true):ofAClassStatement n v=pure false:=by
 cases v with
 | ref a=>cases h
 | _=>first|rfl|(unfold ofAClassStatement;rfl)
theorem C2 {ks:List K}{a:Addr}{Q:Bool->gh->Prop}(f:IsTupleKey knd s.heap ks a)(h:Q false s):gr (gu prog w) A (ofAClassStatement 8 (.ref a)) Q E s:=by
 have hT:=f.typeIs;obtain⟨o,e,n,i,j,g,hi⟩:=f;unfold ofAClassStatement;refine gg (wpAny_typeOf hT ?_);dsimp only;rw[if_pos (by decide)];refine gg (gl ?_);rw[if_neg (by decide)];refine gg (wpAny_seqItems i g ?_);dsimp only;refine gg ?_;rw[←Array.forIn_toList];refine wpAny_forIn_list _ (λY3 r s'=>r.1=none/\s'=s/\∀v∈Y3,carriedByValue v=true) _ ?_ ?_ _ _ ⟨rfl,rfl,hi.byValue⟩
 .rintro v Y3 r s' ⟨c,rfl,b⟩;rw[zz2 (b v ao)];refine gg (gl ?_);rw[if_neg (by decide)];exact gl ⟨rfl,rfl,λu d=>b u (ah _ d)⟩
 .rintro⟨k,l⟩ s' ⟨c,rfl,_⟩;simp only at c;subst c;exact gl h
theorem xr6 {k:List K}{b:Addr}(j:IsTupleKey knd s.heap k b):∀(ys:List Value) {Q:Bool->gh->Prop},(∀y∈ys,∃(e:List K) (c:Addr),y=.ref c/\IsTupleKey knd s.heap e c)->Q false s->gr (gu prog w) A (searchCouldBeSeen (.ref b) ys) Q E s:=by
 intro ys Q g h;unfold searchCouldBeSeen;refine gg ?_;refine wpAny_forIn_list _ (λY3 r s'=>r.1=none/\s'=s/\∀y∈Y3,∃(e:List K) (c:Addr),y=.ref c/\IsTupleKey knd s.heap e c) _ ?_ ?_ _ _ ⟨rfl,rfl,g⟩
 .rintro y Y3 r s' ⟨f,rfl,a⟩;obtain⟨e,c,rfl,i⟩:=a y ao;dsimp only;split
  .exact gl ⟨rfl,rfl,λu d=>a u (ah _ d)⟩
  .refine gg (wpAny_eqIsQuiet_tuple j ?_);rw[if_neg (by decide)];refine gg (wpAny_eqIsQuiet_tuple i ?_);rw[if_neg (by decide)];refine gg (C2 j ?_);rw[if_neg (by decide)];refine gg (C2 i ?_);rw[if_neg (by decide)];exact gl ⟨rfl,rfl,λu d=>a u (ah _ d)⟩
 .rintro⟨l,m⟩ s' ⟨f,rfl,_⟩;simp only at f;subst f;exact gl h
def ent (knd:KeyKind prog w K)(x:List K×Addr):Int×Value:=(tupleKeyHash knd x.1,.ref x.2)
def N7 (knd:KeyKind prog w K)(xs:List (List K×Addr)):List Int:=xs.map λx=>tupleKeyHash knd x.1
theorem zu6 {xs:List (List K×Addr)}{i:Nat}{h:Int}(e:(N7 knd xs)[i]?=some h):∃x,xs[i]?=some x/\tupleKeyHash knd x.1=h:=by
 unfold N7 at e;rw[af]at e
 cases q:xs[i]? with
 | none=>rw[q]at e;cases e
 | some x=>rw[q]at e;exact⟨x,rfl,Option.some.inj e⟩
theorem yx4 {α β:Type}(g:α->β)(l:List α)(a:List Nat):a.filterMap (λi=>(l.map g)[i]?)=(a.filterMap (λi=>l[i]?)).map g:=by
 rw[List.map_filterMap];congr 1;funext i;rw[af]
theorem ya3 {α:Type}(l:List α):∀n,(List.range n).filterMap (λi=>l[i]?)=l.take n
 | 0=>by simp
 | n+1=>by
  rw[eE,List.filterMap_append,ya3 l n,be]
  congr 1
theorem yl7 (l:List Int):∀(order:List Nat),(∀i∈order,i<l.length)->order.filterMap (λi=>l[i]?)=order.map λi=>l.getD i 0
 | [],_=>rfl
 | i::r,h=>by
  have hi:=h i ao
  rw[dL,ac hi,aJ,yl7 l r λj hj=>h j (ah _ hj)]
  try simp[List.getD,ac hi]
theorem ys8 {a n:Nat}(b:Tb.ST.Size a)(h1:n*5<a*3)(h2:¬(n+1)*5<a*3)(c:n<=305) :
  Tb.ST.Size (SetTable.sizeAbove (SetTable.grown (n+1))-1)/\n+1<=SetTable.sizeAbove (SetTable.grown (n+1))-1/\(n+1)*5<(SetTable.sizeAbove (SetTable.grown (n+1))-1)*3/\SetTable.sizeAbove (SetTable.grown (n+1))<=1000:=by
 have:n=4∨n=18∨n=76:=by rcases b with rfl|rfl|rfl|rfl <;> lia
 rcases this with rfl|rfl|rfl
 .exact⟨.inr (.inl (by decide)),by decide,by decide,by decide⟩
 .exact⟨.inr (.inr (.inl (by decide))),by decide,by decide,by decide⟩
 .exact⟨.inr (.inr (.inr (by decide))),by decide,by decide,by decide⟩
structure Cnt {α:Type} (L X:List α):Prop where
 mem:∀k,k∈X↔k∈L
 le:X.length<=L.length
 eq:X.length=L.length↔L.Nodup
theorem Cnt.nil {α:Type}:Cnt ([]:List α) []:=⟨λ_=>Iff.rfl,aq _,⟨λ_=>dA,λ_=>rfl⟩⟩
theorem zj8 {α:Type}{L:List α}{k:α}:(L++[k]).Nodup↔L.Nodup/\k∉L:=by
 rw[bj];constructor
 .rintro⟨a,_,c⟩;exact⟨a,λz=>c k z k (by simp) rfl⟩
 .rintro⟨a,c⟩;refine⟨a,by simp,λx b y d e=>?_⟩;rw[ar.mp d]at e;exact c (e ▸ b)
theorem Cnt.old {α:Type}{L X:List α}{k:α}(c:Cnt L X)(h:k∈X):Cnt (L++[k]) X:=by
 have h1:=c.le;refine⟨λx=>?_,by rw[ag];lia,?_⟩
 .rw[c.mem,aI,ar];exact⟨.inl,λz=>z.elim id λe=>by rw[e];exact(c.mem k).mp h⟩
 .rw[zj8];refine⟨λe=>?_,λe=>absurd ((c.mem k).mp h) e.2⟩;rw[ag,aC,bV]at e;lia
theorem Cnt.new {α:Type}{L X a:List α}{k:α}(c:Cnt L X)(h:k∉X)(p:a.Perm (k::X)):Cnt (L++[k]) a:=by
 have h1:=c.le;have h2:=p.length_eq;rw[aC]at h2;refine⟨λx=>?_,by rw[ag,aC,bV];lia,?_⟩
 .rw[p.mem_iff,ay,c.mem,aI,ar];exact Or.comm
 .rw[zj8,←c.eq,h2,ag,aC,bV];exact⟨λe=>⟨by lia,λz=>h ((c.mem k).mpr z)⟩,λe=>by lia⟩
theorem zu8 {h h':Heap}{ks:List K}{b:Addr}(c:IsTupleKey knd h ks b)(k:∀o,h.get? b=some o->h'.get? b=some o):IsTupleKey knd h' ks b:=by
 obtain⟨o,a,n,d,r⟩:=c;exact⟨o,a,n,k o d,r⟩
theorem yu1 (led:Bool):Tb.ST.Tab (SetTable.fresh 0 0 led) []:=by
 have c:∀(i j:Nat),(SetTable.fresh 0 0 led).place[i]?≠some j:=λi j h=>by
  have e:(SetTable.fresh 0 0 led).place[i]?=none:=cR (aY i);rw[e]at h
  cases h
 exact⟨.inl rfl,rfl,λa b x y h=>absurd h (c a x),λi j h=>absurd h (c i j),rfl,by show 0*5<7*3;decide,λi j h e=>absurd e (c i j)⟩
abbrev C4 (led:Bool):Obj:={ cls:=.type "set",dict:=none,data:=.set #[] 0 (.fresh 0 0 led) }
end
section
variable {X:Cx}
theorem zs6:∀{as:List Addr} {us:List Value},o0 (as.map V.ref) us->us=as.map Value.ref
 | [],_,r=>by rw[eB]at r;cases r;rfl
 | a::as,_,r=>by
  rw[aJ]at r
  cases r with
  | cons h t =>
   cases h
   rw[zs6 t]
   rfl
theorem yp8 {α β:Type}:∀{as:List α} {bs:List β},as.length=bs.length->(as.zip bs).map (·.1)=as/\(as.zip bs).map (·.2)=bs
 | [],[],_=>⟨rfl,rfl⟩
 | a::as,b::bs,h=>by
  obtain⟨h1,h2⟩:=yp8 (as:=as) (bs:=bs) (by simpa using h)
  rw[fK,aJ,aJ,h1,h2]
  exact⟨rfl,rfl⟩
theorem yp7 {α β:Type}{F:α->β->Prop}:∀{as:List α} {bs:List β},Paired F as bs->∀x∈bs.zip as,F x.2 x.1
 | _,_,.nil,x,h=>by cases h
 | _,_,.cons f r,x,h=>by
  rw[fK]at h
  rcases ay.mp h with z|z
  .rw[z];exact f
  .exact yp7 r x z
end
section
variable {prog:gq}{w:gv}{A:gw}{E:Value->gh->Prop}{s:gh}
def zb8 (h:Heap)(b:Addr)(x:Nat×Nat):Prop:=∃t u,IsTup h b #[.int (x.1:Int) t,.int (x.2:Int) u]
theorem zb8.at {h h':Heap}{b:Addr}{x:Nat×Nat}(p:zb8 h b x)(k:∀o,h.get? b=some o->h'.get? b=some o):zb8 h' b x:=by
 obtain⟨t,u,o,a,r⟩:=p;exact⟨t,u,o,k o a,r⟩
theorem xk0 {h:Heap}{as:List Addr}{ps:List (Nat×Nat)}(f:Paired (zb8 h) as ps):∃fs,W.KatTups h (as.map Value.ref) fs/\fs.length=as.length/\∀v∈fs,∃i t,v=Value.int i t:=by
 induction f with
 | nil=>exact⟨[],trivial,rfl,λv h=>(by cases h)⟩
 | cons a _ ih =>
  obtain⟨fs,h1,h2,b⟩:=ih;obtain⟨t,u,o,e,c,n,d⟩:=a;refine⟨Value.int _ t::fs,W.KatTups.cons e c d rfl h1,by rw[aC,aC,h2],λv g=>?_⟩;rcases ay.mp g with z|z
  .exact⟨_,_,z⟩
  .exact b v z
theorem paired_at2 {α β:Type}{F:α->β->Prop}:∀{as:List α} {bs:List β},Paired F as bs->∀(i:Nat) (a:α) (b:β),as[i]?=some a->bs[i]?=some b->F a b
 | _,_,.nil,i,a,b,h,_=>by cases i <;> cases h
 | _,_,.cons f _,0,a,b,h,h'=>by
  cases h
  cases h'
  exact f
 | _,_,.cons _ r,i+1,a,b,h,h'=>paired_at2 r i a b (by simpa using h) (by simpa using h')
theorem zk8 {α β:Type}{F:α->β->Prop}(f:Nat->α)(g:Nat->β):∀l:List Nat,(∀i∈l,F (f i) (g i))->Paired F (l.map f) (l.map g)
 | [],_=>.nil
 | i::r,h=>.cons (h i ao) (zk8 f g r λj hj=>h j (ah _ hj))
theorem yb6 {α:Type}(l:List α)(d:α):(List.range l.length).map (λi=>l.getD i d)=l:=by
 apply cK;intro i;rw[af];by_cases hi:i<l.length
 .rw[aD hi];simp[ac hi]
 .rw[aR (by rw[aA];lia),aR (by lia)];rfl
theorem yc5 {h h':Heap}{as:List Addr}{ps:List (Nat×Nat)}(d:Paired (zb8 h) as ps)(k:∀b∈as,∀o,h.get? b=some o->h'.get? b=some o):Paired (zb8 h') as ps:=by
 induction d with
 | nil=>exact .nil
 | cons f _ ih=>exact .cons (f.at λo c=>k _ ao o c) (ih λb a=>k b (ah _ a))
end
def Q5 (P:gq)(w:gv)(K:W.Frag)(mg:Str->Option Value)(base:Heap)(k:Nat)(C:Addr)(m:Str)(ps:List Str)(sp:Sp):Prop :=
 ∃f fd,o8 P w K mg base CX0 k f fd ps sp/\xe4 K C m f/\M3 K fd ps []
section
variable {X:Cx}{C:Addr}{k j:Nat}{m:Str}{ps:List Str}{sp:Sp}{o e:Expr}{es:List Expr}{ta:TE}{t:TA}{apos pos cpos:Pos}{pl:Sem Bool}
theorem X2 (c:Cls X.K C)(kn:Q5 X.prog X.w X.K X.mg X.base k C m ps sp)(hr:V0 j X.A)(ho:PE X o ta)(ha:PA X (e::es) t)(hj:k<=j:=by decide)
  (hst:gs (e::es) X.env=(false,eval e X.env)::gs es X.env:=by rfl) (hpl:(backTo pos (gs es X.env)).any (·.1)=false:=by rfl)
  (ht:eval (.Call (.Attribute o m apos) (e::es) [] pos) X.env=(do
   let v ←eval o X.env
   standAt apos.atName
   let (f,first) ←holding [v] (getMethod v m pl)
   callWith pos f first (backTo pos (gs (e::es) X.env)) (backToKw pos (gC [] X.env))):=by rfl):PE X (.Call (.Attribute o m apos) (e::es) [] pos) (yp3 C m sp [] E0 ta t):=by
 obtain⟨f,fd,G,hm,hb⟩:=kn
 exact xi1 ho c hm G (hr.mono hj) hb .nil yn4 ha hst hpl ht
end
section
variable {X:Cx}{pos:Pos}
def xw7 (K:W.Frag)(n:Nat)(t:TGs):TG:=λv σ H Q=>∃a xs,v=.ref a/\SqL K H a xs/\xs.length=n/\t xs σ H Q
theorem xq4 {es:List Expr}{k:Nat}{t:TGs}{n:Nat}(hc:X.calm=true)(h:PGs X es t)
  (hn:(assignEach es X.env).length=n:=by rfl) (hst:(assignEach es X.env).findIdx? (·.1)=none:=by rfl):PG X (.Tuple es k pos) (xw7 X.K n t):=by
 intro pins s σ H v u Q I r hw;obtain⟨a,xs,e1,hq,hl,hw⟩:=hw;subst e1
 cases r
 obtain⟨its,rv,ht,hz⟩:=I.list hq;have hsz:(assignEach es X.env).length=its.toArray.size:=by simp[hn,←hl,rv.length]
 rw[assign_Tuple];refine gg (wpAny_standAt ?_);unfold unpack;rw[hsz,hst];refine gg (gy (W.kun_itemsOf (I.ok.hd hc) ht.isList λh' hx=>?_));have I1:Inv X pins σ H { s with heap:=h' }:=I.kept (t':=s.toks) λb o e=>hx b o (aP (aE e)) e;exact h pins _ σ H xs _ Q I1 (by simpa using rv) hw
end
theorem xt9 {k:Key}{u:Value}(h:zj2 k u=true):o5 (kV k) u:=by
 rcases i7 h with⟨i,t,rfl,rfl⟩|⟨x,t,rfl,rfl⟩
 .exact⟨t,rfl⟩
 .exact⟨t,rfl⟩
section
variable {X:Cx}{pins:List (Addr×Obj)}{σ:St}{H:Hp}{s:gh}
theorem Inv.freeze {a:Addr}{kvs:List (Key×V)}{c:Obj}(I:Inv X pins σ H s)(e:H a=some (.dK kvs))(d:s.heap.get? a=some c):Inv X pins σ (upd H a (.frz c (.dK kvs))) s:=by
 have f:Mut (H a):=by rw[e];exact True.intro
 refine Inv.write (t':=s.toks) (o:=.frz c (.dK kvs)) I f (.inl rfl) (λ_ _ _ q=>q) ⟨c,d⟩ ⟨d,?_⟩;refine(I.hok a _ e).stay (λ_ _ _ q=>q) (λb q=>?_) λb xs q=>?_
 .rw[y0 (l4 q e (by intro z;cases z))];exact q
 .rw[y0 (l4 q e (by intro z;cases z))];exact q
theorem Inv.thaw {a:Addr}{kvs:List (Key×V)}{i:Obj}(I:Inv X pins σ H s)(e:H a=some (.frz i (.dK kvs)))(h:∀o u,X.H₀ a≠some (.frz o u)):Inv X pins σ (upd H a (.dK kvs)) s:=by
 have g:∀b o,H b=some o->o≠.frz i (.dK kvs)->b≠a:=λb o q d=>l4 q e d;have f:∀b,H b=none->b≠a:=λb q z=>by subst z;rw[q]at e;cases e
 refine⟨I.ok,I.os,I.bare,⟨I.base.keep,I.base.slot,λb o q n v=>?_,I.base.there,λb xs q=>?_,λb o u q=>?_,λb ps q=>?_⟩,I.loc,I.cell,?_,λx c q=>?_,λp t=>?_,λb u q=>?_,I.len⟩
 .have r:=I.base.free b o q n v;rw[y0 (f b r)];exact r
 .have r:=I.base.tups b xs q;rw[y0 (g b _ r (by intro z;cases z))];exact r
 .have r:=I.base.frzs b o u q;have hb:b≠a:=λz=>by subst z;exact h o u q
  rw[y0 hb];exact r
 .obtain⟨m,r⟩:=I.base.tbls b ps q;exact⟨m,by rw[y0 (g b _ r (by intro z;cases z))];exact r⟩
 .rw[y0 (f _ I.free)];exact I.free
 .rw[y0 (f _ (I.freeC x c q))];exact I.freeC x c q
 .obtain⟨h1,h2,j,k,l⟩:=I.pin p t;exact⟨h1,by rw[y0 (f _ h2)];exact h2,j,k,l⟩
 .by_cases hb:b=a
  .subst hb;rw[z3]at q
   cases q
   obtain⟨_,r⟩:=I.hok b _ e;refine r.stay (λ_ _ _ q=>q) (λc q=>?_) λc xs q=>?_
   .rw[y0 (g c _ q (by intro z;cases z))];exact q
   .rw[y0 (g c _ q (by intro z;cases z))];exact q
  .rw[y0 hb]at q;refine(I.hok b u q).stay (λ_ _ _ q=>q) (λc q=>?_) λc xs q=>?_
   .rw[y0 (g c _ q (by intro z;cases z))];exact q
   .rw[y0 (g c _ q (by intro z;cases z))];exact q
theorem Inv.nofrz {a:Addr}{kvs:List (Key×V)}(I:Inv X pins σ H s)(e:H a=some (.dK kvs)):∀o u,X.H₀ a≠some (.frz o u):=λo u q=>by
 have r:=I.base.frzs a o u q
 rw[e]at r
 cases r
end
def ItK (ob:Obj)(d:Addr)(kvs:List (Key×V)):It :=
 ⟨λi H=>H d=some (.frz ob (.dK kvs))/\i<kvs.length,λi H x H'=>H'=H/\∃k v,kvs[i]?=some (k,v)/\x=kV k,λi H=>H d=some (.frz ob (.dK kvs))/\kvs.length<=i⟩
theorem yl4 {P:gq}{w:gv}{H:Hp}{h:Heap}{d:Addr}{f:Obj}{kvs:List (Key×V)}{i:Nat}(ok:HOk P w H h)(c:∃es,f.data=.dict es i)(e:H d=some (.frz f (.dK kvs))) :
  ∃b,KV kvs b/\h.DictAt (d9 P w) d b i:=by
 obtain⟨l,_,_,b,g,o,es,m,a,p,j,r⟩:=ok d _ e;rw[l]at a
 cases a
 obtain⟨n,k⟩:=c;rw[k]at j
 cases j
 exact⟨b,g,f,_,l,p,k,r⟩
theorem xk7 {κ:Type}:∀{kvs:List (κ×V)} {vs:List (κ×Value)},KV kvs vs->∀{i:Nat} {k:κ} {v:V},kvs[i]?=some (k,v)->∃u,vs[i]?=some (k,u)/\o5 v u
 | _,_,.nil,i,k,v,h=>by cases i <;> cases h
 | _,_,.cons (b:=q) f _,0,k,v,h=>by
  obtain⟨k',u⟩:=q
  cases h
  obtain⟨e,r⟩:=f
  cases e
  exact⟨u,rfl,r⟩
 | _,_,.cons _ r,i+1,k,v,h=>by
  obtain⟨u,hu,f⟩:=xk7 r (i:=i) (by simpa using h)
  exact⟨u,by simpa using hu,f⟩
theorem yu6 {P:gq}{w:gv}{K:W.Frag}{tg:Expr}(M:Obj)(d it:Addr)(kvs:List (Key×V))(l:Nat)(j:∃es,M.data=.dict es l):yg3 P w K tg (ItK M d kvs) [it] it (λi h=>h.IsKeyIter it d i kvs.length l) where
 mem:=by simp
 obj:=λi h st b hb=>by
  have e:b=it:=by simpa using hb
  subst e
  obtain⟨o,e,c,d⟩:=st
  exact⟨o,e,λv z=>by rw[d]at z;cases z⟩
 keep:=λi h h' st k=>by
  obtain⟨o,e,r⟩:=st
  exact⟨o,k it (by simp) o e,r⟩
 item:=by
  intro X B D A J i pins s σ H E I m st C
  subst B D A
  obtain⟨e,hi⟩:=C
  obtain⟨G,a,n⟩:=yl4 I.hok j e
  have L:kvs[i]?=some (kvs[i].1,kvs[i].2):=ac hi
  obtain⟨u,U,_⟩:=xk7 a L
  obtain⟨p,q,S,t,x,y⟩:=m it (by simp)
  have g:s.heap.IsKeyIter it d i G.length l:=by rw[←a.length];exact st
  refine wpAny_pyNext_dict_item g n U λF h' T f Y=>?_
  rw[←a.length]at f
  have N:Inv X pins σ H { s with heap:=h' }:=I.turned (t':=s.toks) (λb o hb e=>(Y.2 b hb).trans e) p q t x y
  obtain⟨o,Q,c,O⟩:=id f
  exact⟨F,rfl,ya6 (s:={ s with heap:=h' }) Q c O (by decide) ⟨kV kvs[i].1,H,N,xt9 T,⟨rfl,_,_,L,rfl⟩,f,λb hb=>(m b hb).1⟩⟩
 done:=by
  intro X B D A J i pins s σ H E I m st C
  subst B D A
  obtain⟨e,hi⟩:=C
  obtain⟨G,a,n⟩:=yl4 I.hok j e
  obtain⟨p,q,S,t,x,y⟩:=m it (by simp)
  have g:s.heap.IsKeyIter it d i G.length l:=by rw[←a.length];exact st
  exact wpAny_pyNext_dict_end (I.ok.hd J) g n (aR (by rw[←a.length];exact hi)) λh' R=>⟨rfl,I.turned (t':=s.toks) (λb o hb e=>R b o hb e) p q t x y⟩
 self:=λ_ _ _ _ _ st h=>wpAny_pyIter_keyiter st h
section
variable {X:Cx}{tg:Expr}
def xt4 (td:TE):TI:=λσ H R=>td σ H λx H1=>∃d kvs,x=.ref d/\H1 d=some (.dK kvs)/\∀ob,R (ItK ob d kvs) (upd H1 d (.frz ob (.dK kvs)))
theorem zx0 {l:Expr}{td:TE}(hl:PE X l td):PI X tg l (xt4 td):=by
 intro pins s σ H R I h;refine thn (hl pins s σ H _ I h) λv c ⟨x,H1,i,w,u⟩=>?_;obtain⟨d,kvs,e,k,q⟩:=u;subst e
 cases w
 obtain⟨z,hs,A,g,n⟩:=yw6 i.hok k;obtain⟨p,j⟩:=n.dictAt;obtain⟨m,es,t,y,a,r⟩:=id j;have f:=i.freeze k t;refine wpAny_pyIter_dict hs j ?_;rw[←g.length];refine⟨c.heap.objs.size,[c.heap.objs.size],_,_,_,rfl,f.kept (t':=c.toks) λb o e=>au _ e,yu6 m d _ kvs p ⟨es,a⟩,⟨_,aF _ rfl,rfl,rfl⟩,λb hb=>?_,q m⟩;have e:b=c.heap.objs.size:=by simpa using hb
 subst e;exact f.fpOk (aq _) (f.hok.fresh (aq _))
def xv8 (t:TE):TE:=λσ H Q=>∃d kvs,H d=some (.dK kvs)/\t σ H λv H'=>(∃ob,H' d=some (.frz ob (.dK kvs)))/\Q v (upd H' d (.dK kvs))
theorem xi2 {e:Expr}{t:TE}(h:PE X e t):PE X e (xv8 t):=by
 intro pins s σ H Q I f;obtain⟨d,kvs,b,q⟩:=f;have g:=I.nofrz b;refine thn (h pins s σ H _ I q) λv l ⟨x,H1,a,j,⟨k,c⟩,i⟩=>?_;exact⟨x,_,a.thaw c g,j,i⟩
theorem zq0 {ob:Obj}{d:Addr}{kvs:List (Key×V)}{fr:List Nat}{te:CT TE}{σ:St}{H1:Hp}{Q:Addr->Hp->Prop}(hS:H1 d=some (.frz ob (.dK kvs)))(ys:List V)(hn:ys.length=kvs.length)(hz:kvs.length<=gn)
  (turn:∀(i:Nat) H k v,kvs[i]?=some (k,v)->y8 H1 H->∀C₀ s₀ H₀ fp,te C₀ s₀ H₀ fp (some (kV k)::fr.map λj=>(σ[j]?).getD none) H λy H4=>y8 H H4/\ys[i]?=some y)
  (fin:∀D H,H1 D=none->y8 H1 H->H D=some (.lst ys)->Q D H) :
  ∀D,H1 D=none->∃W:Nat->Nat->St->Hp->Prop,(∃m,W 0 m (M2 1 fr σ) (upd H1 D (.lst [])))/\∀i m σ' H',W i m σ' H' ->
  ((ItK ob d kvs).stop i H'/\Q D H')∨((ItK ob d kvs).go i H'/\∀x H2,(ItK ob d kvs).yld i H' x H2->∀C₀ s₀ H₀ fp,Z0 0 x σ' H2 λσ3 H3=>∃N:VK,te C₀ s₀ H₀ fp σ3 H3 N/\∀y H4,N y H4 ->
   ∃ys m',H4 D=some (.lst ys)/\ys.length<gn/\m'<m/\W (i+1) m' σ3 (upd H4 D (.lst (ys++[y])))) :=
 D1 ys hn hz (λH s=>⟨s _ _ hS,aq _⟩) (λi H hi s=>⟨s _ _ hS,hi⟩) (λi H x H2 hi s y=>⟨y.1,by obtain⟨k,v,hk,rfl⟩:=y.2;exact turn i H k v hk s⟩) fin
end
def yp9 (P:gq)(w:gv)(K:W.Frag)(mg:Str->Option Value)(base:Heap)(k:Nat)(C:Addr)(x:Str)(ps:List Str)(sp:Sp):Prop :=
 ∃f fd,o8 P w K mg base CX0 k f fd ps sp/\Mk K C f/\mg x=some (.ref C)/\M3 K fd ps []
section
variable {X:Cx}{C:Addr}{k j:Nat}{x:Str}{ps:List Str}{sp:Sp}{e:Expr}{es:List Expr}{t:TA}{p pos:Pos}
theorem zw8 (kn:yp9 X.prog X.w X.K X.mg X.base k C x ps sp)(hr:V0 j X.A)(hg:Gl X x)(ha:PA X (e::es) t)(hj:k+1<=j:=by decide)(hdb:(x==("__debug__":Str))=false:=by decide)
  (he:gs (e::es) X.env=(false,eval e X.env)::gs es X.env:=by rfl) (hpl:(backTo pos (gs es X.env)).any (·.1)=false:=by rfl):PE X (.Call (.Name x p) (e::es) [] pos) (xl2 C sp [] E0 t):=by
 obtain⟨f,fd,G,hM,hm,hb⟩:=kn;exact xi0 hM G (hr.mono hj) hg hm hb .nil yn4 ha hdb he hpl
def ipM:TIp:=λx y H Q=>∃i j,x=.int i/\y=.int j/\xe2 i j/\Q (.int (i*j)) H
theorem xn1:PIp X .Mult ipM:=by
 intro pins s σ H x y v u Q I d e h;obtain⟨i,j,a,b,c,q⟩:=h;subst a;subst b;obtain⟨t,rfl⟩:=d;obtain⟨f,rfl⟩:=e;exact imul_int ⟨.int _,H,I.tok _,⟨_,rfl⟩,q⟩ c.ok
end
end L2
namespace L2
open PySem PySem.Spec PyProof.Rows PySem.Builtin
section
variable {X:Cx}
def xb2 (K:W.Frag):R2:=λx y H Q=>∃a b xs ys,x=.ref a/\y=.ref b/\SqT K H a xs/\SqT K H b ys/\xs.length+ys.length<=gn /\
 (xs=[]->Q (.ref b) H)/\(xs≠[]->ys=[]->Q (.ref a) H)/\(xs≠[]->ys≠[]->∀p,H p=none->Q (.ref p) (upd H p (.tup (xs++ys))))
theorem zk7:OpR X (binaryOp .Add) (xb2 X.K):=by
 intro pins s σ H x y v u Q I w z h;obtain⟨a,b,xs,ys,rfl,rfl,p,hb,D,J,L,M⟩:=h;by_cases f:xs=[]
 .cases w
  cases z
  obtain⟨g,N,G,_⟩:=I.tuple p;obtain⟨i,O,p2,_⟩:=I.tuple hb;obtain⟨⟨A,B,o,sl⟩,t,q,n,r⟩:=id G;obtain⟨⟨m,k,j,l⟩,e,c,E,d⟩:=id p2;simp only at q r c d;subst q r c d;have C:g=[]:=N.nil_iff.mpr f;exact concat_meets ⟨_,t,rfl⟩ ⟨_,e,rfl⟩ noFill_tuple_add seq_tuple_add PySem.F.slot_tuple_add PySem.F.entry_tuple_add (PySem.F.args_tuple_add_2 _ _) (tuple_addW0 a b g.toArray i.toArray n E B k sl l (by simp[C])) ⟨t,e,⟨.ref b,H,I,rfl,J f⟩⟩
 .exact xh5 pins s σ H (.ref a) (.ref b) v u Q I w z ⟨a,b,xs,ys,rfl,rfl,p,hb,f,D,L f,M f⟩
end
end L2
namespace L2
open PySem PySem.SeqAt PyProof PyProof.Rows
section
variable {prog:gq}{w:gv}{A:gw}{E:Value->gh->Prop}{s:gh}
theorem yh4 {l:Addr}{x:Value}{xs:List PyData}{d:PyData}{as bs:List Addr}{k:Nat}{Q:Value->gh->Prop}(t:Reads s.heap (.ref l) (.list xs) as)(u:Reads s.heap x d bs)(c:PyData.canLayAll0 xs=true)(r:d.canLay0=true)
  (z:A.units+2+min (PyData.depthAll xs) d.depth<cLine) (v:k<2 ^ 60) (hit:(xs[k]?).map (λe=>PyData.eqv e d)=some true) (g:∀i,i<k->(xs[i]?).map (λe=>PyData.eqv e d)=some false)
  (h:Q (.int k s.toks) { s with toks:=s.toks+1 }):gr (gu prog w) A (call (.builtin "list.index") [.ref l,x]) Q E s:=by
 cases t with
 | list h1 h2 h3 h4 =>
  rename_i o vs n as';obtain⟨p,q,j,sl⟩:=o;dsimp only at h2 h3;subst h2 h3;have hm:=readsAll_map xs _ _ c h4;have hl:vs.size=xs.length:=by rw[←hm,aa,aG]
  have a:∀i (hi:i<vs.size),(xs[i]?).map (λe=>PyData.eqv e d)=some (PyData.eqv (readOf s.heap vs[i]) d):=λi hi=>by
   rw[←hm,af,bz,aS hi];rfl
  have b:k<vs.size:=by
   rw[hl]
   cases e:xs[k]? with
   | none=>rw[e]at hit;cases hit
   | some y=>exact(aw.mp e).1
  refine call_meets PySem.F.slot_list_index ⟨_,h1,rfl⟩ PySem.F.entry_list_index (PySem.F.args_list_index_2 _ _)
   (list_indexAt l vs n q sl x (λy=>PyData.eqv (readOf s.heap y) d) k b (by lia) ?_ ?_) ⟨h1,items_eqAt (A:=A) h4 u c r (by lia),h⟩
  .have:=a k b;rw[hit]at this;exact(Option.some.inj this).symm
  .intro m f hlt;have:=a m f;rw[g m hlt]at this;exact(Option.some.inj this).symm
end
section
variable {X:Cx}
def yn9:V->List V->Hp->VK->Prop:=λx vs H Q=>∃(a:Addr) (xs:List V) (ds:List PyData) (y:V) (d:PyData) (k:Nat),x=.ref a/\vs=[y]/\H a=some (.lst xs)/\Dts H xs ds/\Dt H y d/\PySem.SeqAt.shaped (.list ds)=true/\PySem.SeqAt.shaped d=true/\k<2 ^ 60/\(ds[k]?).map (λe=>PyData.eqv e d)=some true/\(∀i,i<k->(ds[i]?).map (λe=>PyData.eqv e d)=some false)/\Q (.int k) H
theorem ys7 (t:X.A.units+66<cLine):MtR X "list.index" yn9:=by
 intro pins s σ H x xs v w Q I p o h;obtain⟨a,ys,ds,y,d,k,rfl,rfl,f,hs,g,e,c,i,hit,b,q⟩:=h
 cases p
 obtain⟨u,rfl,n⟩:=O9 o;obtain⟨r,l⟩:=(Dt.lst f hs).reads I (PySem.SeqAt.canLay_of_shaped e) (.ref a) rfl;obtain⟨bs,m⟩:=g.reads I (PySem.SeqAt.canLay_of_shaped c) u n;have j:=room_in_shaped (xs:=ds) (A:=X.A.in1) c (by show X.A.units+1+65<cLine;lia);exact yh4 l m (PySem.SeqAt.canLay_of_shaped e) (PySem.SeqAt.canLay_of_shaped c) j i hit b ⟨.int k,H,I.tok _,⟨_,rfl⟩,q⟩
end
end L2
namespace L2
open PySem PySem.Spec PyProof.Rows
theorem f7:Slot "set_iterator" (Str.ofString "__next__") "set_iterator.__next__":=Slot.of (by rw[typeLookup_type,builtinLookup_eq_fast];rfl) (by rfl) (by rfl) (by rfl) (Or.inl (by rfl)) (by rw[isSubtype_type];rfl) (by decide +kernel)
theorem G0:Slot "set_iterator" (Str.ofString "__iter__") "set_iterator.__iter__":=Slot.of (by rw[typeLookup_type,builtinLookup_eq_fast];rfl) (by rfl) (by rfl) (by rfl) (Or.inl (by rfl)) (by rw[isSubtype_type];rfl) (by decide +kernel)
theorem M4:entryFor table "set_iterator.__next__"=some Builtin.«set_iterator.__next__»:=entryFor_of_tree (by rfl)
theorem zf4:entryFor table "set.__iter__"=some Builtin.«frozenset.__iter__»:=entryFor_alias (id':="frozenset.__iter__") (by rfl) rfl (by decide +kernel) (by rfl)
theorem N1 (a:Value):argsOk "set_iterator.__next__" { pos:=[a] }:=by
 unfold argsOk;rw[signature?_of (id:="set_iterator.__next__") (o:="set_iterator".toList.reverse) (n:="__next__".toList.reverse) (by rfl) (by rfl)];rfl
theorem zc4:entryFor table "set_iterator.__iter__"=some Builtin.«dict_keyiterator.__iter__»:=entryFor_alias (id':="dict_keyiterator.__iter__") (by rfl) rfl (by decide +kernel) (by rfl)
theorem A2 (a:Value):argsOk "set_iterator.__iter__" { pos:=[a] }:=by
 unfold argsOk;rw[signature?_of (id:="set_iterator.__iter__") (o:="set_iterator".toList.reverse) (n:="__iter__".toList.reverse) (by rfl) (by rfl)];rfl
section
variable {prog:gq}{w:gv}{A:gw}{E:Value->gh->Prop}{s:gh}
def zh0 (h:Heap)(I a:Addr)(slot i n ep:Nat):Prop:=∃o,h.get? I=some o/\o.cls=.type "set_iterator"/\o.data=.fields #[.int slot 0,.int i 0,.ref a,.int n 0,.int ep 0]
theorem zh0.typeIs {I a:Addr}{slot i n ep:Nat}(h:zh0 s.heap I a slot i n ep):s.TypeIs (.ref I) "set_iterator":=let ⟨o,h1,h2,_⟩:=h;⟨o,h1,h2⟩
theorem yi7 {a:Addr}{o:Obj}{es:Array (Int×Value)}{f:Nat}{t:SetTable}{Q:Value->gh->Prop}(b:s.heap.get? a=some o)(i:o.ExactSet)(c:o.data=.set es f t)(d:t.fits es.size=true)(h:t.plain=true)
  (q:Q (.ref s.heap.objs.size) { s with heap:=s.heap.push { cls:=.type "set_iterator",data:=.fields #[.int 0 0,.int 0 0,.ref a,.int es.size 0,.int f 0] } }):gr (gu prog w) A (pyIter (.ref a)) Q E s:=by
 have hT:s.TypeIs (.ref a) "set":=⟨o,b,i.1⟩;obtain⟨g,place,k,l,j,mv,pl⟩:=t;have e:pl=true:=h;subst e;refine wpAny_pyIter_slot hT F.slot_set_iter (wpAny_call_entry F.slot_set_iter hT zf4 ?_ (F.args_set_iter_1 _));unfold Builtin.«frozenset.__iter__» Builtin.Frozenset.slot0 Builtin.Frozenset.sizeOf setDrawn setEpoch setEntries setsByText;refine gg (gg (gl ?_));show gr _ _ (pure a) _ _ s;refine gl (gg (gg (gg (wpAny_setState_of b c d (gl (gl ?_))))));refine gg (gg (wpAny_setState_of b c d ?_));dsimp only;refine gg (gg (wpAny_askSetting (gl (gl ?_))));rw[if_neg (by
  show ¬((!_&&(!true&&decide (es.size > 1)))=true)
  rw[Bool.not_true,dC,dP]
  decide)]
 refine gg (gl (gg (gg (wpAny_setState_of b c d (gl ?_)))));dsimp only;unfold newFields;refine gg (wpAny_newObj_type (gl ⟨_,rfl,"set_iterator",_,⟨_,aF _ rfl,rfl⟩,f7.lookup,?_⟩));simpa[rawInt] using q
theorem xg7 {I a:Addr}{slot i n ep:Nat}{Q:Value->gh->Prop}(hI:zh0 s.heap I a slot i n ep)(q:Q (.ref I) s):gr (gu prog w) A (pyIter (.ref I)) Q E s :=
 wpAny_pyIter_slot hI.typeIs G0 (wpAny_call_entry G0 hI.typeIs zc4 (gl ⟨.ref I,rfl,"set_iterator",_,hI.typeIs,f7.lookup,q⟩) (A2 (.ref I)))
theorem yy4 {r:Addr}{Q:Bool->gh->Prop}(hT:s.TypeIs (.ref r) "set")(q:Q false s):gr (gu prog w) A (Builtin.List.listLengthHint (.ref r)) Q E s:=by
 unfold Builtin.List.listLengthHint;refine gg (wpAny_specialOf hT F.slot_set_len.lookup ?_);dsimp only;rw[show splitId "set.__len__"=some ("set","__len__") from rfl];dsimp only;refine gg (wpAny_isInstance (b:=true) (T:="set") hT (by rw[isSubtype_type];rfl) ?_);rw[if_neg (by decide)];show gr _ _ (if true=true then _ else _) _ _ s;rw[if_pos rfl];refine gg (wpAny_typeOf hT ?_);exact gl q
theorem zr8 {α:Type}(next:Nat->Nat):∀(f k:Nat) (l:List α) (acc:Array α),l.length=f->(pickOrder.go next f k l acc).toList.Perm (acc.toList++l)
 | 0,k,l,acc,h=>by
  rw[pickOrder.go,cP.mp h,bN]
 | f+1,k,l,acc,h=>by
  have hi:next k % l.length<l.length:=bJ _ (by lia)
  rw[pickOrder.go,ac hi]
  refine(zr8 next f (k+1) _ _ (by rw[fm hi,h];rfl)).trans ?_
  rw[Array.toList_push,di]
  refine List.Perm.append_left _ ?_
  rw[List.eraseIdx_eq_take_drop_succ]
  have e:=List.perm_middle (a:=l[next k % l.length]) (l₁:=l.take (next k % l.length)) (l₂:=l.drop (next k % l.length+1))
  rw[List.getElem_cons_drop,bA]at e
  exact e.symm
def X9 (w:gv)(a:Addr)(ep:Nat)(es:Array (Int×Value)):Array (Int×Value):=if w.params.followText "set-order"=true then pickOrder (w.params.setOrder a ep) es else es
theorem O5 (w:gv)(a:Addr)(b:Nat)(es:Array (Int×Value)):(X9 w a b es).toList.Perm es.toList:=by
 unfold X9;split
 .exact zr8 _ es.size 0 es.toList #[] (aG ..)
 .exact List.Perm.refl _
def U0 (w:gv)(t:SetTable)(i:Nat):Nat:=if w.params.followText "set-order"=true∨i=0 then 0 else t.place.getD (i-1) 0+1
theorem zm2 {w:gv}{t:SetTable}{i j:Nat}(h:¬w.params.followText "set-order"=true)(e:t.place[i]?=some j):U0 w t (i+1)=j+1:=by
 unfold U0;rw[if_neg (by rintro (z|z);exact h z;lia),Nat.add_sub_cancel,Array.getD_eq_getD_getElem?,e];rfl
theorem yv3 {w:gv}{t:SetTable}{i:Nat}(h:¬w.params.followText "set-order"=true)(g:∀(a b x y:Nat),t.place[a]?=some x->t.place[b]?=some y->a<b->x<y)(hi:i<=t.place.size):SetTable.below t.place (U0 w t i)=i:=by
 obtain⟨h1,h2,f⟩:=Tb.ST.below_spec t.place (U0 w t i) g;rcases dQ i with z|z
 .subst z;refine Nat.eq_zero_of_not_pos λc=>?_;have j:t.place[0]?=some t.place[0]:=aS (by lia);have:=h2 0 _ c j;unfold U0 at this;rw[if_pos (.inr rfl)]at this;exact absurd this (bO _)
 .obtain⟨k,rfl⟩:∃k,i=k+1:=⟨i-1,by lia⟩;have e:t.place[k]?=some t.place[k]:=aS (by lia);rw[zm2 h e]at h1 h2 f ⊢;rcases fQ (SetTable.below t.place (t.place[k]+1)) (k+1) with c|c|c
  .have:=f k _ (by lia) e;lia
  .exact c
  .have d:t.place[k+1]?=some t.place[k+1]:=aS (by lia);have l:=h2 (k+1) _ c d;have m:=g k (k+1) _ _ e d (by lia);lia
structure N0 (w:gv) (o:Obj) (es:Array (Int×Value)) (ep:Nat) (t:SetTable):Prop where
 hx:o.ExactSet
 hd:o.data=.set es ep t
 hf:t.fits es.size=true
 hp:t.plain=true
 hl:t.led=!w.params.followText "set-order"
 hr:∀(a b x y:Nat),t.place[a]?=some x->t.place[b]?=some y->a<b->x<y
 hs:t.place.size=es.size
theorem zm1 {a:Addr}{o:Obj}{es:Array (Int×Value)}{h i:Nat}{t:SetTable}{Q:Option (Value×Nat)->gh->Prop}(n:s.heap.get? a=some o)(S:N0 w o es h t)(hi:i<=es.size)
  (q:Q ((X9 w a h es)[i]?.map λe=>(e.2,U0 w t (i+1))) s):gr (gu prog w) A (setNext a (U0 w t i) i h) Q E s:=by
 obtain⟨y,l,m,r,hl,u,hs⟩:=S;unfold setNext setsByText;refine gg (wpAny_setState_of n l m ?_);dsimp only;refine gg (gg (wpAny_askSetting (gl ?_)));show gr _ _ (if w.params.followText "set-order"=true then _ else _) _ _ s;by_cases hb:w.params.followText "set-order"=true
 .rw[if_pos hb,if_neg (by simp)];unfold setWalk setsByText;refine gg (gg (wpAny_setState_of n l m ?_));dsimp only;refine gg (gg (wpAny_askSetting (gl ?_)));show gr _ _ (if w.params.followText "set-order"=true then _ else _) _ _ s;rw[if_pos hb];refine gg (wpAny_askSetting (gl (gl ?_)));have b:U0 w t i=0:=by unfold U0;rw[if_pos (.inl hb)]
  have g:U0 w t (i+1)=0:=by unfold U0;rw[if_pos (.inl hb)]
  rw[b];rw[g]at q;unfold X9 at q;rw[if_pos hb]at q;exact q
 .rw[if_neg hb];obtain⟨p,place,v,x,f,mv,pl⟩:=t;have k:pl=true:=r;subst k;have j:f=true:=by
   rw[show f=_ from hl];simpa using hb
  subst j;rw[if_neg (by show ¬((!true&&decide (es.size > 1))=true);simp)];refine gg ?_;show gr _ _ (if (!true && !es.isEmpty)=true then _ else pure ()) _ _ s;rw[if_neg (by simp)];refine gl (gl ?_);dsimp only;have d:=yv3 (w:=w) (i:=i) hb u (by rw[hs];exact hi);dsimp only at d hs;rw[d];unfold X9 at q;rw[if_neg hb]at q;by_cases c:i<es.size
  .have b:es[i]?=some es[i]:=aS c;have g:place[i]?=some place[i]:=aS (by lia);rw[zm2 hb g,b]at q;rw[b,g];exact q
  .have b:es[i]?=none:=cR (by lia);rw[b]at q ⊢;exact q
theorem yz8 {I a:Addr}{o:Obj}{es:Array (Int×Value)}{c i:Nat}{t:SetTable}{e:Int×Value}{Q:Option Value->gh->Prop}(h:zh0 s.heap I a (U0 w t i) i es.size c)(j:s.heap.get? a=some o)(S:N0 w o es c t)(hi:i<=es.size)(l:(X9 w a c es)[i]?=some e)
  (q:∀h',zh0 h' I a (U0 w t (i+1)) (i+1) es.size c->Heap.SameBut I s.heap h'->Q (some e.2) { s with heap:=h' }):gr (gu prog w) A (pyNext (.ref I)) Q E s:=by
 have hT:=h.typeIs;obtain⟨m,d,cI,b⟩:=id h;unfold pyNext;refine gg (wpAny_attempt (wpAny_callSpecial?_slot (name:=Str.ofString "__next__") hT f7 (wpAny_call_entry f7 hT M4 ?_ (N1 _))));unfold Builtin.«set_iterator.__next__» setEntries;refine gg (gl (gg (wpAny_fieldsOf d b ?_)));dsimp only;refine gg (gg (wpAny_setState_of j S.hd S.hf (gl ?_)));dsimp only;rw[if_neg (by simp)];refine gg ?_;rw[aK,aK,aK];refine zm1 j S hi ?_;rw[l];show gr _ _ (setField (.ref I) 0 (rawInt ((U0 w t (i+1):Nat):Int)) >>= _) _ _ s;refine gg (wpAny_setField d b (by simp) ?_);have g:=Heap.get?_update_self (Obj.mapFields (·.setIfInBounds 0 (rawInt ((U0 w t (i+1):Nat):Int)))) d (Obj.isFreed_of_fields (Obj.data_mapFields b _));refine gg (wpAny_setField g (Obj.data_mapFields b _) (by simp) ?_);have f:=Obj.data_mapFields b (·.setIfInBounds 0 (rawInt ((U0 w t (i+1):Nat):Int)));have k:=Heap.get?_update_self (Obj.mapFields (·.setIfInBounds 1 (rawInt ((i:Int)+1)))) g (Obj.isFreed_of_fields (Obj.data_mapFields f _));refine gl ⟨_,rfl,gl (q _ ⟨_,k,?_,?_⟩ ((Heap.SameBut.update ..).trans (Heap.SameBut.update ..)))⟩
 .rw[Obj.cls_mapFields,Obj.cls_mapFields];exact cI
 .rw[Obj.data_mapFields f];simp[rawInt]
theorem xf6 {I a:Addr}{o:Obj}{es:Array (Int×Value)}{c:Nat}{t:SetTable}{Q:Option Value->gh->Prop}(h:A.handled=none)(f:zh0 s.heap I a (U0 w t es.size) es.size es.size c)(g:s.heap.get? a=some o)(S:N0 w o es c t)
  (q:∀h',Heap.ExtBut I s.heap h'->Q none { s with heap:=h' }):gr (gu prog w) A (pyNext (.ref I)) Q E s:=by
 have hT:=f.typeIs;obtain⟨j,e,cI,d⟩:=id f;have i:(X9 w a c es).size=es.size:=by rw[←aG,(O5 w a c es).length_eq,aG]
 unfold pyNext;refine gg (wpAny_attempt (wpAny_callSpecial?_slot (name:=Str.ofString "__next__") hT f7 (wpAny_call_entry f7 hT M4 ?_ (N1 _))));unfold Builtin.«set_iterator.__next__» setEntries;refine gg (gl (gg (wpAny_fieldsOf e d ?_)));dsimp only;refine gg (gg (wpAny_setState_of g S.hd S.hf (gl ?_)));dsimp only;rw[if_neg (by simp)];refine gg ?_;rw[aK,aK,aK];refine zm1 g S (aq _) ?_;rw[cR (by rw[i];exact aq _)];show gr _ _ (setField (.ref I) 2 .none >>= _) _ _ s;refine gg (wpAny_setField e d (by simp) ?_);show gr _ _ (newExc (.type "StopIteration") [] >>= _) _ _ _;refine gg ?_;simp only[newExc,newTuple];refine gg (wpAny_newObj_type (gg (m:=firstArgMember _ _) (wpAny_of_eq (a:=Value.none) (by first|rfl|(simp only[firstArgMember];rfl)) (wpAny_newObj_type ?_ (by size_fits)))) (by size_fits));simp only[raiseNew];refine gg (wpAny_handled ?_);rw[show A.in1.handled=none from h];refine gg (gl (wpAny_throw ?_));refine gg (wpAny_isInstance (b:=true) (T:="StopIteration") ⟨_,aF _ rfl,rfl⟩ isSubtype_stop ?_);exact gl (q _ (((Heap.SameBut.update ..).extBut.push _).push _))
theorem xd7 {A:gw}(hh:A.handled=none)(I a:Addr)(hne:a≠I){o:Obj}{es:Array (Int×Value)}{ep:Nat}{t:SetTable}(S:N0 w o es ep t) :
  Walks prog w A I [I,a] [I] es.size (λi v=>∃e,(X9 w a ep es)[i]?=some e/\v=e.2) (λi h=>zh0 h I a (U0 w t i) i es.size ep/\h.get? a=some o) where
 sub:=λb hb=>by simp at hb;simp[hb]
 frame:=λ_ _ _ st hk=>⟨let ⟨o,ho,r⟩:=st.1;⟨o,hk I (by simp) o ho,r⟩,hk a (by simp) o st.2⟩
 item:=λi s Q E hi st hQ=>by
  have hz:(X9 w a ep es).size=es.size:=by rw[←aG,(O5 w a ep es).length_eq,aG]
  have hx:(X9 w a ep es)[i]?=some ((X9 w a ep es)[i]'(by lia)):=aS (by lia)
  refine yz8 st.1 st.2 S (cu hi) hx λh' hit sb=>?_
  exact hQ _ h' s.toks ⟨_,hx,rfl⟩ ⟨hit,sb.extBut a o hne st.2⟩ λb o hb e=>sb.extBut b o (λh=>hb (by simp[h])) e
 done:=λs Q E st hQ=>xf6 hh st.1 st.2 S λh' eb=>hQ h' s.toks λb o hb e=>eb b o (λh=>hb (by simp[h])) e
 self:=λ_ _ _ _ st hQ=>xg7 st.1 hQ
theorem xj1 {a:Addr}{o:Obj}{es:Array (Int×Value)}{ep:Nat}{t:SetTable}(S:N0 w o es ep t) :
  W.KdlSrc prog w "set" a a es.size (λi v=>∃e,(X9 w a ep es)[i]?=some e/\v=e.2) (λh=>h.get? a=some o) where
 type:=λ_ hm=>⟨_,hm,S.hx.1⟩
 there:=λ_ hm=>⟨aE hm,aE hm⟩
 keep:=λ_ _ hm hk=>hk a (.inl rfl) _ hm
 notList:=by decide
 notTuple:=by decide
 hint:=λ_ _ _ _ hm hq=>yy4 ⟨_,hm,S.hx.1⟩ hq
 iter:=λ_ s hh hm=>⟨_,_,(λ_ _ hq=>yi7 hm S.hx S.hd S.hf S.hp hq),xd7 hh _ a (aP (aE hm)) S,⟨⟨_,aF _ rfl,rfl,by unfold U0;rw[if_pos (.inr rfl)];rfl⟩,au _ hm⟩⟩
end
end L2
namespace L2.SP
open L2 PySem PySem.Spec PyProof.Rows
section
variable {prog:gq}{w:gv}{A:gw}{E:Value->gh->Prop}{s:gh}{K:Type}[DecidableEq K]{knd:KeyKind prog w K}{L:Bool}
def L3 (h:Heap)(b:Addr):Prop:=∀o,h.get? b=some o->∀items n,o.data=.seq items n->∀v∈items.toList,∃i t,v=Value.int i t
theorem ya8 {ks:List K}{a:Addr}{Q:Bool->gh->Prop}(g:IsTupleKey knd s.heap ks a)(k:L3 s.heap a)(h:Q true s):gr (gu prog w) A (hashByValue 8 (.ref a)) Q E s:=by
 have hT:=g.typeIs;obtain⟨o,c,n,j,l,f,hi⟩:=g;have b:=k o j c n f;unfold hashByValue;refine gg (wpAny_specialOf hT F.slot_tuple_hash.lookup ?_);dsimp only;refine gg (wpAny_seqItems j f ?_);rw[cN];refine gg ?_;rw[←Array.forIn_toList];refine wpAny_forIn_list _ (λY3 r s'=>r.1=none/\s'=s/\∀v∈Y3,∃i t,v=Value.int i t) _ ?_ ?_ _ _ ⟨rfl,rfl,b⟩
 .rintro v Y3 r s' ⟨d,rfl,b⟩;obtain⟨i,t,rfl⟩:=b v ao;rw[show hashByValue 7 (.int i t)=pure true by unfold hashByValue;rfl];refine gg (gl ?_);rw[if_neg (by decide)];exact gl ⟨rfl,rfl,λu e=>b u (ah _ e)⟩
 .rintro⟨m,p⟩ s' ⟨d,rfl,_⟩;simp only at d;subst d;exact gl h
theorem ym8 {a finger moves:Nat}{led plain:Bool}{hs:Array Int}{t':SetTable}{b:Array Nat}(h:SetTable.laid a finger moves led plain hs=some (t',b)):t'.plain=plain/\t'.led=led:=by
 unfold SetTable.laid at h
 cases e:SetTable.layClean a hs with
 | none=>rw[e]at h;cases h
 | some owner =>
  rw[e]at h
  cases h
  exact⟨rfl,rfl⟩
theorem L3.at {h h':Heap}{ks:List K}{b:Addr}(hi:L3 h b)(e:IsTupleKey knd h ks b)(k:∀o,h.get? b=some o->h'.get? b=some o):L3 h' b:=by
 obtain⟨o,c,n,d,r⟩:=e;intro o' a;rw[k o d]at a
 cases a
 exact hi o d
structure L5 (knd:KeyKind prog w K) (L:Bool) (h:Heap) (a:Addr) (xs:List (List K×Addr)) (o:Obj) (es:Array (Int×Value)) (ep:Nat) (t:SetTable):Prop where
 ho:h.get? a=some o
 hd:o.data=.set es ep t
 hx:o.ExactSet
 he:es.toList=xs.map (ent knd)
 tab:Tb.ST.Tab t (N7 knd xs)
 ks:∀x∈xs,IsTupleKey knd h x.1 x.2
 nd:(xs.map (·.1)).Nodup
 pl:t.plain=true/\t.led=L
theorem L5.fits {h:Heap}{a:Addr}{xs:List (List K×Addr)}{o:Obj}{es:Array (Int×Value)}{b:Nat}{t:SetTable}(T:L5 knd L h a xs o es b t):t.fits es.size=true:=by
 have h1:=T.tab.fits;have h2:es.size=xs.length:=by rw[←aG,T.he,aa]
 unfold SetTable.fits;rw[bp,beq_iff_eq,decide_eq_true_eq];refine⟨?_,h1.2.1⟩;rw[h1.1,h2];unfold N7;rw[aa]
theorem L5.get {h:Heap}{a:Addr}{xs:List (List K×Addr)}{o:Obj}{es:Array (Int×Value)}{b:Nat}{t:SetTable}(T:L5 knd L h a xs o es b t){i:Nat}{x:List K×Addr}(e:xs[i]?=some x):es[i]?=some (ent knd x):=by
 rw[←bz,T.he,af,e];rfl
theorem zf2 {a b:Addr}{xs:List (List K×Addr)}{o:Obj}{es:Array (Int×Value)}{H:Nat}{t:SetTable}{k:List K}(T:L5 knd L s.heap a xs o es H t)(F:IsTupleKey knd s.heap k b)(J:A.units<cLine){g q r i:Nat}{x:List K×Addr}{Q:SetFound->gh->Prop}
  (p:xs[i]?=some x) (I:t.place[i]?=some (Tb.ST.pj t.mask (tupleKeyHash knd k) r))
  (m:∀f,Tb.ST.HashAt (N7 knd xs) f->t.probe f (tupleKeyHash knd k) (Tb.ST.go t.mask q (Tb.ST.start t.mask (tupleKeyHash knd k)))=some (.candidate (Tb.ST.pj t.mask (tupleKeyHash knd k) r) i (Tb.ST.go t.mask (r+1) (Tb.ST.start t.mask (tupleKeyHash knd k)))))
  (h1:x.1=k->Q (.there none) s) (h2:x.1≠k->gr (gu prog w) A (setSearchFrom a (.ref b) (tupleKeyHash knd k) true g (some (Tb.ST.go t.mask (r+1) (Tb.ST.start t.mask (tupleKeyHash knd k))))) Q E s)
  {d:Option SetTable.Probe} (n:d.getD (t.probeStart (tupleKeyHash knd k))=Tb.ST.go t.mask q (Tb.ST.start t.mask (tupleKeyHash knd k))) :
  gr (gu prog w) A (setSearchFrom a (.ref b) (tupleKeyHash knd k) true (g+1) d) Q E s:=by
 have D:=T.fits
 have v:=T.ks x (ax p)
 unfold setSearchFrom
 refine gg (wpAny_setState_of T.ho T.hd D ?_)
 dsimp only
 rw[T.tab.fits.2.2,if_neg aH,n]
 rw[m]
 rotate_left
 .intro N O u
  obtain⟨y,B,e⟩:=zu6 u
  have:=T.get B
  show((es[N]?.map (·.1)).getD 0)=O
  rw[this]
  exact e
 dsimp only
 have l:∀{c:Sem SetFound} {h:Sem SetFound},gr (gu prog w) A c Q E s->gr (gu prog w) A (if (!t.led)=true then do
   let seen ←searchCouldBeSeen (Value.ref b) (List.map (λx=>x.snd) (Array.filter (λx=>x.fst==tupleKeyHash knd k) es).toList)
   if seen=true then h else c
  else c) Q E s:=λ{c h} G=>by
  cases hl:t.led with
  | true=>rw[if_neg (by decide)];exact G
  | false =>
   rw[if_pos (by decide)]
   refine gg (xr6 F _ (λy B=>?_) ?_)
   .obtain⟨e,C,rfl⟩:=az.mp B
    have j:e∈es.toList:=by
     rw[Array.toList_filter]at C
     exact(bv.mp C).1
    rw[T.he]at j
    obtain⟨z,M,rfl⟩:=az.mp j
    exact⟨z.1,z.2,rfl,T.ks z M⟩
   .rw[if_neg (by decide)];exact G
 refine l ?_
 rw[T.get p]
 dsimp only[ent]
 refine gg (gy (wpAny_eqBool_tuple J v F ?_))
 refine gg (wpAny_setState_of T.ho T.hd D ?_)
 dsimp only
 by_cases e:x.1=k
 .rw[decide_eq_true e,if_pos (by decide)]
  exact gl (h1 e)
 .rw[decide_eq_false e,if_neg (by decide),show t.sameMemory t.moves t.mask=some true by unfold SetTable.sameMemory;rw[if_pos (by simp)]]
  dsimp only
  rw[if_pos rfl,T.tab.live I]
  dsimp only
  rw[T.get p]
  dsimp only[ent]
  have same:isSame (Value.ref x.2) (Value.ref x.2)=pure true:=by
   unfold isSame
   dsimp only
   rw[if_pos (by simp)]
  rw[same]
  refine gg (gl (gg (gl ?_)))
  rw[if_pos rfl]
  dsimp only
  rw[if_neg (by decide)]
  exact h2 e
theorem zx7 {a b:Addr}{xs:List (List K×Addr)}{o:Obj}{es:Array (Int×Value)}{I:Nat}{t:SetTable}{k:List K}(T:L5 knd L s.heap a xs o es I t)(J:IsTupleKey knd s.heap k b)(O:A.units<cLine){Q:SetFound->gh->Prop}
  (hm:k∈xs.map (·.1)) (h:Q (.there none) s):gr (gu prog w) A (setSearch a (.ref b) (tupleKeyHash knd k) true) Q E s:=by
 obtain⟨y,G,rfl⟩:=az.mp hm;obtain⟨p,l⟩:=cv G;have g:(N7 knd xs)[p]?=some (tupleKeyHash knd y.1):=by unfold N7;rw[af,l];rfl
 obtain⟨V,e⟩:∃j,t.place[p]?=some j:=⟨_,aS (by rw[T.tab.len];exact(aw.mp g).1)⟩;obtain⟨v,N,B,all⟩:=T.tab.near e g;have u:∀n q c d,v-q=n->q<=v->n<c->d.getD (t.probeStart (tupleKeyHash knd y.1))=Tb.ST.go t.mask q (Tb.ST.start t.mask (tupleKeyHash knd y.1))->gr (gu prog w) A (setSearchFrom a (.ref b) (tupleKeyHash knd y.1) true c d) Q E s:=by
  intro n
  induction n using Nat.strongRecOn with
  | _ n ih =>
   intro q c d P M R D;obtain⟨c,rfl⟩:∃f,c=f+1:=⟨c-1,by lia⟩;rcases T.tab.next M (by lia) all (.inr ⟨p,by rw[B];exact e,g⟩) with⟨no,_⟩|⟨r,i,hqr,hrQ,hp,hhi,hpr⟩
   .exact absurd (by rw[B];exact e) (no p)
   .obtain⟨x,F,_⟩:=zu6 hhi;refine zf2 T J O F hp hpr (λ_=>h) (λC=>?_) D;have S:r≠v:=λz=>by
     subst z;rw[B,←e]at hp;have H:i=p:=by
      have h1:=Tb.ST.below_at T.tab.ris (hp.trans e);have h2:=Tb.ST.below_at T.tab.ris e;lia
     rw[H,l]at F;exact C (by rw[←Option.some.inj F])
    exact ih (v-(r+1)) (by lia) (r+1) c _ rfl (by lia) (by lia) rfl
 have U:=T.tab.m.turns;exact u v 0 100000 none rfl (aY _) (by lia) rfl
theorem yd9 {a b:Addr}{xs:List (List K×Addr)}{o:Obj}{es:Array (Int×Value)}{F:Nat}{t:SetTable}{k:List K}(T:L5 knd L s.heap a xs o es F t)(G:IsTupleKey knd s.heap k b)(N:A.units<cLine){Q:SetFound->gh->Prop}
  (hm:k∉xs.map (·.1)) (h:∀g,(∀i:Nat,t.place[i]?≠some (Tb.ST.pj t.mask (tupleKeyHash knd k) g))->(∀r,r<g->∃i:Nat,t.place[i]?=some (Tb.ST.pj t.mask (tupleKeyHash knd k) r))->Q (.free (Tb.ST.pj t.mask (tupleKeyHash knd k) g) false) s) :
  gr (gu prog w) A (setSearch a (.ref b) (tupleKeyHash knd k) true) Q E s:=by
 obtain⟨g,U,B,all⟩:=T.tab.first (tupleKeyHash knd k)
 have p:∀n q c d,g-q=n->q<=g->n<c->d.getD (t.probeStart (tupleKeyHash knd k))=Tb.ST.go t.mask q (Tb.ST.start t.mask (tupleKeyHash knd k))->gr (gu prog w) A (setSearchFrom a (.ref b) (tupleKeyHash knd k) true c d) Q E s:=by
  intro n
  induction n using Nat.strongRecOn with
  | _ n ih =>
   intro q c d S I V l;obtain⟨c,rfl⟩:∃f,c=f+1:=⟨c-1,by lia⟩;rcases T.tab.next I (by lia) all (.inl B) with⟨_,j⟩|⟨r,i,J,M,C,u,j⟩
   .unfold setSearchFrom;refine gg (wpAny_setState_of T.ho T.hd T.fits ?_);dsimp only;rw[T.tab.fits.2.2,if_neg aH,l];rw[j];rotate_left
    .intro P R v;obtain⟨y,O,e⟩:=zu6 v;have:=T.get O;show((es[P]?.map (·.1)).getD 0)=R;rw[this];exact e
    dsimp only;exact gl (h g B all)
   .obtain⟨x,D,_⟩:=zu6 u;refine zf2 T G N D C j (λe=>absurd (az.mpr ⟨x,ax D,e⟩) hm) (λH=>?_) l;have W:r≠g:=λz=>by
     subst z;exact B i C
    exact ih (g-(r+1)) (by lia) (r+1) c _ rfl (by lia) (by lia) rfl
 have X:=T.tab.m.turns;exact p g 0 100000 none rfl (aY _) (by lia) rfl
theorem zr1 {h h':Heap}{a:Addr}{o:Obj}{es:Array (Int×Value)}{g:Nat}{t:SetTable}(l:h.get? a=some o)(j:o.data=.set es g t)(hs:Heap.SameBut a h h'){ks:List K}{b:Addr}(k:IsTupleKey knd h ks b):IsTupleKey knd h' ks b:=by
 obtain⟨o',d,n,e,i,c,hi⟩:=k;have f:b≠a:=by
  rintro rfl;obtain rfl:o'=o:=Option.some.inj (e.symm.trans l);rw[j]at c;exact nomatch c
 exact⟨o',d,n,(hs.2 b f).trans e,i,c,hi⟩
def P4 (knd:KeyKind prog w K)(L:Bool)(h:Heap)(a:Addr)(xs:List (List K×Addr)):Prop:=∃o es ep t,L5 knd L h a xs o es ep t
theorem yn8 {h:Heap}{a:Addr}{o:Obj}{es es':Array (Int×Value)}{b:Nat}{t t':SetTable}(d:h.get? a=some o)(c:o.data=.set es b t):(h.update a (Obj.putSet es' t')).get? a=some { o with data:=.set es' (b+1) t' }:=by
 have:=Heap.get?_update_self (Obj.putSet es' t') d (by rw[putSet_of es' t' c];rfl);rw[putSet_of es' t' c]at this;exact this
theorem yt5 {a:Addr}{xs:List (List K×Addr)}{o:Obj}{es:Array (Int×Value)}{M n:Nat}{t:SetTable}(y:s.heap.get? a=some o)(S:o.ExactSet)(v:o.data=.set es M t)(C:es.toList=xs.map (ent knd))(P:t.fits es.size=true)(hl:xs.length=n+1)
  (R:∀x∈xs,IsTupleKey knd s.heap x.1 x.2) (W:(xs.map (·.1)).Nodup) (F:t.plain=true/\t.led=L) (T:Tb.ST.Size (SetTable.sizeAbove (SetTable.grown (n+1))-1)) (U:n+1<=SetTable.sizeAbove (SetTable.grown (n+1))-1) (V:(n+1)*5<(SetTable.sizeAbove (SetTable.grown (n+1))-1)*3) (X:SetTable.sizeAbove (SetTable.grown (n+1))<=1000) {Q:Unit->gh->Prop}
  (h:∀(h':Heap) (xs':List (List K×Addr)),Heap.SameBut a s.heap h'->P4 knd L h' a xs'->xs'.Perm xs->Q () { s with heap:=h' }) :
  gr (gu prog w) A (setRelay a (SetTable.grown (n+1))) Q E s:=by
 have p:es.size=n+1:=by rw[←aG,C,aa,hl]
 have O:=sizeLine_eq;unfold setRelay;refine gg (wpAny_setState_of y v P ?_);dsimp only;rw[if_neg (by lia)];obtain⟨u,b,B,J,_,_,L⟩:=Tb.ST.laid_ok (finger:=t.finger) (moves:=t.movedTo (SetTable.sizeAbove (SetTable.grown (n+1))-1)) (led:=t.led) (plain:=t.plain) T (es.map (·.1)) (by rw[Array.size_map,p];exact U);have N:t.relaid (es.map (·.1)) (SetTable.grown (n+1))=some (u,b):=B;rw[N];have D:(es.map (·.1)).toList=N7 knd xs:=by
  rw[fP,C,bG];rfl
 rw[D]at L;have l:(N7 knd xs).length=n+1:=by unfold N7;rw[aa,hl]
 have hlt:∀i∈b.toList,i<(N7 knd xs).length:=λi hi=>av.mp (L.perm.mem_iff.mp hi);obtain⟨d,f⟩:∃d,d=b.toList.filterMap (λi=>xs[i]?):=⟨_,rfl⟩;have g:d.Perm xs:=by
  rw[f];have:=L.perm.filterMap λi=>xs[i]?;rw[ya3,l,←hl,aT]at this;exact this
 obtain⟨c,j⟩:∃c,c=b.filterMap (es[·]?):=⟨_,rfl⟩;have k:c.toList=d.map (ent knd):=by
  rw[j,Array.toList_filterMap,f,←yx4];congr 1;funext i;rw[←C,bz]
 have G:N7 knd d=b.toList.map λi=>(N7 knd xs).getD i 0:=by
  rw[←yl7 _ _ hlt,f];unfold N7;rw[yx4]
 have r:c.size=es.size:=by rw[←aG,k,aa,g.length_eq,hl,p]
 have I:∀{m:Sem (Array (Int×Value)×SetTable)} {z:Array (Int×Value)×SetTable->gh->Prop},m=(if (c.size != es.size)=true then(unsupported "internal:set-table-lost-an-element":Sem PUnit) >>= λ_=>pure (c,u) else pure (c,u))->z (c,u) s->gr (gu prog w) A m z E s:=λ{m z} e q=>by
  rw[e,if_neg (by rw[r];simp)];exact gl q
 refine gg (I ?_ ?_)
 .rw[j];rfl
 dsimp only;refine wpAny_storeSet_of y v ?_ (by lia);refine h _ d (Heap.SameBut.update _ _ _) ⟨_,c,_,u,yn8 y v,rfl,S,k,?_,λx H=>zr1 y v (Heap.SameBut.update _ _ _) (R x (g.mem_iff.mp H)),(g.map _).nodup_iff.mpr W,by rw[(ym8 B).1,(ym8 B).2];exact F⟩ g;rw[G];exact L.tab (by rw[J,l];exact V)
theorem xe6 {a b:Addr}{xs:List (List K×Addr)}{o:Obj}{es:Array (Int×Value)}{ep:Nat}{t:SetTable}{k:List K}(T:L5 knd L s.heap a xs o es ep t)(R:IsTupleKey knd s.heap k b)(hv:L3 s.heap b)(hu:A.units<cLine)(hn:xs.length<=305){Q:Bool->gh->Prop}
  (h:∀(h':Heap) (xs':List (List K×Addr)) (r:Bool),Heap.SameBut a s.heap h'->P4 knd L h' a xs'->(k∈xs.map (·.1)/\xs'=xs∨k∉xs.map (·.1)/\xs'.Perm ((k,b)::xs))->Q r { s with heap:=h' }) :
  gr (gu prog w) A (setAddHashed a (.ref b) (tupleKeyHash knd k)) Q E s:=by
 have hf:=T.fits;have ag:=sizeLine_eq;have J:es.size=xs.length:=by rw[←aG,T.he,aa]
 unfold setAddHashed setAddHashedIn;refine gy (gg (wpAny_setState_of T.ho T.hd hf ?_));dsimp only;rw[show byScan (Value.ref b) es=false from rfl,if_neg aH];by_cases hm:k∈xs.map (·.1)
 .refine gg (zx7 T R hu hm ?_);dsimp only;exact gl (h s.heap xs false (Heap.SameBut.refl _ _) ⟨o,es,ep,t,T⟩ (.inl ⟨hm,rfl⟩))
 .refine gg (yd9 T R hu hm λV no all=>?_);dsimp only;refine gg (wpAny_setState_of T.ho T.hd hf ?_);dsimp only;have PA:=T.tab.put no all;have u:(t.put (Tb.ST.pj t.mask (tupleKeyHash knd k) V)).1.plain=true/\(t.put (Tb.ST.pj t.mask (tupleKeyHash knd k) V)).1.led=L:=T.pl;generalize t.put (Tb.ST.pj t.mask (tupleKeyHash knd k) V)=tp at PA u ⊢;obtain⟨t1,p⟩:=tp;dsimp only at PA u ⊢;have P:∀F:Bool->Sem Bool,gr (gu prog w) A (F true) Q E s->gr (gu prog w) A (if t1.plain=true then hashByValue 8 (.ref b) >>= F else pure true >>= F) Q E s:=λF hF=>by
   split
   .exact gg (ya8 R hv hF)
   .exact gg (gl hF)
  refine P _ ?_;clear P;have v:=PA true;clear PA;have q:(if true=true then t1 else { t1 with plain:=false }).plain=true/\(if true=true then t1 else { t1 with plain:=false }).led=L:=u;generalize (if true=true then t1 else { t1 with plain:=false })=D at v q ⊢;obtain⟨c,i⟩:∃c,c=xs.take p++(k,b)::xs.drop p:=⟨_,rfl⟩;have hp:p<=xs.length:=by have:=v.le;unfold N7 at this;rwa [aa]at this
  have g:(SetTable.insertAt es p (tupleKeyHash knd k,Value.ref b)).toList=c.map (ent knd):=by
   rw[Tb.ST.insertAt_toList _ _ _ (by rw[J];exact hp),T.he,←dG,←eN,i,aO,aJ];rfl
  have M:(N7 knd xs).take p++tupleKeyHash knd k::(N7 knd xs).drop p=N7 knd c:=by
   unfold N7;rw[i,aO,aJ,dG,eN]
  have y:c.Perm ((k,b)::xs):=by
   rw[i];refine List.perm_middle.trans ?_;rw[bA]
  have C:(c.map (·.1)).Nodup:=(y.map (·.1)).nodup_iff.mpr (aQ.mpr ⟨hm,T.nd⟩);have N:c.length=xs.length+1:=y.length_eq;generalize SetTable.insertAt es p (tupleKeyHash knd k,Value.ref b)=j at g ⊢;have Y:j.size=xs.length+1:=by rw[←aG,g,aa,N]
  have I:t.place.size=xs.length:=by rw[T.tab.len];unfold N7;rw[aa]
  have l:D.place.size=xs.length+1:=by rw[v.size,I]
  have d:D.fill=xs.length+1:=by
   unfold SetTable.fill;rw[v.nod',l];rfl
  have O:∀x∈c,IsTupleKey knd s.heap x.1 x.2:=λx S=>by
   rw[i]at S;rcases aI.mp S with z|z
   .exact T.ks x (bI z)
   .rcases ay.mp z with rfl|z
    .exact R
    .exact T.ks x (List.mem_of_mem_drop z)
  refine gg (wpAny_storeSet_of T.ho T.hd ?_ (by lia));have H:=yn8 (es':=j) (t':=D) T.ho T.hd;have U:=Heap.SameBut.update s.heap a (Obj.putSet j D);generalize s.heap.update a (Obj.putSet j D)=h1 at H U ⊢;have B:∀x∈c,IsTupleKey knd h1 x.1 x.2:=λx S=>zr1 T.ho T.hd U (O x S);by_cases f:(xs.length+1)*5<t.mask*3
  .rw[if_neg];rotate_left
   .unfold SetTable.tooFull;rw[d,v.mask];simp;lia
   exact gl (h h1 c true U ⟨_,j,_,D,H,rfl,T.hx,g,by rw[←M];exact v.tab (by rw[l,v.mask];exact f),B,C,q⟩ (.inr ⟨hm,y⟩))
  .rw[if_pos];rotate_left
   .unfold SetTable.tooFull;rw[d,v.mask];simp;lia
   obtain⟨m1,m2,m3,m4⟩:=ys8 T.tab.m (by have:=T.tab.room;rw[I]at this;exact this) f hn;have G:xs.length+1<=D.mask:=by
    rw[v.mask];have:=T.tab.room;rw[I]at this;rcases T.tab.m with e|e|e|e <;> rw[e]at this f ⊢ <;> lia
   have W:D.fits j.size=true:=by
    unfold SetTable.fits;rw[bp,beq_iff_eq,decide_eq_true_eq,l,Y,d];exact⟨rfl,G⟩
   rw[J];refine gg (yt5 (s:={ s with heap:=h1 }) (knd:=knd) (xs:=c) (n:=xs.length) H T.hx rfl g W N B C q m1 m2 m3 m4 λh2 ab Z H2 X=>?_);exact gl (h h2 ab true (U.trans Z) H2 (.inr ⟨hm,X.trans y⟩))
theorem P4.at {h h':Heap}{a:Addr}{xs:List (List K×Addr)}(x:P4 knd L h a xs)(c:∀o,h.get? a=some o->h'.get? a=some o)(d:∀y∈xs,IsTupleKey knd h' y.1 y.2):P4 knd L h' a xs:=by
 obtain⟨o,es,b,t,T⟩:=x;exact⟨o,es,b,t,c o T.ho,T.hd,T.hx,T.he,T.tab,d,T.nd,T.pl⟩
theorem yz3 {I Z:Addr}{fp wr:List Addr}{G:Array GenState->Array GenState->Prop}{n:Nat}{P:Nat->Value->Prop}{St:Nat->gh->Prop}{R:Result->gh->Prop}(W:WalksS prog w A.in1 I fp wr G n P St)(hZ:Z∉fp)(hu:A.units+2<cLine)
  (d:List (List K×Addr)) (M:∀i v,P i v->∃x,d[i]?=some x/\v=.ref x.2) (ac:d.length=n) (g:∀x∈d,x.2∉Z::wr) (hn:n<=306) :
  ∀(m i:Nat) (s:gh) (xs:List (List K×Addr)),n-i=m->i<=n->St i s->P4 knd L s.heap Z xs->(∀x∈xs,x∈d)->(∀x∈d,IsTupleKey knd s.heap x.1 x.2)->(∀x∈d,L3 s.heap x.2)->Cnt ((d.take i).map (·.1)) (xs.map (·.1)) ->
  (∀s' xs',Moved (Z::wr) G s s'->P4 knd L s'.heap Z xs'->(∀x∈xs',x∈d)->Cnt (d.map (·.1)) (xs'.map (·.1))->R (.ok (.ret .none)) s') ->
  codeAny (gu prog w) A (.builtin "set.update.loop" ⟨[.ref Z,.ref I],[]⟩) R s:=by
 have D:Z∉wr:=λz=>hZ (W.sub _ z)
 have h:∀b∈wr,b∈Z::wr:=λb z=>ah _ z
 intro m
 induction m with
 | zero =>
  intro i s xs hm hi st hT l p N C q
  have e:i=n:=by lia
  subst e
  refine codeAny_builtin PyProof.Rows.F.entry_set_update_loop ?_
  rw[Around.under_plainId PyProof.Rows.F.plain_set_update_loop _]
  show gr _ A.in1 (pyNext (.ref I) >>= _) _ _ s
  refine gg (W.done s _ _ st λs1 mv=>?_)
  have j:∀x∈d,IsTupleKey knd s1.heap x.1 x.2:=λx O=>zu8 (p x O) λo f=>mv.heap _ o (λz=>g x O (h _ z)) f
  rw[←ac,aT]at C
  exact gl (q s1 xs (mv.mono h) (hT.at (λo f=>mv.heap _ o D f) λy c=>j y (l y c)) l C)
 | succ m ih =>
  intro i s xs hm hi st hT l p N C q
  have hlt:i<n:=by lia
  refine codeAny_builtin PyProof.Rows.F.entry_set_update_loop ?_
  rw[Around.under_plainId PyProof.Rows.F.plain_set_update_loop _]
  show gr _ A.in1 (pyNext (.ref I) >>= _) _ _ s
  refine gg (W.item i s _ _ hlt st λv s1 hP ag mv=>?_)
  obtain⟨x,O,rfl⟩:=M i v hP
  have u:=ax O
  have j:∀y∈d,IsTupleKey knd s1.heap y.1 y.2:=λy c=>zu8 (p y c) λo f=>mv.heap _ o (λz=>g y c (h _ z)) f
  have U:P4 knd L s1.heap Z xs:=hT.at (λo f=>mv.heap _ o D f) λy c=>j y (l y c)
  show gr _ A.in1 (holding [Value.ref x.2] (setAdd Z (.ref x.2)) >>= _) _ _ s1
  refine gg (gy ?_)
  unfold setAdd
  refine gy (gg (wpAny_pyHash_tuple (by show A.units+1<cLine;lia) (j x u) ?_))
  obtain⟨o,es,ep,t,T⟩:=U
  have ae:xs.length<=305:=by
   have h1:=C.le
   rw[aa,aa,aX]at h1
   lia
  have J:∀y∈d,L3 s1.heap y.2:=λy c=>(N y c).at (p y c) λo f=>mv.heap _ o (λz=>g y c (h _ z)) f
  refine xe6 (s:={ s1 with toks:=s1.toks+(x.1.length+1) }) (xs:=xs) (k:=x.1) T (j x u) (J x u) (by show A.units+1<cLine;lia) ae λh2 B r Q H2 H=>?_
  have ab:∀y∈d,IsTupleKey knd h2 y.1 y.2:=λy c=>zu8 (j y c) λo f=>(Q.2 _ λz=>g y c (by rw[z];exact ao)).trans f
  have ad:∀y∈d,L3 h2 y.2:=λy c=>(J y c).at (j y c) λo f=>(Q.2 _ λz=>g y c (by rw[z];exact ao)).trans f
  have S:(d.take (i+1)).map (·.1)=(d.take i).map (·.1)++[x.1]:=by rw[be,O,aO];rfl
  have V:Cnt ((d.take (i+1)).map (·.1)) (B.map (·.1)):=by
   rw[S]
   rcases H with⟨a,b⟩|⟨a,b⟩
   .rw[b];exact C.old a
   .exact C.new a (b.map (·.1))
  have E:∀y∈B,y∈d:=λy c=>by
   rcases H with⟨_,b⟩|⟨_,b⟩
   .exact l y (b ▸ c)
   .rcases ay.mp (b.mem_iff.mp c) with z|z
    .rw[z];exact u
    .exact l y z
  refine gl ⟨plainId_quiet PyProof.Rows.F.plain_set_update_loop _,ih (i+1) _ B (by lia) hlt (W.frame _ s1 _ _ ag (dF _ _) λb hb o f=>?_) H2 E ab ad V λs4 ai af H4 Y X=>?_⟩
  .exact(Q.2 b λz=>hZ (z ▸ hb)).trans f
  .refine q s4 ai (Moved.trans W.gtrans ((mv.mono h).then_heap (dF _ _) λb o hb f=>?_) af) H4 Y X
   exact(Q.2 b λz=>hb (by rw[z];exact ao)).trans f
theorem yu2 {h:Heap}{a:Addr}(e:h.get? a=some (C4 L)):P4 knd L h a [] :=
 ⟨_,#[],0,_,e,rfl,⟨rfl,rfl,rfl⟩,rfl,yu1 L,λ_ z=>(by cases z),dA,rfl,rfl⟩
theorem zn5 (a:Value){Q₁:Value->gh->Prop}(h:Q₁ (.ref s.heap.objs.size) { s with heap:=s.heap.push (C4 (!w.params.followText "set-order")) }):codeAny (gu prog w) A (.call (.builtin "set.__new__") ⟨[.type "set",a],[]⟩) (wants Q₁ E) s:=by
 refine codeAny_of_tree ?_;show gr _ _ (_ >>= _) _ _ s;refine gg (wpAny_of_eq (F.newCall_set_1 a) (gl ⟨plainId_quiet F.plain_set_new _,codeAny_builtin F.entry_set_new ?_⟩));rw[Around.under_plainId F.plain_set_new _];unfold Builtin.«set.__new__» Builtin.Frozenset.newClass newSet setsByText;refine gg (gg (gl ?_));rw[if_neg (by decide)];refine gg (wpAny_of_eq sub_set_self ?_);rw[if_neg (by decide)];refine gl (gg (gg (gg (wpAny_askSetting (gl ?_)))));dsimp only;refine wpAny_newObj_type (gl h)
theorem call_set_tups {l:Addr}{items:Array Value}(a:List (List K×Addr)){Q:Value->gh->Prop}(hh:A.handled=none)(hu:A.units+16<cLine)(hl:s.heap.IsList l items)(m:items.toList=a.map λx=>Value.ref x.2)
  (C:∀x∈a,IsTupleKey knd s.heap x.1 x.2) (I:∀x∈a,L3 s.heap x.2) (hn:a.length<=306)
  (h:∀(h':Heap) (tk:Nat) (xs:List (List K×Addr)),P4 knd (!w.params.followText "set-order") h' s.heap.objs.size xs->(∀x∈xs,x∈a)->Cnt (a.map (·.1)) (xs.map (·.1))->(∀b o,s.heap.get? b=some o->h'.get? b=some o)->Q (.ref s.heap.objs.size) { s with heap:=h',toks:=tk }) :
  gr (gu prog w) A (call (.type "set") [.ref l]) Q E s:=by
 obtain⟨cc,tt,m0⟩:=PySem.F.called_set.mro;have m1:=PySem.F.called_set.made;have m2:=PySem.F.called_set.sub;have m3:=PySem.F.called_set.notType;have m4:=PySem.F.called_set.canCreate;have m5:=PySem.F.typeCall_set_1 (.ref l);refine wpAny_call (codeAny_of_tree ?_);show gr _ _ (callAny (.type "set") _) _ _ _;refine gl ⟨Code.quiet_builtin _ (by decide +kernel),codeAny_builtin PySem.F.entry_type_call ?_⟩;rw[Around.under_plain (weight_type_call_type "set" [.ref l] []) rfl]
 repeat (any_goals (first|assumption|wp_step))
 refine codeAny_mono (zn5 (.ref l) (E:=E) (Q₁:=λz N=>∃led:Bool,led=!w.params.followText "set-order"/\z=.ref s.heap.objs.size/\N={ s with heap:=s.heap.push (C4 led) }) ⟨_,rfl,rfl,rfl⟩) λr N G=>?_
 cases r with
 | error e=>exact G
 | ok fl =>
  cases fl with
  | ret z =>
   obtain⟨led,t,rfl,rfl⟩:=G;have L:(s.heap.push (C4 led)).get? s.heap.objs.size=some (C4 led):=aF _ rfl;have B:Shared.TypeIs { s with heap:=s.heap.push (C4 led) } (.ref s.heap.objs.size) "set":=⟨_,L,rfl⟩;have i1:=PySem.F.called_set.init.lookup;have i2:=PySem.F.called_set.init.bind (.ref s.heap.objs.size)
   repeat (any_goals (first|assumption|wp_step))
   refine codeAny_mono (codeAny_call_builtin (R:=wants (λu O=>u=.none/\∃h' tk xs,O={ s with heap:=h',toks:=tk }/\P4 knd (!w.params.followText "set-order") h' s.heap.objs.size xs/\(∀x∈xs,x∈a)/\Cnt (a.map (·.1)) (xs.map (·.1))/\∀b o,s.heap.get? b=some o->h'.get? b=some o) E) PySem.F.called_set.init.plain PySem.F.entry_set_init (check_set_init_1 B ?_)) λr2 O f=>?_
   .obtain⟨ol,y,j,nl,k⟩:=hl;obtain⟨c0,d0,Y,sl0⟩:=ol;simp only at j k;subst j;subst k;have D:(s.heap.push (C4 led)).get? l=some { cls:=.type "list",dict:=d0,data:=.seq items nl,slots:=sl0 }:=au _ y;have t1:=PySem.F.sub_list_set;have t2:=PySem.F.sub_list_frozenset;have t3:(Value.type "list" == Value.type "dict")=false:=by decide
    have p:(s.heap.push (C4 led)).IsList l items:=⟨_,D,rfl,nl,rfl⟩;unfold Builtin.«set.__init__» noKeywords Builtin.Frozenset.updateFrom;generalize hPI:pyIter=PI;wp_walk;subst hPI;refine wpAny_pyIter_list p ?_;refine gg (wpAny_runValue ?_);have q:l<s.heap.objs.size:=aE y;have kl:∀x∈a,x.2<s.heap.objs.size:=λx d=>by
     obtain⟨o,ai,n,ho,_⟩:=C x d;exact aE ho
    have n1:l≠(s.heap.push (C4 led)).objs.size:=by
     rw[cO];exact aP (dk q)
    have n2:s.heap.objs.size∉[(s.heap.push (C4 led)).objs.size,l]:=by
     rw[cO];intro z;rcases ay.mp z with z|z
     .exact aP (cQ _) z
     .exact dD q (ar.mp z)
    have H:items.size=a.length:=by rw[←aG,m,aa]
    refine yz3 (knd:=knd) ((Walks.list (by simp[hh]) _ l n1 items).toS) n2 (by show A.units+1+1+2<cLine;lia) a (λi v I=>?_) H.symm (λx d z=>?_) (by lia) (items.size-0) 0 _ [] rfl (aY _)
     ⟨⟨_,aF _ rfl,rfl,rfl⟩,p.push _⟩ (yu2 (au _ L)) (λ_ z=>(by cases z)) (λx d=>zu8 (C x d) λo e=>au _ (au _ e)) (λx d=>(I x d).at (C x d) λo e=>au _ (au _ e)) Cnt.nil λs4 g mv P i4 W=>?_
    .have c:items[i]?=some v:=I;rw[←bz,m,af]at c
     cases e:a[i]? with
     | none=>rw[e]at c;cases c
     | some x=>rw[e]at c;exact⟨x,rfl,(Option.some.inj c).symm⟩
    .have hlt:=kl x d;rcases ay.mp z with z|z
     .exact aP hlt z
     .rw[cO]at z;exact aP (dk hlt) (ar.mp z)
    .obtain⟨J,g4,X,M,o4⟩:=s4;have eg:g4=s.gens:=mv.gens;have Z:X=s.drawn:=mv.drawn;have eo:o4=s.os:=mv.os;subst eg;subst Z;subst eo;show gr _ _ _ _ _ _;refine gl ?_;show gr _ _ (ret Value.none) _ _ _;refine gl ⟨rfl,J,M,g,rfl,by rw[←t];exact P,i4,W,λb o e=>?_⟩;have hb:=aE e;refine mv.heap b o (λz=>?_) (au _ (au _ e));rcases ay.mp z with z|z
     .exact aP hb z
     .rw[cO]at z;exact aP (dk hb) (ar.mp z)
   .cases r2 with
    | error e=>exact f
    | ok fl2 =>
     cases fl2 with
     | ret u =>
      obtain⟨rfl,J,M,g,rfl,S,T,U,V⟩:=f
      repeat (any_goals (first|assumption|wp_step))
      exact h _ _ g S T U V
     | _=>exact f.elim
  | _=>exact G.elim
end
end L2.SP
namespace Tb.SP
open PySem PySem.W PyProof.Rows
def Al {α:Type}(n:Nat)(Q:α->Prop):KasT α->Prop
 | .ret a=>Q a
 | .ask i j k=>i<n/\j<n/\∀b,Al n Q (k b)
theorem Al.bind {α β:Type}{n:Nat}{Q:α->Prop}{R:β->Prop}{f:α->KasT β}(hf:∀a,Q a->Al n R (f a)):∀t:KasT α,Al n Q t->Al n R (t.bind f)
 | .ret a,h=>hf a h
 | .ask _ _ k,h=>⟨h.1,h.2.1,λb=>Al.bind hf (k b) (h.2.2 b)⟩
theorem Al.ite {α:Type}{n:Nat}{Q:α->Prop}{c:Prop}[Decidable c]{t u:KasT α}(h1:Al n Q t)(h2:Al n Q u):Al n Q (if c then t else u):=by
 by_cases h:c
 .rw[if_pos h];exact h1
 .rw[if_neg h];exact h2
structure Pm (n:Nat) (p:Array Nat):Prop where
 n0:0<n
 pm:p.Perm (List.range n).toArray
theorem Pm.lt {n:Nat}{p:Array Nat}(h:Pm n p)(k:Nat):p.getD k 0<n:=by
 by_cases a:k<p.size
 .have h1:p.getD k 0∈p.toList:=by simp[Array.getD,a]
  have:=(fk.mp h.pm).mem_iff.mp h1;rw[cx]at this;exact av.mp this
 .simp[Array.getD,a,h.n0]
theorem Pm.rev {n:Nat}{p:Array Nat}(h:Pm n p)(i j:Nat):Pm n (kas_rev p i j):=⟨h.n0,(mirror_perm _ _ _ _).trans h.pm⟩
theorem yg5 {n:Nat}{p:Array Nat}(hp:Pm n p):∀f m,Al n (λ_=>True) (kas_asc p f m)
 | 0,_=>trivial
 | f+1,m=>⟨hp.lt _,hp.lt _,λb=>Al.ite trivial (yg5 hp f (m+1))⟩
theorem zg2 {n:Nat}:∀(f:Nat) (p:Array Nat) (m q:Nat),Pm n p->Al n (λx=>Pm n x.1) (kas_desc f p m q)
 | 0,p,m,q,hp=>hp
 | f+1,p,m,q,hp=>⟨hp.lt _,hp.lt _,λb=>Al.ite (Al.ite (zg2 f _ _ _ (hp.rev _ _)) (zg2 f p _ _ hp)) ⟨hp.lt _,hp.lt _,λd=>Al.ite hp (zg2 f p _ _ hp)⟩⟩
theorem yk6 {n m a:Nat}{p:Array Nat}(b:Pm n p):Al n (λx=>Pm n x.2) (kas_tail3 m a p):=by
 unfold kas_tail3;refine Al.bind (Q:=λ_=>True) (λk _=>?_) _ (yg5 (b.rev _ _) _ _);show Pm n (kas_rev p 0 m);exact b.rev _ _
theorem ze3 {n m a:Nat}{p:Array Nat}(c:Pm n p):Al n (λx=>Pm n x.2) (kas_descPart m a p):=by
 unfold kas_descPart;exact Al.bind (λx b=>Al.ite (yk6 (b.rev _ _)) (yk6 b)) _ (zg2 _ _ _ _ c)
theorem yv1 {n b:Nat}{p:Array Nat}(a:Pm n p):Al n (λx=>Pm n x.2) (kas_count b p):=by
 unfold kas_count;refine Al.bind (Q:=λ_=>True) (λm _=>?_) _ (yg5 a _ _);have d:∀k:Nat,Al n (λx:Nat×Array Nat=>Pm n x.2) (KasT.ret (k,p)):=λk=>a;exact Al.ite (d m) (Al.ite ⟨a.lt _,a.lt _,λc=>Al.ite (d m) (ze3 (a.rev _ _))⟩ (ze3 a))
theorem zh2 {n k:Nat}{p:Array Nat}(hp:Pm n p):∀f l u,Al n (λ_=>True) (kas_place p k f l u)
 | 0,_,_=>trivial
 | f+1,l,u=>by
  unfold kas_place
  exact Al.ite trivial ⟨hp.lt _,hp.lt _,λc=>Al.ite (zh2 hp f _ _) (zh2 hp f _ _)⟩
theorem yv0 {n:Nat}:∀(f:Nat) (p:Array Nat) (k:Nat),Pm n p->Al n (Pm n) (kas_bin f p k)
 | 0,_,_,hp=>hp
 | f+1,p,k,hp=>Al.bind (λl _=>yv0 f _ _ ⟨hp.n0,(bubble_perm _ _ _).trans hp.pm⟩) _ (zh2 hp _ _ _)
theorem al_sort {n:Nat}(c:0<n):Al n (Pm n) (kas_sort n):=by
 unfold kas_sort;refine Al.bind (λx b=>?_) _ (yv1 ⟨c,.refl _⟩);have a:Al n (Pm n) (KasT.ret x.2):=b;exact Al.ite (yv0 _ _ _ b) a
theorem wp_any {α:Type}{n:Nat}{Q:α->Prop}{cmp:Nat->Nat->(Bool->gh->Prop)->gh->Prop}{G:α->gh->Prop}{s:gh}(hc:∀i j C,i<n->j<n->(∀b,C b s)->cmp i j C s)(hg:∀a,Q a->G a s):∀t:KasT α,Al n Q t->t.kasWp cmp G s
 | .ret _,h=>hg _ h
 | .ask i j k,h=>hc i j _ h.1 h.2.1 λb=>wp_any hc hg (k b) (h.2.2 b)
end Tb.SP
namespace L2
open PySem PySem.Spec PyProof.Rows
section
variable {prog:gq}{w:gv}{A:gw}{E:Value->gh->Prop}{s:gh}
theorem zz3 {d:Addr}{es:Array (Int×Value)}{od:Obj}{c:Nat}{t:SetTable}{R:List Value->gh->Prop}(z:A.handled=none)(n:s.heap.get? d=some od)(S:N0 w od es c t)(l:es.size<=gn)
  (q:∀(h':Heap) (tk:Nat),(∀b o,s.heap.get? b=some o->h'.get? b=some o)->s.heap.objs.size<h'.objs.size->R ((X9 w d c es).toList.map (·.2)) { s with heap:=h',toks:=tk }) :
  gr (gu prog w) A (collect (.ref d)) R E s:=by
 have hlt:=aE n;have k:(s.heap.push (gE "list" #[] 0)).get? s.heap.objs.size=some (gE "list" #[] 0):=aF _ rfl;have g:∀(h':Heap) (tk:Nat) (acc':Array Value) (c':Nat),(∀b o,s.heap.get? b=some o->h'.get? b=some o)->h'.get? s.heap.objs.size=some { cls:=.type "list",dict:=none,data:=.seq acc' c',slots:=#[] }->ItemsOf (λi v=>∃e,(X9 w d c es)[i]?=some e/\v=e.2) acc' es.size ->
   R acc'.toList { s with heap:=h',toks:=tk }:=λh' tk acc' c' j hS a=>by
  have l:(X9 w d c es).size=es.size:=by rw[←aG,(O5 w d c es).length_eq,aG]
  have e:acc'.toList=(X9 w d c es).toList.map (·.2):=by
   apply cK;intro i;by_cases hi:i<es.size
   .have p:acc'[i]?=some (acc'[i]'(by rw[a.1];exact hi)):=aS _;obtain⟨x,B,ex⟩:=a.2 i _ p;rw[bz,p,af,bz,B,ex];rfl
   .rw[aR (by rw[aG,a.1];lia),aR (by rw[aa,aG,l];lia)]
  rw[e];exact q h' tk j (aE hS)
 unfold collect;refine gg (wpAny_runValue (codeAny_builtin entry_proto_collect' (gg (m:=newList []) (wpAny_newList (gl ⟨Code.quiet_builtin _ (by decide +kernel),codeAny_builtin entry_list_iadd' ?_⟩)))));rw[Around.under_plainId PySem.F.plain_list_iadd ⟨[.ref s.heap.objs.size,.ref d],[]⟩];refine gz (W.kdl_extend (A:=A) (s:={ s with heap:=s.heap.push (gE "list" #[] 0) }) (R:=λr s'=>∃(h':Heap) (tk:Nat) (acc':Array Value) (c':Nat),r=.ok (.ret (.ref s.heap.objs.size))/\s'={ s with heap:=h',toks:=tk }/\h'.get? s.heap.objs.size=some { cls:=.type "list",dict:=none,data:=.seq acc' c',slots:=#[] }/\R acc'.toList { s with heap:=h',toks:=tk })
  (xj1 S) z (au _ n) s.heap.objs.size (dD hlt) (dD hlt) (.ref s.heap.objs.size) 0 k (λh' tk acc' c' j hS a=>⟨h',tk,acc',c',rfl,rfl,hS,g h' tk acc' c' (λb o e=>j b o (aP (aE e)) (au _ e)) hS a⟩) l) (λf s' x=>?_) (λe s' x=>?_)
 .cases f with
  | done f =>
   obtain⟨h',tk,acc',c',e,rfl,hS,h⟩:=x
   cases e
   exact(show gr (gu prog w) A (load s.heap.objs.size >>= _) R E _ from gg (wpAny_load hS (gl h)))
  | again c1 =>
   refine⟨x.1,codeAny_mono x.2 λr C y=>?_⟩;obtain⟨h',tk,acc',c',e,rfl,hS,h⟩:=y
   cases e
   exact(show gr (gu prog w) A (load s.heap.objs.size >>= _) R E _ from gg (wpAny_load hS (gl h)))
 .obtain⟨_,_,_,_,u,_⟩:=x
  cases u
theorem xo9 {b c:Addr}{x y:Nat×Nat}(hb:zb8 s.heap b x)(hc:zb8 s.heap c y){Q:Bool->gh->Prop}(h:∀z,Q z s):gr (gu prog w) A (keyLt' (tuples' true) (.ref b) (.ref c)) Q E s:=by
 obtain⟨t,u,o,f,_,n,e⟩:=hb;obtain⟨g,i,o',d,_,j,a⟩:=hc;refine W.kat_lt f e d a ?_;show W.KatLex prog w A true false Q [(.int (x.1:Int) t,.int (y.1:Int) g),(.int (x.2:Int) u,.int (y.2:Int) i)] 0 s;refine W.kat_cons (wpAny_eqBool_int (W.kat_go (λ_=>W.kat_yes (W.kat_cons (wpAny_eqBool_int (W.kat_go (λ_=>W.kat_yes (W.kat_nil (h _))) (λ_=>W.kat_no ?_))))) (λ_=>W.kat_no ?_)))
 .show gr (gu prog w) A (oneLt' false _ _) Q _ s;exact W.kat_one _ _ (PyProof.Rows.lt_int (h _))
 .show gr (gu prog w) A (oneLt' true _ _) Q _ s;exact oneLt_int (h _)
theorem xc0 {a:Addr}{as:List Addr}{ps:List (Nat×Nat)}{n:Nat}{P:PySem.Fin->gh->Prop}(z:s.heap.get? a=some (gE "list" (as.map Value.ref).toArray n))(B:Paired (zb8 s.heap) as ps)(F:∀b∈as,b≠a)(U:as.length<64)
  (q:∀p:List Nat,p.Perm (List.range as.length)->P (.done (.ret .none)) { s with heap:=sortedHeap s.heap a (as.map Value.ref) ((p.map λi=>as.getD i 0).map Value.ref).toArray }) :
  gr (gu prog w) A (Builtin.«list.sort» ⟨[.ref a],[]⟩) P E s:=by
 have K:as.length=ps.length:=Paired.length B;have S:=sizeLine_eq;have y:(as.map Value.ref).length=as.length:=aa _;rw[list_sort_plain];have ha:a<s.heap.objs.size:=aE z;refine gg (listItems_at z rfl (gg (listUpdate_at z rfl ?_ (by rw[aB];lia) (aY _))));obtain⟨r,u⟩:∃r,(s.heap.update a (Obj.mapSeq λ_=>#[])).get? a=some (gE "list" #[] r):=⟨_,get?_update_seq z (λ_=>#[])⟩;refine gg (seqEpoch_at u rfl (gg (wpAny_newTuple (gg (wpAny_newList (gy ?_) (aY _))) (by show(as.map Value.ref).length<=_;lia))));have h:(((s.heap.update a (Obj.mapSeq λ_=>#[])).push (gE "tuple" (as.map Value.ref).toArray 0)).push (gE "list" #[] 0)).get? a=some (gE "list" #[] r):=au _ (au _ u);have x:Paired (zb8 (((s.heap.update a (Obj.mapSeq λ_=>#[])).push (gE "tuple" (as.map Value.ref).toArray 0)).push (gE "list" #[] 0))) as ps:=yc5 B λb D o R=>au _ (au _ ((Heap.get?_update_other _ _ (Ne.symm (F b D))).trans R));show gr (gu prog w) A _ P E { s with heap:=((s.heap.update a (Obj.mapSeq λ_=>(#[]:Array Value))).push (gE "tuple" (as.map Value.ref).toArray 0)).push (gE "list" #[] 0) };dsimp only;by_cases h2:(as.map Value.ref).toArray.size<2
 .rw[if_pos h2,if_pos h2];refine gg (gl ?_);rw[StateT.run_pure];refine gg (gl ?_);dsimp only;have L:((as.map Value.ref).toArray.zip (as.map Value.ref).toArray).map (·.2)=(as.map Value.ref).toArray:=by
   apply Array.toList_inj.mp;rw[fP,Array.toList_zip,cx];exact List.map_snd_zip (aq _)
  refine gg (seqEpoch_at h rfl (gg (listUpdate_at h rfl ?_ (aY _) ?_)))
  .simp only[bne_self_eq_false,cX,if_false];have k:=q (List.range as.length) (List.Perm.refl _);rw[yb6]at k;have f:∀o,o=(as.map Value.ref).toArray->P (.done (.ret .none)) { s with heap:=sortedHeap s.heap a (as.map Value.ref) o }:=λo e=>by rw[e];exact k
   exact gl (f _ L)
  .show(((as.map Value.ref).toArray.zip (as.map Value.ref).toArray).map (·.2)).size<=_;rw[L,aB];lia
 .rw[if_neg h2,if_neg h2];rw[aB,y]at h2;obtain⟨fs,Z,t2,t3⟩:=xk0 x;refine gg (W.kat_kind (T:=.type "int") Z (by lia) (λv Y=>?_) rfl ?_)
  .obtain⟨i,t,rfl⟩:=t3 v Y;exact W.Looks.of_pure rfl
  show gr _ _ ((sortRuns').run (SortSt.mk' (tuples' true) _ _ _ _) >>= _) _ _ _;have c:∀i,i<as.length->(as.map Value.ref).getD i Value.none=Value.ref (as.getD i 0)/\zb8 (((s.heap.update a (Obj.mapSeq λ_=>#[])).push (gE "tuple" (as.map Value.ref).toArray 0)).push (gE "list" #[] 0)) (as.getD i 0) (ps.getD i (0,0)):=λi hi=>by
   have r:as[i]?=some (as.getD i 0):=by simp[ac hi]
   refine⟨?_,paired_at2 x i _ _ r (by simp[ac (show i<ps.length by lia)])⟩;rw[ae,af,r];rfl
  refine gg (gz (W.kat_run (κ:=tuples' true) (ks:=as.map Value.ref) (vs:=as.map Value.ref) (G:=λI l=>I.toList.Perm (List.range as.length)/\l={ s with heap:=((s.heap.update a (Obj.mapSeq λ_=>(#[]:Array Value))).push (gE "tuple" (as.map Value.ref).toArray 0)).push (gE "list" #[] 0) })
   (Q:=λg l=>l={ s with heap:=((s.heap.update a (Obj.mapSeq λ_=>(#[]:Array Value))).push (gE "tuple" (as.map Value.ref).toArray 0)).push (gE "list" #[] 0) }/\(∃p:List Nat,p.Perm (List.range as.length)/\(arrOf g).map (·.2)=((p.map λi=>as.getD i 0).map Value.ref).toArray)/\failedOf g=none) rfl (by lia) (by lia) (λI g l a1 M N O=>?_) ?_) ?_ λ_ _ e=>e)
  .obtain⟨d,rfl⟩:=O;refine⟨rfl,⟨I.toList,d,?_⟩,N⟩;rw[W.kat_snds rfl M,bG];exact congrArg _ (bQ λi hi=>(c i (av.mp (d.mem_iff.mp hi))).1)
  .rw[y];refine Tb.SP.wp_any (n:=as.length) (λi j C hi J V=>?_) (λp B=>⟨?_,rfl⟩) _ (Tb.SP.al_sort (by lia))
   .unfold W.kas_ask;rw[(c i hi).1,(c j J).1];exact xo9 (c i hi).2 (c j J).2 V
   .have:=fk.mp B.pm;rwa [cx]at this
  .rintro⟨⟨⟩,g⟩ s' ⟨rfl,⟨p,d,m⟩,X⟩;dsimp only;have H:((arrOf g).map (·.2)).size<=gn:=by
    rw[m,aB,aa,aa,d.length_eq,aA];lia
   refine gg (seqEpoch_at h rfl (gg (listUpdate_at h rfl ?_ (aY _) (Nat.le_succ_of_le H))));rw[X];simp only[bne_self_eq_false,cX,if_false];have k:=q p d;have f:∀o,o=((p.map λi=>as.getD i 0).map Value.ref).toArray->P (.done (.ret .none)) { s with heap:=sortedHeap s.heap a (as.map Value.ref) o }:=λo e=>by rw[e];exact k
   exact gl (f _ m)
theorem yc6 {α β:Type}{F:α->β->Prop}{as bs:List α}(p:as.Perm bs):∀{ps:List β},Paired F as ps->∃c,c.Perm ps/\Paired F bs c:=by
 induction p with
 | nil=>exact λh=>⟨_,.refl _,h⟩
 | cons a _ ih =>
  intro ps h
  cases h with
  | cons f r =>
   obtain⟨c,h1,h2⟩:=ih r;exact⟨_,h1.cons _,.cons f h2⟩
 | swap a b l =>
  intro ps h
  cases h with
  | cons f r =>
   cases r with
   | cons g r=>exact⟨_,.swap _ _ _,.cons g (.cons f r)⟩
 | trans _ _ ih1 ih2 =>
  intro ps h;obtain⟨c,h1,h2⟩:=ih1 h;obtain⟨i,d,e⟩:=ih2 h2;exact⟨i,d.trans h1,e⟩
end
section
variable {X:Cx}
def ze2 (w:gv)(l:Addr)(as:List Addr):HO:=.ext λh=>∃o es ep t,h.get? l=some o/\N0 w o es ep t/\es.toList.map (·.2)=as.map Value.ref
def prK (x:Nat×Nat):List Key:=[Sum.inl (x.1:Int),Sum.inl (x.2:Int)]
theorem yn6 {x y:Nat×Nat}(h:prK x=prK y):x=y:=by
 injection h with h1 h2
 injection h2 with h2 _
 injection h1 with h1
 injection h2 with h2
 exact Prod.ext (Int.ofNat.inj h1) (Int.ofNat.inj h2)
theorem yq8 (w:gv)(hw:X.w=w)(hc:X.calm=true)(hu:X.A.units+64<cLine):S6 X (.type "set") (λxs H Q=>∃(p:Addr) (as:List Addr) (ps:List (Nat×Nat)),xs=[.ref p]/\SqL X.K H p (as.map V.ref)/\Paired (λa x=>H a=some (.tup [.int ((x.1:Nat):Int),.int ((x.2:Nat):Int)])) as ps/\ps.length<=306 /\
  ∀(l:Addr) (bs:List Addr) (b:List (Nat×Nat)),H l=none->(∀x,x∈b↔x∈ps)->b.length<=ps.length->Paired (λa x=>H a=some (.tup [.int ((x.1:Nat):Int),.int ((x.2:Nat):Int)])) bs b->Q (.ref l) (upd H l (ze2 w l bs))):=by
 subst hw;intro pins s σ H xs us Q I r h;obtain⟨p,as,ps,rfl,Z,P,Y,q⟩:=h;obtain⟨u,rfl,rx⟩:=O9 r
 cases rx
 obtain⟨ac,r1,p1,hz⟩:=I.list Z;have hl:as.length=ps.length:=Paired.length P;have m:=zs6 r1;obtain⟨S,z2⟩:=yp8 (as:=ps) (bs:=as) hl.symm;have all:=yp7 P;have ab:(ps.zip as).length=ps.length:=by
  have:=congrArg List.length S;rwa [aa]at this
 have N:∀x∈(ps.zip as).map (λy=>(prK y.1,y.2)),∃y∈ps.zip as,x=(prK y.1,y.2):=λx D=>by
  obtain⟨y,h1,h2⟩:=az.mp D;exact⟨y,h1,h2.symm⟩
 have ob:∀y∈ps.zip as,∃o it,∃n,s.heap.get? y.2=some o/\o.cls=.type "tuple"/\o.data=.seq it n/\∃t u,it.toList=[Value.int (y.1.1:Int) t,Value.int (y.1.2:Int) u]:=λy d=>by
  obtain⟨_,it,O,o,B,f,n,F⟩:=I.hok _ _ (all y d);obtain⟨v1,v2,rfl,⟨t1,rfl⟩,⟨t2,rfl⟩⟩:=yp6 O;exact⟨o,_,n,B,f,F.1,t1,t2,rfl⟩
 refine SP.call_set_tups (knd:=d9 X.prog X.w) ((ps.zip as).map λy=>(prK y.1,y.2)) (I.ok.hd hc) (by lia) p1.isList ?_ (λx D=>?_) (λx D=>?_) (by rw[aa];lia) λh' tk xs hS j c kp=>?_
 .rw[cx,m,bG]
  conv=>lhs;rw[←z2]
  rw[bG];rfl
 .obtain⟨y,d,rfl⟩:=N x D;obtain⟨_,it,O,o,B,f,n,F⟩:=I.hok _ _ (all y d);exact⟨o,it.toArray,n,B,f,F.1,by rw[cx];exact zc5 (ks:=prK y.1) O⟩
 .obtain⟨y,d,rfl⟩:=N x D;obtain⟨o,it,n,h1,_,h2,t,u,U⟩:=ob y d;intro o' C M n' g v R;rw[h1]at C
  cases C
  rw[h2]at g;injection g with e1 e2
  subst e1;rw[U]at R;rcases ay.mp R with z|z
  .exact⟨_,_,z⟩
  .exact⟨_,_,ar.mp z⟩
 .obtain⟨o,es,E,t,T⟩:=hS;have hW:N0 X.w o es E t:=⟨T.hx,T.hd,T.fits,T.pl.1,T.pl.2,T.tab.ris,by
   rw[T.tab.len,←aG,T.he,aa]
   unfold N7
   rw[aa]⟩
  have i:es.toList.map (·.2)=(xs.map (·.2)).map Value.ref:=by
   rw[T.he,bG,bG];rfl
  have L:∃b:List (Nat×Nat),xs.map (·.1)=b.map prK/\Paired (λa x=>H a=some (.tup [.int ((x.1:Nat):Int),.int ((x.2:Nat):Int)])) (xs.map (·.2)) b:=by
   clear c i T
   induction xs with
   | nil=>exact⟨[],rfl,.nil⟩
   | cons x xs ih =>
    obtain⟨b,h1,h2⟩:=ih λy d=>j y (ah _ d);obtain⟨y,d,e⟩:=N x (j x ao);subst e;exact⟨y.1::b,by rw[aJ,aJ,h1],.cons (all y d) h2⟩
  obtain⟨b,W,J⟩:=L;have G:((ps.zip as).map λy=>(prK y.1,y.2)).map (·.1)=ps.map prK:=by
   rw[bG]
   conv=>rhs;rw[←S]
   rw[bG];rfl
  rw[W,G]at c;refine⟨.ref s.heap.objs.size,_,I.laid (t':=tk) kp (aq _) (show k8 X.prog X.w _ h' _ (ze2 X.w s.heap.objs.size (xs.map (·.2))) from⟨⟨o,es,E,t,T.ho,hW,i⟩,⟨o,T.ho⟩,λh1 h2 ⟨o,es,E,t,B,rr⟩ k=>⟨o,es,E,t,k o B,rr⟩⟩),rfl,q _ _ b (I.hok.fresh (aq _)) (λx=>?_) ?_ J⟩
  .have:=c.mem (prK x);rw[az,az]at this;exact⟨λh=>by
    obtain⟨y,h1,h2⟩:=this.mp ⟨x,h,rfl⟩
    rwa [←yn6 h2],λh=>by
    obtain⟨y,h1,h2⟩:=this.mpr ⟨x,h,rfl⟩
    rwa [←yn6 h2]⟩
  .have:=c.le;rwa [aa,aa]at this
theorem zt4 (w:gv)(hw:X.w=w)(hc:X.calm=true):S6 X (.builtin "sorted") (λxs H Q=>∃(d:Addr) (bs:List Addr) (ps:List (Nat×Nat)),xs=[.ref d]/\H d=some (ze2 w d bs)/\Paired (λa x=>H a=some (.tup [.int ((x.1:Nat):Int),.int ((x.2:Nat):Int)])) bs ps/\ps.length<64 /\
  ∀(l:Addr) (cs:List Addr) (qs:List (Nat×Nat)),H l=none->qs.Perm ps->Paired (λa x=>H a=some (.tup [.int ((x.1:Nat):Int),.int ((x.2:Nat):Int)])) cs qs->Q (.ref l) (upd H l (.lst (cs.map V.ref)))):=by
 subst hw;intro pins s σ H xs us Q I r h;obtain⟨d,bs,ps,rfl,hd,W,Z,q⟩:=h;obtain⟨u,rfl,rx⟩:=O9 r
 cases rx
 obtain⟨⟨o,es,f,t,P,hW,p⟩,_⟩:=I.hok d _ hd;have ab:bs.length=ps.length:=Paired.length W;have af:es.size=bs.length:=by
  have:=congrArg List.length p;rwa [aa,aa,aG]at this
 have ai:=J5;refine Calls.call_function_entry kind_sorted plain_sorted entry_sorted (args_sorted1 (.ref d)) ?_;unfold Builtin.«sorted»;refine gg (m:=checkCount "sorted" 1 1 _) (gl (gg (zz3 (I.ok.hd hc) P hW (by lia) λh' tk N R=>gg (wpAny_newList ?_ (by rw[aa,(O5 X.w d f es).length_eq,aG];lia)))));have F:((X9 X.w d f es).toList.map (·.2)).Perm (bs.map Value.ref):=by
  rw[←p];exact(O5 X.w d f es).map _
 have j:∃as:List Addr,(X9 X.w d f es).toList.map (·.2)=as.map Value.ref/\bs.Perm as:=by
  have k:∀v∈(X9 X.w d f es).toList.map (·.2),∃a,v=Value.ref a:=λv S=>by
   obtain⟨a,_,e⟩:=az.mp (F.mem_iff.mp S);exact⟨a,e.symm⟩
  refine⟨((X9 X.w d f es).toList.map (·.2)).map λv=>match v with | .ref a=>a|_=>0,?_,?_⟩
  .rw[bG]
   conv=>lhs;rw[←fF ((X9 X.w d f es).toList.map (·.2))]
   refine bQ λv S=>?_;obtain⟨a,rfl⟩:=k v S;rfl
  .have:=(F.map λv=>match v with | .ref a=>a|_=>0).symm;rw[bG]at this;have e:bs.map ((λv:Value=>match v with | .ref a=>a|_=>0) ∘ Value.ref)=bs:=by
    conv=>rhs;rw[←fF bs]
    rfl
   rwa [e]at this
 obtain⟨as,j,M⟩:=j;obtain⟨J,E,c⟩:=yc6 M W;have L:as.length=J.length:=Paired.length c;have ag:=E.length_eq;rw[j];have G:∀b x,H b=some (.tup [.int (((x:Nat×Nat).1:Nat):Int),.int ((x.2:Nat):Int)])->zb8 s.heap b x:=λb x T=>by
  obtain⟨_,it,rv,ht⟩:=I.hok _ _ T;obtain⟨v1,v2,rfl,⟨t1,rfl⟩,⟨t2,rfl⟩⟩:=yp6 rv;exact⟨t1,t2,ht.is⟩
 have O:(h'.push (gE "list" (as.map Value.ref).toArray 0)).get? h'.objs.size=some (gE "list" (as.map Value.ref).toArray 0):=aF _ rfl;have D:Paired (zb8 (h'.push (gE "list" (as.map Value.ref).toArray 0))) as J:=Paired.imp' (λb x T=>(G b x T).at λo Y=>au _ (N b o Y)) c;have lt:∀b∈as,b<s.heap.objs.size:=λb g=>by
  obtain⟨i,hi⟩:=cv g;have y:=(aw.mp hi).1;obtain⟨_,_,o,P,_⟩:=G b _ (paired_at2 c i b _ hi (ac (by lia)));exact aE P
 show gr _ _ _ _ _ { s with heap:=h'.push (gE "list" (as.map Value.ref).toArray 0),toks:=tk };refine gg (gy (wpAny_call_entry slot_list_sort ⟨_,O,rfl⟩ entry_list_sort (xc0 (s:={ s with heap:=h'.push (gE "list" (as.map Value.ref).toArray 0),toks:=tk }) O D (λb g=>aP (eD (lt b g) R)) (by lia) λpm K=>⟨_,rfl,gl ⟨_,rfl,?_⟩⟩) (args_list_sort _)));obtain⟨e,he⟩:=sortedHeap_at (vs:=as.map Value.ref) (out:=((pm.map λi=>as.getD i 0).map Value.ref).toArray) (n:=0) O;have B:∀b o,s.heap.get? b=some o->(sortedHeap (h'.push (gE "list" (as.map Value.ref).toArray 0)) h'.objs.size (as.map Value.ref) ((pm.map λi=>as.getD i 0).map Value.ref).toArray).get? b=some o:=λb o z=>by
  have h1:b<h'.objs.size:=aE (N b o z);rw[sortedHeap_old (aP h1) (by rw[size_push'];exact dk h1),Heap.get?_push_ne _ _ _ (aP h1)];exact N b o z
 have C:=K.length_eq;rw[aA]at C;have A:∀i∈pm,i<as.length:=λi hi=>av.mp (K.mem_iff.mp hi);refine⟨.ref h'.objs.size,_,I.laid (t':=tk) B (by lia) (show k8 X.prog X.w _ _ _ (.lst ((pm.map λi=>as.getD i 0).map V.ref)) from⟨by rw[aa,aa];lia,(pm.map λi=>as.getD i 0).map Value.ref,e,?_,he⟩),rfl,q _ _ (pm.map λi=>J.getD i (0,0)) (I.hok.fresh (by lia)) ?_ (zk8 _ _ _ λi hi=>?_)⟩
 .generalize (pm.map λi=>as.getD i 0)=bs
  induction bs with
  | nil=>exact .nil
  | cons b r ih=>exact .cons rfl ih
 .have U:=K.map λi=>J.getD i (0,0);rw[L,yb6]at U;exact U.trans E
 .have y:=A i hi;exact paired_at2 c i _ _ (by simp[ac y]) (by simp[ac (show i<J.length by lia)])
theorem yq7:S6 X (.type "range") (λxs H Q=>∃i j,xs=[.int i,.int j]/\∀p,H p=none->Q (.ref p) (upd H p (.rng i j))):=by
 intro pins s σ H xs c Q I r h;obtain⟨i,j,rfl,q⟩:=h;obtain⟨u,v,rfl,⟨t,rfl⟩,⟨a,rfl⟩⟩:=yp6 r;exact call_range_2 ⟨.ref s.heap.objs.size,_,I.laid (λb o e=>au _ e) (aq _) (show k8 X.prog X.w _ _ _ (.rng i j) from⟨_,_,_,aF _ rfl⟩),rfl,q _ (I.hok.fresh (aq _))⟩
theorem yu3 {prog:gq}{w:gv}{A:gw}{E:Value->gh->Prop}{s:gh}{t sl:Addr}{its:Array Value}{c d:Value}{lo hi:Option Int}{Q:Value->gh->Prop}(a:IsTup s.heap t its)(hs:s.heap.IsSliceOf sl c d .none)(pl:IsPart c lo)(j:IsPart d hi)
  (g:HT.sIx its.size 0 lo=0) (h1:HT.sIx its.size its.size hi=its.size) (q:Q (.ref t) s):gr (gu prog w) A (getItem (.ref t) (.ref sl)) Q E s:=by
 obtain⟨i,f,e,k⟩:=id hs;have h:s.TypeIs (.ref sl) "slice":=⟨i,f,e⟩;unfold getItem
 try with_reducible refine gy ?_
 first|refine gg (gl ?_)|skip
 refine gg (wpAny_sequenceKey a.typeIs (by decide) ?_);refine gg (wpAny_callSpecial?_slot (name:=Str.ofString "__getitem__") a.typeIs slot_tuple_getitem (wpAny_call_entry slot_tuple_getitem a.typeIs entry_tuple_getitem ?_ (args_tuple_getitem _ _)));show gr _ _ (Builtin.Tuple.tupleItemsOf (.ref t) >>= _) _ _ s;refine gg (tupleItemsOf_ a (gg (wpAny_typeOf h ?_)));rw[if_pos (by decide)];refine gg (HT.sliceApplied_gen hs pl j ?_);have b:(((HT.sIx its.size 0 lo:Nat):Int)==0&&(1:Int)==1&&(HT.sIx its.size its.size hi-HT.sIx its.size 0 lo)==its.size)=true:=by
  rw[g,h1];simp
 show gr _ _ (if (((HT.sIx its.size 0 lo:Nat):Int)==0&&(1:Int)==1&&(HT.sIx its.size its.size hi-HT.sIx its.size 0 lo)==its.size)=true then _ else _) _ _ s;rw[if_pos b];refine gg (gg (m:=typeOf (.ref t)) (wpAny_typeOf a.typeIs (gl ?_)));rw[if_pos (by decide)];refine gg (m:=rule _) (wpAny_rule ?_);exact gl ⟨_,rfl,gl q⟩
theorem xj0:SlR X (λx lo hi H Q=>∃a xs,x=.ref a/\SqT X.K H a xs/\HT.sIx xs.length 0 lo=0/\HT.sIx xs.length xs.length hi=xs.length/\Q x H):=by
 intro pins s σ H x v j k lo hi sl Q I g hs pl f h;obtain⟨a,xs,rfl,e,d,h1,q⟩:=h
 cases g
 obtain⟨b,r,c,i⟩:=I.tuple e;have hl:b.toArray.size=xs.length:=by rw[aB];exact r.length.symm
 exact⟨"tuple",_,slot_tuple_getitem.lookup,c.typeIs,yu3 c hs pl f (by rw[hl];exact d) (by rw[hl];exact h1) ⟨.ref a,H,I,rfl,q⟩⟩
end
end L2
namespace TM
def IsT (n:Nat)(t:List Nat):Prop:=t.Perm (List.range n)
theorem IsT.length {n:Nat}{t:List Nat}(h:IsT n t):t.length=n:=by rw[List.Perm.length_eq h,aA]
theorem IsT.lt {n:Nat}{t:List Nat}(h:IsT n t){x:Nat}(hx:x∈t):x<n:=av.mp ((List.Perm.mem_iff h).mp hx)
theorem IsT.mem {n:Nat}{t:List Nat}(h:IsT n t){x:Nat}(hx:x<n):x∈t:=(List.Perm.mem_iff h).mpr (av.mpr hx)
theorem IsT.nodup {n:Nat}{t:List Nat}(h:IsT n t):t.Nodup:=(List.Perm.nodup_iff h).mpr aN
theorem IsT.range (n:Nat):IsT n (List.range n):=List.Perm.refl _
theorem IsT.get_lt {n:Nat}{t:List Nat}(h:IsT n t){i x:Nat}(hx:t[i]?=some x):x<n:=h.lt (ax hx)
theorem IsT.at {n:Nat}{t:List Nat}(h:IsT n t){i:Nat}(hi:i<n):∃x,t[i]?=some x/\x<n:=by
 have a:i<t.length:=by rw[h.length];exact hi
 exact⟨t[i],ac a,h.lt (bY a)⟩
theorem W8:∀{t l:List Nat},t.Nodup->(∀x∈t,x∈l)->l.length<=t.length->t.Perm l
 | [],l,_,_,h=>by
  have e:l=[]:=cP.mp (Nat.le_zero.mp h)
  subst e
  exact List.Perm.refl _
 | a::r,l,hn,hs,h=>by
  obtain⟨h1,h2⟩:=aQ.mp hn
  have ha:a∈l:=hs a ao
  have p:=List.perm_cons_erase ha
  have ih:r.Perm (l.erase a):=W8 h2 (λx hx=>by
   have hx':=hs x (ah _ hx)
   have ne:x≠a:=λe=>h1 (e ▸ hx)
   rcases ay.mp ((List.Perm.mem_iff p).mp hx') with e|e
   .exact absurd e ne
   .exact e) (by rw[fu ha];simp only[aC]at h;lia)
  exact(List.Perm.cons a ih).trans p.symm
theorem isT_of {n:Nat}{t:List Nat}(hl:t.length=n)(hn:t.Nodup)(hlt:∀x∈t,x<n):IsT n t :=
 W8 hn (λx hx=>av.mpr (hlt x hx)) (by rw[hl,aA];exact aq _)
theorem zi4 {α:Type}:∀(l:List α) (i:Nat) (x:α),l[i]?=some x->(x::l.eraseIdx i).Perm l
 | [],_,_,h=>by cases h
 | a::r,0,x,h=>by
  cases h
  exact List.Perm.refl _
 | a::r,i+1,x,h=>by
  have ih:=zi4 r i x (by simpa using h)
  rw[List.eraseIdx_cons_succ]
  exact(List.Perm.swap a x _).trans (List.Perm.cons a ih)
theorem draw_perm {n:Nat}{row left:List Nat}{i x:Nat}(h:IsT n (row++left))(a:left[i]?=some x):IsT n ((row++[x])++left.eraseIdx i):=by
 refine List.Perm.trans ?_ h;rw[di];exact List.Perm.append_left row (zi4 left i x a)
end TM
namespace TM
theorem IsT.map {n:Nat}{s t:List Nat}(hs:IsT n s)(b:IsT n t):IsT n (s.map λx=>t.getD x 0):=by
 have e:((List.range n).map λx=>t.getD x 0)=t:=by
  apply cK;intro i;rw[af];by_cases hi:i<n
  .rw[aD hi];have a:i<t.length:=by rw[b.length];exact hi
   simp[ac a]
  .rw[aR (by rw[aA];lia),aR (by rw[b.length];lia)];rfl
 have h1:=List.Perm.map (λx=>t.getD x 0) hs;rw[e]at h1;exact h1.trans b
theorem getD_of {t:List Nat}{i x:Nat}(h:t[i]?=some x):t.getD i 0=x:=by rw[ae,h];rfl
theorem map_get {s t:List Nat}{i x y:Nat}(hs:s[i]?=some x)(a:t[x]?=some y):(s.map λx=>t.getD x 0)[i]?=some y:=by
 rw[af,hs];simp only[cJ];rw[getD_of a]
theorem IsT.hit {n:Nat}{t:List Nat}(h:IsT n t){y:Nat}(b:y<n):∃x,t[x]?=some y/\x<n:=by
 obtain⟨x,a⟩:=cv (h.mem b);exact⟨x,a,by have:=(aw.mp a).1;rwa [h.length]at this⟩
theorem IsT.inj {n:Nat}{t:List Nat}(h:IsT n t){i j x:Nat}(hi:t[i]?=some x)(c:t[j]?=some x):i=j:=by
 obtain⟨h1,a⟩:=aw.mp hi;obtain⟨h2,b⟩:=aw.mp c;exact(fS h.nodup).mp (a.trans b.symm)
structure Back (n:Nat) (t:List Nat) (k:Nat) (b:List Nat):Prop where
 len:b.length=n
 ret:∀x y,x<k->t[x]?=some y->b[y]?=some x
theorem Back.start {n:Nat}{t b:List Nat}(h:b.length=n):Back n t 0 b:=⟨h,λ_ _ h=>absurd h (bO _)⟩
theorem Back.step {n:Nat}{t b:List Nat}{k y:Nat}(hT:IsT n t)(h:Back n t k b)(c:t[k]?=some y):Back n t (k+1) (b.set y k):=by
 have d:y<b.length:=by rw[h.len];exact hT.get_lt c
 refine⟨by rw[bD];exact h.len,λx z g a=>?_⟩;by_cases e:x=k
 .subst e;rw[c]at a
  cases a
  rw[cf d]
 .have f:y≠z:=λq=>e (hT.inj a (q ▸ c));rw[bM f];exact h.ret x z (by lia) a
theorem Back.lt {n:Nat}{t b:List Nat}(hT:IsT n t)(h:Back n t n b){y x:Nat}(d:b[y]?=some x):x<n/\t[x]?=some y:=by
 have c:y<n:=by have:=(aw.mp d).1;rwa [h.len]at this
 obtain⟨z,e,a⟩:=hT.hit c;have:=h.ret z y a e;rw[d]at this
 cases this
 exact⟨a,e⟩
theorem Back.get {n:Nat}{t b:List Nat}(hT:IsT n t)(h:Back n t n b){y:Nat}(d:y<n):∃x,b[y]?=some x/\x<n/\t[x]?=some y:=by
 obtain⟨x,c,a⟩:=hT.hit d;exact⟨x,h.ret x y a c,a,c⟩
theorem Back.mem_lt {n:Nat}{t b:List Nat}(hT:IsT n t)(h:Back n t n b){x:Nat}(a:x∈b):x<n:=by
 obtain⟨y,c⟩:=cv a;exact(h.lt hT c).1
theorem Back.uniq {n:Nat}{t b c:List Nat}(hT:IsT n t)(h:Back n t n b)(h':Back n t n c):b=c:=by
 apply cK;intro y;by_cases e:y<n
 .obtain⟨x,h1,a,d⟩:=h.get hT e;rw[h1,h'.ret x y a d]
 .rw[aR (by rw[h.len];lia),aR (by rw[h'.len];lia)]
theorem Back.isT {n:Nat}{t b:List Nat}(hT:IsT n t)(h:Back n t n b):IsT n b:=by
 refine isT_of h.len ?_ λx d=>h.mem_lt hT d;refine bP.mpr λi j hi c a e=>?_;have h1:=(h.lt hT (ac hi)).2;have h2:=(h.lt hT (ac c)).2;rw[e,h2]at h1
 cases h1
 exact bU _ a
theorem Back.comp {n:Nat}{s t b c:List Nat}(hs:IsT n s)(i:IsT n t)(h:Back n s n b)(h':Back n t n c):Back n (s.map λx=>t.getD x 0) n (c.map λx=>b.getD x 0):=by
 refine⟨by rw[aa];exact h'.len,λx z e g=>?_⟩;obtain⟨y,f,a⟩:=hs.at e;obtain⟨j,d,_⟩:=i.at a;rw[map_get f d]at g
 cases g
 exact map_get (h'.ret y z a d) (h.ret x y e f)
theorem Back.range (n:Nat):Back n (List.range n) n (List.range n):=⟨aA,λx y hx hy=>by
 rw[aD hx]at hy
 cases hy
 exact aD hx⟩
end TM
namespace TM
def it (t:List Nat):Nat->Nat->Nat
 | 0,x=>x
 | k+1,x=>t.getD (it t k x) 0
theorem K0 (t:List Nat)(k x:Nat):it t (k+1) x=t.getD (it t k x) 0:=rfl
theorem U8 (t:List Nat)(j:Nat):∀(k x:Nat),it t (j+k) x=it t k (it t j x)
 | 0,_=>rfl
 | k+1,x=>by
  show t.getD (it t (j+k) x) 0=t.getD (it t k (it t j x)) 0
  rw[U8 t j k x]
theorem xn7 (t:List Nat)(x:Nat):it t 1 x=t.getD x 0:=rfl
section
variable {n:Nat}{t:List Nat}(h:IsT n t)
include h
theorem IsT.step_lt {x:Nat}(b:x<n):t.getD x 0<n:=by
 obtain⟨y,c,a⟩:=h.at b;rw[getD_of c];exact a
theorem IsT.get_step {x:Nat}(b:x<n):t[x]?=some (t.getD x 0):=by
 obtain⟨y,a,_⟩:=h.at b;rw[getD_of a,a]
theorem IsT.it_lt {x:Nat}(hx:x<n):∀k,it t k x<n
 | 0=>hx
 | k+1=>h.step_lt (IsT.it_lt hx k)
theorem IsT.step_inj {x y:Nat}(hx:x<n)(hy:y<n)(e:t.getD x 0=t.getD y 0):x=y:=h.inj (h.get_step hx) (e ▸ h.get_step hy)
theorem IsT.it_inj {x y:Nat}(hx:x<n)(hy:y<n):∀k,it t k x=it t k y->x=y
 | 0,e=>e
 | k+1,e=>IsT.it_inj hx hy k (h.step_inj (h.it_lt hx k) (h.it_lt hy k) e)
end
theorem ys5 {l:List Nat}{n:Nat}(a:l.Nodup)(hlt:∀x∈l,x<n):l.length<=n:=by
 refine bE λc=>?_;have p:=W8 a (λx b=>av.mpr (hlt x b)) (by rw[aA];lia);have:=p.length_eq;rw[aA]at this;lia
def per (t:List Nat)(x:Nat):Nat:=((List.range t.length).find? λj=>it t (j+1) x==x).getD 0+1
section
variable {n:Nat}{t:List Nat}(h:IsT n t)
include h
theorem IsT.back_some {x:Nat}(a:x<n):∃j,j<n/\it t (j+1) x=x:=by
 refine Classical.byContradiction λd=>?_;have m:((List.range (n+1)).map λk=>it t k x).Nodup:=by
  refine bP.mpr λi j hi g f e=>?_;simp only[aa,aA]at hi g;simp only[List.getElem_map,eQ]at e;have b:it t (j-i) x=x:=by
   have c:it t j x=it t i (it t (j-i) x):=by rw[←U8];congr 1;lia
   rw[c]at e;exact(h.it_inj a (h.it_lt a _) i e).symm
  exact d ⟨j-i-1,by lia,by rw[show j-i-1+1=j-i by lia];exact b⟩
 have:=ys5 m λy l=>by
  obtain⟨k,_,rfl⟩:=az.mp l;exact h.it_lt a k
 simp only[aa,aA]at this;lia
theorem IsT.per_spec {x:Nat}(m:x<n):1<=per t x/\per t x<=n/\it t (per t x) x=x/\∀j,1<=j->j<per t x->it t j x≠x:=by
 obtain⟨j,l,c⟩:=h.back_some m;have a:((List.range t.length).find? λj=>it t (j+1) x==x).isSome=true:=by
  rw[List.find?_isSome];exact⟨j,av.mpr (by rw[h.length];exact l),by simpa using c⟩
 obtain⟨k,b⟩:=dR.mp a;have e:per t x=k+1:=by unfold per;rw[b];rfl
 rw[e];rw[List.find?_range_eq_some]at b;obtain⟨h1,h2,d⟩:=b;refine⟨by lia,by have:=av.mp h2;rw[h.length]at this;lia,by simpa using h1,λi f g=>?_⟩;have:=d (i-1) (by lia);rw[show i-1+1=i by lia]at this;simpa using this
theorem IsT.per_pos {x:Nat}(hx:x<n):0<per t x:=(h.per_spec hx).1
theorem IsT.per_back {x:Nat}(hx:x<n):it t (per t x) x=x:=(h.per_spec hx).2.2.1
theorem IsT.it_mul {x:Nat}(hx:x<n):∀q,it t (per t x*q) x=x
 | 0=>rfl
 | q+1=>by rw[Nat.mul_succ,U8,IsT.it_mul hx q,h.per_back hx]
theorem IsT.it_mod {x:Nat}(a:x<n)(k:Nat):it t (k % per t x) x=it t k x:=by
 have e:k=per t x*(k / per t x)+k % per t x:=(bX k (per t x)).symm
 conv=>rhs;rw[e,U8,h.it_mul a]
theorem IsT.it_eq_iff {x:Nat}(b:x<n){i j:Nat}(hi:i<per t x)(c:j<per t x)(e:it t i x=it t j x):i=j:=by
 have a:∀{i j:Nat},i<=j->j<per t x->it t i x=it t j x->i=j:=λ{i j} g c e=>by
  by_cases k:i=j
  .exact k
  .exfalso;have f:it t j x=it t i (it t (j-i) x):=by rw[←U8];congr 1;lia
   rw[f]at e;have d:=(h.it_inj b (h.it_lt b _) i e).symm;exact(h.per_spec b).2.2.2 (j-i) (by lia) (by lia) d
 rcases fD i j with q|q
 .exact a q c e
 .exact(a q hi e.symm).symm
end
def cyc (t:List Nat)(x:Nat):List Nat:=(List.range (per t x)).map λj=>it t j x
theorem cyc_length (t:List Nat)(x:Nat):(cyc t x).length=per t x:=by unfold cyc;rw[aa,aA]
theorem cyc_get {t:List Nat}{x j:Nat}(a:j<per t x):(cyc t x)[j]?=some (it t j x):=by
 unfold cyc;rw[af,aD a];rfl
theorem cyc_some {t:List Nat}{x j y:Nat}(a:(cyc t x)[j]?=some y):j<per t x/\y=it t j x:=by
 have hl:j<per t x:=by
  have:=(aw.mp a).1;rwa [cyc_length]at this
 rw[cyc_get hl]at a;exact⟨hl,(Option.some.inj a).symm⟩
theorem mem_cyc {t:List Nat}{x y:Nat}:y∈cyc t x↔∃j,j<per t x/\y=it t j x:=by
 unfold cyc;rw[az];constructor
 .rintro⟨j,a,rfl⟩;exact⟨j,av.mp a,rfl⟩
 .rintro⟨j,a,rfl⟩;exact⟨j,av.mpr a,rfl⟩
section
variable {n:Nat}{t:List Nat}(h:IsT n t)
include h
theorem IsT.mem_cyc_it {x:Nat}(hx:x<n)(k:Nat):it t k x∈cyc t x:=mem_cyc.mpr ⟨k % per t x,bJ _ (h.per_pos hx),(h.it_mod hx k).symm⟩
theorem IsT.self_mem {x:Nat}(hx:x<n):x∈cyc t x:=h.mem_cyc_it hx 0
theorem IsT.cyc_lt {x y:Nat}(a:x<n)(b:y∈cyc t x):y<n:=by
 obtain⟨j,_,rfl⟩:=mem_cyc.mp b;exact h.it_lt a j
theorem IsT.cyc_symm {x y:Nat}(a:x<n)(b:y∈cyc t x):x∈cyc t y:=by
 obtain⟨j,c,rfl⟩:=mem_cyc.mp b;have e:it t (per t x-j) (it t j x)=x:=by
  rw[←U8,show j+(per t x-j)=per t x by lia];exact h.per_back a
 have:=h.mem_cyc_it (h.it_lt a j) (per t x-j);rwa [e]at this
theorem IsT.cyc_trans {x y z:Nat}(a:x<n)(b:y∈cyc t x)(c:z∈cyc t y):z∈cyc t x:=by
 obtain⟨j,_,rfl⟩:=mem_cyc.mp b;obtain⟨k,_,rfl⟩:=mem_cyc.mp c;rw[←U8];exact h.mem_cyc_it a _
theorem IsT.per_it {x:Nat}(a:x<n)(j:Nat):per t (it t j x)=per t x:=by
 have c:=h.it_lt a j;have b:∀{x:Nat} (a:x<n) (j:Nat),per t (it t j x)<=per t x:=λ{x} a j=>by
  have c:=h.it_lt a j;refine bE λd=>?_;refine(h.per_spec c).2.2.2 (per t x) (h.per_pos a) d ?_;rw[←U8,dv,U8,h.per_back a]
 refine cZ (b a j) ?_;have e:it t (per t x*(j+1)-j) (it t j x)=x:=by
  have f:j<=per t x*(j+1):=aM (dJ j) (by have:=dq (j+1) (h.per_pos a);lia);rw[←U8,show j+(per t x*(j+1)-j)=per t x*(j+1) by lia];exact h.it_mul a _
 have:=b c (per t x*(j+1)-j);rwa [e]at this
end
structure Chain (t:List Nat) (x k:Nat) (c:List Nat):Prop where
 eq:c=(List.range k).map λj=>it t j x
 pos:1<=k
 no:∀j,1<=j->j<k->it t j x≠x
theorem Chain.start (t:List Nat)(x:Nat):Chain t x 1 [x]:=⟨rfl,aq _,λj h1 h2=>absurd h2 (by lia)⟩
theorem Chain.step {t:List Nat}{x k:Nat}{c:List Nat}(h:Chain t x k c)(a:it t k x≠x):Chain t x (k+1) (c++[it t k x]):=by
 refine⟨?_,by lia,λj h1 h2=>?_⟩
 .rw[h.eq,eE,aO];rfl
 .by_cases e:j=k
  .rw[e];exact a
  .exact h.no j h1 (by lia)
theorem Chain.le {n:Nat}{t:List Nat}{x k:Nat}{c:List Nat}(hT:IsT n t)(a:x<n)(h:Chain t x k c):k<=per t x:=by
 refine bE λb=>?_;exact h.no (per t x) (hT.per_pos a) b (hT.per_back a)
theorem Chain.done {n:Nat}{t:List Nat}{x k:Nat}{c:List Nat}(hT:IsT n t)(a:x<n)(h:Chain t x k c)(e:it t k x=x):c=cyc t x:=by
 have h1:=h.le hT a;have h2:k=per t x:=by
  by_cases q:k=per t x
  .exact q
  .exact absurd e ((hT.per_spec a).2.2.2 k h.pos (by lia))
 rw[h.eq,h2];rfl
def isLeast (t:List Nat)(x:Nat):Bool:=(cyc t x).all λy=>decide (x<=y)
def Met (t:List Nat)(k x:Nat):Prop:=∃y,y<k/\x∈cyc t y
theorem met_least {n:Nat}{t:List Nat}(hT:IsT n t){x:Nat}(c:x<n):isLeast t x=true↔¬Met t x x:=by
 unfold isLeast;rw[bu];constructor
 .rintro h ⟨y,a,hm⟩;have:=h y (hT.cyc_symm (by lia) hm);have:x<=y:=by simpa using this
  lia
 .intro h y a;refine decide_eq_true (bE λb=>h ⟨y,b,hT.cyc_symm c a⟩)
theorem met_succ {t:List Nat}{k x:Nat}:Met t (k+1) x↔Met t k x∨x∈cyc t k:=by
 constructor
 .rintro⟨y,a,hm⟩;by_cases e:y=k
  .subst e;exact .inr hm
  .exact .inl ⟨y,by lia,hm⟩
 .rintro (⟨y,a,hm⟩|hm)
  .exact⟨y,by lia,hm⟩
  .exact⟨k,by lia,hm⟩
theorem met_skip {n:Nat}{t:List Nat}(hT:IsT n t){k x:Nat}(c:k<n)(hm:Met t k k):Met t (k+1) x↔Met t k x:=by
 rw[met_succ];constructor
 .rintro (h|h)
  .exact h
  .obtain⟨y,b,a⟩:=hm;exact⟨y,b,hT.cyc_trans (by lia) a h⟩
 .exact .inl
def pw (t:List Nat)(m:Int)(x:Nat):Nat:=it t (m % (per t x:Int)).toNat x
def pwT (t:List Nat)(m:Int):List Nat:=(List.range t.length).map (pw t m)
end TM
namespace TM
theorem yn0 {L:Nat}(d:0<L)(i:Nat)(m:Int):((((i:Int)+m) % (L:Int)).toNat)=(i+(m % (L:Int)).toNat) % L:=by
 have b:(0:Int)<(L:Int):=by lia
 have h1:=bh ((i:Int)+m) (show(L:Int)≠0 by lia);have h2:=bh m (show(L:Int)≠0 by lia);have a:((m % (L:Int)).toNat:Int)=m % (L:Int):=bB h2;have c:(((i+(m % (L:Int)).toNat) % L:Nat):Int)=((i:Int)+m) % (L:Int):=by
  rw[cE,cM,a,Int.add_emod_emod]
 lia
section
variable {n:Nat}{t:List Nat}(hT:IsT n t)
include hT
theorem IsT.stay {x:Nat}(a:x<n)(b:¬1<per t x):t[x]?=some x:=by
 have h1:=hT.per_pos a;have h2:=hT.per_back a;rw[show per t x=1 by lia,xn7]at h2;have:=hT.get_step a;rwa [h2]at this
theorem IsT.pw_lt (m:Int){x:Nat}(hx:x<n):pw t m x<n:=hT.it_lt hx _
theorem IsT.pw_at {h i:Nat}(a:h<n)(hi:i<per t h)(m:Int):(cyc t h)[(((i:Int)+m) % (per t h:Int)).toNat]?=some (pw t m (it t i h)):=by
 have b:=hT.per_pos a;rw[yn0 b,cyc_get (bJ _ b)];unfold pw;rw[hT.per_it a i,←U8,hT.it_mod a]
theorem IsT.pw_pw (a b:Int){x:Nat}(c:x<n):pw t b (pw t a x)=pw t (a+b) x:=by
 have d:=hT.per_pos c;unfold pw;rw[hT.per_it c,←U8];have h2:=bh a (show(per t x:Int)≠0 by lia);have e:((a+b) % (per t x:Int)).toNat=((a % (per t x:Int)).toNat+(b % (per t x:Int)).toNat) % per t x:=by
  rw[←yn0 d,bB h2,Int.emod_add_emod]
 rw[e,hT.it_mod c]
theorem IsT.pwT_get (m:Int){x:Nat}(a:x<n):(pwT t m)[x]?=some (pw t m x):=by
 unfold pwT;rw[af,aD (by rw[hT.length];exact a)];rfl
theorem IsT.pwT_len (m:Int):(pwT t m).length=n:=by unfold pwT;rw[aa,aA,hT.length]
theorem IsT.eq_pwT {g:List Nat}{m:Int}(hl:g.length=n)(h:∀x,x<n->g[x]?=some (pw t m x)):g=pwT t m:=by
 apply cK;intro x;by_cases a:x<n
 .rw[h x a,hT.pwT_get m a]
 .rw[aR (by lia),aR (by rw[hT.pwT_len];lia)]
theorem IsT.pwT_zero:List.range n=pwT t 0:=hT.eq_pwT aA λx hx=>by
 rw[aD hx]
 unfold pw
 rw[Int.zero_emod]
 rfl
theorem IsT.pwT_one:t=pwT t 1:=hT.eq_pwT hT.length λx hx=>by
 by_cases hp:1<per t x
 .rw[hT.get_step hx]
  unfold pw
  rw[Int.emod_eq_of_lt (by decide) (by lia)]
  rfl
 .have h1:=hT.per_pos hx
  rw[hT.stay hx hp]
  unfold pw
  rw[show per t x=1 by lia]
  rfl
theorem IsT.pwT_comp (a b:Int):((pwT t a).map λx=>(pwT t b).getD x 0)=pwT t (a+b):=hT.eq_pwT (by rw[aa,hT.pwT_len]) λx hx=>by
 rw[map_get (hT.pwT_get a hx) (hT.pwT_get b (hT.pw_lt a hx)),hT.pw_pw a b hx]
end
structure Pow (n:Nat) (t:List Nat) (m:Int) (S:Nat->Prop) (g:List Nat):Prop where
 len:g.length=n
 ins:∀x,x<n->S x->g[x]?=some (pw t m x)
 out:∀x,x<n->¬S x->g[x]?=t[x]?
end TM
namespace TM
theorem yz2 {t:List Nat}{h y:Nat}(hl:isLeast t h=true)(a:y∈cyc t h):h<=y:=by
 unfold isLeast at hl;rw[bu]at hl;simpa using hl y a
theorem lcm_pos {a b:Nat}(ha:0<a)(hb:0<b):0<Nat.lcm a b:=Nat.lcm_pos ha hb
end TM
namespace TM
def iN (l:List Nat):List Int:=l.map λ(x:Nat)=>(x:Int)
end TM
namespace TM
def Y0 (l:List Nat):Nat:=l.foldl min (l.headD 0)
theorem zq8 (l:List Nat)(a:Nat):(l.foldl min a=a∨l.foldl min a∈l)/\l.foldl min a<=a/\∀x∈l,l.foldl min a<=x:=by
 induction l generalizing a with
 | nil=>exact⟨.inl rfl,aq _,λx h=>by cases h⟩
 | cons b r ih =>
  obtain⟨h1,h2,c⟩:=ih (min a b);rw[fh];refine⟨?_,by lia,λx d=>?_⟩
  .rcases h1 with h|h
   .rw[h];by_cases q:a<=b
    .exact .inl (by lia)
    .exact .inr (by rw[show min a b=b by lia];exact ao)
   .exact .inr (ah _ h)
  .rcases ay.mp d with e|e
   .rw[e];lia
   .exact c x e
theorem ys3 {l:List Nat}(h:l≠[]):Y0 l∈l:=by
 cases l with
 | nil=>exact absurd rfl h
 | cons a r =>
  unfold Y0;rcases (zq8 (a::r) ((a::r).headD 0)).1 with e|e
  .rw[e];exact ao
  .exact e
theorem Z1 {l:List Nat}{x:Nat}(hx:x∈l):Y0 l<=x:=(zq8 l _).2.2 x hx
section
variable {n:Nat}{t:List Nat}(hT:IsT n t)
include hT
theorem IsT.cyc_ne {x:Nat}(hx:x<n):cyc t x≠[]:=λe=>by have:=hT.self_mem hx;rw[e]at this;cases this
theorem IsT.lead_mem {x:Nat}(hx:x<n):Y0 (cyc t x)∈cyc t x:=ys3 (hT.cyc_ne hx)
theorem IsT.mem_iff {x y z:Nat}(hx:x<n)(hy:y∈cyc t x):z∈cyc t y↔z∈cyc t x :=
 ⟨λh=>hT.cyc_trans hx hy h,λh=>hT.cyc_trans (hT.cyc_lt hx hy) (hT.cyc_symm hx hy) h⟩
theorem IsT.lead_eq {x y:Nat}(a:x<n)(b:y∈cyc t x):Y0 (cyc t y)=Y0 (cyc t x):=by
 have c:=hT.cyc_lt a b;exact cZ (Z1 ((hT.mem_iff a b).mpr (hT.lead_mem a))) (Z1 ((hT.mem_iff a b).mp (hT.lead_mem c)))
theorem IsT.least_iff {x:Nat}(a:x<n):isLeast t x=true↔Y0 (cyc t x)=x:=by
 constructor
 .intro h;exact cZ (Z1 (hT.self_mem a)) (yz2 h (hT.lead_mem a))
 .intro h;unfold isLeast;rw[bu];intro y b;refine decide_eq_true ?_;rw[←h];exact Z1 b
end
theorem zv1 {l m:List Nat}(h1:l.Nodup)(h2:∀y∈l,y∈m):l.length<=m.length:=by
 refine bE λa=>?_;have:=(W8 h1 h2 (by lia)).length_eq;lia
end TM
namespace TM
def leads (t:List Nat)(n:Nat):List Nat:=(List.range n).filter λx=>isLeast t x
theorem zc7 {t:List Nat}{n x:Nat}:x∈leads t n↔x<n/\isLeast t x=true:=by
 unfold leads;rw[bv,av]
theorem ze7 (t:List Nat)(n:Nat):(leads t n).Nodup:=List.Pairwise.filter _ aN
theorem ys4 {l m:List Nat}(h1:l.Nodup)(h2:m.Nodup)(h:∀x,x∈l↔x∈m):l.length=m.length :=
 cZ (zv1 h1 λx hx=>(h x).mp hx) (zv1 h2 λx hx=>(h x).mpr hx)
structure L4 (n:Nat) (t:List Nat) (a b:Nat) (u:List Nat):Prop where
 len:u.length=n
 ha:a<n
 hb:b<n
 ne:a≠b
 atA:∀x,x<n->t.getD x 0=a->u.getD x 0=b
 atB:∀x,x<n->t.getD x 0=b->u.getD x 0=a
 els:∀x,x<n->t.getD x 0≠a->t.getD x 0≠b->u.getD x 0=t.getD x 0
section
variable {n a b:Nat}{t u:List Nat}(hT:IsT n t)(hU:IsT n u)
include hT hU
theorem L4.symm (h:L4 n t a b u):L4 n u a b t:=by
 have g:∀x,x<n->(t.getD x 0=a/\u.getD x 0=b)∨(t.getD x 0=b/\u.getD x 0=a)∨(t.getD x 0≠a/\t.getD x 0≠b/\u.getD x 0=t.getD x 0):=λx c=>by
  by_cases d:t.getD x 0=a
  .exact .inl ⟨d,h.atA x c d⟩
  .by_cases f:t.getD x 0=b
   .exact .inr (.inl ⟨f,h.atB x c f⟩)
   .exact .inr (.inr ⟨d,f,h.els x c d f⟩)
 have l:=h.ne;refine⟨hT.length,h.ha,h.hb,h.ne,λx c e=>?_,λx c e=>?_,λx c d f=>?_⟩
 all_goals rcases g x c with⟨i,j⟩|⟨i,j⟩|⟨i,j,k⟩ <;> lia
theorem L4.it_same (h:L4 n t a b u){x:Nat}(hx:x<n):∀k,(∀j,1<=j->j<=k->it t j x≠a/\it t j x≠b)->it u k x=it t k x
 | 0,_=>rfl
 | k+1,hk=>by
  have ih:=L4.it_same h hx k λj h1 h2=>hk j h1 (by lia)
  show u.getD (it u k x) 0=t.getD (it t k x) 0
  rw[ih]
  obtain⟨n1,n2⟩:=hk (k+1) (by lia) (aq _)
  exact h.els _ (hT.it_lt hx k) n1 n2
theorem L4.cyc_same (h:L4 n t a b u){x:Nat}(c:x<n)(h1:a∉cyc t x)(h2:b∉cyc t x):cyc u x=cyc t x:=by
 have e:∀k,it u k x=it t k x:=λk=>h.it_same hT hU c k λj _ _=>⟨λz=>h1 (z ▸ hT.mem_cyc_it c j),λz=>h2 (z ▸ hT.mem_cyc_it c j)⟩;have f:per u x=per t x:=by
  refine cZ (bE λd=>?_) (bE λd=>?_)
  .exact(hU.per_spec c).2.2.2 _ (hT.per_pos c) d (by rw[e];exact hT.per_back c)
  .exact(hT.per_spec c).2.2.2 _ (hU.per_pos c) d (by rw[←e];exact hU.per_back c)
 unfold cyc;rw[f];apply bQ;intro j _;exact e j
theorem L4.joins (h:L4 n t a b u)(d:b∉cyc t a):b∈cyc u a:=by
 have c:=h.ha;have i:=hT.per_pos c;have e:it u (per t a-1) a=it t (per t a-1) a:=h.it_same hT hU c _ λj h1 h2=>⟨(hT.per_spec c).2.2.2 j h1 (by lia),λz=>d (z ▸ hT.mem_cyc_it c j)⟩;have g:it u (per t a) a=b:=by
  have f:per t a=(per t a-1)+1:=by lia
  rw[f,K0,e];refine h.atA _ (hT.it_lt c _) ?_;rw[←K0,←f];exact hT.per_back c
 rw[←g];exact hU.mem_cyc_it c _
theorem L4.cut (h:L4 n t a b u)(o:b∈cyc t a):∃k,0<k/\k<per t a/\it t k a=b/\(∀x,x∈cyc u a↔∃j,j<k/\x=it t j a)/\(∀x,x∈cyc u b↔∃j,k<=j/\j<per t a/\x=it t j a):=by
 have c:=h.ha;have hb:=h.hb;have E:=hT.per_pos c;obtain⟨k,w,e⟩:=mem_cyc.mp o;have f:0<k:=by
  rcases dQ k with z|z
  .rw[z]at e;exact absurd e.symm h.ne
  .exact z
 have A:∀j,j<per t a->j≠k->it t j a≠b:=λj d q z=>q (hT.it_eq_iff c d w (z.trans e));have l:∀j,j<k->it u j a=it t j a:=λj d=>h.it_same hT hU c j λi y D=>⟨(hT.per_spec c).2.2.2 i y (by lia),A i (by lia) (by lia)⟩;have B:it u k a=a:=by
  have g:k=(k-1)+1:=by lia
  rw[g,K0,l (k-1) (by lia)];refine h.atB _ (hT.it_lt c _) ?_;rw[←K0,←g,e]
 have v:∀j,it t j b=it t (k+j) a:=λj=>by rw[e,←U8]
 have m:∀j,k+j<per t a->it u j b=it t (k+j) a:=λj d=>by
  rw[←v];refine h.it_same hT hU hb j λi y D=>?_;rw[v];exact⟨(hT.per_spec c).2.2.2 _ (by lia) (by lia),A _ (by lia) (by lia)⟩
 have C:it u (per t a-k) b=b:=by
  have g:per t a-k=(per t a-k-1)+1:=by lia
  rw[g,K0,m (per t a-k-1) (by lia)];refine h.atA _ (hT.it_lt c _) ?_;rw[←K0,show k+(per t a-k-1)+1=per t a by lia];exact hT.per_back c
 have G:per u a<=k:=bE λp=>(hU.per_spec c).2.2.2 k f p B;have F:per u b<=per t a-k:=bE λp=>(hU.per_spec hb).2.2.2 _ (by lia) p C;refine⟨k,f,w,e.symm,λx=>⟨λr=>?_,?_⟩,λx=>⟨λr=>?_,?_⟩⟩
 .obtain⟨j,d,rfl⟩:=mem_cyc.mp r;exact⟨j,by lia,l j (by lia)⟩
 .rintro⟨j,d,rfl⟩;rw[←l j d];exact hU.mem_cyc_it c j
 .obtain⟨j,d,rfl⟩:=mem_cyc.mp r;exact⟨k+j,by lia,by lia,m j (by lia)⟩
 .rintro⟨j,h1,h2,rfl⟩;have s:=m (j-k) (by lia);rw[show k+(j-k)=j by lia]at s;rw[←s];exact hU.mem_cyc_it hb _
theorem L4.one_more (h:L4 n t a b u)(r:b∈cyc t a):(leads u n).length=(leads t n).length+1:=by
 have f:=h.ha;have hb:=h.hb;obtain⟨k,N,U,T,y,A⟩:=h.cut hT hU r;have R:∀x,x∈cyc u a->x∈cyc t a:=λx c=>by
  obtain⟨j,_,rfl⟩:=(y x).mp c;exact hT.mem_cyc_it f j
 have S:∀x,x∈cyc u b->x∈cyc t a:=λx c=>by
  obtain⟨j,_,_,rfl⟩:=(A x).mp c;exact hT.mem_cyc_it f j
 have un:∀x,x∈cyc t a->x∈cyc u a∨x∈cyc u b:=λx c=>by
  obtain⟨j,L,rfl⟩:=mem_cyc.mp c;by_cases q:j<k
  .exact .inl ((y _).mpr ⟨j,q,rfl⟩)
  .exact .inr ((A _).mpr ⟨j,by lia,L,rfl⟩)
 have w:∀x,x∈cyc u a->x∉cyc u b:=λx h1 h2=>by
  obtain⟨i,hi,rfl⟩:=(y x).mp h1;obtain⟨j,M,B,e⟩:=(A _).mp h2;have:=hT.it_eq_iff f (by lia) B e;lia
 have E:=hU.lead_mem f;have F:=hU.lead_mem hb;have lt:=hT.lead_mem f;have mA:=R _ E;have J:=S _ F;have s:Y0 (cyc u a)≠Y0 (cyc u b):=λe=>w _ E (e ▸ F);have G:Y0 (cyc t a)<=Y0 (cyc u a):=Z1 mA;have H:Y0 (cyc t a)<=Y0 (cyc u b):=Z1 J;have K:Y0 (cyc t a)=Y0 (cyc u a)∨Y0 (cyc t a)=Y0 (cyc u b):=by
  rcases un _ lt with z|z
  .exact .inl (cZ G (Z1 z))
  .exact .inr (cZ H (Z1 z))
 have v:∀x,x<n->x∉cyc t a->(isLeast u x=true↔isLeast t x=true):=λx c I=>by
  have O:a∉cyc t x:=λz=>I (hT.cyc_symm c z);have P:b∉cyc t x:=λz=>I (hT.cyc_trans f r (hT.cyc_symm c z));have:=h.cyc_same hT hU c O P;rw[hU.least_iff c,hT.least_iff c,this]
 have l:∀x,x∈cyc t a->(isLeast t x=true↔x=Y0 (cyc t a)):=λx c=>by
  rw[hT.least_iff (hT.cyc_lt f c),hT.lead_eq f c];exact⟨λe=>e.symm,λe=>e.symm⟩
 have o:∀x,x∈cyc t a->(isLeast u x=true↔x=Y0 (cyc u a)∨x=Y0 (cyc u b)):=λx c=>by
  rw[hU.least_iff (hT.cyc_lt f c)];rcases un x c with z|z
  .rw[hU.lead_eq f z];exact⟨λe=>.inl e.symm,λe=>by
    rcases e with e|e
    .exact e.symm
    .exact absurd (e ▸ F) (w x z)⟩
  .rw[hU.lead_eq hb z];exact⟨λe=>.inr e.symm,λe=>by
    rcases e with e|e
    .exact absurd z (w x (e ▸ E))
    .exact e.symm⟩
 have p:∀m,m∈cyc t a->m≠Y0 (cyc t a)->(∀x,(x=Y0 (cyc u a)∨x=Y0 (cyc u b))↔(x=m∨x=Y0 (cyc t a)))->(leads u n).length=(leads t n).length+1:=λm hm D c=>by
  have C:isLeast t m≠true:=λz=>D ((l m hm).mp z);have Q:(m::leads t n).Nodup:=aQ.mpr ⟨λz=>C (zc7.mp z).2,ze7 t n⟩;have:=ys4 (ze7 u n) Q λx=>by
   rw[zc7,ay,zc7];by_cases d:x∈cyc t a
   .have g:=hT.cyc_lt f d;constructor
    .rintro⟨_,h2⟩;rcases (c x).mp ((o x d).mp h2) with e|e
     .exact .inl e
     .exact .inr ⟨g,(l x d).mpr e⟩
    .rintro (e|⟨_,h2⟩)
     .exact⟨g,(o x d).mpr ((c x).mpr (.inl e))⟩
     .exact⟨g,(o x d).mpr ((c x).mpr (.inr ((l x d).mp h2)))⟩
   .constructor
    .rintro⟨h1,h2⟩;exact .inr ⟨h1,(v x h1 d).mp h2⟩
    .rintro (e|⟨h1,h2⟩)
     .exact absurd (e ▸ hm) d
     .exact⟨h1,(v x h1 d).mpr h2⟩
  rw[this];rfl
 rcases K with e|e
 .refine p _ J (λz=>s (e.symm.trans z.symm)) λx=>?_;rw[e];exact⟨λz=>z.symm,λz=>z.symm⟩
 .refine p _ mA (λz=>s (z.trans e)) λx=>?_;rw[e]
theorem L4.parity (h:L4 n t a b u):(leads u n).length % 2≠(leads t n).length % 2:=by
 by_cases c:b∈cyc t a
 .have:=h.one_more hT hU c;lia
 .have:=(h.symm hT hU).one_more hU hT (h.joins hT hU c);lia
end
def evn (t:List Nat)(n:Nat):Bool:=decide (((n:Int)-((leads t n).length:Int)) % 2=0)
theorem L4.evn {n a b:Nat}{t u:List Nat}(hT:IsT n t)(hU:IsT n u)(h:L4 n t a b u):evn u n=!evn t n:=by
 have h1:=h.parity hT hU;unfold TM.evn;by_cases q:((n:Int)-((leads t n).length:Int)) % 2=0
 .rw[decide_eq_true q,decide_eq_false (by lia)];rfl
 .rw[decide_eq_false q,decide_eq_true (by lia)];rfl
theorem D2 (n:Nat):evn (List.range n) n=true:=by
 have hT:=IsT.range n;have e:leads (List.range n) n=List.range n:=by
  unfold leads;refine List.filter_eq_self.mpr λx d=>?_;have a:=av.mp d;have c:∀y,y<n->(List.range n).getD y 0=y:=λy b=>by rw[ae,aD b];rfl
  have hi:∀k,it (List.range n) k x=x:=λk=>by
   induction k with
   | zero=>rfl
   | succ k ih=>rw[K0,ih,c x a]
  unfold isLeast;rw[bu];intro y b;obtain⟨j,_,rfl⟩:=mem_cyc.mp b;rw[hi j];simp
 unfold evn;rw[e,aA,Int.sub_self];rfl
def xch (n a b:Nat):List Nat:=((List.range n).set a b).set b a
theorem I0 {n a b:Nat}(g:a<n)(hb:b<n)(e:a≠b){x:Nat}(h:x<n):(xch n a b)[x]?=some (if x=a then b else if x=b then a else x):=by
 unfold xch;have f:(List.range n).length=n:=aA;by_cases d:x=b
 .subst d;rw[cf (by rw[bD,f];exact hb),if_neg (Ne.symm e),if_pos rfl]
 .rw[bM (Ne.symm d)];by_cases c:x=a
  .subst c;rw[cf (by rw[f];exact g),if_pos rfl]
  .rw[bM (Ne.symm c),aD h,if_neg c,if_neg d]
theorem zy8 (n a b:Nat):(xch n a b).length=n:=by unfold xch;rw[bD,bD,aA]
theorem xr8 {n a b:Nat}(e:a<n)(hb:b<n)(d:a≠b){x:Nat}(f:x∈xch n a b):x<n:=by
 obtain⟨i,hi⟩:=cv f;have c:i<n:=by have:=(aw.mp hi).1;rwa [zy8]at this
 rw[I0 e hb d c]at hi;have:=Option.some.inj hi;rw[←this];split
 .exact hb
 .split
  .exact e
  .exact c
theorem D8 {n a b:Nat}(d:a<n)(hb:b<n)(c:a≠b):IsT n (xch n a b):=by
 refine isT_of (zy8 n a b) ?_ λx h=>xr8 d hb c h;refine bP.mpr λi j hi f g e=>?_;rw[zy8]at hi f;have h1:=(aw.mp (I0 d hb c hi)).2;have h2:=(aw.mp (I0 d hb c f)).2;rw[h1,h2]at e;split at e <;> split at e <;> (try split at e) <;> (try split at e) <;> lia
theorem xj3 {n a b:Nat}{t:List Nat}(hT:IsT n t)(g:a<n)(hb:b<n)(d:a≠b):L4 n t a b (t.map λx=>(xch n a b).getD x 0):=by
 have f:∀x,x<n->(t.map λx=>(xch n a b).getD x 0).getD x 0=if t.getD x 0=a then b else if t.getD x 0=b then a else t.getD x 0:=λx c=>by
  rw[ae,af,hT.get_step c];simp only[cJ,cN];exact getD_of (I0 g hb d (hT.step_lt c))
 refine⟨by rw[aa];exact hT.length,g,hb,d,λx c e=>?_,λx c e=>?_,λx c h i=>?_⟩
 .rw[f x c,if_pos e]
 .rw[f x c,if_neg (λz=>d (z.symm.trans e)),if_pos e]
 .rw[f x c,if_neg h,if_neg i]
end TM
namespace TM
inductive Ln where
 | still|told (k:Nat)|behind (i j:Nat)|back (i:Nat)
 deriving DecidableEq
def comp (s t:List Nat):List Nat:=s.map λx=>t.getD x 0
end TM
namespace TM
def beh (t u:List Nat):List Nat:=t.map λx=>u.getD x 0
def bk (n:Nat)(t:List Nat):List Nat:=(List.range n).map λy=>t.idxOf y
theorem IsT.beh {n:Nat}{t u:List Nat}(ht:IsT n t)(hu:IsT n u):IsT n (TM.beh t u):=IsT.map ht hu
theorem beh_get {n:Nat}{t u:List Nat}(a:IsT n t){x:Nat}(b:x<n):(TM.beh t u).getD x 0=u.getD (t.getD x 0) 0:=by
 unfold TM.beh;rw[ae,af,a.get_step b];rfl
theorem still_get {n x:Nat}(a:x<n):(List.range n).getD x 0=x:=by
 rw[ae,aD a];rfl
theorem d3 {n:Nat}{a b:List Nat}(c:IsT n a)(hb:IsT n b)(h:∀x,x<n->a.getD x 0=b.getD x 0):a=b:=by
 apply cK;intro i;by_cases hi:i<n
 .rw[c.get_step hi,hb.get_step hi,h i hi]
 .rw[aR (by rw[c.length];lia),aR (by rw[hb.length];lia)]
theorem p0 {n:Nat}{a b c:List Nat}(ha:IsT n a)(hb:IsT n b)(hc:IsT n c):beh (beh a b) c=beh a (beh b c) :=
 d3 ((ha.beh hb).beh hc) (ha.beh (hb.beh hc)) λx hx=>by rw[beh_get (ha.beh hb) hx,beh_get ha hx,beh_get ha hx,beh_get hb (ha.step_lt hx)]
theorem still_beh {n:Nat}{t:List Nat}(ht:IsT n t):beh (List.range n) t=t :=
 d3 ((IsT.range n).beh ht) ht λx hx=>by rw[beh_get (IsT.range n) hx,still_get hx]
theorem beh_still {n:Nat}{t:List Nat}(ht:IsT n t):beh t (List.range n)=t :=
 d3 (ht.beh (IsT.range n)) ht λx hx=>by rw[beh_get ht hx,still_get (ht.step_lt hx)]
theorem idxOf_at:∀{l:List Nat} {i x:Nat},l.Nodup->l[i]?=some x->l.idxOf x=i
 | a::r,0,x,_,h=>by
  obtain rfl:a=x:=by simpa using h
  exact List.idxOf_cons_self
 | a::r,i+1,x,hn,h=>by
  have h':r[i]?=some x:=by simpa using h
  have b:a≠x:=λe=>(aQ.mp hn).1 (e ▸ ax h')
  have ih:=idxOf_at (aQ.mp hn).2 h'
  rw[List.idxOf_cons,show(a==x)=false from beq_eq_false_iff_ne.mpr b]
  show r.idxOf x+1=i+1
  rw[ih]
theorem P5 {n:Nat}{t:List Nat}(a:IsT n t){x:Nat}(b:x<n):(bk n t).getD (t.getD x 0) 0=x:=by
 unfold bk;rw[ae,af,aD (a.step_lt b)];exact idxOf_at a.nodup (a.get_step b)
theorem bk_back {n:Nat}{t:List Nat}(a:IsT n t):Back n t n (bk n t):=by
 refine⟨by unfold bk;rw[aa,aA],λx y c b=>?_⟩;unfold bk;rw[af,aD (a.get_lt b)];exact congrArg some (idxOf_at a.nodup b)
theorem IsT.bk {n:Nat}{t:List Nat}(ht:IsT n t):IsT n (TM.bk n t):=(bk_back ht).isT ht
theorem N5 {n:Nat}{t:List Nat}(ht:IsT n t):beh t (bk n t)=List.range n :=
 d3 (ht.beh ht.bk) (IsT.range n) λx hx=>by rw[beh_get ht hx,P5 ht hx,still_get hx]
theorem zu1 {n:Nat}{t:List Nat}(b:IsT n t){y:Nat}(d:y<n):t.getD ((bk n t).getD y 0) 0=y:=by
 obtain⟨x,c,a⟩:=b.hit d;have e:=getD_of c;rw[←e,P5 b a]
theorem zb9 {n:Nat}{t:List Nat}(ht:IsT n t):beh (bk n t) t=List.range n :=
 d3 (ht.bk.beh ht) (IsT.range n) λx hx=>by rw[beh_get ht.bk hx,zu1 ht hx,still_get hx]
theorem yv4 {n:Nat}{t:List Nat}(a:IsT n t):bk n (bk n t)=t:=by
 have h:=p0 a a.bk a.bk.bk;rw[N5 a,N5 a.bk,beh_still a,still_beh a.bk.bk]at h;exact h
theorem zt1 {n:Nat}{a b:List Nat}(ha:IsT n a)(hb:IsT n b):bk n (beh a b)=beh (bk n b) (bk n a) :=
 ((bk_back (ha.beh hb)).uniq (ha.beh hb) ((bk_back ha).comp ha hb (bk_back hb)))
theorem bk_still (n:Nat):bk n (List.range n)=List.range n:=(bk_back (IsT.range n)).uniq (IsT.range n) (Back.range n)
theorem L7 {n:Nat}{a b u:List Nat}(d:IsT n a)(hb:IsT n b)(c:IsT n u)(h:beh a u=beh b u):a=b:=by
 have e:=congrArg (λz=>beh z (bk n u)) h;rwa [p0 d c c.bk,p0 hb c c.bk,N5 c,beh_still d,beh_still hb]at e
theorem N2 {n:Nat}{a b u:List Nat}(d:IsT n a)(hb:IsT n b)(c:IsT n u)(h:beh u a=beh u b):a=b:=by
 have e:=congrArg (λz=>beh (bk n u) z) h;rwa [←p0 c.bk c d,←p0 c.bk c hb,zb9 c,still_beh d,still_beh hb]at e
theorem zk0 {n:Nat}{x u:List Nat}(b:IsT n x)(a:IsT n u):beh (beh x (bk n u)) u=x:=by rw[p0 b a.bk a,zb9 a,beh_still b]
theorem yi1 {n:Nat}{x u:List Nat}(b:IsT n x)(a:IsT n u):beh (beh x u) (bk n u)=x:=by rw[p0 b a a.bk,N5 a,beh_still b]
inductive Grp (n:Nat) (S:List Nat->Prop):List Nat->Prop
 | one:Grp n S (List.range n)
 | mul {a s:List Nat}:Grp n S a->S s->Grp n S (beh a s)
 | inv {a s:List Nat}:Grp n S a->S s->Grp n S (beh a (bk n s))
section
variable {n:Nat}{S S':List Nat->Prop}(hS:∀s,S s->IsT n s)
include hS
theorem Grp.isT {a:List Nat}(h:Grp n S a):IsT n a:=by
 induction h with
 | one=>exact IsT.range n
 | mul _ hs ih=>exact ih.beh (hS _ hs)
 | inv _ hs ih=>exact ih.beh (hS _ hs).bk
theorem Grp.of {s:List Nat}(h:S s):Grp n S s:=by
 have:=Grp.mul (n:=n) (S:=S) .one h;rwa [still_beh (hS s h)]at this
theorem Grp.beh {a b:List Nat}(d:Grp n S a)(hb:Grp n S b):Grp n S (TM.beh a b):=by
 have c:=d.isT hS
 induction hb with
 | one=>rw[beh_still c];exact d
 | mul h hs ih=>rw[←p0 c (h.isT hS) (hS _ hs)];exact .mul ih hs
 | inv h hs ih=>rw[←p0 c (h.isT hS) (hS _ hs).bk];exact .inv ih hs
theorem Grp.bk {a:List Nat}(b:Grp n S a):Grp n S (TM.bk n a):=by
 induction b with
 | one=>rw[bk_still];exact .one
 | mul h hs ih =>
  rw[zt1 (h.isT hS) (hS _ hs)];refine Grp.beh hS ?_ ih;have:=Grp.inv (n:=n) (S:=S) .one hs;rwa [still_beh (hS _ hs).bk]at this
 | inv h hs ih =>
  rw[zt1 (h.isT hS) (hS _ hs).bk,yv4 (hS _ hs)];exact Grp.beh hS (Grp.of hS hs) ih
omit hS in
theorem Grp.mono {a:List Nat}(b:∀s,S' s->IsT n s)(h:∀s,S s->Grp n S' s)(c:Grp n S a):Grp n S' a:=by
 induction c with
 | one=>exact .one
 | mul _ hs ih=>exact Grp.beh b ih (h _ hs)
 | inv _ hs ih=>exact Grp.beh b ih (Grp.bk b (h _ hs))
omit hS in
theorem Grp.keeps {P:List Nat->Prop}(h1:P (List.range n))(hm:∀a s,P a->S s->P (TM.beh a s))(hi:∀a s,P a->S s->P (TM.beh a (TM.bk n s))){a:List Nat}(b:Grp n S a):P a:=by
 induction b with
 | one=>exact h1
 | mul _ hs ih=>exact hm _ _ ih hs
 | inv _ hs ih=>exact hi _ _ ih hs
end
def Fix (j:Nat)(t:List Nat):Prop:=∀x,x<j->t.getD x 0=x
theorem Fix.zero (t:List Nat):Fix 0 t:=λ_ h=>absurd h (bO _)
theorem Fix.still {n j:Nat}(hj:j<=n):Fix j (List.range n):=λx hx=>still_get (by lia)
theorem Fix.beh {n j:Nat}{a b:List Nat}(hj:j<=n)(hA:IsT n a)(ha:Fix j a)(hb:Fix j b):Fix j (TM.beh a b):=λx hx=>by rw[beh_get hA (by lia),ha x hx,hb x hx]
theorem Fix.bk {n j:Nat}{a:List Nat}(hj:j<=n)(hA:IsT n a)(ha:Fix j a):Fix j (TM.bk n a):=λx hx=>by
 have h:=P5 hA (show x<n by lia)
 rwa [ha x hx]at h
theorem Fix.all {n:Nat}{a:List Nat}(hA:IsT n a)(h:Fix n a):a=List.range n:=d3 hA (IsT.range n) λx hx=>by rw[h x hx,still_get hx]
theorem Grp.fix {n j:Nat}{S:List Nat->Prop}(hS:∀s,S s->IsT n s)(b:j<=n)(c:∀s,S s->Fix j s){a:List Nat}(d:Grp n S a):Fix j a:=by
 induction d with
 | one=>exact Fix.still b
 | mul h hs ih=>exact Fix.beh b (h.isT hS) ih (c _ hs)
 | inv h hs ih=>exact Fix.beh b (h.isT hS) ih (Fix.bk b (hS _ hs) (c _ hs))
end TM
namespace TM
structure Chn where
 mv:Nat->List Nat->Prop
 ring:Nat->List Nat
 up:Nat->Nat->List Nat
structure Chn.Ok (n:Nat) (C:Chn):Prop where
 mvT:∀j s,C.mv j s->IsT n s
 mvF:∀j s,C.mv j s->Fix j s
 down:∀j s,C.mv (j+1) s->Grp n (C.mv j) s
 top:∀j s,n<=j->¬C.mv j s
 nd:∀j,j<n->(C.ring j).Nodup
 lt:∀j p,j<n->p∈C.ring j->p<n
 own:∀j,j<n->j∈C.ring j
 upG:∀j p,j<n->p∈C.ring j->Grp n (C.mv j) (C.up j p)
 upTo:∀j p,j<n->p∈C.ring j->(C.up j p).getD j 0=p
 upOwn:∀j,j<n->C.up j j=List.range n
def Chn.Shut (n:Nat)(C:Chn)(j:Nat):Prop:=∀p,p∈C.ring j->∀s,C.mv j s->s.getD p 0∈C.ring j/\Grp n (C.mv (j+1)) (beh (beh (C.up j p) s) (bk n (C.up j (s.getD p 0))))
def Chn.Sif (n:Nat)(C:Chn):Nat->List Nat->Prop
 | 0,_=>True
 | d+1,x=>x.getD (n-(d+1)) 0∈C.ring (n-(d+1))/\Chn.Sif n C d (beh x (bk n (C.up (n-(d+1)) (x.getD (n-(d+1)) 0))))
section
variable {n:Nat}{C:Chn}(ok:C.Ok n)
include ok
theorem Chn.Ok.upT {j p:Nat}(hj:j<n)(hp:p∈C.ring j):IsT n (C.up j p):=(ok.upG j p hj hp).isT (ok.mvT j)
theorem Chn.Ok.upF {j p:Nat}(hj:j<n)(hp:p∈C.ring j):Fix j (C.up j p):=(ok.upG j p hj hp).fix (ok.mvT j) (cu hj) (ok.mvF j)
theorem Chn.Ok.off {j:Nat}{x:List Nat}(a:j<n)(f:IsT n x)(g:Fix j x)(c:x.getD j 0∈C.ring j):IsT n (beh x (bk n (C.up j (x.getD j 0))))/\Fix (j+1) (beh x (bk n (C.up j (x.getD j 0)))):=by
 have d:=ok.upT a c;refine⟨f.beh d.bk,λy i=>?_⟩;rw[beh_get f (by lia)];by_cases e:y=j
 .subst e;have h:=P5 d a;rw[ok.upTo y _ a c]at h;exact h
 .have b:y<j:=by lia
  rw[g y b];exact Fix.bk (cu a) d (ok.upF a c) y b
theorem Chn.Ok.sound:∀(d:Nat) (x:List Nat),d<=n->IsT n x->Fix (n-d) x->C.Sif n d x->Grp n (C.mv (n-d)) x
 | 0,x,_,hx,hf,_=>by
  rw[eC]at hf ⊢
  rw[Fix.all hx hf]
  exact .one
 | d+1,x,hd,hx,hf,h=>by
  have hj:n-(d+1)<n:=by lia
  obtain⟨b,hs⟩:=h
  obtain⟨c,a⟩:=ok.off hj hx hf b
  have e:n-(d+1)+1=n-d:=by lia
  rw[e]at a
  have ih:=Chn.Ok.sound d _ (by lia) c a hs
  rw[←e]at ih
  have g:=Grp.mono (ok.mvT _) (ok.down _) ih
  have r:=Grp.beh (ok.mvT _) g (ok.upG _ _ hj b)
  rwa [zk0 hx (ok.upT hj b)]at r
theorem Chn.Ok.parts {j:Nat}(g:j<n)(sh:C.Shut n j){x:List Nat}(w:Grp n (C.mv j) x):∃p h,p∈C.ring j/\Grp n (C.mv (j+1)) h/\x=beh h (C.up j p):=by
 have hS:=ok.mvT j;have d:=ok.mvT (j+1)
 induction w with
 | one=>exact⟨j,_,ok.own j g,.one,by rw[ok.upOwn j g,still_beh (IsT.range n)]⟩
 | mul hg hs ih =>
  rename_i a s;obtain⟨p,h,o,m,rfl⟩:=ih;obtain⟨k,l⟩:=sh p o s hs;have f:=m.isT d;have i:=ok.upT g o;have c:=ok.upT g k;refine⟨_,_,k,Grp.beh d m l,?_⟩;rw[p0 f ((i.beh (hS s hs)).beh c.bk) c,zk0 (i.beh (hS s hs)) c,p0 f i (hS s hs)]
 | inv hg hs ih =>
  rename_i a s;obtain⟨p,h,o,m,rfl⟩:=ih;have b:=hS s hs;obtain⟨q,k,e⟩:∃q∈C.ring j,s.getD q 0=p:=by
   have r:((C.ring j).map λq=>s.getD q 0).Nodup:=aZ.mpr (List.Pairwise.imp_of_mem (λv hb t z=>t (b.step_inj (ok.lt j _ g v) (ok.lt j _ g hb) z)) (ok.nd j g));have u:=W8 r (λy A=>by
    obtain⟨q,k,rfl⟩:=az.mp A
    exact(sh q k s hs).1) (by rw[aa];exact aq _)
   exact az.mp (u.mem_iff.mpr o)
  subst e;obtain⟨_,l⟩:=sh q k s hs;have f:=m.isT d;have i:=ok.upT g o;have c:=ok.upT g k;refine⟨q,_,k,Grp.beh d m (Grp.bk d l),?_⟩;rw[zt1 (c.beh b) i.bk,yv4 i,zt1 c b,p0 f (i.beh (b.bk.beh c.bk)) c,p0 i (b.bk.beh c.bk) c,p0 b.bk c.bk c,zb9 c,beh_still b.bk,p0 f i b.bk]
theorem Chn.Ok.complete:∀(d:Nat) (x:List Nat),d<=n->(∀j,n-d<=j->j<n->C.Shut n j)->Grp n (C.mv (n-d)) x->C.Sif n d x
 | 0,_,_,_,_=>trivial
 | d+1,x,hd,sh,hx=>by
  have hj:n-(d+1)<n:=by lia
  have e:n-(d+1)+1=n-d:=by lia
  obtain⟨p,h,c,b,rfl⟩:=ok.parts hj (sh _ (aq _) hj) hx
  have a:=b.isT (ok.mvT _)
  have g:=b.fix (ok.mvT _) (by lia) (ok.mvF _)
  have k:=ok.upT hj c
  have f:(beh h (C.up (n-(d+1)) p)).getD (n-(d+1)) 0=p:=by
   rw[beh_get a hj,g _ (by lia),ok.upTo _ _ hj c]
  refine⟨by rw[f];exact c,?_⟩
  rw[f,yi1 a k]
  rw[e]at b
  exact Chn.Ok.complete d h (by lia) (λi hi=>sh i (by lia)) b
theorem Chn.Ok.sift {d:Nat}{x:List Nat}(hd:d<=n)(hx:IsT n x)(hf:Fix (n-d) x)(sh:∀j,n-d<=j->j<n->C.Shut n j):C.Sif n d x↔Grp n (C.mv (n-d)) x :=
 ⟨ok.sound d x hd hx hf,ok.complete d x hd sh⟩
theorem Chn.Ok.genF {j:Nat}(hj:j<=n){x:List Nat}(hx:Grp n (C.mv j) x):Fix j x:=hx.fix (ok.mvT j) hj (ok.mvF j)
end
def Indep (n:Nat)(l:List (List Nat)):Prop:=∀i s,l[i]?=some s->¬Grp n (λz=>z∈l.take i) s
theorem Indep.snoc {n:Nat}{l:List (List Nat)}{s:List Nat}(h:Indep n l)(hs:¬Grp n (λz=>z∈l) s):Indep n (l++[s]):=λi z hz hg=>by
 by_cases hi:i<l.length
 .rw[bd hi]at hz
  rw[bS (cu hi)]at hg
  exact h i z hz hg
 .have:i=l.length:=by
   have:=(aw.mp hz).1
   rw[ag,bK]at this
   lia
  subst this
  rw[bo (aq _),ci]at hz
  obtain rfl:s=z:=by simpa using hz
  rw[bS (aq _),aT]at hg
  exact hs hg
theorem Indep.init {n:Nat}{l:List (List Nat)}{s:List Nat}(h:Indep n (l++[s])):Indep n l/\¬Grp n (λz=>z∈l) s:=by
 refine⟨λi z b a=>?_,λa=>?_⟩
 .have hi:=(aw.mp b).1;refine h i z (by rw[bd hi];exact b) ?_;rw[bS (cu hi)];exact a
 .refine h l.length s (by rw[bo (aq _),ci];rfl) ?_;rw[bS (aq _),aT];exact a
theorem zj1 {n:Nat}:∀(k:Nat) (l:List (List Nat)),l.length=k->(∀s∈l,IsT n s)->Indep n l->∃L:List (List Nat),L.Nodup/\(∀x∈L,Grp n (λz=>z∈l) x)/\L.length=2 ^ k
 | 0,l,_,_,_=>⟨[List.range n],by simp,λx hx=>by rw[ar.mp hx];exact .one,rfl⟩
 | k+1,l,hl,hT,hI=>by
  have hne:l≠[]:=λe=>by rw[e]at hl;cases hl
  obtain⟨l0,s,rfl⟩:∃l0 s,l=l0++[s]:=⟨l.dropLast,l.getLast hne,(List.dropLast_concat_getLast hne).symm⟩
  rw[ag,bK]at hl
  obtain⟨hI0,hs⟩:=hI.init
  have hT0:∀z∈l0,IsT n z:=λz hz=>hT z (bg _ hz)
  have hsT:IsT n s:=hT s (by simp)
  obtain⟨L,hnd,hG,hLl⟩:=zj1 k l0 (by lia) hT0 hI0
  have up:∀x,Grp n (λz=>z∈l0) x->Grp n (λz=>z∈l0++[s]) x:=λx hx=>Grp.mono (λz hz=>hT z hz) (λz hz=>Grp.of (λz hz=>hT z hz) (bg _ hz)) hx
  refine⟨L++L.map λx=>beh x s,?_,λx hx=>?_,by rw[ag,aa,hLl,fB];lia⟩
  .refine bj.mpr ⟨hnd,aZ.mpr (List.Pairwise.imp_of_mem (λha hb hne z=>hne (L7 ((hG _ ha).isT hT0) ((hG _ hb).isT hT0) hsT z)) hnd),λa ha b hb e=>?_⟩
   obtain⟨c,hc,rfl⟩:=az.mp hb
   subst e
   have hcT:=(hG c hc).isT hT0
   have g:=Grp.beh hT0 (Grp.bk hT0 (hG c hc)) (hG _ ha)
   rw[←p0 hcT.bk hcT hsT,zb9 hcT,still_beh hsT]at g
   exact hs g
  .rcases aI.mp hx with h|h
   .exact up x (hG x h)
   .obtain⟨c,hc,rfl⟩:=az.mp h
    exact .mul (up c (hG c hc)) (by simp)
def num (n:Nat):List Nat->Nat
 | []=>0
 | x::r=>x+n*num n r
theorem xa0 {n:Nat}:∀{l:List Nat},(∀x∈l,x<n)->num n l<n ^ l.length
 | [],_=>by simp[num]
 | x::r,h=>by
  have ih:=xa0 (l:=r) λy hy=>h y (ah _ hy)
  have hx:=h x ao
  rw[num,aC,fB,cj (n ^ r.length) n]
  have:n*(num n r+1)<=n*n ^ r.length:=Nat.mul_le_mul_left n ih
  rw[Nat.mul_add,dH]at this
  lia
theorem yn1 {n:Nat}:∀{l m:List Nat},(∀x∈l,x<n)->(∀x∈m,x<n)->l.length=m.length->num n l=num n m->l=m
 | [],[],_,_,_,_=>rfl
 | x::r,y::q,h1,h2,hl,e=>by
  have hx:=h1 x ao
  have hy:=h2 y ao
  rw[num,num]at e
  have e1:x=y:=by
   have:=congrArg (· % n) e
   simpa[Nat.add_mul_mod_self_left,bZ hx,bZ hy] using this
  subst e1
  have e2:n*num n r=n*num n q:=by lia
  have e3:=Nat.eq_of_mul_eq_mul_left (by lia) e2
  rw[yn1 (λz hz=>h1 z (ah _ hz)) (λz hz=>h2 z (ah _ hz)) (by simpa using hl) e3]
 | [],_::_,_,_,hl,_=>by cases hl
 | _::_,[],_,_,hl,_=>by cases hl
theorem nodup_below {l:List Nat}{M:Nat}(h:l.Nodup)(hl:∀x∈l,x<M):l.length<=M:=by
 rcases fD l.length M with q|q
 .exact q
 .have p:=W8 h (l:=List.range M) (λx a=>av.mpr (hl x a)) (by rw[aA];exact q);rw[p.length_eq,aA];exact aq _
theorem zy5 {n:Nat}{L:List (List Nat)}(h:L.Nodup)(hT:∀t∈L,IsT n t):L.length<=n ^ n:=by
 have h1:(L.map (num n)).Nodup:=aZ.mpr (List.Pairwise.imp_of_mem (λc hb b z=>b (yn1 (λx a=>(hT _ c).lt a) (λx a=>(hT _ hb).lt a) (by rw[(hT _ c).length,(hT _ hb).length]) z)) h);have h2:=nodup_below (M:=n ^ n) h1 λx a=>by
  obtain⟨t,d,rfl⟩:=az.mp a;have:=xa0 (n:=n) (l:=t) λy e=>(hT t d).lt e;rwa [(hT t d).length]at this
 rwa [aa]at h2
set_option exponentiation.threshold 1000 in
theorem indep_few {n:Nat}(a:n<=60){l:List (List Nat)}(hT:∀s∈l,IsT n s)(d:Indep n l):l.length<=354:=by
 obtain⟨L,h1,h2,b⟩:=zj1 l.length l rfl hT d;have c:=zy5 h1 λt e=>(h2 t e).isT hT;rw[b]at c;have f:n ^ n<=60 ^ 60:=aM (Nat.pow_le_pow_left a n) (fG (by decide) a);have g:(60:Nat) ^ 60<2 ^ 355:=by decide
 rcases fC 354 l.length with q|q
 .have:=fG (show 0<2 by decide) (show 355<=l.length from q);lia
 .exact q
end TM
namespace TM
def Chn.Good (n:Nat)(C:Chn)(j p:Nat)(s:List Nat):Prop:=s.getD p 0∈C.ring j/\Grp n (C.mv (j+1)) (beh (beh (C.up j p) s) (bk n (C.up j (s.getD p 0))))
structure Chn.MoreP (n:Nat) (C C':Chn) (j q:Nat) (t:List Nat):Prop where
 hj:j<n
 hq:q∉C.ring j
 hqn:q<n
 gt:Grp n (C.mv j) t
 ht:t.getD j 0=q
 emv:C'.mv=C.mv
 er:C'.ring j=C.ring j++[q]
 er':∀i,i≠j->C'.ring i=C.ring i
 eu:∀p,p≠q->C'.up j p=C.up j p
 eq:C'.up j q=t
 eu':∀i,i≠j->C'.up i=C.up i
theorem Chn.MoreP.sub {n:Nat}{C C':Chn}{j q:Nat}{t:List Nat}(m:Chn.MoreP n C C' j q t){i p:Nat}(a:p∈C.ring i):p∈C'.ring i/\C'.up i p=C.up i p:=by
 by_cases e:i=j
 .subst e;exact⟨by rw[m.er];exact bg _ a,m.eu p λz=>m.hq (z ▸ a)⟩
 .exact⟨by rw[m.er' i e];exact a,by rw[m.eu' i e]⟩
theorem Chn.MoreP.cases {n:Nat}{C C':Chn}{j q:Nat}{t:List Nat}(m:Chn.MoreP n C C' j q t){i p:Nat}(a:p∈C'.ring i):p∈C.ring i∨(i=j/\p=q):=by
 by_cases e:i=j
 .subst e;rw[m.er]at a;rcases aI.mp a with h|h
  .exact .inl h
  .exact .inr ⟨rfl,ar.mp h⟩
 .rw[m.er' i e]at a;exact .inl a
theorem Chn.MoreP.ok {n:Nat}{C C':Chn}{j q:Nat}{t:List Nat}(m:Chn.MoreP n C C' j q t)(ok:C.Ok n):C'.Ok n where
 mvT:=by rw[m.emv];exact ok.mvT
 mvF:=by rw[m.emv];exact ok.mvF
 down:=by rw[m.emv];exact ok.down
 top:=by rw[m.emv];exact ok.top
 nd i hi:=by
  by_cases e:i=j
  .subst e
   rw[m.er]
   refine bj.mpr ⟨ok.nd i hi,by simp,λa c b hb e=>m.hq ?_⟩
   rw[←ar.mp hb,←e]
   exact c
  .rw[m.er' i e];exact ok.nd i hi
 lt i p hi hp:=by
  rcases m.cases hp with h|⟨_,h⟩
  .exact ok.lt i p hi h
  .rw[h];exact m.hqn
 own i hi:=(m.sub (ok.own i hi)).1
 upG i p hi hp:=by
  rw[m.emv]
  rcases m.cases hp with h|⟨h1,h2⟩
  .rw[(m.sub h).2];exact ok.upG i p hi h
  .rw[h1,h2,m.eq];exact m.gt
 upTo i p hi hp:=by
  rcases m.cases hp with h|⟨h1,h2⟩
  .rw[(m.sub h).2];exact ok.upTo i p hi h
  .rw[h1,h2,m.eq];exact m.ht
 upOwn i hi:=by rw[(m.sub (ok.own i hi)).2];exact ok.upOwn i hi
theorem Chn.MoreP.good {n:Nat}{C C':Chn}{j q:Nat}{t:List Nat}(m:Chn.MoreP n C C' j q t){i p:Nat}{s:List Nat}(a:p∈C.ring i)(g:C.Good n i p s):C'.Good n i p s:=by
 refine⟨(m.sub g.1).1,?_⟩;rw[m.emv,(m.sub a).2,(m.sub g.1).2];exact g.2
theorem Chn.MoreP.new {n:Nat}{C C':Chn}{j q:Nat}{t:List Nat}(m:Chn.MoreP n C C' j q t)(ok:C.Ok n){p:Nat}{s:List Nat}(a:p∈C.ring j)(hs:C.mv j s)(e:t=beh (C.up j p) s):C'.Good n j p s:=by
 have b:=ok.upT m.hj a;have es:s.getD p 0=q:=by
  have h:=m.ht;rw[e,beh_get b m.hj,ok.upTo j p m.hj a]at h;exact h
 unfold Chn.Good;rw[es];refine⟨by rw[m.er];simp,?_⟩;rw[m.eq,(m.sub a).2,e,N5 (b.beh (ok.mvT j s hs))];exact .one
structure Chn.MoreM (n:Nat) (C C':Chn) (i:Nat) (t:List Nat):Prop where
 hi:i<n
 tT:IsT n t
 tF:Fix i t
 dn:∀h,h+1=i->Grp n (C.mv h) t
 emv:∀h s,C'.mv h s↔(C.mv h s∨(h=i/\s=t))
 er:C'.ring=C.ring
 eu:C'.up=C.up
section
variable {n:Nat}{C C':Chn}{i:Nat}{t:List Nat}
theorem Chn.MoreM.mvT (m:Chn.MoreM n C C' i t)(ok:C.Ok n)(h:Nat)(s:List Nat)(hs:C'.mv h s):IsT n s:=by
 rcases (m.emv h s).mp hs with q|⟨_,q⟩
 .exact ok.mvT h s q
 .rw[q];exact m.tT
theorem Chn.MoreM.grp (m:Chn.MoreM n C C' i t)(ok:C.Ok n){h:Nat}{s:List Nat}(hs:Grp n (C.mv h) s):Grp n (C'.mv h) s:=Grp.mono (m.mvT ok h) (λz hz=>Grp.of (m.mvT ok h) ((m.emv h z).mpr (.inl hz))) hs
theorem Chn.MoreM.ok (m:Chn.MoreM n C C' i t)(ok:C.Ok n):C'.Ok n where
 mvT:=m.mvT ok
 mvF h s hs:=by
  rcases (m.emv h s).mp hs with q|⟨e,q⟩
  .exact ok.mvF h s q
  .rw[q,e];exact m.tF
 down h s hs:=by
  rcases (m.emv _ s).mp hs with q|⟨e,q⟩
  .exact m.grp ok (ok.down h s q)
  .rw[q];exact m.grp ok (m.dn h e)
 top h s hn hs:=by
  rcases (m.emv h s).mp hs with q|⟨e,q⟩
  .exact ok.top h s hn q
  .have:=m.hi;lia
 nd:=by rw[m.er];exact ok.nd
 lt:=by rw[m.er];exact ok.lt
 own:=by rw[m.er];exact ok.own
 upG h p hh hp:=by
  rw[m.er]at hp;rw[m.eu];exact m.grp ok (ok.upG h p hh hp)
 upTo:=by rw[m.er,m.eu];exact ok.upTo
 upOwn:=by rw[m.eu];exact ok.upOwn
theorem Chn.MoreM.good (m:Chn.MoreM n C C' i t)(ok:C.Ok n){h p:Nat}{s:List Nat}(g:C.Good n h p s):C'.Good n h p s:=by
 unfold Chn.Good;rw[m.er,m.eu];exact⟨g.1,m.grp ok g.2⟩
theorem Chn.MoreM.new {j:Nat}(m:Chn.MoreM n C C' (j+1) t)(ok:C.Ok n){p:Nat}{s:List Nat}(a:s.getD p 0∈C.ring j)(e:t=beh (beh (C.up j p) s) (bk n (C.up j (s.getD p 0)))):C'.Good n j p s:=by
 unfold Chn.Good;rw[m.er,m.eu];refine⟨a,?_⟩;rw[←e];exact Grp.of (m.mvT ok _) ((m.emv _ t).mpr (.inr ⟨rfl,rfl⟩))
theorem Chn.Ok.schreier (ok:C.Ok n){j p:Nat}{s:List Nat}(a:j<n)(b:p∈C.ring j)(hs:C.mv j s)(c:s.getD p 0∈C.ring j):Grp n (C.mv j) (beh (beh (C.up j p) s) (bk n (C.up j (s.getD p 0))))/\Fix (j+1) (beh (beh (C.up j p) s) (bk n (C.up j (s.getD p 0)))):=by
 have hS:=ok.mvT j;have d:=ok.upT a b;have g:Grp n (C.mv j) (beh (C.up j p) s):=.mul (ok.upG j p a b) hs;refine⟨Grp.beh hS g (Grp.bk hS (ok.upG j _ a c)),?_⟩;have e:(beh (C.up j p) s).getD j 0=s.getD p 0:=by rw[beh_get d a,ok.upTo j p a b]
 have h:=(ok.off a (d.beh (hS s hs)) (g.fix hS (cu a) (ok.mvF j)) (by rw[e];exact c)).2;rwa [e]at h
end
end TM
namespace TM
def Chn.many (n:Nat)(C:Chn):Nat->Nat
 | 0=>1
 | d+1=>(C.ring (n-(d+1))).length*Chn.many n C d
section
variable {n:Nat}{C:Chn}(ok:C.Ok n)
include ok
theorem Chn.Ok.ring_iff {j:Nat}(a:j<n)(sh:C.Shut n j)(p:Nat):p∈C.ring j↔∃x,Grp n (C.mv j) x/\x.getD j 0=p:=by
 refine⟨λh=>⟨_,ok.upG j p a h,ok.upTo j p a h⟩,λ⟨x,d,e⟩=>?_⟩;obtain⟨q,h,c,b,rfl⟩:=ok.parts a sh d;rw[beh_get (b.isT (ok.mvT _)) a,ok.genF (Nat.succ_le_of_lt a) b _ (cQ _),ok.upTo j q a c]at e;exact e ▸ c
end
section
variable {n:Nat}{t:List Nat}(hT:IsT n t)
include hT
theorem IsT.pwT_isT (m:Int):IsT n (pwT t m):=by
 refine isT_of (hT.pwT_len m) ?_ λx j=>?_
 .refine aZ.mpr (List.Pairwise.imp_of_mem (λh hb e z=>e ?_) aN);rename_i a b;have c:a<n:=by rw[←hT.length];exact av.mp h
  have d:b<n:=by rw[←hT.length];exact av.mp hb
  have f:=congrArg (pw t (-m)) z;rw[hT.pw_pw _ _ c,hT.pw_pw _ _ d,Int.add_right_neg]at f;have g:∀y,y<n->pw t 0 y=y:=λy k=>by
   unfold pw;rw[Int.zero_emod];rfl
  rw[g a c,g b d]at f;exact f
 .obtain⟨i,hi,rfl⟩:=az.mp j;exact hT.pw_lt m (by rw[←hT.length];exact av.mp hi)
theorem IsT.pwT_beh (a b:Int):TM.beh (pwT t a) (pwT t b)=pwT t (a+b):=hT.pwT_comp a b
theorem IsT.pwT_bk (m:Int):TM.bk n (pwT t m)=pwT t (-m):=by
 have a:=hT.pwT_isT m;have e:=hT.pwT_beh m (-m);rw[Int.add_right_neg,←hT.pwT_zero]at e;have b:=N5 a;exact N2 a.bk (hT.pwT_isT _) a (b.trans e.symm)
theorem IsT.grp_one {S:List Nat->Prop}(h1:Grp n S t)(hS:∀s,S s->s=t∨s=List.range n)(x:List Nat):Grp n S x↔∃m:Int,x=pwT t m:=by
 have b:∀s,S s->IsT n s:=λs hs=>by
  rcases hS s hs with e|e
  .rw[e];exact hT
  .rw[e];exact IsT.range n
 have d:∀s,S s->∃m:Int,s=pwT t m:=λs hs=>by
  rcases hS s hs with e|e
  .exact⟨1,by rw[e];exact hT.pwT_one⟩
  .exact⟨0,by rw[e];exact hT.pwT_zero⟩
 constructor
 .intro h;refine Grp.keeps (P:=λx=>∃m:Int,x=pwT t m) ⟨0,hT.pwT_zero⟩ (λa s c hs=>?_) (λa s c hs=>?_) h
  .obtain⟨m,rfl⟩:=c;obtain⟨k,rfl⟩:=d s hs;exact⟨_,hT.pwT_beh m k⟩
  .obtain⟨m,rfl⟩:=c;obtain⟨k,rfl⟩:=d s hs;exact⟨m + -k,by rw[hT.pwT_bk,hT.pwT_beh]⟩
 .rintro⟨m,rfl⟩;have f:∀k:Nat,Grp n S (pwT t (k:Int)):=λk=>by
   induction k with
   | zero =>
    have:=hT.pwT_zero;show Grp n S (pwT t 0);rw[←this];exact .one
   | succ k ih =>
    have e:=hT.pwT_beh (k:Int) 1;rw[←hT.pwT_one]at e;rw[show((k+1:Nat):Int)=(k:Int)+1 from rfl,←e];exact Grp.beh b ih h1
  rcases Int.eq_nat_or_neg m with⟨k,rfl|rfl⟩
  .exact f k
  .rw[←hT.pwT_bk];exact Grp.bk b (f k)
end
end TM
namespace TM
theorem yc8 {α:Type}[DecidableEq α]:∀{t l:List α},t.Nodup->(∀x∈t,x∈l)->l.length<=t.length->t.Perm l
 | [],l,_,_,h=>by
  have:l=[]:=cP.mp (by simpa using h)
  rw[this]
 | a::t,l,hn,hs,h=>by
  have ha:a∈l:=hs a ao
  have hp:=List.perm_cons_erase ha
  have hn':=aQ.mp hn
  have hl:(l.erase a).length<=t.length:=by
   have:=hp.length_eq
   rw[aC]at this h
   lia
  refine List.Perm.trans (List.Perm.cons a (yc8 hn'.2 (λx hx=>?_) hl)) hp.symm
  have hne:x≠a:=λe=>hn'.1 (e ▸ hx)
  exact(fE hne).mpr (hs x (ah _ hx))
def Only (n:Nat)(W t:List Nat):Prop:=∀x,x<n->x∉W->t.getD x 0=x
theorem Only.grp {n:Nat}{W:List Nat}{S:List Nat->Prop}(hS:∀s,S s->IsT n s)(c:∀s,S s->Only n W s){x:List Nat}(h:Grp n S x):Only n W x:=by
 induction h with
 | one=>exact λy a _=>still_get a
 | mul hg hs ih=>exact λy a b=>by rw[beh_get (hg.isT hS) a,ih y a b,c _ hs y a b]
 | inv hg hs ih =>
  intro y a b;rw[beh_get (hg.isT hS) a,ih y a b];have h:=P5 (hS _ hs) a;rwa [c _ hs y a b]at h
theorem Only.stay {n:Nat}{W t:List Nat}(hT:IsT n t)(hW:∀x∈W,x<n)(h:Only n W t){x:Nat}(a:x∈W):t.getD x 0∈W:=by
 refine Classical.byContradiction λb=>?_;have hlt:=hT.step_lt (hW x a);have e:=h _ hlt b;have:=hT.step_inj hlt (hW x a) e;exact b (by rw[this];exact a)
theorem idxOf_inj {l:List Nat}{x y:Nat}(a:x∈l)(e:l.idxOf x=l.idxOf y):x=y:=by
 have h1:=List.getElem_idxOf (cz a);have hlt:l.idxOf y<l.length:=by rw[←e];exact cz a
 have h2:=List.getElem_idxOf hlt;rw[←h1,←h2];congr 1
structure Sprd (n:Nat) (W row:List Nat) (k:Nat) (g:List Nat):Prop where
 len:g.length=n
 out:∀x,x<n->x∉W.take k->g[x]?=some x
 at':∀j x,j<k->W[j]?=some x->g[x]?=some (W.getD (row.getD j 0) 0)
theorem Sprd.start {n:Nat}{W row:List Nat}:Sprd n W row 0 (List.range n):=⟨aA,λx hx _=>aD hx,λj x hj=>absurd hj (bO _)⟩
theorem Sprd.step {n k x:Nat}{W row g:List Nat}(hW:W.Nodup)(hlt:∀x∈W,x<n)(h:Sprd n W row k g)(b:W[k]?=some x):Sprd n W row (k+1) (g.set x (W.getD (row.getD k 0) 0)):=by
 have i:=hlt x (ax b);have d:∀j y,j<k->W[j]?=some y->y≠x:=λj y f a e=>by
  subst e;have:=(idxOf_at hW a).symm.trans (idxOf_at hW b);lia
 refine⟨by rw[bD];exact h.len,λy a c=>?_,λj y f a=>?_⟩
 .rw[be,b]at c;have h1:y∉W.take k:=λz=>c (bg _ z);have h2:y≠x:=λe=>c (aU _ (by rw[e];simp));rw[bM (Ne.symm h2)];exact h.out y a h1
 .by_cases e:j=k
  .subst e;obtain rfl:x=y:=Option.some.inj (b.symm.trans a);rw[cf (by rw[h.len];exact i)]
  .rw[bM (Ne.symm (d j y (by lia) a))];exact h.at' j y (by lia) a
theorem Sprd.done {n:Nat}{W row g:List Nat}(hW:W.Nodup)(hlt:∀x∈W,x<n)(o:IsT W.length row)(h:Sprd n W row W.length g):IsT n g/\Only n W g:=by
 have c:∀x,x<n->x∉W->g[x]?=some x:=λx k t=>h.out x k (by rw[aT];exact t);have A:∀a,a<W.length->W[a]?=some (W.getD a 0):=λa s=>by rw[ae,ac s];rfl
 have u:∀a,a<W.length->W.getD a 0∈W:=λa s=>by
  rw[ae,ac s];exact bY s
 have f:∀x,x∈W->∃j,j<W.length/\W[j]?=some x/\g[x]?=some (W.getD (row.getD j 0) 0):=λx k=>by
  obtain⟨j,l,e⟩:=bt.mp k;have m:W[j]?=some x:=by rw[ac l,e]
  exact⟨j,l,m,h.at' j x l m⟩
 have inj:∀x y v,x<n->y<n->g[x]?=some v->g[y]?=some v->x=y:=λx y v k z h1 h2=>by
  by_cases a:x∈W <;> by_cases b:y∈W
  .obtain⟨i,hi,p,d⟩:=f x a;obtain⟨j,l,B,w⟩:=f y b;rw[h1]at d;rw[h2]at w;have e:=(Option.some.inj d).symm.trans (Option.some.inj w);have G:=o.step_lt hi;have H:=o.step_lt l;have F:W[row.getD i 0]?=some (W.getD (row.getD i 0) 0):=A _ G;have p2:W[row.getD j 0]?=some (W.getD (row.getD i 0) 0):=by rw[e];exact A _ H
   have q:=(idxOf_at hW F).symm.trans (idxOf_at hW p2);have E:=o.step_inj hi l q;rw[E,B]at p;exact(Option.some.inj p).symm
  .obtain⟨i,hi,p,d⟩:=f x a;rw[c y z b]at h2;rw[h1,←Option.some.inj h2]at d;exact absurd (by rw[Option.some.inj d];exact u _ (o.step_lt hi)) b
  .obtain⟨i,hi,p,d⟩:=f y b;rw[c x k a]at h1;rw[h2,←Option.some.inj h1]at d;exact absurd (by rw[Option.some.inj d];exact u _ (o.step_lt hi)) a
  .rw[c x k a]at h1;rw[c y z b]at h2;exact(Option.some.inj h1).trans (Option.some.inj h2).symm
 refine⟨isT_of h.len ?_ λv D=>?_,λx k t=>getD_of (c x k t)⟩
 .refine bP.mpr λi j hi l C e=>?_;have:=inj i j g[i] (by rw[←h.len];exact hi) (by rw[←h.len];exact l) (ac hi) (by rw[e];exact ac l);lia
 .obtain⟨x,k,e⟩:=bt.mp D;have r:x<n:=by rw[←h.len];exact k
  have m:g[x]?=some v:=by rw[ac k,e]
  by_cases a:x∈W
  .obtain⟨i,hi,p,d⟩:=f x a;rw[m]at d;rw[Option.some.inj d];exact hlt _ (u _ (o.step_lt hi))
  .rw[c x r a]at m;rw[←Option.some.inj m];exact r
theorem Only.more {n:Nat}{W V t:List Nat}(h:Only n W t)(hs:∀x∈W,x∈V):Only n V t:=λx hx hn=>h x hx λz=>hn (hs x z)
end TM
namespace TM
end TM
namespace TM
open Classical
section
variable (n:Nat)(G:List Nat->Prop)
noncomputable def gRing (j:Nat):List Nat:=(List.range n).filter λp=>decide (∃x,G x/\Fix j x/\x.getD j 0=p)
noncomputable def gMany:Nat->Nat
 | 0=>1
 | d+1=>(gRing n G (n-(d+1))).length*gMany d
end
section
variable {n:Nat}{C:Chn}{G:List Nat->Prop}(ok:C.Ok n)(sh:∀i,i<n->C.Shut n i)(hG:∀x,Grp n (C.mv 0) x↔G x)
include ok sh hG
theorem Chn.Ok.lev:∀(j:Nat),j<=n->∀x,Grp n (C.mv j) x↔G x/\Fix j x
 | 0,_,x=>⟨λh=>⟨(hG x).mp h,Fix.zero x⟩,λh=>(hG x).mpr h.1⟩
 | j+1,hj,x=>by
  have ih:=Chn.Ok.lev j (by lia) x
  constructor
  .intro h
   have h1:Grp n (C.mv j) x:=Grp.mono (ok.mvT j) (ok.down j) h
   exact⟨(ih.mp h1).1,ok.genF hj h⟩
  .rintro⟨h1,h2⟩
   have hx:=ih.mpr ⟨h1,λy hy=>h2 y (by lia)⟩
   obtain⟨p,k,hp,hk,rfl⟩:=ok.parts (by lia) (sh j (by lia)) hx
   have kT:=hk.isT (ok.mvT _)
   have e:=h2 j (cQ j)
   rw[beh_get kT (by lia),ok.genF (by lia) hk _ (cQ _),ok.upTo j p (by lia) hp]at e
   subst e
   rw[ok.upOwn p (by lia),beh_still kT]
   exact hk
theorem Chn.Ok.ring_g {j:Nat}(a:j<n):(gRing n G j).Perm (C.ring j):=by
 refine(bx (List.Nodup.sublist bH aN) (ok.nd j a)).mpr λp=>?_;rw[bv,av];constructor
 .rintro⟨_,h⟩;obtain⟨x,b,c,e⟩:=of_decide_eq_true h;exact(ok.ring_iff a (sh j a) p).mpr ⟨x,(ok.lev sh hG j (by lia) x).mpr ⟨b,c⟩,e⟩
 .intro h;obtain⟨x,b,e⟩:=(ok.ring_iff a (sh j a) p).mp h;obtain⟨h1,h2⟩:=(ok.lev sh hG j (by lia) x).mp b;exact⟨ok.lt j p a h,decide_eq_true ⟨x,h1,h2,e⟩⟩
theorem Chn.Ok.ring_len {j:Nat}(hj:j<n):(gRing n G j).length=(C.ring j).length:=(ok.ring_g sh hG hj).length_eq
theorem Chn.Ok.many_g:∀d,d<=n->C.many n d=gMany n G d
 | 0,_=>rfl
 | d+1,hd=>by
  rw[Chn.many,gMany,ok.ring_len sh hG (by lia),Chn.Ok.many_g d (by lia)]
end
theorem zj5 {α β:Type}(f:α->List β)(k:Nat):∀l:List α,(∀a∈l,(f a).length=k)->(l.flatMap f).length=l.length*k
 | [],_=>by simp
 | a::l,h=>by
  rw[dW,ag,h a ao,zj5 f k l λb hb=>h b (ah _ hb),aC,fZ,dv]
theorem B4 {α β:Type}(f:α->List β):∀l:List α,l.Nodup->(∀a∈l,(f a).Nodup)->(∀a∈l,∀b∈l,a≠b->∀x∈f a,x∉f b)->(l.flatMap f).Nodup
 | [],_,_,_=>by simp
 | a::l,h,h1,h2=>by
  obtain⟨h3,h4⟩:=aQ.mp h
  rw[dW]
  refine bj.mpr ⟨h1 a ao,B4 f l h4 (λb hb=>h1 b (ah _ hb)) λb hb c hc=>h2 b (ah _ hb) c (ah _ hc),λx hx y hy e=>?_⟩
  subst e
  obtain⟨b,hb,hxb⟩:=dr.mp hy
  exact h2 a ao b (ah _ hb) (λe=>h3 (e ▸ hb)) x hx hxb
end TM
namespace TM
open Classical
structure R4 (n a b:Nat) (t:List Nat):Prop where
 isT:IsT n t
 to:t.getD a 0=b
 fro:t.getD b 0=a
 out:∀x,x<n->x≠a->x≠b->t.getD x 0=x
theorem zi1 {n:Nat}{l t:List Nat}(a:IsT n l)(d:IsT n t){x:Nat}(b:x<n):(beh (beh (bk n l) t) l).getD (l.getD x 0) 0=l.getD (t.getD x 0) 0:=by
 have c:=a.step_lt b;rw[beh_get (a.bk.beh d) c,beh_get a.bk c,P5 a b]
theorem R4.conj {n a b:Nat}{t l:List Nat}(g:a<n)(hb:b<n)(h:R4 n a b t)(c:IsT n l):R4 n (l.getD a 0) (l.getD b 0) (beh (beh (bk n l) t) l):=by
 refine⟨(c.bk.beh h.isT).beh c,by rw[zi1 c h.isT g,h.to],by rw[zi1 c h.isT hb,h.fro],λy f i j=>?_⟩;have d:=c.bk.step_lt f;have e:l.getD ((bk n l).getD y 0) 0=y:=by
  have:=P5 c.bk f;rwa [yv4 c]at this
 have:=zi1 c h.isT d;rw[e,h.out _ d (λz=>i (by rw[←z,e])) (λz=>j (by rw[←z,e])),e]at this;exact this
theorem R4.symm {n a b:Nat}{t:List Nat}(h:R4 n a b t):R4 n b a t:=⟨h.isT,h.fro,h.to,λx hx h1 h2=>h.out x hx h2 h1⟩
def zy9 (n:Nat)(W:List Nat)(S:List Nat->Prop):Prop:=∀a,a∈W->∀b,b∈W->a≠b->∃t,R4 n a b t/\Grp n S t
section
variable {n:Nat}{W:List Nat}{S:List Nat->Prop}(hS:∀s,S s->IsT n s)(hW:W.Nodup)(hlt:∀x∈W,x<n)
include hS hW hlt
theorem zh4 (h:∀k,k+1<W.length->∃t,R4 n (W.getD k 0) (W.getD (k+1) 0) t/\Grp n S t):zy9 n W S:=by
 have j:∀k,k<W.length->W.getD k 0<n:=λk l=>hlt _ (by rw[ae,ac l];exact bY l);have q:∀i k,i<W.length->k<W.length->i≠k->W.getD i 0≠W.getD k 0:=λi k hi l f e=>by
  have h1:W[i]?=some (W.getD i 0):=by rw[ae,ac hi];rfl
  have h2:W[k]?=some (W.getD k 0):=by rw[ae,ac l];rfl
  rw[e]at h1;exact f ((idxOf_at hW h1).symm.trans (idxOf_at hW h2))
 have p:∀d i,i+(d+1)<W.length->∃t,R4 n (W.getD i 0) (W.getD (i+(d+1)) 0) t/\Grp n S t:=λd=>by
  induction d with
  | zero=>exact λi hi=>h i hi
  | succ d ih =>
   intro i hi;obtain⟨t,g,o⟩:=ih i (by lia);obtain⟨e,r,m⟩:=h (i+(d+1)) hi;have c:=g.conj (j i (by lia)) (j _ (by lia)) r.isT;rw[r.to,r.out _ (j i (by lia)) (q _ _ (by lia) (by lia) (by lia)) (q _ _ (by lia) (by lia) (by lia))]at c;exact⟨_,c,Grp.beh hS (Grp.beh hS (m.bk hS) o) m⟩
 intro a v b hb f;obtain⟨i,hi,rfl⟩:=bt.mp v;obtain⟨k,l,rfl⟩:=bt.mp hb;have s:W.getD i 0=W[i]:=by rw[ae,ac hi];rfl
 have u:W.getD k 0=W[k]:=by rw[ae,ac l];rfl
 rcases fQ i k with c|c|c
 .obtain⟨t,g,o⟩:=p (k-i-1) i (by lia);rw[show i+(k-i-1+1)=k by lia,s,u]at g;exact⟨t,g,o⟩
 .subst c;exact absurd rfl f
 .obtain⟨t,g,o⟩:=p (i-k-1) k (by lia);rw[show k+(i-k-1+1)=i by lia,s,u]at g;exact⟨t,g.symm,o⟩
theorem zh3 {l e:List Nat}(d:Grp n S l)(hl:∀k,k+1<W.length->l.getD (W.getD k 0) 0=W.getD (k+1) 0)(g:R4 n (W.getD 0 0) (W.getD 1 0) e)(f:Grp n S e):zy9 n W S:=by
 refine zh4 hS hW hlt λk=>?_;have a:∀k,k<W.length->W.getD k 0<n:=λk b=>hlt _ (by rw[ae,ac b];exact bY b)
 induction k with
 | zero=>exact λ_=>⟨e,g,f⟩
 | succ k ih =>
  intro b;obtain⟨t,i,h⟩:=ih (by lia);have j:=d.isT hS;have c:=i.conj (a _ (by lia)) (a _ (by lia)) j;rw[hl k (by lia),hl (k+1) b]at c;exact⟨_,c,Grp.beh hS (Grp.beh hS (d.bk hS) h) d⟩
omit hW in
theorem zy2 (w:∀s,S s->Only n W s)(v:zy9 n W S)(x:List Nat):Grp n S x↔IsT n x/\Only n W x:=by
 refine⟨λh=>⟨h.isT hS,Only.grp hS w h⟩,λ⟨h1,h2⟩=>?_⟩;have q:∀d j,j+d=n->∀x,IsT n x->Only n W x->Fix j x->Grp n S x:=λd=>by
  induction d with
  | zero =>
   intro j e x a _ i;have:j=n:=by lia
   subst this;rw[Fix.all a i];exact .one
  | succ d ih =>
   intro j e x a o i;have k:j<n:=by lia
   by_cases g:x.getD j 0=j
   .refine ih (j+1) (by lia) x a o λy b=>?_;rcases dz (bL b) with c|c
    .exact i y c
    .rw[c];exact g
   .have m:=a.step_lt k;generalize eq:x.getD j 0=p at g m;have r:j∈W:=Decidable.byContradiction λc=>g (by rw[←eq];exact o j k c);have u:p∈W:=Decidable.byContradiction λc=>g (a.step_inj m k (by rw[o p m c,eq]));have pj:∀y,y<j->y≠p:=λy b z=>g (a.step_inj m k (by rw[eq,←z];exact i y b));obtain⟨t,l,A⟩:=v j r p u (Ne.symm g);have B:=a.beh l.isT;have h':=ih (j+1) (by lia) (beh x t) B (λy b f=>?_) (λy b=>?_)
    .have:=Grp.beh hS h' (A.bk hS);rwa [yi1 a l.isT]at this
    .rw[beh_get a b,o y b f];exact l.out y b (λz=>f (z ▸ r)) (λz=>f (z ▸ u))
    .rcases dz (bL b) with c|c
     .rw[beh_get a (by lia),i y c];exact l.out y (by lia) (by lia) (pj y c)
     .rw[c,beh_get a k,eq,l.fro]
 exact q n 0 (by lia) x h1 h2 (Fix.zero x)
end
def fac:Nat->Nat
 | 0=>1
 | k+1=>(k+1)*fac k
noncomputable def cnt (W:List Nat) (j d:Nat):Nat:=((List.range' j d).filter λp=>decide (p∈W)).length
theorem ya2 {n a b:Nat}(k:a<n)(hb:b<n)(i:a≠b):∃t,R4 n a b t:=by
 refine⟨(List.range n).map λx=>if x=a then b else if x=b then a else x,?_⟩;have get:∀x,x<n->((List.range n).map λx=>if x=a then b else if x=b then a else x).getD x 0=if x=a then b else if x=b then a else x:=λx f=>by
  rw[ae,af,aD f];rfl
 refine⟨isT_of (by rw[aa,aA]) ?_ ?_,by rw[get a k,if_pos rfl],by rw[get b hb,if_neg (Ne.symm i),if_pos rfl],λx f h1 h2=>by rw[get x f,if_neg h1,if_neg h2]⟩
 .rw[List.Nodup,aZ];refine aN.imp λ{x y} j e=>j ?_;by_cases g:x=a
  .rw[if_pos g]at e;by_cases c:y=a
   .lia
   .rw[if_neg c]at e;by_cases d:y=b
    .rw[if_pos d]at e;lia
    .rw[if_neg d]at e;lia
  .rw[if_neg g]at e;by_cases h:x=b
   .rw[if_pos h]at e;by_cases c:y=a
    .rw[if_pos c]at e;lia
    .rw[if_neg c]at e;by_cases d:y=b
     .lia
     .rw[if_neg d]at e;lia
   .rw[if_neg h]at e;by_cases c:y=a
    .rw[if_pos c]at e;lia
    .rw[if_neg c]at e;by_cases d:y=b
     .rw[if_pos d]at e;lia
     .rw[if_neg d]at e;exact e
 .intro y l;obtain⟨x,f,rfl⟩:=az.mp l;have:=av.mp f;by_cases g:x=a
  .rw[if_pos g];exact hb
  .rw[if_neg g];by_cases h:x=b
   .rw[if_pos h];exact k
   .rw[if_neg h];exact this
def Sym (n:Nat)(W:List Nat)(x:List Nat):Prop:=IsT n x/\Only n W x
theorem xd2 {n:Nat}{W:List Nat}(hlt:∀x∈W,x<n){j:Nat}(b:j<n):(gRing n (Sym n W) j).length=if j∈W then cnt W j (n-j) else 1:=by
 have m:∀x p,Sym n W x->Fix j x->x.getD j 0=p->j<=p:=λx p a k e=>bE λc=>by
  have:=a.1.step_inj (x:=p) (y:=j) (by lia) b (by rw[k p c,e]);lia
 by_cases g:j∈W
 .rw[if_pos g];unfold cnt gRing;refine List.Perm.length_eq ((bx (List.Nodup.sublist bH aN) (List.Nodup.sublist bH (List.nodup_range' (step:=1)))).mpr λp=>?_);rw[bv,bv,av,df];constructor
  .rintro⟨d,h⟩;obtain⟨x,a,k,e⟩:=of_decide_eq_true h;refine⟨⟨m x p a k e,by lia⟩,decide_eq_true (Decidable.byContradiction λc=>c ?_)⟩;have:=a.1.step_inj (x:=p) (y:=j) d b (by rw[a.2 p d c,e]);rw[this];exact g
  .rintro⟨⟨h1,h2⟩,h⟩;have l:=of_decide_eq_true h;refine⟨by lia,decide_eq_true ?_⟩;by_cases e:j=p
   .subst e;exact⟨List.range n,⟨IsT.range n,λx a _=>still_get a⟩,Fix.still (by lia),still_get b⟩
   .obtain⟨t,i⟩:=ya2 b (hlt p l) e;exact⟨t,⟨i.isT,λx a f=>i.out x a (λz=>f (z ▸ g)) (λz=>f (z ▸ l))⟩,λx a=>i.out x (by lia) (by lia) (by lia),i.to⟩
 .rw[if_neg g];have:gRing n (Sym n W) j=(List.range n).filter λp=>decide (p=j):=by
   unfold gRing;refine eU λp d=>?_;refine decide_eq_decide.mpr ⟨λ⟨x,a,_,e⟩=>by rw[←e];exact a.2 j b g,λe=>⟨List.range n,⟨IsT.range n,λx a _=>still_get a⟩,Fix.still (by lia),by rw[e];exact still_get b⟩⟩
  rw[this];have d:((List.range n).filter λp=>decide (p=j)).Perm [j]:=(bx (List.Nodup.sublist bH aN) (by simp)).mpr λp=>by
   rw[bv,av,ar];exact⟨λh=>of_decide_eq_true h.2,λh=>⟨by lia,decide_eq_true h⟩⟩
  exact d.length_eq
theorem yf1 {n:Nat}{W:List Nat}(hlt:∀x∈W,x<n):∀d,d<=n->gMany n (Sym n W) d=fac (cnt W (n-d) d)
 | 0,_=>rfl
 | d+1,hd=>by
  have hj:n-(d+1)<n:=by lia
  have c:n-(n-(d+1))=d+1:=by lia
  have es:List.range' (n-(d+1)) (d+1)=(n-(d+1))::List.range' (n-d) d:=by rw[fR,show n-(d+1)+1=n-d by lia]
  rw[gMany,xd2 hlt hj,yf1 hlt d (by lia),c]
  by_cases a:n-(d+1)∈W
  .have b:cnt W (n-(d+1)) (d+1)=cnt W (n-d) d+1:=by
    unfold cnt
    rw[es,eZ,if_pos (decide_eq_true a),aC]
   rw[if_pos a,b]
   rfl
  .have b:cnt W (n-(d+1)) (d+1)=cnt W (n-d) d:=by
    unfold cnt
    rw[es,eZ,if_neg (λz=>a (of_decide_eq_true z))]
   rw[if_neg a,b,cA]
theorem yf2 {n:Nat}{W:List Nat}(hW:W.Nodup)(hlt:∀x∈W,x<n):gMany n (Sym n W) n=fac W.length:=by
 rw[yf1 hlt n (aq _),ci];congr 1;unfold cnt;refine List.Perm.length_eq ((bx (List.Nodup.sublist bH (List.nodup_range' (step:=1))) hW).mpr λp=>?_);rw[bv,df];exact⟨λh=>of_decide_eq_true h.2,λh=>⟨⟨aY _,by have:=hlt p h;lia⟩,decide_eq_true h⟩⟩
end TM
namespace TM
structure Hom (k n:Nat) (F:List Nat->List Nat):Prop where
 isT:∀t,IsT k t->IsT n (F t)
 two:∀a b,IsT k a->IsT k b->F (beh a b)=beh (F a) (F b)
 one:F (List.range k)=List.range n
 inj:∀a b,IsT k a->IsT k b->F a=F b->a=b
theorem Hom.bk {k n:Nat}{F:List Nat->List Nat}(h:Hom k n F){t:List Nat}(a:IsT k t):F (TM.bk k t)=TM.bk n (F t):=by
 have b:=h.isT t a;refine N2 (h.isT _ a.bk) b.bk b ?_;rw[←h.two t _ a a.bk,N5 a,h.one,N5 b]
theorem Hom.comp {k n m:Nat}{F G:List Nat->List Nat}(hF:Hom k n F)(hG:Hom n m G):Hom k m (λt=>G (F t)) :=
 ⟨λt ht=>hG.isT _ (hF.isT t ht),λa b ha hb=>by rw[hF.two a b ha hb,hG.two _ _ (hF.isT a ha) (hF.isT b hb)],by rw[hF.one,hG.one],λa b ha hb e=>hF.inj a b ha hb (hG.inj _ _ (hF.isT a ha) (hF.isT b hb) e)⟩
theorem Hom.grp {k n:Nat}{F:List Nat->List Nat}(h:Hom k n F){S:List (List Nat)}(hS:∀s∈S,IsT k s)(y:List Nat):Grp n (λz=>z∈S.map F) y↔∃x,Grp k (λz=>z∈S) x/\y=F x:=by
 have b:∀s,s∈S.map F->IsT n s:=λs hs=>by
  obtain⟨t,c,rfl⟩:=az.mp hs;exact h.isT t (hS t c)
 constructor
 .intro i;refine Grp.keeps (P:=λy=>∃x,Grp k (λz=>z∈S) x/\y=F x) ⟨_,.one,h.one.symm⟩ (λa s ⟨x,d,e⟩ hs=>?_) (λa s ⟨x,d,e⟩ hs=>?_) i
  .obtain⟨t,c,rfl⟩:=az.mp hs;refine⟨beh x t,Grp.beh hS d (Grp.of hS c),?_⟩;rw[h.two x t (d.isT hS) (hS t c),e]
  .obtain⟨t,c,rfl⟩:=az.mp hs;refine⟨beh x (TM.bk k t),Grp.beh hS d (Grp.bk hS (Grp.of hS c)),?_⟩;rw[h.two x _ (d.isT hS) (hS t c).bk,h.bk (hS t c),e]
 .rintro⟨x,d,rfl⟩;refine Grp.keeps (P:=λx=>IsT k x/\Grp n (λz=>z∈S.map F) (F x)) ⟨IsT.range k,by rw[h.one];exact .one⟩ (λa s ⟨f,g⟩ hs=>⟨f.beh (hS s hs),?_⟩) (λa s ⟨f,g⟩ hs=>⟨f.beh (hS s hs).bk,?_⟩) d |>.2
  .rw[h.two a s f (hS s hs)];exact Grp.beh b g (Grp.of b (az.mpr ⟨s,hs,rfl⟩))
  .rw[h.two a _ f (hS s hs).bk,h.bk (hS s hs)];exact Grp.beh b g (Grp.bk b (Grp.of b (az.mpr ⟨s,hs,rfl⟩)))
theorem xm5 {n:Nat}{b s t:List Nat}(hb:IsT n b)(hs:IsT n s)(c:IsT n t)(h:∀x,x<n->s.getD (b.getD x 0) 0=t.getD (b.getD x 0) 0):s=t:=by
 refine d3 hs c λy a=>?_;have:=h ((bk n b).getD y 0) (hb.bk.step_lt a);rwa [zu1 hb a]at this
def sp (n:Nat)(W row:List Nat):List Nat:=(List.range n).map λx=>if x∈W then W.getD (row.getD (W.idxOf x) 0) 0 else x
section
variable {n:Nat}{W:List Nat}(hW:W.Nodup)(hlt:∀x∈W,x<n)
include hW hlt
theorem zb6 (row:List Nat):Sprd n W row W.length (sp n W row):=by
 refine⟨by unfold sp;rw[aa,aA],λx a b=>?_,λj x c a=>?_⟩
 .rw[aT]at b;unfold sp;rw[af,aD a];show some (if x∈W then _ else x)=some x;rw[if_neg b]
 .have hm:=ax a;unfold sp;rw[af,aD (hlt x hm)];show some (if x∈W then _ else x)=_;rw[if_pos hm,idxOf_at hW a]
theorem sprd_eq {row g:List Nat}(h:Sprd n W row W.length g):g=sp n W row:=by
 have h':=zb6 hW hlt row;apply cK;intro x;by_cases c:x<n
 .by_cases hm:x∈W
  .obtain⟨j,a,e⟩:=bt.mp hm;have b:W[j]?=some x:=by rw[ac a,e]
   rw[h.at' j x a b,h'.at' j x a b]
  .rw[h.out x c (by rw[aT];exact hm),h'.out x c (by rw[aT];exact hm)]
 .rw[aR (by rw[h.len];lia),aR (by rw[h'.len];lia)]
theorem sp_in (row:List Nat){k:Nat}(a:k<W.length):(sp n W row).getD (W.getD k 0) 0=W.getD (row.getD k 0) 0:=by
 have e:W[k]?=some (W.getD k 0):=by rw[ae,ac a];rfl
 rw[ae,(zb6 hW hlt row).at' k _ a e];rfl
theorem sp_out (row:List Nat){x:Nat}(b:x<n)(a:x∉W):(sp n W row).getD x 0=x:=by
 rw[ae,(zb6 hW hlt row).out x b (by rw[aT];exact a)];rfl
theorem sp_ext {s t:List Nat}(hs:IsT n s)(c:IsT n t)(h1:∀k,k<W.length->s.getD (W.getD k 0) 0=t.getD (W.getD k 0) 0)(h2:∀x,x<n->x∉W->s.getD x 0=t.getD x 0):s=t:=by
 refine d3 hs c λx d=>?_;by_cases hm:x∈W
 .obtain⟨j,a,e⟩:=bt.mp hm;have b:W.getD j 0=x:=by rw[ae,ac a,e];rfl
  rw[←b];exact h1 j a
 .exact h2 x d hm
theorem sp_isT {row:List Nat}(hr:IsT W.length row):IsT n (sp n W row):=((zb6 hW hlt row).done hW hlt hr).1
theorem sp_only {row:List Nat}(hr:IsT W.length row):Only n W (sp n W row):=((zb6 hW hlt row).done hW hlt hr).2
theorem xl5 {k:Nat}(hk:k<W.length):W.getD k 0<n:=hlt _ (by rw[ae,ac hk];exact bY hk)
theorem sp_hom:Hom W.length n (sp n W):=by
 refine⟨λt o=>sp_isT hW hlt o,λa b d hb=>?_,?_,λa b d hb e=>?_⟩
 .have j:=sp_isT hW hlt d;refine sp_ext hW hlt (sp_isT hW hlt (d.beh hb)) (j.beh (sp_isT hW hlt hb)) (λk c=>?_) λx f h=>?_
  .rw[beh_get j (xl5 hW hlt c),sp_in hW hlt _ c,sp_in hW hlt _ c,sp_in hW hlt _ (d.step_lt c),beh_get d c]
  .rw[beh_get j f,sp_out hW hlt _ f h,sp_out hW hlt _ f h,sp_out hW hlt _ f h]
 .refine sp_ext hW hlt (sp_isT hW hlt (IsT.range _)) (IsT.range n) (λk c=>?_) λx f h=>?_
  .rw[sp_in hW hlt _ c,still_get c,still_get (xl5 hW hlt c)]
  .rw[sp_out hW hlt _ f h,still_get f]
 .refine d3 d hb λk c=>?_;have l:=sp_in hW hlt a c;rw[e,sp_in hW hlt b c]at l;have g:∀i,i<W.length->W[i]?=some (W.getD i 0):=λi hi=>by rw[ae,ac hi];rfl
  have m:=g _ (d.step_lt c);rw[←l]at m;exact(idxOf_at hW m).symm.trans (idxOf_at hW (g _ (hb.step_lt c)))
end
end TM
namespace TM
end TM
namespace TM
theorem fresh {n:Nat}(l:List Nat)(h:l.length<n):∃z,z<n/\z∉l:=by
 refine Classical.byContradiction λa=>?_;have hs:∀x,x∈List.range n->x∈l:=λx c=>Classical.byContradiction λb=>a ⟨x,av.mp c,b⟩;have:=zv1 aN hs;rw[aA]at this;lia
theorem yx2 {n a b:Nat}{t:List Nat}(hT:IsT n t)(ha:a<n)(hb:b<n)(hne:a≠b):evn (beh t (xch n a b)) n=!evn t n :=
 (xj3 hT ha hb hne).evn hT (hT.beh (D8 ha hb hne))
end TM
namespace TM
theorem yk4 {n a b:Nat}(ha:a<n)(hb:b<n)(hne:a≠b):R4 n a b (xch n a b) :=
 ⟨D8 ha hb hne,by rw[getD_of (I0 ha hb hne ha),if_pos rfl],by rw[getD_of (I0 ha hb hne hb),if_neg (Ne.symm hne),if_pos rfl],λx hx h1 h2=>by rw[getD_of (I0 ha hb hne hx),if_neg h1,if_neg h2]⟩
theorem xr7 {n a b:Nat}(h:a<n)(hb:b<n)(g:a≠b):bk n (xch n a b)=xch n a b:=by
 have e:=yk4 h hb g;have hT:=e.isT;refine N2 hT.bk hT hT ?_;rw[N5 hT];refine d3 (IsT.range n) (hT.beh hT) λx c=>?_;rw[still_get c,beh_get hT c];by_cases d:x=a
 .rw[d,e.to,e.fro]
 .by_cases f:x=b
  .rw[f,e.fro,e.to]
  .rw[e.out x c d f,e.out x c d f]
theorem xm1 {n:Nat}{x:List Nat}(g:IsT n x):Grp n (λs=>∃a b,a<n/\b<n/\a≠b/\s=xch n a b) x:=by
 have hS:∀s,(∃a b,a<n/\b<n/\a≠b/\s=xch n a b)->IsT n s:=λs ⟨a,b,d,hb,c,e⟩=>by rw[e];exact D8 d hb c
 refine(zy2 (W:=List.range n) hS (λx g=>av.mp g) (λs hs y h f=>absurd (av.mpr h) f) (λa d b hb c=>?_) x).mpr ⟨g,λy h f=>absurd (av.mpr h) f⟩;have d:=av.mp d;have hb:=av.mp hb;exact⟨_,yk4 d hb c,Grp.of hS ⟨a,b,d,hb,c,rfl⟩⟩
theorem D3 {n:Nat}{s t:List Nat}(hs:IsT n s)(f:IsT n t):evn (beh s t) n=(evn s n==evn t n):=by
 have hS:∀s,(∃a b,a<n/\b<n/\a≠b/\s=xch n a b)->IsT n s:=λs ⟨a,b,d,hb,c,e⟩=>by rw[e];exact D8 d hb c
 have one:∀a b,a<n->b<n->a≠b->∀t,(IsT n t/\evn (beh s t) n=(evn s n==evn t n))->IsT n (beh t (xch n a b))/\evn (beh s (beh t (xch n a b))) n=(evn s n==evn (beh t (xch n a b)) n):=λa b d hb c t ⟨g,e⟩=>by
  refine⟨g.beh (D8 d hb c),?_⟩;rw[←p0 hs g (D8 d hb c),yx2 (hs.beh g) d hb c,yx2 g d hb c,e]
  cases evn s n <;> cases evn t n <;> rfl
 refine(Grp.keeps (P:=λt=>IsT n t/\evn (beh s t) n=(evn s n==evn t n)) ⟨IsT.range n,?_⟩ (λt u f h=>?_) (λt u f h=>?_) (xm1 f)).2
 .rw[beh_still hs,D2]
  cases evn s n <;> rfl
 .obtain⟨a,b,d,hb,c,rfl⟩:=h;exact one a b d hb c t f
 .obtain⟨a,b,d,hb,c,rfl⟩:=h;rw[xr7 d hb c];exact one a b d hb c t f
end TM
namespace TM
open Classical
theorem xa8 {L L':List (List Nat)}(h:L.Nodup)(h':L'.Nodup)(e:∀x,x∈L↔x∈L'):L.length=L'.length:=((bx h h').mpr e).length_eq
theorem xm4 {n:Nat}{t:List Nat}(hT:IsT n t):evn (bk n t) n=evn t n:=by
 have:=D3 hT.bk hT;rw[zb9 hT,D2]at this
 cases h1:evn (bk n t) n <;> cases h2:evn t n <;> rw[h1,h2]at this <;> first|rfl|cases this
end TM
namespace TM
open Classical
section
variable {n:Nat}{a b c:List Nat}
theorem xs8 (hb:IsT n b)(hc:IsT n c):beh (bk n b) (beh b c)=c:=by rw[←p0 hb.bk hb hc,zb9 hb,still_beh hc]
theorem yq4 (c:IsT n a)(hb:IsT n b)(h:beh a b=List.range n):b=bk n a:=by
 have:=congrArg (beh (bk n a)) h;rwa [xs8 c hb,beh_still c.bk]at this
end
end TM
namespace TM
open Classical
def Few (n:Nat)(S:List (List Nat))(N:Nat):Prop:=∀L:List (List Nat),L.Nodup->(∀x∈L,Grp n (λz=>z∈S) x)->L.length<=N
def dh (s:Nat)(c e:Int):List Nat:=(List.range s).map λ(k:Nat)=>((c+e*(k:Int)) % (s:Int)).toNat
section
variable {s:Nat}(hs:0<s)
include hs
theorem dh_get (c e:Int){k:Nat}(a:k<s):(dh s c e).getD k 0=((c+e*(k:Int)) % (s:Int)).toNat:=by
 unfold dh;rw[ae,af,aD a];rfl
theorem A5 (c e:Int)(k:Nat):((((c+e*(k:Int)) % (s:Int)).toNat:Nat):Int)=(c+e*(k:Int)) % (s:Int):=bB (bh _ (by lia))
theorem xk6 (c e:Int)(k:Nat):((c+e*(k:Int)) % (s:Int)).toNat<s:=by
 have:=cH (c+e*(k:Int)) (show(0:Int)<(s:Int) by lia);have:=bh (c+e*(k:Int)) (show(s:Int)≠0 by lia);lia
theorem zc3 (c e b a:Int):beh (dh s c e) (dh s b a)=dh s (b+a*c) (a*e):=by
 unfold beh
 conv=>lhs;unfold dh
 rw[bG]
 conv=>rhs;unfold dh
 refine bQ λk d=>?_;show(dh s b a).getD _ 0=_;rw[dh_get hs _ _ (xk6 hs c e k),A5 hs];congr 1;rw[Int.add_emod,Int.mul_emod,Int.emod_emod,←Int.mul_emod,←Int.add_emod,Int.mul_add,←Int.mul_assoc,←Int.add_assoc]
theorem zi3:dh s 0 1=List.range s:=by
 unfold dh;refine(bQ λk a=>?_).trans (fF _);have:=av.mp a;rw[dE,cV,Int.emod_eq_of_lt (by lia) (by lia)];rfl
theorem dh_isT (c:Int){e:Int}(a:e=1∨e=-1):IsT s (dh s c e):=by
 have hl:(dh s c e).length=s:=by unfold dh;rw[aa,aA]
 have back:beh (dh s c e) (dh s (-(e*c)) e)=List.range s:=by
  rw[zc3 hs,show -(e*c)+e*c=0 by lia,show e*e=1 by rcases a with h|h <;> rw[h] <;> rfl];exact zi3 hs
 refine isT_of hl ?_ λx b=>?_
 .have:(dh s c e).map (λx=>(dh s (-(e*c)) e).getD x 0)=List.range s:=back;have d:((dh s c e).map λx=>(dh s (-(e*c)) e).getD x 0).Nodup:=by rw[this];exact aN
  exact(aZ.mp d).imp λh z=>h (by rw[z])
 .obtain⟨k,_,rfl⟩:=az.mp b;exact xk6 hs c e k
theorem yg9 (c e:Int):dh s c e=dh s (c % (s:Int)) e:=by
 unfold dh;refine bQ λk _=>?_;congr 1;rw[Int.emod_add_emod]
end
end TM
namespace TM
open Classical
theorem yl5 {α:Type}(P:α->Prop):∀B:List α,∃L:List α,L.Nodup/\∀x,x∈L↔x∈B/\P x
 | []=>⟨[],dA,λx=>by simp⟩
 | b::B=>by
  obtain⟨L,h1,h2⟩:=yl5 P B
  by_cases h:P b/\b∉L
  .refine⟨b::L,aQ.mpr ⟨h.2,h1⟩,λx=>?_⟩
   rw[ay,ay,h2]
   constructor
   .rintro (rfl|⟨a,b⟩)
    .exact⟨.inl rfl,h.1⟩
    .exact⟨.inr a,b⟩
   .rintro⟨rfl|a,c⟩
    .exact .inl rfl
    .exact .inr ⟨a,c⟩
  .refine⟨L,h1,λx=>?_⟩
   rw[ay,h2]
   constructor
   .exact λ⟨a,b⟩=>⟨.inr a,b⟩
   .rintro⟨rfl|a,c⟩
    .refine(h2 x).mp (Classical.byContradiction λz=>h ⟨c,z⟩)
    .exact⟨a,c⟩
def yo0 (k:Nat):Nat->List (List Nat)
 | 0=>[[]]
 | m+1=>(yo0 k m).flatMap λr=>(List.range k).map λx=>x::r
theorem zr9 {k:Nat}:∀{r:List Nat},(∀y∈r,y<k)->r∈yo0 k r.length
 | [],_=>by simp[yo0]
 | x::r,h=>dr.mpr ⟨r,zr9 λy hy=>h y (ah _ hy),az.mpr ⟨x,av.mpr (h x ao),rfl⟩⟩
theorem ya7 {n:Nat}{ts:List (List Nat)}(hT:∀t∈ts,IsT n t):∃L:List (List Nat),L.Nodup/\∀x,x∈L↔Grp n (λz=>z∈ts) x:=by
 obtain⟨L,h1,h2⟩:=yl5 (Grp n λz=>z∈ts) (yo0 n n);refine⟨L,h1,λx=>(h2 x).trans ⟨λh=>h.2,λh=>⟨?_,h⟩⟩⟩;have a:=h.isT hT;have:=zr9 (k:=n) (r:=x) λy b=>a.lt b;rwa [a.length]at this
noncomputable def gM (n:Nat) (ts:List (List Nat)):Nat:=if h:∃L:List (List Nat),L.Nodup/\∀x,x∈L↔Grp n (λz=>z∈ts) x then(Classical.choose h).length else 0
theorem zi7 {n:Nat}{ts L:List (List Nat)}(h1:L.Nodup)(h2:∀x,x∈L↔Grp n (λz=>z∈ts) x):gM n ts=L.length:=by
 have h:∃L:List (List Nat),L.Nodup/\∀x,x∈L↔Grp n (λz=>z∈ts) x:=⟨L,h1,h2⟩;unfold gM;rw[dif_pos h];have hs:=Classical.choose_spec h;exact xa8 hs.1 h1 λx=>(hs.2 x).trans (h2 x).symm
structure Alk (k n:Nat) (F:List Nat->List Nat) (t f:List (List Nat)):Prop where
 tT:∀x∈t,IsT n x
 fT:∀x∈f,IsT k x
 al:∀y,Grp n (λz=>z∈t) y↔∃x,Grp k (λz=>z∈f) x/\y=F x
section
variable {k n:Nat}{F:List Nat->List Nat}
theorem Alk.size (h:Hom k n F){t f:List (List Nat)}(a:Alk k n F t f):gM n t=gM k f:=by
 obtain⟨L,h1,h2⟩:=ya7 a.fT;have d:(L.map F).Nodup:=by
  have:∀l:List (List Nat),l.Nodup->(∀x∈l,IsT k x)->(l.map F).Nodup:=by
   intro l
   induction l with
   | nil=>intro _ _;exact dA
   | cons x l ih =>
    intro d hT;rw[aJ];refine aQ.mpr ⟨λhm=>?_,ih (aQ.mp d).2 λy c=>hT y (ah _ c)⟩;obtain⟨y,c,e⟩:=az.mp hm;rw[h.inj y x (hT y (ah _ c)) (hT x ao) e]at c;exact(aQ.mp d).1 c
  exact this L h1 λx b=>((h2 x).mp b).isT a.fT
 rw[zi7 h1 h2,zi7 (L:=L.map F) d λy=>?_,aa];rw[az,a.al];exact⟨λ⟨x,b,e⟩=>⟨x,(h2 x).mp b,e.symm⟩,λ⟨x,b,e⟩=>⟨x,(h2 x).mpr b,e.symm⟩⟩
end
end TM
namespace TM
open Classical
def RR (s:Nat)(m:Int)(x:List Nat):Prop:=∃j:Int,x=dh s (m*j) 1
def DD (s:Nat)(x:List Nat):Prop:=∃c e:Int,(e=1∨e=-1)/\x=dh s c e
theorem ee {e:Int}(a:e=1∨e=-1):e*e=1:=by rcases a with h|h <;> rw[h] <;> rfl
theorem zy1 {a b k:Int}(h:a % k=b % k):k ∣ (a-b):=Int.dvd_of_emod_eq_zero (Int.emod_eq_emod_iff_emod_sub_eq_zero.mp h)
section
variable {s:Nat}(hs:0<s)
include hs
theorem yw4 (c:Int){e:Int}(a:e=1∨e=-1):bk s (dh s c e)=dh s (-(e*c)) e:=by
 refine(yq4 (dh_isT hs c a) (dh_isT hs _ a) ?_).symm;rw[zc3 hs,show -(e*c)+e*c=0 by lia,ee a];exact zi3 hs
theorem DD.isT {x:List Nat}(h:DD s x):IsT s x:=by
 obtain⟨c,e,a,rfl⟩:=h;exact dh_isT hs _ a
theorem RR.two {m:Int}{x y:List Nat}(h1:RR s m x)(h2:RR s m y):RR s m (beh x y):=by
 obtain⟨j,rfl⟩:=h1;obtain⟨k,rfl⟩:=h2;exact⟨k+j,by rw[zc3 hs,cV,cV,Int.mul_add]⟩
theorem RR.back {m:Int}{x:List Nat}(h:RR s m x):RR s m (bk s x):=by
 obtain⟨j,rfl⟩:=h;exact⟨-j,by rw[yw4 hs _ (.inl rfl),cV,Int.mul_neg]⟩
theorem RR.one (m:Int):RR s m (List.range s):=⟨0,by rw[Int.mul_zero];exact(zi3 hs).symm⟩
theorem xg2 (m:Int)(x:List Nat):Grp s (λz=>z∈[dh s m 1]) x↔RR s m x:=by
 have hT:∀z∈[dh s m 1],IsT s z:=λz b=>by rw[ar.mp b];exact dh_isT hs _ (.inl rfl)
 have hm:RR s m (dh s m 1):=⟨1,by rw[Int.mul_one]⟩;constructor
 .intro e;refine Grp.keeps (P:=RR s m) (RR.one hs m) (λa z d b=>?_) (λa z d b=>?_) e
  .rw[ar.mp b];exact RR.two hs d hm
  .rw[ar.mp b];exact RR.two hs d (RR.back hs hm)
 .rintro⟨j,rfl⟩;have c:∀k:Nat,Grp s (λz=>z∈[dh s m 1]) (dh s (m*(k:Int)) 1):=by
   intro k
   induction k with
   | zero=>rw[show m*((0:Nat):Int)=0 by lia,zi3 hs];exact .one
   | succ k ih =>
    have:=Grp.beh hT ih (Grp.of hT (ar.mpr rfl));rw[zc3 hs,cV,cV]at this;rw[show m*((k+1:Nat):Int)=m+m*(k:Int) by rw[cM,Int.mul_add];lia];exact this
  rcases Int.eq_nat_or_neg j with⟨k,rfl|rfl⟩
  .exact c k
  .have:=Grp.bk hT (c k);rw[yw4 hs _ (.inl rfl),cV]at this;rw[Int.mul_neg];exact this
theorem dh_rot {c d:Int}(h:c % (s:Int)=d % (s:Int))(e:Int):dh s c e=dh s d e:=by rw[yg9 hs c,h,←yg9 hs d]
theorem yl3 {c d e b:Int}(h:dh s c e=dh s d b):c % (s:Int)=d % (s:Int):=by
 have f:=congrArg (λl=>l.getD 0 0) h;rw[dh_get hs _ _ hs,dh_get hs _ _ hs]at f;have a:=A5 hs c e 0;have g:=A5 hs d b 0;rw[f,g]at a;rw[show c+e*((0:Nat):Int)=c by lia,show d+b*((0:Nat):Int)=d by lia]at a;exact a.symm
theorem xf5 {c d e a:Int}(o:3<=s)(n:e=1∨e=-1)(i:a=1∨a=-1)(h:dh s c e=dh s d a):e=a:=by
 have z:=yl3 hs h;have h1:=congrArg (λl=>l.getD 1 0) h;rw[dh_get hs _ _ (show 1<s by lia),dh_get hs _ _ (show 1<s by lia)]at h1;have j:=A5 hs c e 1;have k:=A5 hs d a 1;rw[h1,k]at j;have m:(s:Int) ∣ (c-d):=zy1 z;have g:(s:Int) ∣ ((c+e*((1:Nat):Int))-(d+a*((1:Nat):Int))):=zy1 j.symm;have b:=Int.dvd_sub g m;rcases n with rfl|rfl <;> rcases i with rfl|rfl
 .rfl
 .exfalso;have:(s:Int) ∣ 2:=by
   have f:c+1*((1:Nat):Int)-(d + -1*((1:Nat):Int))-(c-d)=2:=by lia
   rwa [f]at b
  have:=Int.le_of_dvd (by decide) this;lia
 .exfalso;have:(s:Int) ∣ -2:=by
   have f:c + -1*((1:Nat):Int)-(d+1*((1:Nat):Int))-(c-d)=-2:=by lia
   rwa [f]at b
  have:=Int.le_of_dvd (by decide) (Int.dvd_neg.mpr this);lia
 .rfl
theorem xt3 (h:3<=s){S:List (List Nat)}(hS:∀x,Grp s (λz=>z∈S) x↔DD s x):gM s S=2*s:=by
 have g:∀e:Int,((List.range s).map λ(j:Nat)=>dh s (j:Int) e).Nodup:=λe=>by
  refine aZ.mpr (List.Pairwise.imp_of_mem (λ{a b} i hb d z=>d ?_) aN);have:=yl3 hs z;have h1:=av.mp i;have h2:=av.mp hb;rw[Int.emod_eq_of_lt (by lia) (by lia),Int.emod_eq_of_lt (by lia) (by lia)]at this;lia
 rw[zi7 (L:=((List.range s).map λ(j:Nat)=>dh s (j:Int) 1)++(List.range s).map λ(j:Nat)=>dh s (j:Int) (-1)) (bj.mpr ⟨g 1,g (-1),λx l y m e=>?_⟩) λx=>?_]
 .rw[ag,aa,aa,aA];lia
 .obtain⟨a,_,rfl⟩:=az.mp l;obtain⟨b,_,rfl⟩:=az.mp m;have:=xf5 hs h (.inl rfl) (.inr rfl) e;exact absurd this (by decide)
 .rw[hS x,aI,az,az];constructor
  .rintro (⟨a,_,rfl⟩|⟨a,_,rfl⟩)
   .exact⟨_,1,.inl rfl,rfl⟩
   .exact⟨_,-1,.inr rfl,rfl⟩
  .rintro⟨c,e,k,rfl⟩;have h1:=bh c (show(s:Int)≠0 by lia);have h2:=cH c (show(0:Int)<(s:Int) by lia);have f:dh s (((c % (s:Int)).toNat:Nat):Int) e=dh s c e:=by rw[bB h1,←yg9 hs]
   rcases k with rfl|rfl
   .exact .inl ⟨_,av.mpr (by lia),f⟩
   .exact .inr ⟨_,av.mpr (by lia),f⟩
end
end TM
namespace TM
open Classical
theorem ym4 {s st:Nat}(hs:0<s)(n:Nat.gcd st s=1):∃j:Nat,((st:Int)*(j:Int)) % (s:Int)=1 % (s:Int):=by
 have hT:IsT s ((List.range s).map λj=>(st*j) % s):=by
  refine isT_of (by rw[aa,aA]) (aZ.mpr (List.Pairwise.imp_of_mem (λ{a b} l hb f z=>f ?_) aN)) λx p=>?_
  .obtain⟨j,_,rfl⟩:=az.mp p;exact bJ _ hs
  .have h1:=av.mp l;have h2:=av.mp hb;have c:∀{a b:Nat},a<s->b<s->(st*a) % s=(st*b) % s->b<=a->a=b:=λ{a b} h1 h2 z o=>by
    have d:s ∣ st*a-st*b:=Nat.dvd_of_mod_eq_zero (Nat.sub_mod_eq_zero_of_mod_eq z);rw[←Nat.mul_sub]at d;have m:Nat.Coprime s st:=by rw[Nat.Coprime,eY];exact n
    have i:=m.dvd_of_dvd_mul_left d;rcases dQ (a-b) with e|e
    .lia
    .have:=Nat.le_of_dvd e i;lia
   rcases fD b a with h|h
   .exact c h1 h2 z h
   .exact(c h2 h1 z.symm h).symm
 have h1:1 % s<s:=bJ _ hs;have e:=zu1 hT h1;have g:(bk s ((List.range s).map λj=>(st*j) % s)).getD (1 % s) 0<s:=hT.bk.step_lt h1;generalize (bk s ((List.range s).map λj=>(st*j) % s)).getD (1 % s) 0=j at e g;rw[ae,af,aD g]at e;have k:(st*j) % s=1 % s:=e;exact⟨j,by have:=congrArg (Nat.cast (R:=Int)) k;rw[cE,cE,cm]at this;exact this⟩
section
variable {s:Nat}(hs:0<s)
include hs
theorem xm7 {S:List (List Nat)}{st:Nat}{c:Int}(f:∀x∈S,DD s x)(p:Nat.gcd st s=1)(r:Grp s (λz=>z∈S) (dh s (st:Int) 1))(hm:Grp s (λz=>z∈S) (dh s c (-1)))(x:List Nat):Grp s (λz=>z∈S) x↔DD s x:=by
 have hT:∀z∈S,IsT s z:=λz g=>DD.isT hs (f z g);constructor
 .intro t;have two:∀{a b:List Nat},DD s a->DD s b->DD s (beh a b):=λ{a b} ⟨c,e,h,h1⟩ ⟨n,k,m,h2⟩=>⟨n+k*c,k*e,by rcases h with rfl|rfl <;> rcases m with rfl|rfl <;> first|exact .inl rfl|exact .inr rfl,by rw[h1,h2];exact zc3 hs c e n k⟩;refine Grp.keeps (P:=DD s) ⟨0,1,.inl rfl,(zi3 hs).symm⟩ (λa z l g=>two l (f z g)) (λa z l g=>two l ?_) t;obtain⟨c,e,h,rfl⟩:=f z g;exact⟨_,e,h,yw4 hs c h⟩
 .rintro⟨d,e,h,rfl⟩;obtain⟨j,q⟩:=ym4 hs p;have i:∀d:Int,Grp s (λz=>z∈S) (dh s d 1):=λd=>by
   have h1:RR s (st:Int) (dh s ((st:Int)*((j:Int)*d)) 1):=⟨_,rfl⟩;have h2:=(xg2 hs _ _).mpr h1;have o:Grp s (λz=>z∈S) (dh s ((st:Int)*((j:Int)*d)) 1):=Grp.mono hT (λz g=>by rw[ar.mp g];exact r) h2;rw[dh_rot hs (d:=d) ?_ 1]at o
   .exact o
   .rw[←Int.mul_assoc,Int.mul_emod,q,←Int.mul_emod,cV]
  rcases h with rfl|rfl
  .exact i d
  .have:=Grp.beh hT hm (i (d-c));rw[zc3 hs,show d-c+1*c=d by lia,cV]at this;exact this
end
end TM
namespace TM
open Classical
theorem D4 {n:Nat}{G:List Nat->Prop}(hT:∀x,G x->IsT n x)(h1:G (List.range n))(h2:∀x y,G x->G y->G (beh x y))(h3:∀x,G x->G (bk n x)):∀d,d<=n->∃L:List (List Nat),L.Nodup/\(∀x,x∈L↔G x/\Fix (n-d) x)/\L.length=gMany n G d
 | 0,_=>⟨[List.range n],by simp,λx=>⟨λh=>by rw[ar.mp h];exact⟨h1,Fix.still (aq _)⟩,λh=>ar.mpr (Fix.all (hT x h.1) h.2)⟩,rfl⟩
 | d+1,hd=>by
  obtain⟨L,l1,l2,l3⟩:=D4 hT h1 h2 h3 d (by lia)
  rw[gMany]
  generalize ej:n-(d+1)=j
  have hj:j<n:=by lia
  rw[show n-d=j+1 by lia]at l2
  have fix1:∀x,Fix (j+1) x↔Fix j x/\x.getD j 0=j:=λx=>⟨λh=>⟨λy hy=>h y (by lia),h j (by lia)⟩,λh y hy=>by
   rcases dz (bL hy) with c|c
   .exact h.1 y c
   .rw[c];exact h.2⟩
  have lift:∀p,∃u,p∈gRing n G j->G u/\Fix j u/\u.getD j 0=p:=λp=>by
   by_cases hp:p∈gRing n G j
   .obtain⟨x,hx⟩:=of_decide_eq_true (bv.mp hp).2
    exact⟨x,λ_=>hx⟩
   .exact⟨[],λz=>absurd z hp⟩
  obtain⟨u,hu⟩:=Classical.axiomOfChoice lift
  have rn:(gRing n G j).Nodup:=List.Nodup.sublist bH aN
  have at_:∀p∈gRing n G j,∀x∈L,(beh x (u p)).getD j 0=p:=λp hp x hx=>by
   have h:=(l2 x).mp hx
   rw[beh_get (hT x h.1) hj,((fix1 x).mp h.2).2,(hu p hp).2.2]
  refine⟨(gRing n G j).flatMap λp=>L.map λx=>beh x (u p),?_,λx=>?_,?_⟩
  .refine B4 _ _ rn (λp hp=>?_) λp hp q hq hne x hx hx'=>?_
   .rw[List.Nodup,aZ]
    exact l1.imp_of_mem λ{a b} ha hb hab e=>hab (L7 (hT a ((l2 a).mp ha).1) (hT b ((l2 b).mp hb).1) (hT _ (hu p hp).1) e)
   .obtain⟨a,ha,rfl⟩:=az.mp hx
    obtain⟨b,hb,e⟩:=az.mp hx'
    have e1:=at_ p hp a ha
    rw[←e,at_ q hq b hb]at e1
    exact hne e1.symm
  .rw[dr]
   constructor
   .rintro⟨p,hp,hx⟩
    obtain⟨a,ha,rfl⟩:=az.mp hx
    have h:=(l2 a).mp ha
    obtain⟨g1,g2,g3⟩:=hu p hp
    exact⟨h2 _ _ h.1 g1,Fix.beh (by lia) (hT a h.1) ((fix1 a).mp h.2).1 g2⟩
   .rintro⟨gx,hf⟩
    have xT:=hT x gx
    have hp:x.getD j 0∈gRing n G j:=bv.mpr ⟨av.mpr (xT.step_lt hj),decide_eq_true ⟨x,gx,hf,rfl⟩⟩
    obtain⟨g1,g2,g3⟩:=hu _ hp
    have uT:=hT _ g1
    refine⟨_,hp,az.mpr ⟨beh x (bk n (u (x.getD j 0))),(l2 _).mpr ⟨h2 _ _ gx (h3 _ g1),(fix1 _).mpr ⟨Fix.beh (by lia) xT hf (Fix.bk (by lia) uT g2),?_⟩⟩,zk0 xT uT⟩⟩
    rw[beh_get xT hj]
    have:=P5 uT hj
    rwa [g3]at this
  .rw[zj5 _ L.length _ λp _=>aa _,l3]
theorem gM_many {n:Nat}{ts:List (List Nat)}(hT:∀t∈ts,IsT n t):gM n ts=gMany n (Grp n λz=>z∈ts) n:=by
 obtain⟨L,c,d,e⟩:=D4 (G:=Grp n λz=>z∈ts) (λx h=>h.isT hT) .one (λx y a b=>Grp.beh hT a b) (λx a=>a.bk hT) n (aq _);rw[zi7 c λx=>(d x).trans ⟨λh=>h.1,λh=>⟨h,by rw[ci];exact Fix.zero x⟩⟩,e]
structure KpI (n:Nat) (W:List Nat) (ix:Nat->Nat) (x:List Nat):Prop where
 isT:IsT n x
 only:Only n W x
 kp:∀a∈W,ix (x.getD a 0)=ix a
section
variable {n:Nat}{W:List Nat}{ix:Nat->Nat}(hlt:∀x∈W,x<n)
include hlt
theorem KpI.one:KpI n W ix (List.range n):=⟨IsT.range n,λx hx _=>still_get hx,λa ha=>by rw[still_get (hlt a ha)]⟩
theorem KpI.beh {x y:List Nat}(hx:KpI n W ix x)(hy:KpI n W ix y):KpI n W ix (beh x y) :=
 ⟨hx.isT.beh hy.isT,λa ha hn=>by rw[beh_get hx.isT ha,hx.only a ha hn,hy.only a ha hn],λa ha=>by rw[beh_get hx.isT (hlt a ha),hy.kp _ (Only.stay hx.isT hlt hx.only ha),hx.kp a ha]⟩
theorem KpI.bk {x:List Nat}(b:KpI n W ix x):KpI n W ix (bk n x):=by
 refine⟨b.isT.bk,λa d e=>?_,λa d=>?_⟩
 .have:=P5 b.isT d;rwa [b.only a d e]at this
 .have h1:=zu1 b.isT (hlt a d);have hb:=b.isT.bk.step_lt (hlt a d);have f:(TM.bk n x).getD a 0∈W:=Decidable.byContradiction λc=>by
   rw[b.only _ hb c]at h1;rw[h1]at c;exact c d
  have:=b.kp _ f;rw[h1]at this;exact this.symm
theorem ym6 {S:List Nat->Prop}(hS:∀s,S s->IsT n s)(D:∀a∈W,∀b∈W,a≠b->ix a=ix b->∃t,R4 n a b t/\Grp n S t)(x:List Nat)(h:KpI n W ix x):Grp n S x:=by
 have v:∀d j,j+d=n->∀x,KpI n W ix x->Fix j x->Grp n S x:=λd=>by
  induction d with
  | zero =>
   intro j e x g m;have:j=n:=by lia
   subst this;rw[Fix.all g.isT m];exact .one
  | succ d ih =>
   intro j e x g m;have k:=g.isT;have r:j<n:=by lia
   by_cases l:x.getD j 0=j
   .refine ih (j+1) (by lia) x g λy i=>?_;rcases dz (bL i) with c|c
    .exact m y c
    .rw[c];exact l
   .have C:=k.step_lt r;have u:j∈W:=Decidable.byContradiction λc=>l (g.only j r c);have q:=g.kp j u;have w:=Only.stay k hlt g.only u;generalize eq:x.getD j 0=p at l C q w;have pj:∀y,y<j->y≠p:=λy i z=>l (k.step_inj C r (by rw[eq,←z];exact m y i));obtain⟨t,f,F⟩:=D j u p w (Ne.symm l) q.symm;have G:KpI n W ix t:=by
     refine⟨f.isT,λy i o=>f.out y i (λz=>o (z ▸ u)) (λz=>o (z ▸ w)),λa E=>?_⟩;by_cases A:a=j
     .rw[A,f.to,q]
     .by_cases B:a=p
      .rw[B,f.fro,q]
      .rw[f.out a (hlt a E) A B]
    have h':=ih (j+1) (by lia) (TM.beh x t) (g.beh hlt G) (λy i=>?_)
    .have:=Grp.beh hS h' (F.bk hS);rwa [yi1 k f.isT]at this
    .rcases dz (bL i) with c|c
     .rw[beh_get k (by lia),m y c];exact f.out y (by lia) (by lia) (pj y c)
     .rw[c,beh_get k r,eq,f.fro]
 exact v n 0 (by lia) x h (Fix.zero x)
theorem xg8 {S:List Nat->Prop}(hS:∀s,S s->KpI n W ix s)(hE:∀a∈W,∀b∈W,a≠b->ix a=ix b->∃t,R4 n a b t/\Grp n S t)(x:List Nat):Grp n S x↔KpI n W ix x :=
 ⟨λh=>Grp.keeps (P:=KpI n W ix) (KpI.one hlt) (λa s ha hs=>ha.beh hlt (hS s hs)) (λa s ha hs=>ha.beh hlt ((hS s hs).bk hlt)) h,ym6 hlt (λs hs=>(hS s hs).isT) hE x⟩
omit hlt in
noncomputable def cI (W:List Nat) (ix:Nat->Nat) (j d i:Nat):Nat:=((List.range' j d).filter λp=>decide (p∈W/\ix p=i)).length
theorem yy9 {j:Nat}(g:j<n):(gRing n (KpI n W ix) j).length=if j∈W then cI W ix j (n-j) (ix j) else 1:=by
 have s:∀x p,KpI n W ix x->Fix j x->x.getD j 0=p->j<=p:=λx p b k e=>bE λc=>by
  have:=b.isT.step_inj (x:=p) (y:=j) (by lia) g (by rw[k p c,e]);lia
 by_cases f:j∈W
 .rw[if_pos f];unfold cI gRing;refine List.Perm.length_eq ((bx (List.Nodup.sublist bH aN) (List.Nodup.sublist bH (List.nodup_range' (step:=1)))).mpr λp=>?_);rw[bv,bv,av,df];constructor
  .rintro⟨l,h⟩;obtain⟨x,b,k,e⟩:=of_decide_eq_true h;refine⟨⟨s x p b k e,by lia⟩,decide_eq_true ?_⟩;rw[←e];exact⟨Only.stay b.isT hlt b.only f,b.kp j f⟩
  .rintro⟨⟨h1,h2⟩,h⟩;obtain⟨r,q⟩:=of_decide_eq_true h;refine⟨by lia,decide_eq_true ?_⟩;by_cases e:j=p
   .subst e;exact⟨List.range n,KpI.one hlt,Fix.still (by lia),still_get g⟩
   .obtain⟨t,d⟩:=ya2 g (hlt p r) e;refine⟨t,⟨d.isT,λx b i=>d.out x b (λz=>i (z ▸ f)) (λz=>i (z ▸ r)),λa u=>?_⟩,λx b=>d.out x (by lia) (by lia) (by lia),d.to⟩;by_cases m:a=j
    .rw[m,d.to,q]
    .by_cases o:a=p
     .rw[o,d.fro,q]
     .rw[d.out a (hlt a u) m o]
 .rw[if_neg f];have:gRing n (KpI n W ix) j=(List.range n).filter λp=>decide (p=j):=by
   unfold gRing;refine eU λp l=>?_;refine decide_eq_decide.mpr ⟨λ⟨x,b,_,e⟩=>by rw[←e];exact b.only j g f,λe=>⟨List.range n,KpI.one hlt,Fix.still (by lia),by rw[e];exact still_get g⟩⟩
  rw[this];have l:((List.range n).filter λp=>decide (p=j)).Perm [j]:=(bx (List.Nodup.sublist bH aN) (by simp)).mpr λp=>by
   rw[bv,av,ar];exact⟨λh=>of_decide_eq_true h.2,λh=>⟨by lia,decide_eq_true h⟩⟩
  exact l.length_eq
omit hlt in
def prd:List Nat->Nat
 | []=>1
 | a::l=>a*prd l
omit hlt in
theorem za6 {f g:Nat->Nat}:∀l:List Nat,(∀i∈l,f i=g i)->prd (l.map f)=prd (l.map g)
 | [],_=>rfl
 | a::l,h=>by rw[aJ,aJ,prd,prd,h a ao,za6 l λi hi=>h i (ah _ hi)]
omit hlt in
theorem yn7 {f g:Nat->Nat}{k c:Nat}(e:f k=c*g k):∀l:List Nat,l.Nodup->k∈l->(∀i∈l,i≠k->f i=g i)->prd (l.map f)=c*prd (l.map g)
 | [],_,h,_=>absurd h bC
 | a::l,hn,hk,h=>by
  obtain⟨h1,h2⟩:=aQ.mp hn
  rw[aJ,aJ,prd,prd]
  by_cases ea:a=k
  .subst ea
   rw[e,za6 l λi hi=>h i (ah _ hi) λz=>h1 (z ▸ hi),fv]
  .rw[h a ao ea,yn7 e l h2 ((ay.mp hk).resolve_left (Ne.symm ea)) λi hi=>h i (ah _ hi),Nat.mul_left_comm]
theorem yb0 {m:Nat}(hm:∀a∈W,ix a<m):∀d,d<=n->gMany n (KpI n W ix) d=prd ((List.range m).map λi=>fac (cI W ix (n-d) d i))
 | 0,_=>by
  rw[gMany]
  induction List.range m with
  | nil=>rfl
  | cons a l ih=>rw[aJ,prd,←ih];rfl
 | d+1,hd=>by
  have hj:n-(d+1)<n:=by lia
  have g:n-(n-(d+1))=d+1:=by lia
  have es:List.range' (n-(d+1)) (d+1)=(n-(d+1))::List.range' (n-d) d:=by rw[fR,show n-(d+1)+1=n-d by lia]
  have e:∀i,cI W ix (n-(d+1)) (d+1) i=if n-(d+1)∈W/\ix (n-(d+1))=i then cI W ix (n-d) d i+1 else cI W ix (n-d) d i:=λi=>by
   unfold cI
   rw[es,eZ]
   by_cases c:n-(d+1)∈W/\ix (n-(d+1))=i
   .rw[if_pos (decide_eq_true c),if_pos c,aC]
   .rw[if_neg (λz=>c (of_decide_eq_true z)),if_neg c]
  rw[gMany,yy9 hlt hj,yb0 hm d (by lia),g]
  by_cases b:n-(d+1)∈W
  .rw[if_pos b]
   refine(yn7 (k:=ix (n-(d+1))) ?_ _ aN (av.mpr (hm _ b)) λi _ f=>?_).symm
   .rw[e,if_pos ⟨b,rfl⟩]
    rfl
   .rw[e,if_neg λz=>f z.2.symm]
  .rw[if_neg b,cA]
   exact za6 _ λi _=>by rw[e,if_neg λz=>b z.1]
theorem yz0 {m:Nat}(hW:W.Nodup)(hm:∀a∈W,ix a<m):gMany n (KpI n W ix) n=prd ((List.range m).map λi=>fac (W.filter λa=>decide (ix a=i)).length):=by
 rw[yb0 hlt hm n (aq _),ci];refine za6 _ λi _=>congrArg fac ?_;unfold cI;refine List.Perm.length_eq ((bx (List.Nodup.sublist bH (List.nodup_range' (step:=1))) (List.Nodup.sublist bH hW)).mpr λp=>?_);rw[bv,bv,df];exact⟨λh=>⟨(of_decide_eq_true h.2).1,decide_eq_true (of_decide_eq_true h.2).2⟩,λh=>⟨⟨aY _,by have:=hlt p h.1;lia⟩,decide_eq_true ⟨h.1,of_decide_eq_true h.2⟩⟩⟩
end
def pix:List (List Nat)->Nat->Nat
 | [],_=>0
 | P::Ps,x=>if x∈P then 0 else pix Ps x+1
theorem pix_lt {x:Nat}:∀{Ps:List (List Nat)},x∈Ps.flatten->pix Ps x<Ps.length
 | [],h=>absurd h bC
 | P::Ps,h=>by
  rw[pix]
  by_cases c:x∈P
  .rw[if_pos c];exact eW _
  .rw[if_neg c]
   rw[bw,aI]at h
   exact Nat.succ_lt_succ (pix_lt (h.resolve_left c))
theorem pix_in {x:Nat}:∀{Ps:List (List Nat)},x∈Ps.flatten->x∈Ps.getD (pix Ps x) []
 | [],h=>absurd h bC
 | P::Ps,h=>by
  rw[pix]
  by_cases c:x∈P
  .rw[if_pos c];exact c
  .rw[if_neg c]
   rw[bw,aI]at h
   exact pix_in (h.resolve_left c)
theorem pix_of {x:Nat}:∀{Ps:List (List Nat)} {i:Nat},Ps.flatten.Nodup->x∈Ps.getD i []->pix Ps x=i
 | [],i,_,h=>by rw[List.getD_nil]at h;exact absurd h bC
 | P::Ps,0,_,h=>by rw[pix,if_pos (show x∈P from h)]
 | P::Ps,i+1,hn,h=>by
  rw[bw,bj]at hn
  have h':x∈Ps.getD i []:=h
  have hx:x∈Ps.flatten:=by
   rw[ae]at h'
   cases e:Ps[i]? with
   | none=>rw[e]at h';exact absurd h' bC
   | some R=>rw[e]at h';exact cD.mpr ⟨R,ax e,h'⟩
  rw[pix,if_neg λz=>hn.2.2 x z x hx rfl,pix_of hn.2.1 h']
theorem yi2:∀{Ps:List (List Nat)},Ps.flatten.Nodup->∀i,Ps.flatten.filter (λa=>decide (pix Ps a=i))=Ps.getD i []:=λ{Ps} hn i=>by
 induction Ps generalizing i with
 | nil=>rw[List.getD_nil];rfl
 | cons P Ps ih =>
  rw[bw,bj]at hn
  rw[bw,fN]
  cases i with
  | zero =>
   rw[List.filter_eq_self.mpr λa ha=>decide_eq_true (by rw[pix,if_pos ha]),fA.mpr λa ha z=>?_,bN]
   .rfl
   .have:=of_decide_eq_true z
    rw[pix,if_neg λc=>hn.2.2 a c a ha rfl]at this
    exact absurd this (Nat.succ_ne_zero _)
  | succ i =>
   rw[fA.mpr λa ha z=>?_,ff,←show Ps.getD i []=(P::Ps).getD (i+1) [] from rfl,←ih hn.2.1 i]
   .refine eU λa ha=>?_
    rw[pix,if_neg λc=>hn.2.2 a c a ha rfl]
    exact decide_eq_decide.mpr ⟨λh=>Nat.succ.inj h,λh=>by rw[h]⟩
   .have:=of_decide_eq_true z
    rw[pix,if_pos ha]at this
    exact absurd this.symm (Nat.succ_ne_zero _)
theorem zk9 {n:Nat}{Ps:List (List Nat)}(hW:Ps.flatten.Nodup)(hlt:∀x∈Ps.flatten,x<n):gMany n (KpI n Ps.flatten (pix Ps)) n=prd (Ps.map λP=>fac P.length):=by
 rw[yz0 hlt hW (m:=Ps.length) λa b=>pix_lt b];congr 1;refine List.ext_getElem (by rw[aa,aa,aA]) λi h1 h2=>?_;rw[List.getElem_map,List.getElem_map,eQ,yi2 hW];rw[aa]at h2;rw[ae,ac h2];rfl
end TM
namespace TM
open Classical
theorem R4.evn {n a b:Nat}{t:List Nat}(j:a<n)(hb:b<n)(c:a≠b)(h:R4 n a b t):evn t n=false:=by
 have d:=yk4 j hb c;have e:t=xch n a b:=d3 h.isT d.isT λx f=>by
  by_cases g:x=a
  .rw[g,h.to,d.to]
  .by_cases i:x=b
   .rw[i,h.fro,d.fro]
   .rw[h.out x f g i,d.out x f g i]
 have:=yx2 (t:=List.range n) (IsT.range n) j hb c;rw[still_beh d.isT,D2]at this;rw[e,this];rfl
theorem R4.self {n a b:Nat}{t:List Nat}(f:a<n)(hb:b<n)(h:R4 n a b t):beh t t=List.range n:=by
 refine d3 (h.isT.beh h.isT) (IsT.range n) λx c=>?_;rw[beh_get h.isT c,still_get c];by_cases d:x=a
 .rw[d,h.to,h.fro]
 .by_cases e:x=b
  .rw[e,h.fro,h.to]
  .rw[h.out x c d e,h.out x c d e]
structure Is3 (n a b c:Nat) (t:List Nat):Prop where
 isT:IsT n t
 ab:t.getD a 0=b
 bc:t.getD b 0=c
 ca:t.getD c 0=a
 out:∀x,x<n->x≠a->x≠b->x≠c->t.getD x 0=x
section
variable {n:Nat}{W:List Nat}{a b:Nat}{S:List (List Nat)}(hW:W.Nodup)(hlt:∀x∈W,x<n)(aW:a∈W)(bW:b∈W)(ab:a≠b)
 (hS:∀s∈S,∃c∈W,c≠a/\c≠b/\Is3 n a b c s) (hC:∀c∈W,c≠a->c≠b->∃s∈S,Is3 n a b c s)
include hlt aW bW ab hS hC
theorem yw9:∃e,R4 n a b e/\∀x,Grp n (λz=>z∈e::S) x↔Sym n W x:=by
 obtain⟨e,d⟩:=ya2 (hlt a aW) (hlt b bW) ab;have an:=hlt a aW;have G:=hlt b bW;have hT:∀z,z∈e::S->IsT n z:=λz v=>by
  rcases ay.mp v with rfl|v
  .exact d.isT
  .obtain⟨c,_,_,_,f⟩:=hS z v;exact f.isT
 refine⟨e,d,λx=>zy2 hT hlt (λs hs=>?_) ?_ x⟩
 .rcases ay.mp hs with rfl|hs
  .exact λx g h=>d.out x g (λz=>h (z ▸ aW)) (λz=>h (z ▸ bW))
  .obtain⟨c,i,_,_,f⟩:=hS s hs;exact λx g h=>f.out x g (λz=>h (z ▸ aW)) (λz=>h (z ▸ bW)) (λz=>h (z ▸ i))
 .have one:∀c∈W,c≠a->∃t,R4 n a c t/\Grp n (λz=>z∈e::S) t:=λc i y=>by
   by_cases l:c=b
   .subst l;exact⟨e,d,Grp.of hT ao⟩
   .obtain⟨s,hs,f⟩:=hC c i y l;refine⟨beh e s,⟨d.isT.beh f.isT,by rw[beh_get d.isT an,d.to,f.bc],by rw[beh_get d.isT (hlt c i),d.out c (hlt c i) y l,f.ca],λx g E F=>?_⟩,Grp.beh hT (Grp.of hT ao) (Grp.of hT (ah _ hs))⟩;rw[beh_get d.isT g];by_cases w:x=b
    .rw[w,d.fro,f.ab]
    .rw[d.out x g E w,f.out x g E w F]
  intro p j q C B;by_cases k:p=a
  .subst k;exact one q C (Ne.symm B)
  .by_cases D:q=a
   .subst D;obtain⟨t,o,m⟩:=one p j k;exact⟨t,o.symm,m⟩
   .obtain⟨t,o,m⟩:=one p j k;obtain⟨u,r,A⟩:=one q C D;have:=o.conj an (hlt p j) r.isT;rw[r.to,r.out p (hlt p j) k B]at this;exact⟨_,this.symm,Grp.beh hT (Grp.beh hT (A.bk hT) m) A⟩
theorem zi5:∀s∈S,IsT n s:=λz hz=>by
 obtain⟨c,_,_,_,h3⟩:=hS z hz
 exact h3.isT
theorem yx0 {e:List Nat}(d:R4 n a b e){x:List Nat}(h:Grp n (λz=>z∈e::S) x):IsT n x/\(Grp n (λz=>z∈S) x∨Grp n (λz=>z∈S) (beh x e)):=by
 have an:=hlt a aW;have w:=hlt b bW;have hT:∀z∈S,IsT n z:=zi5 hlt aW bW ab hS hC;have ee:=d.self an w;have p:bk n e=e:=by
  have:=N5 d.isT;exact N2 d.isT.bk d.isT d.isT (this.trans ee.symm)
 have k:∀s∈S,beh e (beh s e)=bk n s:=λs hs=>by
  obtain⟨c,y,r,u,j⟩:=hS s hs;have v:=hlt c y;have f:=j.isT;refine xm5 f (d.isT.beh (f.beh d.isT)) f.bk λx i=>?_;rw[P5 f i,beh_get d.isT (f.step_lt i),beh_get f (d.isT.step_lt (f.step_lt i))];by_cases m:x=a
  .rw[m,j.ab,d.fro,j.ab,d.fro]
  .by_cases o:x=b
   .rw[o,j.bc,d.out c v r u,j.ca,d.to]
   .by_cases q:x=c
    .rw[q,j.ca,d.to,j.bc,d.out c v r u]
    .rw[j.out x i m o q,d.out x i m o,j.out x i m o q,d.out x i m o]
 have l:∀s∈S,beh e (beh (bk n s) e)=s:=λs hs=>by
  have f:=hT s hs;rw[←k s hs,←p0 d.isT (d.isT.beh (f.beh d.isT)) d.isT,←p0 d.isT d.isT (f.beh d.isT),ee,still_beh (f.beh d.isT),p0 f d.isT d.isT,ee,beh_still f]
 have mv:∀x s t,IsT n x->IsT n s->IsT n t->beh e (beh s e)=t->beh (beh x s) e=beh (beh x e) t:=λx s t g f A h=>by
  rw[←h,p0 g d.isT (d.isT.beh (f.beh d.isT)),←p0 d.isT d.isT (f.beh d.isT),ee,still_beh (f.beh d.isT),p0 g f d.isT]
 refine Grp.keeps (P:=λx=>IsT n x/\(Grp n (λz=>z∈S) x∨Grp n (λz=>z∈S) (beh x e))) ⟨IsT.range n,.inl .one⟩ (λx s ⟨g,i⟩ hs=>?_) (λx s ⟨g,i⟩ hs=>?_) h
 .rcases ay.mp hs with rfl|hs
  .refine⟨g.beh d.isT,i.symm.imp id λh=>?_⟩;rwa [p0 g d.isT d.isT,ee,beh_still g]
  .refine⟨g.beh (hT s hs),i.imp (λh=>Grp.mul h hs) λh=>?_⟩;rw[mv x s _ g (hT s hs) (hT s hs).bk (k s hs)];exact .inv h hs
 .rcases ay.mp hs with rfl|hs
  .refine⟨g.beh d.isT.bk,?_⟩;rw[p];refine i.symm.imp id λh=>?_;rwa [p0 g d.isT d.isT,ee,beh_still g]
  .refine⟨g.beh (hT s hs).bk,i.imp (λh=>Grp.inv h hs) λh=>?_⟩;rw[mv x _ _ g (hT s hs).bk (hT s hs) (l s hs)];exact .mul h hs
theorem zg3 {x:List Nat}(h:Grp n (λz=>z∈S) x):evn x n=true:=by
 have an:=hlt a aW;have l:=hlt b bW;have hT:∀z∈S,IsT n z:=zi5 hlt aW bW ab hS hC;have o:∀s∈S,evn s n=true:=λs hs=>by
  obtain⟨c,q,m,r,g⟩:=hS s hs;have j:=hlt c q;obtain⟨e,d⟩:=ya2 an l ab;have t:R4 n a c (beh e s):=by
   refine⟨d.isT.beh g.isT,by rw[beh_get d.isT an,d.to,g.bc],by rw[beh_get d.isT j,d.out c j m r,g.ca],λx f p u=>?_⟩;rw[beh_get d.isT f];by_cases k:x=b
   .rw[k,d.fro,g.ab]
   .rw[d.out x f p k,g.out x f p k u]
  have h1:=t.evn an j (Ne.symm m);rw[D3 d.isT g.isT,d.evn an l ab]at h1
  cases hv:evn s n with
  | true=>rfl
  | false=>rw[hv]at h1;exact absurd h1 (by decide)
 refine(Grp.keeps (P:=λx=>IsT n x/\evn x n=true) ⟨IsT.range n,D2 n⟩ (λx s ⟨i,f⟩ hs=>⟨i.beh (hT s hs),?_⟩) (λx s ⟨i,f⟩ hs=>⟨i.beh (hT s hs).bk,?_⟩) h).2
 .rw[D3 i (hT s hs),f,o s hs];rfl
 .rw[D3 i (hT s hs).bk,f,xm4 (hT s hs),o s hs];rfl
theorem yx1 (x:List Nat):Grp n (λz=>z∈S) x↔Sym n W x/\evn x n=true:=by
 have an:=hlt a aW;have i:=hlt b bW;have hT:∀z∈S,IsT n z:=zi5 hlt aW bW ab hS hC;obtain⟨e,f,c⟩:=yw9 hlt aW bW ab hS hC;have d:∀z,z∈e::S->IsT n z:=λz g=>by
  rcases ay.mp g with rfl|g
  .exact f.isT
  .exact hT z g
 constructor
 .intro h;exact⟨(c x).mp (Grp.mono d (λs hs=>Grp.of d (ah _ hs)) h),zg3 hlt aW bW ab hS hC h⟩
 .rintro⟨h1,h2⟩;obtain⟨j,h|h⟩:=yx0 hlt aW bW ab hS hC f ((c x).mpr h1)
  .exact h
  .have:=zg3 hlt aW bW ab hS hC h;rw[D3 j f.isT,h2,f.evn an i ab]at this;exact absurd this (by decide)
include hW in
theorem yr4:2*gM n S=fac W.length:=by
 have an:=hlt a aW;have t:=hlt b bW;have hT:∀z∈S,IsT n z:=zi5 hlt aW bW ab hS hC;obtain⟨e,d,g⟩:=yw9 hlt aW bW ab hS hC;have c:∀z,z∈e::S->IsT n z:=λz o=>by
  rcases ay.mp o with rfl|o
  .exact d.isT
  .exact hT z o
 have ee:=d.self an t;obtain⟨L,q,f⟩:=ya7 hT;have r:∀x∈L,IsT n x:=λx i=>((f x).mp i).isT hT;have p:gM n (e::S)=(L++L.map λx=>beh x e).length:=by
  refine zi7 ?_ λx=>?_
  .refine bj.mpr ⟨q,?_,λx i y j l=>?_⟩
   .rw[List.Nodup,aZ];exact q.imp_of_mem λ{x y} i j m h=>m (L7 (r x i) (r y j) d.isT h)
   .subst l;obtain⟨y,k,rfl⟩:=az.mp j;have h1:=zg3 hlt aW bW ab hS hC ((f _).mp i);rw[D3 (r y k) d.isT,zg3 hlt aW bW ab hS hC ((f _).mp k),d.evn an t ab]at h1;exact absurd h1 (by decide)
  .rw[aI];constructor
   .rintro (h|h)
    .exact Grp.mono c (λs hs=>Grp.of c (ah _ hs)) ((f x).mp h)
    .obtain⟨y,j,rfl⟩:=az.mp h;exact Grp.beh c (Grp.mono c (λs hs=>Grp.of c (ah _ hs)) ((f y).mp j)) (Grp.of c ao)
   .intro h;obtain⟨u,h|h⟩:=yx0 hlt aW bW ab hS hC d h
    .exact .inl ((f x).mpr h)
    .refine .inr (az.mpr ⟨_,(f _).mpr h,?_⟩);rw[p0 u d.isT d.isT,ee,beh_still u]
 have h2:gM n (e::S)=fac W.length:=by
  rw[gM_many c,show Grp n (λz=>z∈e::S)=Sym n W from funext λx=>propext (g x),yf2 hW hlt]
 rw[←h2,p,ag,aa,zi7 q f];lia
end
end TM
namespace TM
open Classical
def zz0 (m s:Nat)(p:List Nat):List Nat:=(List.range (m*s)).map λk=>p.getD (k / s) 0*s+k % s
theorem S7 {m s k:Nat}(p:List Nat)(a:k<m*s):(zz0 m s p).getD k 0=p.getD (k / s) 0*s+k % s:=by
 rw[zz0,ae,af,aD a];rfl
theorem N6 {m s k:Nat}(hk:k<m*s):k / s<m:=Nat.div_lt_of_lt_mul (by rwa [cj])
theorem V1 {s:Nat}(hs:0<s)(i r:Nat)(a:r<s):(i*s+r) / s=i/\(i*s+r) % s=r:=by
 constructor
 .rw[dv,Nat.add_mul_div_right _ _ hs,Nat.div_eq_of_lt a,cY]
 .rw[dv,Nat.add_mul_mod_self_right,bZ a]
theorem X3 {m s i r:Nat}(hi:i<m)(a:r<s):i*s+r<m*s:=by
 have:(i+1)*s<=m*s:=dq s hi;rw[dY,cA]at this;lia
section
variable {m s:Nat}(hs:0<s)
include hs
theorem zt2 {p:List Nat}(hp:IsT m p){k:Nat}(hk:k<m*s):p.getD (k / s) 0*s+k % s<m*s:=X3 (hp.step_lt (N6 hk)) (bJ _ hs)
theorem S8 {p:List Nat}(f:IsT m p):IsT (m*s) (zz0 m s p):=by
 refine isT_of (by rw[zz0,aa,aA]) ?_ ?_
 .rw[List.Nodup,zz0,aZ];refine aN.imp_of_mem λ{x y} j c b e=>b ?_;have a:=av.mp j;have d:=av.mp c;have h1:=V1 hs (p.getD (x / s) 0) (x % s) (bJ _ hs);have h2:=V1 hs (p.getD (y / s) 0) (y % s) (bJ _ hs);rw[e]at h1;have g:=f.step_inj (N6 a) (N6 d) (h1.1.symm.trans h2.1);have h:=h1.2.symm.trans h2.2;rw[←bX x s,←bX y s,g,h]
 .intro y c;obtain⟨k,i,rfl⟩:=az.mp c;exact zt2 hs f (av.mp i)
theorem yv5:Hom m (m*s) (zz0 m s):=by
 refine⟨λt f=>S8 hs f,λa b d hb=>?_,?_,λa b d hb h=>?_⟩
 .refine d3 (S8 hs (d.beh hb)) ((S8 hs d).beh (S8 hs hb)) λk c=>?_;have h1:=V1 hs (a.getD (k / s) 0) (k % s) (bJ _ hs);rw[S7 _ c,beh_get (S8 hs d) c,S7 _ c,S7 _ (zt2 hs d c),h1.1,h1.2,beh_get d (N6 c)]
 .refine d3 (S8 hs (IsT.range m)) (IsT.range _) λk c=>?_;rw[S7 _ c,still_get (N6 c),still_get c,cj,bX]
 .refine d3 d hb λi hi=>?_;have c:i*s+0<m*s:=X3 hi hs;have h1:=S7 (m:=m) (s:=s) a c;have h2:=S7 (m:=m) (s:=s) b c;have e:=V1 hs i 0 hs;rw[h,h2,e.1,e.2]at h1;exact Nat.eq_of_mul_eq_mul_right hs (Nat.add_right_cancel h1).symm
end
section
variable {n m s:Nat}{W:List Nat}{ix:Nat->Nat}(hs:0<s)(hW:W.Nodup)(hlt:∀x∈W,x<n)(hl:W.length=m*s)(hix:∀k,k<m*s->ix (W.getD k 0)=k / s)
def hb (n m s:Nat)(W p:List Nat):List Nat:=sp n W (zz0 m s p)
include hs hW hlt hl in
theorem G9:Hom m n (hb n m s W):=by
 have h1:=sp_hom hW hlt;rw[hl]at h1;exact(yv5 hs).comp h1
include hs hW hlt hl in
theorem zu3 {p:List Nat}(b:IsT m p){k:Nat}(a:k<m*s):(hb n m s W p).getD (W.getD k 0) 0=W.getD (p.getD (k / s) 0*s+k % s) 0:=by
 rw[hb,sp_in hW hlt _ (by lia),S7 _ a]
include hs hW hlt hl in
theorem zu4 {p:List Nat}(hp:IsT m p):Only n W (hb n m s W p):=sp_only hW hlt (by rw[hl];exact S8 hs hp)
include hl in
theorem yq1 {a:Nat}(b:a∈W):∃k,k<m*s/\W.getD k 0=a:=by
 obtain⟨k,c,rfl⟩:=bt.mp b;exact⟨k,by lia,by rw[ae,ac c];rfl⟩
include hl in
theorem zf5 {k:Nat}(b:k<m*s):W.getD k 0∈W:=by
 have a:k<W.length:=by lia
 rw[ae,ac a];exact bY a
include hs hW hlt hl hix in
theorem ym1 {p:List Nat}(c:IsT m p){a:Nat}(d:a∈W):ix ((hb n m s W p).getD a 0)=p.getD (ix a) 0:=by
 obtain⟨k,b,rfl⟩:=yq1 hl d;rw[zu3 hs hW hlt hl c b,hix k b,hix _ (zt2 hs c b),(V1 hs _ _ (bJ _ hs)).1]
structure Wr (n:Nat) (W:List Nat) (ix:Nat->Nat) (x:List Nat):Prop where
 isT:IsT n x
 only:Only n W x
 kp:∀a∈W,∀b∈W,ix a=ix b->ix (x.getD a 0)=ix (x.getD b 0)
include hlt in
theorem Wr.beh {x y:List Nat}(hx:Wr n W ix x)(hy:Wr n W ix y):Wr n W ix (beh x y) :=
 ⟨hx.isT.beh hy.isT,λa ha hn=>by rw[beh_get hx.isT ha,hx.only a ha hn,hy.only a ha hn],λa ha b hb e=>by
  rw[beh_get hx.isT (hlt a ha),beh_get hx.isT (hlt b hb)]
  exact hy.kp _ (Only.stay hx.isT hlt hx.only ha) _ (Only.stay hx.isT hlt hx.only hb) (hx.kp a ha b hb e)⟩
theorem KpI.wr {x:List Nat}(h:KpI n W ix x):Wr n W ix x:=⟨h.isT,h.only,λa ha b hb e=>by rw[h.kp a ha,h.kp b hb,e]⟩
include hs hW hlt hl hix in
theorem yy2 {p:List Nat}(hp:IsT m p):Wr n W ix (hb n m s W p):=⟨(G9 hs hW hlt hl).isT p hp,zu4 hs hW hlt hl hp,λa ha b hb e=>by rw[ym1 hs hW hlt hl hix hp ha,ym1 hs hW hlt hl hix hp hb,e]⟩
theorem xh0 {l m:List Nat}(h1:l.Nodup)(h2:∀y∈l,y∈m):l.length<=m.length:=by
 refine bE λc=>?_;have a:=yc8 h1 h2 (by lia);have:=a.length_eq;lia
include hs hW hlt hl hix in
theorem xe1 {x:List Nat}(h:Wr n W ix x):∃p,IsT m p/\∀a∈W,ix (x.getD a 0)=p.getD (ix a) 0:=by
 have q:∀a∈W,ix a<m:=λa E=>by
  obtain⟨k,v,rfl⟩:=yq1 hl E;rw[hix k v];exact N6 v
 have o:∀i,i<m->i*s+0<m*s:=λi hi=>X3 hi hs;have get:∀i,i<m->((List.range m).map λi=>ix (x.getD (W.getD (i*s+0) 0) 0)).getD i 0=ix (x.getD (W.getD (i*s+0) 0) 0):=λi hi=>by
  rw[ae,af,aD hi];rfl
 have D:∀i,i<m->ix (W.getD (i*s+0) 0)=i:=λi hi=>by rw[hix _ (o i hi),(V1 hs i 0 hs).1]
 have all:∀i,i<m->∀r,r<s->ix (x.getD (W.getD (i*s+r) 0) 0)=ix (x.getD (W.getD (i*s+0) 0) 0):=λi hi r b=>h.kp _ (zf5 hl (X3 hi b)) _ (zf5 hl (o i hi)) (by rw[D i hi,hix _ (X3 hi b),(V1 hs i r b).1]);refine⟨(List.range m).map λi=>ix (x.getD (W.getD (i*s+0) 0) 0),isT_of (by rw[aa,aA]) ?_ ?_,λa E=>?_⟩
 .rw[List.Nodup,aZ];refine aN.imp_of_mem λ{i j} hi L G e=>?_;have c:=av.mp hi;have d:=av.mp L;have g:∀k w,k<m*s->w<m*s->x.getD (W.getD k 0) 0=x.getD (W.getD w 0) 0->k=w:=λk w v H z=>by
   have O:=h.isT.step_inj (hlt _ (zf5 hl v)) (hlt _ (zf5 hl H)) z;have J:W[k]?=some (W.getD k 0):=by rw[ae,ac (by lia)];rfl
   have N:W[w]?=some (W.getD w 0):=by rw[ae,ac (by lia)];rfl
   rw[O]at J;exact(idxOf_at hW J).symm.trans (idxOf_at hW N)
  have:=xh0 (l:=((List.range s).map λr=>x.getD (W.getD (i*s+r) 0) 0)++((List.range s).map λr=>x.getD (W.getD (j*s+r) 0) 0)) (m:=(List.range s).map λr=>W.getD (ix (x.getD (W.getD (i*s+0) 0) 0)*s+r) 0) ?_ ?_
  .rw[ag,aa,aa,aa,aA]at this;lia
  .refine bj.mpr ⟨?_,?_,λy f z M F=>?_⟩
   .rw[List.Nodup,aZ];refine aN.imp_of_mem λ{r t} b B u z=>u ?_;have:=g _ _ (X3 c (av.mp b)) (X3 c (av.mp B)) z;lia
   .rw[List.Nodup,aZ];refine aN.imp_of_mem λ{r t} b B u z=>u ?_;have:=g _ _ (X3 d (av.mp b)) (X3 d (av.mp B)) z;lia
   .obtain⟨r,b,rfl⟩:=az.mp f;obtain⟨t,B,rfl⟩:=az.mp M;have A:=av.mp b;have C:=av.mp B;have:=g _ _ (X3 c A) (X3 d C) F;have I:=(V1 hs i r A).1;rw[this,(V1 hs j t C).1]at I;exact G I.symm
  .have put:∀y∈W,ix y=ix (x.getD (W.getD (i*s+0) 0) 0)->y∈(List.range s).map λr=>W.getD (ix (x.getD (W.getD (i*s+0) 0) 0)*s+r) 0:=λy f K=>by
    obtain⟨k,v,rfl⟩:=yq1 hl f;rw[←K,hix k v];exact az.mpr ⟨k % s,av.mpr (bJ _ hs),by rw[cj,bX]⟩
   intro y f;rcases aI.mp f with f|f
   .obtain⟨r,b,rfl⟩:=az.mp f;exact put _ (Only.stay h.isT hlt h.only (zf5 hl (X3 c (av.mp b)))) (all i c r (av.mp b))
   .obtain⟨r,b,rfl⟩:=az.mp f;exact put _ (Only.stay h.isT hlt h.only (zf5 hl (X3 d (av.mp b)))) ((all j d r (av.mp b)).trans e.symm)
 .intro y f;obtain⟨i,hi,rfl⟩:=az.mp f;exact q _ (Only.stay h.isT hlt h.only (zf5 hl (o i (av.mp hi))))
 .have hi:=q a E;rw[get _ hi];exact h.kp a E _ (zf5 hl (o _ hi)) (D _ hi).symm
include hs hW hlt hl hix in
theorem xe0 {x p:List Nat}(h:Wr n W ix x)(c:IsT m p)(j:∀a∈W,ix (x.getD a 0)=p.getD (ix a) 0):KpI n W ix (beh x (bk n (hb n m s W p))):=by
 have e:=G9 (n:=n) hs hW hlt hl;rw[←e.bk c];have i:=zu4 (n:=n) hs hW hlt hl c.bk;refine⟨h.isT.beh (e.isT _ c.bk),λa b g=>by rw[beh_get h.isT b,h.only a b g,i a b g],λa b=>?_⟩;have d:ix a<m:=by
  obtain⟨k,f,rfl⟩:=yq1 hl b;rw[hix k f];exact N6 f
 rw[beh_get h.isT (hlt a b),ym1 hs hW hlt hl hix c.bk (Only.stay h.isT hlt h.only b),j a b,P5 c d]
structure WrS (n m s:Nat) (W:List Nat) (ix:Nat->Nat) (S:List (List Nat)):Prop where
 made:∀z∈S,KpI n W ix z∨∃p,IsT m p/\z=hb n m s W p
 ex:∀r,r<s->∀t,t<s->r≠t->∃u,R4 n (W.getD r 0) (W.getD t 0) u/\Grp n (λz=>z∈S) u
 all:∀p,IsT m p->Grp n (λz=>z∈S) (hb n m s W p)
section
variable {S:List (List Nat)}(hS:WrS n m s W ix S)
include hs hW hlt hl hS in
theorem WrS.isT:∀z∈S,IsT n z:=λz hz=>by
 rcases hS.made z hz with h|⟨p,hp,rfl⟩
 .exact h.isT
 .exact(G9 hs hW hlt hl).isT p hp
include hs hW hlt hl hix hS in
theorem WrS.kp (x:List Nat)(h:KpI n W ix x):Grp n (λz=>z∈S) x:=by
 have hT:=hS.isT hs hW hlt hl;refine ym6 hlt hT (λa F b w A e=>?_) x h;obtain⟨k,C,rfl⟩:=yq1 hl F;obtain⟨q,y,rfl⟩:=yq1 hl w;rw[hix k C,hix q y]at e;have hi:=N6 C;have hm:0<m:=by lia
 have f:k % s<s:=bJ _ hs;have d:q % s<s:=bJ _ hs;obtain⟨p,l,E⟩:∃p,IsT m p/\p.getD 0 0=k / s:=by
  by_cases c:0=k / s
  .exact⟨List.range m,IsT.range m,by rw[still_get hm];exact c⟩
  .obtain⟨t,D⟩:=ya2 hm hi c;exact⟨t,D.isT,D.to⟩
 have g:k % s≠q % s:=λz=>A (by rw[←bX k s,←bX q s,e,z]);obtain⟨u,H,G⟩:=hS.ex _ f _ d g;have v:∀r,r<s->r<m*s:=λr o=>by have:=X3 (i:=0) hm o;lia
 have j:∀r,r<s->r / s=0/\r % s=r:=λr o=>⟨Nat.div_eq_of_lt o,bZ o⟩;have B:=hS.all p l;have c:=H.conj (hlt _ (zf5 hl (v _ f))) (hlt _ (zf5 hl (v _ d))) ((G9 (n:=n) hs hW hlt hl).isT p l);rw[zu3 hs hW hlt hl l (v _ f),zu3 hs hW hlt hl l (v _ d),(j _ f).1,(j _ f).2,(j _ d).1,(j _ d).2,E,cj,bX]at c;rw[e,bX]at c;exact⟨_,c,Grp.beh hT (Grp.beh hT (B.bk hT) G) B⟩
include hs hW hlt hl hix hS in
theorem xd9 (x:List Nat):Grp n (λz=>z∈S) x↔Wr n W ix x:=by
 have hT:=hS.isT hs hW hlt hl;have e:=G9 (n:=n) hs hW hlt hl;constructor
 .intro h;refine Grp.keeps (P:=Wr n W ix) (KpI.one hlt).wr (λa z c d=>c.beh hlt ?_) (λa z c d=>c.beh hlt ?_) h
  .rcases hS.made z d with h|⟨p,b,rfl⟩
   .exact h.wr
   .exact yy2 hs hW hlt hl hix b
  .rcases hS.made z d with h|⟨p,b,rfl⟩
   .exact(h.bk hlt).wr
   .rw[←e.bk b];exact yy2 hs hW hlt hl hix b.bk
 .intro h;obtain⟨p,b,f⟩:=xe1 hs hW hlt hl hix h;have:=Grp.beh hT (hS.kp hs hW hlt hl hix _ (xe0 hs hW hlt hl hix h b f)) (hS.all p b);rwa [zk0 h.isT (e.isT p b)]at this
include hs hW hlt hl hix hS in
theorem xk3:gM n S=fac m*gMany n (KpI n W ix) n:=by
 have hT:=hS.isT hs hW hlt hl;have A:=G9 (n:=n) hs hW hlt hl;obtain⟨L,J,K,M⟩:=D4 (n:=n) (G:=KpI n W ix) (λx h=>h.isT) (KpI.one hlt) (λx y b k=>b.beh hlt k) (λx b=>b.bk hlt) n (aq _);have o:∀x,Sym m (List.range m) x↔IsT m x:=λx=>⟨λh=>h.1,λh=>⟨h,λy k H=>absurd (av.mpr k) H⟩⟩;obtain⟨R,N,O,C⟩:=D4 (n:=m) (G:=Sym m (List.range m)) (λx h=>h.1) ((o _).mpr (IsT.range m)) (λx y b k=>(o _).mpr (b.1.beh k.1)) (λx b=>(o _).mpr b.1.bk) m (aq _);have d:∀p,p∈R↔IsT m p:=λp=>(O p).trans ⟨λh=>h.1.1,λh=>⟨(o p).mpr h,by rw[ci];exact Fix.zero p⟩⟩;have g:∀x,x∈L↔KpI n W ix x:=λx=>(K x).trans ⟨λh=>h.1,λh=>⟨h,by rw[ci];exact Fix.zero x⟩⟩;rw[yf2 aN (λx b=>av.mp b),aA]at C;have j:∀p∈R,∀z∈L,∀a∈W,ix ((TM.beh z (hb n m s W p)).getD a 0)=p.getD (ix a) 0:=λp f z l a r=>by
  have c:=(g z).mp l;rw[beh_get c.isT (hlt a r),ym1 hs hW hlt hl hix ((d p).mp f) (Only.stay c.isT hlt c.only r),c.kp a r]
 rw[zi7 (L:=R.flatMap λp=>L.map λz=>TM.beh z (hb n m s W p)) ?_ λx=>?_,zj5 _ L.length _ λp _=>aa _,M,C]
 .refine B4 _ _ N (λp f=>?_) λp f q B u x b v=>?_
  .rw[List.Nodup,aZ];exact J.imp_of_mem λ{x y} b k w h=>w (L7 ((g x).mp b).isT ((g y).mp k).isT (A.isT p ((d p).mp f)) h)
  .obtain⟨z,l,rfl⟩:=az.mp b;obtain⟨D,c,e⟩:=az.mp v;refine u (d3 ((d p).mp f) ((d q).mp B) λi hi=>?_);have t:i*s+0<m*s:=X3 hi hs;have F:ix (W.getD (i*s+0) 0)=i:=by rw[hix _ t,(V1 hs i 0 hs).1]
   have h1:=j p f z l _ (zf5 hl t);have h2:=j q B D c _ (zf5 hl t);have E:TM.beh D (hb n m s W q)=TM.beh z (hb n m s W p):=e;rw[E,h1,F]at h2;exact h2
 .rw[xd9 hs hW hlt hl hix hS,dr];constructor
  .rintro⟨p,f,b⟩;obtain⟨z,l,rfl⟩:=az.mp b;exact((g z).mp l).wr.beh hlt (yy2 hs hW hlt hl hix ((d p).mp f))
  .intro h;obtain⟨p,f,I⟩:=xe1 hs hW hlt hl hix h;exact⟨p,(d p).mpr f,az.mpr ⟨_,(g _).mpr (xe0 hs hW hlt hl hix h f I),zk0 h.isT (A.isT p f)⟩⟩
end
end
end TM
namespace TM
theorem ya5 {a b c:Nat}(hc:0<c):Nat.gcd (Nat.lcm a b) c ∣ Nat.lcm (Nat.gcd a c) (Nat.gcd b c):=by
 generalize ed:Nat.gcd (Nat.lcm a b) c=d;have i:d ∣ Nat.lcm a b:=by rw[←ed];exact Nat.gcd_dvd_left _ _
 have g:d ∣ c:=by rw[←ed];exact Nat.gcd_dvd_right _ _
 have h:0<d:=Nat.pos_of_dvd_of_pos g hc;have j:0<Nat.gcd (Nat.gcd d a) (Nat.gcd d b):=Nat.gcd_pos_of_pos_left _ (Nat.gcd_pos_of_pos_left _ h);have e:d*Nat.gcd (Nat.gcd d a) (Nat.gcd d b) ∣ Nat.gcd d a*Nat.gcd d b:=by
  rw[←Nat.gcd_mul_left (Nat.gcd d a) d b];refine Nat.dvd_gcd ?_ ?_
  .rw[cj];exact Nat.mul_dvd_mul (Nat.gcd_dvd_left _ _) (Nat.dvd_refl _)
  .rw[←Nat.gcd_mul_right d b a];refine Nat.dvd_gcd ?_ ?_
   .exact Nat.mul_dvd_mul (Nat.dvd_refl _) (Nat.dvd_trans (Nat.gcd_dvd_right _ _) (Nat.gcd_dvd_right _ _))
   .rw[←Nat.gcd_mul_lcm a b,cj];exact Nat.mul_dvd_mul (Nat.dvd_gcd (Nat.dvd_trans (Nat.gcd_dvd_left _ _) (Nat.gcd_dvd_right _ _)) (Nat.dvd_trans (Nat.gcd_dvd_right _ _) (Nat.gcd_dvd_right _ _))) i
 rw[←Nat.gcd_mul_lcm (Nat.gcd d a) (Nat.gcd d b),cj d]at e;have f:=Nat.dvd_of_mul_dvd_mul_left j e;refine Nat.dvd_trans f (gf (Nat.dvd_trans (Nat.dvd_gcd (Nat.gcd_dvd_right _ _) (Nat.dvd_trans (Nat.gcd_dvd_left _ _) g)) (fV _ _)) (Nat.dvd_trans (Nat.dvd_gcd (Nat.gcd_dvd_right _ _) (Nat.dvd_trans (Nat.gcd_dvd_left _ _) g)) (Nat.dvd_lcm_right _ _)))
def ys2:List (Nat×Nat)->Nat
 | []=>1
 | a::l=>Nat.lcm a.2 (ys2 l)
theorem yb4 {c z:Nat}(hc:0<c):∀l:List (Nat×Nat),(∀a∈l,Nat.gcd a.2 c ∣ z)->Nat.gcd (ys2 l) c ∣ z
 | [],_=>by rw[ys2,Nat.gcd_one_left];exact Nat.one_dvd _
 | a::l,h=>Nat.dvd_trans (ya5 hc) (gf (h a ao) (yb4 hc l λb hb=>h b (ah _ hb)))
theorem yb5:∀l:List (Nat×Nat),(∀a∈l,0<a.2)->0<ys2 l
 | [],_=>eM
 | a::l,h=>Nat.lcm_pos (h a ao) (yb5 l λb hb=>h b (ah _ hb))
theorem ya1:∀{l:List (Nat×Nat)} {a:Nat×Nat},a∈l->a.2 ∣ ys2 l
 | [],_,h=>absurd h bC
 | b::l,a,h=>by
  rcases ay.mp h with rfl|h
  .exact fV _ _
  .exact Nat.dvd_trans (ya1 h) (Nat.dvd_lcm_right _ _)
theorem xf2 {L l K f:Nat}(r:0<L)(hl:0<l)(h:((Nat.gcd L l:Nat):Int) ∣ (f:Int)-(K:Int)):∃K':Nat,(L:Int) ∣ (K':Int)-(K:Int)/\(l:Int) ∣ (K':Int)-(f:Int):=by
 have q:0<Nat.gcd L l:=Nat.gcd_pos_of_pos_left _ r;obtain⟨c,m⟩:=Nat.gcd_dvd_left L l;obtain⟨d,i⟩:=Nat.gcd_dvd_right L l;have o:Nat.gcd c d=1:=by
  have:=Nat.gcd_mul_left (Nat.gcd L l) c d;rw[←m,←i]at this;exact Nat.eq_of_mul_eq_mul_left q (by rw[←this,dH])
 generalize Nat.gcd L l=g at *;have v:0<d:=Nat.pos_of_ne_zero λz=>by rw[z,Nat.mul_zero]at i;lia
 obtain⟨z,t⟩:=h;obtain⟨j,s⟩:=ym4 v o;have k:(d:Int) ∣ (c:Int)*(j:Int)-1:=zy1 s;have un:=bh ((j:Int)*z) (show(d:Int)≠0 by lia);have n:(d:Int) ∣ (j:Int)*z-(j:Int)*z % (d:Int):=Int.dvd_self_sub_emod;generalize ((j:Int)*z % (d:Int))=u at un n;obtain⟨e,rfl⟩:=Int.eq_ofNat_of_zero_le un;refine⟨K+L*e,⟨(e:Int),by rw[cM,cm];lia⟩,?_⟩;have p:(((K+L*e:Nat)):Int)-(f:Int)=(g:Int)*((c:Int)*(e:Int)-z):=by
  rw[Int.mul_sub,←t,←Int.mul_assoc,←cm,←m,cM,cm];lia
 rw[p,i,cm];refine Int.mul_dvd_mul (Int.dvd_refl _) ?_;obtain⟨a,w⟩:=k;obtain⟨b,hb⟩:=n;refine⟨a*z-(c:Int)*b,?_⟩;have h1:(c:Int)*(e:Int)=(c:Int)*((j:Int)*z)-(c:Int)*((d:Int)*b):=by
  rw[←Int.mul_sub];congr 1;lia
 have h2:(c:Int)*((j:Int)*z)=z+(d:Int)*a*z:=by
  rw[←Int.mul_assoc,show(c:Int)*(j:Int)=1+(d:Int)*a by lia,Int.add_mul,cV]
 rw[h1,h2,Int.mul_sub,Int.mul_left_comm (c:Int),Int.mul_assoc];lia
theorem crt:∀l:List (Nat×Nat),(∀a∈l,0<a.2)->(∀a∈l,∀b∈l,((Nat.gcd a.2 b.2:Nat):Int) ∣ (a.1:Int)-(b.1:Int))->∃K:Nat,∀a∈l,(a.2:Int) ∣ (K:Int)-(a.1:Int)
 | [],_,_=>⟨0,λa h=>absurd h bC⟩
 | x::l,h0,h=>by
  have h0':∀a∈l,0<a.2:=λa ha=>h0 a (ah _ ha)
  obtain⟨K,hK⟩:=crt l h0' λa ha b hb=>h a (ah _ ha) b (ah _ hb)
  have x0:=h0 x ao
  have hd:((Nat.gcd (ys2 l) x.2:Nat):Int) ∣ (x.1:Int)-(K:Int):=by
   rw[Int.ofNat_dvd_left]
   refine yb4 x0 l λa ha=>?_
   rw[←Int.ofNat_dvd_left]
   have h1:=h x ao a (ah _ ha)
   rw[eY]at h1
   have h2:((Nat.gcd a.2 x.2:Nat):Int) ∣ (K:Int)-(a.1:Int):=Int.dvd_trans (Int.natCast_dvd_natCast.mpr (Nat.gcd_dvd_left _ _)) (hK a ha)
   have:=Int.dvd_sub h1 h2
   rwa [show(x.1:Int)-(a.1:Int)-((K:Int)-(a.1:Int))=(x.1:Int)-(K:Int) by lia]at this
  obtain⟨K',h1,h2⟩:=xf2 (yb5 l h0') x0 hd
  refine⟨K',λa ha=>?_⟩
  rcases ay.mp ha with rfl|ha
  .exact h2
  .have h3:=Int.dvd_trans (Int.natCast_dvd_natCast.mpr (ya1 ha)) h1
   have:=Int.dvd_add h3 (hK a ha)
   rwa [show(K':Int)-(K:Int)+((K:Int)-(a.1:Int))=(K':Int)-(a.1:Int) by lia]at this
def Alg (t x:List Nat)(p f:Nat):Prop:=f<per t p/\∀k,k<per t p->x.getD (it t k p) 0=it t ((k+f) % per t p) p
section
variable {n:Nat}{t x:List Nat}(hT:IsT n t)
include hT
theorem Alg.uniq {p f a:Nat}(c:p<n)(h:Alg t x p f)(h':a<per t p)(e:it t a p=x.getD p 0):a=f:=by
 have b:=h.2 0 (hT.per_pos c);rw[cY,bZ h.1]at b;exact hT.it_eq_iff c h' h.1 (e.trans b)
theorem xb1 (m:Int){y:Nat}(a:y<n):(pwT t m).getD y 0=pw t m y:=by rw[ae,hT.pwT_get m a];rfl
theorem alg_pw (m:Int){p:Nat}(a:p<n):Alg t (pwT t m) p (m % (per t p:Int)).toNat:=by
 have pos:=hT.per_pos a;have h1:=bh m (show(per t p:Int)≠0 by lia);have h2:=cH m (show(0:Int)<(per t p:Int) by lia);refine⟨by lia,λk b=>?_⟩;rw[xb1 hT m (hT.it_lt a k)];have h:=hT.pw_at (h:=p) (i:=k) a b m;have e:(((k:Int)+m) % (per t p:Int)).toNat=(k+(m % (per t p:Int)).toNat) % per t p:=by
  have:(((k+(m % (per t p:Int)).toNat) % per t p:Nat):Int)=((k:Int)+m) % (per t p:Int):=by
   rw[cE,cM,bB h1,Int.add_emod_emod]
  lia
 rw[e,cyc_get (bJ _ pos)]at h;exact(Option.some.inj h).symm
theorem pow_iff {i:List (Nat×Nat)}{sp:List (Nat×Nat)}(w:x.length=n)(l:∀a∈i,a.1<n/\Alg t x a.1 a.2)(B:∀y,y<n->∃a∈i,y∈cyc t a.1)(f:∀b,b∈sp↔∃a∈i,b=(a.2,per t a.1)):(∃m:Int,x=pwT t m)↔∀a∈sp,∀b∈sp,((a.1:Int)-(b.1:Int)) % ((Nat.gcd a.2 b.2:Nat):Int)=0:=by
 constructor
 .rintro⟨m,rfl⟩ a g b hb;obtain⟨p,c,rfl⟩:=(f a).mp g;obtain⟨q,F,rfl⟩:=(f b).mp hb;have one:∀p∈i,(per t p.1:Int) ∣ m-(p.2:Int):=λp c=>by
   obtain⟨d,o⟩:=l p c;have h1:=alg_pw hT m d;have s:=h1.2 0 (hT.per_pos d);rw[cY,bZ h1.1]at s;have e:=o.uniq hT d h1.1 s.symm;have E:=bh m (show(per t p.1:Int)≠0 by have:=hT.per_pos d;lia);rw[←e,bB E];exact Int.dvd_self_sub_emod
  refine Int.emod_eq_zero_of_dvd ?_;have h1:=Int.dvd_trans (Int.natCast_dvd_natCast.mpr (Nat.gcd_dvd_left (per t p.1) (per t q.1))) (one p c);have h2:=Int.dvd_trans (Int.natCast_dvd_natCast.mpr (Nat.gcd_dvd_right (per t p.1) (per t q.1))) (one q F);have:=Int.dvd_sub h2 h1;rwa [show m-(q.2:Int)-(m-(p.2:Int))=(p.2:Int)-(q.2:Int) by lia]at this
 .intro h;obtain⟨K,C⟩:=crt sp (λa g=>by obtain⟨p,c,rfl⟩:=(f a).mp g;exact hT.per_pos (l p c).1) λa g b hb=>Int.dvd_of_emod_eq_zero (h a g b hb);refine⟨(K:Int),hT.eq_pwT w λy G=>?_⟩;obtain⟨a,g,r⟩:=B y G;obtain⟨c,u⟩:=l a g;have pos:=hT.per_pos c;obtain⟨k,v,rfl⟩:=mem_cyc.mp r;have D:=C (a.2,per t a.1) ((f _).mpr ⟨a,g,rfl⟩);have z:=u.2 k v;have j:=(alg_pw hT (K:Int) c).2 k v;rw[xb1 hT _ (hT.it_lt c k)]at j;have A:((K:Int) % (per t a.1:Int)).toNat=a.2:=by
   have h1:=Int.emod_emod_of_dvd;have:(K:Int) % (per t a.1:Int)=(a.2:Int) % (per t a.1:Int):=Int.emod_eq_emod_iff_emod_sub_eq_zero.mpr (Int.emod_eq_zero_of_dvd D);rw[this,Int.emod_eq_of_lt (by lia) (by have:=u.1;lia)];rfl
  rw[A]at j;have hlt:it t k a.1<x.length:=by rw[w];exact hT.it_lt c k
  rw[j,←z,ae,ac hlt];rfl
end
end TM
namespace TM
open Classical
theorem yh1 {a b:List Nat}{k:Nat}(h:k<a.length):(a++b).getD k 0=a.getD k 0:=by
 rw[ae,bd h,←ae]
theorem yx9 {a b:List Nat}{k:Nat}(h:a.length<=k):(a++b).getD k 0=b.getD (k-a.length) 0:=by
 rw[ae,bo h,←ae]
theorem yy8:IsT 2 [1,0]:=isT_of rfl (by decide) (by decide)
theorem yl6 {n a b:Nat}(f:a<n)(hb:b<n)(d:a≠b):R4 n a b (sp n [a,b] [1,0])/\Only n [a,b] (sp n [a,b] [1,0]):=by
 have hW:[a,b].Nodup:=by simp[d]
 have hlt:∀x∈[a,b],x<n:=λx c=>by
  rcases ay.mp c with rfl|c
  .exact f
  .rw[ar.mp c];exact hb
 have e:=sp_only (n:=n) hW hlt (row:=[1,0]) yy8;refine⟨⟨sp_isT hW hlt yy8,sp_in hW hlt [1,0] (k:=0) (by simp),sp_in hW hlt [1,0] (k:=1) (by simp),λx c h1 h2=>e x c ?_⟩,e⟩;simp[h1,h2]
theorem xo8 {n:Nat}{W:List Nat}(hW:W.Nodup)(hlt:∀x∈W,x<n){k:Nat}(a:k+1<W.length):(sp n W (dh W.length 1 1)).getD (W.getD k 0) 0=W.getD (k+1) 0:=by
 rw[sp_in hW hlt _ (Nat.lt_of_succ_lt a),dh_get (by lia) _ _ (Nat.lt_of_succ_lt a),show(1:Int)+1*(k:Int)=((k+1:Nat):Int) by lia,Int.emod_eq_of_lt (by lia) (by lia),aK]
theorem wAt {W:List Nat}{k:Nat}(a:k<W.length):W[k]?=some (W.getD k 0):=by rw[ae,ac a];rfl
theorem wIn {W:List Nat}{k:Nat}(hk:k<W.length):W.getD k 0∈W:=ax (wAt hk)
theorem wNe {W:List Nat}(hW:W.Nodup){j k:Nat}(hj:j<W.length)(hk:k<W.length)(h:j≠k):W.getD j 0≠W.getD k 0:=λe=>by
 have h1:=wAt hj
 rw[e]at h1
 exact h ((idxOf_at hW h1).symm.trans (idxOf_at hW (wAt hk)))
def mk0 (n:Nat)(odd:Bool)(P:List Nat):List (List Nat):=if odd=true then(if 1<P.length then[sp n P (dh P.length 1 1),sp n [P.getD 0 0,P.getD 1 0] [1,0]] else[]) else(List.range (P.length-1)).map λk=>sp n [P.getD k 0,P.getD (k+1) 0] [1,0]
section
variable {n:Nat}{P:List Nat}(hW:P.Nodup)(hlt:∀x∈P,x<n)(odd:Bool)
include hW hlt
theorem zv4 {k:Nat}(a:k+1<P.length):R4 n (P.getD k 0) (P.getD (k+1) 0) (sp n [P.getD k 0,P.getD (k+1) 0] [1,0])/\Only n P (sp n [P.getD k 0,P.getD (k+1) 0] [1,0]):=by
 have c:=wIn (Nat.lt_of_succ_lt a);have d:=wIn a;obtain⟨h1,h2⟩:=yl6 (hlt _ c) (hlt _ d) (wNe hW (Nat.lt_of_succ_lt a) a (by lia));exact⟨h1,h2.more λx b=>by
  rcases ay.mp b with rfl|b
  .exact c
  .rw[ar.mp b];exact d⟩
theorem yb9:∀t∈mk0 n odd P,IsT n t/\Only n P t:=λt ht=>by
 unfold mk0 at ht
 by_cases c:odd=true
 .rw[if_pos c]at ht
  by_cases h1:1<P.length
  .rw[if_pos h1]at ht
   have dT:=dh_isT (s:=P.length) (by lia) 1 (.inl rfl)
   rcases ay.mp ht with rfl|ht
   .exact⟨sp_isT hW hlt dT,sp_only hW hlt dT⟩
   .rw[ar.mp ht]
    have:=zv4 hW hlt (k:=0) h1
    exact⟨this.1.isT,this.2⟩
  .rw[if_neg h1]at ht
   cases ht
 .rw[if_neg c]at ht
  obtain⟨k,hk,rfl⟩:=az.mp ht
  have:=zv4 hW hlt (k:=k) (by have:=av.mp hk;lia)
  exact⟨this.1.isT,this.2⟩
theorem ym9 {S:List Nat->Prop}(hS:∀s,S s->IsT n s)(hm:∀t∈mk0 n odd P,S t):zy9 n P S:=by
 unfold mk0 at hm;by_cases c:odd=true
 .rw[if_pos c]at hm;by_cases h1:1<P.length
  .rw[if_pos h1]at hm;exact zh3 hS hW hlt (Grp.of hS (hm _ ao)) (λk e=>xo8 hW hlt e) (zv4 hW hlt (k:=0) h1).1 (Grp.of hS (hm _ (ah _ ao)))
  .intro a f b hb d;obtain⟨i,hi,rfl⟩:=bt.mp f;obtain⟨j,g,rfl⟩:=bt.mp hb;obtain rfl:i=j:=by lia
   exact absurd rfl d
 .rw[if_neg c]at hm;refine zh4 hS hW hlt λk e=>⟨_,(zv4 hW hlt e).1,Grp.of hS (hm _ (az.mpr ⟨k,av.mpr (by lia),rfl⟩))⟩
theorem mk0_len:(mk0 n odd P).length<=P.length:=by
 unfold mk0;by_cases c:odd=true
 .rw[if_pos c];by_cases h1:1<P.length
  .rw[if_pos h1];exact h1
  .rw[if_neg h1];exact aY _
 .rw[if_neg c,aa,aA];lia
end
theorem part_at {Ps:List (List Nat)}{i x:Nat}(h:x∈Ps.getD i []):Ps.getD i []∈Ps:=by
 rw[ae]at h ⊢
 cases e:Ps[i]? with
 | none=>rw[e]at h;exact absurd h bC
 | some R=>exact ax e
theorem mem_at {Ps:List (List Nat)}{P:List Nat}(h:P∈Ps):∃i,Ps.getD i []=P:=by
 obtain⟨i,hi⟩:=cv h;exact⟨i,by rw[ae,hi];rfl⟩
theorem in_flat {Ps:List (List Nat)}{P:List Nat}(h:P∈Ps):∀x∈P,x∈Ps.flatten:=λx hx=>cD.mpr ⟨P,h,hx⟩
theorem flat_nd {Ps:List (List Nat)}{P:List Nat}(hW:Ps.flatten.Nodup)(h:P∈Ps):P.Nodup:=List.Nodup.sublist (fj h) hW
section
variable {n:Nat}{Ps:List (List Nat)}(hW:Ps.flatten.Nodup)(hlt:∀x∈Ps.flatten,x<n)
include hW hlt
theorem ym7 {P t:List Nat}(c:P∈Ps)(hT:IsT n t)(b:Only n P t):KpI n Ps.flatten (pix Ps) t:=by
 refine⟨hT,b.more (in_flat c),λa d=>?_⟩;by_cases h:a∈P
 .have h2:=Only.stay hT (λx e=>hlt x (in_flat c x e)) b h;obtain⟨i,rfl⟩:=mem_at c;rw[pix_of hW h,pix_of hW h2]
 .rw[b a (hlt a d) h]
theorem fam0 (odd:Bool):(∀t∈Ps.flatMap (mk0 n odd),IsT n t)/\(∀x,Grp n (λz=>z∈Ps.flatMap (mk0 n odd)) x↔KpI n Ps.flatten (pix Ps) x)/\gM n (Ps.flatMap (mk0 n odd))=prd (Ps.map λP=>fac P.length):=by
 have one:∀P∈Ps,P.Nodup/\∀x∈P,x<n:=λP c=>⟨flat_nd hW c,λx k=>hlt x (in_flat c x k)⟩;have i:∀t∈Ps.flatMap (mk0 n odd),KpI n Ps.flatten (pix Ps) t:=λt d=>by
  obtain⟨P,c,h⟩:=dr.mp d;obtain⟨h1,h2⟩:=yb9 (one P c).1 (one P c).2 odd t h;exact ym7 hW hlt c h1 h2
 have hT:∀t∈Ps.flatMap (mk0 n odd),IsT n t:=λt d=>(i t d).isT;have g:=xg8 (S:=λz=>z∈Ps.flatMap (mk0 n odd)) hlt i λa j b hb f e=>by
  have h1:=pix_in j;have h2:=pix_in hb;rw[←e]at h2;have c:=part_at h1;exact ym9 (one _ c).1 (one _ c).2 odd hT (λt d=>dr.mpr ⟨_,c,d⟩) a h1 b h2 f
 refine⟨hT,g,?_⟩;rw[gM_many hT,show(Grp n λz=>z∈Ps.flatMap (mk0 n odd))=KpI n Ps.flatten (pix Ps) from funext λx=>propext (g x),zk9 hW hlt]
end
theorem xn3 {n a b c:Nat}(j:a<n)(hb:b<n)(hc:c<n)(e:a≠b)(f:a≠c)(g:b≠c):Is3 n a b c (sp n [a,b,c] (dh 3 1 1)):=by
 have hW:[a,b,c].Nodup:=by simp[e,f,g]
 have hlt:∀x∈[a,b,c],x<n:=λx d=>by
  simp only[ay,ba,or_false]at d;rcases d with rfl|rfl|rfl
  .exact j
  .exact hb
  .exact hc
 have h:IsT 3 (dh 3 1 1):=dh_isT (by decide) 1 (.inl rfl);have l:=sp_only (n:=n) hW hlt (row:=dh 3 1 1) h;refine⟨sp_isT hW hlt h,sp_in hW hlt (dh 3 1 1) (k:=0) (by simp),sp_in hW hlt (dh 3 1 1) (k:=1) (by simp),sp_in hW hlt (dh 3 1 1) (k:=2) (by simp),λx d h1 h2 i=>l x d ?_⟩;simp[h1,h2,i]
def mk1 (n:Nat)(P:List Nat):List (List Nat):=(P.drop 2).map λc=>sp n [P.getD 0 0,P.getD 1 0,c] (dh 3 1 1)
theorem fam1 {n:Nat}{P:List Nat}(hW:P.Nodup)(hlt:∀x∈P,x<n)(h2:2<=P.length):(∀t∈mk1 n P,IsT n t)/\(∀x,Grp n (λz=>z∈mk1 n P) x↔Sym n P x/\evn x n=true)/\gM n (mk1 n P)=fac P.length / 2:=by
 obtain⟨a,b,R,rfl⟩:∃a b R,P=a::b::R:=by
  match P,h2 with
  | a::b::R,_=>exact⟨a,b,R,rfl⟩
 have aW:a∈a::b::R:=ao;have bW:b∈a::b::R:=ah _ ao;obtain⟨g,l⟩:=aQ.mp hW;have ab:a≠b:=λe=>g (by rw[e];exact ao);have i:=(aQ.mp l).1;have h:∀c∈R,Is3 n a b c (sp n [a,b,c] (dh 3 1 1)):=λc d=>xn3 (hlt a aW) (hlt b bW) (hlt c (ah _ (ah _ d))) ab (λe=>g (by rw[e];exact ah _ d)) λe=>i (by rw[e];exact d);have e:mk1 n (a::b::R)=R.map λc=>sp n [a,b,c] (dh 3 1 1):=rfl;have hS:∀s∈mk1 n (a::b::R),∃c∈a::b::R,c≠a/\c≠b/\Is3 n a b c s:=λs hs=>by
  rw[e]at hs;obtain⟨c,d,rfl⟩:=az.mp hs;exact⟨c,ah _ (ah _ d),λz=>g (by rw[←z];exact ah _ d),λz=>i (by rw[←z];exact d),h c d⟩
 have f:∀c∈a::b::R,c≠a->c≠b->∃s∈mk1 n (a::b::R),Is3 n a b c s:=λc d j k=>by
  rcases ay.mp d with z|d
  .exact absurd z j
  .rcases ay.mp d with z|d
   .exact absurd z k
   .exact⟨_,by rw[e];exact az.mpr ⟨c,d,rfl⟩,h c d⟩
 refine⟨zi5 hlt aW bW ab hS f,yx1 hlt aW bW ab hS f,?_⟩;have:=yr4 hW hlt aW bW ab hS f;lia
def mk3 (n:Nat)(P:List Nat)(c:Int):List (List Nat):=[sp n P (dh P.length 1 1),sp n P (dh P.length c (-1))]
theorem fam3 {n:Nat}{P:List Nat}(hW:P.Nodup)(hlt:∀x∈P,x<n)(j:3<=P.length)(c:Int):(∀t∈mk3 n P c,IsT n t)/\(∀x,Grp n (λz=>z∈mk3 n P c) x↔∃r,DD P.length r/\x=sp n P r)/\gM n (mk3 n P c)=2*P.length:=by
 have hs:0<P.length:=by lia
 have h:∀x∈[dh P.length 1 1,dh P.length c (-1)],DD P.length x:=λx b=>by
  rcases ay.mp b with rfl|b
  .exact⟨1,1,.inl rfl,rfl⟩
  .rw[ar.mp b];exact⟨c,-1,.inr rfl,rfl⟩
 have a:∀x∈[dh P.length 1 1,dh P.length c (-1)],IsT P.length x:=λx b=>DD.isT hs (h x b);have d:=sp_hom hW hlt;have i:∀t∈mk3 n P c,IsT n t:=λt e=>by
  rcases ay.mp e with rfl|e
  .exact d.isT _ (a _ ao)
  .rw[ar.mp e];exact d.isT _ (a _ (ah _ ao))
 have g:=xm7 hs (S:=[dh P.length 1 1,dh P.length c (-1)]) (st:=1) (c:=c) h (Nat.gcd_one_left _) (Grp.of a ao) (Grp.of a (ah _ ao));have f:∀y,Grp n (λz=>z∈mk3 n P c) y↔∃x,Grp P.length (λz=>z∈[dh P.length 1 1,dh P.length c (-1)]) x/\y=sp n P x:=d.grp a;refine⟨i,λx=>(f x).trans ⟨λ⟨r,h1,h2⟩=>⟨r,(g r).mp h1,h2⟩,λ⟨r,h1,h2⟩=>⟨r,(g r).mpr h1,h2⟩⟩,?_⟩;rw[Alk.size d ⟨i,a,f⟩,xt3 hs j g]
theorem flat_at {s:Nat}(hs:0<s):∀{Ps:List (List Nat)},(∀P∈Ps,P.length=s)->Ps.flatten.length=Ps.length*s/\∀k,k<Ps.length*s->Ps.flatten.getD k 0∈Ps.getD (k / s) []
 | [],_=>⟨by rw[List.flatten_nil];simp,λk hk=>by simp at hk⟩
 | P::Ps,h=>by
  obtain⟨h1,h2⟩:=flat_at hs (Ps:=Ps) λR hR=>h R (ah _ hR)
  have hP:=h P ao
  refine⟨by rw[bw,ag,h1,hP,aC,dY,cA,dv],λk hk=>?_⟩
  rw[aC,dY,cA]at hk
  rw[bw]
  by_cases c:k<s
  .rw[yh1 (by lia),Nat.div_eq_of_lt c]
   exact(wIn (by lia):P.getD k 0∈P)
  .rw[yx9 (by lia),hP]
   have e:k / s=(k-s) / s+1:=by
    rw[←Nat.add_div_right _ hs,Nat.sub_add_cancel (by lia)]
   rw[e]
   exact h2 _ (by lia)
def tw2 (n s:Nat)(W:List Nat):List (List Nat):=[sp n W (dh W.length s 1),sp n (W.take (2*s)) (List.range' s s++List.range s)]
theorem xf0 {m s:Nat}(hs:0<s)(hm:0<m):zz0 m s (dh m 1 1)=dh (m*s) (s:Int) 1:=by
 have a:0<m*s:=gc hm hs;refine d3 (S8 hs (dh_isT hm 1 (.inl rfl))) (dh_isT a _ (.inl rfl)) λk b=>?_;have i:=N6 b;rw[S7 _ b,dh_get hm _ _ i,dh_get a _ _ b];have f:(1:Int)+1*((k / s:Nat):Int)=((k / s+1:Nat):Int):=by lia
 have g:(s:Int)+1*(k:Int)=((s+k:Nat):Int):=by lia
 rw[f,g,←cE,←cE,aK,aK];have j:=bX k s;have d:=bJ k hs;generalize k / s=q at *;generalize k % s=r at *;have h:s+k=(q+1)*s+r:=by rw[dY,cA,cj q s];lia
 rw[h];by_cases c:q+1<m
 .rw[bZ c,bZ (X3 c d)]
 .have e:q+1=m:=by lia
  rw[e,Nat.mod_self,fY,cY,dv,Nat.add_mod_right,bZ];exact aV d (Nat.le_mul_of_pos_left _ hm)
theorem swp_isT (s:Nat):IsT (2*s) (List.range' s s++List.range s):=by
 refine isT_of (by rw[ag,List.length_range',aA];lia) (bj.mpr ⟨List.nodup_range',aN,λa c b hb e=>?_⟩) λy d=>?_
 .have:=df.mp c;have:=av.mp hb;lia
 .rcases aI.mp d with h|h
  .have:=df.mp h;lia
  .have:=av.mp h;lia
theorem xj4 {s k:Nat}(a:k<2*s):(List.range' s s++List.range s).getD k 0=if k<s then s+k else k-s:=by
 by_cases c:k<s
 .rw[if_pos c,yh1 (by rw[List.length_range'];exact c),ae,List.getElem?_range' c,cA];rfl
 .rw[if_neg c,yx9 (by rw[List.length_range'];lia),List.length_range',ae,aD (by lia)];rfl
section
variable {n m s:Nat}{W:List Nat}(hs:0<s)(hm:2<=m)(hW:W.Nodup)(hlt:∀x∈W,x<n)(hl:W.length=m*s)
include hs hm hW hlt hl
theorem xk1:sp n W (dh W.length s 1)=hb n m s W (dh m 1 1):=by
 rw[hb,xf0 hs (by lia),hl]
theorem xk2:sp n (W.take (2*s)) (List.range' s s++List.range s)=hb n m s W (sp m [0,1] [1,0]):=by
 have B:2*s<=m*s:=dq _ hm;have r:(W.take (2*s)).length=2*s:=by rw[aX];lia
 have f:(W.take (2*s)).Nodup:=List.Nodup.sublist (dU _ _) hW;have d:∀x∈W.take (2*s),x<n:=λx p=>hlt x (bI p);have u:IsT (W.take (2*s)).length (List.range' s s++List.range s):=by rw[r];exact swp_isT s
 obtain⟨g,_⟩:=yl6 (n:=m) (a:=0) (b:=1) (by lia) (by lia) (by decide);have q:=(G9 (n:=n) hs hW hlt hl).isT _ g.isT;have v:∀k,k<2*s->(W.take (2*s)).getD k 0=W.getD k 0:=λk o=>by
  rw[ae,cr o,←ae]
 refine sp_ext hW hlt (sp_isT f d u) q (λk o=>?_) λx p y=>?_
 .have h:k<m*s:=by lia
  rw[zu3 hs hW hlt hl g.isT h];have w:=bX k s;have E:=bJ k hs;by_cases c:k<2*s
  .have:=sp_in (n:=n) f d (List.range' s s++List.range s) (k:=k) (by lia);rw[v k c,xj4 c]at this;rw[this];by_cases i:k<s
   .have l:k / s=0:=Nat.div_eq_of_lt i;rw[if_pos i,l,g.to,cA,bZ i,v _ (by lia)]
   .have l:k / s=1:=by
     have:=(V1 hs 1 (k-s) (by lia)).1;rwa [cA,show s+(k-s)=k by lia]at this
    rw[l,dH]at w;rw[if_neg i,l,g.fro,fY,cY,v _ (by lia),show k-s=k % s by lia]
  .have t:W.getD k 0∉W.take (2*s):=λz=>by
    obtain⟨j,C,e⟩:=bt.mp z;rw[List.getElem_take]at e;have A:j<2*s:=by lia
    refine wNe hW (show j<W.length by lia) o (show j≠k by lia) ?_;rw[←e,ae,ac (by lia)];rfl
   rw[sp_out f d _ (hlt _ (wIn o)) t];have D:2<=k / s:=(Nat.le_div_iff_mul_le hs).mpr (by lia);rw[g.out _ (N6 h) (by lia) (by lia),cj,w]
 .rw[sp_out f d _ p λz=>y (bI z),zu4 hs hW hlt hl g.isT x p y]
end
def mk2 (n:Nat)(odd:Bool)(Ps:List (List Nat)):List (List Nat):=mk0 n odd (Ps.getD 0 [])++tw2 n (Ps.getD 0 []).length Ps.flatten
theorem fam2 {n s:Nat}{Ps:List (List Nat)}(hs:0<s)(hm:2<=Ps.length)(hW:Ps.flatten.Nodup)(hlt:∀x∈Ps.flatten,x<n)(y:∀P∈Ps,P.length=s)(odd:Bool) :
  (∀t∈mk2 n odd Ps,IsT n t)/\(∀x,Grp n (λz=>z∈mk2 n odd Ps) x↔Wr n Ps.flatten (pix Ps) x)/\gM n (mk2 n odd Ps)=prd (Ps.map λP=>fac P.length)*fac Ps.length:=by
 obtain⟨hl,o⟩:=flat_at hs y;have hix:∀k,k<Ps.length*s->pix Ps (Ps.flatten.getD k 0)=k / s:=λk g=>pix_of hW (o k g);obtain⟨P,Rs,rfl⟩:∃P Rs,Ps=P::Rs:=by
  cases Ps with
  | nil=>simp at hm
  | cons P Rs=>exact⟨P,Rs,rfl⟩
 have j:P∈P::Rs:=ao;have m:P.length=s:=y P j;have w:=flat_nd hW j;have C:∀x∈P,x<n:=λx d=>hlt x (in_flat j x d);have e:mk2 n odd (P::Rs)=mk0 n odd P++[hb n (P::Rs).length s (P::Rs).flatten (dh (P::Rs).length 1 1),hb n (P::Rs).length s (P::Rs).flatten (sp (P::Rs).length [0,1] [1,0])]:=by
  show mk0 n odd P++tw2 n P.length (P::Rs).flatten=_;rw[m,tw2,xk1 hs hm hW hlt hl,xk2 hs hm hW hlt hl]
 have f:∀z∈[dh (P::Rs).length 1 1,sp (P::Rs).length [0,1] [1,0]],IsT (P::Rs).length z:=λz c=>by
  rcases ay.mp c with rfl|c
  .exact dh_isT (by lia) 1 (.inl rfl)
  .rw[ar.mp c];exact(yl6 (n:=(P::Rs).length) (a:=0) (b:=1) (by lia) (by lia) (by decide)).1.isT
 have made:∀z∈mk2 n odd (P::Rs),KpI n (P::Rs).flatten (pix (P::Rs)) z∨∃p,IsT (P::Rs).length p/\z=hb n (P::Rs).length s (P::Rs).flatten p:=λz c=>by
  rw[e]at c;rcases aI.mp c with h|h
  .obtain⟨h1,h2⟩:=yb9 w C odd z h;exact .inl (ym7 hW hlt j h1 h2)
  .rcases ay.mp h with rfl|h
   .exact .inr ⟨_,f _ ao,rfl⟩
   .exact .inr ⟨_,f _ (ah _ ao),ar.mp h⟩
 have A:=G9 (n:=n) hs hW hlt hl;have hT:∀z∈mk2 n odd (P::Rs),IsT n z:=λz c=>by
  rcases made z c with h|⟨p,u,rfl⟩
  .exact h.isT
  .exact A.isT p u
 have S:WrS n (P::Rs).length s (P::Rs).flatten (pix (P::Rs)) (mk2 n odd (P::Rs)):=by
  refine⟨made,λr B t E v=>?_,λp u=>?_⟩
  .have i:∀r,r<s->(P::Rs).flatten.getD r 0=P.getD r 0:=λr B=>by
    rw[bw,yh1 (by lia)]
   rw[i r B,i t E];exact ym9 w C odd hT (λz c=>by rw[e];exact bg _ c) _ (wIn (by lia)) _ (wIn (by lia)) (wNe w (by lia) (by lia) v)
  .have F:(List.range (P::Rs).length).length=(P::Rs).length:=aA;have l:∀k,k<(P::Rs).length->(List.range (P::Rs).length).getD k 0=k:=λk g=>still_get g;have all:zy9 (P::Rs).length (List.range (P::Rs).length) (λz=>z∈[dh (P::Rs).length 1 1,sp (P::Rs).length [0,1] [1,0]]):=by
    refine zh3 f aN (λx d=>av.mp d) (Grp.of f ao) (λk g=>?_) (e:=sp (P::Rs).length [0,1] [1,0]) ?_ (Grp.of f (ah _ ao))
    .rw[F]at g;rw[l k (by lia),l (k+1) g,dh_get (by lia) _ _ (by lia),show(1:Int)+1*(k:Int)=((k+1:Nat):Int) by lia,Int.emod_eq_of_lt (by lia) (by lia),aK]
    .rw[l 0 (by lia),l 1 (by lia)];exact(yl6 (n:=(P::Rs).length) (a:=0) (b:=1) (by lia) (by lia) (by decide)).1
   have D:=(zy2 f (λx d=>av.mp d) (λs hs x d q=>absurd (av.mpr d) q) all p).mpr ⟨u,λx d q=>absurd (av.mpr d) q⟩;refine Grp.mono hT (λz c=>?_) ((A.grp f _).mpr ⟨p,D,rfl⟩);refine Grp.of hT ?_;rw[e];exact aU _ c
 refine⟨hT,xd9 hs hW hlt hl hix S,?_⟩;rw[xk3 hs hW hlt hl hix S,zk9 hW hlt,cj]
end TM
namespace Tb
open PySem L2
def tI (t:List Nat):List V:=t.map λ(x:Nat)=>V.int x
theorem z9 (t:List Nat):(tI t).length=t.length:=aa _
theorem yj8 (t:List Nat)(i:Nat):(tI t)[i]?=(t[i]?).map λ(x:Nat)=>V.int x:=af ..
theorem U1 {t:List Nat}{i:Nat}{x:V}(h:(tI t)[i]?=some x):∃p,t[i]?=some p/\x=V.int p:=by
 rw[yj8]at h
 cases q:t[i]? with
 | none=>rw[q]at h;cases h
 | some p=>rw[q]at h;exact⟨p,rfl,(Option.some.inj h).symm⟩
theorem xd5 {t:List Nat}{i p:Nat}(h:t[i]?=some p):(tI t)[i]?=some (V.int p):=by rw[yj8,h];rfl
theorem i5 {t:List Nat}{i p:Nat}(h:t[i]?=some p):atI (tI t) ((i:Nat):Int)=some (V.int p):=l8 (xd5 h)
theorem b8 (s t:List Nat):tI (s++t)=tI s++tI t:=aO
theorem yf3:∀(t:List Nat) (i:Nat),(tI t).eraseIdx i=tI (t.eraseIdx i)
 | [],_=>rfl
 | _::_,0=>rfl
 | a::r,i+1=>by
  have ih:=yf3 r i
  show V.int a::(tI r).eraseIdx i=V.int a::tI (r.eraseIdx i)
  rw[ih]
theorem J7:∀(t:List Nat) (i x:Nat),(tI t).set i (V.int x)=tI (t.set i x)
 | [],_,_=>rfl
 | _::_,0,_=>rfl
 | a::r,i+1,x=>by
  have ih:=J7 r i x
  show V.int a::(tI r).set i (V.int x)=V.int a::tI (r.set i x)
  rw[ih]
theorem O8 (n:Nat):X5 0 n=tI (List.range n):=by
 unfold X5 tI;apply bQ;intro x _;rw[dE]
theorem zy3 (t:List Nat)(n:Nat):(tI t).drop n=tI (t.drop n):=(eN ..).symm
theorem zy4 (t:List Nat)(n:Nat):(tI t).take n=tI (t.take n):=(dG ..).symm
theorem small {n:Nat}(h:n<=1000):n<=gn:=cu (T5 h)
theorem K1 {n i:Nat}(h:i<n):ixN n ((i:Nat):Int)=some i:=by
 unfold ixN;rw[if_pos (Int.natCast_nonneg i),if_pos (by lia)];rfl
theorem xi8 {n i:Nat}(h:i<n):seqIndex? ((i:Nat):Int) n=some i:=(zu7 (K1 h)).1
theorem y4 {H:Hp}{p:Addr}(h:H p=none)(o:HO):y8 H (upd H p o):=λb u q=>by rw[y0 (y9 q h)];exact q
theorem p7 {H H':Hp}{p:Addr}(s:y8 H H')(h:H p=none)(o:HO):y8 H (upd H' p o):=λb u q=>by rw[y0 (y9 q h)];exact s b u q
def c8 (T U:String):Option Bool:=if (Value.type T==Value.type U)=true then some true else if W.kitMeta U=true then(PySem.fastBuiltinMro T).map (·.contains (Value.type U)) else none
theorem B1 {K:W.Frag}{T U:String}{b:Bool}(h:c8 T U=some b):W.kitOne K (.type T) (.type U)=some b:=h
theorem yh5:c8 "int" "int"=some true:=by decide +kernel
theorem yb1:c8 "int" "bool"=some false:=by decide +kernel
theorem zu9:c8 "list" "list"=some true:=by decide +kernel
theorem u9 {i j:Int}:decide (V.int i=V.int j)=decide (i=j):=decide_eq_decide.mpr ⟨λz=>by injection z,λz=>by rw[z]⟩
theorem iI (l:List Nat):tI l=(TM.iN l).map V.int:=by
 unfold TM.iN tI;rw[bG];rfl
structure Blt (mg:Str->Option Value):Prop where
 len:mg "len"=none
 range:mg "range"=none
 list:mg "list"=none
 tuple:mg "tuple"=none
 isinstance:mg "isinstance"=none
 int:mg "int"=none
 bool:mg "bool"=none
 str:mg "str"=none
 enumerate:mg "enumerate"=none
 sorted:mg "sorted"=none
 sum:mg "sum"=none
 all:mg "all"=none
 set:mg "set"=none
 reversed:mg "reversed"=none
 divmod:mg "divmod"=none
 max:mg "max"=none
 min:mg "min"=none
theorem p4:gB "len"=some (.builtin "len"):=by decide +kernel
theorem S9:gB "range"=some (.type "range"):=by decide +kernel
theorem W1:gB "list"=some (.type "list"):=by decide +kernel
theorem Y2:gB "tuple"=some (.type "tuple"):=by decide +kernel
theorem Z7:gB "isinstance"=some (.builtin "isinstance"):=by decide +kernel
theorem yg7:gB "int"=some (.type "int"):=by decide +kernel
theorem yk8:gB "bool"=some (.type "bool"):=by decide +kernel
theorem zp6:gB "sorted"=some (.builtin "sorted"):=by decide +kernel
theorem yv6:gB "sum"=some (.builtin "sum"):=by decide +kernel
theorem zt3:gB "all"=some (.builtin "all"):=by decide +kernel
theorem xm0:gB "set"=some (.type "set"):=by decide +kernel
def zn3 (mg:Str->Option Value)(x:Str)(v:V):Prop:=∃u,mg x=some u/\o5 v u
theorem zf0 {X:Cx}{x:Str}{v:V}{pos:Pos}(g:zn3 X.mg x v)(hg:Gl X x)(hd:(x==("__debug__":Str))=false:=by decide):PE X (.Name x pos) (tC v):=by
 obtain⟨u,hm,r⟩:=g;exact xh9 hg hm r hd
def n5 (P:gq)(w:gv)(K:W.Frag)(mg:Str->Option Value)(base:Heap)(k:Nat)(x:Str)(ps:List Str)(sp:Sp):Prop :=
 ∃f fd,o8 P w K mg base CX0 k f fd ps sp/\W.keepIn K (.ref f)=true/\mg x=some (.ref f)/\M3 K fd ps []
structure Def (K:W.Frag) (mg:Str->Option Value) (x:Str) (st:Stmt) (ps:List Str) (f:Addr) (fd:gD):Prop where
 F:Fun K x x st f fd
 b:M3 K fd ps []
 m:mg x=some (.ref f)
theorem Def.known {P:gq}{w:gv}{K:W.Frag}{mg:Str->Option Value}{base:Heap}{x:Str}{st:Stmt}{ps:List Str}{f:Addr}{fd:gD}{k:Nat}{sp:Sp}(D:Def K mg x st ps f fd)(G:o8 P w K mg base CX0 k f fd ps sp):n5 P w K mg base k x ps sp :=
 ⟨f,fd,G,D.F.kp,D.m,D.b⟩
section
variable {X:Cx}{x:Str}{p pos:Pos}{e:Expr}{es:List Expr}{t:TA}{ps:List Str}{sp:Sp}{k j:Nat}
theorem o6 (kn:n5 X.prog X.w X.K X.mg X.base k x ps sp)(hr:V0 j X.A)(hg:Gl X x)(ha:PA X (e::es) t)(hj:k<=j:=by decide)(hdb:(x==("__debug__":Str))=false:=by decide)
  (he:gs (e::es) X.env=(false,eval e X.env)::gs es X.env:=by rfl) (hpl:(backTo pos (gs es X.env)).any (·.1)=false:=by rfl):PE X (.Call (.Name x p) (e::es) [] pos) (xl1 sp [] E0 t):=by
 obtain⟨f,fd,G,hk,hm,hb⟩:=kn;exact xh7 G (hr.mono hj) hg hm hk hb .nil yn4 ha hdb he hpl
end
theorem X6 {t1 u:TS}{D:zg8}{σ:St}{H:Hp}(Pv:St->Hp->Prop)(hu:∀σ H,Pv σ H->u D σ H)(h:∀N:St->Hp->Prop,(∀σ H,Pv σ H->N σ H)->t1 { D with nx:=N } σ H):xr4 t1 u D σ H :=
 h (λσ H=>u D σ H) hu
theorem xj7 (t:List Nat):tI t=(t.map λ(x:Nat)=>(x:Int)).map V.int:=by
 unfold tI;rw[bG];rfl
theorem xf1 {a:List Int}{i:Nat}{y:V}(hi:(a.map V.int)[i]?=some y):∃z,z∈a/\y=V.int z:=by
 rw[af]at hi
 cases e:a[i]? with
 | none=>rw[e]at hi;cases hi
 | some z=>rw[e]at hi;exact⟨z,ax e,(Option.some.inj hi).symm⟩
theorem xr2 (s t:List Nat)(i:Nat){p q:Nat}(hp:s[i]?=some p)(hq:t[p]?=some q):(tI (s.map λx=>t.getD x 0))[i]?=some (V.int q):=xd5 (TM.map_get hp hq)
def yo6 (K:W.Frag):Sp:=λvs H Q _=>∃(a:Addr) (ns:List Int),vs=[.ref a]/\SqL K H a (ns.map V.int)/\ns.length<=63/\(∀z∈ns,Builtin.Int.intBits z<=2 ^ 20)/\∀H',Q (.bl true) H'
theorem walk {l:W.OpenLaw}{q:gq}{loose:List Str}{XP:(Str->Option Value)->Heap->Prop}{YP:gv->Heap->Prop}{d:DefRec}{K:Params->W.Frag}{k:Nat}{x:Str}(hn:l.most=some 63)(hdf:d.params.defaults=[])(hr:V0 k callerA)
  (hY:∀(w:gv) (h:Heap),YP w h->(K w.params).In h)
  (F:∀(w:gv) (mg:Str->Option Value) (fa:Addr) (h:Heap),(K w.params).In h->h.Ns mainGlobals mg->mg d.name=some (.ref fa) ->
   ∃fd:gD,(∀(s:gh) (u:Value),BindsTo s fd ⟨[u],[]⟩ [(x,u)])/\∀base:Heap,(K w.params).In base->base.Ns mainGlobals mg->o8 l.prog w (K w.params) mg base CX0 k fa fd [x] (yo6 (K w.params))) :
  W.WalkO q loose XP YP l.row.toRowW d [] (λf vs=>PySem.call f vs) :=
 L2.walk_ofB (n:=63) (k:=k) (x:=x) (CX:=CX0) (sp:=yo6) hn (by decide) hdf hr hY F (λ_ _ a ns hl hb _ hS=>⟨a,ns,rfl,hS,hl,hb,λ_=>rfl⟩) λ_ _ _ _ z=>z
def lnV:TM.Ln->List V
 | .still=>[.str "still"]
 | .told k=>[.str "told",.int k]
 | .behind i j=>[.str "behind",.int i,.int j]
 | .back i=>[.str "back",.int i]
def zg9 (H:Hp)(as:List Addr)(ls:List TM.Ln):Prop:=Paired (λa l=>H a=some (.tup (lnV l))) as ls
def Q6 (H:Hp)(as:List Addr)(ts:List (List Nat)):Prop:=Paired (λa t=>H a=some (.tup (tI t))) as ts
theorem zg9.same {H H':Hp}{as:List Addr}{ls:List TM.Ln}(h:zg9 H as ls)(s:y8 H H'):zg9 H' as ls:=Paired.imp' (λ_ _ e=>s _ _ e) h
theorem Q6.same {H H':Hp}{as:List Addr}{ls:List (List Nat)}(h:Q6 H as ls)(s:y8 H H'):Q6 H' as ls:=Paired.imp' (λ_ _ e=>s _ _ e) h
theorem g7 {α β:Type}{F:α->β->Prop}:∀{as:List α} {bs:List β},Paired F as bs->∀(i:Nat) (b:β),bs[i]?=some b->∃a,as[i]?=some a/\F a b
 | _,_,.nil,i,b,h=>by cases i <;> cases h
 | _,_,.cons f _,0,b,h=>by
  cases h
  exact⟨_,rfl,f⟩
 | _,_,.cons _ r,i+1,b,h=>by
  obtain⟨a,ha,f⟩:=g7 r i b (by simpa using h)
  exact⟨a,by simpa using ha,f⟩
theorem paired_at2 {α β:Type}{F:α->β->Prop}:∀{as:List α} {bs:List β},Paired F as bs->∀(i:Nat) (a:α),as[i]?=some a->∃b,bs[i]?=some b/\F a b
 | _,_,.nil,i,a,h=>by cases i <;> cases h
 | _,_,.cons f _,0,a,h=>by
  cases h
  exact⟨_,rfl,f⟩
 | _,_,.cons _ r,i+1,a,h=>by
  obtain⟨b,hb,f⟩:=paired_at2 r i a (by simpa using h)
  exact⟨b,by simpa using hb,f⟩
theorem yd5 {as:List Addr}{i:Nat}{y:V}(h:(as.map V.ref)[i]?=some y):∃b,as[i]?=some b/\y=V.ref b:=by
 rw[af]at h
 cases e:as[i]? with
 | none=>rw[e]at h;cases h
 | some b=>rw[e]at h;exact⟨b,rfl,(Option.some.inj h).symm⟩
end Tb
namespace Tb
open PySem L2
def top (i:Nat):Stmt:=PySem.Challenge.pw_turnbase_k35_has_of_known_groups.main.body.getD i (.Pass ⟨0,0,0,0⟩)
abbrev B9:Stmt:=top 3
abbrev J3:Stmt:=top 4
abbrev R9:Stmt:=top 5
abbrev zx5:Stmt:=top 6
abbrev zl9:Stmt:=top 7
abbrev yj1:Stmt:=top 8
abbrev J4:Stmt:=top 19
abbrev E3:Stmt:=top 22
abbrev O1:Stmt:=top 23
abbrev E5:Stmt:=top 31
abbrev E7:Stmt:=top 38
abbrev M1:Stmt:=top 24
abbrev R8:Stmt:=top 25
abbrev O0:Stmt:=top 26
abbrev J2:Stmt:=top 27
abbrev T3:Stmt:=top 29
abbrev E6:Stmt:=top 30
abbrev E4:Stmt:=top 32
abbrev M0:Stmt:=top 33
abbrev W3:Stmt:=top 34
abbrev zd4:Stmt:=top 35
abbrev T4:Stmt:=top 28
abbrev K9:Stmt:=top 36
abbrev J1:Stmt:=top 37
abbrev J0:Stmt:=top 39
abbrev zf1:Stmt:=top 40
def U4 (i j:Nat):Stmt:=match top i with | .ClassDef _ _ _ b _ _ _ _ _ _ _=>b.getD j (.Pass ⟨0,0,0,0⟩)|s=>s
abbrev R6:Stmt:=U4 11 0
abbrev B8:Stmt:=U4 11 1
abbrev V6:Stmt:=U4 11 2
abbrev W2:Stmt:=U4 11 3
abbrev R7:Stmt:=U4 12 0
abbrev T2:Stmt:=U4 12 1
abbrev Y7:Stmt:=U4 12 2
abbrev T1:Stmt:=U4 12 3
abbrev U9:Stmt:=U4 13 0
abbrev V7:Stmt:=U4 13 4
abbrev N9:Stmt:=U4 13 5
abbrev b0:Stmt:=U4 13 3
abbrev P9:Stmt:=U4 13 2
abbrev K7:Stmt:=U4 13 1
abbrev K6:Stmt:=U4 13 8
abbrev T0:Stmt:=U4 20 0
abbrev K8:Stmt:=U4 20 3
abbrev R3:Stmt:=U4 20 8
section
variable {P:gq}{w:gv}{K:W.Frag}{mg:Str->Option Value}{base:Heap}{f:Addr}{fd:gD}
def xn4:PyData->Bool
 | .int _=>true
 | .bool _=>true
 | _=>false
def xg5:PyData->Bool
 | .bool _=>true
 | _=>false
def xn6:PyData->Bool
 | .tuple _=>true
 | _=>false
def isW:PyData->Bool
 | .int _=>true
 | _=>false
theorem xo1:∀d:PyData,c8 (tyD d) "int"=some (xn4 d)
 | .none=>(by decide +kernel:c8 "NoneType" "int"=some false)
 | .bool _=>(by decide +kernel:c8 "bool" "int"=some true)
 | .int _=>(by decide +kernel:c8 "int" "int"=some true)
 | .str _=>(by decide +kernel:c8 "str" "int"=some false)
 | .list _=>(by decide +kernel:c8 "list" "int"=some false)
 | .tuple _=>(by decide +kernel:c8 "tuple" "int"=some false)
 | .dict _=>(by decide +kernel:c8 "dict" "int"=some false)
theorem ym5:∀d:PyData,c8 (tyD d) "bool"=some (xg5 d)
 | .none=>(by decide +kernel:c8 "NoneType" "bool"=some false)
 | .bool _=>(by decide +kernel:c8 "bool" "bool"=some true)
 | .int _=>(by decide +kernel:c8 "int" "bool"=some false)
 | .str _=>(by decide +kernel:c8 "str" "bool"=some false)
 | .list _=>(by decide +kernel:c8 "list" "bool"=some false)
 | .tuple _=>(by decide +kernel:c8 "tuple" "bool"=some false)
 | .dict _=>(by decide +kernel:c8 "dict" "bool"=some false)
theorem xo2:∀d:PyData,c8 (tyD d) "tuple"=some (xn6 d)
 | .none=>(by decide +kernel:c8 "NoneType" "tuple"=some false)
 | .bool _=>(by decide +kernel:c8 "bool" "tuple"=some false)
 | .int _=>(by decide +kernel:c8 "int" "tuple"=some false)
 | .str _=>(by decide +kernel:c8 "str" "tuple"=some false)
 | .list _=>(by decide +kernel:c8 "list" "tuple"=some false)
 | .tuple _=>(by decide +kernel:c8 "tuple" "tuple"=some true)
 | .dict _=>(by decide +kernel:c8 "dict" "tuple"=some false)
theorem scq {N P:List Str}{sc:Scope}(a:sc.kind=.function:=by rfl)(b:sc.isCoroutine=false:=by rfl)(c:sc.isGenerator=false:=by rfl)(d:N.Nodup:=by decide +kernel)(e:N.take P.length=P:=by rfl)(f:∀x∈P,sc.names.lookup x=some .local∨sc.names.lookup x=some .cell:=by decide +kernel)(g:∀y∈sc.names,y.2≠.free:=by decide +kernel):u6 N P sc:=⟨a,b,c,d,e,f,g⟩
theorem yd8:u6 ["thing"] ["thing"] (x9 B9):=scq
def zm9:Sp:=λvs H Q _=>∃(x:V) (d:PyData),vs=[x]/\Dt H x d/\Q (.bl (isW d)) H
theorem yc4 (D:Def K mg "is_whole" B9 ["thing"] f fd)(B:Blt mg):o8 P w K mg base CX0 1 f fd ["thing"] zm9:=by
 refine D.F.ok yd8 (λg H Q E h=>?_) (λe A c s H g Q E j h=>?_)
 .obtain⟨x,d,rfl,_⟩:=h;rfl
 obtain⟨x,d,rfl,a,q⟩:=h;refine⟨_,z7 (u4 (zw6 (w6 W6 rfl B.isinstance Z7 (z0 (pv 0) (z0 (D5 (v:=.ty "int") rfl B.int yg7 rfl) z4)))
  (zl1 (xq2 (w6 W6 rfl B.isinstance Z7 (z0 (pv 0) (z0 (D5 (v:=.ty "bool") rfl B.bool yk8 rfl) z4))))))),?_⟩
 refine⟨_,rfl,_,_,_,_,rfl,a.ty,B1 (xo1 d),_,rfl,?_⟩
 cases d with
 | int i=>exact m7 ⟨_,rfl,_,_,_,_,rfl,a.ty,B1 (ym5 _),_,rfl,q⟩
 | bool b=>exact m7 ⟨_,rfl,_,_,_,_,rfl,a.ty,B1 (ym5 _),_,rfl,q⟩
 | none=>exact o9 q
 | str _=>exact o9 q
 | list _=>exact o9 q
 | tuple _=>exact o9 q
 | dict _=>exact o9 q
def M5:List PyData->List Int
 | .int i::r=>i::M5 r
 | _::r=>M5 r
 | []=>[]
def ye1 (l:List Int):List Int:=l.mergeSort λa b=>decide (a<=b)
theorem ye2 {l m:List Int}(p:m.Perm l)(h:m.Pairwise (·<=·)):m=ye1 l:=by
 refine List.Perm.eq_of_pairwise (λa b _ _ h1 h2=>Int.le_antisymm h1 h2) h ?_ (p.trans (fI l _).symm);exact(List.pairwise_mergeSort (le:=λa b:Int=>decide (a<=b)) (λa b c h1 h2=>decide_eq_true (Int.le_trans (of_decide_eq_true h1) (of_decide_eq_true h2))) (λa b=>by
  show(decide (a<=b) || decide (b<=a))=true
  rw[fW,decide_eq_true_eq,decide_eq_true_eq]
  exact Int.le_total a b) l).imp λh=>of_decide_eq_true h
def za8 (n:Nat):List Int:=(List.range n).map λ(i:Nat)=>(i:Int)
theorem xq7 (n:Nat):tI (List.range n)=(za8 n).map V.int:=xj7 _
theorem ze6:∀(ms rs:List Int),PyData.eqvAll (ms.map PyData.int) (rs.map PyData.int)=decide (ms=rs)
 | [],[]=>by simp[PyData.eqvAll]
 | [],_::_=>by simp[PyData.eqvAll]
 | _::_,[]=>by simp[PyData.eqvAll]
 | a::as,b::bs=>by
  rw[aJ,aJ,PyData.eqvAll,ze6 as bs]
  by_cases h:a=b
  .subst h;simp[PyData.eqv]
  .simp[PyData.eqv,h]
theorem yr3 (a b:List Int):PyData.eqv (.list (a.map PyData.int)) (.list (b.map PyData.int))=decide (a=b):=by rw[PyData.eqv,ze6]
theorem yb3:∀ns:List Int,PyData.canLayAll0 (ns.map PyData.int)=true/\PyData.depthAll (ns.map PyData.int)<=1
 | []=>by simp[PyData.canLayAll0,PyData.depthAll]
 | n::r=>by
  obtain⟨h1,h2⟩:=yb3 r
  refine⟨by simp[PyData.canLayAll0,PyData.canLay0,h1],?_⟩
  simp only[aJ,PyData.depthAll,PyData.depth]
  lia
theorem zf3 (a:List Int):PySem.SeqAt.shaped (.list (a.map PyData.int))=true:=by
 obtain⟨h1,h2⟩:=yb3 a;unfold PySem.SeqAt.shaped;rw[bp];refine⟨by simp only[PyData.canLay0];exact h1,decide_eq_true ?_⟩;simp only[PyData.depth];lia
def d6:PyData->Bool
 | .tuple ds=>(decide (1<=ds.length)&&decide (ds.length<=60))&&(ds.all isW&&decide (ye1 (M5 ds)=za8 ds.length))
 | _=>false
theorem ym3 {H:Hp}:∀{xs:List V} {ds:List PyData},Dts H xs ds->ds.all isW=true->xs=(M5 ds).map V.int/\(M5 ds).length=ds.length
 | _,_,.nil,_=>⟨rfl,rfl⟩
 | _,_,.cons h r,e=>by
  rw[eO,bp]at e
  obtain⟨h1,h2⟩:=ym3 r e.2
  cases h with
  | int i=>exact⟨by rw[h1];rfl,by show(i::M5 _).length=_;rw[aC,h2];rfl⟩
  | non=>cases e.1
  | bl _=>cases e.1
  | str _=>cases e.1
  | lst _ _=>cases e.1
  | tup _ _=>cases e.1
  | dct _=>cases e.1
def yp1:Sp:=λvs H Q _=>∃(x:V) (d:PyData),vs=[x]/\Dt H x d/\(∀ds,d=.tuple ds->ds.length<=100)/\∀H':Hp,y8 H H'->Q (.bl (d6 d)) H'
theorem zo9:u6 ["thing"] ["thing"] (x9 J3):=scq
theorem zo5 (D:Def K mg "is_turning" J3 ["thing"] f fd)(B:Blt mg)(X:n5 P w K mg base 1 "is_whole" ["thing"] zm9)(U:zn3 mg "MOST_PLACES" (.int 60)):o8 P w K mg base CX0 2 f fd ["thing"] yp1:=by
 refine D.F.ok zo9 (λvs H Q E h=>?_) (λY A J s H vs Q E T h=>?_)
 .obtain⟨x,d,rfl,_⟩:=h;rfl
 obtain⟨x,d,rfl,S,k,q⟩:=h;refine⟨_,z6 (o3 (PW.pt (yd3 (E2 (P8 (w6 W6 rfl B.isinstance Z7 (z0 (pv 0) (z0 (D5 (v:=.ty "tuple") rfl B.tuple Y2 rfl) z4))))) (zl8 (E2 (yd2 yn3 yn3 z8 (w6 y6 rfl B.len p4 (z0 (pv 0) z4)) (zf0 U rfl)))))) (z7 (u4 Z5)) u5)
  (z6 (o3 (E2 (P8 (w6 (D0 rfl) rfl B.all zt3 (z0 (c5 [] ["place"] rfl (zx1 (pv 0)) (λ_ _ _ _=>o6 X T rfl (z0 (pv 0) z4))) z4)))) (z7 (u4 Z5)) u5)
  (z7 (u4 (V3 (xp3 T.units) (w6 zt5 rfl B.sorted zp6 (z0 (pv 0) z4)) (r8 (Z8 rfl) rfl B.list W1 (z0 (r8 U6 rfl B.range S9 (z0 (w6 y6 rfl B.len p4 (z0 (pv 0) z4)) z4)) z4)) (r6 _))))),?_⟩
 refine⟨_,rfl,_,_,_,_,rfl,S.ty,B1 (xo2 d),_,rfl,?_⟩
 cases S with
 | non=>exact m7 (q H (y8.refl _))
 | bl b=>exact m7 (q H (y8.refl _))
 | int i=>exact m7 (q H (y8.refl _))
 | str t=>exact m7 (q H (y8.refl _))
 | lst _ _=>exact m7 (q H (y8.refl _))
 | dct _=>exact m7 (q H (y8.refl _))
 | @tup b xs ds hb hs =>
 have m:=hs.length;have y:=k ds rfl;refine o9 ⟨_,rfl,b,_,rfl,.inr (SqT.of hb),_,_,rfl,rfl,_,rfl,?_⟩;by_cases h1:1<=ds.length
 case neg =>
  rw[decide_eq_false (show ¬(1:Int)<=((xs.length:Nat):Int) by lia)];refine o9 ⟨_,rfl,m7 ?_⟩;have e:d6 (.tuple ds)=false:=by simp only[d6];rw[decide_eq_false h1];rfl
  exact e ▸ q H (y8.refl _)
 rw[decide_eq_true (show(1:Int)<=((xs.length:Nat):Int) by lia)];refine m7 ⟨_,_,rfl,rfl,_,rfl,?_⟩;by_cases h2:ds.length<=60
 case neg =>
  rw[decide_eq_false (show ¬((xs.length:Nat):Int)<=(60:Int) by lia)];refine m7 ?_;have e:d6 (.tuple ds)=false:=by simp only[d6];rw[decide_eq_false h2,dP];rfl
  exact e ▸ q H (y8.refl _)
 rw[decide_eq_true (show((xs.length:Nat):Int)<=(60:Int) by lia)];refine o9 ?_;refine⟨_,rfl,b,rfl,⟨_,SqT.of hb⟩,A4 (SqT.of hb) ((ds.map isW).map V.bl) (by rw[aa,aa,m]) (by rw[m];exact small (by lia)) ?_ ?_⟩
 .intro j H' x hx s' _ _ _ _;obtain⟨Z,u,I⟩:=hs.get hx;refine⟨_,rfl,_,Z,rfl,I.same s',y8.refl _,?_⟩;rw[af,af,u];rfl
 intro nm o _ L z;refine⟨nm,_,rfl,SqL.of z,_,rfl,?_⟩;have c:(ds.map isW).all id=ds.all isW:=by rw[eV];rfl
 rw[c]
 cases hall:ds.all isW with
 | false =>
  have e:d6 (.tuple ds)=false:=by simp only[d6];rw[hall,dC,dP]
  exact m7 (e ▸ q o L)
 | true =>
  refine o9 ?_;obtain⟨ex,el⟩:=ym3 hs hall;have g:=L _ _ hb;refine⟨_,rfl,b,M5 ds,rfl,SqT.of (by rw[←ex];exact g),by lia,λl a hl hp hw=>?_⟩;have M:=y4 hl (.lst (a.map V.int));have O:(upd o l (.lst (a.map V.int))) l=some (.lst (a.map V.int)):=z3;generalize upd o l (.lst (a.map V.int))=n at M O ⊢;refine⟨_,rfl,b,_,rfl,.inr (SqT.of (M _ _ g)),_,rfl,λp C=>⟨p,0,_,rfl,z3,⟨by lia,by lia,by lia,by lia,by lia⟩,λr G=>?_⟩⟩;have N:y8 n (upd (upd n p (.rng 0 ((xs.length:Nat):Int))) r (.lst (X5 0 (((xs.length:Nat):Int)-0).toNat))):=(y4 C _).trans (y4 G _);have R:(upd (upd n p (.rng 0 ((xs.length:Nat):Int))) r (.lst (X5 0 (((xs.length:Nat):Int)-0).toNat))) r=some (.lst ((za8 ds.length).map V.int)):=by
   rw[z3,show(((xs.length:Nat):Int)-0).toNat=ds.length by lia,O8,xq7]
  generalize upd (upd n p (.rng 0 ((xs.length:Nat):Int))) r (.lst (X5 0 (((xs.length:Nat):Int)-0).toNat))=W at N R ⊢;refine⟨.list (a.map PyData.int),.list ((za8 ds.length).map PyData.int),.lst (SqL.of (N _ _ O)) (C8.ints _),.lst (SqL.of R) (C8.ints _),zf3 _,zf3 _,?_⟩;have e:d6 (.tuple ds)=PyData.eqv (.list (a.map PyData.int)) (.list ((za8 ds.length).map PyData.int)):=by
   simp only[d6];rw[yr3,hall,decide_eq_true h1,decide_eq_true h2,ye2 hp hw];rfl
  rw[←e];exact q W (L.trans (M.trans N))
def O7:Sp:=λvs H Q _=>∃(x:V) (d:PyData) (n:Nat),vs=[x,.int n]/\Dt H x d/\(∀ds,d=.tuple ds->ds.length<=100)/\∀H':Hp,y8 H H'->Q (.bl (d6 d&&match d with | .tuple ds=>decide (ds.length=n)|_=>false)) H'
theorem zd9:u6 ["thing","many"] ["thing","many"] (x9 R9):=scq
theorem yu5 {d:PyData}(h:d6 d=true):∃ds,d=.tuple ds:=by
 cases d with
 | tuple ds=>exact⟨ds,rfl⟩
 | _=>cases h
theorem zd1 (D:Def K mg "is_turning_of" R9 ["thing","many"] f fd)(B:Blt mg)(KT:n5 P w K mg base 2 "is_turning" ["thing"] yp1):o8 P w K mg base CX0 3 f fd ["thing","many"] O7:=by
 refine D.F.ok zd9 (λm H Q E h=>?_) (λk A c s H m Q E l h=>?_)
 .obtain⟨x,d,n,rfl,_⟩:=h;rfl
 obtain⟨x,d,n,rfl,i,hl,q⟩:=h;refine⟨_,z7 (u4 (zw6 (o6 KT l rfl (z0 (pv 0) z4)) (zl1 (V3 h7 (w6 y6 rfl B.len p4 (z0 (pv 0) z4)) (pv 1) (r6 _))))),?_⟩;refine⟨_,rfl,x,d,rfl,i,hl,λH1 g=>?_⟩
 cases ht:d6 d with
 | false =>
  have:=q H1 g;rw[ht,dC]at this;exact⟨_,rfl,o9 this⟩
 | true =>
  obtain⟨ds,rfl⟩:=yu5 ht;have j:=q H1 g;rw[ht,Bool.true_and]at j;have b:=i.same g
  cases b with
  | @tup a xs _ e r =>
   refine⟨_,rfl,m7 ⟨_,rfl,a,_,rfl,.inr (SqT.of e),_,rfl,rfl,?_⟩⟩;rw[u9,r.length];rw[show decide (((ds.length:Nat):Int)=(n:Int))=decide (ds.length=n) from decide_eq_decide.mpr (by lia)];exact j
def zy0:Sp:=λvs H Q _=>∃n:Nat,vs=[.int n]/\n<=1000/\∀(r:Addr) (H':Hp),H r=none->y8 H H'->H' r=some (.tup (tI (List.range n)))->Q (.ref r) H'
theorem xb7:u6 ["many"] ["many"] (x9 zx5):=scq
theorem xa1 (D:Def K mg "still" zx5 ["many"] f fd)(B:Blt mg):o8 P w K mg base CX0 1 f fd ["many"] zy0:=by
 refine D.F.ok xb7 (λi H Q E h=>?_) (λd A c s H i Q E k h=>?_)
 .obtain⟨n,rfl,_⟩:=h;rfl
 obtain⟨n,rfl,j,q⟩:=h;refine⟨_,z7 (u4 (r8 (G7 rfl) rfl B.tuple Y2 (z0 (r8 U6 rfl B.range S9 (z0 (pv 0) z4)) z4))),?_⟩;refine⟨_,rfl,_,rfl,λp e=>⟨p,0,(n:Int),rfl,z3,⟨by lia,by lia,by lia,by lia,by lia⟩,λr a=>?_⟩⟩;rw[show((n:Int)-0).toNat=n by lia,O8];have g:p≠r:=y9 z3 a;have b:H r=none:=by
  have:=a;rwa [y0 (Ne.symm g)]at this
 exact q r _ b (p7 (y4 e _) b _) z3
def zb5 (K:W.Frag):Sp:=λvs H Q _=>∃(a b:Addr) (one other:List Nat),vs=[.ref a,.ref b]/\SqT K H a (tI one)/\SqT K H b (tI other)/\one.length<=1000/\(∀x∈one,x<other.length) /\
 ∀(r:Addr) (H':Hp),H r=none->y8 H H'->H' r=some (.tup (tI (one.map λx=>other.getD x 0)))->Q (.ref r) H'
theorem yt7:u6 ["one","other"] ["one","other"] (x9 zl9):=scq
theorem yt0 (D:Def K mg "behind" zl9 ["one","other"] f fd)(B:Blt mg):o8 P w K mg base CX0 1 f fd ["one","other"] (zb5 K):=by
 refine D.F.ok yt7 (λv H Q E h=>?_) (λt A k s H v Q E z h=>?_)
 .obtain⟨a,b,one,c,rfl,_⟩:=h;rfl
 obtain⟨a,b,one,c,rfl,m,hb,hl,hlt,q⟩:=h;refine⟨_,z7 (u4 (r8 i6 rfl B.tuple Y2 (z0 (c5 [1] ["place","other"] rfl (zx1 (pv 0)) (λ_ _ _ _=>p5 Z9 (pv 1) (pv 0) (λ_ _=>rfl))) z4))),?_⟩;refine⟨_,rfl,a,rfl,⟨_,m⟩,A4 m (tI (one.map λx=>c.getD x 0)) (by rw[z9,z9,aa]) (by rw[z9];exact small hl) ?_ ?_⟩
 .intro i H1 x u e _ _ _ _;obtain⟨p,o,rfl⟩:=U1 u;have j:p<c.length:=hlt p (ax o);have n:c[p]?=some c[p]:=ac j;refine⟨_,rfl,_,rfl,b,_,_,_,rfl,rfl,e.seqT hb,i5 n,y8.refl _,?_⟩;rw[yj8,af,o];simp[ae,n]
 .intro r H1 y e g;exact⟨r,_,rfl,.inl ⟨SqL.of g,λl d=>q l _ (e.free d) (p7 e (e.free d) _) z3⟩⟩
def yj4 (K:W.Frag):Sp:=λvs H Q _=>∃(a:Addr) (n:Nat) (one:List Nat),vs=[.ref a]/\SqT K H a (tI one)/\TM.IsT n one/\n<=1000 /\
 ∀(r:Addr) (H':Hp) (b:List Nat),H r=none->y8 H H'->TM.Back n one n b->H' r=some (.tup (tI b))->Q (.ref r) H'
theorem zg5:u6 ["one","goes","place","to"] ["one"] (x9 yj1):=scq
theorem xh2 (D:Def K mg "back" yj1 ["one"] f fd)(B:Blt mg):o8 P w K mg base CX0 1 f fd ["one"] (yj4 K):=by
 refine D.F.ok zg5 (λG H Q E h=>?_) (λz A o s H G Q E J h=>?_)
 .obtain⟨a,n,one,rfl,_⟩:=h;rfl
 obtain⟨a,n,one,rfl,k,hT,I,q⟩:=h;refine⟨_,z6 (v0 (i:=1) zg5.nd rfl (Or.inl rfl) (r8 V2 rfl B.list W1 (z0 (pv 0) z4)))
  (z6 (l9 PassesOwn.never rfl (yc9 rfl B.enumerate (z0 (pv 0) z4)) (zd3 rfl (h8 (p6 (i:=2) zg5.nd rfl (Or.inl rfl)) (h8 (p6 (i:=3) zg5.nd rfl (Or.inl rfl)) K4)))
   (z7 (zl4 (pv 2) (zd2 (pv 1) (pv 3) M7))))
  (z7 (u4 (r8 i6 rfl B.tuple Y2 (z0 (pv 1) z4))))),?_⟩
 refine⟨_,rfl,a,tI one,rfl,.inr k,λg t=>?_⟩;have v:y8 H (upd H g (.lst (tI one))):=y4 t _;refine⟨_,rfl,a,rfl,⟨_,v.seqT k⟩,ya4 (xs:=tI one) (λi σ H2=>∃(b:List Nat) (p r:Option V),σ=[some (.ref a),some (.ref g),p,r]/\y8 H H2/\H2 g=some (.lst (tI b))/\TM.Back n one i b)
  ⟨one,none,none,rfl,v,z3,TM.Back.start hT.length⟩ (λi σ H2 _ ⟨_,_,_,_,d,_⟩=>d.seqT k) ?_ ?_⟩
 .rintro i x σ H2 T C ⟨b,p,r,rfl,d,c,bk⟩ e;obtain⟨y,u,rfl⟩:=U1 C;have j:g≠T:=y9 c e;have m:y<b.length:=by rw[bk.len];exact hT.get_lt u
  refine⟨T,_,rfl,SqT.of z3,rfl,_,_,rfl,_,_,rfl,rfl,?_⟩;refine⟨_,rfl,_,rfl,_,rfl,g,tI b,_,y,rfl,rfl,by rw[y0 j];exact c,by rw[z9];exact K1 m,?_⟩;refine⟨b.set y i,_,_,rfl,p7 (p7 d (d.free e) _) t _,by rw[z3,J7],bk.step hT u⟩
 .rintro σ H2 ⟨b,p,r,rfl,d,c,bk⟩;rw[z9,hT.length]at bk;exact⟨_,rfl,g,tI b,rfl,.inl ⟨SqL.of c,λl hl=>q l _ b (d.free hl) (p7 d (d.free hl) _) bk z3⟩⟩
structure Y4 (K:W.Frag) (C:Addr) (xs:List Str):Prop where
 cls:Cls K C
 no:∀x∈xs,G3 K C x
def u3 (F:List Addr)(H H':Hp):Prop:=∀b o,b∉F->H b=some o->H' b=some o
theorem u3.refl {F:List Addr}{H:Hp}:u3 F H H:=λ_ _ _ h=>h
theorem u3.trans {F:List Addr}{H H1 H2:Hp}(a:u3 F H H1)(b:u3 F H1 H2):u3 F H H2:=λc o hc h=>b c o hc (a c o hc h)
theorem y8.frame {F:List Addr}{H H':Hp}(s:y8 H H'):u3 F H H':=λb o _ h=>s b o h
theorem u3.upd {F:List Addr}{H H':Hp}(s:u3 F H H'){a:Addr}(ha:a∈F)(o:HO):u3 F H (L2.upd H' a o):=λb u hb h=>by
 rw[y0 (λe=>hb (by rw[e];exact ha))]
 exact s b u hb h
theorem u3.more {F G:List Addr}{H H':Hp}(s:u3 F H H')(h:∀a∈F,a∈G):u3 G H H':=λb o hb e=>s b o (λz=>hb (h b z)) e
def kI (l:List (Nat×Nat)):List (Key×V):=l.map λx=>(Sum.inl (x.1:Int),V.int (x.2:Int))
theorem K2 (l:List (Nat×Nat)):(kI l).length=l.length:=aa _
def atN {α:Type}(l:List (Nat×α))(k:Nat):Option α:=(l.find? λx=>decide (x.1=k)).map (·.2)
theorem U2 (l:List (Nat×Nat))(k:Nat):X1 (kI l) (Sum.inl (k:Int))=(atN l k).map λx=>V.int x:=by
 induction l with
 | nil=>rfl
 | cons x r ih =>
  by_cases h:x.1=k
  .have e:atN (x::r) k=some x.2:=by unfold atN;rw[cT (by simpa using h)];rfl
   rw[e];exact b9 (p:=(Sum.inl (x.1:Int),V.int (x.2:Int))) (by show(Sum.inl (x.1:Int):Key)=Sum.inl (k:Int);rw[h])
  .have e:atN (x::r) k=atN r k:=by unfold atN;rw[cU (by simpa using h)]
   rw[e,←ih];exact c6 (p:=(Sum.inl (x.1:Int),V.int (x.2:Int))) λz=>h (by have:=Sum.inl.inj z;lia)
structure StS where
 mv:List Nat
 to:List (Nat×Nat)
 wt:List (Nat×Nat)
 lk:Nat
structure ChS where
 ln:List TM.Ln
 md:List (List Nat)
 bl:List (Nat×Nat)
 st:List StS
 src:Nat->List Nat
structure StA where
 a:Addr
 m:Addr
 lt:Addr
 bf:Addr
 w:Addr
structure ChA where
 c:Addr
 b:Addr
 ll:Addr
 lm:Addr
 d:Addr
 l:Addr
 st:List StA
def StA.all (s:StA):List Addr:=[s.a,s.m,s.lt,s.bf,s.w]
def ChA.all (A:ChA):List Addr:=[A.c,A.b,A.ll,A.lm,A.d,A.l]++(A.st.map StA.all).flatten
structure U5 (cB:Addr) (H:Hp) (A:ChA) (S:ChS):Prop where
 b:∃dx,H A.b=some (.ins cB dx [("lines",.ref A.ll),("made",.ref A.lm),("back_lines",.ref A.d)])
 ll:∃as,H A.ll=some (.lst (as.map V.ref))/\zg9 H as S.ln
 lm:∃as,H A.lm=some (.lst (as.map V.ref))/\Q6 H as S.md
 d:H A.d=some (.dK (kI S.bl))
 len:S.ln.length=S.md.length
theorem Q6.upd {H:Hp}{as:List Addr}{ts:List (List Nat)}{a:Addr}{o:HO}(h:Q6 H as ts)(ha:∀xs,H a≠some (.tup xs)):Q6 (L2.upd H a o) as ts:=Paired.imp' (λb t e=>by
 rw[y0 (λz=>by subst z;exact ha _ e)];exact e) h
theorem zg9.upd {H:Hp}{as:List Addr}{ls:List TM.Ln}{a:Addr}{o:HO}(h:zg9 H as ls)(ha:∀xs,H a≠some (.tup xs)):zg9 (L2.upd H a o) as ls:=Paired.imp' (λb t e=>by
 rw[y0 (λz=>by subst z;exact ha _ e)];exact e) h
def ChS.put (S:ChS)(l:TM.Ln)(t:List Nat):ChS:={ S with ln:=S.ln++[l],md:=S.md++[t] }
def zh7:List Str:=["lines","made","back_lines"]
def yo9 (cB:Addr):Sp:=λvs H Q _=>∃(A:ChA) (S:ChS) (lr tr:Addr) (l:TM.Ln) (t:List Nat),vs=[.ref A.b,.ref lr,.ref tr]/\U5 cB H A S/\A.ll≠A.lm/\H lr=some (.tup (lnV l))/\H tr=some (.tup (tI t))/\S.ln.length<10000000 /\
 ∀H':Hp,u3 [A.ll,A.lm] H H'->U5 cB H' A (S.put l t)->Q (.int (S.ln.length:Int)) H'
theorem yd7:u6 ["self","line","turning"] ["self","line","turning"] (x9 B8):=scq
theorem W4:10000000<gn:=by decide
theorem yc3 {cB:Addr}(F:Fun K "put" "Book.put" B8 f fd)(B:Blt mg)(m:Y4 K cB zh7):o8 P w K mg base CX0 1 f fd ["self","line","turning"] (yo9 cB):=by
 refine F.ok yd7 (λZ H Q E h=>?_) (λT Ar G s H Z Q E hr h=>?_)
 .obtain⟨A,S,i,v,l,t,rfl,_⟩:=h;rfl
 obtain⟨A,S,i,v,l,t,rfl,bk,p,hl,C,M,q⟩:=h;obtain⟨⟨dx,hb⟩,⟨a,c,n⟩,⟨g,e,o⟩,y,j⟩:=bk;have hz:=W4;have N:=m.no "lines" (by decide);have Y:=m.no "made" (by decide);refine⟨_,z6 (i3 (Q3 PySem.F.plainAttrs_list PySem.F.slot_list_append PySem.F.type_list_append i8 (q9 (pv 0) rfl) (z0 (pv 1) z4)))
  (z6 (i3 (Q3 PySem.F.plainAttrs_list PySem.F.slot_list_append PySem.F.type_list_append i8 (q9 (pv 0) rfl) (z0 (pv 2) z4)))
  (z7 (u4 (w8 N8 (w6 y6 rfl B.len p4 (z0 (q9 (pv 0) rfl) z4)) z8)))),?_⟩
 have k:a.length=S.ln.length:=Paired.length n;have D:g.length=S.md.length:=Paired.length o;refine⟨_,rfl,A.b,cB,dx,_,_,rfl,hb,m.cls,N,rfl,.inl ⟨rfl,_,SqL.of c⟩,_,rfl,A.ll,_,_,rfl,rfl,c,by rw[aa];lia,?_⟩;have O:A.b≠A.ll:=l4 hb c (by intro z;cases z);have I:(upd H A.ll (.lst (a.map V.ref++[V.ref i]))) A.b=some (.ins cB dx [("lines",.ref A.ll),("made",.ref A.lm),("back_lines",.ref A.d)]):=by rw[y0 O];exact hb
 have x:(upd H A.ll (.lst (a.map V.ref++[V.ref i]))) A.lm=some (.lst (g.map V.ref)):=by rw[y0 (Ne.symm p)];exact e
 refine⟨_,rfl,A.b,cB,dx,_,_,rfl,I,m.cls,Y,rfl,.inl ⟨rfl,_,SqL.of x⟩,_,rfl,A.lm,_,_,rfl,rfl,x,by rw[aa];lia,?_⟩;have R:A.b≠A.lm:=l4 hb e (by intro z;cases z);have J:(upd (upd H A.ll (.lst (a.map V.ref++[V.ref i]))) A.lm (.lst (g.map V.ref++[V.ref v]))) A.b=some (.ins cB dx [("lines",.ref A.ll),("made",.ref A.lm),("back_lines",.ref A.d)]):=by rw[y0 R];exact I
 have L:(upd (upd H A.ll (.lst (a.map V.ref++[V.ref i]))) A.lm (.lst (g.map V.ref++[V.ref v]))) A.ll=some (.lst ((a++[i]).map V.ref)):=by rw[y0 p,z3,aO];rfl
 refine⟨_,rfl,A.b,cB,dx,_,_,rfl,J,m.cls,N,rfl,A.ll,_,rfl,.inl (SqL.of L),_,_,rfl,rfl,?_⟩;have X:((((a++[i]).map V.ref).length:Nat):Int)-1=(S.ln.length:Int):=by
  rw[aa,ag,bK,k];lia
 show Q (.int _) _;rw[X];have r:∀xs,H A.ll≠some (.tup xs):=λxs z=>by rw[c]at z;cases z
 have u:∀xs,(upd H A.ll (.lst (a.map V.ref++[V.ref i]))) A.lm≠some (.tup xs):=λxs z=>by rw[x]at z;cases z
 have U:A.d≠A.ll:=l4 y c (by intro z;cases z);have W:A.d≠A.lm:=l4 y e (by intro z;cases z);refine q _ (u3.upd (u3.upd u3.refl (by simp) _) (by simp) _) ⟨⟨dx,J⟩,⟨a++[i],L,?_⟩,⟨g++[v],by rw[z3,aO];rfl,?_⟩,by rw[y0 W,y0 U];exact y,by show(S.ln++[l]).length=(S.md++[t]).length;rw[ag,ag,j];rfl⟩
 .refine Paired.snoc ((n.upd r).upd u) ?_;rw[y0 (l4 hl e (by intro z;cases z)),y0 (l4 hl c (by intro z;cases z))];exact hl
 .refine Paired.snoc ((o.upd r).upd u) ?_;rw[y0 (l4 C e (by intro z;cases z)),y0 (l4 C c (by intro z;cases z))];exact C
theorem U5.same {cB:Addr}{H H':Hp}{A:ChA}{S:ChS}(h:U5 cB H A S)(s:y8 H H'):U5 cB H' A S :=
 ⟨h.b.imp λ_ e=>s _ _ e,h.ll.imp λ_ e=>⟨s _ _ e.1,e.2.same s⟩,h.lm.imp λ_ e=>⟨s _ _ e.1,e.2.same s⟩,s _ _ h.d,h.len⟩
def ChS.putB (S:ChS)(i j:Nat):Nat×ChS:=if i=0 then(j,S) else if j=0 then(i,S) else(S.ln.length,S.put (.behind i j) (TM.beh (S.md.getD i []) (S.md.getD j [])))
def xc6 (cB:Addr):Sp:=λvs H Q _=>∃(A:ChA) (S:ChS) (n i j:Nat),vs=[.ref A.b,.int i,.int j]/\U5 cB H A S/\A.ll≠A.lm/\i<S.md.length/\j<S.md.length/\(∀t∈S.md,TM.IsT n t)/\n<=60/\S.ln.length<10000000 /\
 ∀H':Hp,u3 [A.ll,A.lm] H H'->U5 cB H' A (S.putB i j).2->Q (.int ((S.putB i j).1:Int)) H'
theorem A1:u6 ["self","one","other"] ["self","one","other"] (x9 V6):=scq
theorem P1 {α:Type}{l:List α}{i:Nat}(d:α)(h:i<l.length):l[i]?=some (l.getD i d):=by
 rw[ae,ac h];rfl
theorem B5 {cB:Addr}(F:Fun K "put_behind" "Book.put_behind" V6 f fd)(B:Blt mg)(g:Y4 K cB zh7)(MP:Q5 P w K mg base 1 cB "put" ["self","line","turning"] (yo9 cB))(KB:n5 P w K mg base 1 "behind" ["one","other"] (zb5 K))(O:zn3 mg "STILL_LINE" (.int 0)):o8 P w K mg base CX0 2 f fd ["self","one","other"] (xc6 cB):=by
 refine F.ok A1 (λvs H Q E h=>?_) (λac Ar M s H vs Q E X h=>?_)
 .obtain⟨A,S,n,i,j,rfl,_⟩:=h;rfl
 obtain⟨A,S,n,i,j,rfl,bk,G,hi,W,hT,hn,k,q⟩:=h;refine⟨_,z6 (o3 (u8 h7 (pv 1) (zf0 O rfl) (r6 _)) (z7 (u4 (pv 2))) u5)
  (z6 (o3 (u8 h7 (pv 2) (zf0 O rfl) (r6 _)) (z7 (u4 (pv 1))) u5)
  (z7 (u4 (X2 g.cls MP X (pv 0) (z0 (R5 (z0 zl2 (z0 (pv 1) (z0 (pv 2) z4)))) (z0 (o6 KB X rfl (z0 (p5 t4 (q9 (pv 0) rfl) (pv 1) (λ_ _=>rfl)) (z0 (p5 t4 (q9 (pv 0) rfl) (pv 2) (λ_ _=>rfl)) z4))) z4)))))),?_⟩
 refine⟨_,rfl,rfl,_,rfl,xg6 (λc=>?_) (λc=>⟨_,rfl,rfl,_,rfl,xg6 (λd=>?_) (λd=>?_)⟩)⟩
 .rw[u9]at c;have e:i=0:=by have:=of_decide_eq_true c;lia
  have r:=q H u3.refl;unfold ChS.putB at r;rw[if_pos e]at r;exact⟨_,rfl,r bk⟩
 .rw[u9]at c d;have e:¬i=0:=by have:=of_decide_eq_false (cw.mpr c);lia
  have v:j=0:=by have:=of_decide_eq_true d;lia
  have r:=q H u3.refl;unfold ChS.putB at r;rw[if_neg e,if_pos v]at r;exact⟨_,rfl,r bk⟩
 .rw[u9]at c d;have e:¬i=0:=by have:=of_decide_eq_false (cw.mpr c);lia
  have v:¬j=0:=by have:=of_decide_eq_false (cw.mpr d);lia
  unfold ChS.putB at q;rw[if_neg e,if_neg v]at q;obtain⟨dx,hb⟩:=bk.b;obtain⟨p,l,m⟩:=bk.lm;have hz:=W4;refine⟨_,rfl,A.b,dx,_,rfl,hb,rfl,_,rfl,_,rfl,(by show 3<=gn;lia),λt D=>?_⟩;have a:=y4 D (.tup [V.str "behind",V.int i,V.int j]);have U:(upd H t (.tup [V.str "behind",V.int i,V.int j])) t=some (.tup (lnV (.behind i j))):=z3;generalize upd H t (.tup [V.str "behind",V.int i,V.int j])=H1 at a U ⊢;have Y:TM.IsT n (S.md.getD i []):=hT _ (ax (P1 [] hi));have tj:TM.IsT n (S.md.getD j []):=hT _ (ax (P1 [] W));obtain⟨R,y,J⟩:=g7 m i _ (P1 [] hi);obtain⟨T,z,L⟩:=g7 m j _ (P1 [] W);have gi:atI (p.map V.ref) ((i:Nat):Int)=some (V.ref R):=l8 (by rw[af,y];rfl);have gj:atI (p.map V.ref) ((j:Nat):Int)=some (V.ref T):=l8 (by rw[af,z];rfl);refine⟨_,rfl,A.b,cB,dx,_,_,rfl,a _ _ hb,g.cls,g.no "made" (by decide),rfl,_,rfl,A.lm,_,_,_,rfl,rfl,SqL.of (a _ _ l),gi,_,rfl,A.b,cB,dx,_,_,rfl,a _ _ hb,g.cls,g.no "made" (by decide),rfl,_,rfl,A.lm,_,_,_,rfl,rfl,SqL.of (a _ _ l),gj,R,T,_,_,rfl,SqT.of (a _ _ J),SqT.of (a _ _ L),by rw[Y.length];lia,λx hx=>?_,λtr H2 ag N I=>?_⟩
  .rw[tj.length];exact Y.lt hx
  exact⟨A,S,t,tr,.behind i j,_,rfl,bk.same (a.trans N),G,N _ _ U,I,k,λZ fr u=>q Z (λb o C e=>fr b o C ((a.trans N) _ _ e)) u⟩
def ChS.putK (n:Nat)(S:ChS)(i:Nat):Nat×ChS:=match atN S.bl i with
 | some k=>(k,S)
 | none=>(S.ln.length,{ S.put (.back i) (TM.bk n (S.md.getD i [])) with bl:=S.bl++[(i,S.ln.length)] })
def xc7 (cB:Addr):Sp:=λvs H Q _=>∃(A:ChA) (S:ChS) (n i:Nat),vs=[.ref A.b,.int i]/\U5 cB H A S/\A.ll≠A.lm/\i<S.md.length/\(∀t∈S.md,TM.IsT n t)/\n<=60/\S.ln.length<10000000/\S.bl.length<10000000 /\
 ∀H':Hp,u3 [A.ll,A.lm,A.d] H H'->U5 cB H' A (S.putK n i).2->Q (.int ((S.putK n i).1:Int)) H'
theorem zd6:u6 ["self","one"] ["self","one"] (x9 W2):=scq
theorem zy7 {l:List (Nat×Nat)}{k:Nat}(h:atN l k=none):X1 (kI l) (Sum.inl (k:Int))=none:=by rw[U2,h];rfl
theorem zl7 {l:List (Nat×Nat)}{k v:Nat}(h:atN l k=none):putK (kI l) (Sum.inl (k:Int)) (V.int v)=kI (l++[(k,v)]):=by
 have e:=zy7 h;unfold putK;rw[M9,e];show kI l++[(Sum.inl (k:Int),V.int v)]=kI (l++[(k,v)]);unfold kI;rw[aO];rfl
theorem zh5 {l:List (Nat×Nat)}{k v:Nat}(h:atN l k=none):atN (l++[(k,v)]) k=some v:=by
 have h':l.find? (λx=>decide (x.1=k))=none:=by
  unfold atN at h
  cases e:l.find? (λx=>decide (x.1=k)) with
  | none=>rfl
  | some x=>rw[e]at h;cases h
 unfold atN;rw[eT,h'];simp
theorem zc8 {cB:Addr}(F:Fun K "put_back" "Book.put_back" W2 f fd)(B:Blt mg)(l:Y4 K cB zh7)(MP:Q5 P w K mg base 1 cB "put" ["self","line","turning"] (yo9 cB))(KB:n5 P w K mg base 1 "back" ["one"] (yj4 K)):o8 P w K mg base CX0 2 f fd ["self","one"] (xc7 cB):=by
 refine F.ok zd6 (λvs H Q E h=>?_) (λJ Ar ac s H vs Q E X h=>?_)
 .obtain⟨A,S,n,i,rfl,_⟩:=h;rfl
 obtain⟨A,S,n,i,rfl,bk,W,hi,hT,hn,u,ar,q⟩:=h;have hu:(Ar.deeper (PyProof.Rows.envOfC "Book.put_back" (x9 W2) s.heap.objs.size f J)).units+1<cLine:=by have:=X.units;lia
 refine⟨_,z6 (o3 (B7 (M6 hu (pv 1) (q9 (pv 0) rfl))) (z7 (K5 hu (q9 (pv 0) rfl) (pv 1) (X2 l.cls MP X (pv 0) (z0 (R5 (z0 zl2 (z0 (pv 1) z4))) (z0 (o6 KB X rfl (z0 (p5 t4 (q9 (pv 0) rfl) (pv 1) (λ_ _=>rfl)) z4)) z4))) rfl)) u5)
  (z7 (u4 (Y5 hu (q9 (pv 0) rfl) (pv 1) (λ_ _=>rfl)))),?_⟩
 obtain⟨dx,hb⟩:=bk.b;obtain⟨ab,R,U⟩:=bk.lm;have hz:=W4;have I:=l.no "back_lines" (by decide);refine⟨_,rfl,_,rfl,A.b,cB,dx,_,_,rfl,hb,l.cls,I,rfl,A.d,_,rfl,W9.k (k:=Sum.inl (i:Int)) bk.d,_,rfl,?_⟩;rw[U2]
 cases ea:atN S.bl i with
 | some k =>
  have L:S.putK n i=(k,S):=by unfold ChS.putK;rw[ea]
  rw[L]at q;refine o9 ⟨_,rfl,A.b,cB,dx,_,_,rfl,hb,l.cls,I,rfl,_,rfl,A.d,V.int k,rfl,?_,q H u3.refl bk⟩;have g:=W9.k (k:=Sum.inl (i:Int)) bk.d;rwa [U2,ea]at g
 | none =>
  have L:S.putK n i=(S.ln.length,{ S.put (.back i) (TM.bk n (S.md.getD i [])) with bl:=S.bl++[(i,S.ln.length)] }):=by unfold ChS.putK;rw[ea]
  rw[L]at q;refine m7 ?_;refine⟨_,rfl,A.b,dx,_,rfl,hb,rfl,_,rfl,(by show 2<=gn;lia),λG T=>?_⟩;have r:=y4 T (.tup [V.str "back",V.int i]);have el:(upd H G (.tup [V.str "back",V.int i])) G=some (.tup (lnV (.back i))):=z3;generalize upd H G (.tup [V.str "back",V.int i])=H1 at r el ⊢;have ti:TM.IsT n (S.md.getD i []):=hT _ (ax (P1 [] hi));obtain⟨ai,N,Z⟩:=g7 U i _ (P1 [] hi);have gi:atI (ab.map V.ref) ((i:Nat):Int)=some (V.ref ai):=l8 (by rw[af,N];rfl);refine⟨_,rfl,A.b,cB,dx,_,_,rfl,r _ _ hb,l.cls,l.no "made" (by decide),rfl,_,rfl,A.lm,_,_,_,rfl,rfl,SqL.of (r _ _ R),gi,ai,n,_,rfl,SqT.of (r _ _ Z),ti,by lia,λtr H2 bq as s2 O Y=>?_⟩;have M:bq=TM.bk n (S.md.getD i []):=O.uniq ti (TM.bk_back ti);subst M;refine⟨A,S,G,tr,.back i,_,rfl,bk.same (r.trans s2),W,s2 _ _ el,Y,u,λD fr c=>?_⟩;obtain⟨j,p⟩:=c.b;have e:D A.d=some (.dK (kI S.bl)):=c.d;have kd:(kI S.bl).length<gn:=by rw[K2];lia
  refine⟨_,rfl,A.b,cB,j,_,_,rfl,p,l.cls,I,rfl,_,rfl,A.d,_,rfl,zg7.k (k:=Sum.inl (i:Int)) e kd,?_⟩;rw[zl7 ea];have b3:A.b≠A.d:=l4 p e (by intro z;cases z);have t:(upd D A.d (.dK (kI (S.bl++[(i,S.ln.length)])))) A.b=some (.ins cB j [("lines",.ref A.ll),("made",.ref A.lm),("back_lines",.ref A.d)]):=by rw[y0 b3];exact p
  refine⟨_,rfl,A.b,cB,j,_,_,rfl,t,l.cls,I,rfl,_,rfl,A.d,V.int (S.ln.length:Int),rfl,?_,?_⟩
  .have g:=W9.k (k:=Sum.inl (i:Int)) (kvs:=kI (S.bl++[(i,S.ln.length)])) (H:=upd D A.d (.dK (kI (S.bl++[(i,S.ln.length)])))) z3;rwa [U2,zh5 ea]at g
  .obtain⟨y,m,v⟩:=c.ll;obtain⟨C,o,x⟩:=c.lm;have nt:∀xs,D A.d≠some (.tup xs):=λxs z=>by rw[e]at z;cases z
   refine q _ ?_ ⟨⟨j,t⟩,⟨y,by rw[y0 (l4 m e (by intro z;cases z))];exact m,v.upd nt⟩,⟨C,by rw[y0 (l4 o e (by intro z;cases z))];exact o,x.upd nt⟩,z3,c.len⟩;exact u3.upd (u3.trans (y8.frame (r.trans s2)) (fr.more (λa ha=>by simp at ha ⊢;rcases ha with h|h <;> simp[h]))) (by simp) _
theorem P3 {α β:Type}{F G:α->β->Prop}:∀{as:List α} {bs:List β},Paired F as bs->(∀a∈as,∀b,F a b->G a b)->Paired G as bs
 | _,_,.nil,_=>.nil
 | _,_,.cons f r,h=>.cons (h _ ao _ f) (P3 r λa ha b q=>h a (ah _ ha) b q)
theorem zq2 {K:PySem.W.Frag}{a:Addr}{xs:List V}{fr:List Nat}{te:CT TE}{σ:St}{H1:Hp}{Q:Addr->Hp->Prop}{α:Type}(g:α->HO)(ys:List α)(hS:SqL K H1 a xs)(T:ys.length=xs.length)(U:xs.length<=gn)
  (E:∀(i:Nat) H x y,xs[i]?=some x->ys[i]?=some y->y8 H1 H->∀l C n p,te l C n p (some x::fr.map λj=>(σ[j]?).getD none) H λv f=>y8 H f/\∃b,v=.ref b/\H b=none/\f b=some (g y))
  (I:∀D H d,H1 D=none->y8 H1 H->H D=some (.lst (d.map V.ref))->Paired (λb y=>H b=some (g y)) d ys->(∀b∈d,H1 b=none)->Q D H) :
  ∀D,H1 D=none->∃W:Nat->Nat->St->Hp->Prop,(∃m,W 0 m (M2 1 fr σ) (upd H1 D (.lst [])))/\∀i m F H',W i m F H' ->
  ((Itl K a).stop i H'/\Q D H')∨((Itl K a).go i H'/\∀x H2,(Itl K a).yld i H' x H2->∀l C n p,Z0 0 x F H2 λσ3 H3=>∃N:VK,te l C n p σ3 H3 N/\∀y f,N y f ->
   ∃ys m',f D=some (.lst ys)/\ys.length<gn/\m'<m/\W (i+1) m' σ3 (upd f D (.lst (ys++[y])))):=by
 intro D J
 refine⟨λi m F H'=>m=xs.length-i/\i<=xs.length/\y8 H1 H'/\(∃d:List Addr,H' D=some (.lst (d.map V.ref))/\Paired (λb y=>H' b=some (g y)) d (ys.take i)/\(∀b∈d,b≠D)/\∀b∈d,H1 b=none)/\∃z,F=z::fr.map λj=>(σ[j]?).getD none,
  ⟨xs.length,rfl,aY _,y4 J _,⟨[],z3,.nil,λ_ h=>(by cases h),λ_ h=>(by cases h)⟩,none,rfl⟩,?_⟩
 rintro i m F H' ⟨rfl,hi,k,⟨d,hl,G,u,A⟩,z,rfl⟩
 by_cases hlt:i<xs.length
 .refine .inr ⟨⟨xs,xs[i],k.seq hS,by simp[hlt]⟩,λx H2 S l C n p=>?_⟩
  obtain⟨e,R⟩:=S
  subst e
  have M:=R xs (k.seq hS)
  have B:ys[i]?=some ys[i]:=ac (by lia)
  refine⟨_,E i _ x _ M B k l C n p,λv f ⟨O,b,P,r,hG⟩=>?_⟩
  subst P
  have q:d.length=i:=by rw[Paired.length G,aX];lia
  have L:=O _ _ hl
  have s:b≠D:=Ne.symm (y9 hl r)
  refine⟨d.map V.ref,xs.length-(i+1),L,by rw[aa,q];lia,by lia,rfl,hlt,λc o e=>?_,⟨d++[b],by rw[z3,aO];rfl,?_,λc t=>?_,λc t=>?_⟩,_,rfl⟩
  .rw[y0 (y9 e J)]
   exact O _ _ (k _ _ e)
  .rw[be,B]
   refine Paired.snoc (P3 G λc t y e=>by rw[y0 (u c t)];exact O _ _ e) ?_
   rw[y0 s]
   exact hG
  .rcases aI.mp t with w|w
   .exact u c w
   .rw[ar.mp w];exact s
  .rcases aI.mp t with w|w
   .exact A c w
   .rw[ar.mp w];exact k.free r
 .have e:i=xs.length:=by lia
  subst e
  refine .inl ⟨⟨xs,k.seq hS,aq _⟩,I D H' d J k hl ?_ A⟩
  rw[bF (by lia)]at G
  exact G
theorem zi0 {J:It}{fr:List Nat}{te:CT TE}{σ:St}{H1:Hp}{Q:Addr->Hp->Prop}{α:Type}(g:α->HO)(ys:List α){n:Nat}(U:ys.length=n)(X:n<=gn)
  (k:∀H,y8 H1 H->J.stop n H) (O:∀i H,i<n->y8 H1 H->J.go i H)
  (F:∀(i:Nat) H x H2 y,i<n->y8 H1 H->J.yld i H x H2->ys[i]?=some y->H2=H/\∀p E q r,te p E q r (some x::fr.map λj=>(σ[j]?).getD none) H λv d=>y8 H d/\∃b,v=.ref b/\H b=none/\d b=some (g y))
  (K:∀D H a,H1 D=none->y8 H1 H->H D=some (.lst (a.map V.ref))->Paired (λb y=>H b=some (g y)) a ys->(∀b∈a,H1 b=none)->(∀b∈a,b≠D)->Q D H) :
  ∀D,H1 D=none->∃W:Nat->Nat->St->Hp->Prop,(∃m,W 0 m (M2 1 fr σ) (upd H1 D (.lst [])))/\∀i m G H',W i m G H' ->
  (J.stop i H'/\Q D H')∨(J.go i H'/\∀x H2,J.yld i H' x H2->∀p E q r,Z0 0 x G H2 λσ3 H3=>∃N:VK,te p E q r σ3 H3 N/\∀y d,N y d ->
   ∃ys m',d D=some (.lst ys)/\ys.length<gn/\m'<m/\W (i+1) m' σ3 (upd d D (.lst (ys++[y])))):=by
 intro D L
 refine⟨λi m G H'=>m=n-i/\i<=n/\y8 H1 H'/\(∃a:List Addr,H' D=some (.lst (a.map V.ref))/\Paired (λb y=>H' b=some (g y)) a (ys.take i)/\(∀b∈a,b≠D)/\∀b∈a,H1 b=none)/\∃z,G=z::fr.map λj=>(σ[j]?).getD none,
  ⟨n,rfl,aY _,y4 L _,⟨[],z3,.nil,λ_ h=>(by cases h),λ_ h=>(by cases h)⟩,none,rfl⟩,?_⟩
 rintro i m G H' ⟨rfl,hi,l,⟨a,hl,I,f,B⟩,z,rfl⟩
 by_cases hlt:i<n
 .refine .inr ⟨O i H' hlt l,λx H2 T p E q r=>?_⟩
  have C:ys[i]?=some ys[i]:=ac (by lia)
  obtain⟨e,S⟩:=F i H' x H2 _ hlt l T C
  subst e
  refine⟨_,S p E q r,λv d ⟨P,b,R,t,hG⟩=>?_⟩
  subst R
  have s:a.length=i:=by rw[Paired.length I,aX];lia
  have M:=P _ _ hl
  have u:b≠D:=Ne.symm (y9 hl t)
  refine⟨a.map V.ref,n-(i+1),M,by rw[aa,s];lia,by lia,rfl,hlt,λc o e=>?_,⟨a++[b],by rw[z3,aO];rfl,?_,λc A=>?_,λc A=>?_⟩,_,rfl⟩
  .rw[y0 (y9 e L)]
   exact P _ _ (l _ _ e)
  .rw[be,C]
   refine Paired.snoc (P3 I λc A y e=>by rw[y0 (f c A)];exact P _ _ e) ?_
   rw[y0 u]
   exact hG
  .rcases aI.mp A with w|w
   .exact f c w
   .rw[ar.mp w];exact u
  .rcases aI.mp A with w|w
   .exact B c w
   .rw[ar.mp w];exact l.free t
 .have e:i=n:=by lia
  subst e
  refine .inl ⟨k H' l,K D H' a L l hl ?_ B f⟩
  rw[bF (by lia)]at I
  exact I
abbrev zh1 (H:Hp) (ws:List Addr) (ps:List (Nat×Nat)):Prop:=Paired (λa (x:Nat×Nat)=>H a=some (.tup [.int (x.1:Int),.int (x.2:Int)])) ws ps
theorem zh1.same {H H':Hp}{ws:List Addr}{ps:List (Nat×Nat)}(h:zh1 H ws ps)(s:y8 H H'):zh1 H' ws ps:=Paired.imp' (λ_ _ e=>s _ _ e) h
theorem zh1.upd {H:Hp}{ws:List Addr}{ps:List (Nat×Nat)}{a:Addr}{o:HO}(h:zh1 H ws ps)(ha:∀xs,H a≠some (.tup xs)):zh1 (L2.upd H a o) ws ps:=Paired.imp' (λb t e=>by
 rw[y0 (λz=>by subst z;exact ha _ e)];exact e) h
theorem K3 {α β:Type}{F:α->β->Prop}:∀{as cs:List α} {bs ds:List β},Paired F as bs->Paired F cs ds->Paired F (as++cs) (bs++ds)
 | _,_,_,_,.nil,q=>q
 | _,_,_,_,.cons f r,q=>.cons f (K3 r q)
def kR (to:List (Nat×Nat))(bs:List Addr):List (Key×V):=(to.zip bs).map λp=>(Sum.inl (p.1.1:Int),V.ref p.2)
structure Z2 (cS:Addr) (n:Nat) (md:List (List Nat)) (H:Hp) (A:StA) (i:Nat) (s:StS):Prop where
 a:∃dx,H A.a=some (.ins cS dx [("place",.int i),("movers",.ref A.m),("line_to",.ref A.lt),("back_from",.ref A.bf),("waiting",.ref A.w),("looked_at",.int (s.lk:Int))])
 m:H A.m=some (.lst (tI s.mv))
 lt:H A.lt=some (.dK (kI s.to))
 bf:∃bs:List Addr,H A.bf=some (.dK (kR s.to bs))/\Paired (λ(x:Nat×Nat) b=>H b=some (.tup (tI (TM.bk n (md.getD x.2 []))))) s.to bs
 w:∃ws:List Addr,H A.w=some (.lst (ws.map V.ref))/\zh1 H ws s.wt
def C5:List Str:=["place","movers","line_to","back_from","waiting","looked_at"]
theorem yt6 {H H':Hp}{d:Addr}{o u:HO}(hd:H d=some u)(s:y8 (upd H d o) H'):y8 H (upd H' d u):=λb v h=>by
 by_cases e:b=d
 .subst e
  rw[z3,←hd,h]
 .rw[y0 e]
  exact s _ _ (by rw[y0 e];exact h)
def StS.putM (s:StS)(k:Nat):StS:={ s with mv:=s.mv++[k],wt:=s.wt++s.to.map λx=>(x.1,k) }
def yj5 (cS:Addr):Sp:=λvs H Q _=>∃(A:StA) (n:Nat) (md:List (List Nat)) (i k:Nat) (s:StS),vs=[.ref A.a,.int k]/\Z2 cS n md H A i s/\A.m≠A.w/\s.mv.length<1000000/\s.to.length<=1000000/\s.wt.length<=1000000 /\
 ∀H':Hp,u3 [A.m,A.w] H H'->Z2 cS n md H' A i (s.putM k)->Q .non H'
theorem zb2:u6 ["self","mover"] ["self","mover"] (x9 T2):=scq
theorem za1 {cS:Addr}(F:Fun K "put_mover" "Step.put_mover" T2 f fd)(B:Blt mg)(cs:Y4 K cS C5):o8 P w K mg base CX0 1 f fd ["self","mover"] (yj5 cS):=by
 refine F.ok zb2 (λvs H Q E h=>?_) (λav Ar aj s H vs Q E hr h=>?_)
 .obtain⟨A,n,md,i,k,s,rfl,_⟩:=h;rfl
 obtain⟨A,n,md,i,k,s,rfl,⟨⟨dx,ha⟩,hm,hlt,⟨bs,O,ae⟩,⟨ws,hw,W⟩⟩,T,ax,az,ba,q⟩:=h;have hz:=W4;have X:ws.length=s.wt.length:=Paired.length W;refine⟨_,z6 (i3 (Q3 PySem.F.plainAttrs_list PySem.F.slot_list_append PySem.F.type_list_append i8 (q9 (pv 0) rfl) (z0 (pv 1) z4)))
  (z7 (i3 (Q3 PySem.F.plainAttrs_list PySem.F.slot_list_extend PySem.F.type_list_extend zr4 (q9 (pv 0) rfl) (z0 (xi2 (c5 [1] ["place","mover"] rfl (zx0 (q9 (pv 0) rfl)) (λ_ _ _ _=>R5 (z0 (pv 0) (z0 (pv 1) z4))))) z4)))),?_⟩
 refine⟨_,rfl,A.a,cS,dx,_,_,rfl,ha,cs.cls,cs.no "movers" (by decide),rfl,.inl ⟨rfl,_,SqL.of hm⟩,_,rfl,A.m,_,_,rfl,rfl,hm,by rw[z9];lia,?_⟩;have am:A.a≠A.m:=l4 ha hm (by intro z;cases z);have lm:A.lt≠A.m:=l4 hlt hm (by intro z;cases z);have bm:A.bf≠A.m:=l4 O hm (by intro z;cases z);have Y:∀xs,H A.m≠some (.tup xs):=λxs z=>by rw[hm]at z;cases z
 have g:(upd H A.m (.lst (tI s.mv++[V.int k]))) A.a=some (.ins cS dx [("place",.int i),("movers",.ref A.m),("line_to",.ref A.lt),("back_from",.ref A.bf),("waiting",.ref A.w),("looked_at",.int (s.lk:Int))]):=by rw[y0 am];exact ha
 have S:(upd H A.m (.lst (tI s.mv++[V.int k]))) A.m=some (.lst (tI (s.mv++[k]))):=by rw[z3,b8];rfl
 have c:(upd H A.m (.lst (tI s.mv++[V.int k]))) A.lt=some (.dK (kI s.to)):=by rw[y0 lm];exact hlt
 have l:(upd H A.m (.lst (tI s.mv++[V.int k]))) A.bf=some (.dK (kR s.to bs)):=by rw[y0 bm];exact O
 have d:(upd H A.m (.lst (tI s.mv++[V.int k]))) A.w=some (.lst (ws.map V.ref)):=by rw[y0 (Ne.symm T)];exact hw
 have C:=zh1.upd (o:=.lst (tI s.mv++[V.int k])) W Y;have v:Paired (λ(x:Nat×Nat) b=>(upd H A.m (.lst (tI s.mv++[V.int k]))) b=some (.tup (tI (TM.bk n (md.getD x.2 []))))) s.to bs:=Paired.imp' (λx b e=>by rw[y0 (λz=>by subst z;exact Y _ e)];exact e) ae;have M:u3 [A.m,A.w] H (upd H A.m (.lst (tI s.mv++[V.int k]))):=u3.upd u3.refl (by simp) _;generalize upd H A.m (.lst (tI s.mv++[V.int k]))=H1 at g S c l d C v M ⊢;refine⟨_,rfl,A.a,cS,dx,_,_,rfl,g,cs.cls,cs.no "waiting" (by decide),rfl,.inl ⟨rfl,_,SqL.of d⟩,?_⟩;refine⟨A.lt,kI s.to,c,_,rfl,A.a,cS,dx,_,_,rfl,g,cs.cls,cs.no "line_to" (by decide),rfl,A.lt,_,rfl,c,λob=>?_⟩;refine zi0 (λ(y:Nat×Nat)=>HO.tup [.int (y.1:Int),.int (y.2:Int)]) (s.to.map λx=>(x.1,k)) (n:=(kI s.to).length) (by rw[aa,K2]) (by rw[K2];lia) (λH2 I=>⟨I _ _ z3,aq _⟩) (λj H2 hj I=>⟨I _ _ z3,hj⟩) ?_ ?_
 .rintro j H2 x H3 y hj I ⟨rfl,kk,vv,J,rfl⟩ hy;refine⟨rfl,λ_ _ _ _=>?_⟩;rw[af]at hy;unfold kI at J;rw[af]at J
  cases e:s.to[j]? with
  | none=>rw[e]at J;cases J
  | some p =>
   rw[e]at J hy
   cases J
   cases hy
   exact⟨_,rfl,_,rfl,(by show 2<=gn;lia),λr U=>⟨y4 U _,r,rfl,U,z3⟩⟩
 .intro L H2 Z hD I ag hP ah ay;have t:=yt6 c I;have N:H1 L=none:=by
   cases e:H1 L with
   | none=>rfl
   | some u=>exact absurd hD (by rw[y0 (λz=>by subst z;rw[z3]at hD;cases hD),e];intro z;cases z)
  have ab:L≠A.lt:=λz=>by subst z;rw[c]at N;cases N
  refine⟨⟨ob,I _ _ z3⟩,?_⟩;have R:(upd H2 A.lt (.dK (kI s.to))) L=some (.lst (Z.map V.ref)):=by rw[y0 ab];exact ag
  have D:zh1 (upd H2 A.lt (.dK (kI s.to))) Z (s.to.map λx=>(x.1,k)):=P3 hP λb hb y e=>by
   rw[y0 (λz=>by
    have:=ah b hb
    rw[z,z3]at this
    cases this)]
   exact e
  generalize upd H2 A.lt (.dK (kI s.to))=H3 at t R D ⊢;refine⟨A.w,L,_,_,rfl,rfl,t _ _ d,R,?_,?_⟩
  .rw[aa,aa,X,Paired.length D,aa];lia
  .have wa:A.a≠A.w:=l4 g d (by intro z;cases z);have wm:A.m≠A.w:=T;have wl:A.lt≠A.w:=l4 c d (by intro z;cases z);have wb:A.bf≠A.w:=l4 l d (by intro z;cases z);have G:∀xs,H3 A.w≠some (.tup xs):=λxs z=>by rw[t _ _ d]at z;cases z
   refine q _ (u3.upd (u3.trans M (y8.frame t)) (by simp) _) ⟨⟨dx,by rw[y0 wa];exact t _ _ g⟩,by rw[y0 wm];exact t _ _ S,by rw[y0 wl];exact t _ _ c,⟨bs,by rw[y0 wb];exact t _ _ l,?_⟩,⟨ws++Z,by rw[z3,aO],?_⟩⟩
   .exact Paired.imp' (λx b e=>by
     have e':=t _ _ e
     rw[y0 (λz=>by subst z;exact G _ e')];exact e') v
   .exact K3 ((C.same t).upd G) (D.upd G)
def StS.putP (s:StS)(p k:Nat):StS:={ s with to:=s.to++[(p,k)],wt:=s.wt++s.mv.map λm=>(p,m) }
def xc8 (cS:Addr):Sp:=λvs H Q _=>∃(A:StA) (n:Nat) (md:List (List Nat)) (i p k:Nat) (s:StS) (tr:Addr) (t:List Nat),vs=[.ref A.a,.int p,.int k,.ref tr]/\Z2 cS n md H A i s/\H tr=some (.tup (tI t))/\md.getD k []=t/\TM.IsT n t/\n<=60/\atN s.to p=none/\A.m≠A.w/\A.lt≠A.bf/\s.mv.length<1000000/\s.to.length<1000000/\s.wt.length<=1000000 /\
 ∀H':Hp,u3 [A.lt,A.bf,A.w] H H'->Z2 cS n md H' A i (s.putP p k)->Q .non H'
theorem zb3:u6 ["self","place","line","turning"] ["self","place","line","turning"] (x9 Y7):=scq
theorem xo0 {to:List (Nat×Nat)}{bs:List Addr}(h:to.length=bs.length):(kR to bs).length=to.length:=by
 unfold kR;rw[aa,List.length_zip,←h,Nat.min_self]
theorem yp5:∀{to:List (Nat×Nat)} {bs:List Addr},to.length=bs.length->∀{p:Nat},atN to p=none->X1 (kR to bs) (Sum.inl (p:Int))=none
 | [],[],_,p,_=>rfl
 | x::to,b::bs,hl,p,h=>by
  have hx:¬x.1=p:=λe=>by unfold atN at h;rw[cT (by simpa using e)]at h;cases h
  have h':atN to p=none:=by unfold atN at h ⊢;rwa [cU (by simpa using hx)]at h
  have e:kR (x::to) (b::bs)=(Sum.inl (x.1:Int),V.ref b)::kR to bs:=rfl
  rw[e,c6 (λz=>hx (by have:=Sum.inl.inj z;lia))]
  exact yp5 (by simpa using hl) h'
theorem xi3 {to:List (Nat×Nat)}{bs:List Addr}{p k:Nat}{r:Addr}(hl:to.length=bs.length)(h:atN to p=none):putK (kR to bs) (Sum.inl (p:Int)) (V.ref r)=kR (to++[(p,k)]) (bs++[r]):=by
 have e:=yp5 hl h;unfold putK;rw[M9,e];show kR to bs++[(Sum.inl (p:Int),V.ref r)]=_;unfold kR;rw[List.zip_append hl,aO];rfl
theorem zw4 {α β:Type}{F:α->β->Prop}{as:List α}{bs:List β}{a:α}{b:β}(h:Paired F as bs)(f:F a b):Paired F (as++[a]) (bs++[b]):=K3 h (.cons f .nil)
theorem za2 {cS:Addr}(F:Fun K "put_place" "Step.put_place" Y7 f fd)(B:Blt mg)(cs:Y4 K cS C5)(KB:n5 P w K mg base 1 "back" ["one"] (yj4 K)):o8 P w K mg base CX0 2 f fd ["self","place","line","turning"] (xc8 cS):=by
 refine F.ok zb3 (λvs H Q E h=>?_) (λar Ar ba sh H vs Q E hr h=>?_)
 .obtain⟨A,n,md,i,p,k,s,tr,t,rfl,_⟩:=h;rfl
 obtain⟨A,n,md,i,p,k,s,tr,t,rfl,⟨⟨dx,ha⟩,hm,hlt,⟨bs,au,ai⟩,⟨ws,hw,am⟩⟩,az,ax,hT,hn,hp,ay,R,bo,br,bu,q⟩:=h;have hz:=W4;have an:ws.length=s.wt.length:=Paired.length am;have N:s.to.length=bs.length:=Paired.length ai;have hu:(Ar.deeper (PyProof.Rows.envOfC "Step.put_place" (x9 Y7) sh.heap.objs.size f ar)).units+1<cLine:=by have:=hr.units;lia
 refine⟨_,z6 (K5 hu (q9 (pv 0) rfl) (pv 1) (pv 2) rfl)
  (z6 (K5 hu (q9 (pv 0) rfl) (pv 1) (o6 KB hr rfl (z0 (pv 3) z4)) rfl)
  (z7 (i3 (Q3 PySem.F.plainAttrs_list PySem.F.slot_list_extend PySem.F.type_list_extend zr4 (q9 (pv 0) rfl) (z0 (c5 [1] ["mover","place"] rfl (c9 (q9 (pv 0) rfl)) (λ_ _ _ _=>R5 (z0 (pv 1) (z0 (pv 0) z4)))) z4))))),?_⟩
 refine⟨_,rfl,_,rfl,A.a,cS,dx,_,_,rfl,ha,cs.cls,cs.no "line_to" (by decide),rfl,_,rfl,A.lt,_,rfl,zg7.k (k:=Sum.inl (p:Int)) hlt (by rw[K2];lia),?_⟩;rw[zl7 hp];have Y:∀{b:Addr} {o:HO},H b=some o->o≠.dK (kI s.to)->(upd H A.lt (.dK (kI (s.to++[(p,k)])))) b=some o:=λ{b o} h d=>by rw[y0 (l4 h hlt d)];exact h
 have D:=Y ha (by intro z;cases z);have W:=Y hm (by intro z;cases z);have S:=Y az (by intro z;cases z);have X:=Y hw (by intro z;cases z);have u:(upd H A.lt (.dK (kI (s.to++[(p,k)])))) A.bf=some (.dK (kR s.to bs)):=by rw[y0 (Ne.symm R)];exact au
 have O:(upd H A.lt (.dK (kI (s.to++[(p,k)])))) A.lt=some (.dK (kI (s.to++[(p,k)]))):=z3;have T:zh1 (upd H A.lt (.dK (kI (s.to++[(p,k)])))) ws s.wt:=Paired.imp' (λx b e=>Y e (by intro z;cases z)) am;have L:Paired (λ(x:Nat×Nat) b=>(upd H A.lt (.dK (kI (s.to++[(p,k)])))) b=some (.tup (tI (TM.bk n (md.getD x.2 []))))) s.to bs:=Paired.imp' (λx b e=>Y e (by intro z;cases z)) ai;have ae:u3 [A.lt,A.bf,A.w] H (upd H A.lt (.dK (kI (s.to++[(p,k)])))):=u3.upd u3.refl (by simp) _;clear Y;generalize upd H A.lt (.dK (kI (s.to++[(p,k)])))=H1 at D W S X u O T L ae ⊢;refine⟨_,rfl,tr,n,t,rfl,SqT.of S,hT,by lia,λr H2 b bq s2 hb al=>?_⟩;have eb:b=TM.bk n t:=hb.uniq hT (TM.bk_back hT);subst eb;have J:=s2 _ _ u;refine⟨_,rfl,A.a,cS,dx,_,_,rfl,s2 _ _ D,cs.cls,cs.no "back_from" (by decide),rfl,_,rfl,A.bf,_,rfl,zg7.k (k:=Sum.inl (p:Int)) J (by rw[xo0 N];lia),?_⟩;rw[xi3 (k:=k) N hp];have Z:∀{b:Addr} {o:HO},H1 b=some o->b≠A.bf->(upd H2 A.bf (.dK (kR (s.to++[(p,k)]) (bs++[r])))) b=some o:=λ{b o} h d=>by rw[y0 d];exact s2 _ _ h
 have g:∀{b:Addr} {o:HO},H1 b=some o->o≠.dK (kR s.to bs)->b≠A.bf:=λ{b o} h d=>l4 h u d;have l:=Z D (g D (by intro z;cases z));have G:=Z W (g W (by intro z;cases z));have I:=Z X (g X (by intro z;cases z));have C:=Z O R;have v:(upd H2 A.bf (.dK (kR (s.to++[(p,k)]) (bs++[r])))) A.bf=some (.dK (kR (s.to++[(p,k)]) (bs++[r]))):=z3;have U:zh1 (upd H2 A.bf (.dK (kR (s.to++[(p,k)]) (bs++[r])))) ws s.wt:=Paired.imp' (λx b e=>Z e (g e (by intro z;cases z))) T;have ak:(upd H2 A.bf (.dK (kR (s.to++[(p,k)]) (bs++[r])))) r=some (.tup (tI (TM.bk n t))):=by rw[y0 (l4 al J (by intro z;cases z))];exact al
 have M:Paired (λ(x:Nat×Nat) b=>(upd H2 A.bf (.dK (kR (s.to++[(p,k)]) (bs++[r])))) b=some (.tup (tI (TM.bk n (md.getD x.2 []))))) (s.to++[(p,k)]) (bs++[r]) :=
  zw4 (Paired.imp' (λx b e=>Z e (g e (by intro z;cases z))) L) (by show _=some (HO.tup (tI (TM.bk n (md.getD k []))));rw[ax];exact ak)
 have ag:u3 [A.lt,A.bf,A.w] H (upd H2 A.bf (.dK (kR (s.to++[(p,k)]) (bs++[r])))):=u3.upd (u3.trans ae (y8.frame s2)) (by simp) _;clear Z g;generalize upd H2 A.bf (.dK (kR (s.to++[(p,k)]) (bs++[r])))=H3 at l G I C v U ak M ag ⊢;refine⟨_,rfl,A.a,cS,dx,_,_,rfl,l,cs.cls,cs.no "waiting" (by decide),rfl,.inl ⟨rfl,_,SqL.of I⟩,?_⟩;refine⟨_,rfl,A.a,cS,dx,_,_,rfl,l,cs.cls,cs.no "movers" (by decide),rfl,A.m,rfl,⟨_,SqL.of G⟩,?_⟩;refine zq2 (λ(y:Nat×Nat)=>HO.tup [.int (y.1:Int),.int (y.2:Int)]) (s.mv.map λm=>(p,m)) (SqL.of G) (by rw[aa,z9]) (by rw[z9];lia) ?_ ?_
 .intro j H4 x y hx hy c _ _ _ _;obtain⟨m,aw,rfl⟩:=U1 hx;rw[af,aw]at hy
  cases hy
  exact⟨_,rfl,_,rfl,(by show 2<=gn;lia),λr' aj=>⟨y4 aj _,r',rfl,aj,z3⟩⟩
 .intro Dl H4 as hD c av ah bp;refine⟨A.w,Dl,_,_,rfl,rfl,c _ _ I,av,?_,?_⟩
  .rw[aa,aa,an,Paired.length ah,aa];lia
  .have a':=c _ _ I;have k4:∀{b:Addr} {o:HO},H4 b=some o->b≠A.w->(upd H4 A.w (.lst (ws.map V.ref++as.map V.ref))) b=some o:=λ{b o} h d=>by rw[y0 d];exact h
   have nw:∀{b:Addr} {o:HO},H4 b=some o->o≠.lst (ws.map V.ref)->b≠A.w:=λ{b o} h d=>l4 h a' d;refine q _ (u3.upd (u3.trans ag (y8.frame c)) (by simp) _) ⟨⟨dx,k4 (c _ _ l) (nw (c _ _ l) (by intro z;cases z))⟩,k4 (c _ _ G) ay,k4 (c _ _ C) (nw (c _ _ C) (by intro z;cases z)),⟨bs++[r],k4 (c _ _ v) (nw (c _ _ v) (by intro z;cases z)),Paired.imp' (λx b e=>k4 (c _ _ e) (nw (c _ _ e) (by intro z;cases z))) M⟩,⟨ws++as,by rw[z3,aO],?_⟩⟩;exact K3 (Paired.imp' (λx b e=>k4 (c _ _ e) (nw (c _ _ e) (by intro z;cases z))) U) (Paired.imp' (λx b e=>k4 e (nw e (by intro z;cases z))) ah)
def xc5 (cS:Addr):Sp:=λvs H Q _=>∃(A:StA) (n:Nat) (md:List (List Nat)) (i:Nat) (s:StS),vs=[.ref A.a]/\Z2 cS n md H A i s/\s.lk<=s.wt.length/\s.wt.length<=1000000 /\
 (s.lk=s.wt.length->Q .non H)/\∀(x:Nat×Nat) (r:Addr) (H':Hp),s.wt[s.lk]?=some x->H' r=some (.tup [.int (x.1:Int),.int (x.2:Int)])->u3 [A.a] H H'->Z2 cS n md H' A i { s with lk:=s.lk+1 }->Q (.ref r) H'
theorem zb1:u6 ["self"] ["self"] (x9 T1):=scq
theorem za0 {cS:Addr}(F:Fun K "next_pair" "Step.next_pair" T1 f fd)(B:Blt mg)(cs:Y4 K cS C5):o8 P w K mg base CX0 1 f fd ["self"] (xc5 cS):=by
 refine F.ok zb1 (λU H Q E h=>?_) (λL W D s H U Q E X h=>?_)
 .obtain⟨A,n,R,i,s,rfl,_⟩:=h;rfl
 obtain⟨A,n,R,i,s,rfl,st,N,O,S,T⟩:=h;obtain⟨⟨dx,l⟩,hm,hlt,⟨bs,u,v⟩,⟨G,I,j⟩⟩:=id st;have Y:=W4;have g:G.length=s.wt.length:=Paired.length j;refine⟨_,z6 (o3 (u8 h7 (q9 (pv 0) rfl) (w6 y6 rfl B.len p4 (z0 (q9 (pv 0) rfl) z4)) (r6 _)) (z7 (u4 zw9)) u5)
  (z6 (yt3 (pv 0) z8 xg4)
  (z7 (u4 (p5 t4 (q9 (pv 0) rfl) (w8 N8 (q9 (pv 0) rfl) z8) (λ_ _=>rfl))))),?_⟩
 refine⟨_,rfl,A.a,cS,dx,_,_,rfl,l,cs.cls,cs.no "looked_at" (by decide),rfl,_,rfl,A.a,cS,dx,_,_,rfl,l,cs.cls,cs.no "waiting" (by decide),rfl,A.w,_,rfl,.inl (SqL.of I),rfl,_,rfl,xg6 (λc=>?_) (λc=>?_)⟩
 .rw[u9,aa,g]at c;exact S (by have:=of_decide_eq_true c;lia)
 .rw[u9,aa,g]at c;have p:s.lk<s.wt.length:=by have:=of_decide_eq_false (cw.mpr c);lia
  refine⟨_,rfl,A.a,cS,dx,_,_,rfl,l,cs.cls,cs.no "looked_at" (by decide),rfl,_,_,rfl,rfl,dx,_,l,(by show 6<1000;decide),?_⟩;have t:(upd H A.a (.ins cS dx (Y6 "looked_at" (V.int ((s.lk:Int)+1)) [("place",.int i),("movers",.ref A.m),("line_to",.ref A.lt),("back_from",.ref A.bf),("waiting",.ref A.w),("looked_at",.int (s.lk:Int))]))) A.a=some (.ins cS dx [("place",.int i),("movers",.ref A.m),("line_to",.ref A.lt),("back_from",.ref A.bf),("waiting",.ref A.w),("looked_at",.int ((s.lk+1:Nat):Int))]):=by
   rw[z3,show((s.lk+1:Nat):Int)=(s.lk:Int)+1 by lia];rfl
  have fr:u3 [A.a] H (upd H A.a (.ins cS dx (Y6 "looked_at" (V.int ((s.lk:Int)+1)) [("place",.int i),("movers",.ref A.m),("line_to",.ref A.lt),("back_from",.ref A.bf),("waiting",.ref A.w),("looked_at",.int (s.lk:Int))]))):=u3.upd u3.refl (by simp) _;generalize upd H A.a (.ins cS dx (Y6 "looked_at" (V.int ((s.lk:Int)+1)) [("place",.int i),("movers",.ref A.m),("line_to",.ref A.lt),("back_from",.ref A.bf),("waiting",.ref A.w),("looked_at",.int (s.lk:Int))]))=H1 at t fr ⊢;have k:∀{b:Addr} {o:HO},H b=some o->o≠.ins cS dx [("place",.int i),("movers",.ref A.m),("line_to",.ref A.lt),("back_from",.ref A.bf),("waiting",.ref A.w),("looked_at",.int (s.lk:Int))]->H1 b=some o:=λ{b o} h d=>fr b o (by simpa using l4 h l d) h;have J:s.wt[s.lk]?=some s.wt[s.lk]:=ac p;obtain⟨r,y,C⟩:=g7 j s.lk _ J;have q:=k I (by intro z;cases z);have M:atI (G.map V.ref) ((s.lk:Nat):Int)=some (V.ref r):=l8 (by rw[af,y];rfl);refine⟨_,rfl,A.a,cS,dx,_,_,rfl,t,cs.cls,cs.no "waiting" (by decide),rfl,_,rfl,A.a,cS,dx,_,_,rfl,t,cs.cls,cs.no "looked_at" (by decide),rfl,_,_,rfl,rfl,A.w,_,_,_,rfl,rfl,SqL.of q,?_,T _ r H1 J (k C (by intro z;cases z)) fr ⟨⟨dx,t⟩,k hm (by intro z;cases z),k hlt (by intro z;cases z),⟨bs,k u (by intro z;cases z),Paired.imp' (λx b e=>k e (by intro z;cases z)) v⟩,⟨G,q,Paired.imp' (λx b e=>k e (by intro z;cases z)) j⟩⟩⟩;rw[show((s.lk+1:Nat):Int)-1=((s.lk:Nat):Int) by lia];exact M
structure p9 (cC cB cS:Addr) (n:Nat) (H:Hp) (A:ChA) (S:ChS):Prop where
 nd:A.all.Nodup
 c:∃dx,H A.c=some (.ins cC dx [("book",.ref A.b),("steps",.ref A.l)])
 bk:U5 cB H A S
 l:H A.l=some (.lst (A.st.map λs=>V.ref s.a))
 len:A.st.length=n/\S.st.length=n
 st:∀i a s,A.st[i]?=some a->S.st[i]?=some s->Z2 cS n S.md H a i s
def U7:List Str:=["book","steps"]
theorem Z2.same {cS:Addr}{n:Nat}{md:List (List Nat)}{H H':Hp}{A:StA}{i:Nat}{s:StS}(h:Z2 cS n md H A i s)(k:y8 H H'):Z2 cS n md H' A i s :=
 ⟨h.a.imp λ_ e=>k _ _ e,k _ _ h.m,k _ _ h.lt,h.bf.imp λ_ e=>⟨k _ _ e.1,Paired.imp' (λ_ _ z=>k _ _ z) e.2⟩,h.w.imp λ_ e=>⟨k _ _ e.1,e.2.same k⟩⟩
theorem p9.same {cC cB cS:Addr}{n:Nat}{H H':Hp}{A:ChA}{S:ChS}(h:p9 cC cB cS n H A S)(k:y8 H H'):p9 cC cB cS n H' A S :=
 ⟨h.nd,h.c.imp λ_ e=>k _ _ e,h.bk.same k,k _ _ h.l,h.len,λi a s ha hs=>(h.st i a s ha hs).same k⟩
def M8 (n:Nat)(md:List (List Nat)):List StS->Nat->List Nat->List Nat->Option (List Nat)
 | [],_,_,acc=>some acc
 | s::r,j,x,acc=>match atN s.to (x.getD j 0) with
  | none=>none
  | some k=>if x.getD j 0=j then M8 n md r (j+1) x acc else M8 n md r (j+1) (TM.beh x (TM.bk n (md.getD k []))) (acc++[k])
structure ChS.Well (n:Nat) (S:ChS):Prop where
 md:∀t∈S.md,TM.IsT n t
 to:∀s∈S.st,∀x∈s.to,x.1<n/\x.2<S.md.length
 mv:∀s∈S.st,∀k∈s.mv,k<S.md.length
theorem Q7 {α:Type}{l:List (Nat×α)}{p:Nat}{k:α}(h:atN l p=some k):(p,k)∈l:=by
 unfold atN at h
 cases e:l.find? (λx=>decide (x.1=p)) with
 | none=>rw[e]at h;cases h
 | some x =>
  rw[e]at h;have h1:=List.find?_some e;have h2:=List.mem_of_find?_eq_some e;have a:x.1=p:=by simpa using h1
  have b:x.2=k:=by simpa using h
  rw[←a,←b];exact h2
theorem ChS.Well.at {n:Nat}{S:ChS}(h:S.Well n){k:Nat}(hk:k<S.md.length):TM.IsT n (S.md.getD k []):=h.md _ (ax (P1 [] hk))
theorem J9 {F:Nat×Nat->Addr->Prop}:∀{to:List (Nat×Nat)} {bs:List Addr},Paired F to bs->∀{p k:Nat},atN to p=some k->∃b,X1 (kR to bs) (Sum.inl (p:Int))=some (V.ref b)/\F (p,k) b
 | _,_,.nil,p,k,h=>by cases h
 | x::to,b::bs,.cons f r,p,k,h=>by
  by_cases hx:x.1=p
  .have e:atN (x::to) p=some x.2:=by unfold atN;rw[cT (by simpa using hx)];rfl
   rw[e]at h
   have c:x.2=k:=Option.some.inj h
   refine⟨b,b9 (p:=(Sum.inl (x.1:Int),V.ref b)) (by show(Sum.inl (x.1:Int):Key)=_;rw[hx]),?_⟩
   rw[←hx,←c]
   exact f
  .have e:atN (x::to) p=atN to p:=by unfold atN;rw[cU (by simpa using hx)]
   rw[e]at h
   obtain⟨a,h1,h2⟩:=J9 r h
   refine⟨a,?_,h2⟩
   rw[←h1]
   exact c6 (p:=(Sum.inl (x.1:Int),V.ref b)) λz=>hx (by have:=Sum.inl.inj z;lia)
def yj6 (cC cB cS:Addr):Sp:=λvs H Q _=>∃(A:ChA) (S:ChS) (n lv:Nat) (tr:Addr) (x:List Nat),vs=[.ref A.c,.ref tr,.int lv]/\p9 cC cB cS n H A S/\S.Well n/\H tr=some (.tup (tI x))/\TM.IsT n x/\lv<=n/\n<=60 /\
 (M8 n S.md (S.st.drop lv) lv x []=none->∀H':Hp,y8 H H'->Q .non H')/\∀(ls:List Nat) (r:Addr) (H':Hp),M8 n S.md (S.st.drop lv) lv x []=some ls->H r=none->y8 H H'->H' r=some (.lst (tI ls))->Q (.ref r) H'
theorem g9:u6 ["self","turning","level","lines","here","step","to"] ["self","turning","level"] (x9 V7):=scq
theorem yw0 {xs:List V}{k:Nat}(a:k<=xs.length):P6 xs (some (k:Int)) none=xs.drop k:=by
 unfold P6;rw[HT.sIx_none,HT.sIx_nat,eJ a,bF (by rw[br];exact aq _)]
theorem zf8 {cC cB cS:Addr}(F:Fun K "sifted" "Chain.sifted" V7 f fd)(B:Blt mg)(cc:Y4 K cC U7)(cs:Y4 K cS C5)(KB:n5 P w K mg base 1 "behind" ["one","other"] (zb5 K)):o8 P w K mg base CX0 2 f fd ["self","turning","level"] (yj6 cC cB cS):=by
 refine F.ok g9 (λvs H Q E h=>?_) (λap Ar bi sh H vs Q E hr h=>?_)
 .obtain⟨A,S,n,d,tr,x,rfl,_⟩:=h;rfl
 obtain⟨A,S,n,d,tr,x,rfl,C,wl,bd,hx,az,hn,q1,q2⟩:=h;have hz:=W4;have hu:(Ar.deeper (PyProof.Rows.envOfC "Chain.sifted" (x9 V7) sh.heap.objs.size f ap)).units+1<cLine:=by have:=hr.units;lia
 obtain⟨dx,hc⟩:=C.c;refine⟨_,z6 (v0 (i:=3) g9.nd rfl (Or.inl rfl) (m9 z4))
  (z6 (v0 (i:=4) g9.nd rfl (Or.inl rfl) (pv 1))
  (z6 (l9 PassesOwn.never rfl (c9 (X8 J6 (q9 (pv 0) rfl) (V4 (pv 2)) P2)) (p6 (i:=5) g9.nd rfl (Or.inl rfl))
   (z6 (v0 (i:=6) g9.nd rfl (Or.inl rfl) (p5 Z9 (pv 4) (q9 (pv 5) rfl) (λ_ _=>rfl)))
   (z6 (o3 (B7 (M6 hu (pv 6) (q9 (pv 5) rfl))) (z7 (u4 zw9)) u5)
   (z7 (o3 (u8 zr6 (pv 6) (q9 (pv 5) rfl) (r6 _))
    (z6 (i3 (Q3 PySem.F.plainAttrs_list PySem.F.slot_list_append PySem.F.type_list_append i8 (pv 3) (z0 (Y5 hu (q9 (pv 5) rfl) (pv 6) (λ_ _=>rfl)) z4)))
    (z7 (v0 (i:=4) g9.nd rfl (Or.inl rfl) (o6 KB hr rfl (z0 (pv 4) (z0 (Y5 hu (q9 (pv 5) rfl) (pv 6) (λ_ _=>rfl)) z4)))))) u5)))))
  (z7 (u4 (pv 3))))),?_⟩
 refine⟨(by show 0<=gn;lia),λl hl=>?_⟩;have s0:=y4 hl (.lst []);have el:(upd H l (.lst [])) l=some (.lst (tI [])):=z3;generalize upd H l (.lst [])=H1 at s0 el ⊢;have T:(A.st.map λs=>V.ref s.a).length=n:=by rw[aa];exact C.len.1
 refine⟨_,rfl,_,rfl,A.c,cC,dx,_,_,rfl,s0 _ _ hc,cc.cls,cc.no "steps" (by decide),rfl,_,rfl,_,rfl,A.l,_,rfl,SqL.of (s0 _ _ C.l),λp hp=>?_⟩;rw[yw0 (by rw[T];exact az)];have s1:=s0.trans (y4 hp (.lst ((A.st.map λs=>V.ref s.a).drop d)));have ep:(upd H1 p (.lst ((A.st.map λs=>V.ref s.a).drop d))) p=some (.lst ((A.st.map λs=>V.ref s.a).drop d)):=z3;have ae:=y4 hp (.lst ((A.st.map λs=>V.ref s.a).drop d)) _ _ el;generalize upd H1 p (.lst ((A.st.map λs=>V.ref s.a).drop d))=H2 at s1 ep ae ⊢;have a':p≠l:=λz=>by
  subst z;rw[el]at hp
  cases hp
 have J:∀j,j<n->∃a s,A.st[j]?=some a/\S.st[j]?=some s:=λj W=>⟨_,_,ac (by rw[C.len.1];exact W),ac (by rw[C.len.2];exact W)⟩;refine⟨p,rfl,⟨_,SqL.of ep⟩,Z4 (xs:=(A.st.map λs=>V.ref s.a).drop d) (λi σ q=>∃(t:List Nat) (M:Addr) (y:List Nat) (v5 v6:Option V),σ=[some (.ref A.c),some (.ref tr),some (.int d),some (.ref l),some (.ref M),v5,v6]/\y8 H q/\q p=some (.lst ((A.st.map λs=>V.ref s.a).drop d))/\q l=some (.lst (tI t))/\q M=some (.tup (tI y))/\TM.IsT n y/\M8 n S.md (S.st.drop (d+i)) (d+i) y t=M8 n S.md (S.st.drop d) d x []/\t.length<=i)
  ⟨[],tr,x,none,none,rfl,s1,ep,ae,s1 _ _ bd,hx,rfl,aq _⟩ (λi σ q _ ⟨_,_,_,_,_,_,_,G,_⟩=>SqL.of G) ?_ ?_⟩
 .rintro i v σ q hv ⟨t,M,y,v5,v6,rfl,ss,G,u,D,Z,m,ay⟩;rw[dO,af]at hv;have W:d+i<n:=by
   cases e:A.st[d+i]? with
   | none=>rw[e]at hv;cases hv
   | some a=>have:=(aw.mp e).1;rwa [C.len.1]at this
  obtain⟨a,s,hA,hs⟩:=J (d+i) W;rw[hA]at hv
  cases hv
  have st:=(C.st _ _ _ hA hs).same ss;obtain⟨I,L⟩:=st.a;obtain⟨bs,cb,cd⟩:=st.bf;have bc:s∈S.st:=ax hs;have U:S.st.drop (d+i)=s::S.st.drop (d+i+1):=by
   have:=dS (l:=S.st) (i:=d+i) (by rw[C.len.2];exact W);rw[this];congr 1;exact Option.some.inj ((ac (by rw[C.len.2];exact W)).symm.trans hs)
  rw[U,M8]at m;refine⟨_,rfl,_,rfl,a.a,cS,I,_,_,rfl,L,cs.cls,cs.no "place" (by decide),rfl,M,_,_,_,rfl,rfl,SqT.of D,i5 (Z.get_step W),?_⟩;refine⟨_,rfl,_,rfl,a.a,cS,I,_,_,rfl,L,cs.cls,cs.no "line_to" (by decide),rfl,a.lt,_,rfl,W9.k (k:=Sum.inl ((y.getD (d+i) 0:Nat):Int)) st.lt,_,rfl,?_⟩;rw[U2]
  cases ea:atN s.to (y.getD (d+i) 0) with
  | none =>
   rw[ea]at m;refine m7 ?_;exact q1 m.symm q ss
  | some k =>
   rw[ea]at m;dsimp only at m;refine o9 ?_;have hk:k<S.md.length:=(wl.to s bc _ (Q7 ea)).2;have aj:=wl.at hk;refine⟨_,rfl,_,rfl,a.a,cS,I,_,_,rfl,L,cs.cls,cs.no "place" (by decide),rfl,rfl,_,rfl,?_⟩;rw[u9];by_cases X:y.getD (d+i) 0=d+i
   .rw[decide_eq_true (by rw[X])];rw[if_pos X]at m;exact o9 ⟨t,M,y,_,_,rfl,ss,G,u,D,Z,m,by lia⟩
   .rw[decide_eq_false (by lia)];rw[if_neg X]at m;refine m7 ?_;have g1:W9 q a.lt (kV (Sum.inl ((y.getD (d+i) 0:Nat):Int))) (some (V.int k)):=by
     have g:=W9.k (k:=Sum.inl ((y.getD (d+i) 0:Nat):Int)) st.lt;rwa [U2,ea]at g
    refine⟨_,rfl,.inl ⟨rfl,_,SqL.of u⟩,_,rfl,a.a,cS,I,_,_,rfl,L,cs.cls,cs.no "line_to" (by decide),rfl,_,rfl,a.lt,_,rfl,g1,l,_,_,rfl,rfl,u,by rw[z9];lia,?_⟩;have kk:∀{b:Addr} {o:HO},H b=some o->(upd q l (.lst (tI t++[V.int k]))) b=some o:=λ{b o} h=>by rw[y0 (y9 h hl)];exact ss _ _ h
    have Y:y8 H (upd q l (.lst (tI t++[V.int k]))):=λb o h=>kk h;have O:(upd q l (.lst (tI t++[V.int k]))) l=some (.lst (tI (t++[k]))):=by rw[z3,b8];rfl
    have R:(upd q l (.lst (tI t++[V.int k]))) p=some (.lst ((A.st.map λs=>V.ref s.a).drop d)):=by rw[y0 a'];exact G
    have N:(upd q l (.lst (tI t++[V.int k]))) M=some (.tup (tI y)):=by rw[y0 (l4 D u (by intro z;cases z))];exact D
    generalize upd q l (.lst (tI t++[V.int k]))=H4 at Y O R N ⊢;have am:=(C.st _ _ _ hA hs).same Y;obtain⟨ad,ak⟩:=am.a;obtain⟨bz,ah,ai⟩:=am.bf;obtain⟨bb,bg,av⟩:=J9 ai ea;have g2:W9 H4 a.bf (kV (Sum.inl ((y.getD (d+i) 0:Nat):Int))) (some (V.ref bb)):=by
     have g:=W9.k (k:=Sum.inl ((y.getD (d+i) 0:Nat):Int)) ah;rwa [bg]at g
    refine⟨_,rfl,_,rfl,a.a,cS,ad,_,_,rfl,ak,cs.cls,cs.no "back_from" (by decide),rfl,_,rfl,a.bf,_,rfl,g2,M,bb,y,_,rfl,SqT.of N,SqT.of av,by rw[Z.length];lia,λz bh=>by rw[aj.bk.length];exact Z.lt bh,λr H5 cg s5 ba=>?_⟩;exact⟨t++[k],r,_,_,_,rfl,Y.trans s5,s5 _ _ R,s5 _ _ O,ba,Z.beh aj.bk,m,by rw[ag,bK];lia⟩
 .rintro σ q ⟨t,M,y,v5,v6,rfl,ss,G,u,D,Z,m,ay⟩;rw[br,T,show d+(n-d)=n by lia,dB (by rw[C.len.2];exact aq _),M8]at m;exact⟨_,rfl,q2 t l q m.symm hl ss u⟩
def D6 (cC cB cS:Addr):Sp:=λvs H Q _=>∃(A:ChA) (S:ChS) (n lv:Nat) (tr:Addr) (x:List Nat),vs=[.ref A.c,.ref tr,.int lv]/\p9 cC cB cS n H A S/\S.Well n/\H tr=some (.tup (tI x))/\TM.IsT n x/\lv<=n/\n<=60 /\
 ∀H':Hp,y8 H H'->Q (.bl (M8 n S.md (S.st.drop lv) lv x []).isSome) H'
theorem zm0:u6 ["self","turning","level"] ["self","turning","level"] (x9 N9):=scq
theorem zk1 {cC cB cS:Addr}(F:Fun K "holds" "Chain.holds" N9 f fd)(B:Blt mg)(l:Y4 K cC U7)(k:Q5 P w K mg base 2 cC "sifted" ["self","turning","level"] (yj6 cC cB cS)):o8 P w K mg base CX0 3 f fd ["self","turning","level"] (D6 cC cB cS):=by
 refine F.ok zm0 (λy H Q E h=>?_) (λm C d sh H y Q E s h=>?_)
 .obtain⟨A,S,n,i,j,x,rfl,_⟩:=h;rfl
 obtain⟨A,S,n,i,j,x,rfl,g,z,b,v,a,p,q⟩:=h;obtain⟨dx,o⟩:=g.c;refine⟨_,z7 (u4 (V3 xh6 (X2 l.cls k s (pv 0) (z0 (pv 1) (z0 (pv 2) z4))) zw9 (r6 _))),?_⟩;refine⟨_,rfl,A.c,dx,_,rfl,o,rfl,_,rfl,_,rfl,A,S,n,i,j,x,rfl,g,z,b,v,a,p,λe H' s'=>⟨rfl,?_⟩,λD r H' e t s' u=>⟨rfl,?_⟩⟩
 .have:=q H' s';rw[e]at this;exact this
 .have:=q H' s';rw[e]at this;exact this
theorem ChA.head_ne {A:ChA}(h:A.all.Nodup){i:Nat}{a:StA}(e:A.st[i]?=some a){x y:Addr}(f:x∈[A.c,A.b,A.ll,A.lm,A.d,A.l])(g:y∈a.all):x≠y:=by
 unfold ChA.all at h;exact(bj.mp h).2.2 x f y (cD.mpr ⟨a.all,az.mpr ⟨a,ax e,rfl⟩,g⟩)
theorem ChA.step_nd {A:ChA}(h:A.all.Nodup){i:Nat}{a:StA}(b:A.st[i]?=some a):a.all.Nodup:=by
 unfold ChA.all at h;exact(List.pairwise_flatten.mp (bj.mp h).2.1).1 a.all (az.mpr ⟨a,ax b,rfl⟩)
theorem ChA.step_ne {A:ChA}(h:A.all.Nodup){i j:Nat}{a b:StA}(o:A.st[i]?=some a)(hb:A.st[j]?=some b)(e:i≠j){x y:Addr}(k:x∈a.all)(l:y∈b.all):x≠y:=by
 unfold ChA.all at h;have p:=(List.pairwise_flatten.mp (bj.mp h).2.1).2;have c:(A.st.map StA.all)[i]?=some a.all:=by rw[af,o];rfl
 have d:(A.st.map StA.all)[j]?=some b.all:=by rw[af,hb];rfl
 obtain⟨m,f⟩:=aw.mp c;obtain⟨n,g⟩:=aw.mp d;rcases Nat.lt_or_gt_of_ne e with q|q
 .have r:=bP.mp p i j m n q;rw[f,g]at r;exact r x k y l
 .have r:=bP.mp p j i n m q;rw[f,g]at r;exact Ne.symm (r y l x k)
theorem ChA.head_nd {A:ChA}(h:A.all.Nodup):[A.c,A.b,A.ll,A.lm,A.d,A.l].Nodup:=by
 unfold ChA.all at h;exact(bj.mp h).1
theorem Z2.frame {cS:Addr}{n:Nat}{f:List (List Nat)}{F:List Addr}{H H':Hp}{a:StA}{i:Nat}{s:StS}(h:Z2 cS n f H a i s)(fr:u3 F H H')(c:∀x∈F,x∉a.all/\∀xs,H x≠some (.tup xs)):Z2 cS n f H' a i s:=by
 have k:∀{b:Addr} {o:HO},H b=some o->b∈a.all->H' b=some o:=λ{b o} e hb=>fr b o (λz=>(c b z).1 hb) e;have d:∀{b:Addr} {xs:List V},H b=some (.tup xs)->H' b=some (.tup xs):=λ{b xs} e=>fr b _ (λz=>(c b z).2 xs e) e;exact⟨h.a.imp λ_ e=>k e (by simp[StA.all]),k h.m (by simp[StA.all]),k h.lt (by simp[StA.all]),h.bf.imp λ_ e=>⟨k e.1 (by simp[StA.all]),Paired.imp' (λ_ _ z=>d z) e.2⟩,h.w.imp λ_ e=>⟨k e.1 (by simp[StA.all]),Paired.imp' (λ_ _ z=>d z) e.2⟩⟩
theorem Z2.more {cS:Addr}{n:Nat}{d c:List (List Nat)}{H:Hp}{a:StA}{i:Nat}{s:StS}(h:Z2 cS n d H a i s)(hm:∀x∈s.to,c.getD x.2 []=d.getD x.2 []):Z2 cS n c H a i s:=by
 obtain⟨l,j,hlt,⟨bs,e,g⟩,m⟩:=h;refine⟨l,j,hlt,⟨bs,e,?_⟩,m⟩;have all:∀{to:List (Nat×Nat)} {bs:List Addr},(∀x∈to,c.getD x.2 []=d.getD x.2 [])->Paired (λ(x:Nat×Nat) b=>H b=some (.tup (tI (TM.bk n (d.getD x.2 []))))) to bs->Paired (λ(x:Nat×Nat) b=>H b=some (.tup (tI (TM.bk n (c.getD x.2 []))))) to bs:=by
  intro to bs k p
  induction p with
  | nil=>exact .nil
  | cons f _ ih=>exact .cons (by rw[k _ ao];exact f) (ih λx h=>k x (ah _ h))
 exact all hm g
theorem p9.book {cC cB cS:Addr}{n:Nat}{H H':Hp}{A:ChA}{S S':ChS}(h:p9 cC cB cS n H A S)(fr:u3 [A.ll,A.lm,A.d] H H')(bk:U5 cB H' A S')(j:S'.st=S.st)(o:∀s∈S.st,∀x∈s.to,S'.md.getD x.2 []=S.md.getD x.2 []):p9 cC cB cS n H' A S':=by
 obtain⟨u,f,_⟩:=h.bk.ll;obtain⟨v,g,_⟩:=h.bk.lm;have r:=h.bk.d;obtain⟨dx,k⟩:=h.c;have m:=ChA.head_nd h.nd;simp only[aQ,ay,ba,not_or,or_false]at m;have w:∀x∈[A.ll,A.lm,A.d],∀xs,H x≠some (.tup xs):=λx b xs z=>by
  rcases ay.mp b with e|b
  .rw[e,f]at z;cases z
  .rcases ay.mp b with e|b
   .rw[e,g]at z;cases z
   .rw[ar.mp b,r]at z;cases z
 refine⟨h.nd,⟨dx,fr _ _ (λz=>by
   rcases ay.mp z with e|z
   .exact l4 k f (by intro q;cases q) e
   .rcases ay.mp z with e|z
    .exact l4 k g (by intro q;cases q) e
    .exact l4 k r (by intro q;cases q) (ar.mp z)) k⟩,bk,fr _ _ ?_ h.l,⟨h.len.1,by rw[j];exact h.len.2⟩,λi a s p hs=>?_⟩
 .intro z;rcases ay.mp z with e|z
  .exact m.2.2.1.2.2 e.symm
  .rcases ay.mp z with e|z
   .exact m.2.2.2.1.2 e.symm
   .exact m.2.2.2.2.1 (ar.mp z).symm
 .rw[j]at hs;refine((h.st i a s p hs).more (o s (ax hs))).frame fr λx b=>⟨λt=>?_,w x b⟩;refine ChA.head_ne h.nd p (x:=x) (y:=x) ?_ t rfl;simp at b ⊢;rcases b with e|e|e <;> simp[e]
theorem p9.step {cC cB cS:Addr}{n:Nat}{H H':Hp}{A:ChA}{S:ChS}{F:List Addr}{j:Nat}{m:StA}{s':StS}(h:p9 cC cB cS n H A S)(k:A.st[j]?=some m)(g:∀x∈F,x∈m.all/\∀xs,H x≠some (.tup xs))(fr:u3 F H H')(st:Z2 cS n S.md H' m j s'):p9 cC cB cS n H' A { S with st:=S.st.set j s' }:=by
 have f:∀{b:Addr} {o:HO},H b=some o->b∈[A.c,A.b,A.ll,A.lm,A.d,A.l]->H' b=some o:=λ{b o} e hb=>fr b o (λz=>ChA.head_ne h.nd k hb (g b z).1 rfl) e;have q:∀{b:Addr} {xs:List V},H b=some (.tup xs)->H' b=some (.tup xs):=λ{b xs} e=>fr b _ (λz=>(g b z).2 xs e) e;obtain⟨dx,r⟩:=h.c;refine⟨h.nd,⟨dx,f r (by simp)⟩,⟨h.bk.b.imp λ_ e=>f e (by simp),h.bk.ll.imp λ_ e=>⟨f e.1 (by simp),Paired.imp' (λ_ _ z=>q z) e.2⟩,h.bk.lm.imp λ_ e=>⟨f e.1 (by simp),Paired.imp' (λ_ _ z=>q z) e.2⟩,f h.bk.d (by simp),h.bk.len⟩,f h.l (by simp),⟨h.len.1,by show(S.st.set j s').length=n;rw[bD];exact h.len.2⟩,λi a s hi hs=>?_⟩;have hs:(S.st.set j s')[i]?=some s:=hs;by_cases e:i=j
 .subst e;rw[k]at hi
  cases hi
  rw[cf (by rw[h.len.2,←h.len.1];exact(aw.mp k).1)]at hs
  cases hs
  exact st
 .rw[bM (Ne.symm e)]at hs;exact(h.st i a s hi hs).frame fr λx p=>⟨λt=>ChA.step_ne h.nd hi k e t (g x p).1 rfl,(g x p).2⟩
structure ChS.Fine (n:Nat) (S:ChS):Prop where
 wl:S.Well n
 md0:S.md.getD 0 []=List.range n
 pos:0<S.md.length
 lnl:S.ln.length=S.md.length
def ChS.atS (S:ChS)(j:Nat):StS:=S.st.getD j ⟨[],[],[],0⟩
def ChS.found (n:Nat)(S:ChS)(j p m:Nat):ChS×Bool :=
 let s:=S.atS j
 let k:=(atN s.to p).getD 0
 let t:=TM.beh (S.md.getD k []) (S.md.getD m [])
 match atN s.to (t.getD j 0) with
 | none=>({ (S.putB k m).2 with st:=S.st.set j (s.putP (t.getD j 0) (S.putB k m).1) },false)
 | some k2=>if (M8 n S.md (S.st.drop (j+1)) (j+1) (TM.beh t (TM.bk n (S.md.getD k2 []))) []).isSome then(S,false)
  else
   let S1:=(S.putB k m).2
   let S2:=(S1.putK n k2).2
   let S3:=(S2.putB (S.putB k m).1 (S1.putK n k2).1).2
   ({ S3 with st:=S.st.set (j+1) ((S.atS (j+1)).putM (S2.putB (S.putB k m).1 (S1.putK n k2).1).1) },true)
structure N4 (n:Nat) (S S':ChS) (k:Nat) (t:List Nat):Prop where
 st:S'.st=S.st
 md:∃l,S'.md=S.md++l
 fine:S'.Fine n
 lt:k<S'.md.length
 at':S'.md.getD k []=t
 len:S'.ln.length<=S.ln.length+1
theorem i9 {α:Type}{l m:List α}{i:Nat}{d:α}(h:i<l.length):(l++m).getD i d=l.getD i d:=by
 rw[ae,ae,bd h]
theorem ChS.Fine.put {n:Nat}{S:ChS}(f:S.Fine n){l:TM.Ln}{t:List Nat}(d:TM.IsT n t):N4 n S (S.put l t) S.ln.length t:=by
 have a:(S.put l t).md=S.md++[t]:=rfl;refine⟨rfl,⟨[t],rfl⟩,⟨⟨λx b=>?_,λs hs x b=>?_,λs hs k c=>?_⟩,?_,?_,?_⟩,?_,?_,?_⟩
 .rw[a]at b;rcases aI.mp b with h|h
  .exact f.wl.md x h
  .rw[ar.mp h];exact d
 .have:=f.wl.to s hs x b;rw[a,ag];exact⟨this.1,by lia⟩
 .have:=f.wl.mv s hs k c;rw[a,ag];lia
 .rw[a,i9 f.pos];exact f.md0
 .rw[a,ag];have:=f.pos;lia
 .show(S.ln++[l]).length=(S.md++[t]).length;rw[ag,ag,f.lnl];rfl
 .rw[a,ag,f.lnl];show S.md.length<S.md.length+1;lia
 .rw[a,f.lnl,ae,bo (aq _),ci];rfl
 .show(S.ln++[l]).length<=_;rw[ag];exact aq _
theorem N4.refl {n:Nat}{S:ChS}(f:S.Fine n){k:Nat}(hk:k<S.md.length):N4 n S S k (S.md.getD k []):=⟨rfl,⟨[],(bN _).symm⟩,f,hk,rfl,dJ _⟩
theorem ChS.Fine.putB {n:Nat}{S:ChS}(f:S.Fine n){i j:Nat}(hi:i<S.md.length)(c:j<S.md.length):N4 n S (S.putB i j).2 (S.putB i j).1 (TM.beh (S.md.getD i []) (S.md.getD j [])):=by
 have d:=f.wl.at hi;have e:=f.wl.at c;unfold ChS.putB;by_cases a:i=0
 .rw[if_pos a];have r:=N4.refl f c;rw[a,f.md0,TM.still_beh e];exact r
 .rw[if_neg a];by_cases b:j=0
  .rw[if_pos b];have r:=N4.refl f hi;rw[b,f.md0,TM.beh_still d];exact r
  .rw[if_neg b];exact f.put (d.beh e)
def yu8 (n:Nat)(S:ChS)(i:Nat):TM.Ln->List Nat->Prop
 | .still,t=>t=List.range n
 | .told k,t=>t=S.src k
 | .back a,t=>a<i/\t=TM.bk n (S.md.getD a [])
 | .behind a b,t=>a<i/\b<i/\t=TM.beh (S.md.getD a []) (S.md.getD b [])
def ChS.Mks (n:Nat)(S:ChS):Prop:=∀(i:Nat) (l:TM.Ln) (t:List Nat),S.ln[i]?=some l->S.md[i]?=some t->yu8 n S i l t
theorem yu8.more {n:Nat}{S S':ChS}{i:Nat}{l:TM.Ln}{t:List Nat}(h:yu8 n S i l t)(hi:i<=S.md.length)(hs:S'.src=S.src)(hm:∃m,S'.md=S.md++m):yu8 n S' i l t:=by
 obtain⟨m,hm⟩:=hm
 cases l with
 | still=>exact h
 | told k=>exact h.trans (by rw[hs])
 | back a=>exact⟨h.1,by rw[hm,i9 (aV h.1 hi)];exact h.2⟩
 | behind a b=>exact⟨h.1,h.2.1,by rw[hm,i9 (aV h.1 hi),i9 (aV h.2.1 hi)];exact h.2.2⟩
theorem ChS.Mks.put {n:Nat}{S:ChS}(h:S.Mks n)(f:S.ln.length=S.md.length){l:TM.Ln}{t:List Nat}(hl:yu8 n S S.md.length l t):(S.put l t).Mks n:=by
 intro i a b h1 h2;have h1:(S.ln++[l])[i]?=some a:=h1;have h2:(S.md++[t])[i]?=some b:=h2;by_cases c:i<S.md.length
 .rw[bd (by lia)]at h1;rw[bd c]at h2;exact(h i a b h1 h2).more (cu c) rfl ⟨[t],rfl⟩
 .have hi:i<(S.md++[t]).length:=(aw.mp h2).1;rw[ag,bK]at hi;have e:i=S.md.length:=by lia
  subst e;rw[bo (by lia),show S.md.length-S.ln.length=0 by lia]at h1;rw[bo (aq _),ci]at h2
  cases h1
  cases h2
  exact hl.more (aq _) rfl ⟨[t],rfl⟩
structure ChS.Backs (n:Nat) (S:ChS):Prop where
 bk:∀i k,atN S.bl i=some k->i<S.md.length/\k<S.md.length/\S.md.getD k []=TM.bk n (S.md.getD i [])
 mks:S.Mks n
theorem ChS.Backs.of {n:Nat}{S S':ChS}(b:S.Backs n)(hl:S'.ln=S.ln)(hm:S'.md=S.md)(hb:S'.bl=S.bl)(hs:S'.src=S.src):S'.Backs n:=by
 refine⟨λi k h=>?_,λi l t h1 h2=>?_⟩
 .rw[hb]at h;rw[hm];exact b.bk i k h
 .rw[hl]at h1;rw[hm]at h2;exact(b.mks i l t h1 h2).more (cu (aw.mp h2).1) hs ⟨[],by rw[hm,bN]⟩
theorem ChS.putB_src {S:ChS}(i j:Nat):(S.putB i j).2.src=S.src:=by
 unfold ChS.putB;by_cases a:i=0
 .rw[if_pos a]
 .rw[if_neg a];by_cases b:j=0
  .rw[if_pos b]
  .rw[if_neg b];rfl
theorem ChS.putK_src {S:ChS}(n i:Nat):(S.putK n i).2.src=S.src:=by
 unfold ChS.putK
 cases e:atN S.bl i with
 | some k=>rfl
 | none=>rfl
theorem ChS.Backs.putB {n:Nat}{S:ChS}(b:S.Backs n)(f:S.ln.length=S.md.length){k m:Nat}(g:k<S.md.length)(hm:m<S.md.length):(S.putB k m).2.Backs n/\(S.putB k m).2.bl=S.bl:=by
 unfold ChS.putB;by_cases c:k=0
 .rw[if_pos c];exact⟨b,rfl⟩
 .rw[if_neg c];by_cases d:m=0
  .rw[if_pos d];exact⟨b,rfl⟩
  .rw[if_neg d];refine⟨⟨λi j h=>?_,b.mks.put f ⟨g,hm,rfl⟩⟩,rfl⟩;obtain⟨h1,h2,e⟩:=b.bk i j h;have a:(S.put (.behind k m) (TM.beh (S.md.getD k []) (S.md.getD m []))).md=S.md++[TM.beh (S.md.getD k []) (S.md.getD m [])]:=rfl;refine⟨by rw[a,ag];lia,by rw[a,ag];lia,?_⟩;rw[a,i9 h2,i9 h1,e]
theorem ChS.Fine.putK {n:Nat}{S:ChS}(f:S.Fine n)(b:S.Backs n){i:Nat}(hi:i<S.md.length):N4 n S (S.putK n i).2 (S.putK n i).1 (TM.bk n (S.md.getD i []))/\(S.putK n i).2.Backs n:=by
 unfold ChS.putK
 cases e:atN S.bl i with
 | some k =>
  obtain⟨h1,h2,g⟩:=b.bk i k e;rw[←g];exact⟨N4.refl f h2,b⟩
 | none =>
  have m:=f.put (l:=.back i) (f.wl.at hi).bk;have j:=b.mks.put f.lnl (l:=.back i) (t:=TM.bk n (S.md.getD i [])) ⟨hi,rfl⟩;refine⟨⟨m.st,m.md,⟨⟨m.fine.wl.md,m.fine.wl.to,m.fine.wl.mv⟩,m.fine.md0,m.fine.pos,m.fine.lnl⟩,m.lt,m.at',m.len⟩,⟨λc d h=>?_,j⟩⟩;have h:atN (S.bl++[(i,S.ln.length)]) c=some d:=h;have a:(S.put (.back i) (TM.bk n (S.md.getD i []))).md=S.md++[TM.bk n (S.md.getD i [])]:=rfl;show c<(S.put (.back i) (TM.bk n (S.md.getD i []))).md.length/\d<(S.put (.back i) (TM.bk n (S.md.getD i []))).md.length/\(S.put (.back i) (TM.bk n (S.md.getD i []))).md.getD d []=TM.bk n ((S.put (.back i) (TM.bk n (S.md.getD i []))).md.getD c []);by_cases o:c=i
  .subst o;rw[zh5 e]at h
   cases h
   refine⟨by rw[a,ag];lia,m.lt,?_⟩;rw[m.at',a,i9 hi]
  .have h':atN S.bl c=some d:=by
    unfold atN at h ⊢;rw[eT]at h
    cases q:S.bl.find? (λx=>decide (x.1=c)) with
    | some x=>rw[q]at h;exact h
    | none =>
     rw[q]at h;simp[Ne.symm o]at h
   obtain⟨h1,h2,g⟩:=b.bk c d h';refine⟨by rw[a,ag];lia,by rw[a,ag];lia,?_⟩;rw[a,i9 h2,i9 h1,g]
structure ChS.Few (S:ChS):Prop where
 ln:S.ln.length<9999000
 bl:S.bl.length<9999000
 st:∀s∈S.st,s.mv.length<100000/\s.to.length<=60/\s.wt.length<=900000
def yo4 (cC cB cS:Addr):Sp:=λvs H Q _=>∃(A:ChA) (S:ChS) (n j p m k:Nat),vs=[.ref A.c,.int j,.int p,.int m]/\p9 cC cB cS n H A S/\S.Fine n/\S.Backs n/\S.Few/\n<=60/\j<n/\atN (S.atS j).to p=some k/\m<S.md.length /\
 ∀H':Hp,u3 A.all H H'->p9 cC cB cS n H' A (S.found n j p m).1->Q (.bl (S.found n j p m).2) H'
theorem n8:u6 ["self","level","place","mover","step","line","made","to","ahead"] ["self","level","place","mover"] (x9 b0):=scq
theorem ChS.atS_of {S:ChS}{j:Nat}{s:StS}(h:S.st[j]?=some s):S.atS j=s:=by unfold ChS.atS;rw[ae,h];rfl
theorem u3.all {A:ChA}{F:List Addr}{H H':Hp}(h:u3 F H H')(hF:∀x∈F,x∈[A.c,A.b,A.ll,A.lm,A.d,A.l]):u3 A.all H H':=h.more λx hx=>by unfold ChA.all;exact bg _ (hF x hx)
theorem u3.allS {A:ChA}{F:List Addr}{H H':Hp}{j:Nat}{a:StA}(h:u3 F H H')(ha:A.st[j]?=some a)(hF:∀x∈F,x∈a.all):u3 A.all H H':=h.more λx hx=>by
 unfold ChA.all
 exact aU _ (cD.mpr ⟨a.all,az.mpr ⟨a,ax ha,rfl⟩,hF x hx⟩)
theorem F9 {cC cB cS:Addr}(F:Fun K "found_mover" "Chain.found_mover" b0 f fd)(B:Blt mg)(o:Y4 K cC U7)(cb:Y4 K cB zh7)(cs:Y4 K cS C5)(KB:n5 P w K mg base 1 "behind" ["one","other"] (zb5 K))
  (c':Q5 P w K mg base 2 cS "put_place" ["self","place","line","turning"] (xc8 cS)) (aj:Q5 P w K mg base 2 cB "put_behind" ["self","one","other"] (xc6 cB)) (cy:Q5 P w K mg base 2 cB "put_back" ["self","one"] (xc7 cB)) (cz:Q5 P w K mg base 1 cS "put_mover" ["self","mover"] (yj5 cS)) (MH:Q5 P w K mg base 3 cC "holds" ["self","turning","level"] (D6 cC cB cS)):o8 P w K mg base CX0 4 f fd ["self","level","place","mover"] (yo4 cC cB cS):=by
 refine F.ok n8 (λvs H Q E h=>?_) (λdg Ar dz sh H vs Q E O h=>?_)
 .obtain⟨A,S,n,j,p,m,k,rfl,_⟩:=h;rfl
 obtain⟨A,S,n,j,p,m,k,rfl,G,N,de,few,hn,hj,hp,hm,q⟩:=h;have hz:=W4;have hu:(Ar.deeper (PyProof.Rows.envOfC "Chain.found_mover" (x9 b0) sh.heap.objs.size f dg)).units+1<cLine:=by have:=O.units;lia
 refine⟨_,z6 (v0 (i:=4) n8.nd rfl (Or.inl rfl) (p5 t4 (q9 (pv 0) rfl) (pv 1) (λ_ _=>rfl)))
  (z6 (v0 (i:=5) n8.nd rfl (Or.inl rfl) (Y5 hu (q9 (pv 4) rfl) (pv 2) (λ_ _=>rfl)))
  (z6 (v0 (i:=6) n8.nd rfl (Or.inl rfl) (o6 KB O rfl (z0 (p5 t4 (q9 (q9 (pv 0) rfl) rfl) (pv 5) (λ_ _=>rfl)) (z0 (p5 t4 (q9 (q9 (pv 0) rfl) rfl) (pv 3) (λ_ _=>rfl)) z4))))
  (z6 (v0 (i:=7) n8.nd rfl (Or.inl rfl) (p5 Z9 (pv 6) (pv 1) (λ_ _=>rfl)))
  (z6 (o3 (B7 (M6 hu (pv 7) (q9 (pv 4) rfl)))
   (z6 (i3 (X2 cs.cls c' O (pv 4) (z0 (pv 7) (z0 (X2 cb.cls aj O (q9 (pv 0) rfl) (z0 (pv 5) (z0 (pv 3) z4))) (z0 (pv 6) z4))))) (z7 (u4 Z5))) u5)
  (z6 (o3 (P8 (X2 o.cls MH O (pv 0) (z0 (o6 KB O rfl (z0 (pv 6) (z0 (Y5 hu (q9 (pv 4) rfl) (pv 7) (λ_ _=>rfl)) z4))) (z0 (w8 l7 (pv 1) z8) z4)))) (z7 (u4 Z5)) u5)
  (z6 (v0 (i:=8) n8.nd rfl (Or.inl rfl) (X2 cb.cls aj O (q9 (pv 0) rfl) (z0 (pv 5) (z0 (pv 3) z4))))
  (z6 (i3 (X2 cs.cls cz O (p5 t4 (q9 (pv 0) rfl) (w8 l7 (pv 1) z8) (λ_ _=>rfl)) (z0 (X2 cb.cls aj O (q9 (pv 0) rfl) (z0 (pv 8) (z0 (X2 cb.cls cy O (q9 (pv 0) rfl) (z0 (Y5 hu (q9 (pv 4) rfl) (pv 7) (λ_ _=>rfl)) z4)) z4))) z4)))
  (z7 (u4 Z5))))))))),?_⟩
 obtain⟨L,hc⟩:=G.c;obtain⟨al,hb⟩:=G.bk.b;obtain⟨cl,cd,cf⟩:=G.bk.lm;obtain⟨a,u⟩:∃a,A.st[j]?=some a:=⟨_,ac (by rw[G.len.1];exact hj)⟩;obtain⟨s,hs⟩:∃s,S.st[j]?=some s:=⟨_,ac (by rw[G.len.2];exact hj)⟩;have aq:s∈S.st:=ax hs;rw[ChS.atS_of hs]at hp;have st:=G.st j a s u hs;obtain⟨U,X⟩:=st.a;have hk:k<S.md.length:=(N.wl.to s aq _ (Q7 hp)).2;have tk:=N.wl.at hk;have tm:=N.wl.at hm;obtain⟨ak,dj,du⟩:=g7 cf k _ (P1 [] hk);obtain⟨am,dk,dv⟩:=g7 cf m _ (P1 [] hm);have gk:atI (cl.map V.ref) ((k:Nat):Int)=some (V.ref ak):=l8 (by rw[af,dj];rfl);have gm:atI (cl.map V.ref) ((m:Nat):Int)=some (V.ref am):=l8 (by rw[af,dk];rfl);have ga:atI (A.st.map λs=>V.ref s.a) ((j:Nat):Int)=some (V.ref a.a):=l8 (by rw[af,u];rfl);have g1:W9 H a.lt (kV (Sum.inl (p:Int))) (some (V.int k)):=by
  have g:=W9.k (k:=Sum.inl (p:Int)) st.lt;rwa [U2,hp]at g
 refine⟨_,rfl,A.c,cC,L,_,_,rfl,hc,o.cls,o.no "steps" (by decide),rfl,_,rfl,A.l,_,_,_,rfl,rfl,SqL.of G.l,ga,?_⟩;refine⟨_,rfl,a.a,cS,U,_,_,rfl,X,cs.cls,cs.no "line_to" (by decide),rfl,_,rfl,a.lt,_,rfl,g1,?_⟩;refine⟨_,rfl,A.c,cC,L,_,_,rfl,hc,o.cls,o.no "book" (by decide),rfl,A.b,cB,al,_,_,rfl,hb,cb.cls,cb.no "made" (by decide),rfl,_,rfl,A.lm,_,_,_,rfl,rfl,SqL.of cd,gk,_,rfl,A.c,cC,L,_,_,rfl,hc,o.cls,o.no "book" (by decide),rfl,A.b,cB,al,_,_,rfl,hb,cb.cls,cb.no "made" (by decide),rfl,_,rfl,A.lm,_,_,_,rfl,rfl,SqL.of cd,gm,ak,am,_,_,rfl,SqT.of du,SqT.of dv,by rw[tk.length];lia,λx d=>by rw[tm.length];exact tk.lt d,λtr H1 es T v=>?_⟩;have tT:TM.IsT n (TM.beh (S.md.getD k []) (S.md.getD m [])):=tk.beh tm;have v:H1 tr=some (.tup (tI (TM.beh (S.md.getD k []) (S.md.getD m [])))):=v;obtain⟨R,I⟩:∃R,R=S.found n j p m:=⟨_,rfl⟩;rw[←I]at q;unfold ChS.found at I;simp only[ChS.atS_of hs,hp,cN]at I;have y:=N.putB hk hm;have cn:=ChA.head_nd G.nd;simp only[aQ,ay,ba,not_or,or_false]at cn;have Y:A.ll≠A.lm:=cn.2.2.1.1;have au:=ChA.step_nd G.nd u;simp only[StA.all,aQ,ay,ba,not_or,or_false]at au;have mw:a.m≠a.w:=au.2.1.2.2;have ck:a.lt≠a.bf:=au.2.2.1.1;have fw:=few.st s aq;have eq:=few.ln;have er:=few.bl;have C:=G.same T;generalize htt:TM.beh (S.md.getD k []) (S.md.getD m [])=t at tT v I y;refine⟨_,rfl,_,rfl,tr,_,_,_,rfl,rfl,SqT.of v,i5 (tT.get_step hj),?_⟩;refine⟨_,rfl,_,rfl,a.a,cS,U,_,_,rfl,T _ _ X,cs.cls,cs.no "line_to" (by decide),rfl,a.lt,_,rfl,W9.k (k:=Sum.inl ((t.getD j 0:Nat):Int)) (T _ _ st.lt),_,rfl,?_⟩;rw[U2];have cm:∀(S':ChS),(∃l,S'.md=S.md++l)->∀s∈S.st,∀x∈s.to,S'.md.getD x.2 []=S.md.getD x.2 []:=λS' ⟨l,e⟩ s hs x d=>by rw[e,i9 (N.wl.to s hs x d).2]
 cases ea:atN s.to (t.getD j 0) with
 | none =>
  rw[ea]at I;dsimp only at I;rw[I]at q;refine m7 ?_;refine⟨_,rfl,a.a,U,_,rfl,T _ _ X,rfl,_,rfl,_,rfl,A.c,cC,L,_,_,rfl,T _ _ hc,o.cls,o.no "book" (by decide),rfl,A.b,al,_,rfl,T _ _ hb,rfl,_,rfl,_,rfl,A,S,n,k,m,rfl,C.bk,Y,hk,hm,N.wl.md,hn,by lia,λH2 an da=>?_⟩;have bd:p9 cC cB cS n H2 A (S.putB k m).2:=C.book (an.more λx d=>by simp at d ⊢;rcases d with e|e <;> simp[e]) da y.st (cm _ y.md);have dt:(S.putB k m).2.st[j]?=some s:=by rw[y.st];exact hs
  have aa:=bd.st j a s u dt;have cj:H2 tr=some (.tup (tI t)):=an _ _ (λz=>by
   obtain⟨fo,ca,_⟩:=C.bk.ll
   obtain⟨ew,ce,_⟩:=C.bk.lm
   rcases ay.mp z with e|z
   .exact l4 v ca (by intro q;cases q) e
   .exact l4 v ce (by intro q;cases q) (ar.mp z)) v
  refine⟨_,rfl,a,n,(S.putB k m).2.md,j,t.getD j 0,(S.putB k m).1,s,tr,t,rfl,aa,cj,y.at',tT,hn,ea,mw,ck,by lia,by lia,by lia,λH3 bn eb=>?_⟩;have nt:∀x∈[a.lt,a.bf,a.w],x∈a.all/\∀xs,H2 x≠some (.tup xs):=λx d=>by
   obtain⟨ff,bv,_⟩:=aa.bf;obtain⟨ee,as,_⟩:=aa.w;rcases ay.mp d with e|d
   .rw[e];exact⟨by simp[StA.all],λxs z=>by rw[aa.lt]at z;cases z⟩
   .rcases ay.mp d with e|d
    .rw[e];exact⟨by simp[StA.all],λxs z=>by rw[bv]at z;cases z⟩
    .rw[ar.mp d];exact⟨by simp[StA.all],λxs z=>by rw[as]at z;cases z⟩
  have r:=bd.step u nt bn eb;rw[y.st]at r;refine q H3 ?_ r;exact u3.trans (y8.frame T) (u3.trans (an.all λx d=>by simp at d ⊢;rcases d with e|e <;> simp[e]) (bn.allS u λx d=>(nt x d).1))
 | some k2 =>
  rw[ea]at I;dsimp only at I;refine o9 ?_;have dq:k2<S.md.length:=(N.wl.to s aq _ (Q7 ea)).2;have ct:=N.wl.at dq;obtain⟨fe,bu,bw⟩:=(C.st j a s u hs).bf;obtain⟨bb,dw,dm⟩:=J9 bw ea;have g2:W9 H1 a.bf (kV (Sum.inl ((t.getD j 0:Nat):Int))) (some (V.ref bb)):=by
   have g:=W9.k (k:=Sum.inl ((t.getD j 0:Nat):Int)) bu;rwa [dw]at g
  refine⟨_,rfl,A.c,L,_,rfl,T _ _ hc,rfl,_,rfl,_,rfl,a.a,cS,U,_,_,rfl,T _ _ X,cs.cls,cs.no "back_from" (by decide),rfl,_,rfl,a.bf,_,rfl,g2,tr,bb,t,_,rfl,SqT.of v,SqT.of dm,by rw[tT.length];lia,λx d=>by rw[ct.bk.length];exact tT.lt d,λxr H2 et s2 dx=>?_⟩;refine⟨_,rfl,_,_,rfl,rfl,A,S,n,j+1,xr,TM.beh t (TM.bk n (S.md.getD k2 [])),?_,C.same s2,N.wl,dx,tT.beh ct.bk,by lia,hn,λH3 s3=>?_⟩
  .show [V.ref A.c,V.ref xr,V.int ((j:Int)+1)]=_;rw[show((j+1:Nat):Int)=(j:Int)+1 by lia]
  refine⟨_,rfl,?_⟩;have r:=(C.same s2).same s3;have cp:=T.trans (s2.trans s3)
  cases hi:(M8 n S.md (S.st.drop (j+1)) (j+1) (TM.beh t (TM.bk n (S.md.getD k2 []))) []).isSome with
  | true =>
   rw[hi,if_pos rfl]at I;rw[I]at q;exact m7 (q H3 (y8.frame cp) r)
  | false =>
   rw[hi,if_neg (by decide)]at I;rw[I]at q;refine o9 ?_;have bz:j+1<n:=by
    rcases fC (j+1) n with h|h
    .exact h
    .rw[dB (by rw[G.len.2];exact h),M8]at hi
     cases hi
   obtain⟨a1,J⟩:∃a,A.st[j+1]?=some a:=⟨_,ac (by rw[G.len.1];exact bz)⟩;obtain⟨s',W⟩:∃s,S.st[j+1]?=some s:=⟨_,ac (by rw[G.len.2];exact bz)⟩;rw[ChS.atS_of W]at q;have ci:s'∈S.st:=ax W;have fg:=few.st s' ci;have ai:=ChA.step_nd G.nd J;simp only[StA.all,aQ,ay,ba,not_or,or_false]at ai;have bc:(S.putB k m).2.Backs n:=(de.putB N.lnl hk hm).1;have df:(S.putB k m).2.bl=S.bl:=by
    unfold ChS.putB;by_cases e1:k=0
    .rw[if_pos e1]
    .rw[if_neg e1];by_cases e2:m=0
     .rw[if_pos e2]
     .rw[if_neg e2];rfl
   obtain⟨l1,dr⟩:=y.md;have ah:k2<(S.putB k m).2.md.length:=by rw[dr,ag];lia
   obtain⟨Z,em⟩:=y.fine.putK bc ah;obtain⟨l2,b'⟩:=Z.md;have eu:=y.len;have ev:=Z.len;have bs:(S.putB k m).1<((S.putB k m).2.putK n k2).2.md.length:=by rw[b',ag];have:=y.lt;lia
   have m3:=Z.fine.putB bs Z.lt;obtain⟨l3,ds⟩:=m3.md;obtain⟨bm,dn⟩:=r.c;obtain⟨bj,dl⟩:=r.bk.b;refine⟨_,rfl,A.c,cC,bm,_,_,rfl,dn,o.cls,o.no "book" (by decide),rfl,A.b,bj,_,rfl,dl,rfl,_,rfl,_,rfl,A,S,n,k,m,rfl,r.bk,Y,hk,hm,N.wl.md,hn,by lia,λH4 bo db=>?_⟩;have D:p9 cC cB cS n H4 A (S.putB k m).2:=r.book (bo.more λx d=>by simp at d ⊢;rcases d with e|e <;> simp[e]) db y.st (cm _ y.md);obtain⟨M,ao⟩:=D.c;obtain⟨ae,bt⟩:=D.bk.b;have cr:=D.st (j+1) a1 s' J (by rw[y.st];exact W);obtain⟨bi,ap⟩:=cr.a;have cq:=D.st j a s u (by rw[y.st];exact hs);obtain⟨dh,cg⟩:=cq.a;have di:atI (A.st.map λs=>V.ref s.a) ((j:Int)+1)=some (V.ref a1.a):=by
    rw[show(j:Int)+1=((j+1:Nat):Int) by lia];exact l8 (by rw[af,J];rfl)
   have g4:W9 H4 a.lt (kV (Sum.inl ((t.getD j 0:Nat):Int))) (some (V.int k2)):=by
    have g:=W9.k (k:=Sum.inl ((t.getD j 0:Nat):Int)) cq.lt;rwa [U2,ea]at g
   refine⟨_,rfl,A.c,cC,M,_,_,rfl,ao,o.cls,o.no "steps" (by decide),rfl,_,rfl,_,_,rfl,rfl,A.l,_,_,_,rfl,rfl,SqL.of D.l,di,a1.a,bi,_,rfl,ap,rfl,?_⟩;refine⟨_,rfl,A.c,cC,M,_,_,rfl,ao,o.cls,o.no "book" (by decide),rfl,A.b,ae,_,rfl,bt,rfl,_,rfl,_,rfl,A.c,cC,M,_,_,rfl,ao,o.cls,o.no "book" (by decide),rfl,A.b,ae,_,rfl,bt,rfl,_,rfl,a.a,cS,dh,_,_,rfl,cg,cs.cls,cs.no "line_to" (by decide),rfl,_,rfl,a.lt,_,rfl,g4,A,(S.putB k m).2,n,k2,rfl,D.bk,Y,ah,y.fine.wl.md,hn,by lia,by rw[df];lia,λH5 bp dc=>?_⟩;have be:p9 cC cB cS n H5 A ((S.putB k m).2.putK n k2).2:=D.book bp dc Z.st (λs hs x d=>by rw[b',i9 (y.fine.wl.to s hs x d).2]);refine⟨A,((S.putB k m).2.putK n k2).2,n,(S.putB k m).1,((S.putB k m).2.putK n k2).1,rfl,be.bk,Y,bs,Z.lt,Z.fine.wl.md,hn,by lia,λH6 bq dd=>?_⟩;have bg:p9 cC cB cS n H6 A (((S.putB k m).2.putK n k2).2.putB (S.putB k m).1 ((S.putB k m).2.putK n k2).1).2:=be.book (bq.more λx d=>by simp at d ⊢;rcases d with e|e <;> simp[e]) dd m3.st (λs hs x d=>by rw[ds,i9 (Z.fine.wl.to s hs x d).2]);have e6:(((S.putB k m).2.putK n k2).2.putB (S.putB k m).1 ((S.putB k m).2.putK n k2).1).2.st=S.st:=by rw[m3.st,Z.st,y.st]
   have av:=bg.st (j+1) a1 s' J (by rw[e6];exact W);refine⟨a1,n,_,j+1,(((S.putB k m).2.putK n k2).2.putB (S.putB k m).1 ((S.putB k m).2.putK n k2).1).1,s',rfl,av,ai.2.1.2.2,by lia,by lia,by lia,λH7 br ec=>?_⟩;have nt:∀x∈[a1.m,a1.w],x∈a1.all/\∀xs,H6 x≠some (.tup xs):=λx d=>by
    obtain⟨ee,as,_⟩:=av.w;rcases ay.mp d with e|d
    .rw[e];exact⟨by simp[StA.all],λxs z=>by rw[av.m]at z;cases z⟩
    .rw[ar.mp d];exact⟨by simp[StA.all],λxs z=>by rw[as]at z;cases z⟩
   have bh:=bg.step J nt br ec;rw[e6]at bh;refine q H7 ?_ bh;exact u3.trans (y8.frame cp) (u3.trans (bo.all λx d=>by simp at d ⊢;rcases d with e|e <;> simp[e]) (u3.trans (bp.all λx d=>by simp at d ⊢;rcases d with e|e|e <;> simp[e]) (u3.trans (bq.all λx d=>by simp at d ⊢;rcases d with e|e <;> simp[e]) (br.allS J λx d=>(nt x d).1))))
def ChS.chn (S:ChS):TM.Chn where
 mv j s:=∃k∈(S.atS j).mv,S.md.getD k []=s
 ring j:=(S.atS j).to.map Prod.fst
 up j p:=S.md.getD ((atN (S.atS j).to p).getD 0) []
theorem Q8 {l:List (Nat×Nat)}{p:Nat}:atN l p=none↔p∉l.map Prod.fst:=by
 unfold atN;rw[Option.map_eq_none_iff,fM];constructor
 .intro h z;obtain⟨x,a,e⟩:=az.mp z;exact h x a (by simpa using e)
 .intro h x a e;exact h (az.mpr ⟨x,a,by simpa using e⟩)
theorem A3 {l:List (Nat×Nat)}{p k:Nat}(h:atN l p=some k):p∈l.map Prod.fst:=az.mpr ⟨_,Q7 h,rfl⟩
theorem ChS.chn_up {S:ChS}{j p k:Nat}(h:atN (S.atS j).to p=some k):S.chn.up j p=S.md.getD k []:=by
 show S.md.getD ((atN (S.atS j).to p).getD 0) []=_;rw[h];rfl
theorem ChS.drop_at {S:ChS}{j:Nat}(h:j<S.st.length):S.st.drop j=S.atS j::S.st.drop (j+1):=by
 rw[dS h,ChS.atS_of (ac h)]
theorem zx8 {n:Nat}{S:ChS}(a:S.st.length=n)(ok:S.chn.Ok n):∀(d:Nat) (x acc:List Nat),d<=n->TM.IsT n x->((M8 n S.md (S.st.drop (n-d)) (n-d) x acc).isSome=true↔S.chn.Sif n d x)
 | 0,x,acc,_,_=>by
  rw[eC,dB (by lia),M8]
  exact⟨λ_=>trivial,λ_=>rfl⟩
 | d+1,x,acc,hd,hx=>by
  have hj:n-(d+1)<n:=by lia
  have e:n-(d+1)+1=n-d:=by lia
  rw[ChS.drop_at (by lia),M8,TM.Chn.Sif]
  cases ea:atN (S.atS (n-(d+1))).to (x.getD (n-(d+1)) 0) with
  | none =>
   have hm:x.getD (n-(d+1)) 0∉S.chn.ring (n-(d+1)):=Q8.mp ea
   exact⟨λh=>(by cases h),λh=>absurd h.1 hm⟩
  | some k =>
   have hm:x.getD (n-(d+1)) 0∈S.chn.ring (n-(d+1)):=A3 ea
   have c:=ok.upT hj hm
   have b:=ChS.chn_up ea
   dsimp only
   rw[e]
   by_cases ee:x.getD (n-(d+1)) 0=n-(d+1)
   .rw[if_pos ee]
    have f:TM.beh x (TM.bk n (S.chn.up (n-(d+1)) (x.getD (n-(d+1)) 0)))=x:=by
     rw[ee,ok.upOwn _ hj,TM.bk_still,TM.beh_still hx]
    rw[f,zx8 a ok d x acc (by lia) hx]
    exact⟨λh=>⟨hm,h⟩,λh=>h.2⟩
   .rw[if_neg ee,b,zx8 a ok d _ _ (by lia) (hx.beh (by rw[b]at c;exact c.bk))]
    exact⟨λh=>⟨hm,h⟩,λh=>h.2⟩
structure ChS.Inv (n:Nat) (S:ChS):Prop where
 fine:S.Fine n
 bks:S.Backs n
 len:S.st.length=n
 ok:S.chn.Ok n
 lk:∀j,(S.atS j).lk<=(S.atS j).wt.length
 wl:∀j,(S.atS j).wt.length=(S.atS j).to.length*(S.atS j).mv.length
 wt:∀j p m,p∈(S.atS j).to.map Prod.fst->m∈(S.atS j).mv->(p,m)∈(S.atS j).wt
 wt':∀j,∀x∈(S.atS j).wt,x.1∈(S.atS j).to.map Prod.fst/\x.2∈(S.atS j).mv
 good:∀j,∀x∈(S.atS j).wt.take (S.atS j).lk,S.chn.Good n j x.1 (S.md.getD x.2 [])
 ind:∀j,TM.Indep n ((S.atS j).mv.map λk=>S.md.getD k [])
def ChS.Done (S:ChS)(j:Nat):Prop:=(S.atS j).lk=(S.atS j).wt.length
theorem ChS.Inv.shut {n:Nat}{S:ChS}(h:S.Inv n){j:Nat}(d:S.Done j):S.chn.Shut n j:=by
 intro p a s hs;obtain⟨m,hm,rfl⟩:=hs;refine h.good j (p,m) ?_;rw[d,aT];exact h.wt j p m a hm
theorem ChS.Inv.holds {n:Nat}{S:ChS}(h:S.Inv n){j:Nat}(f:j<=n)(d:∀i,j<=i->i<n->S.Done i){x:List Nat}(b:TM.IsT n x)(c:TM.Fix j x):(M8 n S.md (S.st.drop j) j x []).isSome=true↔TM.Grp n (S.chn.mv j) x:=by
 have e:n-(n-j)=j:=by lia
 have h1:=zx8 h.len h.ok (n-j) x [] (by lia) b;have h2:=h.ok.sift (d:=n-j) (by lia) b (by rw[e];exact c) (λi hi a=>h.shut (d i (by lia) a));rw[e]at h1 h2;exact h1.trans h2
theorem ChS.Inv.few {n:Nat}{S:ChS}(b:n<=60)(h:S.Inv n)(j:Nat):(S.atS j).mv.length<=354:=by
 have q:=TM.indep_few b (l:=(S.atS j).mv.map λk=>S.md.getD k []) (λs hs=>by
  obtain⟨k,a,e⟩:=az.mp hs
  exact h.ok.mvT j s ⟨k,a,e⟩) (h.ind j)
 rwa [aa]at q
theorem ChS.Inv.ring {n:Nat}{S:ChS}(h:S.Inv n){j:Nat}(a:j<n):(S.atS j).to.length<=n:=by
 have q:=TM.nodup_below (M:=n) (h.ok.nd j a) λx b=>h.ok.lt j x a b;have e:(S.chn.ring j).length=(S.atS j).to.length:=aa _;lia
theorem ChS.atS_set {S S':ChS}{i:Nat}{s':StS}(e:S'.st=S.st.set i s')(hi:i<S.st.length)(h:Nat):S'.atS h=if h=i then s' else S.atS h:=by
 unfold ChS.atS;rw[e,ae,ae,List.getElem?_set];by_cases q:h=i
 .subst q;rw[if_pos rfl,if_pos hi,if_pos rfl];rfl
 .rw[if_neg (Ne.symm q),if_neg q]
theorem ChS.atS_mem {S:ChS}{j:Nat}(h:j<S.st.length):S.atS j∈S.st:=by
 rw[ChS.atS_of (ac h)];exact bY h
theorem ChS.atS_out {S:ChS}{j:Nat}(h:¬j<S.st.length):S.atS j=⟨[],[],[],0⟩:=by
 unfold ChS.atS;rw[ae,aR (by lia)];rfl
theorem ChS.Fine.mvlt {n:Nat}{S:ChS}(f:S.Fine n){j k:Nat}(h:k∈(S.atS j).mv):k<S.md.length:=by
 by_cases q:j<S.st.length
 .exact f.wl.mv _ (ChS.atS_mem q) k h
 .rw[ChS.atS_out q]at h;cases h
theorem ChS.Fine.tolt {n:Nat}{S:ChS}(f:S.Fine n){j:Nat}{x:Nat×Nat}(h:x∈(S.atS j).to):x.1<n/\x.2<S.md.length:=by
 by_cases q:j<S.st.length
 .exact f.wl.to _ (ChS.atS_mem q) x h
 .rw[ChS.atS_out q]at h;cases h
theorem ChS.Fine.set {n:Nat}{S a:ChS}{k:Nat}{t:List Nat}(m:N4 n S a k t){i:Nat}{s':StS}(c:∀x∈s'.to,x.1<n/\x.2<a.md.length)(b:∀k∈s'.mv,k<a.md.length):ChS.Fine n { a with st:=S.st.set i s' }:=by
 have f:=m.fine;refine⟨⟨f.wl.md,λs hs=>?_,λs hs=>?_⟩,f.md0,f.pos,f.lnl⟩
 .rcases fq hs with h|h
  .exact f.wl.to s (by rw[m.st];exact h)
  .rw[h];exact c
 .rcases fq hs with h|h
  .exact f.wl.mv s (by rw[m.st];exact h)
  .rw[h];exact b
theorem N4.at_ {n:Nat}{S a:ChS}{k:Nat}{t:List Nat}(m:N4 n S a k t){i:Nat}(h:i<S.md.length):a.md.getD i []=S.md.getD i []:=by
 obtain⟨l,e⟩:=m.md;rw[e,i9 h]
theorem N4.lift {n:Nat}{S a:ChS}{k:Nat}{t:List Nat}(m:N4 n S a k t){i:Nat}(h:i<S.md.length):i<a.md.length:=by
 obtain⟨l,e⟩:=m.md;rw[e,ag];lia
theorem N4.chn {n:Nat}{S b S':ChS}{k:Nat}{t:List Nat}(f:S.Fine n)(m:N4 n S b k t)(e:S'.md=b.md){h:Nat}:((S'.atS h).mv=(S.atS h).mv->S'.chn.mv h=S.chn.mv h)/\((S'.atS h).to=(S.atS h).to->S'.chn.ring h=S.chn.ring h/\S'.chn.up h=S.chn.up h):=by
 refine⟨λq=>?_,λq=>⟨?_,?_⟩⟩
 .funext s;show(∃k∈(S'.atS h).mv,S'.md.getD k []=s)=(∃k∈(S.atS h).mv,S.md.getD k []=s);rw[q,e];refine propext ⟨λ⟨k,a,z⟩=>⟨k,a,?_⟩,λ⟨k,a,z⟩=>⟨k,a,?_⟩⟩
  .rw[←m.at_ (f.mvlt a)];exact z
  .rw[m.at_ (f.mvlt a)];exact z
 .show(S'.atS h).to.map Prod.fst=_;rw[q];rfl
 .funext p;show S'.md.getD ((atN (S'.atS h).to p).getD 0) []=S.md.getD ((atN (S.atS h).to p).getD 0) [];rw[q,e]
  cases ea:atN (S.atS h).to p with
  | none=>exact m.at_ f.pos
  | some k=>exact m.at_ (f.tolt (Q7 ea)).2
def ChS.look (S:ChS)(j:Nat):ChS:={ S with st:=S.st.set j { S.atS j with lk:=(S.atS j).lk+1 } }
theorem ChS.look_at {S:ChS}{j:Nat}(hj:j<S.st.length)(h:Nat):(S.look j).atS h=if h=j then { S.atS j with lk:=(S.atS j).lk+1 } else S.atS h:=ChS.atS_set (S':=S.look j) rfl hj h
theorem ChS.look_mv {S:ChS}{j:Nat}(a:j<S.st.length)(h:Nat):((S.look j).atS h).mv=(S.atS h).mv/\((S.look j).atS h).to=(S.atS h).to/\((S.look j).atS h).wt=(S.atS h).wt:=by
 rw[ChS.look_at a];by_cases q:h=j
 .subst q;rw[if_pos rfl];exact⟨rfl,rfl,rfl⟩
 .rw[if_neg q];exact⟨rfl,rfl,rfl⟩
theorem ChS.look_chn {S:ChS}{j:Nat}(a:j<S.st.length):(S.look j).chn=S.chn:=by
 have h1:∀h,((S.look j).atS h).mv=(S.atS h).mv:=λh=>(ChS.look_mv a h).1;have h2:∀h,((S.look j).atS h).to=(S.atS h).to:=λh=>(ChS.look_mv a h).2.1;have b:(S.look j).md=S.md:=rfl;unfold ChS.chn;simp only[h1,h2,b]
theorem ChS.Inv.look {n:Nat}{S:ChS}(h:S.Inv n){j:Nat}(f:j<n){x:Nat×Nat}(d:(S.atS j).wt[(S.atS j).lk]?=some x)(g:S.chn.Good n j x.1 (S.md.getD x.2 [])):(S.look j).Inv n:=by
 have b:j<S.st.length:=by rw[h.len];exact f
 have hlt:=(aw.mp d).1;have e:=λi=>ChS.look_mv (S:=S) b i;have c:=ChS.look_chn (S:=S) b;refine⟨?_,h.bks.of rfl rfl rfl rfl,by show(S.st.set _ _).length=n;rw[bD];exact h.len,by rw[c];exact h.ok,λi=>?_,λi=>by rw[(e i).1,(e i).2.1,(e i).2.2];exact h.wl i,λi=>by rw[(e i).1,(e i).2.1,(e i).2.2];exact h.wt i,λi=>by rw[(e i).1,(e i).2.1,(e i).2.2];exact h.wt' i,λi y a=>?_,λi=>by rw[(e i).1];exact h.ind i⟩
 .have m:=N4.refl h.fine h.fine.pos;exact ChS.Fine.set m (λy a=>h.fine.tolt a) (λy a=>h.fine.mvlt a)
 .rw[ChS.look_at b];by_cases q:i=j
  .subst q;rw[if_pos rfl];exact hlt
  .rw[if_neg q];exact h.lk i
 .rw[c];show S.chn.Good n i y.1 (S.md.getD y.2 []);rw[ChS.look_at b]at a;by_cases q:i=j
  .subst q;rw[if_pos rfl]at a;have a:y∈(S.atS i).wt.take ((S.atS i).lk+1):=a;rw[be,d]at a;rcases aI.mp a with z|z
   .exact h.good i y z
   .obtain rfl:y=x:=by simpa using z
    exact g
  .rw[if_neg q]at a;exact h.good i y a
theorem yg6 {l:List (Nat×Nat)}{p q k:Nat}(h:p≠q):atN (l++[(q,k)]) p=atN l p:=by
 unfold atN;rw[eT]
 cases e:l.find? (λx=>decide (x.1=p)) with
 | some x=>rfl
 | none=>simp[Ne.symm h]
theorem A9 {S S2:ChS}{n k:Nat}{t:List Nat}(f:S.Fine n)(m:N4 n S S2 k t)(j:Nat):((S.atS j).mv.map λk=>S2.md.getD k [])=((S.atS j).mv.map λk=>S.md.getD k []):=bQ λx hx=>m.at_ (f.mvlt hx)
theorem ChS.Inv.place {n:Nat}{S S2:ChS}{j q k:Nat}{t:List Nat}(h:S.Inv n)(C:j<n)(m:N4 n S S2 k t)(b:S2.Backs n)(D:atN (S.atS j).to q=none)(s:q<n)(F:TM.Grp n (S.chn.mv j) t)(G:t.getD j 0=q) :
  ChS.Inv n { S2 with st:=S.st.set j ((S.atS j).putP q k) }/\TM.Chn.MoreP n S.chn (ChS.chn { S2 with st:=S.st.set j ((S.atS j).putP q k) }) j q t:=by
 obtain⟨S',d⟩:∃S',S'=({ S2 with st:=S.st.set j ((S.atS j).putP q k) }:ChS):=⟨_,rfl⟩;rw[←d];have u:S'.st=S.st.set j ((S.atS j).putP q k):=by rw[d]
 have c:S'.md=S2.md:=by rw[d]
 have A:j<S.st.length:=by rw[h.len];exact C
 have y:=λi=>ChS.atS_set u A i;have r:∀i,(S'.atS i).mv=(S.atS i).mv:=λi=>by
  rw[y i];by_cases e:i=j
  .subst e;rw[if_pos rfl];rfl
  .rw[if_neg e]
 have l:S'.atS j=(S.atS j).putP q k:=by rw[y j,if_pos rfl]
 have o:∀i,i≠j->S'.atS i=S.atS i:=λi e=>by rw[y i,if_neg e]
 have B:TM.Chn.MoreP n S.chn S'.chn j q t:=by
  refine⟨C,Q8.mp D,s,F,G,funext λi=>(m.chn h.fine c).1 (r i),?_,λi e=>((m.chn h.fine c).2 (by rw[o i e])).1,λp f=>?_,?_,λi e=>((m.chn h.fine c).2 (by rw[o i e])).2⟩
  .show(S'.atS j).to.map Prod.fst=(S.atS j).to.map Prod.fst++[q];rw[l];show((S.atS j).to++[(q,k)]).map Prod.fst=_;rw[aO];rfl
  .show S'.md.getD ((atN (S'.atS j).to p).getD 0) []=S.md.getD ((atN (S.atS j).to p).getD 0) [];rw[l];show S'.md.getD ((atN ((S.atS j).to++[(q,k)]) p).getD 0) []=_;rw[yg6 f,c]
   cases e:atN (S.atS j).to p with
   | none=>exact m.at_ h.fine.pos
   | some k'=>exact m.at_ (h.fine.tolt (Q7 e)).2
  .show S'.md.getD ((atN (S'.atS j).to q).getD 0) []=t;rw[l];show S'.md.getD ((atN ((S.atS j).to++[(q,k)]) q).getD 0) []=t;rw[zh5 D,c];exact m.at'
 refine⟨⟨?_,?_,?_,B.ok h.ok,λi=>?_,λi=>?_,λi p w f hm=>?_,λi x a=>?_,λi x a=>?_,λi=>?_⟩,B⟩
 .rw[d];refine ChS.Fine.set m (λx a=>?_) (λx a=>m.lift (h.fine.mvlt a));rcases aI.mp a with z|z
  .exact⟨(h.fine.tolt z).1,m.lift (h.fine.tolt z).2⟩
  .rw[ar.mp z];exact⟨s,m.lt⟩
 .rw[d];exact b.of rfl rfl rfl rfl
 .rw[u,bD];exact h.len
 .by_cases e:i=j
  .subst e;rw[l];have:=h.lk i;show(S.atS i).lk<=((S.atS i).wt++_).length;rw[ag];lia
  .rw[o i e];exact h.lk i
 .by_cases e:i=j
  .subst e;rw[l];have:=h.wl i;show((S.atS i).wt++(S.atS i).mv.map λm=>(q,m)).length=((S.atS i).to++[(q,k)]).length*(S.atS i).mv.length;rw[ag,aa,ag,bK,dY,cA,this]
  .rw[o i e];exact h.wl i
 .by_cases e:i=j
  .subst e;rw[l]at f hm ⊢;have f:p∈((S.atS i).to++[(q,k)]).map Prod.fst:=f;rw[aO]at f;show(p,w)∈(S.atS i).wt++(S.atS i).mv.map λm=>(q,m);rcases aI.mp f with z|z
   .exact bg _ (h.wt i p w z hm)
   .have z:p=q:=ar.mp z;rw[z];exact aU _ (az.mpr ⟨w,hm,rfl⟩)
  .rw[o i e]at f hm ⊢;exact h.wt i p w f hm
 .by_cases e:i=j
  .subst e;rw[l]at a ⊢;have a:x∈(S.atS i).wt++(S.atS i).mv.map λm=>(q,m):=a;show x.1∈((S.atS i).to++[(q,k)]).map Prod.fst/\x.2∈(S.atS i).mv;rw[aO];rcases aI.mp a with z|z
   .exact⟨bg _ (h.wt' i x z).1,(h.wt' i x z).2⟩
   .obtain⟨w,hm,rfl⟩:=az.mp z;exact⟨aU _ (by simp),hm⟩
  .rw[o i e]at a ⊢;exact h.wt' i x a
 .have v:x∈(S.atS i).wt.take (S.atS i).lk:=by
   by_cases e:i=j
   .subst e;rw[l]at a;have a:x∈((S.atS i).wt++(S.atS i).mv.map λm=>(q,m)).take (S.atS i).lk:=a;rwa [bS (h.lk i)]at a
   .rwa [o i e]at a
  have E:=h.wt' i x (bI v);have g:=B.good (i:=i) E.1 (h.good i x v);rw[c,m.at_ (h.fine.mvlt E.2)];exact g
 .rw[r i,c,A9 h.fine m];exact h.ind i
theorem ChS.Inv.mover {n:Nat}{S S2:ChS}{i k:Nat}{t:List Nat}(h:S.Inv n)(hi:i<n)(m:N4 n S S2 k t)(b:S2.Backs n)(J:TM.IsT n t)(I:TM.Fix i t)(E:∀g,g+1=i->TM.Grp n (S.chn.mv g) t)(H:¬TM.Grp n (S.chn.mv i) t) :
  ChS.Inv n { S2 with st:=S.st.set i ((S.atS i).putM k) }/\TM.Chn.MoreM n S.chn (ChS.chn { S2 with st:=S.st.set i ((S.atS i).putM k) }) i t:=by
 obtain⟨S',d⟩:∃S',S'=({ S2 with st:=S.st.set i ((S.atS i).putM k) }:ChS):=⟨_,rfl⟩;rw[←d];have r:S'.st=S.st.set i ((S.atS i).putM k):=by rw[d]
 have c:S'.md=S2.md:=by rw[d]
 have C:i<S.st.length:=by rw[h.len];exact hi
 have B:=λg=>ChS.atS_set r C g;have q:∀g,(S'.atS g).to=(S.atS g).to:=λg=>by
  rw[B g];by_cases e:g=i
  .subst e;rw[if_pos rfl];rfl
  .rw[if_neg e]
 have f:S'.atS i=(S.atS i).putM k:=by rw[B i,if_pos rfl]
 have j:∀g,g≠i->S'.atS g=S.atS g:=λg e=>by rw[B g,if_neg e]
 have D:TM.Chn.MoreM n S.chn S'.chn i t:=by
  refine⟨hi,J,I,E,λg s=>?_,funext λg=>((m.chn h.fine c).2 (q g)).1,funext λg=>((m.chn h.fine c).2 (q g)).2⟩;by_cases e:g=i
  .subst e;show(∃o∈(S'.atS g).mv,S'.md.getD o []=s)↔((∃o∈(S.atS g).mv,S.md.getD o []=s)∨(g=g/\s=t));rw[f,c];constructor
   .rintro⟨o,w,z⟩;rcases aI.mp w with y|y
    .exact .inl ⟨o,y,by rw[←m.at_ (h.fine.mvlt y)];exact z⟩
    .rw[ar.mp y,m.at']at z;exact .inr ⟨rfl,z.symm⟩
   .rintro (⟨o,w,z⟩|⟨_,z⟩)
    .exact⟨o,bg _ w,by rw[m.at_ (h.fine.mvlt w)];exact z⟩
    .exact⟨k,aU _ (by simp),by rw[m.at',z]⟩
  .rw[(m.chn h.fine c).1 (by rw[j g e])];exact⟨.inl,λz=>z.elim id λy=>absurd y.1 e⟩
 refine⟨⟨?_,?_,?_,D.ok h.ok,λg=>?_,λg=>?_,λg p A l hm=>?_,λg x a=>?_,λg x a=>?_,λg=>?_⟩,D⟩
 .rw[d];refine ChS.Fine.set m (λx a=>⟨(h.fine.tolt a).1,m.lift (h.fine.tolt a).2⟩) (λx a=>?_);rcases aI.mp a with z|z
  .exact m.lift (h.fine.mvlt z)
  .rw[ar.mp z];exact m.lt
 .rw[d];exact b.of rfl rfl rfl rfl
 .rw[r,bD];exact h.len
 .by_cases e:g=i
  .subst e;rw[f];have:=h.lk g;show(S.atS g).lk<=((S.atS g).wt++_).length;rw[ag];lia
  .rw[j g e];exact h.lk g
 .by_cases e:g=i
  .subst e;rw[f];have:=h.wl g;show((S.atS g).wt++(S.atS g).to.map λx=>(x.1,k)).length=(S.atS g).to.length*((S.atS g).mv++[k]).length;rw[ag,aa,ag,bK,Nat.mul_add,dH,this]
  .rw[j g e];exact h.wl g
 .by_cases e:g=i
  .subst e;rw[f]at l hm ⊢;have l:p∈(S.atS g).to.map Prod.fst:=l;have hm:A∈(S.atS g).mv++[k]:=hm;show(p,A)∈(S.atS g).wt++(S.atS g).to.map λx=>(x.1,k);rcases aI.mp hm with z|z
   .exact bg _ (h.wt g p A l z)
   .rw[ar.mp z];obtain⟨y,v,e⟩:=az.mp l;exact aU _ (az.mpr ⟨y,v,by rw[e]⟩)
  .rw[j g e]at l hm ⊢;exact h.wt g p A l hm
 .by_cases e:g=i
  .subst e;rw[f]at a ⊢;have a:x∈(S.atS g).wt++(S.atS g).to.map λx=>(x.1,k):=a;show x.1∈(S.atS g).to.map Prod.fst/\x.2∈(S.atS g).mv++[k];rcases aI.mp a with z|z
   .exact⟨(h.wt' g x z).1,bg _ (h.wt' g x z).2⟩
   .obtain⟨y,v,rfl⟩:=az.mp z;exact⟨az.mpr ⟨y,v,rfl⟩,by simp⟩
  .rw[j g e]at a ⊢;exact h.wt' g x a
 .have u:x∈(S.atS g).wt.take (S.atS g).lk:=by
   by_cases e:g=i
   .subst e;rw[f]at a;have a:x∈((S.atS g).wt++(S.atS g).to.map λx=>(x.1,k)).take (S.atS g).lk:=a;rwa [bS (h.lk g)]at a
   .rwa [j g e]at a
  have G:=h.wt' g x (bI u);have F:=D.good h.ok (h.good g x u);rw[c,m.at_ (h.fine.mvlt G.2)];exact F
 .by_cases e:g=i
  .subst e;rw[f,c];show TM.Indep n (((S.atS g).mv++[k]).map λk=>S2.md.getD k []);rw[aO,A9 h.fine m];show TM.Indep n (_++[S2.md.getD k []]);rw[m.at'];refine(h.ind g).snoc λz=>H ?_;refine TM.Grp.mono (h.ok.mvT g) (λs hs=>TM.Grp.of (h.ok.mvT g) ?_) z;obtain⟨y,v,e⟩:=az.mp hs;exact⟨y,v,e⟩
  .rw[j g e,c,A9 h.fine m];exact h.ind g
theorem ChS.putK_bl {n:Nat}{S:ChS}(i:Nat):(S.putK n i).2.bl.length<=S.bl.length+1:=by
 unfold ChS.putK
 cases e:atN S.bl i with
 | some k=>exact dJ _
 | none =>
  show(S.bl++[_]).length<=_;rw[ag];exact aq _
theorem ChS.atS_st {S a:ChS}(e:a.st=S.st)(j:Nat):a.atS j=S.atS j:=by unfold ChS.atS;rw[e]
theorem ChS.Inv.grow {n:Nat}{S a:ChS}{k:Nat}{t:List Nat}(h:S.Inv n)(m:N4 n S a k t)(b:a.Backs n):a.Inv n/\a.chn=S.chn:=by
 have c:=λj=>ChS.atS_st m.st j;have d:a.chn=S.chn:=by
  have h1:a.chn.mv=S.chn.mv:=funext λj=>(m.chn h.fine rfl).1 (by rw[c j]);have h2:a.chn.ring=S.chn.ring:=funext λj=>((m.chn h.fine rfl).2 (by rw[c j])).1;have f:a.chn.up=S.chn.up:=funext λj=>((m.chn h.fine rfl).2 (by rw[c j])).2;show TM.Chn.mk a.chn.mv a.chn.ring a.chn.up=TM.Chn.mk S.chn.mv S.chn.ring S.chn.up;rw[h1,h2,f]
 refine⟨⟨m.fine,b,by rw[m.st];exact h.len,by rw[d];exact h.ok,λj=>by rw[c j];exact h.lk j,λj=>by rw[c j];exact h.wl j,λj=>by rw[c j];exact h.wt j,λj=>by rw[c j];exact h.wt' j,λj x e=>?_,λj=>by rw[c j,A9 h.fine m];exact h.ind j⟩,d⟩;rw[c j]at e;rw[d,m.at_ (h.fine.mvlt (h.wt' j x (bI e)).2)];exact h.good j x e
def ChS.looks (S:ChS):Nat:=(S.st.map StS.lk).sum
theorem zg6 {l:List StS}:∀{j:Nat} {a s:StS},l[j]?=some s->((l.set j a).map StS.lk).sum+s.lk=(l.map StS.lk).sum+a.lk:=by
 induction l with
 | nil=>intro j a s h;cases h
 | cons x r ih =>
  intro j a s h
  cases j with
  | zero =>
   obtain rfl:x=s:=by simpa using h
   simp only[List.set_cons_zero,aJ,de];lia
  | succ j =>
   have h':r[j]?=some s:=by simpa using h
   have:=ih (a:=a) h';simp only[List.set_cons_succ,aJ,de];lia
theorem ChS.get_at {S:ChS}{j:Nat}(h:j<S.st.length):S.st[j]?=some (S.atS j):=by rw[ChS.atS_of (ac h)];exact ac h
theorem ChS.look_looks {S:ChS}{j:Nat}(h:j<S.st.length):(S.look j).looks=S.looks+1:=by
 have q:=zg6 (a:={ S.atS j with lk:=(S.atS j).lk+1 }) (ChS.get_at h);unfold ChS.looks ChS.look;dsimp only at q ⊢;lia
structure ChS.Next (n:Nat) (S S':ChS) (j:Nat) (b:Bool):Prop where
 inv:S'.Inv n
 looks:S'.looks=S.looks+1
 done:∀i,j<i->i<n->(b=true->i≠j+1)->S.Done i->S'.Done i
 more:b=true->j+1<n
 mv0:S'.chn.mv 0=S.chn.mv 0
 src:S'.src=S.src
 ln:S'.ln.length<=S.ln.length+3
 bl:S'.bl.length<=S.bl.length+1
theorem ChS.Inv.found {n:Nat}{S:ChS}{j:Nat}{x:Nat×Nat}(h:S.Inv n)(u:j<n)(Q:(S.atS j).wt[(S.atS j).lk]?=some x)(d:∀i,j<i->i<n->S.Done i):ChS.Next n S ((S.found n j x.1 x.2).1.look j) j (S.found n j x.1 x.2).2:=by
 have f:j<S.st.length:=by rw[h.len];exact u
 have hw:=h.wt' j x (ax Q);have H:x.1∈S.chn.ring j:=hw.1;have hs:S.chn.mv j (S.md.getD x.2 []):=⟨x.2,hw.2,rfl⟩;have hm:=h.fine.mvlt hw.2;obtain⟨k,hk⟩:∃k,atN (S.atS j).to x.1=some k:=by
  cases e:atN (S.atS j).to x.1 with
  | none=>exact absurd H (Q8.mp e)
  | some k=>exact⟨k,rfl⟩
 have P:k<S.md.length:=(h.fine.tolt (Q7 hk)).2;have J:S.chn.up j x.1=S.md.getD k []:=ChS.chn_up hk;have hu:=h.ok.upT u H;have ae:=h.ok.mvT j _ hs;have b:=h.fine.putB P hm;obtain⟨W,M⟩:=h.bks.putB h.fine.lnl P hm;have et:(TM.beh (S.md.getD k []) (S.md.getD x.2 [])).getD j 0=(S.md.getD x.2 []).getD x.1 0:=by
  rw[←J,TM.beh_get hu u,h.ok.upTo j _ u H]
 have gt:TM.Grp n (S.chn.mv j) (TM.beh (S.md.getD k []) (S.md.getD x.2 [])):=by
  rw[←J];exact .mul (h.ok.upG j _ u H) hs
 have tT:TM.IsT n (TM.beh (S.md.getD k []) (S.md.getD x.2 [])):=gt.isT (h.ok.mvT j);obtain⟨R,o⟩:∃R,R=S.found n j x.1 x.2:=⟨_,rfl⟩;rw[←o];unfold ChS.found at o;simp only[hk,cN,et]at o
 cases ea:atN (S.atS j).to ((S.md.getD x.2 []).getD x.1 0) with
 | none =>
  rw[ea]at o;dsimp only at o;have ad:(S.md.getD x.2 []).getD x.1 0<n:=ae.step_lt (h.ok.lt j _ u H);obtain⟨K,B⟩:=h.place u b W ea ad gt et;have g:=B.new h.ok H hs (by rw[J]);rw[o];dsimp only;generalize hS':({ (S.putB k x.2).2 with st:=S.st.set j ((S.atS j).putP ((S.md.getD x.2 []).getD x.1 0) (S.putB k x.2).1) }:ChS)=S' at K B g;have m:S'.st=S.st.set j ((S.atS j).putP ((S.md.getD x.2 []).getD x.1 0) (S.putB k x.2).1):=by rw[←hS']
  have G:S'.md=(S.putB k x.2).2.md:=by rw[←hS']
  have t:=λi=>ChS.atS_set m f i;have Z:S'.atS j=(S.atS j).putP ((S.md.getD x.2 []).getD x.1 0) (S.putB k x.2).1:=by rw[t j,if_pos rfl]
  have l:j<S'.st.length:=by rw[m,bD];exact f
  have ag:(S'.atS j).wt[(S'.atS j).lk]?=some x:=by
   rw[Z];show((S.atS j).wt++_)[(S.atS j).lk]?=some x;rw[bd (aw.mp Q).1];exact Q
  refine⟨K.look u ag (by rw[G,b.at_ hm];exact g),?_,λi hi w _ N=>?_,λz=>(by cases z),?_,(by show S'.src=_;rw[←hS'];exact ChS.putB_src _ _),?_,?_⟩
  .rw[ChS.look_looks l];have q:=zg6 (a:=(S.atS j).putP ((S.md.getD x.2 []).getD x.1 0) (S.putB k x.2).1) (ChS.get_at f);have q2:((S.atS j).putP ((S.md.getD x.2 []).getD x.1 0) (S.putB k x.2).1).lk=(S.atS j).lk:=rfl;unfold ChS.looks;rw[m];lia
  .unfold ChS.Done;rw[ChS.look_at l,if_neg (by lia),t i,if_neg (by lia)];exact N
  .rw[ChS.look_chn l,B.emv]
  .show S'.ln.length<=_;have:=b.len;rw[←hS'];show(S.putB k x.2).2.ln.length<=_;lia
  .show S'.bl.length<=_;rw[←hS'];show(S.putB k x.2).2.bl.length<=_;rw[M];lia
 | some k2 =>
  rw[ea]at o;dsimp only at o;have hq:(S.md.getD x.2 []).getD x.1 0∈S.chn.ring j:=A3 ea;have E:S.chn.up j ((S.md.getD x.2 []).getD x.1 0)=S.md.getD k2 []:=ChS.chn_up ea;have O:k2<S.md.length:=(h.fine.tolt (Q7 ea)).2;obtain⟨sg,sf⟩:=h.ok.schreier u H hs hq;rw[J,E]at sg sf;have T:=sg.isT (h.ok.mvT j);have hh:=h.holds (j:=j+1) (by lia) (λi hi w=>d i (by lia) w) T sf
  cases hi:(M8 n S.md (S.st.drop (j+1)) (j+1) (TM.beh (TM.beh (S.md.getD k []) (S.md.getD x.2 [])) (TM.bk n (S.md.getD k2 []))) []).isSome with
  | true =>
   rw[hi,if_pos rfl]at o;rw[o];dsimp only;have g:S.chn.Good n j x.1 (S.md.getD x.2 []):=⟨hq,by rw[J,E];exact hh.mp hi⟩;refine⟨h.look u Q g,ChS.look_looks f,λi hi w _ N=>?_,λz=>(by cases z),?_,rfl,?_,?_⟩
   .unfold ChS.Done;rw[ChS.look_at f,if_neg (by lia)];exact N
   .rw[ChS.look_chn f]
   .exact dF _ _
   .exact dJ _
  | false =>
   rw[hi,if_neg (by decide)]at o;rw[o];dsimp only;have ng:¬TM.Grp n (S.chn.mv (j+1)) (TM.beh (TM.beh (S.md.getD k []) (S.md.getD x.2 [])) (TM.bk n (S.md.getD k2 []))):=λz=>by
    rw[hh.mpr z]at hi;cases hi
   have F:j+1<n:=by
    rcases fC (j+1) n with q|q
    .exact q
    .rw[dB (by rw[h.len];exact q),M8]at hi
     cases hi
   obtain⟨r,b2⟩:=b.fine.putK W (b.lift O);have C:=ChS.putK_bl (n:=n) (S:=(S.putB k x.2).2) k2;have L:=r.fine.putB (r.lift b.lt) r.lt;have v:(((S.putB k x.2).2.putK n k2).2.putB (S.putB k x.2).1 ((S.putB k x.2).2.putK n k2).1).2.src=S.src:=by rw[ChS.putB_src,ChS.putK_src,ChS.putB_src]
   obtain⟨X,D⟩:=b2.putB r.fine.lnl (r.lift b.lt) r.lt;obtain⟨ah,Y⟩:=h.grow b W;obtain⟨I,c⟩:=ah.grow r b2;rw[Y]at c;rw[r.at_ b.lt,b.at',r.at',b.at_ O]at L;generalize hS2:((S.putB k x.2).2.putK n k2).2=S2 at L X D I c r C o v;generalize hS3:S2.putB (S.putB k x.2).1 ((S.putB k x.2).2.putK n k2).1=S3 at L X D o v;have U:S2.st=S.st:=by rw[r.st,b.st]
   have V:=λi=>ChS.atS_st U i;obtain⟨K,B⟩:=I.mover F L X T sf (λg hg=>by
    obtain rfl:g=j:=by lia
    rw[c];exact sg) (by rw[c];exact ng)
   rw[V,U]at K B;have g:=B.new I.ok (j:=j) (p:=x.1) (s:=S.md.getD x.2 []) (by rw[c];exact hq) (by rw[c,J,E]);generalize hS':({ S3.2 with st:=S.st.set (j+1) ((S.atS (j+1)).putM S3.1) }:ChS)=S' at K B g;have A:j+1<S.st.length:=by rw[h.len];exact F
   have m:S'.st=S.st.set (j+1) ((S.atS (j+1)).putM S3.1):=by rw[←hS']
   have G:S'.md=S3.2.md:=by rw[←hS']
   have t:=λi=>ChS.atS_set m A i;have l:j<S'.st.length:=by rw[m,bD];exact f
   have Z:S'.atS j=S.atS j:=by rw[t j,if_neg (by lia)]
   refine⟨K.look u (by rw[Z];exact Q) (by rw[G,L.at_ (r.lift (b.lift hm)),r.at_ (b.lift hm),b.at_ hm];exact g),?_,λi hi w ab N=>?_,λ_=>F,?_,(by show S'.src=_;rw[←hS'];exact v),?_,?_⟩
   .rw[ChS.look_looks l];have q:=zg6 (a:=(S.atS (j+1)).putM S3.1) (ChS.get_at A);have q2:((S.atS (j+1)).putM S3.1).lk=(S.atS (j+1)).lk:=rfl;unfold ChS.looks;rw[m];lia
   .unfold ChS.Done;rw[ChS.look_at l,if_neg (by lia),t i,if_neg (ab rfl)];exact N
   .rw[ChS.look_chn l,←c];funext s;exact propext ((B.emv 0 s).trans ⟨λz=>z.elim id λy=>absurd y.1 (by lia),.inl⟩)
   .show S'.ln.length<=_;have:=b.len;have:=r.len;have:=L.len;rw[←hS'];show S3.2.ln.length<=_;lia
   .show S'.bl.length<=_;rw[←hS'];show S3.2.bl.length<=_;rw[D];rw[M]at C;exact C
theorem ChS.look_putB {S:ChS}(j k m:Nat):(S.look j).putB k m=((S.putB k m).1,(S.putB k m).2.look j):=by
 unfold ChS.putB;by_cases a:k=0
 .rw[if_pos a,if_pos a]
 .rw[if_neg a,if_neg a];by_cases b:m=0
  .rw[if_pos b,if_pos b]
  .rw[if_neg b,if_neg b];rfl
theorem ChS.look_putK {S:ChS}(n j k:Nat):(S.look j).putK n k=((S.putK n k).1,(S.putK n k).2.look j):=by
 unfold ChS.putK;have e:(S.look j).bl=S.bl:=rfl;rw[e]
 cases q:atN S.bl k with
 | some k'=>rfl
 | none=>rfl
theorem ChS.found_look {n:Nat}{S:ChS}{j:Nat}(d:j<S.st.length)(p m:Nat):(S.look j).found n j p m=((S.found n j p m).1.look j,(S.found n j p m).2):=by
 have g:(S.look j).atS j={ S.atS j with lk:=(S.atS j).lk+1 }:=by rw[ChS.look_at d,if_pos rfl]
 have b:(S.look j).atS (j+1)=S.atS (j+1):=by rw[ChS.look_at d,if_neg (by lia)]
 have c:(S.look j).md=S.md:=rfl;have f:(S.look j).st.drop (j+1)=S.st.drop (j+1):=List.drop_set_of_lt (by lia);unfold ChS.found;simp only[g,b,c,f,ChS.look_putB,ChS.look_putK]
 cases ea:atN (S.atS j).to ((TM.beh (S.md.getD ((atN (S.atS j).to p).getD 0) []) (S.md.getD m [])).getD j 0) with
 | none =>
  dsimp only;refine Prod.ext ?_ rfl;generalize hX:((atN (S.atS j).to p).getD 0)=k;generalize hS':({ (S.putB k m).2 with st:=S.st.set j ((S.atS j).putP ((TM.beh (S.md.getD k []) (S.md.getD m [])).getD j 0) (S.putB k m).1) }:ChS)=S';have a:S'.st=S.st.set j ((S.atS j).putP ((TM.beh (S.md.getD k []) (S.md.getD m [])).getD j 0) (S.putB k m).1):=by rw[←hS']
  have e:=ChS.atS_set a d j;rw[if_pos rfl]at e;show _=({ S' with st:=S'.st.set j { S'.atS j with lk:=(S'.atS j).lk+1 } }:ChS);rw[e,a,List.set_set];show({ (S.putB k m).2.look j with st:=(S.st.set j _).set j _ }:ChS)=_;rw[List.set_set,←hS'];rfl
 | some k2 =>
  dsimp only;by_cases hi:(M8 n S.md (S.st.drop (j+1)) (j+1) (TM.beh (TM.beh (S.md.getD ((atN (S.atS j).to p).getD 0) []) (S.md.getD m [])) (TM.bk n (S.md.getD k2 []))) []).isSome=true
  .rw[if_pos hi,if_pos hi]
  .rw[if_neg hi,if_neg hi];dsimp only;refine Prod.ext ?_ rfl;dsimp only;generalize (((S.putB ((atN (S.atS j).to p).getD 0) m).2.putK n k2).2.putB (S.putB ((atN (S.atS j).to p).getD 0) m).1 ((S.putB ((atN (S.atS j).to p).getD 0) m).2.putK n k2).1)=Y;show({ Y.2 with st:=(S.st.set j _).set (j+1) _ }:ChS)=({ Y.2 with st:=(S.st.set (j+1) _).set j _ }:ChS);rw[List.set_comm _ _ (show j≠j+1 by lia)];have e:(({ Y.2 with st:=S.st.set (j+1) ((S.atS (j+1)).putM Y.1) }:ChS)).atS j=S.atS j:=by
    unfold ChS.atS;rw[ae,bM (by lia),ae]
   rw[e]
theorem xq9 {l:List StS}{b:Nat}(h:∀s∈l,s.lk<=b):(l.map StS.lk).sum<=l.length*b:=by
 induction l with
 | nil=>simp
 | cons x r ih =>
  have h1:=h x ao;have h2:=ih λs hs=>h s (ah _ hs);rw[aJ,de,aC,dY,cA];lia
theorem ChS.Inv.wt_le {n:Nat}{S:ChS}(a:n<=60)(h:S.Inv n){j:Nat}(b:j<n):(S.atS j).wt.length<=21240:=by
 rw[h.wl j];have h1:=h.ring b;have h2:=h.few a j;exact aM (Nat.mul_le_mul (aM h1 a) h2) (by decide)
theorem ChS.mem_at {S:ChS}{s:StS}(h:s∈S.st):∃j,j<S.st.length/\S.atS j=s:=by
 obtain⟨j,a,e⟩:=bt.mp h;exact⟨j,a,by rw[ChS.atS_of (ac a),e]⟩
theorem ChS.Inv.looks_le {n:Nat}{S:ChS}(a:n<=60)(h:S.Inv n):S.looks<=1274400:=by
 have q:=xq9 (l:=S.st) (b:=21240) λs hs=>by
  obtain⟨j,c,rfl⟩:=ChS.mem_at hs;exact aM (h.lk j) (h.wt_le a (by rw[←h.len];exact c))
 unfold ChS.looks;rw[h.len]at q;have:n*21240<=60*21240:=dq _ a;lia
theorem ChS.Inv.few_look {n:Nat}{S:ChS}{c j:Nat}(b:n<=60)(h:S.Inv n)(l:j<n)(hc:c<=1000)(m:S.ln.length<=3*S.looks+c)(o:S.bl.length<=S.looks+c):(S.look j).Few/\(S.look j).Fine n:=by
 have q:=h.looks_le b;have a:j<S.st.length:=by rw[h.len];exact l
 refine⟨⟨by show S.ln.length<_;lia,by show S.bl.length<_;lia,λs hs=>?_⟩,ChS.Fine.set (N4.refl h.fine h.fine.pos) (λy d=>h.fine.tolt d) (λy d=>h.fine.mvlt d)⟩;obtain⟨i,hi,rfl⟩:=ChS.mem_at hs;have hi:i<n:=by
  have e:(S.look j).st.length=S.st.length:=bD;rw[e,h.len]at hi;exact hi
 obtain⟨f,g,k⟩:=ChS.look_mv a i;rw[f,g,k];have h1:=h.few b i;have h2:=h.ring hi;have p:=h.wt_le b hi;exact⟨by lia,by lia,by lia⟩
theorem zl0 {X:Cx}{C:Addr}{k j:Nat}{m:Str}{ps:List Str}{sp:Sp}{o:Expr}{ta:TE}{apos pos:Pos}{pl:Sem Bool}(c:Cls X.K C)(kn:Q5 X.prog X.w X.K X.mg X.base k C m ps sp)(hr:V0 j X.A)(ho:PE X o ta)(hj:k<=j:=by decide)
  (ht:eval (.Call (.Attribute o m apos) [] [] pos) X.env=(do
   let v ←eval o X.env
   standAt apos.atName
   let (f,first) ←holding [v] (getMethod v m pl)
   callWith pos f first (backTo pos (gs [] X.env)) (backToKw pos (gC [] X.env))):=by rfl):PE X (.Call (.Attribute o m apos) [] [] pos) (yp3 C m sp [] E0 ta xj8):=by
 obtain⟨f,fd,G,hm,hb⟩:=kn
 exact xa7 ho c hm G (hr.mono hj) hb .nil yn4 ht
def ye7 (cC cB cS:Addr):Sp:=λvs H Q _=>∃(A:ChA) (S:ChS) (n c:Nat),vs=[.ref A.c]/\p9 cC cB cS n H A S/\S.Inv n/\0<n/\n<=60/\(∀i,0<i->i<n->S.Done i)/\c<=1000/\S.ln.length<=3*S.looks+c/\S.bl.length<=S.looks+c /\
 ∀(S':ChS) (H':Hp),u3 A.all H H'->p9 cC cB cS n H' A S'->S'.Inv n->(∀i,i<n->S'.Done i)->S'.chn.mv 0=S.chn.mv 0->S'.src=S.src->S'.ln.length<=3*S'.looks+c->S'.bl.length<=S'.looks+c->Q .non H'
theorem Z6:u6 ["self","level","pair"] ["self"] (x9 P9):=scq
theorem zf7 {cC cB cS:Addr}(F:Fun K "settle" "Chain.settle" P9 f fd)(B:Blt mg)(cc:Y4 K cC U7)(cs:Y4 K cS C5)(MN:Q5 P w K mg base 1 cS "next_pair" ["self"] (xc5 cS))(MF:Q5 P w K mg base 4 cC "found_mover" ["self","level","place","mover"] (yo4 cC cB cS)):o8 P w K mg base CX0 5 f fd ["self"] (ye7 cC cB cS):=by
 refine F.ok Z6 (λvs H Q E h=>?_) (λbb Ar aq sh H vs Q E hr h=>?_)
 .obtain⟨A,S,n,c,rfl,_⟩:=h;rfl
 obtain⟨A,S,n,c,rfl,ah,ap,bi,Z,ai,hc,ae,ad,q⟩:=h;obtain⟨M,hM⟩:∃M:Nat,M=2000000:=⟨_,rfl⟩;refine⟨_,z6 (v0 (i:=1) Z6.nd rfl (Or.inl rfl) z8)
  (z7 (zl6 PassesOwn.never (u8 xu0 (pv 1) z8 (r6 _))
   (z6 (v0 (i:=2) Z6.nd rfl (Or.inl rfl) (zl0 cs.cls MN hr (p5 t4 (q9 (pv 0) rfl) (pv 1) (λ_ _=>rfl))))
   (z7 (o3 (B7 (xp6 (pv 2))) (z7 (yi4 (i:=1) Z6.nd rfl (Or.inl rfl) z8 xn2))
    (z7 (o3 (P8 (X2 cc.cls MF hr (pv 0) (z0 (pv 1) (z0 (p5 Z9 (pv 2) z8 (λ_ _=>rfl)) (z0 (p5 Z9 (pv 2) z8 (λ_ _=>rfl)) z4)))))
     (z7 (yi4 (i:=1) Z6.nd rfl (Or.inl rfl) z8 xn0)) u5))))))),?_⟩
 refine⟨λm σ H2=>∃(b:ChS) (t:Int) (v2:Option V),σ=[some (.ref A.c),some (.int t),v2]/\-1<=t/\t<n/\m=2*(M-b.looks)+(t+1).toNat/\u3 A.all H H2/\p9 cC cB cS n H2 A b/\b.Inv n/\(∀i:Nat,t<i->i<n->b.Done i)/\(b.chn.mv 0=S.chn.mv 0/\b.src=S.src)/\b.ln.length<=3*b.looks+c/\b.bl.length<=b.looks+c,⟨_,S,0,none,rfl,by lia,by lia,rfl,u3.refl,ah,ap,λi hi d=>ai i (by lia) d,⟨rfl,rfl⟩,ae,ad⟩,?_⟩;rintro m σ H2 ⟨b,t,v2,rfl,l1,l2,rfl,fr,u,o,J,N,b1,b2⟩;refine⟨_,rfl,_,_,rfl,rfl,_,rfl,?_⟩;by_cases U:0<=t
 .rw[decide_eq_true U];refine m7 ⟨_,λσ' H' z=>z,?_⟩;obtain⟨j,rfl⟩:∃j:Nat,t=(j:Int):=⟨t.toNat,by lia⟩;have C:j<n:=by lia
  have y:j<b.st.length:=by rw[o.len];exact C
  obtain⟨aj,an⟩:=u.c;obtain⟨a,p⟩:∃a,A.st[j]?=some a:=⟨_,ac (by rw[u.len.1];exact C)⟩;have hs:=ChS.get_at y;have st:=u.st j a _ p hs;obtain⟨ak,X⟩:=st.a;have ga:atI (A.st.map λs=>V.ref s.a) ((j:Nat):Int)=some (V.ref a.a):=l8 (by rw[af,p];rfl);have bj:=o.wt_le Z C;refine⟨_,rfl,A.c,cC,aj,_,_,rfl,an,cc.cls,cc.no "steps" (by decide),rfl,_,rfl,A.l,_,_,_,rfl,rfl,SqL.of u.l,ga,a.a,ak,_,rfl,X,rfl,a,n,b.md,j,b.atS j,rfl,st,o.lk j,by lia,λhd=>?_,λx r H3 D W T as=>?_⟩
  .refine⟨_,rfl,_,rfl,m7 ?_⟩;refine⟨_,rfl,_,_,rfl,rfl,?_⟩;refine⟨_,?_,b,(j:Int)-1,_,rfl,by lia,by lia,rfl,fr,u,o,λi hi d=>?_,N,b1,b2⟩
   .lia
   .by_cases e:i=j
    .rw[e];exact hd
    .exact J i (by lia) d
  .have nt:∀x∈[a.a],x∈a.all/\∀xs,H2 x≠some (.tup xs):=λx D=>by
    rw[ar.mp D];exact⟨by simp[StA.all],λxs z=>by rw[X]at z;cases z⟩
   have I:p9 cC cB cS n H3 A (b.look j):=u.step p nt T as;obtain⟨few,al⟩:=o.few_look Z C hc b1 b2;have hw:=o.wt' j x (ax D);have g:=o.found C D (λi hi d=>J i (by lia) d);have fl:=ChS.found_look (n:=n) (S:=b) y x.1 x.2;obtain⟨k,hk⟩:∃k,atN (b.atS j).to x.1=some k:=by
    cases e:atN (b.atS j).to x.1 with
    | none=>exact absurd hw.1 (Q8.mp e)
    | some k=>exact⟨k,rfl⟩
   have hm:=o.fine.mvlt hw.2;obtain⟨L,ao⟩:=I.c;have bm:=g.inv.looks_le Z;have bk:=g.looks;refine⟨_,rfl,_,rfl,o9 ?_⟩;refine⟨_,rfl,A.c,L,_,rfl,ao,rfl,_,rfl,_,rfl,r,_,_,_,rfl,rfl,SqT.of W,rfl,_,rfl,r,_,_,_,rfl,rfl,SqT.of W,rfl,A,b.look j,n,j,x.1,x.2,k,rfl,I,al,o.bks.of rfl rfl rfl rfl,few,Z,C,by rw[(ChS.look_mv y j).2.1];exact hk,hm,λH4 am v=>?_⟩;rw[fl]at v ⊢;have R:u3 A.all H H4:=fr.trans ((T.allS p λx D=>(nt x D).1).trans am);have Y:((b.found n j x.1 x.2).1.look j).ln.length<=3*((b.found n j x.1 x.2).1.look j).looks+c:=by have:=g.ln;lia
   have G:((b.found n j x.1 x.2).1.look j).bl.length<=((b.found n j x.1 x.2).1.look j).looks+c:=by have:=g.bl;lia
   have O:=And.intro (g.mv0.trans N.1) (g.src.trans N.2);refine⟨_,rfl,?_⟩
   cases hb:(b.found n j x.1 x.2).2 with
   | true =>
    have bg:=g.more hb;refine m7 ?_;refine⟨_,rfl,_,_,rfl,rfl,?_⟩;refine⟨_,?_,(b.found n j x.1 x.2).1.look j,(j:Int)+1,_,rfl,by lia,by lia,rfl,R,v,g.inv,λi hi d=>g.done i (by lia) d (λ_=>by lia) (J i (by lia) d),O,Y,G⟩;lia
   | false =>
    refine o9 ?_;refine⟨_,?_,(b.found n j x.1 x.2).1.look j,(j:Int),_,rfl,by lia,by lia,rfl,R,v,g.inv,λi hi d=>g.done i (by lia) d (λz=>by rw[hb]at z;cases z) (J i (by lia) d),O,Y,G⟩;lia
 .rw[decide_eq_false U];refine o9 ?_;exact q b H2 fr u o (λi hi=>J i (by lia) hi) N.1 N.2 b1 b2
theorem yv8 {J:It}{fr:List Nat}{te:CT TE}{σ:St}{H1:Hp}{Q:Addr->Hp->Prop}{β:Type}(g:β->Addr)(d:β->List Addr)(R:Hp->Nat->β->Prop){n:Nat}(hz:n<=gn)
  (hR:∀(H H':Hp) (D:Addr) (xs:List V) (i:Nat) (b:β),R H i b->H D=some (.lst xs)->u3 [D] H H'->D∉d b->R H' i b)
  (u:∀H,y8 H1 H->J.stop n H) (ai:∀i H,i<n->y8 H1 H->J.go i H)
  (U:∀(i:Nat) H x H2,i<n->y8 H1 H->J.yld i H x H2->H2=H/\∀C T E F,te C T E F (some x::fr.map λj=>(σ[j]?).getD none) H λv f=>y8 H f/\∃b,v=.ref (g b)/\R f i b/\(d b).Nodup/\∀a∈d b,H a=none/\∃o,f a=some o)
  (Z:∀D H (bs:List β),H1 D=none->y8 H1 H->H D=some (.lst (bs.map λb=>V.ref (g b)))->bs.length=n->(∀i b,bs[i]?=some b->R H i b)->(bs.map d).flatten.Nodup->(∀b∈bs,∀a∈d b,H1 a=none/\a≠D)->Q D H) :
  ∀D,H1 D=none->∃W:Nat->Nat->St->Hp->Prop,(∃m,W 0 m (M2 1 fr σ) (upd H1 D (.lst [])))/\∀i m X H',W i m X H' ->
  (J.stop i H'/\Q D H')∨(J.go i H'/\∀x H2,J.yld i H' x H2->∀C T E F,Z0 0 x X H2 λσ3 H3=>∃N:VK,te C T E F σ3 H3 N/\∀y f,N y f ->
   ∃ys m',f D=some (.lst ys)/\ys.length<gn/\m'<m/\W (i+1) m' σ3 (upd f D (.lst (ys++[y])))):=by
 intro D hD
 refine⟨λi m X H'=>m=n-i/\i<=n/\y8 H1 H'/\(∃bs:List β,H' D=some (.lst (bs.map λb=>V.ref (g b)))/\bs.length=i/\(∀k b,bs[k]?=some b->R H' k b)/\(bs.map d).flatten.Nodup/\∀b∈bs,∀a∈d b,H1 a=none/\a≠D/\∃o,H' a=some o)/\∃z,X=z::fr.map λj=>(σ[j]?).getD none,
  ⟨n,rfl,aY _,y4 hD _,⟨[],z3,rfl,λk b h=>(by simp at h),by simp,λb h=>(by cases h)⟩,none,rfl⟩,?_⟩
 rintro i m X H' ⟨rfl,hi,B,⟨bs,hl,q,K,M,p⟩,z,rfl⟩
 by_cases hlt:i<n
 .refine .inr ⟨ai i H' hlt B,λx H2 yl C T E F=>?_⟩
  obtain⟨e,tn⟩:=U i H' x H2 hlt B yl
  subst e
  refine⟨_,tn C T E F,λv f ⟨Y,b,hv,ae,O,t⟩=>?_⟩
  subst hv
  have s:=Y _ _ hl
  have G:u3 [D] f (upd f D (.lst (bs.map (λb=>V.ref (g b))++[V.ref (g b)]))):=u3.upd u3.refl (by simp) _
  have ac:D∉d b:=λh=>by
   have:=(t D h).1
   rw[hl]at this
   cases this
  have I:∀c∈bs,D∉d c:=λc L h=>(p c L D h).2.1 rfl
  refine⟨_,n-(i+1),s,by rw[aa,q];lia,by lia,rfl,hlt,λc o e=>?_,⟨bs++[b],by rw[z3,aO];rfl,by rw[ag,q];rfl,λk c A=>?_,?_,λc L a r=>?_⟩,_,rfl⟩
  .rw[y0 (y9 e hD)]
   exact Y _ _ (B _ _ e)
  .by_cases aj:k<bs.length
   .rw[bd aj]at A
    have hm:=I c (ax A)
    exact hR f _ D _ k c (hR _ f D _ k c (K k c A) hl (y8.frame Y) hm) s G hm
   .have e:k=bs.length:=by
     have:=(aw.mp A).1
     rw[ag,bK]at this
     lia
    subst e
    rw[bo (aq _),ci]at A
    obtain rfl:b=c:=by simpa using A
    rw[q]
    exact hR f _ D _ i b ae s G ac
  .rw[aO,cy]
   refine bj.mpr ⟨M,by simpa using O,λa r c L e=>?_⟩
   subst e
   obtain⟨l,ak,al⟩:=cD.mp r
   obtain⟨b',af,rfl⟩:=az.mp ak
   obtain⟨o,S⟩:=(p b' af a al).2.2
   have ah:a∈d b:=by simpa using L
   have:=(t a ah).1
   rw[S]at this
   cases this
  .rcases aI.mp L with w|w
   .obtain⟨h1,h2,o,S⟩:=p c w a r
    exact⟨h1,h2,o,by rw[y0 h2];exact Y _ _ S⟩
   .rw[ar.mp w]at r
    obtain⟨h1,o,S⟩:=t a r
    have P:a≠D:=λz=>by
     rw[z,hl]at h1
     cases h1
    exact⟨B.free h1,P,o,by rw[y0 P];exact S⟩
 .have e:i=n:=by lia
  subst e
  exact .inl ⟨u H' B,Z D H' bs hD B hl q K M λb hb a r=>⟨(p b hb a r).1,(p b hb a r).2.1⟩⟩
def ChS.new (n:Nat)(sr:Nat->List Nat):ChS:=⟨[.still],[List.range n],[(0,0)],(List.range n).map λi=>⟨[],[(i,0)],[],0⟩,sr⟩
def yo2 (cB:Addr):Sp:=λvs H Q _=>∃(x dx:Addr) (n:Nat),vs=[.ref x,.int n]/\H x=some (.ins cB dx [])/\n<=60 /\
 ∀(ll lm d:Addr) (H':Hp),[ll,lm,d].Nodup->H ll=none->H lm=none->H d=none->u3 [x] H H'->(∀(A:ChA) (sr:Nat->List Nat),A.b=x->A.ll=ll->A.lm=lm->A.d=d->U5 cB H' A (ChS.new n sr))->Q .non H'
theorem zd5:u6 ["self","many"] ["self","many"] (x9 R6):=scq
theorem zv5 {cB:Addr}(F:Fun K "__init__" "Book.__init__" R6 f fd)(B:Blt mg)(D:Y4 K cB zh7)(KS:n5 P w K mg base 1 "still" ["many"] zy0)(GS:zn3 mg "STILL_LINE" (.int 0)):o8 P w K mg base CX0 2 f fd ["self","many"] (yo2 cB):=by
 refine F.ok zd5 (λvs H Q E h=>?_) (λav Ar ab s H vs Q E hr h=>?_)
 .obtain⟨x,dx,n,rfl,_⟩:=h;rfl
 obtain⟨x,dx,n,rfl,X,hn,q⟩:=h;have hz:=W4;refine⟨_,z6 (V5 (pv 0) (m9 (z0 (R5 (z0 zl2 z4)) z4)) rfl)
  (z6 (V5 (pv 0) (m9 (z0 (o6 KS hr rfl (z0 (pv 1) z4)) z4)) rfl)
  (z7 (V5 (pv 0) (zw7 (zl3 (zf0 GS rfl) (zf0 GS rfl) zx3) rfl rfl (du _ _) (by decide)) rfl))),?_⟩
 refine⟨(by show 1<=gn;lia),λi t=>?_⟩;have s1:=y4 t (.tup [V.str "still"]);have e1:(upd H i (.tup [V.str "still"])) i=some (.tup (lnV .still)):=z3;generalize upd H i (.tup [V.str "still"])=H1 at s1 e1 ⊢;refine⟨(by show 1<=gn;lia),λa p=>?_⟩;have s2:=s1.trans (y4 p (.lst [V.ref i]));have e2:=y4 p (.lst [V.ref i]) _ _ e1;have l2:(upd H1 a (.lst [V.ref i])) a=some (.lst [V.ref i]):=z3;have j:H a=none:=s1.free p;generalize upd H1 a (.lst [V.ref i])=H2 at s2 e2 l2 ⊢;refine⟨_,rfl,x,cB,dx,[],rfl,s2 _ _ X,D.cls,D.no "lines" (by decide),by decide,?_⟩;have C:i≠x:=λz=>by subst z;rw[X]at t;cases t
 have v:a≠x:=λz=>by subst z;rw[X]at j;cases j
 have N:u3 [x] H (upd H2 x (.ins cB dx (Y6 "lines" (V.ref a) []))):=u3.upd (y8.frame s2) (by simp) _;have M:(upd H2 x (.ins cB dx (Y6 "lines" (V.ref a) []))) x=some (.ins cB dx [("lines",.ref a)]):=z3;have e3:(upd H2 x (.ins cB dx (Y6 "lines" (V.ref a) []))) i=some (.tup (lnV .still)):=by rw[y0 C];exact e2
 have Y:(upd H2 x (.ins cB dx (Y6 "lines" (V.ref a) []))) a=some (.lst [V.ref i]):=by rw[y0 v];exact l2
 generalize upd H2 x (.ins cB dx (Y6 "lines" (V.ref a) []))=H3 at N M e3 Y ⊢;refine⟨_,rfl,n,rfl,by lia,λl H4 G s4 W=>⟨(by show 1<=gn;lia),λg r=>?_⟩⟩;have I:=s4.trans (y4 r (.lst [V.ref l]));have t5:=y4 r (.lst [V.ref l]) _ _ W;have m5:(upd H4 g (.lst [V.ref l])) g=some (.lst [V.ref l]):=z3;have c:H3 g=none:=s4.free r;generalize upd H4 g (.lst [V.ref l])=m at I t5 m5 ⊢;have x5:=I _ _ M;refine⟨_,rfl,x,cB,dx,_,rfl,x5,D.cls,D.no "made" (by decide),by (show 1<1000;decide),?_⟩;have J:l≠x:=λz=>by subst z;rw[M]at G;cases G
 have y:g≠x:=λz=>by subst z;rw[M]at c;cases c
 have ml:g≠a:=λz=>by subst z;rw[Y]at c;cases c
 have O:u3 [x] H (upd m x (.ins cB dx (Y6 "made" (V.ref g) [("lines",.ref a)]))):=u3.upd (N.trans (y8.frame I)) (by simp) _;have x6:(upd m x (.ins cB dx (Y6 "made" (V.ref g) [("lines",.ref a)]))) x=some (.ins cB dx [("lines",.ref a),("made",.ref g)]):=by rw[z3];rfl
 have e6:(upd m x (.ins cB dx (Y6 "made" (V.ref g) [("lines",.ref a)]))) i=some (.tup (lnV .still)):=by rw[y0 C];exact I _ _ e3
 have Z:(upd m x (.ins cB dx (Y6 "made" (V.ref g) [("lines",.ref a)]))) a=some (.lst [V.ref i]):=by rw[y0 v];exact I _ _ Y
 have t6:(upd m x (.ins cB dx (Y6 "made" (V.ref g) [("lines",.ref a)]))) l=some (.tup (tI (List.range n))):=by rw[y0 J];exact t5
 have m6:(upd m x (.ins cB dx (Y6 "made" (V.ref g) [("lines",.ref a)]))) g=some (.lst [V.ref l]):=by rw[y0 y];exact m5
 have nn:H g=none:=by
  cases e:H g with
  | none=>rfl
  | some o =>
   have:=N g o (by simpa using y) e;rw[this]at c
   cases c
 generalize upd m x (.ins cB dx (Y6 "made" (V.ref g) [("lines",.ref a)]))=L at O x6 e6 Z t6 m6 ⊢;refine λd k=>⟨z3,[(Sum.inl 0,V.int 0)],rfl,by decide,?_⟩;have u:y8 L (upd (upd L d (.dK [])) d (.dK (W5 [] [(Sum.inl 0,V.int 0)]))):=λb o h=>by
  have hb:=y9 h k;rw[y0 hb,y0 hb];exact h
 have d7:(upd (upd L d (.dK [])) d (.dK (W5 [] [(Sum.inl 0,V.int 0)]))) d=some (.dK (kI [(0,0)])):=by rw[z3];rfl
 generalize upd (upd L d (.dK [])) d (.dK (W5 [] [(Sum.inl 0,V.int 0)]))=H7 at u d7 ⊢;refine⟨_,rfl,x,cB,dx,_,rfl,u _ _ x6,D.cls,D.no "back_lines" (by decide),by (show 2<1000;decide),?_⟩;have xd:d≠x:=λz=>by subst z;rw[x6]at k;cases k
 have dl:d≠a:=λz=>by subst z;rw[Z]at k;cases k
 have dm:d≠g:=λz=>by subst z;rw[m6]at k;cases k
 have nd:H d=none:=by
  cases e:H d with
  | none=>rfl
  | some o =>
   have:=O d o (by simpa using xd) e;rw[this]at k
   cases k
 refine q a g d _ (by simp;exact⟨⟨Ne.symm ml,Ne.symm dl⟩,Ne.symm dm⟩) j nn nd (u3.upd (O.trans (y8.frame u)) (by simp) _) λA sr R T U S=>?_;subst R T U S;refine⟨⟨dx,by rw[z3];rfl⟩,⟨[i],by rw[y0 v];exact u _ _ Z,.cons ?_ .nil⟩,⟨[l],by rw[y0 y];exact u _ _ m6,.cons ?_ .nil⟩,by rw[y0 xd];exact d7,rfl⟩
 .rw[y0 C];exact u _ _ e6
 .rw[y0 J];exact u _ _ t6
def yp0 (cS:Addr):Sp:=λvs H Q _=>∃(x dx:Addr) (i n:Nat),vs=[.ref x,.int i,.int n]/\H x=some (.ins cS dx [])/\n<=60 /\
 ∀(A:StA) (H':Hp),A.a=x->A.all.Nodup->(∀a∈A.all,a≠x->H a=none)->u3 [x] H H'->Z2 cS n [List.range n] H' A i ⟨[],[(i,0)],[],0⟩->Q .non H'
theorem zd7:u6 ["self","place","many"] ["self","place","many"] (x9 R7):=scq
theorem b6 {H:Hp}{x cS dx:Addr}{fs:List (Str×V)}{f:Str}{v:V}{fs':List (Str×V)}(e:Y6 f v fs=fs'):∃H',upd H x (.ins cS dx (Y6 f v fs))=H'/\u3 [x] H H'/\H' x=some (.ins cS dx fs'):=⟨_,rfl,u3.upd u3.refl (by simp) _,by rw[z3,e]⟩
theorem u3.keep {x b:Addr}{o:HO}{H H':Hp}(fr:u3 [x] H H')(h:H b=some o)(hb:b≠x):H' b=some o:=fr b o (by simpa using hb) h
theorem u3.free {x b:Addr}{H H':Hp}(fr:u3 [x] H H')(h:H' b=none)(hb:b≠x):H b=none:=by
 cases e:H b with
 | none=>rfl
 | some o =>
  rw[fr.keep e hb]at h
  cases h
theorem zv7 {cS:Addr}(F:Fun K "__init__" "Step.__init__" R7 f fd)(B:Blt mg)(cs:Y4 K cS C5)(KS:n5 P w K mg base 1 "still" ["many"] zy0)(GS:zn3 mg "STILL_LINE" (.int 0)):o8 P w K mg base CX0 2 f fd ["self","place","many"] (yp0 cS):=by
 refine F.ok zd7 (λvs H Q E h=>?_) (λbr Ar ag s H vs Q E hr h=>?_)
 .obtain⟨x,dx,i,n,rfl,_⟩:=h;rfl
 obtain⟨x,dx,i,n,rfl,hx,hn,q⟩:=h;have hz:=W4;refine⟨_,z6 (V5 (pv 0) (pv 1) rfl)
  (z6 (V5 (pv 0) (m9 z4) rfl)
  (z6 (V5 (pv 0) (zw7 (zl3 (pv 1) (zf0 GS rfl) zx3) rfl rfl (du _ _) (by decide)) rfl)
  (z6 (V5 (pv 0) (zw7 (zl3 (pv 1) (o6 KS hr rfl (z0 (pv 2) z4)) zx3) rfl rfl (du _ _) (by decide)) rfl)
  (z6 (V5 (pv 0) (m9 z4) rfl)
  (z7 (V5 (pv 0) z8 rfl)))))),?_⟩
 refine⟨_,rfl,_,rfl,x,cS,dx,[],rfl,hx,cs.cls,cs.no "place" (by decide),by decide,?_⟩;obtain⟨H1,g1,f1,x1⟩:=b6 (H:=H) (x:=x) (cS:=cS) (dx:=dx) (f:="place") (v:=V.int i) (fs:=[]) (fs':=[("place",.int i)]) rfl;rw[g1];refine⟨(by show 0<=gn;lia),λm hm=>?_⟩;have s2:=y4 hm (.lst []);have m2:(upd H1 m (.lst [])) m=some (.lst []):=z3;generalize upd H1 m (.lst [])=H2 at s2 m2 ⊢;have A:m≠x:=λz=>by subst z;rw[x1]at hm;cases hm
 refine⟨_,rfl,x,cS,dx,_,rfl,s2 _ _ x1,cs.cls,cs.no "movers" (by decide),by (show 1<1000;decide),?_⟩;obtain⟨D,g3,f3,x3⟩:=b6 (H:=H2) (x:=x) (cS:=cS) (dx:=dx) (f:="movers") (v:=V.ref m) (fs:=[("place",.int i)]) (fs':=[("place",.int i),("movers",.ref m)]) rfl;rw[g3];have F3:u3 [x] H D:=(f1.trans (y8.frame s2)).trans f3;have m3:=f3.keep m2 A;refine λd y=>⟨_,rfl,z3,[(Sum.inl (i:Int),V.int 0)],rfl,(by show 1<=15;decide),?_⟩;have N:y8 D (upd (upd D d (.dK [])) d (.dK (W5 [] [(Sum.inl (i:Int),V.int 0)]))):=λb o h=>by
  have hb:=y9 h y;rw[y0 hb,y0 hb];exact h
 have d4:(upd (upd D d (.dK [])) d (.dK (W5 [] [(Sum.inl (i:Int),V.int 0)]))) d=some (.dK (kI [(i,0)])):=by rw[z3];rfl
 generalize upd (upd D d (.dK [])) d (.dK (W5 [] [(Sum.inl (i:Int),V.int 0)]))=H4 at N d4 ⊢;have L:d≠x:=λz=>by subst z;rw[x3]at y;cases y
 have dm:d≠m:=λz=>by subst z;rw[m3]at y;cases y
 refine⟨_,rfl,x,cS,dx,_,rfl,N _ _ x3,cs.cls,cs.no "line_to" (by decide),by (show 2<1000;decide),?_⟩;obtain⟨W,g5,X,x5⟩:=b6 (H:=H4) (x:=x) (cS:=cS) (dx:=dx) (f:="line_to") (v:=V.ref d) (fs:=[("place",.int i),("movers",.ref m)]) (fs':=[("place",.int i),("movers",.ref m),("line_to",.ref d)]) rfl;rw[g5];have F5:u3 [x] H W:=(F3.trans (y8.frame N)).trans X;have m5:=X.keep (N _ _ m3) A;have d5:=X.keep d4 L;refine λe p=>⟨_,rfl,_,rfl,n,rfl,by lia,λj G r s6 ab=>⟨s6 _ _ z3,[(Sum.inl (i:Int),V.ref j)],rfl,(by show 1<=15;decide),?_⟩⟩;have ai:y8 W G:=(y4 p _).trans s6;have te:j≠e:=λz=>by subst z;rw[z3]at r;cases r
 have J:y8 W (upd G e (.dK (W5 [] [(Sum.inl (i:Int),V.ref j)]))):=λb o h=>by
  rw[y0 (y9 h p)];exact ai _ _ h
 have e7:(upd G e (.dK (W5 [] [(Sum.inl (i:Int),V.ref j)]))) e=some (.dK (kR [(i,0)] [j])):=by rw[z3];rfl
 have t7:(upd G e (.dK (W5 [] [(Sum.inl (i:Int),V.ref j)]))) j=some (.tup (tI (List.range n))):=by rw[y0 te];exact ab
 generalize upd G e (.dK (W5 [] [(Sum.inl (i:Int),V.ref j)]))=H7 at J e7 t7 ⊢;have R:e≠x:=λz=>by subst z;rw[x5]at p;cases p
 have em:e≠m:=λz=>by subst z;rw[m5]at p;cases p
 have ed:e≠d:=λz=>by subst z;rw[d5]at p;cases p
 have xt:j≠x:=λz=>by
  subst z;rw[y0 te,x5]at r
  cases r
 refine⟨_,rfl,x,cS,dx,_,rfl,J _ _ x5,cs.cls,cs.no "back_from" (by decide),by (show 3<1000;decide),?_⟩;obtain⟨M,g8,I,x8⟩:=b6 (H:=H7) (x:=x) (cS:=cS) (dx:=dx) (f:="back_from") (v:=V.ref e) (fs:=[("place",.int i),("movers",.ref m),("line_to",.ref d)]) (fs':=[("place",.int i),("movers",.ref m),("line_to",.ref d),("back_from",.ref e)]) rfl;rw[g8];have F8:u3 [x] H M:=(F5.trans (y8.frame J)).trans I;have m8:=I.keep (J _ _ m5) A;have d8:=I.keep (J _ _ d5) L;have e8:=I.keep e7 R;have t8:=I.keep t7 xt;refine⟨(by show 0<=gn;lia),λc l=>?_⟩;have O:=y4 l (.lst []);have w9:(upd M c (.lst [])) c=some (.lst []):=z3;generalize upd M c (.lst [])=H9 at O w9 ⊢;have S:c≠x:=λz=>by subst z;rw[x8]at l;cases l
 have wm:c≠m:=λz=>by subst z;rw[m8]at l;cases l
 have wd:c≠d:=λz=>by subst z;rw[d8]at l;cases l
 have we:c≠e:=λz=>by subst z;rw[e8]at l;cases l
 refine⟨_,rfl,x,cS,dx,_,rfl,O _ _ x8,cs.cls,cs.no "waiting" (by decide),by (show 4<1000;decide),?_⟩;obtain⟨C,Y,t,ak⟩:=b6 (H:=H9) (x:=x) (cS:=cS) (dx:=dx) (f:="waiting") (v:=V.ref c) (fs:=[("place",.int i),("movers",.ref m),("line_to",.ref d),("back_from",.ref e)]) (fs':=[("place",.int i),("movers",.ref m),("line_to",.ref d),("back_from",.ref e),("waiting",.ref c)]) rfl;rw[Y];have T:u3 [x] H C:=(F8.trans (y8.frame O)).trans t;refine⟨_,rfl,x,cS,dx,_,rfl,ak,cs.cls,cs.no "looked_at" (by decide),by (show 5<1000;decide),?_⟩;obtain⟨g,Z,u,al⟩:=b6 (H:=C) (x:=x) (cS:=cS) (dx:=dx) (f:="looked_at") (v:=V.int 0) (fs:=[("place",.int i),("movers",.ref m),("line_to",.ref d),("back_from",.ref e),("waiting",.ref c)]) (fs':=[("place",.int i),("movers",.ref m),("line_to",.ref d),("back_from",.ref e),("waiting",.ref c),("looked_at",.int 0)]) rfl;rw[Z];have U:u3 [x] H g:=T.trans u;have k:∀{b:Addr} {o:HO},M b=some o->b≠x->g b=some o:=λh hb=>u.keep (t.keep (O _ _ h) hb) hb;have aj:g c=some (.lst []):=u.keep (t.keep w9 S) S;have ac:H d=none:=F3.free y L;have ae:H m=none:=f1.free hm A;have ad:H e=none:=F5.free p R;have af:H c=none:=F8.free l S;refine q ⟨x,m,d,e,c⟩ g rfl ?_ ?_ U ⟨⟨dx,al⟩,k m8 A,k d8 L,⟨[j],k e8 R,.cons ?_ .nil⟩,⟨[],aj,.nil⟩⟩
 .simp only[StA.all,aQ,ay,ba,not_or,or_false,bC,not_false_eq_true,dA,and_true];exact⟨⟨Ne.symm A,Ne.symm L,Ne.symm R,Ne.symm S⟩,⟨Ne.symm dm,Ne.symm em,Ne.symm wm⟩,⟨Ne.symm ed,Ne.symm wd⟩,Ne.symm we⟩
 .intro a ha aa;simp only[StA.all,ay,ba,or_false,bC]at ha;rcases ha with h|h|h|h|h
  .exact absurd h aa
  .rw[h];exact ae
  .rw[h];exact ac
  .rw[h];exact ad
  .rw[h];exact af
 .show g j=some (.tup (tI (TM.bk n (List.range n))));rw[TM.bk_still];exact k t8 xt
theorem ChS.new_at {a:Nat->List Nat}(n j:Nat):(ChS.new n a).atS j=if j<n then⟨[],[(j,0)],[],0⟩ else⟨[],[],[],0⟩:=by
 unfold ChS.atS ChS.new;rw[ae,af];by_cases h:j<n
 .rw[aD h,if_pos h];rfl
 .rw[aR (by rw[aA];lia),if_neg h];rfl
theorem ChS.new_mv {a:Nat->List Nat}(n j:Nat):((ChS.new n a).atS j).mv=[]:=by
 rw[ChS.new_at];by_cases h:j<n
 .rw[if_pos h]
 .rw[if_neg h]
theorem ChS.new_wt {a:Nat->List Nat}(n j:Nat):((ChS.new n a).atS j).wt=[]/\((ChS.new n a).atS j).lk=0:=by
 rw[ChS.new_at];by_cases h:j<n
 .rw[if_pos h];exact⟨rfl,rfl⟩
 .rw[if_neg h];exact⟨rfl,rfl⟩
theorem ChS.new_nomv {sr:Nat->List Nat}(n j:Nat)(s:List Nat):¬(ChS.new n sr).chn.mv j s:=λ⟨k,hk,_⟩=>by
 rw[ChS.new_mv]at hk
 cases hk
theorem ChS.new_ring {a:Nat->List Nat}{n j:Nat}(h:j<n):(ChS.new n a).chn.ring j=[j]:=by
 show((ChS.new n a).atS j).to.map Prod.fst=[j];rw[ChS.new_at,if_pos h];rfl
theorem ChS.new_up {a:Nat->List Nat}{n j:Nat}(h:j<n)(p:Nat):(ChS.new n a).chn.up j p=List.range n:=by
 show(ChS.new n a).md.getD ((atN ((ChS.new n a).atS j).to p).getD 0) []=_;have e:(atN ((ChS.new n a).atS j).to p).getD 0=0:=by
  rw[ChS.new_at,if_pos h];unfold atN;by_cases q:j=p
  .rw[cT (by simpa using q)];rfl
  .rw[cU (by simpa using q)];rfl
 rw[e];rfl
theorem ChS.new_inv {o:Nat->List Nat}(n:Nat):(ChS.new n o).Inv n where
 fine:=by
  refine⟨⟨λt g=>?_,λs hs x a=>?_,λs hs k f=>?_⟩,rfl,eM,rfl⟩
  .rw[ar.mp g];exact TM.IsT.range n
  .obtain⟨i,hi,rfl⟩:=az.mp hs;rw[ar.mp a];exact⟨av.mp hi,eM⟩
  .obtain⟨i,hi,rfl⟩:=az.mp hs
   cases f
 bks:=by
  refine⟨λi k h=>?_,λi l t h1 h2=>?_⟩
  .have h:atN [(0,0)] i=some k:=h;have hm:=Q7 h;have e:=ar.mp hm;have c:i=0:=congrArg Prod.fst e;have d:k=0:=congrArg Prod.snd e;subst c;subst d;refine⟨eM,eM,?_⟩;show List.range n=TM.bk n (List.range n);rw[TM.bk_still]
  .have h1:[TM.Ln.still][i]?=some l:=h1;have h2:[List.range n][i]?=some t:=h2
   match i,h1,h2 with
   | 0,h1,h2 =>
    cases h1
    cases h2
    rfl
 len:=by show((List.range n).map _).length=n;rw[aa,aA]
 ok:=by
  refine⟨λj s h=>absurd h (ChS.new_nomv n j s),λj s h=>absurd h (ChS.new_nomv n j s),λj s h=>absurd h (ChS.new_nomv n (j+1) s),λj s _=>ChS.new_nomv n j s,λj h=>?_,λj p h b=>?_,λj h=>?_,λj p h b=>?_,λj p h b=>?_,λj h=>ChS.new_up h j⟩
  .rw[ChS.new_ring h];simp
  .rw[ChS.new_ring h]at b;rw[ar.mp b];exact h
  .rw[ChS.new_ring h];simp
  .rw[ChS.new_up h];exact .one
  .rw[ChS.new_ring h]at b;rw[ChS.new_up h,TM.still_get h,ar.mp b]
 lk:=λj=>by rw[(ChS.new_wt n j).2];exact aY _
 wl:=λj=>by rw[(ChS.new_wt n j).1,ChS.new_mv];simp
 wt:=λj p m _ hm=>by rw[ChS.new_mv]at hm;cases hm
 wt':=λj x a=>by rw[(ChS.new_wt n j).1]at a;cases a
 good:=λj x a=>by rw[(ChS.new_wt n j).1,List.take_nil]at a;cases a
 ind:=λj=>by
  rw[ChS.new_mv];intro i s h;simp at h
theorem ChS.new_done {a:Nat->List Nat}(n j:Nat):(ChS.new n a).Done j:=by
 unfold ChS.Done;rw[(ChS.new_wt n j).1,(ChS.new_wt n j).2];rfl
def ye3 (cC cB cS:Addr):Sp:=λvs H Q _=>∃(x dx:Addr) (n:Nat),vs=[.ref x,.int n]/\H x=some (.ins cC dx [])/\n<=60 /\
 ∀(A:ChA) (H':Hp),A.c=x->(∀a∈A.all,a≠x->H a=none)->u3 [x] H H'->(∀sr:Nat->List Nat,p9 cC cB cS n H' A (ChS.new n sr))->Q .non H'
theorem za9:u6 ["self","many"] ["self","many"] (x9 U9):=scq
theorem zn6 {cC cB cS:Addr}(F:Fun K "__init__" "Chain.__init__" U9 f fd)(B:Blt mg)(cc:Y4 K cC U7)(KB:yp9 P w K mg base 2 cB "Book" ["self","many"] (yo2 cB))(KT:yp9 P w K mg base 2 cS "Step" ["self","place","many"] (yp0 cS)):o8 P w K mg base CX0 4 f fd ["self","many"] (ye3 cC cB cS):=by
 refine F.ok za9 (λvs H Q E h=>?_) (λcq Ar bz s H vs Q E hr h=>?_)
 .obtain⟨x,dx,n,rfl,_⟩:=h;rfl
 obtain⟨x,dx,n,rfl,hx,hn,q⟩:=h;have hz:=W4;refine⟨_,z6 (V5 (pv 0) (zw8 KB hr rfl (z0 (pv 1) z4)) rfl)
  (z7 (V5 (pv 0) (c5 [1] ["place","many"] rfl (l5 rfl B.range (z0 (pv 1) z4)) (λ_ _ _ _=>zw8 KT hr rfl (z0 (pv 0) (z0 (pv 1) z4)))) rfl)),?_⟩
 refine⟨_,rfl,λb R hb br cw=>⟨b,R,n,rfl,z3,hn,λll lm d H1 M W X hd fr bk=>⟨rfl,?_⟩⟩⟩;have s0:y8 H (upd (upd H R (.own b)) b (.ins cB R [])):=λc o h=>by
  rw[y0 (y9 h hb),y0 (y9 h br)];exact h
 have r:∀{c:Addr},(upd (upd H R (.own b)) b (.ins cB R [])) c=none->H c=none:=λ{c} h=>s0.free h;have cb:∀{c:Addr},(upd (upd H R (.own b)) b (.ins cB R [])) c=none->c≠b:=λ{c} h z=>by
  rw[z,z3]at h
  cases h
 have s1:y8 H H1:=λc o h=>fr c o (by simpa using y9 h hb) (s0 _ _ h);have xb:b≠x:=λz=>by subst z;rw[hx]at hb;cases hb
 refine⟨_,rfl,x,cC,dx,[],rfl,s1 _ _ hx,cc.cls,cc.no "book" (by decide),by decide,?_⟩;obtain⟨H2,g2,f2,x2⟩:=b6 (H:=H1) (x:=x) (cS:=cC) (dx:=dx) (f:="book") (v:=V.ref b) (fs:=[]) (fs':=[("book",.ref b)]) rfl;rw[g2];have F2:u3 [x] H H2:=(y8.frame s1).trans f2;have xl:ll≠x:=λz=>by have:=r W;rw[z,hx]at this;cases this
 have xm:lm≠x:=λz=>by have:=r X;rw[z,hx]at this;cases this
 have xd:d≠x:=λz=>by have:=r hd;rw[z,hx]at this;cases this
 obtain⟨N,g⟩:∃N:ChA,N=⟨x,b,ll,lm,d,x,[]⟩:=⟨_,rfl⟩;have bg:=λsr=>bk N sr (by rw[g]) (by rw[g]) (by rw[g]) (by rw[g]);have C:N.b=b:=by rw[g]
 have m:N.ll=ll:=by rw[g]
 have p:N.lm=lm:=by rw[g]
 have k:N.d=d:=by rw[g]
 have keep:∀{O:Hp},u3 [x] H1 O->∀sr:Nat->List Nat,U5 cB O N (ChS.new n sr):=λ{O} u sr=>by
  obtain⟨⟨ag,h1⟩,⟨Z,h2,bn⟩,⟨bx,h3,bo⟩,h4,h5⟩:=id (bg sr);have bv:=s1 _ _ hx;have kt:∀{c:Addr} {xs:List V},H1 c=some (.tup xs)->O c=some (.tup xs):=λ{c xs} e=>u.keep e (λz=>by subst z;rw[bv]at e;cases e);exact⟨⟨ag,u.keep h1 (by rw[C];exact xb)⟩,⟨Z,u.keep h2 (by rw[m];exact xl),Paired.imp' (λ_ _ z=>kt z) bn⟩,⟨bx,u.keep h3 (by rw[p];exact xm),Paired.imp' (λ_ _ z=>kt z) bo⟩,u.keep h4 (by rw[k];exact xd),h5⟩
 have G:=keep f2 λ_=>[];refine⟨_,rfl,(n:Int),rfl,by lia,by lia,?_⟩;rw[show((n:Int)).toNat=n by lia];refine yv8 (J:=Itr 0 n) StA.a StA.all (λH i b=>Z2 cS n [List.range n] H b i ⟨[],[(i,0)],[],0⟩) (n:=n) (by lia) (λO H4 D xs i b st I fr bp=>st.frame fr λy Y=>?_) (λ_ _=>aq _) (λi _ hi _=>hi) ?_ ?_
 .rw[ar.mp Y];exact⟨bp,λys z=>by rw[I]at z;cases z⟩
 .rintro i O v H4 hi s3 ⟨rfl,rfl⟩;refine⟨rfl,λ_ _ _ _=>?_⟩;rw[show(0:Int)+(i:Int)=(i:Int) by lia];refine⟨_,rfl,_,rfl,λy dy Y am ch=>⟨y,dy,i,n,rfl,z3,hn,λA H5 hA nd free bm st=>⟨rfl,λc o h=>?_,A,by rw[hA],st,nd,λa t=>⟨?_,?_⟩⟩⟩⟩
  .exact bm c o (by simpa using y9 h Y) (by rw[y0 (y9 h Y),y0 (y9 h am)];exact h)
  .by_cases e:a=y
   .rw[e];exact Y
   .have:=free a t e;rw[y0 e]at this;by_cases e2:a=dy
    .rw[e2];exact am
    .rwa [y0 e2]at this
  .obtain⟨⟨cr,h1⟩,h2,h3,⟨bs,h4,_⟩,⟨ws,h5,_⟩⟩:=st;simp only[StA.all,ay,ba,or_false,bC]at t;rcases t with e|e|e|e|e <;> rw[e]
   .exact⟨_,h1⟩
   .exact⟨_,h2⟩
   .exact⟨_,h3⟩
   .exact⟨_,h4⟩
   .exact⟨_,h5⟩
 .intro D O bs I s3 hl ak bu ao j;have S:D≠x:=λz=>by subst z;rw[x2]at I;cases I
  refine⟨_,rfl,x,cC,dx,_,rfl,s3 _ _ x2,cc.cls,cc.no "steps" (by decide),by (show 1<1000;decide),?_⟩;obtain⟨H4,g4,f4,x4⟩:=b6 (H:=O) (x:=x) (cS:=cC) (dx:=dx) (f:="steps") (v:=V.ref D) (fs:=[("book",.ref b)]) (fs':=[("book",.ref b),("steps",.ref D)]) rfl;rw[g4];have F4:u3 [x] H H4:=(F2.trans (y8.frame s3)).trans f4;have bh:=keep ((f2.trans (y8.frame s3)).trans f4);have aj:H2 b≠none:=λz=>by
   obtain⟨ag,h1⟩:=G.b;rw[C,z]at h1
   cases h1
  have L:H2 ll≠none:=λz=>by
   obtain⟨Z,h1,_⟩:=G.ll;rw[m,z]at h1
   cases h1
  have an:H2 lm≠none:=λz=>by
   obtain⟨Z,h1,_⟩:=G.lm;rw[p,z]at h1
   cases h1
  have al:H2 d≠none:=λz=>by
   have h1:=G.d;rw[k,z]at h1
   cases h1
  have ap:H2 x≠none:=λz=>by rw[x2]at z;cases z
  refine q ⟨x,b,ll,lm,d,D,bs⟩ H4 rfl ?_ F4 λsr=>⟨?_,⟨dx,x4⟩,?_,f4.keep hl S,⟨ak,?_⟩,λi a s t hs=>?_⟩
  .intro a t ai;simp only[ChA.all,aI,ay,ba,or_false,bC]at t;rcases t with (e|e|e|e|e|e)|e
   .exact absurd e ai
   .rw[e];exact hb
   .rw[e];exact r W
   .rw[e];exact r X
   .rw[e];exact r hd
   .rw[e];exact F2.free I S
   .obtain⟨l,U,L⟩:=cD.mp e;obtain⟨b',T,rfl⟩:=az.mp U;exact F2.free (j b' T a L).1 ai
  .refine bj.mpr ⟨?_,ao,λa t c hc e=>?_⟩
   .simp only[aQ,ay,ba,not_or,or_false,bC,not_false_eq_true,dA,and_true]at M ⊢;refine⟨⟨Ne.symm xb,Ne.symm xl,Ne.symm xm,Ne.symm xd,Ne.symm S⟩,⟨Ne.symm (cb W),Ne.symm (cb X),Ne.symm (cb hd),λz=>aj (z ▸ I)⟩,⟨M.1.1,M.1.2,λz=>L (z ▸ I)⟩,⟨M.2,λz=>an (z ▸ I)⟩,λz=>al (z ▸ I)⟩
   .subst e;obtain⟨l,U,bt⟩:=cD.mp hc;obtain⟨b',T,rfl⟩:=az.mp U;obtain⟨h1,h2⟩:=j b' T a bt;simp only[ay,ba,or_false,bC]at t;rcases t with e|e|e|e|e|e
    .rw[e]at h1;exact ap h1
    .rw[e]at h1;exact aj h1
    .rw[e]at h1;exact L h1
    .rw[e]at h1;exact an h1
    .rw[e]at h1;exact al h1
    .exact h2 e
  .obtain⟨h1,h2,h3,h4,h5⟩:=bh sr;rw[C,m,p,k]at h1;rw[m]at h2;rw[p]at h3;rw[k]at h4;exact⟨h1,h2,h3,h4,h5⟩
  .show((List.range n).map _).length=n;rw[aa,aA]
  .have hi:i<n:=by rw[←ak];exact(aw.mp t).1
   have hs:((List.range n).map λi=>(⟨[],[(i,0)],[],0⟩:StS))[i]?=some s:=hs;rw[af,aD hi]at hs
   cases hs
   have bw:x∉a.all:=λz=>ap (j a (ax t) x z).1;refine(bu i a t).frame f4 λy Y=>?_;rw[ar.mp Y];exact⟨bw,λxs z=>by rw[s3 _ _ x2]at z;cases z⟩
theorem zt9 {H:Hp}:∀t:List Nat,Dts H (tI t) (t.map λ(x:Nat)=>PyData.int x)
 | []=>.nil
 | x::r=>.cons (.int _) (zt9 r)
theorem yu4 {n:Nat}{t:List Nat}(h:TM.IsT n t)(h1:1<=n)(a:n<=60):d6 (.tuple (t.map λ(x:Nat)=>PyData.int x))=true:=by
 have hl:=h.length;have b:M5 (t.map λ(x:Nat)=>PyData.int x)=t.map λ(x:Nat)=>(x:Int):=by
  clear h hl
  induction t with
  | nil=>rfl
  | cons x r ih =>
   show(x:Int)::M5 (r.map λ(x:Nat)=>PyData.int x)=(x:Int)::r.map λ(x:Nat)=>(x:Int);rw[ih]
 have c:ye1 (t.map λ(x:Nat)=>(x:Int))=za8 n:=by
  refine(ye2 ?_ ?_).symm
  .exact(List.Perm.map (λ(x:Nat)=>(x:Int)) (show t.Perm (List.range n) from h)).symm
  .unfold za8;exact aZ.mpr ((fz (n:=n)).imp λh=>by lia)
 have d:(t.map λ(x:Nat)=>PyData.int x).all isW=true:=by
  rw[eV];exact bu.mpr λ_ _=>rfl
 show((decide (1<=(t.map λ(x:Nat)=>PyData.int x).length)&&decide ((t.map λ(x:Nat)=>PyData.int x).length<=60))&&((t.map λ(x:Nat)=>PyData.int x).all isW&&decide (ye1 (M5 (t.map λ(x:Nat)=>PyData.int x))=za8 (t.map λ(x:Nat)=>PyData.int x).length)))=true;rw[b,c,d,aa,hl,decide_eq_true h1,decide_eq_true a,decide_eq_true rfl];rfl
theorem ChS.Backs.told {n:Nat}{S:ChS}(b:S.Backs n)(f:S.ln.length=S.md.length){k:Nat}{t:List Nat}(h:S.src k=t):(S.put (.told k) t).Backs n:=by
 refine⟨λi d h=>?_,b.mks.put f (l:=.told k) h.symm⟩;obtain⟨h1,h2,c⟩:=b.bk i d h;have a:(S.put (.told k) t).md=S.md++[t]:=rfl;refine⟨by rw[a,ag];lia,by rw[a,ag];lia,?_⟩;rw[a,i9 h2,i9 h1,c]
structure ChS.Full (S:ChS) (c:Nat):Prop where
 ln:S.ln.length<=3*S.looks+c
 bl:S.bl.length<=S.looks+c
structure ChS.Set (n:Nat) (S:ChS):Prop where
 inv:S.Inv n
 done:∀i,i<n->S.Done i
def xc9 (cC cB cS:Addr):Sp:=λvs H Q _=>∃(A:ChA) (S:ChS) (n c k:Nat) (tr:Addr) (t:List Nat),vs=[.ref A.c,.int k,.ref tr]/\p9 cC cB cS n H A S/\S.Set n/\0<n/\n<=60/\c<1000/\S.Full c/\H tr=some (.tup (tI t))/\TM.IsT n t/\(¬TM.Grp n (S.chn.mv 0) t->S.src k=t) /\
 ∀(b:Bool) (S':ChS) (H':Hp),u3 A.all H H'->p9 cC cB cS n H' A S'->S'.Set n->S'.src=S.src->S'.Full (c+1)->(∀x,TM.Grp n (S'.chn.mv 0) x↔TM.Grp n (λz=>S.chn.mv 0 z∨z=t) x)->(b=false↔TM.Grp n (S.chn.mv 0) t)->Q (.bl b) H'
theorem zo7:u6 ["self","number","maker"] ["self","number","maker"] (x9 K7):=scq
theorem zn8 {cC cB cS:Addr}(F:Fun K "take" "Chain.take" K7 f fd)(B:Blt mg)(L:Y4 K cC U7)(cb:Y4 K cB zh7)(cs:Y4 K cS C5)(MP:Q5 P w K mg base 1 cB "put" ["self","line","turning"] (yo9 cB))(ax:Q5 P w K mg base 1 cS "put_mover" ["self","mover"] (yj5 cS))
  (MH:Q5 P w K mg base 3 cC "holds" ["self","turning","level"] (D6 cC cB cS)) (MS:Q5 P w K mg base 5 cC "settle" ["self"] (ye7 cC cB cS)):o8 P w K mg base CX0 6 f fd ["self","number","maker"] (xc9 cC cB cS):=by
 refine F.ok zo7 (λvs H Q E h=>?_) (λck Ar br sh H vs Q E hr h=>?_)
 .obtain⟨A,S,n,c,k,tr,t,rfl,_⟩:=h;rfl
 obtain⟨A,S,n,c,k,tr,t,rfl,I,st,d,hn,hc,full,ak,tT,ai,q⟩:=h;have p:=st.inv;have hz:=W4;obtain⟨bf,bj⟩:=I.c;refine⟨_,z6 (o3 (P8 (X2 L.cls MH hr (pv 0) (z0 (pv 2) (z0 z8 z4)))) (z7 (u4 Z5)) u5)
  (z6 (i3 (X2 cs.cls ax hr (p5 t4 (q9 (pv 0) rfl) z8 (λ_ _=>rfl)) (z0 (X2 cb.cls MP hr (q9 (pv 0) rfl) (z0 (R5 (z0 zl2 (z0 (pv 1) z4))) (z0 (pv 2) z4))) z4)))
  (z6 (i3 (zl0 L.cls MS hr (pv 0)))
  (z7 (u4 Z5)))),?_⟩
 refine⟨_,rfl,A.c,bf,_,rfl,bj,rfl,_,rfl,A,S,n,0,tr,t,rfl,I,p.fine.wl,ak,tT,aY _,hn,λH1 s1=>⟨_,rfl,?_⟩⟩;have ae:=p.holds (j:=0) (aY _) (λi _ hi=>st.done i hi) tT (TM.Fix.zero t);have hS:∀z,S.chn.mv 0 z->TM.IsT n z:=p.ok.mvT 0;have aa:∀z,(S.chn.mv 0 z∨z=t)->TM.IsT n z:=λz h=>h.elim (hS z) λe=>by rw[e];exact tT
 cases hb:(M8 n S.md (S.st.drop 0) 0 t []).isSome with
 | true =>
  have D:=ae.mp hb;refine m7 ?_;refine q false S H1 (y8.frame s1) (I.same s1) st rfl ⟨by have:=full.ln;lia,by have:=full.bl;lia⟩ (λx=>⟨λh=>TM.Grp.mono aa (λz hz=>TM.Grp.of aa (.inl hz)) h,λh=>TM.Grp.mono hS (λz hz=>?_) h⟩) ⟨λ_=>D,λ_=>rfl⟩;rcases hz with h|h
  .exact TM.Grp.of hS h
  .rw[h];exact D
 | false =>
  have D:¬TM.Grp n (S.chn.mv 0) t:=λh=>by rw[ae.mpr h]at hb;cases hb
  refine o9 ?_;have r:=I.same s1;obtain⟨C,ab⟩:=r.c;obtain⟨T,bh⟩:=r.bk.b;have u:0<S.st.length:=by rw[p.len];exact d
  obtain⟨a,M⟩:∃a,A.st[0]?=some a:=⟨_,ac (by rw[I.len.1];exact d)⟩;have hs:=ChS.get_at u;have bs:=r.st 0 a _ M hs;obtain⟨W,ah⟩:=bs.a;have ga:atI (A.st.map λs=>V.ref s.a) 0=some (V.ref a.a):=l8 (j:=0) (by rw[af,M];rfl);have an:=ChA.head_nd I.nd;simp only[aQ,ay,ba,not_or,or_false]at an;have bq:A.ll≠A.lm:=an.2.2.1.1;have am:=ChA.step_nd I.nd M;simp only[StA.all,aQ,ay,ba,not_or,or_false]at am;have cp:=p.looks_le hn;have fl:=full.ln;have fb:=full.bl;refine⟨_,rfl,A.c,cC,C,_,_,rfl,ab,L.cls,L.no "steps" (by decide),rfl,A.l,_,_,_,rfl,rfl,SqL.of r.l,ga,a.a,W,_,rfl,ah,rfl,?_⟩;refine⟨_,rfl,A.c,cC,C,_,_,rfl,ab,L.cls,L.no "book" (by decide),rfl,A.b,T,_,rfl,bh,rfl,_,rfl,(by show 2<=gn;lia),λlr bn=>?_⟩;have s2:=y4 bn (.tup [V.str "told",V.int k]);have el:(upd H1 lr (.tup [V.str "told",V.int k])) lr=some (.tup (lnV (.told k))):=z3;generalize upd H1 lr (.tup [V.str "told",V.int k])=H2 at s2 el ⊢;have O:=r.same s2;refine⟨_,rfl,A,S,lr,tr,.told k,t,rfl,O.bk,bq,el,s2 _ _ (s1 _ _ ak),by lia,λH3 Y bb=>?_⟩;have m:=p.fine.put (l:=.told k) tT;have R:p9 cC cB cS n H3 A (S.put (.told k) t):=O.book (Y.more λx o=>by simp at o ⊢;rcases o with e|e <;> simp[e]) bb rfl (λs hs x o=>m.at_ (p.fine.wl.to s hs x o).2);have J:=R.st 0 a _ M hs;have few:=p.few hn 0;have rg:=p.ring d;have ct:=p.wt_le hn d;refine⟨a,n,_,0,S.ln.length,S.atS 0,rfl,J,am.2.1.2.2,by lia,by lia,by lia,λH4 Z bt=>?_⟩;have nt:∀x∈[a.m,a.w],x∈a.all/\∀xs,H3 x≠some (.tup xs):=λx o=>by
   obtain⟨cu,bo,_⟩:=J.w;rcases ay.mp o with e|o
   .rw[e];exact⟨by simp[StA.all],λxs z=>by rw[J.m]at z;cases z⟩
   .rw[ar.mp o];exact⟨by simp[StA.all],λxs z=>by rw[bo]at z;cases z⟩
  have bc:=R.step M nt Z bt;obtain⟨al,mp⟩:=p.mover d m (p.bks.told p.fine.lnl (ai D)) tT (TM.Fix.zero t) (λg D=>absurd D (by lia)) D;generalize hS4:({ S.put (.told k) t with st:=S.st.set 0 ((S.atS 0).putM S.ln.length) }:ChS)=G at al mp;have v:p9 cC cB cS n H4 A G:=by rw[←hS4];exact bc
  have aj:G.st=S.st.set 0 ((S.atS 0).putM S.ln.length):=by rw[←hS4]
  have co:G.looks=S.looks:=by
   have e:=zg6 (a:=(S.atS 0).putM S.ln.length) (ChS.get_at u);have e2:((S.atS 0).putM S.ln.length).lk=(S.atS 0).lk:=rfl;unfold ChS.looks;rw[aj];lia
  have cq:G.ln.length=S.ln.length+1:=by rw[←hS4];show(S.ln++[_]).length=_;rw[ag];rfl
  have ci:G.bl.length=S.bl.length:=by rw[←hS4];rfl
  have X:u3 A.all H H4:=(y8.frame (s1.trans s2)).trans ((Y.all λx o=>by simp at o ⊢;rcases o with e|e <;> simp[e]).trans (Z.allS M λx o=>(nt x o).1));obtain⟨U,bi⟩:=v.c;refine⟨_,rfl,A.c,U,_,rfl,bi,rfl,A,G,n,c+1,rfl,v,al,d,hn,λi hi bm=>?_,by lia,by lia,by lia,λS5 H5 bg bd bp be e5 ap az a'=>?_⟩
  .have N:=ChS.atS_set aj u i;rw[if_neg (by lia)]at N;unfold ChS.Done;rw[N];exact st.done i bm
  .refine q true S5 H5 (X.trans bg) bd ⟨bp,be⟩ (ap.trans (by rw[←hS4];rfl)) ⟨az,a'⟩ (λx=>?_) ⟨λz=>(by cases z),λz=>absurd z D⟩;rw[e5];have e0:G.chn.mv 0=λz=>S.chn.mv 0 z∨z=t:=by
    funext z;exact propext ((mp.emv 0 z).trans ⟨λy=>y.elim .inl λw=>.inr w.2,λy=>y.elim .inl λw=>.inr ⟨rfl,w⟩⟩)
   rw[e0]
def yj7 (cC cB cS:Addr):Sp:=λvs H Q _=>∃(A:ChA) (S:ChS) (n:Nat),vs=[.ref A.c]/\p9 cC cB cS n H A S/\S.Inv n/\n<=60/\Q (.int ((S.chn.many n n:Nat):Int)) H
theorem T9:u6 ["self","product","step"] ["self"] (x9 K6):=scq
theorem zn7 {cC cB cS:Addr}(F:Fun K "size" "Chain.size" K6 f fd)(B:Blt mg)(z:Y4 K cC U7)(cs:Y4 K cS C5):o8 P w K mg base CX0 1 f fd ["self"] (yj7 cC cB cS):=by
 refine F.ok T9 (λI H Q E h=>?_) (λD J x sh H I Q E M h=>?_)
 .obtain⟨A,S,n,rfl,_⟩:=h;rfl
 obtain⟨A,S,n,rfl,b,C,L,q⟩:=h;obtain⟨o,t⟩:=b.c;refine⟨_,z6 (v0 (i:=1) T9.nd rfl (Or.inl rfl) z8)
  (z6 (l9 PassesOwn.never rfl (c9 (q9 (pv 0) rfl)) (p6 (i:=2) T9.nd rfl (Or.inl rfl))
   (z7 (yi4 (i:=1) T9.nd rfl (Or.inl rfl) (w6 yq6 rfl B.len p4 (z0 (q9 (pv 2) rfl) z4)) xn1)))
  (z7 (u4 (pv 1)))),?_⟩
 have g:(A.st.map λs=>V.ref s.a).length=n:=by rw[aa];exact b.len.1
 refine⟨_,rfl,A.c,cC,o,_,_,rfl,t,z.cls,z.no "steps" (by decide),rfl,A.l,rfl,⟨_,SqL.of b.l⟩,Z4 (K:=K) (a:=A.l) (xs:=A.st.map λs=>V.ref s.a) (λi σ m=>∃(p:Nat) (y:Option V),σ=[some (.ref A.c),some (.int p),y]/\m=H/\p*S.chn.many n (n-i)=S.chn.many n n)
  ⟨1,none,rfl,rfl,by rw[eC,cA]⟩ (λi σ m _ ⟨_,_,_,e,_⟩=>by rw[e];exact SqL.of b.l) ?_ ?_⟩
 .rintro i v σ m k ⟨p,y,rfl,rfl,d⟩;rw[af]at k
  cases hA:A.st[i]? with
  | none=>rw[hA]at k;cases k
  | some a =>
   rw[hA]at k
   cases k
   have hi:i<n:=by rw[←b.len.1];exact(aw.mp hA).1
   have hs:=ChS.get_at (S:=S) (j:=i) (by rw[C.len];exact hi);have st:=b.st i a _ hA hs;obtain⟨r,u⟩:=st.a;have N:=C.ring hi;refine⟨_,rfl,_,rfl,a.a,cS,r,_,_,rfl,u,cs.cls,cs.no "line_to" (by decide),rfl,a.lt,_,rfl,st.lt,?_⟩;rw[K2];refine⟨_,_,rfl,rfl,.inr ⟨by lia,by lia⟩,p*(S.atS i).to.length,some (V.ref a.a),?_,rfl,?_⟩
   .rw[cm];rfl
   .have e:n-i=(n-(i+1))+1:=by lia
    rw[e,TM.Chn.many,show n-(n-(i+1)+1)=i by lia]at d;have G:(S.chn.ring i).length=(S.atS i).to.length:=aa _;rw[G,←fv]at d;exact d
 .rintro σ m ⟨p,y,rfl,rfl,d⟩;rw[g,ci,TM.Chn.many,dH]at d;refine⟨_,rfl,?_⟩;rw[d];exact q
theorem p9.keep {cC cB cS:Addr}{n:Nat}{H H':Hp}{A:ChA}{S:ChS}{F:List Addr}(ch:p9 cC cB cS n H A S)(fr:u3 F H H')(j:∀y∈F,y∉A.all/\∀xs,H y≠some (.tup xs)):p9 cC cB cS n H' A S:=by
 have g:∀{b:Addr} {o:HO},H b=some o->b∈A.all->H' b=some o:=λ{b o} h hb=>fr b o (λz=>(j b z).1 hb) h;have q:∀{b:Addr} {xs:List V},H b=some (.tup xs)->H' b=some (.tup xs):=λ{b xs} h=>fr b _ (λz=>(j b z).2 xs h) h;have f:∀y∈[A.c,A.b,A.ll,A.lm,A.d,A.l],y∈A.all:=λy k=>by unfold ChA.all;exact bg _ k
 obtain⟨m,h1⟩:=ch.c;refine⟨ch.nd,⟨m,g h1 (f _ (by simp))⟩,⟨ch.bk.b.imp λ_ e=>g e (f _ (by simp)),ch.bk.ll.imp λ_ e=>⟨g e.1 (f _ (by simp)),Paired.imp' (λ_ _ z=>q z) e.2⟩,ch.bk.lm.imp λ_ e=>⟨g e.1 (f _ (by simp)),Paired.imp' (λ_ _ z=>q z) e.2⟩,g ch.bk.d (f _ (by simp)),ch.bk.len⟩,g ch.l (f _ (by simp)),ch.len,λi a s p hs=>?_⟩;refine(ch.st i a s p hs).frame fr λy k=>⟨λz=>(j y k).1 ?_,(j y k).2⟩;unfold ChA.all;exact aU _ (cD.mpr ⟨a.all,az.mpr ⟨a,ax p,rfl⟩,z⟩)
def B0:List Str:=["many","makers","chain"]
structure W0 (cG cC cB cS:Addr) (n:Nat) (H:Hp) (g:Addr) (ts:List (List Nat)) (S:ChS):Prop where
 n0:0<n
 n60:n<=60
 at':∃(dx ma:Addr) (A:ChA) (mas:List Addr),H g=some (.ins cG dx [("many",.int n),("makers",.ref ma),("chain",.ref A.c)])/\H ma=some (.tup (mas.map V.ref))/\Q6 H mas ts/\p9 cC cB cS n H A S
 st:S.Set n
 few:ts.length<=200
 tT:∀t∈ts,TM.IsT n t
 grp:∀x,TM.Grp n (S.chn.mv 0) x↔TM.Grp n (λz=>z∈ts) x
 src:S.src=λk=>ts.getD k []
 lnl:S.ln.length<=4000000
theorem W0.same {cG cC cB cS:Addr}{n:Nat}{H H':Hp}{g:Addr}{ts:List (List Nat)}{S:ChS}(h:W0 cG cC cB cS n H g ts S)(s:y8 H H'):W0 cG cC cB cS n H' g ts S:=by
 obtain⟨dx,d,A,a,h1,h2,b,c⟩:=h.at';exact⟨h.n0,h.n60,⟨dx,d,A,a,s _ _ h1,s _ _ h2,b.same s,c.same s⟩,h.st,h.few,h.tT,h.grp,h.src,h.lnl⟩
theorem yy1 {n:Nat}{S S':List Nat->Prop}{t:List Nat}(hS:∀s,S s->TM.IsT n s)(a:∀s,S' s->TM.IsT n s)(hT:TM.IsT n t)(h:∀x,TM.Grp n S x↔TM.Grp n S' x)(x:List Nat):TM.Grp n (λz=>S z∨z=t) x↔TM.Grp n (λz=>S' z∨z=t) x:=by
 have b:∀{S S':List Nat->Prop},(∀s,S s->TM.IsT n s)->(∀s,S' s->TM.IsT n s)->(∀x,TM.Grp n S x↔TM.Grp n S' x)->TM.Grp n (λz=>S z∨z=t) x->TM.Grp n (λz=>S' z∨z=t) x:=λ{S S'} hS a h g=>by
  have h2:∀s,(S' s∨s=t)->TM.IsT n s:=λs q=>q.elim (a s) λe=>by rw[e];exact hT
  refine TM.Grp.mono h2 (λs hs=>?_) g;rcases hs with q|q
  .exact TM.Grp.mono h2 (λz c=>TM.Grp.of h2 (.inl c)) ((h s).mp (TM.Grp.of hS q))
  .exact TM.Grp.of h2 (.inr q)
 exact⟨b hS a h,b a hS λx=>(h x).symm⟩
def yo7:Sp:=λvs H Q _=>∃(la:Addr) (n:Nat) (mas:List Addr) (ts:List (List Nat)),vs=[.int n,.ref la]/\0<n/\n<=60/\H la=some (.lst (mas.map V.ref))/\Q6 H mas ts/\ts.length<=200/\(∀t∈ts,TM.IsT n t)/\∀H':Hp,y8 H H'->Q .non H'
theorem zp0:u6 ["many","makers"] ["many","makers"] (x9 J4):=scq
theorem xe7 (n:Nat):(List.replicate n true).all id=true:=by
 induction n with
 | zero=>rfl
 | succ n ih=>rw[ck,eO,ih];rfl
theorem xb4 {H:Hp}{a:Addr}{t:List Nat}(h:H a=some (.tup (tI t))):Dt H (.ref a) (.tuple (t.map λ(x:Nat)=>PyData.int x)):=.tup h (zt9 t)
theorem yf8 {n:Nat}{t:List Nat}(h:TM.IsT n t)(h1:0<n)(a:n<=60):(d6 (.tuple (t.map λ(x:Nat)=>PyData.int x))&&decide ((t.map λ(x:Nat)=>PyData.int x).length=n))=true:=by
 rw[yu4 h h1 a,aa,h.length,decide_eq_true rfl];rfl
theorem zo6 (D:Def K mg "need_group" J4 ["many","makers"] f fd)(B:Blt mg)(I:n5 P w K mg base 1 "is_whole" ["thing"] zm9)(KT:n5 P w K mg base 3 "is_turning_of" ["thing","many"] O7)(G:zn3 mg "MOST_PLACES" (.int 60))(C:zn3 mg "MOST_MAKERS" (.int 200)):o8 P w K mg base CX0 4 f fd ["many","makers"] yo7:=by
 refine D.F.ok zp0 (λS H Q E h=>?_) (λJ A o s H S Q E z h=>?_)
 .obtain⟨m,n,a,ts,rfl,_⟩:=h;rfl
 obtain⟨m,n,a,ts,rfl,k,M,b,g,y,hT,q⟩:=h;have d:a.length=ts.length:=Paired.length g;refine⟨_,z6 (o3 (PW.pt (yd3 (E2 (P8 (o6 I z rfl (z0 (pv 0) z4)))) (zl8 (E2 (yd2 yn3 yn3 z8 (pv 0) (zf0 G rfl)))))) (z7 zl5) u5)
  (z6 (o3 (PW.pt (yd3 (E2 (P8 (w6 W6 rfl B.isinstance Z7 (z0 (pv 1) (z0 (D5 (v:=.ty "list") rfl B.list W1 rfl) z4))))) (zl8 (u8 zr5 (w6 y6 rfl B.len p4 (z0 (pv 1) z4)) (zf0 C rfl) (r6 _))))) (z7 zl5) u5)
  (z7 (o3 (E2 (P8 (w6 (D0 rfl) rfl B.all zt3 (z0 (c5 [0] ["maker","many"] rfl (c9 (pv 1)) (λ_ _ _ _=>o6 KT z rfl (z0 (pv 0) (z0 (pv 1) z4)))) z4)))) (z7 zl5) u5))),?_⟩
 refine⟨_,rfl,_,.int n,rfl,.int _,_,rfl,o9 ⟨_,rfl,_,_,rfl,rfl,_,rfl,?_⟩⟩;rw[decide_eq_true (show(1:Int)<=((n:Nat):Int) by lia)];refine m7 ⟨_,_,rfl,rfl,_,rfl,?_⟩;rw[decide_eq_true (show((n:Nat):Int)<=(60:Int) by lia)];refine o9 ⟨_,rfl,_,_,_,_,rfl,G4.lst b,B1 zu9,_,rfl,o9 ?_⟩;refine⟨_,rfl,m,_,rfl,.inl (SqL.of b),_,_,rfl,rfl,_,rfl,?_⟩;rw[aa,d,decide_eq_false (show ¬((ts.length:Nat):Int) > (200:Int) by lia)];refine o9 ?_;refine⟨_,rfl,m,rfl,⟨_,SqL.of b⟩,zq1 (SqL.of b) ((List.replicate a.length true).map V.bl) (by rw[aa,bT,aa]) (by rw[aa,d];exact small (by lia)) ?_ ?_⟩
 .intro i H' x O s' _ _ _ _;obtain⟨c,u,rfl⟩:=yd5 O;obtain⟨t,N,j⟩:=paired_at2 g i c u;have hi:i<a.length:=(aw.mp u).1;have e:=hT t (ax N);refine⟨_,rfl,_,rfl,.ref c,_,n,rfl,xb4 (s' _ _ j),λds L=>?_,λr p=>⟨p,?_⟩⟩
  .cases L
   rw[aa,e.length];lia
  .show((List.replicate a.length true).map V.bl)[i]?=some (V.bl (d6 (.tuple (t.map λ(x:Nat)=>PyData.int x))&&decide ((t.map λ(x:Nat)=>PyData.int x).length=n)));rw[yf8 e k M,af,eh,if_pos hi];rfl
 .intro R r _ p l;refine⟨R,_,rfl,SqL.of l,_,rfl,?_⟩;rw[xe7];exact o9 (q r p)
def ye6 (cG cC cB cS:Addr):Sp:=λvs H Q _=>∃(x dx la:Addr) (n:Nat) (mas:List Addr) (ts:List (List Nat)),vs=[.ref x,.int n,.ref la]/\H x=some (.ins cG dx [])/\0<n/\n<=60/\H la=some (.lst (mas.map V.ref))/\Q6 H mas ts/\ts.length<=200/\(∀t∈ts,TM.IsT n t) /\
 ∀(S:ChS) (H':Hp),u3 [x] H H'->W0 cG cC cB cS n H' x ts S->(∀(y:Addr) (H2:Hp),H y≠none->y≠x->(∀xs,H' y≠some (.tup xs))->u3 [y] H' H2->W0 cG cC cB cS n H2 x ts S)->Q .non H'
theorem V8:u6 ["self","many","makers","number","maker"] ["self","many","makers"] (x9 T0):=scq
theorem zn9 {cG cC cB cS:Addr}(F:Fun K "__init__" "Group.__init__" T0 f fd)(B:Blt mg)(L:Y4 K cG B0)(cc:Y4 K cC U7)(KN:n5 P w K mg base 4 "need_group" ["many","makers"] yo7)(KC:yp9 P w K mg base 4 cC "Chain" ["self","many"] (ye3 cC cB cS))
  (MT:Q5 P w K mg base 6 cC "take" ["self","number","maker"] (xc9 cC cB cS)):o8 P w K mg base CX0 7 f fd ["self","many","makers"] (ye6 cG cC cB cS):=by
 refine F.ok V8 (λvs H Q E h=>?_) (λdh Ar cf sh H vs Q E hr h=>?_)
 .obtain⟨x,dx,la,n,g,ts,rfl,_⟩:=h;rfl
 obtain⟨x,dx,la,n,g,ts,rfl,hx,O,hn,ab,I,G,hT,q⟩:=h;have al:g.length=ts.length:=Paired.length I;refine⟨_,z6 (i3 (o6 KN hr rfl (z0 (pv 1) (z0 (pv 2) z4))))
  (z6 (V5 (pv 0) (pv 1) rfl)
  (z6 (V5 (pv 0) (r8 i6 rfl B.tuple Y2 (z0 (pv 2) z4)) rfl)
  (z6 (V5 (pv 0) (zw8 KC hr rfl (z0 (pv 1) z4)) rfl)
  (z7 (l9 PassesOwn.never rfl (yc9 rfl B.enumerate (z0 (q9 (pv 0) rfl) z4)) (zd3 rfl (h8 (p6 (i:=3) V8.nd rfl (Or.inl rfl)) (h8 (p6 (i:=4) V8.nd rfl (Or.inl rfl)) K4)))
   (z7 (i3 (X2 cc.cls MT hr (q9 (pv 0) rfl) (z0 (pv 3) (z0 (pv 4) z4)))))))))),?_⟩
 refine⟨_,rfl,_,rfl,la,n,g,ts,rfl,O,hn,ab,I,G,hT,λH0 s0=>?_⟩;refine⟨_,rfl,_,rfl,x,cG,dx,[],rfl,s0 _ _ hx,L.cls,L.no "many" (by decide),by decide,?_⟩;obtain⟨H1,g1,f1,x1⟩:=b6 (H:=H0) (x:=x) (cS:=cG) (dx:=dx) (f:="many") (v:=V.int n) (fs:=[]) (fs':=[("many",.int n)]) rfl;rw[g1];have F1:u3 [x] H H1:=(y8.frame s0).trans f1;have nx:∀{b:Addr} {o:HO},H b=some o->o≠.ins cG dx []->b≠x:=λ{b o} h d z=>by
  subst z;rw[hx]at h;exact d (Option.some.inj h).symm
 have ak:=F1.keep ab (nx ab (by intro z;cases z));refine⟨_,rfl,la,_,rfl,.inl ⟨SqL.of ak,λu ad=>?_⟩⟩;have s2:=y4 ad (.tup (g.map V.ref));have m2:(upd H1 u (.tup (g.map V.ref))) u=some (.tup (g.map V.ref)):=z3;generalize upd H1 u (.tup (g.map V.ref))=H2 at s2 m2 ⊢;have av:u≠x:=λz=>by subst z;rw[x1]at ad;cases ad
 refine⟨_,rfl,x,cG,dx,_,rfl,s2 _ _ x1,L.cls,L.no "makers" (by decide),by (show 1<1000;decide),?_⟩;obtain⟨H3,g3,f3,x3⟩:=b6 (H:=H2) (x:=x) (cS:=cG) (dx:=dx) (f:="makers") (v:=V.ref u) (fs:=[("many",.int n)]) (fs':=[("many",.int n),("makers",.ref u)]) rfl;rw[g3];have F3:u3 [x] H H3:=(F1.trans (y8.frame s2)).trans f3;have m3:=f3.keep m2 av;refine⟨_,rfl,λc dc hc aj dn=>⟨c,dc,n,rfl,z3,hn,λA H4 bn Z bk bf=>⟨rfl,?_⟩⟩⟩;have s4:y8 H3 H4:=λb o h=>bk b o (by simpa using y9 h hc) (by rw[y0 (y9 h hc),y0 (y9 h aj)];exact h);have D:∀a∈A.all,H3 a=none:=λa ha=>by
  by_cases e:a=c
  .rw[e];exact hc
  .have:=Z a ha e;rw[y0 e]at this;by_cases e2:a=dc
   .rw[e2];exact aj
   .rwa [y0 e2]at this
 subst bn;refine⟨_,rfl,x,cG,dx,_,rfl,s4 _ _ x3,L.cls,L.no "chain" (by decide),by (show 2<1000;decide),?_⟩;obtain⟨H5,g5,f5,x5⟩:=b6 (H:=H4) (x:=x) (cS:=cG) (dx:=dx) (f:="chain") (v:=V.ref A.c) (fs:=[("many",.int n),("makers",.ref u)]) (fs':=[("many",.int n),("makers",.ref u),("chain",.ref A.c)]) rfl;rw[g5];have F5:u3 [x] H H5:=(F3.trans (y8.frame s4)).trans f5;have m5:=f5.keep (s4 _ _ m3) av;have W:Q6 H5 g ts:=Paired.imp' (λb t e=>F5.keep e (nx e (by intro z;cases z))) I;have xA:x∉A.all:=λz=>by
  have:=D x z;rw[x3]at this
  cases this
 have bg:p9 cC cB cS n H5 A (ChS.new n (λk=>ts.getD k [])):=(bf _).keep f5 λy hy=>by
  rw[ar.mp hy];exact⟨xA,λxs z=>by rw[s4 _ _ x3]at z;cases z⟩
 have R:∀{b:Addr} {o:HO},H b=some o->b∉A.all:=λ{b o} h hb=>by
  by_cases e:b=x
  .exact xA (e ▸ hb)
  .have:=D b hb;rw[F3.keep h e]at this
   cases this
 have ap:u∉A.all:=λz=>by
  have:=D u z;rw[m3]at this
  cases this
 refine⟨_,rfl,x,cG,dx,_,_,rfl,x5,L.cls,L.no "makers" (by decide),rfl,u,rfl,⟨_,SqT.of m5⟩,ya4 (xs:=g.map V.ref) (λi σ M=>∃(S:ChS) (v3 v4:Option V),σ=[some (.ref x),some (.int n),some (.ref la),v3,v4]/\u3 A.all H5 M/\p9 cC cB cS n M A S/\S.Set n/\S.Full (1+i)/\i<=ts.length/\(S.src=λk=>ts.getD k [])/\∀y,TM.Grp n (S.chn.mv 0) y↔TM.Grp n (λz=>z∈ts.take i) y)
  ⟨ChS.new n (λk=>ts.getD k []),none,none,rfl,u3.refl,bg,⟨ChS.new_inv n,λi _=>ChS.new_done n i⟩,⟨by show 1<=_;lia,by show 1<=_;lia⟩,aY _,rfl,λy=>?_⟩ (λi σ M _ ⟨_,_,_,_,j,_⟩=>SqT.of (j _ _ ap m5)) ?_ ?_⟩
 .have bw:∀s,(ChS.new n (λk=>ts.getD k [])).chn.mv 0 s↔s∈ts.take 0:=λs=>⟨λh=>absurd h (ChS.new_nomv n 0 s),λh=>by rw[dM]at h;cases h⟩;rw[show(ChS.new n (λk=>ts.getD k [])).chn.mv 0=λz=>z∈ts.take 0 from funext λs=>propext (bw s)]
 .rintro i v σ M T hv ⟨S,v3,v4,rfl,j,N,l,r,bu,p,m⟩ bq;obtain⟨tr,an,rfl⟩:=yd5 hv;obtain⟨t,ht,ca⟩:=paired_at2 W i tr an;have bv:i<ts.length:=(aw.mp ht).1;have am:=hT t (ax ht);have s7:=y4 bq (.tup [V.int ((i:Nat):Int),V.ref tr]);refine⟨T,_,rfl,SqT.of z3,rfl,_,_,rfl,_,_,rfl,rfl,?_⟩;generalize upd M T (.tup [V.int ((i:Nat):Int),V.ref tr])=H7 at s7 ⊢;have ah:=N.same s7;obtain⟨bi,bs⟩:=ah.c;have x7:=s7 _ _ (j _ _ xA x5);have ci:tr∉A.all:=λz=>by
   obtain⟨t0,b',J⟩:=paired_at2 I i tr an;exact R J z
  have t7:=s7 _ _ (j _ _ ci ca);refine⟨_,rfl,x,cG,dx,_,_,rfl,x7,L.cls,L.no "chain" (by decide),rfl,A.c,bi,_,rfl,bs,rfl,_,rfl,_,rfl,A,S,n,1+i,i,tr,t,rfl,ah,l,O,hn,by lia,r,t7,am,(λ_=>by rw[p];show ts.getD i []=t;rw[ae,ht];rfl),λb S' H8 bm bh as au C ai _=>?_⟩;refine⟨S',_,_,rfl,(j.trans (y8.frame s7)).trans bm,bh,as,⟨by have:=C.ln;lia,by have:=C.bl;lia⟩,bv,au.trans p,λy=>?_⟩;have bo:∀s,S.chn.mv 0 s->TM.IsT n s:=l.inv.ok.mvT 0;have bp:∀s,s∈ts.take i->TM.IsT n s:=λs hs=>hT s (bI hs);rw[ai y,yy1 bo bp am m y,be,ht];have e:(λz=>z∈ts.take i++(some t).toList)=λz=>z∈ts.take i∨z=t:=by
   funext z;simp
  rw[e]
 .rintro σ M ⟨S,v3,v4,rfl,j,N,l,r,bu,p,m⟩;have U:S.ln.length<=4000000:=by
   have q1:=r.ln;have q2:=l.inv.looks_le hn;rw[aa,al]at q1;lia
  rw[aa,al,aT]at m;have x6:=j _ _ xA x5;have m6:=j _ _ ap m5;have X:Q6 M g ts:=P3 W λb hb t e=>j _ _ (λz=>by
   obtain⟨i,hi,e2⟩:=bt.mp hb
   obtain⟨t0,b',J⟩:=paired_at2 I i b (by rw[ac hi,e2])
   exact R J z) e
  refine q S M (λb o hb h=>j b o (R h) (F5 b o hb h)) ⟨O,hn,⟨dx,u,A,g,x6,m6,X,N⟩,l,G,hT,m,p,U⟩ λy H7 hy cd ao Y=>?_;obtain⟨oy,bx⟩:∃o,H y=some o:=Option.ne_none_iff_exists'.mp hy;have kt:∀{b:Addr} {xs:List V},M b=some (.tup xs)->H7 b=some (.tup xs):=λ{b xs} h=>Y.keep h (λz=>ao xs (z ▸ h));exact⟨O,hn,⟨dx,u,A,g,Y.keep x6 (Ne.symm cd),kt m6,Paired.imp' (λ_ _ z=>kt z) X,N.keep Y λz hz=>by
   rw[ar.mp hz]
   exact⟨R bx,ao⟩⟩,l,G,hT,m,p,U⟩
def yo5 (cG cC cB cS:Addr):Sp:=λvs H Q _=>∃(g:Addr) (n:Nat) (ts:List (List Nat)) (S:ChS),vs=[.ref g]/\W0 cG cC cB cS n H g ts S/\Q (.int ((S.chn.many n n:Nat):Int)) H
theorem zo8:u6 ["self"] ["self"] (x9 K8):=scq
theorem zo0 {cG cC cB cS:Addr}(F:Fun K "size" "Group.size" K8 f fd)(B:Blt mg)(e:Y4 K cG B0)(k:Y4 K cC U7)(j:Q5 P w K mg base 1 cC "size" ["self"] (yj7 cC cB cS)):o8 P w K mg base CX0 2 f fd ["self"] (yo5 cG cC cB cS):=by
 refine F.ok zo8 (λr H Q E h=>?_) (λl s d sh H r Q E o h=>?_)
 .obtain⟨g,n,ts,S,rfl,_⟩:=h;rfl
 obtain⟨g,n,ts,S,rfl,b,q⟩:=h;obtain⟨dx,u,A,p,h1,h2,t,i⟩:=b.at';obtain⟨a,m⟩:=i.c;refine⟨_,z7 (u4 (zl0 k.cls j o (q9 (pv 0) rfl))),?_⟩;exact⟨_,rfl,g,cG,dx,_,_,rfl,h1,e.cls,e.no "chain" (by decide),rfl,A.c,a,_,rfl,m,rfl,A,S,n,rfl,i,b.st.inv,b.n60,q⟩
def xl0 (cG cC cB cS:Addr):Sp:=λvs H Q _=>∃(g tr:Addr) (n:Nat) (ts:List (List Nat)) (S:ChS) (t:List Nat),vs=[.ref g,.ref tr]/\W0 cG cC cB cS n H g ts S/\H tr=some (.tup (tI t))/\TM.IsT n t/\∀(b:Bool) (H':Hp),y8 H H'->(b=true↔TM.Grp n (λz=>z∈ts) t)->Q (.bl b) H'
theorem zb0:u6 ["self","thing"] ["self","thing"] (x9 R3):=scq
theorem zk3 {cG cC cB cS:Addr}(F:Fun K "has" "Group.has" R3 f fd)(B:Blt mg)(k:Y4 K cG B0)(v:Y4 K cC U7)(KT:n5 P w K mg base 3 "is_turning_of" ["thing","many"] O7)(u:Q5 P w K mg base 3 cC "holds" ["self","turning","level"] (D6 cC cB cS)):o8 P w K mg base CX0 4 f fd ["self","thing"] (xl0 cG cC cB cS):=by
 refine F.ok zb0 (λJ H Q E h=>?_) (λy L p sh H J Q E s h=>?_)
 .obtain⟨g,r,n,ts,S,t,rfl,_⟩:=h;rfl
 obtain⟨g,r,n,ts,S,t,rfl,a,e,b,q⟩:=h;obtain⟨dx,N,A,G,h1,h2,M,z⟩:=a.at';refine⟨_,z7 (u4 (zw6 (o6 KT s rfl (z0 (pv 1) (z0 (q9 (pv 0) rfl) z4))) (zl1 (X2 v.cls u s (q9 (pv 0) rfl) (z0 (pv 1) (z0 z8 z4)))))),?_⟩;refine⟨_,rfl,_,rfl,g,cG,dx,_,_,rfl,h1,k.cls,k.no "many" (by decide),rfl,.ref r,_,n,rfl,xb4 e,λds D=>?_,λH1 l=>?_⟩
 .cases D
  rw[aa,b.length];have:=a.n60;lia
 have d:=z.same l;obtain⟨m,C⟩:=d.c;have o:=a.st.inv.holds (j:=0) (aY _) (λi _ hi=>a.st.done i hi) b (TM.Fix.zero t);refine⟨(d6 (.tuple (t.map λ(x:Nat)=>PyData.int x))&&decide ((t.map λ(x:Nat)=>PyData.int x).length=n)),rfl,?_⟩;rw[yf8 b a.n0 a.n60];refine m7 ⟨_,rfl,g,cG,dx,_,_,rfl,l _ _ h1,k.cls,k.no "chain" (by decide),rfl,A.c,m,_,rfl,C,rfl,_,rfl,A,S,n,0,r,t,rfl,d,a.st.inv.fine.wl,l _ _ e,b,aY _,a.n60,λH2 I=>?_⟩;exact q _ H2 (l.trans I) (o.trans (a.grp t))
def J8 (n:Nat)(d:PyData):Bool:=d6 d&&match d with | .tuple ds=>decide (ds.length=n)|_=>false
def xc2 (cG cC cB cS:Addr):Sp:=λvs H Q _=>∃(g:Addr) (x:V) (n:Nat) (ts:List (List Nat)) (S:ChS) (d:PyData),vs=[.ref g,x]/\W0 cG cC cB cS n H g ts S/\Dt H x d/\(∀ds,d=.tuple ds->ds.length<=100)/\J8 n d=false/\∀H':Hp,y8 H H'->Q (.bl false) H'
theorem zk2 {cG cC cB cS:Addr}(F:Fun K "has" "Group.has" R3 f fd)(B:Blt mg)(b:Y4 K cG B0)(i:Y4 K cC U7)(KT:n5 P w K mg base 3 "is_turning_of" ["thing","many"] O7)(e:Q5 P w K mg base 3 cC "holds" ["self","turning","level"] (D6 cC cB cS)):o8 P w K mg base CX0 4 f fd ["self","thing"] (xc2 cG cC cB cS):=by
 refine F.ok zb0 (λr H Q E h=>?_) (λj s a sh H r Q E c h=>?_)
 .obtain⟨g,x,n,ts,S,d,rfl,_⟩:=h;rfl
 obtain⟨g,x,n,ts,S,d,rfl,k,l,hl,m,q⟩:=h;obtain⟨dx,v,A,o,h1,h2,t,u⟩:=k.at';refine⟨_,z7 (u4 (zw6 (o6 KT c rfl (z0 (pv 1) (z0 (q9 (pv 0) rfl) z4))) (zl1 (X2 i.cls e c (q9 (pv 0) rfl) (z0 (pv 1) (z0 z8 z4)))))),?_⟩;refine⟨_,rfl,_,rfl,g,cG,dx,_,_,rfl,h1,b.cls,b.no "many" (by decide),rfl,x,d,n,rfl,l,hl,λH1 p=>?_⟩;refine⟨J8 n d,rfl,?_⟩;rw[m];exact o9 (q H1 p)
theorem o8.or {P:gq}{w:gv}{K:W.Frag}{mg:Str->Option Value}{base:Heap}{k:Nat}{f:Addr}{fd:gD}{ps:List Str}{sp sp':Sp}(a:o8 P w K mg base CX0 k f fd ps sp)(b:o8 P w K mg base CX0 k f fd ps sp'):o8 P w K mg base CX0 k f fd ps (λvs H Q E=>sp vs H Q E∨sp' vs H Q E) where
 len:=λvs H Q E h=>h.elim (a.len vs H Q E) (b.len vs H Q E)
 run:=λA outer s H args us vs Q E hr I hb r h=>h.elim (a.run A outer s H args us vs Q E hr I hb r) (b.run A outer s H args us vs Q E hr I hb r)
def xc1 (cG cC cB cS:Addr):Sp:=λvs H Q E=>xl0 cG cC cB cS vs H Q E∨xc2 cG cC cB cS vs H Q E
theorem zv6 {cG cC cB cS:Addr}(F:Fun K "has" "Group.has" R3 f fd)(B:Blt mg)(cg:Y4 K cG B0)(cc:Y4 K cC U7)(KT:n5 P w K mg base 3 "is_turning_of" ["thing","many"] O7)(MH:Q5 P w K mg base 3 cC "holds" ["self","turning","level"] (D6 cC cB cS)):o8 P w K mg base CX0 4 f fd ["self","thing"] (xc1 cG cC cB cS):=o8.or (zk3 F B cg cc KT MH) (zk2 F B cg cc KT MH)
theorem yy6 (a:List Int):PyData.canLayAll0 (a.map PyData.int)=true/\PyData.depthAll (a.map PyData.int)<=1:=by
 induction a with
 | nil=>simp[PyData.canLayAll0,PyData.depthAll]
 | cons n r ih =>
  obtain⟨h1,h2⟩:=ih;refine⟨by simp[PyData.canLayAll0,PyData.canLay0,h1],?_⟩;simp only[aJ,PyData.depthAll,PyData.depth];lia
section
variable {cG cC cB cS:Addr}{n:Nat}{H:Hp}{g:Addr}{ts:List (List Nat)}{S:ChS}
theorem W0.shut' (ga:W0 cG cC cB cS n H g ts S):∀i,i<n->S.chn.Shut n i:=λi hi=>ga.st.inv.shut (ga.st.done i hi)
theorem W0.many_g (ga:W0 cG cC cB cS n H g ts S):S.chn.many n n=TM.gMany n (TM.Grp n λz=>z∈ts) n:=ga.st.inv.ok.many_g ga.shut' ga.grp n (aq _)
end
def zm5 (K:W.Frag):Sp:=λvs H Q _=>∃(a:Addr) (ns:List Int) (k:Nat),vs=[.ref a,.int k]/\SqL K H a (ns.map V.int)/\Q (.int (ns.getD k 0)) H
theorem zx6:u6 ["_law_script","_law_k"] ["_law_script","_law_k"] (x9 E3):=scq
theorem zv8 (D:Def K mg "_law_cell" E3 ["_law_script","_law_k"] f fd)(B:Blt mg):o8 P w K mg base CX0 1 f fd ["_law_script","_law_k"] (zm5 K):=by
 refine D.F.ok zx6 (λl H Q E h=>?_) (λj A g s H l Q E m h=>?_)
 .obtain⟨a,b,k,rfl,_⟩:=h;rfl
 obtain⟨a,b,k,rfl,hS,q⟩:=h;refine⟨_,z6 (o3 (u8 xk8 (pv 1) (w6 y6 rfl B.len p4 (z0 (pv 0) z4)) (r6 _)) (z7 (u4 (p5 t4 (pv 0) (pv 1) (λ_ _=>rfl)))) u5) (z7 (u4 z8)),?_⟩;refine⟨_,rfl,_,rfl,a,_,rfl,.inl hS,_,_,rfl,rfl,_,rfl,?_⟩;refine xg6 (λc=>?_) (λc=>?_)
 .have d:(k:Int)<(((b.map V.int).length:Nat):Int):=of_decide_eq_true c;rw[aa]at d;have i:k<b.length:=by lia
  have e:b.getD k 0=b[k]:=by rw[ae,ac i];rfl
  rw[e]at q;exact⟨_,rfl,_,rfl,a,_,_,_,rfl,rfl,hS,l8 (by rw[af,ac i];rfl),q⟩
 .have d:¬(k:Int)<(((b.map V.int).length:Nat):Int):=of_decide_eq_false (cw.mpr c);rw[aa]at d;have e:b.getD k 0=0:=by rw[ae,aR (by lia)];rfl
  rw[e]at q;exact q
def E8:Sp:=λvs H Q _=>∃(c:Int) (n:Nat),vs=[.int c,.int n]/\n<=100/\∀(r:Addr) (H':Hp) (row:List Nat),H r=none->y8 H H'->TM.IsT n row->H' r=some (.tup (tI row))->Q (.ref r) H'
theorem n4:u6 ["_law_cell_here","_law_many","_law_whole","_law_k","_law_left","_law_found"] ["_law_cell_here","_law_many"] (x9 O1):=scq
theorem zg0 (D:Def K mg "_law_turning" O1 ["_law_cell_here","_law_many"] f fd)(B:Blt mg):o8 P w K mg base CX0 1 f fd ["_law_cell_here","_law_many"] E8:=by
 refine D.F.ok n4 (λZ H Q E h=>?_) (λO A M s H Z Q E hr h=>?_)
 .obtain⟨c,n,rfl,_⟩:=h;rfl
 obtain⟨c,n,rfl,hn,q⟩:=h;refine⟨_,z6 (v0 (i:=2) n4.nd rfl (Or.inl rfl) z8)
  (z6 (l9 PassesOwn.never rfl (zr7 rfl B.range (z0 z8 (z0 (w8 l7 (pv 1) z8) z4))) (p6 (i:=3) n4.nd rfl (Or.inl rfl))
   (z7 (v0 (i:=2) n4.nd rfl (Or.inl rfl) (w8 P7 (pv 2) (pv 3)))))
  (z6 (v0 (i:=0) n4.nd rfl (Or.inl rfl) (w8 p8 (pv 0) (pv 2)))
  (z6 (v0 (i:=4) n4.nd rfl (Or.inl rfl) (r8 (Z8 rfl) rfl B.list W1 (z0 (r8 U6 rfl B.range S9 (z0 (pv 1) z4)) z4)))
  (z6 (v0 (i:=5) n4.nd rfl (Or.inl rfl) (m9 z4))
  (z6 (l9 PassesOwn.never rfl (yt1 rfl B.range (z0 (pv 1) (z0 z8 (z0 (yn5 zy6 z8) z4)))) (p6 (i:=3) n4.nd rfl (Or.inl rfl))
   (z6 (i3 (Q3 PySem.F.plainAttrs_list PySem.F.slot_list_append PySem.F.type_list_append i8 (pv 5) (z0 (Q3 PySem.F.plainAttrs_list PySem.F.slot_list_pop PySem.F.type_list_pop yz6 (pv 4) (z0 (w8 p8 (pv 0) (pv 3)) z4)) z4)))
   (z7 (v0 (i:=0) n4.nd rfl (Or.inl rfl) (w8 g6 (pv 0) (pv 3))))))
  (z7 (u4 (r8 i6 rfl B.tuple Y2 (z0 (pv 5) z4))))))))),?_⟩
 refine⟨_,rfl,_,_,rfl,rfl,2,_,rfl,⟨by decide,by decide,by lia,by lia⟩,b5 (lo:=2) (n:=((n:Int)+1-2).toNat) (λi σ H2=>∃(z:Int) (g:Option V),σ=[some (.int c),some (.int n),some (.int z),g,none,none]/\H2=H/\0<z)
  ⟨1,none,rfl,rfl,by decide⟩ ?_ ?_⟩
 .rintro i σ H2 hi ⟨z,g,rfl,rfl,L⟩;refine⟨_,rfl,_,rfl,_,_,rfl,rfl,.inr ⟨by lia,by lia⟩,z*(2+(i:Int)),_,rfl,rfl,?_⟩;exact Int.mul_pos L (by lia)
 rintro σ H2 ⟨z,g,rfl,rfl,L⟩;refine⟨_,rfl,_,rfl,_,_,rfl,rfl,L,?_⟩;dsimp only;generalize c % z=num;refine⟨_,rfl,_,rfl,λp T=>⟨p,0,(n:Int),rfl,z3,⟨by lia,by lia,by lia,by lia,by lia⟩,λl hl=>?_⟩⟩;rw[show((n:Int)-0).toNat=n by lia,O8];refine⟨(by show 0<=gn;decide),λr v=>?_⟩;have pl:p≠l:=y9 z3 hl;have C:l≠r:=y9 z3 v;have t:H2 l=none:=by
  have:=hl;rwa [y0 (Ne.symm pl)]at this
 have x:H2 r=none:=by
  have h1:=v;have W:p≠r:=by
   intro e;subst e;rw[y0 pl,z3]at h1
   cases h1
  rwa [y0 (Ne.symm C),y0 (Ne.symm W)]at h1
 have X:y8 H2 (upd (upd (upd H2 p (.rng 0 (n:Int))) l (.lst (tI (List.range n)))) r (.lst [])):=p7 (p7 (y4 T _) t _) x _;refine⟨_,rfl,_,rfl,(n:Int),0,rfl,⟨by lia,by lia,by lia,by lia⟩,yh0 (lo:=(n:Int)) (n:=((n:Int)-0).toNat) (λi σ o=>∃(b:Int) (a left:List Nat) (g:Option V),σ=[some (.int b),some (.int n),some (.int z),g,some (.ref l),some (.ref r)]/\y8 H2 o/\o l=some (.lst (tI left))/\o r=some (.lst (tI a))/\TM.IsT n (a++left)/\left.length+i=n)
  ⟨num,[],List.range n,g,rfl,X,by rw[y0 C,z3],z3,TM.IsT.range n,by rw[aA];rfl⟩ ?_ ?_⟩
 .rintro i σ o hi ⟨b,a,left,g,rfl,G,j,d,hT,u⟩;have S:i<n:=by lia
  have m:(0:Int)<(n:Int)-(i:Int):=by lia
  have R:∃k:Nat,b % ((n:Int)-(i:Int))=(k:Int)/\k<left.length:=by
   have h1:=bh b (show(n:Int)-(i:Int)≠0 by lia);have h2:=cH b m;exact⟨(b % ((n:Int)-(i:Int))).toNat,by lia,by lia⟩
  obtain⟨k,I,J⟩:=R;have N:left[k]?=some left[k]:=ac J;have U:a.length<=n:=by
   have:=hT.length;rw[ag]at this;lia
  refine⟨_,rfl,.inl ⟨rfl,_,SqL.of d⟩,_,rfl,.inl ⟨rfl,_,SqL.of j⟩,_,rfl,_,rfl,_,_,rfl,rfl,m,l,_,_,k,V.int (left[k]:Int),rfl,rfl,j,?_,?_,?_,xd5 N,r,tI a,_,rfl,rfl,?_,?_,?_⟩
  .show -(2 ^ 63)<=b % ((n:Int)-(i:Int));rw[I];lia
  .show b % ((n:Int)-(i:Int))<2 ^ 63;rw[I];lia
  .show seqIndex? (b % ((n:Int)-(i:Int))) (tI left).length=some k;rw[I,z9];exact xi8 J
  .rw[y0 (Ne.symm C)];exact d
  .rw[z9];exact T5 (by lia)
  .refine⟨_,rfl,_,rfl,_,_,rfl,rfl,⟨m,by lia⟩,?_⟩;refine⟨_,a++[left[k]],left.eraseIdx k,_,rfl,p7 (p7 G t _) x _,?_,?_,TM.draw_perm hT N,?_⟩
   .rw[y0 C,z3,yf3]
   .rw[z3,b8];rfl
   .rw[fm J];lia
 .rintro σ o ⟨b,a,left,g,rfl,G,j,d,hT,u⟩;have e:left=[]:=cP.mp (by lia);subst e;rw[bN]at hT;exact⟨_,rfl,r,tI a,rfl,.inl ⟨SqL.of d,λY y=>q Y _ a (G.free y) (G.trans (y4 y _)) hT z3⟩⟩
def zm6 (K:W.Frag):Sp:=λvs H Q _=>∃(a:Addr) (n x:Nat) (t:List Nat),vs=[.ref a,.int x]/\SqT K H a (tI t)/\TM.IsT n t/\x<n/\n<=100 /\
 ∀(r:Addr) (H':Hp),H r=none->y8 H H'->H' r=some (.lst (tI (TM.cyc t x)))->Q (.ref r) H'
theorem zb4:u6 ["_law_one","_law_place","_law_loop_here"] ["_law_one","_law_place"] (x9 E5):=scq
theorem yq9 {t:List Nat}{x k:Nat}{c:List Nat}(h:TM.Chain t x (k+1) c):atI (tI c) (-1)=some (V.int (TM.it t k x:Int)):=by
 rw[h.eq,eE,aO,b8];exact yv2 _ _
theorem zw0 (D:Def K mg "_law_loop" E5 ["_law_one","_law_place"] f fd)(B:Blt mg):o8 P w K mg base CX0 1 f fd ["_law_one","_law_place"] (zm6 K):=by
 refine D.F.ok zb4 (λvs H Q E h=>?_) (λM A v s H vs Q E hr h=>?_)
 .obtain⟨a,n,x,t,rfl,_⟩:=h;rfl
 obtain⟨a,n,x,t,rfl,C,hT,o,hn,q⟩:=h;refine⟨_,z6 (v0 (i:=2) zb4.nd rfl (Or.inl rfl) (m9 (z0 (pv 1) z4)))
  (z6 (zl6 PassesOwn.never (u8 zr6 (p5 Z9 (pv 0) (p5 t4 (pv 2) (yn5 zy6 z8) (λ_ _=>rfl)) (λ_ _=>rfl)) (pv 1) (r6 _))
   (z7 (i3 (Q3 PySem.F.plainAttrs_list PySem.F.slot_list_append PySem.F.type_list_append i8 (pv 2) (z0 (p5 Z9 (pv 0) (p5 t4 (pv 2) (yn5 zy6 z8) (λ_ _=>rfl)) (λ_ _=>rfl)) z4)))))
  (z7 (u4 (pv 2)))),?_⟩
 refine⟨_,rfl,(by show 1<=gn;decide),λl hl=>?_⟩;have s0:y8 H (upd H l (.lst [V.int x])):=y4 hl _;refine xd8 (λσ H2=>∃(k:Nat) (c:List Nat),σ=[some (.ref a),some (.int x),some (.ref l)]/\y8 H H2/\H2 l=some (.lst (tI c))/\TM.Chain t x (k+1) c)
  (λ(_:St) (H2:Hp)=>match H2 l with|some (.lst xs)=>TM.per t x-xs.length|_=>0)
  ⟨0,[x],rfl,s0,z3,TM.Chain.start t x⟩ ?_ ?_
 .rintro σ H2 ⟨k,c,rfl,p,h2,g⟩;have m:c.length=k+1:=by rw[g.eq,aa,aA]
  have ac:=g.le hT o;have ad:=(hT.per_spec o).2.1;have b:=yq9 g;have d:atI (tI t) ((TM.it t k x:Nat):Int)=some (V.int (TM.it t (k+1) x:Int)):=i5 (hT.get_step (hT.it_lt o k));refine⟨_,rfl,_,rfl,_,rfl,l,_,_,_,rfl,rfl,SqL.of h2,b,a,_,_,_,rfl,rfl,p.seqT C,d,_,rfl,rfl,_,rfl,?_⟩;by_cases e:TM.it t (k+1) x=x
  .rw[e,decide_eq_true rfl];refine o9 ?_;have Z:=g.done hT o e;subst Z;exact⟨_,rfl,q l H2 hl p h2⟩
  .have ne:¬(V.int (TM.it t (k+1) x:Int)=V.int x):=λz=>e (by injection z with z;lia);rw[decide_eq_false ne];refine m7 ?_;refine⟨_,rfl,.inl ⟨rfl,_,SqL.of h2⟩,_,rfl,_,rfl,_,rfl,l,_,_,_,rfl,rfl,SqL.of h2,b,a,_,_,_,rfl,rfl,p.seqT C,d,l,tI c,_,rfl,rfl,h2,by rw[z9,m];exact T5 (by lia),?_⟩;have j:=g.step e;have ab:=j.le hT o;refine⟨⟨k+1,c++[TM.it t (k+1) x],rfl,p7 p hl _,by rw[z3,b8];rfl,j⟩,?_⟩;simp only[z3,h2,z9,ag,aC,bV,m];lia
 .rintro σ H2 Q1 Q2 h ⟨G,N,I,O,J,R,l1,x1,x2,x3,S,T,sq,r,L,y1,y2,y3,U,W,y,u,z1,X,sc,k,Y,q1⟩;exact⟨G,N,I,O,J,R,l1,x1,x2,x3,S,T,sq,r,L,y1,y2,y3,U,W,y,u,z1,X,sc,k,Y,h _ _ q1⟩
theorem yc0 {c:Int}{k:Nat}(a:0<k):∃m:Nat,c % (k:Int)=(m:Int)/\m<k:=by
 have h1:=bh c (show(k:Int)≠0 by lia);have h2:=cH c (show(0:Int)<(k:Int) by lia);exact⟨(c % (k:Int)).toNat,by lia,by lia⟩
theorem R0 {lo:Int}{n:Nat}{fr:List Nat}{te:CT TE}{σ:St}{H1:Hp}{Q:Addr->Hp->Prop}(ys:List V)(hn:ys.length=n)(hz:n<=gn)
  (turn:∀i H,i<n->y8 H1 H->∀C₀ s₀ H₀ fp,te C₀ s₀ H₀ fp (some (.int (lo+i))::fr.map λj=>(σ[j]?).getD none) H λy H4=>y8 H H4/\ys[i]?=some y)
  (fin:∀D H,H1 D=none->y8 H1 H->H D=some (.lst ys)->Q D H) :
  ∀D,H1 D=none->∃W:Nat->Nat->St->Hp->Prop,(∃m,W 0 m (M2 1 fr σ) (upd H1 D (.lst [])))/\∀i m σ' H',W i m σ' H' ->
  ((Itr lo n).stop i H'/\Q D H')∨((Itr lo n).go i H'/\∀x H2,(Itr lo n).yld i H' x H2->∀C₀ s₀ H₀ fp,Z0 0 x σ' H2 λσ3 H3=>∃N:VK,te C₀ s₀ H₀ fp σ3 H3 N/\∀y H4,N y H4 ->
   ∃ys m',H4 D=some (.lst ys)/\ys.length<gn/\m'<m/\W (i+1) m' σ3 (upd H4 D (.lst (ys++[y])))) :=
 D1 ys hn hz (λ_ _=>aq n) (λi _ hi _=>hi) (λi H x H2 hi s y=>⟨y.1,by rw[y.2];exact turn i H hi s⟩) fin
def ye9:Sp:=λvs H Q _=>∃c:Int,vs=[.int c]/\∀z:Int,Q (.int z) H
theorem X0:u6 ["_law_cell_here","_law_number","_law_found","_law_turn"] ["_law_cell_here"] (x9 E7):=scq
theorem zw2 (D:Def K mg "_law_spun" E7 ["_law_cell_here"] f fd)(B:Blt mg):o8 P w K mg base CX0 1 f fd ["_law_cell_here"] ye9:=by
 refine D.F.ok X0 (λj H Q E h=>?_) (λg A d s H j Q E k h=>?_)
 .obtain⟨c,rfl,_⟩:=h;rfl
 obtain⟨c,rfl,q⟩:=h;refine⟨_,z6 (v0 (i:=1) X0.nd rfl (Or.inl rfl) (w8 p8 (w8 P7 (w8 l7 (w8 p8 (pv 0) z8) z8) z8) z8))
  (z6 (v0 (i:=2) X0.nd rfl (Or.inl rfl) z8)
  (z6 (l9 PassesOwn.never rfl (l5 rfl B.range (z0 z8 z4)) (p6 (i:=3) X0.nd rfl (Or.inl rfl))
   (z6 (v0 (i:=1) X0.nd rfl (Or.inl rfl) (w8 p8 (w8 l7 (w8 l7 (w8 P7 (pv 1) z8) (w8 P7 z8 (pv 3))) z8) z8))
   (z7 (v0 (i:=2) X0.nd rfl (Or.inl rfl) (w8 l7 (w8 P7 (pv 2) z8) (pv 1))))))
  (z7 (u4 (pv 2))))),?_⟩
 refine⟨_,rfl,_,_,rfl,rfl,(by show(0:Int)<2147483629;decide),_,_,rfl,rfl,_,_,rfl,rfl,.inr ⟨by decide,by decide⟩,_,_,rfl,rfl,(by show(0:Int)<2147483647;decide),?_⟩;refine⟨9,rfl,by decide,by decide,b5 (lo:=0) (n:=((9:Int)).toNat) (λi σ H2=>∃(a b:Int) (e:Option V),σ=[some (.int c),some (.int a),some (.int b),e]/\H2=H)
  ⟨_,_,none,rfl,rfl⟩ ?_ ?_⟩
 .rintro i σ H2 hi ⟨a,b,e,rfl,rfl⟩;refine⟨_,rfl,_,_,rfl,rfl,.inr ⟨by decide,by decide⟩,_,rfl,_,_,rfl,rfl,.inl ⟨by decide,by decide⟩,_,_,rfl,rfl,_,_,rfl,rfl,_,_,rfl,rfl,(by show(0:Int)<2147483647;decide),?_⟩;exact⟨_,rfl,_,_,rfl,rfl,.inr ⟨by decide,by decide⟩,_,rfl,_,_,rfl,rfl,_,_,_,rfl,rfl⟩
 .rintro σ H2 ⟨a,b,e,rfl,rfl⟩;exact⟨_,rfl,q b⟩
def O6:Sp:=λvs H Q _=>∃(pa wa:Addr) (n:Nat) (row W:List Nat),vs=[.ref pa,.ref wa,.int n]/\(H pa=some (.lst (tI row))∨H pa=some (.tup (tI row)))/\H wa=some (.lst (tI W))/\TM.IsT row.length row/\row.length<=W.length/\W.Nodup/\(∀x∈W,x<n)/\n<=60/\∀(r:Addr) (H':Hp),H r=none->y8 H H'->H' r=some (.tup (tI (TM.sp n (W.take row.length) row)))->Q (.ref r) H'
theorem O4:u6 ["_law_part","_law_window","_law_many","_law_found","_law_k"] ["_law_part","_law_window","_law_many"] (x9 M1):=scq
theorem zk5 (D:Def K mg "_law_spread" M1 ["_law_part","_law_window","_law_many"] f fd)(B:Blt mg):o8 P w K mg base CX0 1 f fd ["_law_part","_law_window","_law_many"] O6:=by
 refine D.F.ok O4 (λvs H Q E h=>?_) (λaa A O s H vs Q E hr h=>?_)
 .obtain⟨j,C,n,a,W,rfl,_⟩:=h;rfl
 obtain⟨j,C,n,a,W,rfl,J,L,y,ah,hW,hlt,hn,q⟩:=h;refine⟨_,z6 (v0 (i:=3) O4.nd rfl (Or.inl rfl) (r8 (Z8 rfl) rfl B.list W1 (z0 (r8 U6 rfl B.range S9 (z0 (pv 2) z4)) z4)))
  (z6 (l9 PassesOwn.never rfl (l5 rfl B.range (z0 (w6 y6 rfl B.len p4 (z0 (pv 0) z4)) z4)) (p6 (i:=4) O4.nd rfl (Or.inl rfl))
   (z7 (zl4 (p5 t4 (pv 1) (p5 xn8 (pv 0) (pv 4) (λ_ _=>rfl)) (λ_ _=>rfl)) (zd2 (pv 3) (p5 t4 (pv 1) (pv 4) (λ_ _=>rfl)) M7))))
  (z7 (u4 (r8 i6 rfl B.tuple Y2 (z0 (pv 3) z4))))),?_⟩
 refine⟨_,rfl,_,rfl,λp hp=>⟨p,0,(n:Int),rfl,z3,⟨by lia,by lia,by lia,by lia,by lia⟩,λl hl=>?_⟩⟩;rw[show((n:Int)-0).toNat=n by lia,O8];have pl:p≠l:=y9 z3 hl;have u:H l=none:=by
  have:=hl;rwa [y0 (Ne.symm pl)]at this
 have R:y8 H (upd (upd H p (.rng 0 (n:Int))) l (.lst (tI (List.range n)))):=p7 (y4 hp _) u _;have U:(upd (upd H p (.rng 0 (n:Int))) l (.lst (tI (List.range n)))) l=some (.lst (tI (List.range n))):=z3;generalize upd (upd H p (.rng 0 (n:Int))) l (.lst (tI (List.range n)))=H1 at R U ⊢;have m:∀b:Hp,y8 H b->SqL K b j (tI a)∨SqT K b j (tI a):=λb c=>J.elim (λe=>.inl (SqL.of (c _ _ e))) λe=>.inr (SqT.of (c _ _ e));have ag:W.length<=n:=by
  have:=TM.nodup_below hW hlt;exact this
 have r:(W.take a.length).Nodup:=List.Nodup.sublist (dU _ _) hW;have d:∀x∈W.take a.length,x<n:=λx hx=>hlt x (bI hx);have G:(W.take a.length).length=a.length:=by rw[aX];lia
 refine⟨_,rfl,j,_,rfl,m _ R,?_⟩;rw[z9];refine⟨_,rfl,by lia,by lia,b5 (lo:=0) (n:=((a.length:Nat):Int).toNat) (λi σ b=>∃(g:List Nat) (T:Option V),σ=[some (.ref j),some (.ref C),some (.int n),some (.ref l),T]/\y8 H b/\b l=some (.lst (tI g))/\TM.Sprd n (W.take a.length) a i g)
  ⟨List.range n,none,rfl,R,U,TM.Sprd.start⟩ ?_ ?_⟩
 .rintro i σ b hi ⟨g,T,rfl,c,k,sp⟩;rw[show(0:Int)+(i:Int)=(i:Int) by lia];have hi:i<a.length:=by lia
  have M:a[i]?=some a[i]:=ac hi;have N:a[i]<a.length:=y.lt (bY hi);have o:W[i]?=some W[i]:=ac (by lia);have t:W[a[i]]?=some W[a[i]]:=ac (by lia);have S:(W.take a.length)[i]?=some W[i]:=by rw[cr hi,o]
  have ey:a.getD i 0=a[i]:=TM.getD_of M;have ew:(W.take a.length).getD (a.getD i 0) 0=W[a[i]]:=by rw[ey];exact TM.getD_of (by rw[cr N,t])
  have I:W[i]<g.length:=by rw[sp.len];exact hlt _ (bY _)
  have Y:=c _ _ L;have st:=sp.step r d S;rw[ew]at st;refine⟨_,rfl,_,rfl,_,rfl,?_⟩;have Y3:∀(Z:VK),(∀v,v=V.int ((a[i]:Nat):Int)->Z v b)->rIx K (V.ref j) (V.int ((i:Nat):Int)) b Z:=λZ X=>(m _ c).elim (λe=>.inl ⟨j,_,_,_,rfl,rfl,e,i5 M,X _ rfl⟩) λe=>.inr (.inl ⟨j,_,_,_,rfl,rfl,e,i5 M,X _ rfl⟩);refine Y3 _ λv ev=>?_;subst ev;refine⟨C,_,_,_,rfl,rfl,SqL.of Y,i5 t,_,rfl,_,rfl,_,rfl,C,_,_,_,rfl,rfl,SqL.of Y,i5 o,l,tI g,_,W[i],rfl,rfl,k,by rw[z9];exact K1 I,?_⟩;exact⟨g.set W[i] W[a[i]],_,rfl,p7 c u _,by rw[z3,J7],st⟩
 .rintro σ b ⟨g,T,rfl,c,k,sp⟩;rw[aK]at sp;have eg:=TM.sprd_eq r d (by rw[G];exact sp);subst eg;exact⟨_,rfl,l,_,rfl,.inl ⟨SqL.of k,λtp z=>q tp _ (c.free z) (c.trans (y4 z _)) z3⟩⟩
theorem xn5:TM.IsT 2 [1,0]:=TM.isT_of rfl (by decide) (by decide)
def ye5:Sp:=λvs H Q _=>∃a b n:Nat,vs=[.int a,.int b,.int n]/\a<n/\b<n/\a≠b/\n<=60/\∀(r:Addr) (H':Hp),H r=none->y8 H H'->H' r=some (.tup (tI (TM.sp n [a,b] [1,0])))->Q (.ref r) H'
theorem zd8:u6 ["_law_one","_law_other_here","_law_many"] ["_law_one","_law_other_here","_law_many"] (x9 R8):=scq
theorem zc9 (D:Def K mg "_law_exchange" R8 ["_law_one","_law_other_here","_law_many"] f fd)(B:Blt mg)(l:n5 P w K mg base 1 "_law_spread" ["_law_part","_law_window","_law_many"] O6):o8 P w K mg base CX0 2 f fd ["_law_one","_law_other_here","_law_many"] ye5:=by
 refine D.F.ok zd8 (λG H Q E h=>?_) (λm A g s H G Q E z h=>?_)
 .obtain⟨a,b,n,rfl,_⟩:=h;rfl
 obtain⟨a,b,n,rfl,t,hb,d,u,q⟩:=h;refine⟨_,z7 (u4 (o6 l z rfl (z0 (m9 (z0 z8 (z0 z8 z4))) (z0 (m9 (z0 (pv 0) (z0 (pv 1) z4))) (z0 (pv 2) z4))))),?_⟩;refine⟨(by show 2<=gn;decide),λp y=>?_⟩;refine⟨_,rfl,_,rfl,(by show 2<=gn;decide),λv i=>?_⟩;have c:p≠v:=y9 z3 i;have e:H v=none:=by
  have:=i;rwa [y0 (Ne.symm c)]at this
 have k:y8 H (upd (upd H p (.lst [V.int 1,V.int 0])) v (.lst [V.int a,V.int b])):=p7 (y4 y _) e _;refine⟨_,rfl,p,v,n,[1,0],[a,b],rfl,.inl (by rw[y0 c,z3];rfl),z3,xn5,aq _,by simp[d],λx j=>?_,u,λr H' o C h2=>q r H' (k.free o) (k.trans C) h2⟩;simp only[ay,ba,or_false]at j;rcases j with rfl|rfl
 .exact t
 .exact hb
def zm7:Sp:=λvs H Q _=>∃(wa:Addr) (n:Nat) (W:List Nat),vs=[.ref wa,.int n]/\H wa=some (.lst (tI W))/\W≠[]/\W.Nodup/\(∀x∈W,x<n)/\n<=60/\∀(r:Addr) (H':Hp),H r=none->y8 H H'->H' r=some (.tup (tI (TM.sp n W (TM.dh W.length 1 1))))->Q (.ref r) H'
theorem zg1:u6 ["_law_window","_law_many"] ["_law_window","_law_many"] (x9 O0):=scq
theorem zf9 (D:Def K mg "_law_loop_of" O0 ["_law_window","_law_many"] f fd)(B:Blt mg)(m:n5 P w K mg base 1 "_law_spread" ["_law_part","_law_window","_law_many"] O6):o8 P w K mg base CX0 2 f fd ["_law_window","_law_many"] zm7:=by
 refine D.F.ok zg1 (λC H Q E h=>?_) (λo A k s H C Q E x h=>?_)
 .obtain⟨d,n,W,rfl,_⟩:=h;rfl
 obtain⟨d,n,W,rfl,a,g,hW,hlt,v,q⟩:=h;have t:W.length<=n:=TM.nodup_below hW hlt;have hs:0<W.length:=bR.mpr g;refine⟨_,z7 (u4 (o6 m x rfl (z0 (c5 [0] ["_law_k","_law_window"] rfl (l5 rfl B.range (z0 (w6 y6 rfl B.len p4 (z0 (pv 0) z4)) z4)) (λ_ _ _ _=>w8 p8 (w8 l7 (pv 0) z8) (w6 y6 rfl B.len p4 (z0 (pv 1) z4)))) (z0 (pv 0) (z0 (pv 1) z4))))),?_⟩;refine⟨_,rfl,d,_,rfl,.inl (SqL.of a),_,rfl,?_⟩;rw[z9];refine⟨by lia,by lia,R0 (tI (TM.dh W.length 1 1)) (by rw[z9,(TM.dh_isT hs _ (.inl rfl)).length];lia) (aM (show((W.length:Nat):Int).toNat<=1000 by lia) (by decide)) ?_ ?_⟩
 .intro i H2 hi b _ _ _ _;have hi:i<W.length:=by lia
  refine⟨_,rfl,_,_,rfl,rfl,_,rfl,d,_,rfl,.inl (SqL.of (b _ _ a)),?_⟩;rw[z9];refine⟨_,_,rfl,rfl,by lia,y8.refl _,?_⟩;have e:=bh ((i:Int)+1) (show(W.length:Int)≠0 by lia);rw[tI,af,TM.dh,af,aD hi];show some (V.int ((((1+1*(i:Int)) % (W.length:Int)).toNat:Nat):Int))=some (V.int ((0+(i:Int)+1) % (W.length:Int)));rw[show(1:Int)+1*(i:Int)=(i:Int)+1 by lia,bB e,dE]
 .intro y H2 u b j;have c:=TM.dh_isT hs 1 (.inl rfl);refine⟨_,rfl,_,rfl,y,d,n,_,W,rfl,.inl j,b _ _ a,by rw[c.length];exact c,by rw[c.length];exact aq _,hW,hlt,v,λr l e z p=>q r l (b.free e) (b.trans z) ?_⟩;rwa [c.length,aT]at p
def Q4 (H:Hp)(r:Addr)(ls:List (List Nat)):Prop:=∃as:List Addr,H r=some (.lst (as.map V.ref))/\Paired (λa l=>H a=some (.lst (tI l))) as ls
theorem Q4.same {H H':Hp}{r:Addr}{b:List (List Nat)}(h:Q4 H r b)(s:y8 H H'):Q4 H' r b:=by
 obtain⟨c,h1,h2⟩:=h;exact⟨c,s _ _ h1,Paired.imp' (λa l e=>s _ _ e) h2⟩
theorem yg8 {xs:List V}{k:Nat}(h:k<=xs.length):P6 xs (some ((k:Nat):Int)) none=xs.drop k:=by
 unfold P6;rw[HT.sIx_none,HT.sIx_nat,eJ h,bF (by rw[br];exact aq _)]
theorem zt7 {xs:List V}{k:Nat}(h:k<=xs.length):P6 xs none (some ((k:Nat):Int))=xs.take k:=by
 unfold P6;rw[HT.sIx_none,HT.sIx_nat,eJ h,eK,eC]
def G1:List Nat->List Nat->List (List Nat)
 | _,[]=>[]
 | W,s::r=>W.take s::G1 (W.drop s) r
theorem zq5 (s:Nat):∀(l W:List Nat),G1 W (l++[s])=G1 W l++[(W.drop l.sum).take s]
 | [],W=>by rw[List.sum_nil,eK];rfl
 | a::l,W=>by
  show W.take a::G1 (W.drop a) (l++[s])=W.take a::(G1 (W.drop a) l++[(W.drop (a::l).sum).take s])
  rw[zq5 s l,fX,de]
theorem zq3:∀(l W:List Nat),(G1 W l).flatten=W.take l.sum
 | [],W=>by rw[List.sum_nil,dM];rfl
 | a::l,W=>by
  show W.take a++(G1 (W.drop a) l).flatten=_
  rw[zq3 l,de,←List.take_add]
theorem zi2:∀(l W:List Nat),(G1 W l).length=l.length
 | [],_=>rfl
 | a::l,W=>by show(G1 (W.drop a) l).length+1=l.length+1;rw[zi2 l]
theorem zq4:∀(l W:List Nat),l.sum<=W.length->(G1 W l).map List.length=l
 | [],_,_=>rfl
 | a::l,W,h=>by
  rw[de]at h
  show(W.take a).length::(G1 (W.drop a) l).map List.length=a::l
  rw[zq4 l _ (by rw[br];lia),aX,eJ (by lia)]
theorem yf0 (l:List Nat)(j:Nat):(l.take j).sum<=l.sum:=by
 have:l.sum=(l.take j).sum+(l.drop j).sum:=by rw[←List.sum_append,bA]
 lia
def zs3:Sp:=λvs H Q _=>∃(wa sa:Addr) (W ss:List Nat),vs=[.ref wa,.ref sa]/\H wa=some (.lst (tI W))/\H sa=some (.lst (tI ss))/\ss.sum<=W.length/\W.length<=60/\ss.length<=60/\∀(r:Addr) (H':Hp),H r=none->y8 H H'->Q4 H' r (G1 W ss)->Q (.ref r) H'
theorem S0:u6 ["_law_window","_law_sizes","_law_parts_here","_law_size_here"] ["_law_window","_law_sizes"] (x9 J2):=scq
theorem zo4 (D:Def K mg "_law_parts" J2 ["_law_window","_law_sizes"] f fd)(B:Blt mg):o8 P w K mg base CX0 1 f fd ["_law_window","_law_sizes"] zs3:=by
 refine D.F.ok S0 (λvs H Q E h=>?_) (λao A ad s H vs Q E hr h=>?_)
 .obtain⟨wa,S,W,c,rfl,_⟩:=h;rfl
 obtain⟨wa,S,W,c,rfl,J,I,aj,ap,ax,q⟩:=h;refine⟨_,z6 (v0 (i:=2) S0.nd rfl (Or.inl rfl) (m9 z4))
  (z6 (l9 PassesOwn.never rfl (c9 (pv 1)) (p6 (i:=3) S0.nd rfl (Or.inl rfl))
   (z6 (i3 (Q3 PySem.F.plainAttrs_list PySem.F.slot_list_append PySem.F.type_list_append i8 (pv 2) (z0 (X8 J6 (pv 0) P2 (V4 (pv 3))) z4)))
   (z7 (v0 (i:=0) S0.nd rfl (Or.inl rfl) (X8 J6 (pv 0) (V4 (pv 3)) P2)))))
  (z7 (u4 (pv 2)))),?_⟩
 refine⟨(by show 0<=gn;decide),λr n=>?_⟩;have O:=y4 n (.lst []);have e0:(upd H r (.lst [])) r=some (.lst (([]:List Addr).map V.ref)):=z3;generalize upd H r (.lst [])=H0 at O e0 ⊢;refine⟨_,rfl,S,rfl,⟨_,SqL.of (O _ _ I)⟩,Z4 (K:=K) (a:=S) (xs:=tI c) (λj σ m=>∃(v:Addr) (d:List Addr) (v3:Option V),σ=[some (.ref v),some (.ref S),some (.ref r),v3]/\y8 H m/\m v=some (.lst (tI (W.drop (c.take j).sum)))/\v≠r/\m r=some (.lst (d.map V.ref))/\Paired (λa l=>m a=some (.lst (tI l))) d (G1 W (c.take j))/\∀b∈d,b≠r)
  ⟨wa,[],none,rfl,O,by rw[dM,List.sum_nil,eK];exact O _ _ J,y9 J n,e0,.nil,λb hb=>(by cases hb)⟩ (λj σ m _ ⟨_,_,_,_,L,_⟩=>SqL.of (L _ _ I)) ?_ ?_⟩
 .rintro j y σ m hj ⟨v,d,v3,rfl,L,hv,vr,g,C,t⟩;obtain⟨k,hk,rfl⟩:=U1 hj;have au:j<c.length:=(aw.mp hk).1;have T:c.take (j+1)=c.take j++[k]:=by rw[be,hk];rfl
  have av:(c.take j).sum+k<=W.length:=by
   have:=yf0 c (j+1);rw[T,List.sum_append,List.sum_singleton]at this;lia
  have G:k<=(tI (W.drop (c.take j).sum)).length:=by rw[z9,br];lia
  have Y:d.length=(c.take j).length:=by rw[Paired.length C,zi2]
  have ah:d.length<=60:=by rw[Y,aX];lia
  refine⟨_,rfl,.inl ⟨rfl,_,SqL.of g⟩,_,rfl,_,rfl,_,rfl,v,_,rfl,SqL.of hv,λp Z=>?_⟩;rw[zt7 G,zy4];have M:=y4 Z (.lst (tI ((W.drop (c.take j).sum).take k)));have e5:(upd m p (.lst (tI ((W.drop (c.take j).sum).take k)))) p=some (.lst (tI ((W.drop (c.take j).sum).take k))):=z3;generalize upd m p (.lst (tI ((W.drop (c.take j).sum).take k)))=x at M e5 ⊢;have pr:p≠r:=λz=>by rw[z,g]at Z;cases Z
  have X:=M _ _ g;refine⟨r,_,_,rfl,rfl,X,by rw[aa];exact T5 (by lia),?_⟩;have U:(upd x r (.lst (d.map V.ref++[V.ref p]))) r=some (.lst ((d++[p]).map V.ref)):=by rw[z3,aO];rfl
  have N:∀b o,x b=some o->b≠r->(upd x r (.lst (d.map V.ref++[V.ref p]))) b=some o:=λb o e nb=>by rw[y0 nb];exact e
  have s6:y8 H (upd x r (.lst (d.map V.ref++[V.ref p]))):=p7 (L.trans M) n _;generalize upd x r (.lst (d.map V.ref++[V.ref p]))=H6 at U N s6 ⊢;refine⟨_,rfl,_,rfl,_,rfl,v,_,rfl,SqL.of (N _ _ (M _ _ hv) vr),λu hu=>?_⟩;rw[yg8 G,zy3,fX];have R:=y4 hu (.lst (tI (W.drop ((c.take j).sum+k))));have ur:u≠r:=λz=>by rw[z,U]at hu;cases hu
  refine⟨u,d++[p],_,rfl,s6.trans R,?_,ur,R _ _ U,?_,λb hb=>?_⟩
  .rw[T,List.sum_append,List.sum_singleton];exact z3
  .rw[T,zq5];refine Paired.snoc (P3 C λb hb l e=>R _ _ (N _ _ (M _ _ e) (t b hb))) (R _ _ (N _ _ e5 pr))
  .rcases aI.mp hb with z|z
   .exact t b z
   .rw[ar.mp z];exact pr
 .rintro σ m ⟨v,d,v3,rfl,L,hv,vr,g,C,t⟩;rw[z9,aT]at C;exact⟨_,rfl,q r m n L ⟨d,g,C⟩⟩
def yo3:Sp:=λvs H Q _=>∃k:Nat,vs=[.int k]/\k<=60/\Q (.int ((TM.fac k:Nat):Int)) H
theorem Y1:u6 ["_law_size_here","_law_whole","_law_k"] ["_law_size_here"] (x9 T3):=scq
theorem za3 (D:Def K mg "_law_factorial" T3 ["_law_size_here"] f fd)(B:Blt mg):o8 P w K mg base CX0 1 f fd ["_law_size_here"] yo3:=by
 refine D.F.ok Y1 (λd H Q E h=>?_) (λc A a s H d Q E j h=>?_)
 .obtain⟨k,rfl,_⟩:=h;rfl
 obtain⟨k,rfl,g,q⟩:=h;refine⟨_,z6 (v0 (i:=1) Y1.nd rfl (Or.inl rfl) z8)
  (z6 (l9 PassesOwn.never rfl (zr7 rfl B.range (z0 z8 (z0 (w8 l7 (pv 0) z8) z4))) (p6 (i:=2) Y1.nd rfl (Or.inl rfl))
   (z7 (v0 (i:=1) Y1.nd rfl (Or.inl rfl) (w8 P7 (pv 1) (pv 2)))))
  (z7 (u4 (pv 1)))),?_⟩
 refine⟨_,rfl,_,_,rfl,rfl,2,_,rfl,⟨by decide,by decide,by lia,by lia⟩,b5 (lo:=2) (n:=((k:Int)+1-2).toNat) (λi σ H2=>∃b:Option V,σ=[some (.int k),some (.int ((TM.fac (i+1):Nat):Int)),b]/\H2=H) ⟨none,rfl,rfl⟩ ?_ ?_⟩
 .rintro i σ H2 hi ⟨b,rfl,rfl⟩;refine⟨_,rfl,_,rfl,_,_,rfl,rfl,.inr ⟨by lia,by lia⟩,some (.int (2+(i:Int))),?_,rfl⟩;show [some (V.int k),some (V.int (((TM.fac (i+1):Nat):Int)*(2+(i:Int)))),some (V.int (2+(i:Int)))]=[some (V.int k),some (V.int ((TM.fac (i+2):Nat):Int)),some (V.int (2+(i:Int)))];rw[show TM.fac (i+2)=(i+2)*TM.fac (i+1) from rfl,cm,Int.mul_comm,show((i+2:Nat):Int)=2+(i:Int) by lia]
 .rintro σ H2 ⟨b,rfl,rfl⟩;refine⟨_,rfl,?_⟩;have e:TM.fac (((k:Int)+1-2).toNat+1)=TM.fac k:=by
   rcases dQ k with h|h
   .subst h;rfl
   .rw[show((k:Int)+1-2).toNat+1=k by lia]
  show Q (.int ((TM.fac (((k:Int)+1-2).toNat+1):Nat):Int)) _;rw[e];exact q
def szW (way:Nat)(Ps:List (List Nat)):Nat:=if way=1 then TM.fac (Ps.getD 0 []).length / 2 else if way=3 then 2*(Ps.getD 0 []).length else TM.prd (Ps.map λP=>TM.fac P.length)*(if way=2 then TM.fac Ps.length else 1)
def ye8:Sp:=λvs H Q _=>∃(way:Nat) (pa:Addr) (Ps:List (List Nat)),vs=[.int way,.ref pa]/\Q4 H pa Ps/\way<4/\Ps≠[]/\Ps.flatten.length<=60/\Ps.length<=20/\(way=3∨∀P∈Ps,P.length<=20)/\Q (.int ((szW way Ps:Nat):Int)) H
theorem Y9:u6 ["_law_way","_law_parts_here","_law_size_here","_law_whole","_law_part"] ["_law_way","_law_parts_here"] (x9 E6):=scq
theorem yd0:∀(l:List Nat) (a:Nat),TM.prd (l++[a])=TM.prd l*a
 | [],a=>by show a*1=1*a;lia
 | b::l,a=>by show b*TM.prd (l++[a])=b*TM.prd l*a;rw[yd0 l a,fv]
theorem yx3:∀k,k<=20->TM.fac k<2 ^ 64:=by decide
theorem za5 {Ps:List (List Nat)}{R:List Nat}(h:R∈Ps):R.length<=Ps.flatten.length:=(fj h).length_le
theorem zw1 (D:Def K mg "_law_size" E6 ["_law_way","_law_parts_here"] f fd)(B:Blt mg)(p:n5 P w K mg base 1 "_law_factorial" ["_law_size_here"] yo3):o8 P w K mg base CX0 2 f fd ["_law_way","_law_parts_here"] ye8:=by
 refine D.F.ok Y9 (λvs H Q E h=>?_) (λO A C s H vs Q E z h=>?_)
 .obtain⟨c,l,Ps,rfl,_⟩:=h;rfl
 obtain⟨c,l,Ps,rfl,⟨r,d,t⟩,hw,x,hl,n,g,q⟩:=h;refine⟨_,z6 (v0 (i:=2) Y9.nd rfl (Or.inl rfl) (w6 y6 rfl B.len p4 (z0 (p5 t4 (pv 1) z8 (λ_ _=>rfl)) z4)))
  (z6 (o3 (u8 h7 (pv 0) z8 (r6 _)) (z7 (u4 (w8 g6 (o6 p z rfl (z0 (pv 2) z4)) z8))) u5)
  (z6 (o3 (u8 h7 (pv 0) z8 (r6 _)) (z7 (u4 (w8 P7 z8 (pv 2)))) u5)
  (z6 (v0 (i:=3) Y9.nd rfl (Or.inl rfl) z8)
  (z6 (l9 PassesOwn.never rfl (c9 (pv 1)) (p6 (i:=4) Y9.nd rfl (Or.inl rfl))
   (z7 (v0 (i:=3) Y9.nd rfl (Or.inl rfl) (w8 P7 (pv 3) (o6 p z rfl (z0 (w6 y6 rfl B.len p4 (z0 (pv 4) z4)) z4))))))
  (z6 (o3 (u8 h7 (pv 0) z8 (r6 _)) (z7 (v0 (i:=3) Y9.nd rfl (Or.inl rfl) (w8 P7 (pv 3) (o6 p z rfl (z0 (w6 y6 rfl B.len p4 (z0 (pv 1) z4)) z4))))) u5)
  (z7 (u4 (pv 3)))))))),?_⟩
 obtain⟨R,Rs,rfl⟩:∃R Rs,Ps=R::Rs:=by
  cases Ps with
  | nil=>exact absurd rfl x
  | cons R Rs=>exact⟨R,Rs,rfl⟩
 obtain⟨J,v,T⟩:=g7 t 0 R rfl;have W:R.length<=60:=aM (za5 ao) hl;have Z:∀j,j<=1000->j<=gn:=λk Y=>aM Y (by decide);refine⟨_,rfl,l,_,_,V.ref J,rfl,rfl,SqL.of d,l8 (j:=0) (by rw[af,v];rfl),J,_,rfl,.inl (SqL.of T),?_⟩;rw[z9];refine⟨_,rfl,rfl,_,rfl,?_⟩;rw[u9];by_cases M:c=1
 .subst M;refine m7 ⟨_,rfl,R.length,rfl,W,_,_,rfl,rfl,⟨by decide,by decide⟩,?_⟩;exact q
 rw[decide_eq_false (by lia)];refine o9 ⟨_,rfl,rfl,_,rfl,?_⟩;rw[u9];by_cases I:c=3
 .subst I;refine m7 ⟨_,rfl,_,_,rfl,rfl,.inl ⟨by decide,by decide⟩,?_⟩;have:((szW 3 (R::Rs):Nat):Int)=2*(R.length:Int):=by rw[show szW 3 (R::Rs)=2*R.length from rfl,cm];rfl
  rw[this]at q;exact q
 rw[decide_eq_false (by lia)];replace g:=g.resolve_left I;refine o9 ⟨_,rfl,l,rfl,⟨_,SqL.of d⟩,Z4 (K:=K) (a:=l) (xs:=r.map V.ref) (λj σ o=>∃G:Option V,σ=[some (.int c),some (.ref l),some (.int (R.length:Int)),some (.int ((TM.prd (((R::Rs).take j).map λP=>TM.fac P.length):Nat):Int)),G]/\o=H) ⟨none,rfl,rfl⟩ (λj σ o _ ⟨_,_,e⟩=>by rw[e];exact SqL.of d) ?_ ?_⟩
 .rintro j y σ o m ⟨G,rfl,rfl⟩;rw[af]at m
  cases ea:r[j]? with
  | none=>rw[ea]at m;cases m
  | some b =>
   rw[ea]at m
   cases m
   obtain⟨S,hS,U⟩:=paired_at2 t j b ea;have u:S.length<=60:=aM (za5 (ax hS)) hl;refine⟨_,rfl,_,rfl,b,_,rfl,.inl (SqL.of U),?_⟩;rw[z9];have X:=yx3 S.length (g S (ax hS));refine⟨S.length,rfl,u,_,_,rfl,rfl,.inr ⟨by lia,by lia⟩,some (.ref b),?_,rfl⟩;rw[be,hS,aO,show(Option.toList (some S)).map (λP=>TM.fac P.length)=[TM.fac S.length] from rfl,yd0,cm];rfl
 .rintro σ o ⟨G,rfl,rfl⟩;have L:(r.map V.ref).length=(R::Rs).length:=by rw[aa];exact Paired.length t
  rw[L,aT];refine⟨_,rfl,rfl,_,rfl,?_⟩;rw[u9];by_cases N:c=2
  .subst N;refine m7 ⟨_,rfl,_,rfl,l,_,rfl,.inl (SqL.of d),?_⟩;rw[L];have X:=yx3 _ n;refine⟨_,rfl,aM n (by decide),_,_,rfl,rfl,.inr ⟨by lia,by lia⟩,_,rfl,?_⟩;have:((szW 2 (R::Rs):Nat):Int)=((TM.prd ((R::Rs).map λP=>TM.fac P.length):Nat):Int)*((TM.fac (R::Rs).length:Nat):Int):=by rw[←cm];rfl
   rw[this]at q;exact q
  .rw[decide_eq_false (by lia)];refine o9 ⟨_,rfl,?_⟩;have:szW c (R::Rs)=TM.prd ((R::Rs).map λP=>TM.fac P.length):=by unfold szW;rw[if_neg M,if_neg I,if_neg N,dH]
   rw[this]at q;exact q
theorem zj4 (t:List Nat)(k:Nat):(TM.leads t (k+1)).length=(TM.leads t k).length+(if TM.isLeast t k=true then 1 else 0):=by
 unfold TM.leads;rw[eE,fN,ag]
 cases h:TM.isLeast t k with
 | true=>rw[List.filter_cons_of_pos h];rfl
 | false=>rw[List.filter_cons_of_neg (by rw[h];decide)];rfl
def ye4 (K:W.Frag):Sp:=λvs H Q _=>∃(a:Addr) (n:Nat) (t:List Nat),vs=[.ref a]/\H a=some (.tup (tI t))/\TM.IsT n t/\n<=60/\∀H':Hp,y8 H H'->Q (.bl (TM.evn t n)) H'
theorem Y8:u6 ["_law_one","_law_seen","_law_many","_law_place","_law_x"] ["_law_one"] (x9 E4):=scq
theorem zv9 (D:Def K mg "_law_even" E4 ["_law_one"] f fd)(B:Blt mg)(KL:n5 P w K mg base 1 "_law_loop" ["_law_one","_law_place"] (zm6 K)):o8 P w K mg base CX0 2 f fd ["_law_one"] (ye4 K):=by
 refine D.F.ok Y8 (λvs H Q E h=>?_) (λam A ac s H vs Q E hr h=>?_)
 .obtain⟨a,n,t,rfl,_⟩:=h;rfl
 obtain⟨a,n,t,rfl,Y,hT,hn,q⟩:=h;have X:SqT K H a (tI t):=SqT.of Y;have hu:=ym2 hr;refine⟨_,z6 (v0 (i:=1) Y8.nd rfl (Or.inl rfl) E1)
  (z6 (v0 (i:=2) Y8.nd rfl (Or.inl rfl) z8)
  (z6 (l9 PassesOwn.never rfl (l5 rfl B.range (z0 (w6 y6 rfl B.len p4 (z0 (pv 0) z4)) z4)) (p6 (i:=3) Y8.nd rfl (Or.inl rfl))
   (z7 (o3 (B7 (M6 hu (pv 3) (pv 1))) (z6 (l9 PassesOwn.never rfl (c9 (o6 KL hr rfl (z0 (pv 0) (z0 (pv 3) z4)))) (p6 (i:=4) Y8.nd rfl (Or.inl rfl))
     (z7 (K5 hu (pv 1) (pv 4) Z5 rfl)))
    (z7 (v0 (i:=2) Y8.nd rfl (Or.inl rfl) (w8 l7 (pv 2) z8)))) u5)))
  (z7 (u4 (V3 h7 (w8 p8 (w8 N8 (w6 y6 rfl B.len p4 (z0 (pv 0) z4)) (pv 2)) z8) z8 (r6 _)))))),?_⟩
 intro m R;have s0:y8 H (upd H m (.dK [])):=y4 R _;have d:(tI t).length=n:=by rw[z9,hT.length]
 refine⟨_,rfl,a,_,rfl,.inr (s0.seqT X),_,rfl,by lia,by rw[d];lia,b5 (n:=((tI t).length:Int).toNat) (λi σ H2=>∃(kvs:List (Key×V)) (v3 W:Option V),σ=[some (.ref a),some (.ref m),some (.int (((TM.leads t i).length:Nat):Int)),v3,W]/\y8 H H2/\H2 m=some (.dK kvs)/\kvs.length<=i*100/\∀x:Nat,(X1 kvs (Sum.inl (x:Int):Key)).isSome=true↔TM.Met t i x)
  ⟨[],none,none,rfl,s0,z3,aq _,λx=>⟨λz=>(by cases z),λ⟨y,hy,_⟩=>absurd hy (bO _)⟩⟩ ?_ ?_⟩
 .rintro i σ H2 hi ⟨kvs,v3,W,rfl,L,C,hk,r⟩;have g:i<n:=by rw[d]at hi;lia
  rw[show(0:Int)+(i:Int)=((i:Nat):Int) by lia];refine⟨_,rfl,_,rfl,m,_,rfl,W9.k (k:=Sum.inl (i:Int)) C,_,rfl,?_⟩
  cases e:X1 kvs (Sum.inl (i:Int):Key) with
  | some v =>
   refine o9 ?_;have G:TM.Met t i i:=(r i).mp (by rw[e];rfl);have aa:TM.isLeast t i=false:=by
    cases q1:TM.isLeast t i with
    | false=>rfl
    | true=>exact absurd G ((TM.met_least hT g).mp q1)
   refine⟨kvs,some (.int i),W,?_,L,C,by lia,λx=>(r x).trans (TM.met_skip hT g G).symm⟩;rw[zj4,aa];rfl
  | none =>
   refine m7 ?_;have ab:¬TM.Met t i i:=λz=>by
    have:=(r i).mpr z;rw[e]at this
    cases this
   have O:TM.isLeast t i=true:=(TM.met_least hT g).mpr ab;refine⟨_,rfl,_,rfl,a,n,i,t,rfl,L.seqT X,hT,g,by lia,λl H3 ar s3 hl=>?_⟩;have as:=(hT.per_spec g).2.1;have S:=s3 _ _ C;have lm:l≠m:=l4 hl S (by intro z;cases z);refine⟨l,rfl,⟨_,SqL.of hl⟩,Z4 (K:=K) (a:=l) (xs:=tI (TM.cyc t i)) (λj σ J=>∃(c:List (Key×V)) (v5:Option V),σ=[some (.ref a),some (.ref m),some (.int (((TM.leads t i).length:Nat):Int)),some (.int i),v5]/\(∀b o,H3 b=some o->b≠m->J b=some o)/\J m=some (.dK c)/\c.length<=i*100+j/\∀x:Nat,(X1 c (Sum.inl (x:Int):Key)).isSome=true↔TM.Met t i x∨x∈(TM.cyc t i).take j)
    ⟨kvs,W,rfl,λb o e _=>e,S,by lia,λx=>by rw[r x];simp⟩ (λj σ J _ ⟨_,_,_,T,_⟩=>SqL.of (T _ _ hl lm)) ?_ ?_⟩
   .rintro j y σ J hj ⟨c,v,rfl,T,I,N,u⟩;obtain⟨p,hp,rfl⟩:=U1 hj;have ao:j<TM.per t i:=(TM.cyc_some hp).1;refine⟨_,rfl,_,rfl,m,_,rfl,zg7.k (k:=Sum.inl (p:Int)) I (cq (show c.length<=20000 by lia) (by decide)),?_⟩;refine⟨_,_,rfl,λb o e nb=>by rw[y0 nb];exact T b o e nb,z3,aM (W7 _ _ _) (by lia),λx=>?_⟩;rw[zn1,be,hp];by_cases ex:x=p
    .subst ex;simp
    .have nk:¬((Sum.inl (x:Int):Key)=Sum.inl (p:Int)):=λz=>ex (by injection z with z;lia);rw[if_neg nk,u x];simp[ex]
   .rintro σ J ⟨c,v,rfl,T,I,N,u⟩;have M:(tI (TM.cyc t i)).length=TM.per t i:=by rw[z9,TM.cyc_length]
    have s4:y8 H J:=λb o e=>T b o (s3 b o (L b o e)) (y9 e R);have U:∀x:Nat,(X1 c (Sum.inl (x:Int):Key)).isSome=true↔TM.Met t (i+1) x:=λx=>by
     rw[u x,TM.met_succ,bF (by rw[M,TM.cyc_length];exact aq _)]
    have Z:c.length<=(i+1)*100:=by rw[M]at N;lia
    refine⟨_,rfl,_,_,rfl,rfl,c,some (.int i),v,?_,s4,I,Z,U⟩;rw[zj4,O];rfl
 .rintro σ H2 ⟨kvs,v3,W,rfl,L,C,hk,r⟩;rw[d,aK];refine⟨_,rfl,a,_,rfl,.inr (L.seqT X),_,rfl,_,_,rfl,rfl,_,_,rfl,rfl,(by show(0:Int)<2;decide),rfl,?_⟩;rw[d];have:=q H2 L;unfold TM.evn at this;rw[u9];exact this
def gix (W x:List Nat):List Nat:=W.map λa=>W.idxOf (x.getD a 0)
theorem L6 {W:List Nat}{k:Nat}(a:k<W.length):W[k]?=some (W.getD k 0):=by rw[ae,ac a];rfl
theorem C9 {W:List Nat}{k:Nat}(hk:k<W.length):W.getD k 0∈W:=ax (L6 hk)
theorem xs6 {W:List Nat}{a:Nat}(b:a∈W):W.getD (W.idxOf a) 0=a:=by
 have h:=cz b;rw[ae,ac h,List.getElem_idxOf];rfl
theorem yl9 {W x:List Nat}{k:Nat}(a:k<W.length):(gix W x).getD k 0=W.idxOf (x.getD (W.getD k 0) 0):=by
 rw[gix,ae,af,L6 a];rfl
theorem xa2 {n:Nat}{W x:List Nat}(hW:W.Nodup)(hlt:∀a∈W,a<n)(d:TM.IsT n x)(f:TM.Only n W x):TM.IsT W.length (gix W x)/\x=TM.sp n W (gix W x):=by
 have h1:TM.IsT W.length (gix W x):=by
  refine TM.isT_of (by rw[gix,aa]) ?_ ?_
  .rw[List.Nodup,gix,aZ];exact List.Pairwise.imp_of_mem (λ{a b} c hb g e=>g (d.step_inj (hlt a c) (hlt b hb) (TM.idxOf_inj (TM.Only.stay d hlt f c) e))) hW
  .intro y j;obtain⟨a,c,rfl⟩:=az.mp j;exact cz (TM.Only.stay d hlt f c)
 refine⟨h1,TM.sp_ext hW hlt d (TM.sp_isT hW hlt h1) (λk h=>?_) λa c i=>by rw[f a c i,TM.sp_out hW hlt _ c i]⟩;rw[TM.sp_in hW hlt _ h,yl9 h,xs6 (TM.Only.stay d hlt f (C9 h))]
theorem yy5 {a b:List Nat}(h:TM.iN a=TM.iN b):a=b:=by
 unfold TM.iN at h;exact List.map_inj_right (λx y e=>Int.ofNat.inj e) |>.mp h
theorem xi6 {n:Nat}{W x:List Nat}(hW:W.Nodup)(hlt:∀a∈W,a<n)(hs:0<W.length)(q:TM.IsT n x)(p:TM.Only n W x){c:Nat}(hc:W.idxOf (x.getD (W.getD 0 0) 0)=c) :
  (gix W x=TM.dh W.length (c:Int) 1∨gix W x=TM.dh W.length (c:Int) (-1))↔∃r,TM.DD W.length r/\x=TM.sp n W r:=by
 obtain⟨k,b⟩:=xa2 hW hlt q p;constructor
 .rintro (h|h)
  .exact⟨_,⟨_,_,.inl rfl,rfl⟩,by rw[←h];exact b⟩
  .exact⟨_,⟨_,_,.inr rfl,rfl⟩,by rw[←h];exact b⟩
 .rintro⟨r,i,e⟩;have o:=TM.DD.isT hs i;have f:gix W x=r:=(TM.sp_hom hW hlt).inj _ _ k o (b.symm.trans e);obtain⟨d,ε,m,rfl⟩:=i;have g:=yl9 (W:=W) (x:=x) hs;rw[f,TM.dh_get hs _ _ hs,hc]at g;have l:d % (W.length:Int)=(c:Int) % (W.length:Int):=by
   have s:=bh d (show(W.length:Int)≠0 by lia);have j:(d+ε*((0:Nat):Int))=d:=by rw[show((0:Nat):Int)=0 from rfl,Int.mul_zero,Int.add_zero]
   rw[j]at g;have:d % (W.length:Int)=(c:Int):=by lia
   rw[←this,Int.emod_emod]
  rw[f,TM.dh_rot hs l];rcases m with rfl|rfl
  .exact .inl rfl
  .exact .inr rfl
def zm8 (K:PySem.W.Frag):Sp:=λvs H Q _=>∃(wa oa:Addr) (n:Nat) (W x:List Nat),vs=[.ref wa,.ref oa]/\H wa=some (.lst (tI W))/\H oa=some (.tup (tI x))/\W.Nodup/\(∀a∈W,a<n)/\W≠[]/\TM.IsT n x/\TM.Only n W x/\n<=60/\∀(b:Bool) (H':Hp),y8 H H'->(b=true↔∃r,TM.DD W.length r/\x=TM.sp n W r)->Q (.bl b) H'
theorem b7:u6 ["_law_ring","_law_one","_law_at","_law_k","_law_first","_law_goals","_law_ahead"] ["_law_ring","_law_one"] (x9 M0):=scq
theorem zk4 (D:Def K mg "_law_ringed" M0 ["_law_ring","_law_one"] f fd)(B:Blt mg):o8 P w K mg base CX0 1 f fd ["_law_ring","_law_one"] (zm8 K):=by
 refine D.F.ok b7 (λvs H Q E h=>?_) (λbb A ai s H vs Q E hr h=>?_)
 .obtain⟨d,T,n,W,x,rfl,_⟩:=h;rfl
 obtain⟨d,T,n,W,x,rfl,b,N,hW,hlt,ad,xT,xO,hn,q⟩:=h;have hu:=ym2 hr;have be:W.length<=n:=TM.nodup_below hW hlt;have hs:0<W.length:=bR.mpr ad;have t:∀j,j<=1000->j<=gn:=λk hk=>aM hk (by decide);refine⟨_,z6 (v0 (i:=2) b7.nd rfl (Or.inr rfl) E1)
  (z6 (l9 PassesOwn.never rfl (l5 rfl B.range (z0 (w6 y6 rfl B.len p4 (z0 (pv 0) z4)) z4)) (p6 (i:=3) b7.nd rfl (Or.inl rfl))
   (z7 (K5 hu (pv 2) (p5 t4 (pv 0) (pv 3) (λ_ _=>rfl)) (pv 3) rfl)))
  (z6 (v0 (i:=4) b7.nd rfl (Or.inr rfl) (Y5 hu (pv 2) (p5 Z9 (pv 1) (p5 t4 (pv 0) z8 (λ_ _=>rfl)) (λ_ _=>rfl)) (λ_ _=>rfl)))
  (z6 (N3 (i:=5) [2,1] ["_law_place","_law_at","_law_one"] b7.nd rfl rfl rfl (c9 (pv 0)) (λ_ _ _ _=>Y5 hu (pv 1) (p5 Z9 (pv 2) (pv 0) (λ_ _=>rfl)) (λ_ _=>rfl)))
  (z6 (N3 (i:=6) [4,0] ["_law_k","_law_first","_law_ring"] b7.nd rfl rfl rfl (l5 rfl B.range (z0 (w6 y6 rfl B.len p4 (z0 (pv 0) z4)) z4)) (λ_ _ _ _=>w8 p8 (w8 l7 (pv 1) (pv 0)) (w6 y6 rfl B.len p4 (z0 (pv 2) z4))))
  (z7 (u4 (xu1 (V3 (xa3 hr.units) (pv 5) (pv 6) (r6 _)) (zl1 (V3 (xa3 hr.units) (pv 5) (c5 [4,0] ["_law_k","_law_first","_law_ring"] rfl (l5 rfl B.range (z0 (w6 y6 rfl B.len p4 (z0 (pv 0) z4)) z4)) (λ_ _ _ _=>w8 p8 (w8 N8 (pv 1) (pv 0)) (w6 y6 rfl B.len p4 (z0 (pv 2) z4)))) (r6 _)))))))))),?_⟩
 intro m M;have s0:y8 H (upd H m (.dK [])):=y4 M _;refine⟨_,rfl,d,_,rfl,.inl (SqL.of (s0 _ _ b)),_,rfl,?_⟩;rw[z9];refine⟨by lia,by lia,b5 (n:=(W.length:Int).toNat) (λi σ H2=>∃(kvs:List (Key×V)) (v3:Option V),σ=[some (.ref d),some (.ref T),some (.ref m),v3,none,none,none]/\y8 H H2/\H2 m=some (.dK kvs)/\kvs.length<=i/\∀j,j<i->X1 kvs (Sum.inl (W.getD j 0:Int):Key)=some (.int j))
  ⟨[],none,rfl,s0,z3,aq _,λj hj=>absurd hj (bO _)⟩ ?_ ?_⟩
 .rintro i σ H2 hi ⟨kvs,v3,rfl,l,r,hk,e⟩;have L:i<W.length:=by lia
  rw[show(0:Int)+(i:Int)=((i:Nat):Int) by lia];refine⟨_,rfl,_,rfl,_,rfl,_,rfl,d,_,_,_,rfl,rfl,SqL.of (l _ _ b),i5 (L6 L),m,_,rfl,zg7.k (k:=Sum.inl ((W.getD i 0:Nat):Int)) r (cq (show kvs.length<=20000 by lia) (by decide)),?_⟩;refine⟨_,_,rfl,p7 l M _,z3,aM (W7 _ _ _) (by lia),λj hj=>?_⟩;rw[zn1];by_cases ex:j=i
  .subst ex;rw[if_pos rfl]
  .rw[if_neg,e j (by lia)];intro z;injection z with z
   have z':W.getD j 0=W.getD i 0:=by lia
   have k1:=L6 (W:=W) (k:=j) (by lia);rw[z']at k1;exact ex ((TM.idxOf_at hW k1).symm.trans (TM.idxOf_at hW (L6 L)))
 rintro σ H2 ⟨kvs,v3,rfl,l,r,hk,e⟩;rw[aK]at e;have look:∀a∈W,X1 kvs (Sum.inl ((a:Nat):Int):Key)=some (.int ((W.idxOf a:Nat):Int)):=λa o=>by
  have:=e _ (cz o);rwa [xs6 o]at this
 have ah:=λa o=>TM.Only.stay xT hlt xO (x:=a) o;have go:∀(C:Hp) (a:Nat),y8 H2 C->a∈W->W9 C m (V.int ((x.getD a 0:Nat):Int)) (some (.int ((W.idxOf (x.getD a 0):Nat):Int))):=λC a G o=>by
  have:=W9.k (k:=Sum.inl ((x.getD a 0:Nat):Int)) (G _ _ r);rwa [look _ (ah a o)]at this
 have hx:∀a∈W,atI (tI x) ((a:Nat):Int)=some (V.int ((x.getD a 0:Nat):Int)):=λa o=>i5 (L6 (by rw[xT.length];exact hlt a o));obtain⟨c,hc⟩:∃c,W.idxOf (x.getD (W.getD 0 0) 0)=c:=⟨_,rfl⟩;have I:=go H2 _ (y8.refl _) (C9 hs);rw[hc]at I;refine⟨_,rfl,_,rfl,_,rfl,d,_,_,_,rfl,rfl,SqL.of (l _ _ b),i5 (i:=0) (L6 hs),T,_,_,_,rfl,rfl,SqT.of (l _ _ N),hx _ (C9 hs),m,_,rfl,I,?_⟩;have ab:(gix W x).length=W.length:=by rw[gix,aa]
 refine⟨_,rfl,d,rfl,⟨_,SqL.of (l _ _ b)⟩,zq1 (SqL.of (l _ _ b)) (tI (gix W x)) (by rw[z9,z9,ab]) (by rw[z9];exact t _ (by lia)) ?_ ?_⟩
 .intro i C y hy G _ _ _ _;obtain⟨p,hp,rfl⟩:=U1 hy;have O:=ax hp;refine⟨_,rfl,_,rfl,_,rfl,T,_,_,_,rfl,rfl,SqT.of (G _ _ (l _ _ N)),hx p O,m,_,rfl,go C p G O,y8.refl _,?_⟩;rw[tI,af,gix,af,hp];rfl
 intro g3 C ao G J;have v:=l.trans G;have dT:=λ(ε:Int) (hε:ε=1∨ε=-1)=>TM.dh_isT (c:=(c:Int)) hs hε;refine⟨_,rfl,d,_,rfl,.inl (SqL.of (v _ _ b)),_,rfl,?_⟩;rw[z9];refine⟨by lia,by lia,R0 (tI (TM.dh W.length (c:Int) 1)) (by rw[z9,(dT _ (.inl rfl)).length];lia) (t _ (by lia)) ?_ ?_⟩
 .intro i H4 hi R _ _ _ _;have hi:i<W.length:=by lia
  refine⟨_,rfl,_,rfl,_,_,rfl,rfl,_,rfl,d,_,rfl,.inl (SqL.of (R _ _ (v _ _ b))),?_⟩;rw[z9];refine⟨_,_,rfl,rfl,by lia,y8.refl _,?_⟩;have X:=bh ((c:Int)+(i:Int)) (show(W.length:Int)≠0 by lia);rw[tI,af,TM.dh,af,aD hi];show some (V.int (((((c:Int)+1*(i:Int)) % (W.length:Int)).toNat:Nat):Int))=some (V.int (((c:Int)+(0+(i:Int))) % (W.length:Int)));rw[show(c:Int)+1*(i:Int)=(c:Int)+(i:Int) by lia,bB X,dE]
 intro g4 H4 ap R Y;have g:=v.trans R;refine⟨_,rfl,_,rfl,g3,g4,TM.iN (gix W x),TM.iN (TM.dh W.length (c:Int) 1),rfl,rfl,SqL.of (by rw[←iI];exact R _ _ J),SqL.of (by rw[←iI];exact Y),?_⟩;have u:=xi6 hW hlt hs xT xO hc;by_cases S:gix W x=TM.dh W.length (c:Int) 1
 .rw[decide_eq_true (by rw[S])];exact⟨_,rfl,m7 (q true _ g ⟨λ_=>u.mp (.inl S),λ_=>rfl⟩)⟩
 .rw[decide_eq_false λz=>S (yy5 z)];refine⟨_,rfl,o9 ⟨_,rfl,_,rfl,d,_,rfl,.inl (SqL.of (g _ _ b)),_,rfl,?_⟩⟩;rw[z9];refine⟨by lia,by lia,R0 (tI (TM.dh W.length (c:Int) (-1))) (by rw[z9,(dT _ (.inr rfl)).length];lia) (t _ (by lia)) ?_ ?_⟩
  .intro i H5 hi U _ _ _ _;have hi:i<W.length:=by lia
   refine⟨_,rfl,_,rfl,_,_,rfl,rfl,_,rfl,d,_,rfl,.inl (SqL.of (U _ _ (g _ _ b))),?_⟩;rw[z9];refine⟨_,_,rfl,rfl,by lia,y8.refl _,?_⟩;have X:=bh ((c:Int)-(i:Int)) (show(W.length:Int)≠0 by lia);rw[tI,af,TM.dh,af,aD hi];show some (V.int (((((c:Int) + -1*(i:Int)) % (W.length:Int)).toNat:Nat):Int))=some (V.int (((c:Int)-(0+(i:Int))) % (W.length:Int)));rw[show(c:Int) + -1*(i:Int)=(c:Int)-(i:Int) by lia,bB X,dE]
  intro g5 H5 ar U Z;refine⟨g3,g5,TM.iN (gix W x),TM.iN (TM.dh W.length (c:Int) (-1)),rfl,rfl,SqL.of (by rw[←iI];exact U _ _ (R _ _ J)),SqL.of (by rw[←iI];exact Z),?_⟩;refine q _ _ (g.trans U) ⟨λh=>u.mp (.inr (yy5 (of_decide_eq_true h))),λh=>?_⟩;exact decide_eq_true (by rw[(u.mpr h).resolve_left S])
theorem xf8 (l:List Nat):(tI l).all A8=true:=by
 unfold tI;rw[eV];exact bu.mpr λ_ _=>rfl
theorem xm9 {x:Nat}(l:List Nat):inV (.int x) (tI l)=decide (x∈l):=by
 unfold inV tI;rw[List.any_map]
 cases h:decide (x∈l) with
 | true =>
  refine List.any_eq_true.mpr ⟨x,of_decide_eq_true h,?_⟩;show eqV (.int x) (.int x)=true;simp[eqV]
 | false =>
  refine fO.mpr λy a z=>?_;have e:(y:Int)=(x:Int):=by simpa[eqV] using z
  exact of_decide_eq_false h (by rw[←show y=x by lia];exact a)
theorem ye0 (a:List Nat):PySem.SeqAt.shaped (.list (a.map λ(x:Nat)=>PyData.int x))=true:=by
 obtain⟨h1,h2⟩:=yy6 (a.map λ(x:Nat)=>(x:Int));rw[bG]at h1 h2;rw[show(λ(x:Nat)=>PyData.int x)=PyData.int ∘ (λ(x:Nat)=>(x:Int)) from rfl];unfold PySem.SeqAt.shaped;rw[bp];refine⟨by simp only[PyData.canLay0];exact h1,decide_eq_true ?_⟩;simp only[PyData.depth];lia
theorem xg3 {H:Hp}{l:Addr}{n i f:Nat}{t:List Nat}{Q:VK}(hT:TM.IsT n t)(hi:i<n)(hl:H l=some (.lst (tI (TM.cyc t i))))(a:f<TM.per t i)(c:n<=60)(q:Q (.int f) H):yn9 (.ref l) [.int ((TM.it t f i:Nat):Int)] H Q:=by
 have b:=(hT.per_spec hi).2.1;refine⟨l,_,_,_,.int ((TM.it t f i:Nat):Int),f,rfl,rfl,hl,zt9 _,.int _,ye0 _,rfl,by lia,?_,λk h=>?_,q⟩
 .rw[af,TM.cyc_get a];simp[PyData.eqv]
 .rw[af,TM.cyc_get (eD h a)];have:TM.it t k i≠TM.it t f i:=λe=>aP h (hT.it_eq_iff hi (eD h a) a e);have h2:¬((TM.it t k i:Nat):Int)=((TM.it t f i:Nat):Int):=by lia
  simp[PyData.eqv,h2]
def PrA (H:Hp)(b:Addr)(x:Nat×Nat):Prop:=H b=some (.tup [.int ((x.1:Nat):Int),.int ((x.2:Nat):Int)])
def yo8:Sp:=λvs H Q _=>∃(oa ta:Addr) (n:Nat) (x t:List Nat),vs=[.ref oa,.ref ta]/\H oa=some (.tup (tI x))/\H ta=some (.tup (tI t))/\TM.IsT n x/\TM.IsT n t/\n<=60/\∀(b:Bool) (H':Hp),y8 H H'->(b=true↔∃m:Int,x=TM.pwT t m)->Q (.bl b) H'
theorem u7:u6 ["_law_one","_law_maker","_law_steps","_law_seen","_law_place","_law_loop_here","_law_x","_law_far","_law_k","_law_size_here","_law_other_here","_law_length","_law_by","_law_rest"] ["_law_one","_law_maker"] (x9 W3):=scq
theorem zd0 (D:Def K mg "_law_power_of" W3 ["_law_one","_law_maker"] f fd)(B:Blt mg)(KL:n5 P w K mg base 1 "_law_loop" ["_law_one","_law_place"] (zm6 K)):o8 P w K mg base CX0 2 f fd ["_law_one","_law_maker"] yo8:=by
 refine D.F.ok u7 (λvs H Q E h=>?_) (λct A dm s H vs Q E hr h=>?_)
 .obtain⟨oa,ta,n,x,t,rfl,_⟩:=h;rfl
 obtain⟨oa,ta,n,x,t,rfl,bm,ch,hX,hT,hn,q⟩:=h;have hu:=ym2 hr;have dh:(A.deeper (PyProof.Rows.envOfC "_law_power_of" (x9 W3) s.heap.objs.size f ct)).units+66<cLine:=by have:=hr.un;lia
 refine⟨_,z6 (v0 (i:=2) u7.nd rfl (Or.inl rfl) (m9 z4))
  (z6 (v0 (i:=3) u7.nd rfl (Or.inl rfl) E1)
  (z6 (l9 PassesOwn.never rfl (l5 rfl B.range (z0 (w6 y6 rfl B.len p4 (z0 (pv 1) z4)) z4)) (p6 (i:=4) u7.nd rfl (Or.inl rfl))
   (z6 (o3 (B7 (xp5 hu (pv 4) (pv 3))) (z7 yd1) u5)
   (z6 (v0 (i:=5) u7.nd rfl (Or.inl rfl) (o6 KL hr rfl (z0 (pv 1) (z0 (pv 4) z4))))
   (z6 (l9 PassesOwn.never rfl (c9 (pv 5)) (p6 (i:=6) u7.nd rfl (Or.inl rfl))
    (z7 (K5 hu (pv 3) (pv 6) Z5 rfl)))
   (z6 (o3 (u8 zw3 (p5 Z9 (pv 0) (pv 4) (λ_ _=>rfl)) (pv 5) rfl) (z7 (u4 Z5)) u5)
   (z6 (v0 (i:=7) u7.nd rfl (Or.inl rfl) (Q3 PySem.F.plainAttrs_list PySem.F.slot_list_index PySem.F.type_list_index (ys7 dh) (pv 5) (z0 (p5 Z9 (pv 0) (pv 4) (λ_ _=>rfl)) z4)))
   (z6 (l9 PassesOwn.never rfl (l5 rfl B.range (z0 (w6 y6 rfl B.len p4 (z0 (pv 5) z4)) z4)) (p6 (i:=8) u7.nd rfl (Or.inl rfl))
    (z7 (o3 (u8 zr6 (p5 Z9 (pv 0) (p5 t4 (pv 5) (pv 8) (λ_ _=>rfl)) (λ_ _=>rfl)) (p5 t4 (pv 5) (w8 p8 (w8 l7 (pv 8) (pv 7)) (w6 y6 rfl B.len p4 (z0 (pv 5) z4))) (λ_ _=>rfl)) (r6 _)) (z7 (u4 Z5)) u5)))
   (z7 (i3 (Q3 PySem.F.plainAttrs_list PySem.F.slot_list_append PySem.F.type_list_append i8 (pv 2) (z0 (R5 (z0 (pv 7) (z0 (w6 y6 rfl B.len p4 (z0 (pv 5) z4)) z4))) z4)))))))))))
  (z6 (v0 (i:=2) u7.nd rfl (Or.inl rfl) (w6 (zt4 w rfl rfl) rfl B.sorted zp6 (z0 (r8 (yq8 w rfl rfl hr.units) rfl B.set xm0 (z0 (pv 2) z4)) z4)))
  (z6 (l9 PassesOwn.never rfl (c9 (pv 2)) (zd3 rfl (h8 (p6 (i:=7) u7.nd rfl (Or.inl rfl)) (h8 (p6 (i:=9) u7.nd rfl (Or.inl rfl)) K4)))
   (z7 (l9 PassesOwn.never rfl (c9 (pv 2)) (zd3 rfl (h8 (p6 (i:=10) u7.nd rfl (Or.inl rfl)) (h8 (p6 (i:=11) u7.nd rfl (Or.inl rfl)) K4)))
    (z6 (v0 (i:=12) u7.nd rfl (Or.inl rfl) (pv 9))
    (z6 (v0 (i:=13) u7.nd rfl (Or.inl rfl) (pv 11))
    (z6 (zl6 PassesOwn.never (u8 zr5 (pv 13) z8 (r6 _))
     (z7 (xq5 (i:=12) (j:=13) rfl u7.nd rfl rfl (by decide) rfl rfl (z0 (pv 13) (z0 (w8 p8 (pv 12) (pv 13)) z4)) rfl)))
    (z7 (o3 (u8 zr6 (w8 p8 (w8 N8 (pv 7) (pv 10)) (pv 12)) z8 (r6 _)) (z7 (u4 Z5)) u5))))))))
  (z7 (u4 Z5)))))),?_⟩
 refine⟨(by show 0<=gn;decide),λr ce=>?_⟩;intro m hm;have rm:r≠m:=y9 z3 hm;have cb:H m=none:=by
  have:=hm;rwa [y0 (Ne.symm rm)]at this
 have s0:y8 H (upd (upd H r (.lst [])) m (.dK [])):=p7 (y4 ce _) cb _;have ab:(tI t).length=n:=by rw[z9,hT.length]
 have dj:x.length=n:=hX.length;refine⟨_,rfl,ta,_,rfl,.inr (SqT.of (s0 _ _ ch)),_,rfl,by lia,by rw[ab];lia,b5 (n:=((tI t).length:Int).toNat) (λi σ H2=>∃(kvs:List (Key×V)) (as:List Addr) (S:List (Nat×Nat)) (v4 v5 v6 v7 U:Option V),σ=[some (.ref oa),some (.ref ta),some (.ref r),some (.ref m),v4,v5,v6,v7,U,none,none,none,none,none]/\y8 H H2/\H2 r=some (.lst (as.map V.ref))/\Paired (PrA H2) as (S.map λa=>(a.2,TM.per t a.1))/\S.length<=i/\(∀a∈S,a.1<n/\TM.Alg t x a.1 a.2)/\(∀y,TM.Met t i y->∃a∈S,y∈TM.cyc t a.1)/\H2 m=some (.dK kvs)/\kvs.length<=i*100/\∀x:Nat,(X1 kvs (Sum.inl (x:Int):Key)).isSome=true↔TM.Met t i x)
  ⟨[],[],[],none,none,none,none,none,rfl,s0,by rw[y0 rm,z3];rfl,.nil,aq _,λ_ z=>(by cases z),λy ⟨z,hz,_⟩=>absurd hz (bO _),z3,aq _,λx=>⟨λz=>(by cases z),λ⟨y,J,_⟩=>absurd J (bO _)⟩⟩ ?_ ?_⟩
 .rintro i σ H2 hi ⟨kvs,as,S,v4,v5,v6,v7,U,rfl,s2,ba,hP,bt,X,hC,au,hk,bc⟩;have d:i<n:=by rw[ab]at hi;lia
  rw[show(0:Int)+(i:Int)=((i:Nat):Int) by lia];refine⟨_,rfl,_,rfl,m,_,rfl,W9.k (k:=Sum.inl (i:Int)) au,_,rfl,?_⟩
  cases e:X1 kvs (Sum.inl (i:Int):Key) with
  | some v =>
   refine m7 ?_;have bf:TM.Met t i i:=(bc i).mp (by rw[e];rfl);exact⟨kvs,as,S,_,_,_,_,_,rfl,s2,ba,hP,by lia,X,λy J=>hC y ((TM.met_skip hT d bf).mp J),au,by lia,λx=>(bc x).trans (TM.met_skip hT d bf).symm⟩
  | none =>
   refine o9 ?_;refine⟨_,rfl,_,rfl,ta,n,i,t,rfl,SqT.of (s2 _ _ ch),hT,d,by lia,λl H3 ee s3 hl=>?_⟩;have eh:=(hT.per_spec d).2.1;have pos:=hT.per_pos d;have av:=s3 _ _ au;have lm:l≠m:=l4 hl av (by intro z;cases z);refine⟨_,rfl,l,rfl,⟨_,SqL.of hl⟩,Z4 (K:=K) (a:=l) (xs:=tI (TM.cyc t i)) (λj σ I=>∃(c:List (Key×V)) (v6:Option V),σ=[some (.ref oa),some (.ref ta),some (.ref r),some (.ref m),some (.int i),some (.ref l),v6,v7,U,none,none,none,none,none]/\(∀b o,H3 b=some o->b≠m->I b=some o)/\I m=some (.dK c)/\c.length<=i*100+j/\∀x:Nat,(X1 c (Sum.inl (x:Int):Key)).isSome=true↔TM.Met t i x∨x∈(TM.cyc t i).take j)
    ⟨kvs,v6,rfl,λb o e _=>e,av,by lia,λx=>by rw[bc x];simp⟩ (λj σ I _ ⟨_,_,_,k4,_⟩=>SqL.of (k4 _ _ hl lm)) ?_ ?_⟩
   .rintro j y σ I hj ⟨c,v,rfl,k4,ay,ca,ad⟩;obtain⟨p,hp,rfl⟩:=U1 hj;have ed:j<TM.per t i:=(TM.cyc_some hp).1;refine⟨_,rfl,_,rfl,m,_,rfl,zg7.k (k:=Sum.inl (p:Int)) ay (cq (show c.length<=20000 by lia) (by decide)),?_⟩;refine⟨_,_,rfl,λb o e nb=>by rw[y0 nb];exact k4 b o e nb,z3,aM (W7 _ _ _) (by lia),λx=>?_⟩;rw[zn1,be,hp];by_cases ex:x=p
    .subst ex;simp
    .have nk:¬((Sum.inl (x:Int):Key)=Sum.inl (p:Int)):=λz=>ex (by injection z with z;lia);rw[if_neg nk,ad x];simp[ex]
   .rintro σ I ⟨c,v6,rfl,k4,ay,ca,ad⟩;have C:(tI (TM.cyc t i)).length=TM.per t i:=by rw[z9,TM.cyc_length]
    have G:=k4 _ _ hl lm;have s4:y8 H I:=λb o e=>k4 b o (s3 b o (s2 b o e)) (y9 e cb);have cf:=s3 _ _ ba;have bb:I r=some (.lst (as.map V.ref)):=k4 _ _ cf (l4 cf av (by intro z;cases z));have cv:Paired (PrA I) as (S.map λa=>(a.2,TM.per t a.1)):=Paired.imp' (λb l e=>k4 b _ (s3 _ _ e) (l4 (s3 _ _ e) av (by intro z;cases z))) hP;have ck:∀x:Nat,(X1 c (Sum.inl (x:Int):Key)).isSome=true↔TM.Met t (i+1) x:=λx=>by
     rw[ad x,TM.met_succ,bF (by rw[C,TM.cyc_length];exact aq _)]
    have db:c.length<=(i+1)*100:=by rw[C]at ca;lia
    have ci:x[i]?=some (x.getD i 0):=by rw[ae,ac (by lia)];rfl
    have cl:∀mm:Int,x=TM.pwT t mm->∃f,TM.Alg t x i f:=λmm e=>⟨_,by rw[e];exact TM.alg_pw hT mm d⟩;refine⟨_,rfl,_,rfl,oa,_,_,_,rfl,rfl,SqT.of (s4 _ _ bm),i5 ci,_,rfl,l,_,rfl,.inl (SqL.of G),rfl,xf8 _,_,rfl,?_⟩;show if (!inV (.int ((x.getD i 0:Nat):Int)) (tI (TM.cyc t i)))=true then _ else _
    rw[xm9];by_cases ap:x.getD i 0∈TM.cyc t i
    .rw[decide_eq_true ap];refine o9 ?_;obtain⟨f,hf,ef⟩:=TM.mem_cyc.mp ap;refine⟨_,rfl,.inl ⟨rfl,_,SqL.of G⟩,_,rfl,_,rfl,oa,_,_,_,rfl,rfl,SqT.of (s4 _ _ bm),i5 (ci.trans (by rw[ef])),?_⟩;dsimp only[xj8];refine xg3 hT d G hf hn ?_;refine⟨_,rfl,l,_,rfl,.inl (SqL.of G),_,rfl,by lia,by rw[C];lia,b5 (n:=((tI (TM.cyc t i)).length:Int).toNat) (λj σ H5=>∃U:Option V,σ=[some (.ref oa),some (.ref ta),some (.ref r),some (.ref m),some (.int i),some (.ref l),v6,some (.int f),U,none,none,none,none,none]/\H5=I/\∀k,k<j->x.getD (TM.it t k i) 0=TM.it t ((k+f) % TM.per t i) i)
      ⟨U,rfl,rfl,λk hk=>absurd hk (bO _)⟩ ?_ ?_⟩
     .rintro j σ H5 hj ⟨U,rfl,rfl,ao⟩;rw[C,aK]at hj;rw[show(0:Int)+(j:Int)=((j:Nat):Int) by lia];have hit:=hT.it_lt d j;have di:x[TM.it t j i]?=some (x.getD (TM.it t j i) 0):=by rw[ae,ac (by lia)];rfl
      have cd:=bJ (j+f) pos;have cz:atI (tI (TM.cyc t i)) (((j:Int)+(f:Int)) % (((tI (TM.cyc t i)).length:Nat):Int))=some (V.int ((TM.it t ((j+f) % TM.per t i) i:Nat):Int)):=by
       rw[C,show((j:Int)+(f:Int)) % ((TM.per t i:Nat):Int)=(((j+f) % TM.per t i:Nat):Int) by rw[cE,cM]];exact i5 (TM.cyc_get cd)
      refine⟨_,rfl,_,rfl,_,rfl,l,_,_,_,rfl,rfl,SqL.of G,i5 (TM.cyc_get hj),oa,_,_,_,rfl,rfl,SqT.of (s4 _ _ bm),i5 di,_,rfl,_,rfl,_,rfl,_,_,rfl,rfl,_,rfl,l,_,rfl,.inl (SqL.of G),_,_,rfl,rfl,(by rw[C];lia),l,_,_,_,rfl,rfl,SqL.of G,cz,rfl,_,rfl,?_⟩;rw[u9];by_cases bl:x.getD (TM.it t j i) 0=TM.it t ((j+f) % TM.per t i) i
      .rw[decide_eq_true (by rw[bl])];refine o9 ⟨_,rfl,rfl,λk hk=>?_⟩;rcases Nat.lt_succ_iff_lt_or_eq.mp hk with z|z
       .exact ao k z
       .rw[z];exact bl
      .rw[decide_eq_false (by lia)];refine m7 (q false _ s4 ⟨λz=>(by cases z),λ⟨mm,em⟩=>?_⟩);obtain⟨f',bx⟩:=cl mm em;have:=bx.uniq hT d hf ef.symm;subst this;exact absurd (bx.2 j hj) bl
     .rintro σ H5 ⟨U,rfl,rfl,ao⟩;rw[C,aK]at ao;have hA:TM.Alg t x i f:=⟨hf,ao⟩;have du:as.length=S.length:=by rw[Paired.length hP,aa]
      refine⟨_,rfl,.inl ⟨rfl,_,SqL.of bb⟩,_,rfl,_,rfl,l,_,rfl,.inl (SqL.of G),(by show 2<=gn;decide),λp hp=>?_⟩;have pr:p≠r:=Ne.symm (y9 bb hp);have pm:p≠m:=Ne.symm (y9 ay hp);refine⟨r,_,_,rfl,rfl,by rw[y0 (Ne.symm pr)];exact bb,by rw[aa];exact T5 (by lia),?_⟩;refine⟨c,as++[p],S++[(i,f)],_,_,_,_,_,rfl,p7 (p7 s4 (s4.free hp) _) ce _,by rw[z3,aO];rfl,?_,by rw[ag];show S.length+1<=i+1;lia,λa T=>?_,λy J=>?_,by rw[y0 (Ne.symm rm),y0 (Ne.symm pm)];exact ay,db,ck⟩
      .rw[aO];refine Paired.snoc (Paired.imp' (λb a e=>?_) cv) ?_
       .show upd (upd H5 p _) r _ b=_;rw[y0 (l4 e bb (by intro z;cases z)),y0 (y9 e hp)];exact e
       .show upd (upd H5 p _) r _ p=_;rw[y0 pr,z3,C]
      .rcases aI.mp T with z|z
       .exact X a z
       .rw[ar.mp z];exact⟨d,hA⟩
      .rcases TM.met_succ.mp J with z|z
       .obtain⟨a,T,h2⟩:=hC y z;exact⟨a,bg _ T,h2⟩
       .exact⟨(i,f),aU _ (ar.mpr rfl),z⟩
    .rw[decide_eq_false ap];refine m7 (q false _ s4 ⟨λz=>(by cases z),λ⟨mm,em⟩=>?_⟩);obtain⟨f,hf⟩:=cl mm em;have:=hf.2 0 pos;exact absurd (TM.mem_cyc.mpr ⟨_,bJ _ pos,this⟩) ap
 .rintro σ H2 ⟨kvs,as,S,v4,v5,v6,v7,U,rfl,s2,ba,hP,bt,X,hC,au,hk,bc⟩;rw[ab,aK]at bt hC;have dd:∀a∈S.map (λa=>(a.2,TM.per t a.1)),0<a.2:=λa T=>by
   obtain⟨b,hb,rfl⟩:=az.mp T;exact hT.per_pos (X b hb).1
  refine⟨_,rfl,r,as,_,rfl,SqL.of ba,hP,by rw[aa];lia,λsa bs qs dg cc de cw=>?_⟩;have co:y8 H2 (upd H2 sa (ze2 w sa bs)):=y4 dg _;refine⟨sa,bs,qs,rfl,z3,Paired.imp' (λb a e=>co _ _ e) cw,by rw[aa]at de;lia,λl W rs hl df cx=>?_⟩;have s3:y8 H2 (upd (upd H2 sa (ze2 w sa bs)) l (.lst (W.map V.ref))):=co.trans (y4 hl _);have Z:upd (upd H2 sa (ze2 w sa bs)) l (.lst (W.map V.ref)) l=some (.lst (W.map V.ref)):=z3;have Y:Paired (PrA (upd (upd H2 sa (ze2 w sa bs)) l (.lst (W.map V.ref)))) W rs:=Paired.imp' (λb a e=>y4 hl _ _ _ e) cx;generalize upd (upd H2 sa (ze2 w sa bs)) l (.lst (W.map V.ref))=H3 at s3 Z Y ⊢;have cm:=s2.trans s3;have cg:∀a,a∈rs↔a∈S.map λa=>(a.2,TM.per t a.1):=λa=>df.mem_iff.trans (cc a);have cj:=TM.pow_iff (x:=x) hT dj X (λy J=>hC y ⟨y,J,hT.self_mem J⟩) (sp:=rs) λb=>(cg b).trans (az.trans ⟨λ⟨a,h1,h2⟩=>⟨a,h1,h2.symm⟩,λ⟨a,h1,h2⟩=>⟨a,h1,h2.symm⟩⟩);have bk:(W.map V.ref).length=rs.length:=by rw[aa];exact Paired.length Y
  have bq:∀i y,(W.map V.ref)[i]?=some y->∃(b:Addr) (a:Nat×Nat),y=V.ref b/\rs[i]?=some a/\H3 b=some (.tup [.int ((a.1:Nat):Int),.int ((a.2:Nat):Int)])/\0<a.2:=λi y J=>by
   rw[af]at J
   cases e:W[i]? with
   | none=>rw[e]at J;cases J
   | some b =>
    rw[e]at J;have hi:i<rs.length:=by
     have:=(aw.mp e).1;rw[aa]at bk;lia
    exact⟨b,rs[i],(Option.some.inj J).symm,ac hi,L2.paired_at2 Y i b _ e (ac hi),dd _ ((cg _).mp (bY hi))⟩
  refine⟨_,rfl,l,rfl,⟨_,SqL.of Z⟩,Z4 (K:=K) (a:=l) (xs:=W.map V.ref) (λi σ I=>∃(v7 v9 L M N O:Option V),σ=[some (.ref oa),some (.ref ta),some (.ref l),some (.ref m),v4,v5,v6,v7,U,v9,L,M,N,O]/\I=H3/\∀a∈rs.take i,∀b∈rs,((a.1:Int)-(b.1:Int)) % ((Nat.gcd a.2 b.2:Nat):Int)=0)
   ⟨_,_,_,_,_,_,rfl,rfl,λa T=>(by cases T)⟩ (λi σ I _ ⟨_,_,_,_,_,_,_,e,_⟩=>by rw[e];exact SqL.of Z) ?_ ?_⟩
  .rintro i y σ I J ⟨v7,v9,L,M,N,O,rfl,rfl,R⟩;obtain⟨b,a,rfl,T,hb,cy⟩:=bq i y J;refine⟨b,_,rfl,SqT.of hb,rfl,_,_,rfl,_,_,rfl,rfl,?_⟩;refine⟨_,rfl,l,rfl,⟨_,SqL.of Z⟩,Z4 (K:=K) (a:=l) (xs:=W.map V.ref) (λj σ H5=>∃(L M N O:Option V),σ=[some (.ref oa),some (.ref ta),some (.ref l),some (.ref m),v4,v5,v6,some (.int ((a.1:Nat):Int)),U,some (.int ((a.2:Nat):Int)),L,M,N,O]/\H5=I/\∀b∈rs.take j,((a.1:Int)-(b.1:Int)) % ((Nat.gcd a.2 b.2:Nat):Int)=0)
    ⟨_,_,_,_,rfl,rfl,λa T=>(by cases T)⟩ (λi σ I _ ⟨_,_,_,_,_,e,_⟩=>by rw[e];exact SqL.of Z) ?_ ?_⟩
   .rintro j y2 σ H5 dk ⟨L,M,N,O,rfl,rfl,g⟩;obtain⟨b2,a2,rfl,bv,c',dt⟩:=bq j y2 dk;refine⟨b2,_,rfl,SqT.of c',rfl,_,_,rfl,_,_,rfl,rfl,?_⟩;refine⟨_,rfl,_,rfl,?_⟩;refine⟨λmm σ H6=>∃u z:Nat,σ=[some (.ref oa),some (.ref ta),some (.ref l),some (.ref m),v4,v5,v6,some (.int ((a.1:Nat):Int)),U,some (.int ((a.2:Nat):Int)),some (.int ((a2.1:Nat):Int)),some (.int ((a2.2:Nat):Int)),some (.int u),some (.int z)]/\H6=H5/\Nat.gcd u z=Nat.gcd a.2 a2.2/\mm=z,⟨_,a.2,a2.2,rfl,rfl,rfl,rfl⟩,?_⟩;rintro mm σ H6 ⟨u,z,rfl,rfl,hg,dc⟩;refine⟨_,rfl,_,_,rfl,rfl,_,rfl,?_⟩;by_cases h0:z=0
    .subst h0;rw[decide_eq_false (show ¬(0:Int)<((0:Nat):Int) by lia)];refine o9 ?_;rw[Nat.gcd_zero_right]at hg;subst hg;have gp:0<Nat.gcd a.2 a2.2:=Nat.gcd_pos_of_pos_left _ cy;refine⟨_,rfl,_,rfl,_,_,rfl,rfl,_,rfl,_,_,rfl,rfl,by lia,rfl,_,rfl,?_⟩;rw[u9];by_cases h1:((a.1:Int)-(a2.1:Int)) % ((Nat.gcd a.2 a2.2:Nat):Int)=0
     .rw[decide_eq_true h1];refine o9 ⟨_,_,_,_,rfl,rfl,λb hb=>?_⟩;rw[be,bv]at hb;rcases aI.mp hb with z|z
      .exact g b z
      .rw[Option.mem_toList.mp z |> Option.some.inj |> Eq.symm];exact h1
     .rw[decide_eq_false h1];refine m7 (q false _ cm ⟨λz=>(by cases z),λhp=>absurd (cj.mp hp a (ax T) a2 (ax bv)) h1⟩)
    .rw[decide_eq_true (show(0:Int)<((z:Nat):Int) by lia)];refine m7 ⟨_,λσ' H' z=>z,?_⟩;have hz:0<z:=Nat.pos_of_ne_zero h0;refine⟨_,rfl,_,rfl,_,rfl,_,_,rfl,rfl,(by lia),_,_,rfl,?_⟩;exact⟨u % z,by rw[dc];exact bJ _ hz,z,u % z,by rw[cE];rfl,rfl,by rw[←hg,eY u z,Nat.gcd_rec z u,eY],rfl⟩
   .rintro σ H5 ⟨L,M,N,O,rfl,rfl,g⟩;rw[bk,aT]at g;refine⟨_,_,_,_,_,_,rfl,rfl,λb hb=>?_⟩;rw[be,T]at hb;rcases aI.mp hb with z|z
    .exact R b z
    .rw[Option.mem_toList.mp z |> Option.some.inj |> Eq.symm];exact g
  .rintro σ I ⟨v7,v9,L,M,N,O,rfl,rfl,R⟩;rw[bk,aT]at R;exact q true _ cm ⟨λ_=>cj.mpr R,λ_=>rfl⟩
def InG (way n:Nat)(Ps ts:List (List Nat))(x:List Nat):Prop :=
 if way=4 then ∃m:Int,x=TM.pwT (ts.getD 0 []) m
 else TM.Only n Ps.flatten x/\(if way=0 then ∀a∈Ps.flatten,TM.pix Ps (x.getD a 0)=TM.pix Ps a else if way=1 then TM.evn x n=true else if way=2 then ∀a∈Ps.flatten,TM.pix Ps (x.getD a 0)=TM.pix Ps (x.getD ((Ps.getD (TM.pix Ps a) []).getD 0 0) 0) else ∃r,TM.DD (Ps.getD 0 []).length r/\x=TM.sp n (Ps.getD 0 []) r)
structure xs3 (way n:Nat) (Ps ts:List (List Nat)):Prop where
 nd:Ps.flatten.Nodup
 lt:∀a∈Ps.flatten,a<n
 ne:∀R∈Ps,R≠[]
 some:Ps≠[]
 one:way=3->Ps.length=1
 w:way<5
 four:way=4->∃t,ts=[t]/\TM.IsT n t
def pxs (Ps:List (List Nat))(L:List Nat):List (Nat×Nat):=L.map λy=>(y,TM.pix Ps y)
theorem zt0 (Ps:List (List Nat))(L:List Nat)(y:Nat):atN (pxs Ps L) y=if y∈L then some (TM.pix Ps y) else none:=by
 induction L with
 | nil=>rfl
 | cons z L ih =>
  by_cases h:z=y
  .subst h;rw[if_pos ao];unfold atN pxs;rw[aJ,cT (by simp)];rfl
  .have e:atN (pxs Ps (z::L)) y=atN (pxs Ps L) y:=by
    unfold atN pxs;rw[aJ,cU (by simp[h])]
   rw[e,ih];by_cases c:y∈L
   .rw[if_pos c,if_pos (ah _ c)]
   .rw[if_neg c,if_neg];intro a;rcases ay.mp a with w|w
    .exact h w.symm
    .exact c w
theorem yk7 {α:Type}(L:List α)(p:α->Prop)[DecidablePred p]:(L.map λa=>decide (p a)).all id=true↔∀a∈L,p a:=by
 rw[eV,bu];exact⟨λh a b=>of_decide_eq_true (h a b),λh a b=>decide_eq_true (h a b)⟩
def xc3:Sp:=λvs H Q _=>∃(way:Nat) (pa ma oa:Addr) (n:Nat) (Ps ts:List (List Nat)) (x:List Nat) (mas:List Addr),vs=[.int way,.ref pa,.ref ma,.ref oa]/\Q4 H pa Ps/\H ma=some (.lst (mas.map V.ref))/\Q6 H mas ts/\H oa=some (.tup (tI x))/\TM.IsT n x/\n<=60/\xs3 way n Ps ts/\∀(b:Bool) (H':Hp),y8 H H'->(b=true↔InG way n Ps ts x)->Q (.bl b) H'
theorem O3:u6 ["_law_way","_law_parts_here","_law_makers","_law_one","_law_moved","_law_k","_law_x","_law_place"] ["_law_way","_law_parts_here","_law_makers","_law_one"] (x9 zd4):=scq
theorem yi0 (D:Def K mg "_law_in" zd4 ["_law_way","_law_parts_here","_law_makers","_law_one"] f fd)(B:Blt mg)(KP:n5 P w K mg base 2 "_law_power_of" ["_law_one","_law_maker"] yo8)(KE:n5 P w K mg base 2 "_law_even" ["_law_one"] (ye4 K))(KR:n5 P w K mg base 1 "_law_ringed" ["_law_ring","_law_one"] (zm8 K)):o8 P w K mg base CX0 3 f fd ["_law_way","_law_parts_here","_law_makers","_law_one"] xc3:=by
 refine D.F.ok O3 (λvs H Q E h=>?_) (λdc A cp s H vs Q E hr h=>?_)
 .obtain⟨d,pa,ma,N,n,Ps,ts,x,cn,rfl,_⟩:=h;rfl
 obtain⟨d,pa,ma,N,n,Ps,ts,x,cn,rfl,cb,ci,cm,C,hX,hn,ok,q⟩:=h;have hu:=ym2 hr;refine⟨_,z6 (o3 (u8 h7 (pv 0) z8 (r6 _)) (z7 (u4 (o6 KP hr rfl (z0 (pv 3) (z0 (p5 t4 (pv 2) z8 (λ_ _=>rfl)) z4))))) u5)
  (z6 (v0 (i:=4) O3.nd rfl (Or.inr rfl) E1)
  (z6 (l9 PassesOwn.never rfl (l5 rfl B.range (z0 (w6 y6 rfl B.len p4 (z0 (pv 1) z4)) z4)) (p6 (i:=5) O3.nd rfl (Or.inl rfl))
   (z7 (l9 PassesOwn.never rfl (c9 (p5 t4 (pv 1) (pv 5) (λ_ _=>rfl))) (p6 (i:=6) O3.nd rfl (Or.inl rfl))
    (z7 (K5 hu (pv 4) (pv 6) (pv 5) rfl)))))
  (z6 (l9 PassesOwn.never rfl (l5 rfl B.range (z0 (w6 y6 rfl B.len p4 (z0 (pv 3) z4)) z4)) (p6 (i:=7) O3.nd rfl (Or.inl rfl))
   (z7 (o3 (PW.pt (yi6 (B7 (M6 hu (pv 7) (pv 4))) (zx4 (u8 zr6 (p5 Z9 (pv 3) (pv 7) (λ_ _=>rfl)) (pv 7) (r6 _))))) (z7 (u4 Z5)) u5)))
  (z6 (o3 (u8 h7 (pv 0) z8 (r6 _)) (z7 (u4 (w6 (D0 rfl) rfl B.all zt3 (z0 (c5 [4,3] ["_law_x","_law_moved","_law_one"] rfl (zx0 (pv 4)) (λ_ _ _ _=>V3 h7 (Y5 hu (pv 1) (p5 Z9 (pv 2) (pv 0) (λ_ _=>rfl)) (λ_ _=>rfl)) (Y5 hu (pv 1) (pv 0) (λ_ _=>rfl)) (r6 _))) z4)))) u5)
  (z6 (o3 (u8 h7 (pv 0) z8 (r6 _)) (z7 (u4 (o6 KE hr rfl (z0 (pv 3) z4)))) u5)
  (z6 (o3 (u8 h7 (pv 0) z8 (r6 _)) (z7 (u4 (w6 (D0 rfl) rfl B.all zt3 (z0 (c5 [4,3,1] ["_law_x","_law_moved","_law_one","_law_parts_here"] rfl (zx0 (pv 4)) (λ_ _ _ _=>V3 h7 (Y5 hu (pv 1) (p5 Z9 (pv 2) (pv 0) (λ_ _=>rfl)) (λ_ _=>rfl)) (Y5 hu (pv 1) (p5 Z9 (pv 2) (p5 t4 (p5 t4 (pv 3) (Y5 hu (pv 1) (pv 0) (λ_ _=>rfl)) (λ_ _=>rfl)) z8 (λ_ _=>rfl)) (λ_ _=>rfl)) (λ_ _=>rfl)) (r6 _))) z4)))) u5)
  (z7 (u4 (o6 KR hr rfl (z0 (p5 t4 (pv 1) z8 (λ_ _=>rfl)) (z0 (pv 3) z4))))))))))),?_⟩
 have bk:x.length=n:=hX.length;refine⟨_,rfl,rfl,_,rfl,?_⟩;rw[u9];by_cases w4:d=4
 .subst w4;refine m7 ?_;obtain⟨t,rfl,hT⟩:=ok.four rfl;obtain⟨a0,cd,e0⟩:=g7 cm 0 t rfl;refine⟨_,rfl,_,rfl,ma,_,_,V.ref a0,rfl,rfl,SqL.of ci,l8 (j:=0) (by rw[af,cd];rfl),N,a0,n,x,t,rfl,C,e0,hX,hT,hn,λb H' s' hb=>q b H' s' ?_⟩;unfold InG;rw[if_pos rfl];exact hb
 rw[decide_eq_false (by lia)];refine o9 ?_;intro m X;have s0:y8 H (upd H m (.dK [])):=y4 X _;have e0:upd H m (.dK []) m=some (.dK (kI (pxs Ps []))):=z3;generalize upd H m (.dK [])=H0 at s0 e0 ⊢;obtain⟨as,Z,hP⟩:=cb;have ce:as.length=Ps.length:=Paired.length hP;have dh:Ps.flatten.length<=n:=TM.nodup_below ok.nd ok.lt;have df:Ps.length<=Ps.flatten.length:=by
  have:∀Rs:List (List Nat),(∀R∈Rs,R≠[])->Rs.length<=Rs.flatten.length:=by
   intro Rs
   induction Rs with
   | nil=>intro _;exact aq _
   | cons R Rs ih =>
    intro h;have h1:=ih λS hS=>h S (ah _ hS);have h2:=bR.mpr (h R ao);rw[bw,ag,aC];lia
  exact this Ps ok.ne
 have bi:∀k,k<=1000->k<=gn:=λk hk=>aM hk (by decide);refine⟨_,rfl,pa,_,rfl,.inl (SqL.of (s0 _ _ Z)),_,rfl,by lia,by rw[aa];lia,b5 (n:=((as.map V.ref).length:Int).toNat) (λi σ H2=>∃v5 v6:Option V,σ=[some (.int d),some (.ref pa),some (.ref ma),some (.ref N),some (.ref m),v5,v6,none]/\y8 H H2/\H2 m=some (.dK (kI (pxs Ps (Ps.take i).flatten))))
  ⟨none,none,rfl,s0,e0⟩ ?_ ?_⟩
 .rintro i σ H2 hi ⟨v5,v6,rfl,J,I⟩;rw[aa,aK]at hi;rw[show(0:Int)+(i:Int)=((i:Nat):Int) by lia];have G:as[i]?=some as[i]:=ac hi;obtain⟨R,hR,eR⟩:=paired_at2 hP i _ G;have et:(Ps.take (i+1)).flatten=(Ps.take i).flatten++R:=by
   rw[be,hR,cy];simp
  have bo:(Ps.take i).flatten++R <+: Ps.flatten:=by
   rw[←et]
   conv=>rhs;rw[←bA (i+1) Ps,cy]
   exact List.prefix_append _ _
  have co:((Ps.take i).flatten++R).Nodup:=List.Nodup.sublist bo.sublist ok.nd;have cl:∀y∈R,TM.pix Ps y=i:=λy hy=>TM.pix_of ok.nd (by rw[ae,hR];exact hy);have ch:((Ps.take i).flatten++R).length<=60:=aM bo.length_le (by lia);have dl:as[i]≠m:=y9 eR X;refine⟨_,rfl,_,rfl,pa,_,_,_,rfl,rfl,SqL.of (J _ _ Z),l8 (by rw[af,G];rfl),as[i],rfl,⟨_,SqL.of (J _ _ eR)⟩,Z4 (K:=K) (a:=as[i]) (xs:=tI R) (λj σ L=>∃v6:Option V,σ=[some (.int d),some (.ref pa),some (.ref ma),some (.ref N),some (.ref m),some (.int i),v6,none]/\y8 H L/\L m=some (.dK (kI (pxs Ps ((Ps.take i).flatten++R.take j)))))
   ⟨v6,rfl,J,by rw[dM,bN];exact I⟩ (λj σ L _ ⟨_,_,s3,_⟩=>SqL.of (s3 _ _ eR)) ?_ ?_⟩
  .rintro j y σ L hj ⟨v6,rfl,s3,Y⟩;obtain⟨p,hp,rfl⟩:=U1 hj;have bc:=(aw.mp hp).1;have bf:p∉(Ps.take i).flatten++R.take j:=λz=>by
    have e1:R=R.take j++p::R.drop (j+1):=by
     conv=>lhs;rw[←bA j R]
     rw[dS bc];have:R[j]=p:=by rw[ac bc]at hp;exact Option.some.inj hp
     rw[this]
    have bn:=co;rw[e1,←di,bj]at bn;exact bn.2.2 p z p ao rfl
   have al:(kI (pxs Ps ((Ps.take i).flatten++R.take j))).length<=60:=by
    rw[K2,pxs,aa,ag];rw[ag]at ch;have:=List.length_take_le j R;lia
   have ba:=zg7.k (v:=V.int i) (k:=Sum.inl (p:Int)) Y (cq al (by decide));rw[zl7 (v:=i) (by rw[zt0,if_neg bf])]at ba;refine⟨_,rfl,_,rfl,_,rfl,m,_,rfl,ba,_,rfl,p7 s3 X _,?_⟩;have e1:pxs Ps (((Ps.take i).flatten++R.take j)++[p])=pxs Ps ((Ps.take i).flatten++R.take j)++[(p,i)]:=by
    unfold pxs;rw[aO,List.map_singleton,cl p (ax hp)]
   rw[z3,be,hp,←di,←e1];rfl
  .rintro σ L ⟨v6,rfl,s3,Y⟩;rw[z9,aT,←et]at Y;exact⟨_,_,rfl,s3,Y⟩
 rintro σ H2 ⟨v5,v6,rfl,J,I⟩;rw[aa,aK,ce,aT]at I;have cg:(kI (pxs Ps Ps.flatten)).length<=60:=by rw[K2,pxs,aa];lia
 have no:¬TM.Only n Ps.flatten x->¬InG d n Ps ts x:=λh z=>by
  unfold InG at z;rw[if_neg w4]at z;exact h z.1
 refine⟨_,rfl,N,_,rfl,.inr (SqT.of (J _ _ C)),_,rfl,by lia,by rw[z9];lia,b5 (n:=((tI x).length:Int).toNat) (λi σ L=>∃v7:Option V,σ=[some (.int d),some (.ref pa),some (.ref ma),some (.ref N),some (.ref m),v5,v6,v7]/\L=H2/\∀y,y<i->y∉Ps.flatten->x.getD y 0=y) ⟨none,rfl,rfl,λy hy=>absurd hy (bO _)⟩ ?_ ?_⟩
 .rintro i σ L hi ⟨v7,rfl,rfl,u⟩;rw[z9,aK]at hi;rw[show(0:Int)+(i:Int)=((i:Nat):Int) by lia];have g:=W9.k (k:=Sum.inl (i:Int)) I;rw[U2,zt0]at g;refine⟨_,rfl,_,rfl,m,_,rfl,g,_,rfl,?_⟩;by_cases W:i∈Ps.flatten
  .rw[if_pos W];refine o9 ⟨_,rfl,rfl,λy hy U=>?_⟩;rcases Nat.lt_succ_iff_lt_or_eq.mp hy with z|z
   .exact u y z U
   .rw[z]at U;exact absurd W U
  .rw[if_neg W];refine m7 ?_;refine⟨_,rfl,_,rfl,N,_,_,_,rfl,rfl,SqT.of (J _ _ C),i5 (L6 hi),_,rfl,rfl,_,rfl,?_⟩;rw[u9];by_cases e:x.getD i 0=i
   .rw[decide_eq_true (by rw[e])];refine o9 ⟨_,rfl,rfl,λy hy U=>?_⟩;rcases Nat.lt_succ_iff_lt_or_eq.mp hy with z|z
    .exact u y z U
    .rw[z];exact e
   .rw[decide_eq_false (by lia)];refine m7 (q false _ J ⟨λz=>(by cases z),λz=>absurd z (no λh=>e (h i (by lia) W))⟩)
 rintro σ L ⟨v7,rfl,rfl,u⟩;rw[z9,aK,bk]at u;have xO:TM.Only n Ps.flatten x:=u;have stay:∀a∈Ps.flatten,x.getD a 0∈Ps.flatten:=λa r=>TM.Only.stay hX ok.lt xO r;have an:∀a∈Ps.flatten,atI (tI x) ((a:Nat):Int)=some (V.int ((x.getD a 0:Nat):Int)):=λa r=>i5 (L6 (by rw[bk];exact ok.lt a r));have look:∀(M:Hp) (c:Obj),M m=some (.frz c (.dK (kI (pxs Ps Ps.flatten))))->∀a∈Ps.flatten,W9 M m (V.int ((a:Nat):Int)) (some (V.int ((TM.pix Ps a:Nat):Int))):=λM c e a r=>by
  refine .inl ⟨_,Sum.inl (a:Int),.inr ⟨c,e⟩,rfl,?_⟩;rw[U2,zt0,if_pos r];rfl
 have bd:∀i k v,(kI (pxs Ps Ps.flatten))[i]?=some (k,v)->∃a∈Ps.flatten,Ps.flatten[i]?=some a/\kV k=V.int ((a:Nat):Int):=λi k v h=>by
  unfold kI pxs at h;rw[bG,af]at h
  cases e:Ps.flatten[i]? with
  | none=>rw[e]at h;cases h
  | some a =>
   rw[e]at h
   cases h
   exact⟨a,ax e,e,rfl⟩
 have ck:=J _ _ Z;have bg:=J _ _ C;have mo:∀c (b:Addr) o,H b=some o->upd L m (.frz c (.dK (kI (pxs Ps Ps.flatten)))) b=some o:=λc b o e=>by rw[y0 (y9 e X)];exact J _ _ e
 refine⟨_,rfl,rfl,_,rfl,?_⟩;rw[u9];by_cases w0:d=0
 .subst w0;refine m7 ⟨_,rfl,m,_,rfl,I,λc=>?_⟩;refine zq0 (by rw[z3]) (Ps.flatten.map λa=>V.bl (decide (TM.pix Ps (x.getD a 0)=TM.pix Ps a))) (by rw[aa,K2,pxs,aa]) (bi _ (by lia)) ?_ ?_
  .intro i M k v T O _ _ _ _;obtain⟨a,r,G,ek⟩:=bd i k v T;rw[ek];have hf:=O _ _ (z3:upd L m (.frz c (.dK (kI (pxs Ps Ps.flatten)))) m=_);refine⟨_,rfl,_,rfl,_,rfl,N,_,_,_,rfl,rfl,SqT.of (O _ _ (mo c _ _ C)),an a r,m,_,rfl,look M c hf _ (stay a r),_,rfl,_,rfl,m,_,rfl,look M c hf a r,rfl,y8.refl _,?_⟩;rw[af,G,u9];show some (V.bl (decide (TM.pix Ps (x.getD a 0)=TM.pix Ps a)))=some (V.bl (decide (((TM.pix Ps (x.getD a 0):Nat):Int)=((TM.pix Ps a:Nat):Int))));rw[show decide (((TM.pix Ps (x.getD a 0):Nat):Int)=((TM.pix Ps a:Nat):Int))=decide (TM.pix Ps (x.getD a 0)=TM.pix Ps a) from decide_eq_decide.mpr (by lia)]
  .intro l M hl O h4;refine⟨l,Ps.flatten.map λa=>decide (TM.pix Ps (x.getD a 0)=TM.pix Ps a),rfl,SqL.of (by rw[h4,bG];rfl),?_⟩;refine q _ _ (λb o e=>O b o (mo c b o e)) ?_;rw[yk7];unfold InG;rw[if_neg w4,if_pos rfl];exact⟨λh=>⟨xO,h⟩,λh=>h.2⟩
 rw[decide_eq_false (by lia)];refine o9 ⟨_,rfl,rfl,_,rfl,?_⟩;rw[u9];by_cases w1:d=1
 .subst w1;refine m7 ⟨_,rfl,N,n,x,rfl,bg,hX,hn,λH' s'=>q _ _ (J.trans s') ?_⟩;unfold InG;rw[if_neg w4,if_neg w0,if_pos rfl];exact⟨λh=>⟨xO,h⟩,λh=>h.2⟩
 rw[decide_eq_false (by lia)];refine o9 ⟨_,rfl,rfl,_,rfl,?_⟩;rw[u9];by_cases w2:d=2
 .subst w2;have hd:∀a∈Ps.flatten,∃b R,as[TM.pix Ps a]?=some b/\H b=some (.lst (tI R))/\R[0]?=some ((Ps.getD (TM.pix Ps a) []).getD 0 0)/\(Ps.getD (TM.pix Ps a) []).getD 0 0∈Ps.flatten:=λa r=>by
   have hR:=TM.part_at (TM.pix_in r);have hi:=TM.pix_lt r;have eg:Ps[TM.pix Ps a]?=some (Ps.getD (TM.pix Ps a) []):=by rw[ae,ac hi];rfl
   obtain⟨b,hb,e⟩:=g7 hP _ _ eg;have aj:=bR.mpr (ok.ne _ hR);exact⟨b,_,hb,e,L6 aj,TM.in_flat hR _ (C9 aj)⟩
  refine m7 ⟨_,rfl,m,_,rfl,I,λc=>?_⟩;refine zq0 (by rw[z3]) (Ps.flatten.map λa=>V.bl (decide (TM.pix Ps (x.getD a 0)=TM.pix Ps (x.getD ((Ps.getD (TM.pix Ps a) []).getD 0 0) 0)))) (by rw[aa,K2,pxs,aa]) (bi _ (by lia)) ?_ ?_
  .intro i M k v T O _ _ _ _;obtain⟨a,r,G,ek⟩:=bd i k v T;rw[ek];have hf:=O _ _ (z3:upd L m (.frz c (.dK (kI (pxs Ps Ps.flatten)))) m=_);obtain⟨b,R,hb,eb,cc,ai⟩:=hd a r;refine⟨_,rfl,_,rfl,_,rfl,N,_,_,_,rfl,rfl,SqT.of (O _ _ (mo c _ _ C)),an a r,m,_,rfl,look M c hf _ (stay a r),_,rfl,_,rfl,_,rfl,_,rfl,_,rfl,m,_,rfl,look M c hf a r,pa,_,_,_,rfl,rfl,SqL.of (O _ _ (mo c _ _ Z)),l8 (by rw[af,hb];rfl),b,_,_,_,rfl,rfl,SqL.of (O _ _ (mo c _ _ eb)),i5 (i:=0) cc,N,_,_,_,rfl,rfl,SqT.of (O _ _ (mo c _ _ C)),an _ ai,m,_,rfl,look M c hf _ (stay _ ai),rfl,y8.refl _,?_⟩;rw[af,G,u9];show some (V.bl (decide (TM.pix Ps (x.getD a 0)=TM.pix Ps (x.getD ((Ps.getD (TM.pix Ps a) []).getD 0 0) 0))))=some (V.bl (decide (((TM.pix Ps (x.getD a 0):Nat):Int)=((TM.pix Ps (x.getD ((Ps.getD (TM.pix Ps a) []).getD 0 0) 0):Nat):Int))));congr 2;exact decide_eq_decide.mpr (by lia)
  .intro l M hl O h4;refine⟨l,Ps.flatten.map λa=>decide (TM.pix Ps (x.getD a 0)=TM.pix Ps (x.getD ((Ps.getD (TM.pix Ps a) []).getD 0 0) 0)),rfl,SqL.of (by rw[h4,bG];rfl),?_⟩;refine q _ _ (λb o e=>O b o (mo c b o e)) ?_;rw[yk7];unfold InG;rw[if_neg w4,if_neg w0,if_neg w1,if_pos rfl];exact⟨λh=>⟨xO,h⟩,λh=>h.2⟩
 rw[decide_eq_false (by lia)];have w3:d=3:=by have:=ok.w;lia
 .obtain⟨R,rfl⟩:∃R,Ps=[R]:=by
   match Ps,ok.one w3 with
   | [R],_=>exact⟨R,rfl⟩
  obtain⟨b,hb,e⟩:=g7 hP 0 R rfl;have fl:[R].flatten=R:=by simp
  rw[fl]at xO;have nd:=ok.nd;have lt:=ok.lt;rw[fl]at nd lt;refine o9 ⟨_,rfl,pa,_,_,_,rfl,rfl,SqL.of ck,l8 (j:=0) (by rw[af,hb];rfl),_,rfl,b,N,n,R,x,rfl,J _ _ e,bg,nd,lt,ok.ne R ao,hX,xO,hn,λbb H' s' cf=>q bb H' (J.trans s') ?_⟩;rw[cf];unfold InG;rw[if_neg w4,if_neg w0,if_neg w1,if_neg w2,fl];exact⟨λh=>⟨xO,h⟩,λh=>h.2⟩
def od (c:Int):Bool:=!decide (c % 2=0)
def mkT (way n:Nat)(Ps:List (List Nat))(c:Int):List (List Nat):=if way=1 then TM.mk1 n (Ps.getD 0 []) else if way=3 then TM.mk3 n (Ps.getD 0 []) c else if way=2 then TM.mk2 n (od c) Ps else Ps.flatMap (TM.mk0 n (od c))
structure xl7 (way n:Nat) (Ps:List (List Nat)):Prop where
 nd:Ps.flatten.Nodup
 lt:∀a∈Ps.flatten,a<n
 ne:∀R∈Ps,R≠[]
 w:way<4
 n60:n<=60
 few:Ps.length<=3
 some:Ps≠[]
 one:way=1∨way=3->∃R,Ps=[R]/\3<=R.length
 two:way=2->2<=Ps.length/\∃s,∀R∈Ps,R.length=s
 len:way=3∨∀R∈Ps,R.length<=20
def xc4:Sp:=λvs H Q _=>∃(way:Nat) (pa:Addr) (n:Nat) (Ps:List (List Nat)) (c:Int),vs=[.int way,.ref pa,.int n,.int c]/\Q4 H pa Ps/\xl7 way n Ps/\∀(r:Addr) (as:List Addr) (H':Hp),y8 H H'->H' r=some (.lst (as.map V.ref))->Q6 H' as (mkT way n Ps c)->Q (.ref r) H'
theorem p3:u6 ["_law_way","_law_parts_here","_law_many","_law_cell_here","_law_first","_law_mirror","_law_makers","_law_part","_law_some","_law_k","_law_size_here","_law_turn"] ["_law_way","_law_parts_here","_law_many","_law_cell_here"] (x9 T4):=scq
theorem yu0 (n k:Nat):X5 ((k:Nat):Int) n=tI (List.range' k n):=by
 unfold X5 tI;rw[List.range'_eq_map_range,bG];refine bQ λi _=>?_;show V.int ((k:Int)+(i:Int))=V.int ((k+i:Nat):Int);rw[cM]
theorem yk0 {H:Hp}{as bs:List Addr}{ts us:List (List Nat)}(h:Q6 H as ts)(h':Q6 H bs us):Q6 H (as++bs) (ts++us):=by
 induction h with
 | nil=>exact h'
 | cons f _ ih=>exact .cons f ih
theorem za4 (D:Def K mg "_law_makers_of" T4 ["_law_way","_law_parts_here","_law_many","_law_cell_here"] f fd)(B:Blt mg)(KL:n5 P w K mg base 2 "_law_loop_of" ["_law_window","_law_many"] zm7)(KS:n5 P w K mg base 1 "_law_spread" ["_law_part","_law_window","_law_many"] O6)(KX:n5 P w K mg base 2 "_law_exchange" ["_law_one","_law_other_here","_law_many"] ye5):o8 P w K mg base CX0 3 f fd ["_law_way","_law_parts_here","_law_many","_law_cell_here"] xc4:=by
 refine D.F.ok p3 (λvs H Q E h=>?_) (λge A fb s H vs Q E hr h=>?_)
 .obtain⟨C,pa,n,Ps,c,rfl,_⟩:=h;rfl
 obtain⟨C,pa,n,Ps,c,rfl,eh,ok,q⟩:=h;refine⟨_,z6 (v0 (i:=4) p3.nd rfl (Or.inr rfl) (p5 t4 (pv 1) z8 (λ_ _=>rfl)))
  (z6 (o3 (u8 h7 (pv 0) z8 (r6 _)) (z7 (u4 (c5 [4,2] ["_law_x","_law_first","_law_many"] rfl (c9 (X8 J6 (pv 4) (V4 z8) P2)) (λ_ _ _ _=>o6 KL hr rfl (z0 (m9 (z0 (p5 t4 (pv 1) z8 (λ_ _=>rfl)) (z0 (p5 t4 (pv 1) z8 (λ_ _=>rfl)) (z0 (pv 0) z4)))) (z0 (pv 2) z4)))))) u5)
  (z6 (o3 (u8 h7 (pv 0) z8 (r6 _)) (z6 (N3 (i:=5) [3,4] ["_law_k","_law_cell_here","_law_first"] p3.nd rfl rfl rfl (l5 rfl B.range (z0 (w6 y6 rfl B.len p4 (z0 (pv 4) z4)) z4)) (λ_ _ _ _=>w8 p8 (w8 N8 (pv 1) (pv 0)) (w6 y6 rfl B.len p4 (z0 (pv 2) z4))))
   (z7 (u4 (m9 (z0 (o6 KL hr rfl (z0 (pv 4) (z0 (pv 2) z4))) (z0 (o6 KS hr rfl (z0 (pv 5) (z0 (pv 4) (z0 (pv 2) z4)))) z4)))))) u5)
  (z6 (v0 (i:=6) p3.nd rfl (Or.inl rfl) (m9 z4))
  (z6 (l9 PassesOwn.never rfl (c9 (X8 J6 (pv 1) P2 (V4 (w8 N8 (w6 y6 rfl B.len p4 (z0 (pv 1) z4)) (w8 P7 (w8 N8 (w6 y6 rfl B.len p4 (z0 (pv 1) z4)) z8) (r8 yq5 rfl B.int yg7 (z0 (V3 h7 (pv 0) z8 (r6 _)) z4))))))) (p6 (i:=7) p3.nd rfl (Or.inr rfl))
   (z7 (o3 (u8 h7 (w8 p8 (pv 3) z8) z8 (r6 _)) (z7 (v0 (i:=6) p3.nd rfl (Or.inl rfl) (w8 zk6 (pv 6) (c5 [7,2] ["_law_k","_law_part","_law_many"] rfl (l5 rfl B.range (z0 (w8 N8 (w6 y6 rfl B.len p4 (z0 (pv 7) z4)) z8) z4)) (λ_ _ _ _=>o6 KX hr rfl (z0 (p5 t4 (pv 1) (pv 0) (λ_ _=>rfl)) (z0 (p5 t4 (pv 1) (w8 l7 (pv 0) z8) (λ_ _=>rfl)) (z0 (pv 2) z4)))))))) (z7 (o3 (u8 zr5 (w6 y6 rfl B.len p4 (z0 (pv 7) z4)) z8 (r6 _)) (z7 (v0 (i:=6) p3.nd rfl (Or.inl rfl) (w8 zk6 (pv 6) (m9 (z0 (o6 KL hr rfl (z0 (pv 7) (z0 (pv 2) z4))) (z0 (o6 KX hr rfl (z0 (p5 t4 (pv 7) z8 (λ_ _=>rfl)) (z0 (p5 t4 (pv 7) z8 (λ_ _=>rfl)) (z0 (pv 2) z4)))) z4)))))) u5)))))
  (z6 (o3 (u8 h7 (pv 0) z8 (r6 _)) (z6 (v0 (i:=8) p3.nd rfl (Or.inr rfl) (m9 z4))
   (z6 (l9 PassesOwn.never rfl (l5 rfl B.range (z0 (w6 y6 rfl B.len p4 (z0 (pv 1) z4)) z4)) (p6 (i:=9) p3.nd rfl (Or.inl rfl))
    (z7 (v0 (i:=8) p3.nd rfl (Or.inr rfl) (w8 zk6 (pv 8) (p5 t4 (pv 1) (pv 9) (λ_ _=>rfl))))))
   (z6 (v0 (i:=10) p3.nd rfl (Or.inr rfl) (w6 y6 rfl B.len p4 (z0 (pv 4) z4)))
   (z6 (N3 (i:=11) [10,8] ["_law_k","_law_size_here","_law_some"] p3.nd rfl rfl rfl (l5 rfl B.range (z0 (w6 y6 rfl B.len p4 (z0 (pv 8) z4)) z4)) (λ_ _ _ _=>w8 p8 (w8 l7 (pv 0) (pv 1)) (w6 y6 rfl B.len p4 (z0 (pv 2) z4))))
   (z6 (i3 (Q3 PySem.F.plainAttrs_list PySem.F.slot_list_append PySem.F.type_list_append i8 (pv 6) (z0 (o6 KS hr rfl (z0 (pv 11) (z0 (pv 8) (z0 (pv 2) z4)))) z4)))
   (z7 (i3 (Q3 PySem.F.plainAttrs_list PySem.F.slot_list_append PySem.F.type_list_append i8 (pv 6) (z0 (o6 KS hr rfl (z0 (w8 zk6 (r8 (Z8 rfl) rfl B.list W1 (z0 (r8 yq7 rfl B.range S9 (z0 (pv 10) (z0 (w8 P7 z8 (pv 10)) z4))) z4)) (r8 (Z8 rfl) rfl B.list W1 (z0 (r8 U6 rfl B.range S9 (z0 (pv 10) z4)) z4))) (z0 (pv 8) (z0 (pv 2) z4)))) z4))))))))) u5)
  (z7 (u4 (pv 6)))))))),?_⟩
 obtain⟨J,a',hP⟩:=eh;obtain⟨R,Rs,rfl⟩:∃R Rs,Ps=R::Rs:=by
  cases Ps with
  | nil=>exact absurd rfl ok.some
  | cons R Rs=>exact⟨R,Rs,rfl⟩
 obtain⟨a0,eq,e0⟩:=g7 hP 0 R rfl;have gm:(R::Rs).flatten.length<=n:=TM.nodup_below ok.nd ok.lt;have I:=ok.n60;have few:=ok.few;have an:(J.map V.ref).length=(R::Rs).length:=by rw[aa];exact Paired.length hP
 have cx:∀S∈R::Rs,S.Nodup/\(∀x∈S,x<n)/\S.length<=60/\0<S.length:=λS hS=>⟨TM.flat_nd ok.nd hS,λx hx=>ok.lt x (TM.in_flat hS x hx),aM (za5 hS) (by lia),bR.mpr (ok.ne S hS)⟩;obtain⟨ar,ap,gu,fe⟩:=cx R ao;have O:∀k,k<=1000->k<=gn:=λk hk=>aM hk (by decide);refine⟨_,rfl,pa,_,_,V.ref a0,rfl,rfl,SqL.of a',l8 (j:=0) (by rw[af,eq];rfl),?_⟩;refine⟨_,rfl,rfl,_,rfl,?_⟩;rw[u9];by_cases w1:C=1
 .subst w1;obtain⟨R',eR,h3⟩:=ok.one (.inl rfl);injection eR with eR _
  subst eR;refine m7 ⟨_,rfl,_,rfl,a0,_,rfl,SqL.of e0,λl hl=>?_⟩;rw[show P6 (tI R) (some 2) none=tI (R.drop 2) from(yg8 (k:=2) (by rw[z9];lia)).trans (zy3 ..)];have s1:=y4 hl (.lst (tI (R.drop 2)));have e1:upd H l (.lst (tI (R.drop 2))) l=some (.lst (tI (R.drop 2))):=z3;generalize upd H l (.lst (tI (R.drop 2)))=H1 at s1 e1 ⊢;refine⟨l,rfl,⟨_,SqL.of e1⟩,zq2 (λy=>HO.tup (tI y)) (TM.mk1 n R) (SqL.of e1) (by unfold TM.mk1;rw[aa,z9]) (by rw[z9,br];exact O _ (by lia)) ?_ ?_⟩
  .intro i H2 x y hx hy t _ _ _ _;obtain⟨p,G,rfl⟩:=U1 hx;unfold TM.mk1 at hy;rw[af,G]at hy
   cases hy
   have df:=s1.trans t;have hi:i+2<R.length:=by
    have:=(aw.mp G).1;rw[br]at this;lia
   have ep:R.getD (i+2) 0=p:=by
    rw[dO,dv]at G;rw[ae,G];rfl
   have fa:[R.getD 0 0,R.getD 1 0,p].Nodup:=by
    rw[←ep];have h1:=TM.wNe ar (j:=0) (k:=1) (by lia) (by lia) (by decide);have h2:=TM.wNe ar (j:=0) (k:=i+2) (by lia) (by lia) (by lia);have h3:=TM.wNe ar (j:=1) (k:=i+2) (by lia) (by lia) (by lia);revert h1 h2 h3;generalize R.getD 0 0=u0;generalize R.getD 1 0=u1;generalize R.getD (i+2) 0=u2;intro h1 h2 h3;simp[h1,h2,h3]
   refine⟨_,rfl,a0,_,_,_,rfl,rfl,SqL.of (df _ _ e0),i5 (i:=0) (L6 (by lia)),_,rfl,a0,_,_,_,rfl,rfl,SqL.of (df _ _ e0),i5 (i:=1) (L6 (by lia)),_,rfl,(by show 3<=gn;decide),λv hv=>?_⟩;have u:=y4 hv (.lst [V.int ((R.getD 0 0:Nat):Int),V.int ((R.getD 1 0:Nat):Int),V.int ((p:Nat):Int)]);refine⟨_,rfl,v,n,[R.getD 0 0,R.getD 1 0,p],rfl,z3,(by simp),fa,λx hx=>?_,I,λr H' h0 s' h'=>⟨u.trans s',r,rfl,u.free h0,h'⟩⟩;simp only[ay,ba,or_false]at hx;rcases hx with rfl|rfl|rfl
   .exact ap _ (C9 (by lia))
   .exact ap _ (C9 (by lia))
   .rw[←ep];exact ap _ (C9 hi)
  .intro Dl H2 g hD t X ek _;exact q Dl g H2 (s1.trans t) X ek
 rw[decide_eq_false (by lia)];refine o9 ⟨_,rfl,rfl,_,rfl,?_⟩;rw[u9];by_cases w3:C=3
 .subst w3;obtain⟨R',eR,h3⟩:=ok.one (.inr rfl);injection eR with eR _
  subst eR;have dT:=λ(ε:Int) (hε:ε=1∨ε=-1)=>TM.dh_isT (c:=c) fe hε;refine m7 ⟨_,rfl,a0,_,rfl,.inl (SqL.of e0),_,rfl,?_⟩;rw[z9];refine⟨by lia,by lia,R0 (tI (TM.dh R.length c (-1))) (by rw[z9,(dT _ (.inr rfl)).length];lia) (O _ (by lia)) ?_ ?_⟩
  .intro i U hi m _ _ _ _;have hi:i<R.length:=by lia
   refine⟨_,rfl,_,rfl,_,_,rfl,rfl,_,rfl,a0,_,rfl,.inl (SqL.of (m _ _ e0)),?_⟩;rw[z9];refine⟨_,_,rfl,rfl,by lia,y8.refl _,?_⟩;have h0:=bh (c-(i:Int)) (show(R.length:Int)≠0 by lia);rw[tI,af,TM.dh,af,aD hi];show some (V.int ((((c + -1*(i:Int)) % (R.length:Int)).toNat:Nat):Int))=some (V.int ((c-(0+(i:Int))) % (R.length:Int)));rw[show c + -1*(i:Int)=c-(i:Int) by lia,bB h0,dE]
  intro ml H1 gq s1 ex;have az:=dT (-1) (.inr rfl);refine⟨_,rfl,_,rfl,a0,n,R,rfl,s1 _ _ e0,ok.ne R ao,ar,ap,I,λr1 H2 d' t ea=>?_⟩;refine⟨_,rfl,_,rfl,_,rfl,ml,a0,n,TM.dh R.length c (-1),R,rfl,.inl (t _ _ ex),t _ _ (s1 _ _ e0),by rw[az.length];exact az,by rw[az.length];exact aq _,ar,ap,I,λr2 H3 ec u cp=>?_⟩;rw[az.length,aT]at cp;refine⟨(by show 2<=gn;decide),λp G=>?_⟩;have m:=y4 G (.lst [V.ref r1,V.ref r2]);exact q p [r1,r2] _ (((s1.trans t).trans u).trans m) z3 (.cons (m _ _ (u _ _ ea)) (.cons (m _ _ cp) .nil))
 rw[decide_eq_false (by lia)];refine o9 ⟨(by show 0<=gn;decide),λr0 N=>?_⟩;have s0:=y4 N (.lst []);have ci:upd H r0 (.lst []) r0=some (.lst (([]:List Addr).map V.ref)):=z3;generalize upd H r0 (.lst [])=H0 at s0 ci ⊢;obtain⟨M,hM⟩:∃M:Nat,M=if C=2 then 1 else(R::Rs).length:=⟨_,rfl⟩
 have ei:M<=(R::Rs).length:=by
  rw[hM,aC]
  split <;> lia
 have ez:(((J.map V.ref).length:Nat):Int)-((((J.map V.ref).length:Nat):Int)-1)*(if decide (V.int C=V.int 2)=true then 1 else 0)=((M:Nat):Int):=by
  rw[an,hM,u9];by_cases w2:C=2
  .rw[if_pos w2,decide_eq_true (by lia),if_pos rfl];lia
  .rw[if_neg w2,decide_eq_false (by lia),if_neg (by decide)];lia
 have al:=s0 _ _ a';refine⟨_,rfl,_,rfl,pa,_,rfl,.inl (SqL.of al),_,rfl,pa,_,rfl,.inl (SqL.of al),_,_,rfl,rfl,_,rfl,rfl,.inr ⟨_,rfl,_,_,rfl,rfl,.inl ⟨by lia,by lia⟩,_,_,rfl,rfl,((M:Nat):Int),congrArg V.int ez,pa,_,rfl,SqL.of al,λl hl=>?_⟩⟩;rw[zt7 (show M<=(J.map V.ref).length by rw[an];exact ei),←dG];have s1:=y4 hl (.lst ((J.take M).map V.ref));have e1:upd H0 l (.lst ((J.take M).map V.ref)) l=some (.lst ((J.take M).map V.ref)):=z3;have ck:=s1 _ _ ci;have gp:=s0.free hl;have de:=s0.trans s1;generalize upd H0 l (.lst ((J.take M).map V.ref))=H1 at s1 e1 ck de ⊢;refine⟨l,rfl,⟨_,SqL.of e1⟩,Z4 (K:=K) (a:=l) (xs:=(J.take M).map V.ref) (λi σ H2=>∃(r:Addr) (g:List Addr) (v7:Option V),σ=[some (.int C),some (.ref pa),some (.int n),some (.int c),some (.ref a0),none,some (.ref r),v7,none,none,none,none]/\y8 H H2/\H2 l=some (.lst ((J.take M).map V.ref))/\H r=none/\H2 r=some (.lst (g.map V.ref))/\Q6 H2 g (((R::Rs).take i).flatMap (TM.mk0 n (od c)))/\g.length<=60*i)
  ⟨r0,[],none,rfl,de,e1,N,ck,.nil,aq _⟩ (λi σ H2 _ ⟨_,_,_,_,_,h,_⟩=>SqL.of h) ?_ ?_⟩
 .rintro i y σ H2 hy ⟨r,g,v7,rfl,t,X,N,Y,L,cs⟩;have eu:i<M:=by
   have:=(aw.mp hy).1;rw[aa,aX]at this;lia
  have go:i<3:=by lia
  obtain⟨b,hb,rfl⟩:∃b,J[i]?=some b/\y=V.ref b:=by
   rw[af,cr eu]at hy
   cases e:J[i]? with
   | none=>rw[e]at hy;cases hy
   | some b=>rw[e]at hy;exact⟨b,rfl,(Option.some.inj hy).symm⟩
  obtain⟨S,hS,eS⟩:=paired_at2 hP i b hb;obtain⟨bb,ah,e',bd⟩:=cx S (ax hS);have et:((R::Rs).take (i+1)).flatMap (TM.mk0 n (od c))=((R::Rs).take i).flatMap (TM.mk0 n (od c))++TM.mk0 n (od c) S:=by
   rw[be,hS,List.flatMap_append];simp
  have done:∀(H3:Hp) (bs:List Addr) (d:Addr),y8 H2 H3->H3 d=some (.lst (bs.map V.ref))->Q6 H3 bs (TM.mk0 n (od c) S)->∀(Z:VK),(∀(p:Addr) (U:Hp),y8 H2 U->H p=none->U p=some (.lst ((g++bs).map V.ref))->Q6 U (g++bs) (((R::Rs).take (i+1)).flatMap (TM.mk0 n (od c)))->(g++bs).length<=60*(i+1)->Z (.ref p) U)->xu2 (.ref r) (.ref d) H3 Z:=λH3 bs d u hd ct Z hZ=>by
   have gk:bs.length<=60:=by
    rw[Paired.length ct];exact aM (TM.mk0_len bb ah _) e'
   refine⟨r,d,_,_,rfl,rfl,u _ _ Y,hd,O _ (by rw[aa,aa];lia),λp G=>?_⟩;have m:=y4 G (.lst (g.map V.ref++bs.map V.ref));refine hZ p _ (u.trans m) (t.free (u.free G)) (by rw[z3,aO]) ?_ (by rw[ag];lia);rw[et];exact(yk0 (L.same u) ct).same m
  refine⟨_,rfl,_,_,rfl,rfl,(by show(0:Int)<2;decide),rfl,_,rfl,?_⟩;rw[u9];by_cases ce:c % 2=0
  .rw[decide_eq_true ce];have eo:od c=false:=by unfold od;rw[decide_eq_true ce];rfl
   have W:TM.mk0 n (od c) S=(List.range (S.length-1)).map λk=>TM.sp n [S.getD k 0,S.getD (k+1) 0] [1,0]:=by rw[eo];rfl
   refine m7 ⟨_,rfl,_,rfl,b,_,rfl,.inl (SqL.of (t _ _ eS)),_,_,rfl,rfl,_,rfl,?_⟩;rw[z9];refine⟨by lia,by lia,zi0 (λy=>HO.tup (tI y)) (TM.mk0 n (od c) S) (n:=((S.length:Int)-1).toNat) (by rw[W,aa,aA];lia) (O _ (by lia)) (λ_ _=>aq _) (λi _ hi _=>hi) ?_ ?_⟩
   .rintro k H3 x U y hk u ⟨rfl,rfl⟩ hy;refine⟨rfl,λ_ _ _ _=>?_⟩;have bx:k+1<S.length:=by lia
    rw[W,af,aD (by lia)]at hy
    cases hy
    rw[show(0:Int)+(k:Int)=((k:Nat):Int) by lia];have ak:=u _ _ (t _ _ eS);refine⟨_,rfl,_,rfl,b,_,_,_,rfl,rfl,SqL.of ak,i5 (L6 (by lia)),_,rfl,_,rfl,_,_,rfl,rfl,b,_,_,_,rfl,rfl,SqL.of ak,(by rw[show(k:Int)+1=((k+1:Nat):Int) by lia];exact i5 (L6 bx)),_,rfl,S.getD k 0,S.getD (k+1) 0,n,rfl,ah _ (C9 (by lia)),ah _ (C9 bx),TM.wNe bb (by lia) bx (by lia),I,λr' H' h0 s' h'=>⟨s',r',rfl,h0,h'⟩⟩
   .intro Dl H3 bs hD u ev el _ _;refine done H3 bs Dl u ev el _ λp U m G h4 bw bz=>?_;exact⟨p,_,_,rfl,t.trans m,m _ _ X,G,h4,bw,bz⟩
  .rw[decide_eq_false ce];have eo:od c=true:=by unfold od;rw[decide_eq_false ce];rfl
   refine o9 ⟨_,rfl,b,_,rfl,.inl (SqL.of (t _ _ eS)),?_⟩;rw[z9];refine⟨_,_,rfl,rfl,_,rfl,?_⟩;by_cases h1:1<S.length
   .rw[decide_eq_true (show(1:Int)<((S.length:Nat):Int) by lia)];have W:TM.mk0 n (od c) S=[TM.sp n S (TM.dh S.length 1 1),TM.sp n [S.getD 0 0,S.getD 1 0] [1,0]]:=by
     rw[eo];unfold TM.mk0;rw[if_pos rfl,if_pos h1]
    have cj:=t _ _ eS;refine m7 ⟨_,rfl,_,rfl,_,rfl,b,n,S,rfl,cj,bR.mp bd,bb,ah,I,λr1 H3 d' u eb=>?_⟩;have ak:=u _ _ cj;refine⟨_,rfl,b,_,_,_,rfl,rfl,SqL.of ak,i5 (i:=0) (L6 bd),_,rfl,b,_,_,_,rfl,rfl,SqL.of ak,i5 (i:=1) (L6 h1),_,rfl,S.getD 0 0,S.getD 1 0,n,rfl,ah _ (C9 bd),ah _ (C9 h1),TM.wNe bb bd h1 (by decide),I,λr2 U ec m ed=>?_⟩;refine⟨(by show 2<=gn;decide),λp G=>?_⟩;have s5:=y4 G (.lst [V.ref r1,V.ref r2]);refine done _ [r1,r2] p ((u.trans m).trans s5) z3 (by rw[W];exact .cons (s5 _ _ (m _ _ eb)) (.cons (s5 _ _ ed) .nil)) _ λp U m G h4 bw bz=>?_;exact⟨p,_,_,rfl,t.trans m,m _ _ X,G,h4,bw,bz⟩
   .rw[decide_eq_false (show ¬(1:Int)<((S.length:Nat):Int) by lia)];refine o9 ⟨r,g,_,rfl,t,X,N,Y,?_,by lia⟩;have W:TM.mk0 n (od c) S=[]:=by
     rw[eo];unfold TM.mk0;rw[if_pos rfl,if_neg h1]
    rw[et,W,bN];exact L
 .rintro σ H2 ⟨r,g,v7,rfl,t,X,N,Y,L,cs⟩;have ej:(J.take M).length=M:=by
   rw[aX];rw[aa]at an;lia
  rw[aa,ej]at L cs;refine⟨_,rfl,rfl,_,rfl,?_⟩;rw[u9];by_cases w2:C=2
  .rw[decide_eq_true (by lia)];rw[if_pos w2]at hM;subst hM;obtain⟨ee,sz,bo⟩:=ok.two w2;have em:R.length=sz:=bo R ao;obtain⟨cm,_⟩:=TM.flat_at (s:=sz) (by lia) bo;refine m7 ⟨(by show 0<=gn;decide),λbg am=>?_⟩;have u:=y4 am (.lst []);have e3:upd H2 bg (.lst []) bg=some (.lst (tI [])):=z3;have gr:=t.free am;generalize upd H2 bg (.lst [])=H3 at u e3 ⊢;have ff:=t.trans u;refine⟨_,rfl,pa,_,rfl,.inl (SqL.of (ff _ _ a')),_,rfl,by lia,by rw[an];lia,b5 (n:=((J.map V.ref).length:Int).toNat) (λi σ U=>∃(sr:Addr) (v9:Option V),σ=[some (.int C),some (.ref pa),some (.int n),some (.int c),some (.ref a0),none,some (.ref r),v7,some (.ref sr),v9,none,none]/\y8 H2 U/\U sr=some (.lst (tI ((R::Rs).take i).flatten))/\H2 sr=none)
    ⟨bg,none,rfl,u,e3,am⟩ ?_ ?_⟩
   .rintro i σ U hi ⟨sr,v9,rfl,m,ab,b'⟩;rw[aK,aa]at hi;rw[show(0:Int)+(i:Int)=((i:Nat):Int) by lia];have cw:J[i]?=some J[i]:=ac hi;obtain⟨S,hS,eS⟩:=paired_at2 hP i _ cw;have et:((R::Rs).take (i+1)).flatten=((R::Rs).take i).flatten++S:=by
     rw[be,hS,cy];simp
    have fc:((R::Rs).take i).flatten++S <+: (R::Rs).flatten:=by
     rw[←et]
     conv=>rhs;rw[←bA (i+1) (R::Rs),cy]
     exact List.prefix_append _ _
    have ew:=fc.length_le;rw[ag]at ew;have bf:=t.trans m;refine⟨_,rfl,_,rfl,_,rfl,pa,_,_,_,rfl,rfl,SqL.of (bf _ _ a'),l8 (by rw[af,cw];rfl),sr,J[i],_,_,rfl,rfl,ab,bf _ _ eS,O _ (by rw[z9,z9];lia),λp G=>?_⟩;exact⟨p,_,rfl,m.trans (y4 G _),by rw[z3,et,b8],m.free G⟩
   rintro σ U ⟨sr,v9,rfl,m,ab,b'⟩;rw[aK,an,aT]at ab;have bf:=t.trans m;have en:0<(R::Rs).flatten.length:=by rw[cm];exact gc (by lia) (by lia)
   have dT:=TM.dh_isT (s:=(R::Rs).flatten.length) en (R.length:Int) (.inl rfl);refine⟨_,rfl,a0,_,rfl,.inl (SqL.of (bf _ _ e0)),?_⟩;rw[z9];refine⟨_,rfl,sr,_,rfl,.inl (SqL.of ab),_,rfl,?_⟩;rw[z9];refine⟨by lia,by lia,R0 (tI (TM.dh (R::Rs).flatten.length (R.length:Int) 1)) (by rw[z9,dT.length];lia) (O _ (by lia)) ?_ ?_⟩
   .intro i H5 hi s5 _ _ _ _;have hi:i<(R::Rs).flatten.length:=by lia
    refine⟨_,rfl,_,rfl,_,_,rfl,rfl,_,rfl,sr,_,rfl,.inl (SqL.of (s5 _ _ ab)),?_⟩;rw[z9];refine⟨_,_,rfl,rfl,by lia,y8.refl _,?_⟩;have h0:=bh ((R.length:Int)+(i:Int)) (show((R::Rs).flatten.length:Int)≠0 by lia);rw[tI,af,TM.dh,af,aD hi];show some (V.int (((((R.length:Int)+1*(i:Int)) % ((R::Rs).flatten.length:Int)).toNat:Nat):Int))=some (V.int (((0+(i:Int))+(R.length:Int)) % ((R::Rs).flatten.length:Int)));rw[show(R.length:Int)+1*(i:Int)=(R.length:Int)+(i:Int) by lia,bB h0,dE,Int.add_comm]
   intro tl H5 gs s5 ey;have ca:=m.trans s5;have cz:=ca _ _ Y;have bn:=s5 _ _ ab;refine⟨_,rfl,.inl ⟨rfl,_,SqL.of cz⟩,_,rfl,_,rfl,_,rfl,tl,sr,n,_,(R::Rs).flatten,rfl,.inl ey,bn,by rw[dT.length];exact dT,by rw[dT.length];exact aq _,ok.nd,ok.lt,I,λt1 H6 gg s6 h6=>?_⟩;rw[dT.length,aT]at h6;have c':=s6 _ _ cz;have fv:g.length<=60:=by lia
   refine⟨r,_,_,rfl,rfl,c',by rw[aa];exact T5 (by lia),?_⟩;have rt:∀(H:Hp) xs,H r=some (.lst xs)->∀ys,H r≠some (.tup ys):=λH xs e ys z=>by rw[e]at z;cases z
   have T6:Q6 (upd H6 r (.lst (g.map V.ref++[V.ref t1]))) (g++[t1]) (((R::Rs).take 1).flatMap (TM.mk0 n (od c))++[TM.sp n (R::Rs).flatten (TM.dh (R::Rs).flatten.length (R.length:Int) 1)]):=Q6.upd (yk0 (L.same (ca.trans s6)) (.cons h6 .nil)) (rt _ _ c');have e7:upd H6 r (.lst (g.map V.ref++[V.ref t1])) r=some (.lst ((g++[t1]).map V.ref)):=by rw[z3,aO];rfl
   have k7:∀b o,H6 b=some o->b≠r->upd H6 r (.lst (g.map V.ref++[V.ref t1])) b=some o:=λb o e nb=>by rw[y0 nb];exact e
   have s7:y8 H (upd H6 r (.lst (g.map V.ref++[V.ref t1]))):=p7 ((t.trans ca).trans s6) N _;generalize upd H6 r (.lst (g.map V.ref++[V.ref t1]))=H7 at T6 e7 k7 s7 ⊢;have db:H7 sr=some (.lst (tI (R::Rs).flatten)):=k7 _ _ (s6 _ _ bn) λz=>by rw[z,Y]at b';cases b'
   refine⟨_,rfl,.inl ⟨rfl,_,SqL.of e7⟩,_,rfl,_,rfl,_,_,rfl,rfl,.inl ⟨by decide,by decide⟩,_,_,rfl,λg1 cu=>⟨g1,_,_,rfl,z3,⟨by lia,by lia,by lia,by lia,by lia⟩,λg2 er=>?_⟩⟩;rw[show(2*((R.length:Nat):Int)-((R.length:Nat):Int)).toNat=R.length by lia,yu0];have s8:y8 H7 (upd (upd H7 g1 (.rng ((R.length:Nat):Int) (2*((R.length:Nat):Int)))) g2 (.lst (tI (List.range' R.length R.length)))):=p7 (y4 cu _) ((y4 cu _).free er) _;have e8:upd (upd H7 g1 (.rng ((R.length:Nat):Int) (2*((R.length:Nat):Int)))) g2 (.lst (tI (List.range' R.length R.length))) g2=some (.lst (tI (List.range' R.length R.length))):=z3;generalize upd (upd H7 g1 (.rng ((R.length:Nat):Int) (2*((R.length:Nat):Int)))) g2 (.lst (tI (List.range' R.length R.length)))=H8 at s8 e8 ⊢;refine⟨_,rfl,_,rfl,λg3 cv=>⟨g3,_,_,rfl,z3,⟨by lia,by lia,by lia,by lia,by lia⟩,λg4 es=>?_⟩⟩;rw[show(((R.length:Nat):Int)-0).toNat=R.length by lia,O8];have s9:y8 H8 (upd (upd H8 g3 (.rng 0 ((R.length:Nat):Int))) g4 (.lst (tI (List.range R.length)))):=p7 (y4 cv _) ((y4 cv _).free es) _;have e9:upd (upd H8 g3 (.rng 0 ((R.length:Nat):Int))) g4 (.lst (tI (List.range R.length))) g4=some (.lst (tI (List.range R.length))):=z3;generalize upd (upd H8 g3 (.rng 0 ((R.length:Nat):Int))) g4 (.lst (tI (List.range R.length)))=H9 at s9 e9 ⊢;refine⟨g2,g4,_,_,rfl,rfl,s9 _ _ e8,e9,O _ (by rw[z9,z9,List.length_range',aA];lia),λp G=>?_⟩;rw[←b8];have sA:=y4 G (.lst (tI (List.range' R.length R.length++List.range R.length)));have eA:upd H9 p (.lst (tI (List.range' R.length R.length++List.range R.length))) p=some (.lst (tI (List.range' R.length R.length++List.range R.length))):=z3;generalize upd H9 p (.lst (tI (List.range' R.length R.length++List.range R.length)))=HA at sA eA ⊢;have dg:=(s8.trans s9).trans sA;have bi:=TM.swp_isT R.length;have ef:2*R.length<=(R::Rs).flatten.length:=by rw[cm,em];exact dq _ ee
   refine⟨_,rfl,_,rfl,p,sr,n,_,(R::Rs).flatten,rfl,.inl eA,dg _ _ db,by rw[bi.length];exact bi,by rw[bi.length];exact ef,ok.nd,ok.lt,I,λt2 HB gh sB hB=>?_⟩;rw[bi.length]at hB;have cb:=dg.trans sB;have da:=cb _ _ e7;refine⟨r,_,_,rfl,rfl,da,by rw[aa,ag];exact T5 (by show g.length+1<=1000;lia),?_⟩;refine⟨_,rfl,q r ((g++[t1])++[t2]) _ (p7 (s7.trans cb) N _) (by rw[z3,aO (l₁:=g++[t1])];rfl) ?_⟩;have T:=yk0 (T6.same cb) (.cons hB .nil);have e:mkT C n (R::Rs) c=((R::Rs).take 1).flatMap (TM.mk0 n (od c))++[TM.sp n (R::Rs).flatten (TM.dh (R::Rs).flatten.length (R.length:Int) 1)]++[TM.sp n ((R::Rs).flatten.take (2*R.length)) (List.range' R.length R.length++List.range R.length)]:=by
    unfold mkT;rw[if_neg w1,if_neg w3,if_pos w2];show TM.mk0 n (od c) R++TM.tw2 n R.length (R::Rs).flatten=_;unfold TM.tw2;rw[fH,dM,dW,List.flatMap_nil,bN,di];rfl
   rw[e];exact Q6.upd T (rt _ _ da)
  .rw[decide_eq_false (by lia)];rw[if_neg w2]at hM;refine o9 ⟨_,rfl,q r g H2 t Y ?_⟩;rw[hM,aT]at L;unfold mkT;rw[if_neg w1,if_neg w3,if_neg w2];exact L
theorem xd1 {n i j:Nat}{t:List Nat}(hT:TM.IsT n t)(hi:i<n)(d:j<n):TM.IsT n ((t.set i (t.getD j 0)).set j (t.getD i 0)):=by
 have c:=hT.length;have a:t.getD i 0=t[i]'(by lia):=by rw[ae,ac (by lia)];rfl
 have b:t.getD j 0=t[j]'(by lia):=by rw[ae,ac (by lia)];rfl
 rw[a,b];exact(List.set_set_perm (by lia) (by lia)).trans hT
def zs0:Sp:=λvs H Q _=>∃(oa wa:Addr) (c:Int) (n:Nat) (x W:List Nat),vs=[.ref oa,.ref wa,.int c]/\H oa=some (.tup (tI x))/\TM.IsT n x/\H wa=some (.lst (tI W))/\W.Nodup/\(∀a∈W,a<n)/\W≠[]/\0<n/\n<=60/\∀(r:Addr) (H':Hp) (u:List Nat),y8 H H'->TM.IsT n u->H' r=some (.tup (tI u))->Q (.ref r) H'
theorem c7:u6 ["_law_one","_law_window","_law_cell_here","_law_many","_law_found","_law_at","_law_to"] ["_law_one","_law_window","_law_cell_here"] (x9 K9):=scq
theorem zo1 (D:Def K mg "_law_asked" K9 ["_law_one","_law_window","_law_cell_here"] f fd)(B:Blt mg)(KT:n5 P w K mg base 1 "_law_turning" ["_law_cell_here","_law_many"] E8)(KS:n5 P w K mg base 1 "_law_spread" ["_law_part","_law_window","_law_many"] O6):o8 P w K mg base CX0 2 f fd ["_law_one","_law_window","_law_cell_here"] zs0:=by
 refine D.F.ok c7 (λvs H Q E h=>?_) (λav A ah s H vs Q E hr h=>?_)
 .obtain⟨R,g,c,n,x,W,rfl,_⟩:=h;rfl
 obtain⟨R,g,c,n,x,W,rfl,O,I,v,hW,hlt,ad,M,hn,q⟩:=h;refine⟨_,z6 (v0 (i:=3) c7.nd rfl (Or.inl rfl) (w6 y6 rfl B.len p4 (z0 (pv 0) z4)))
  (z6 (v0 (i:=4) c7.nd rfl (Or.inl rfl) (r8 V2 rfl B.list W1 (z0 (pv 0) z4)))
  (z6 (o3 (u8 h7 (w8 p8 (pv 2) z8) z8 (r6 _)) (z6 (v0 (i:=5) c7.nd rfl (Or.inl rfl) (w8 p8 (w8 g6 (pv 2) z8) (pv 3)))
   (z6 (v0 (i:=6) c7.nd rfl (Or.inl rfl) (w8 p8 (w8 g6 (w8 g6 (pv 2) z8) (pv 3)) (pv 3)))
   (z7 (zl4 (R5 (z0 (p5 t4 (pv 4) (pv 6) (λ_ _=>rfl)) (z0 (p5 t4 (pv 4) (pv 5) (λ_ _=>rfl)) z4))) (zd3 rfl (h8 (zd2 (pv 4) (pv 5) M7) (h8 (zd2 (pv 4) (pv 6) M7) K4))))))) u5)
  (z6 (o3 (u8 h7 (w8 p8 (pv 2) z8) z8 (r6 _)) (z6 (v0 (i:=5) c7.nd rfl (Or.inl rfl) (p5 t4 (pv 1) (w8 p8 (w8 g6 (pv 2) z8) (w6 y6 rfl B.len p4 (z0 (pv 1) z4))) (λ_ _=>rfl)))
   (z6 (v0 (i:=6) c7.nd rfl (Or.inl rfl) (p5 t4 (pv 1) (w8 p8 (w8 g6 (w8 g6 (pv 2) z8) (w6 y6 rfl B.len p4 (z0 (pv 1) z4))) (w6 y6 rfl B.len p4 (z0 (pv 1) z4))) (λ_ _=>rfl)))
   (z7 (zl4 (R5 (z0 (p5 t4 (pv 4) (pv 6) (λ_ _=>rfl)) (z0 (p5 t4 (pv 4) (pv 5) (λ_ _=>rfl)) z4))) (zd3 rfl (h8 (zd2 (pv 4) (pv 5) M7) (h8 (zd2 (pv 4) (pv 6) M7) K4))))))) u5)
  (z6 (o3 (u8 h7 (w8 p8 (pv 2) z8) z8 (r6 _)) (z7 (u4 (o6 KS hr rfl (z0 (o6 KT hr rfl (z0 (w8 g6 (pv 2) z8) (z0 (w6 y6 rfl B.len p4 (z0 (pv 1) z4)) z4))) (z0 (pv 1) (z0 (pv 3) z4)))))) u5)
  (z7 (u4 (r8 i6 rfl B.tuple Y2 (z0 (pv 4) z4)))))))),?_⟩
 have ag:=I.length;have hs:0<W.length:=bR.mpr ad;have ba:W.length<=n:=TM.nodup_below hW hlt;refine⟨_,rfl,R,_,rfl,.inr (SqT.of O),?_⟩;rw[z9,ag];refine⟨_,rfl,R,_,rfl,.inr (SqT.of O),λl hl=>?_⟩;have s1:=y4 hl (.lst (tI x));have y:(upd H l (.lst (tI x))) l=some (.lst (tI x)):=z3;generalize upd H l (.lst (tI x))=H1 at s1 y ⊢;dsimp only[Z0];have d:∀(H2:Hp) (u:List Nat) (i j:Nat),y8 H H2->TM.IsT n u->i<n->j<n->∀p,H2 p=none->∀(X:Hp),X=upd (upd (upd H2 p (.tup [V.int ((u.getD j 0:Nat):Int),V.int ((u.getD i 0:Nat):Int)])) l (.lst (tI (u.set i (u.getD j 0))))) l (.lst (tI ((u.set i (u.getD j 0)).set j (u.getD i 0))))->y8 H X/\X l=some (.lst (tI ((u.set i (u.getD j 0)).set j (u.getD i 0))))/\TM.IsT n ((u.set i (u.getD j 0)).set j (u.getD i 0)):=λH2 u i j b e hi m p o X eX=>by
  subst eX;exact⟨p7 (p7 (b.trans (y4 o _)) hl _) hl _,z3,xd1 e hi m⟩
 refine X6 (λσ H2=>∃(u:List Nat) (T U:Option V),σ=[some (.ref R),some (.ref g),some (.int c),some (.int n),some (.ref l),T,U]/\y8 H H2/\H2 l=some (.lst (tI u))/\TM.IsT n u) ?_ λN z=>?_;rotate_left
 .refine⟨_,rfl,_,_,rfl,rfl,(by show(0:Int)<4;decide),rfl,_,rfl,?_⟩;rw[u9];by_cases c1:c % 4=1
  .rw[decide_eq_true c1];obtain⟨i,Y,hi⟩:=yc0 (c:=c / 4) M;obtain⟨j,Z,m⟩:=yc0 (c:=c / 4 / (n:Int)) M;have ti:x[i]?=some (x.getD i 0):=I.get_step hi;have tj:x[j]?=some (x.getD j 0):=I.get_step m;refine m7 ⟨_,rfl,_,_,rfl,rfl,⟨by decide,by decide⟩,_,rfl,_,_,rfl,rfl,(by show(0:Int)<(n:Int);lia),?_⟩;refine⟨_,rfl,_,_,rfl,rfl,⟨by decide,by decide⟩,_,rfl,_,_,rfl,rfl,⟨(by show(0:Int)<(n:Int);lia),(by show(n:Int)<1073741824;lia)⟩,_,rfl,_,_,rfl,rfl,(by show(0:Int)<(n:Int);lia),?_⟩;refine⟨_,rfl,_,rfl,l,_,_,_,rfl,rfl,SqL.of y,(by rw[Z];exact i5 tj),_,rfl,_,rfl,l,_,_,_,rfl,rfl,SqL.of y,(by rw[Y];exact i5 ti),(by show 2<=gn;decide),λp o=>?_⟩;have k:=y4 o (.tup [V.int ((x.getD j 0:Nat):Int),V.int ((x.getD i 0:Nat):Int)]) _ _ y;refine⟨p,_,rfl,SqT.of z3,rfl,_,_,rfl,_,rfl,_,rfl,l,tI x,_,i,rfl,rfl,k,by rw[z9,Y];exact K1 (by lia),_,_,rfl,_,rfl,_,rfl,l,tI (x.set i (x.getD j 0)),_,j,rfl,rfl,by rw[z3,J7],by rw[z9,bD,Z];exact K1 (by lia),rfl,z _ _ ?_⟩;rw[J7,J7];obtain⟨g1,g2,g3⟩:=d H1 x i j s1 I hi m p o _ rfl;exact⟨_,_,_,rfl,g1,g2,g3⟩
  .rw[decide_eq_false c1];exact o9 (z _ _ ⟨x,none,none,rfl,s1,y,I⟩)
 rintro σ H2 ⟨u,T,U,rfl,b,k,e⟩;have af:=e.length;have a:=b _ _ v;refine X6 (λσ H2=>∃(u:List Nat) (T U:Option V),σ=[some (.ref R),some (.ref g),some (.int c),some (.int n),some (.ref l),T,U]/\y8 H H2/\H2 l=some (.lst (tI u))/\TM.IsT n u) ?_ λN z=>?_;rotate_left
 .refine⟨_,rfl,_,_,rfl,rfl,(by show(0:Int)<4;decide),rfl,_,rfl,?_⟩;rw[u9];by_cases c2:c % 4=2
  .rw[decide_eq_true c2];obtain⟨i',Y,J⟩:=yc0 (c:=c / 4) hs;obtain⟨j',Z,L⟩:=yc0 (c:=c / 4 / (W.length:Int)) hs;obtain⟨i,C⟩:∃i,W.getD i' 0=i:=⟨_,rfl⟩;obtain⟨j,G⟩:∃j,W.getD j' 0=j:=⟨_,rfl⟩;have hi:i<n:=hlt i (by rw[←C];exact C9 J);have m:j<n:=hlt j (by rw[←G];exact C9 L);have ti:u[i]?=some (u.getD i 0):=e.get_step hi;have tj:u[j]?=some (u.getD j 0):=e.get_step m;have wi:atI (tI W) (c / 4 % (((tI W).length:Nat):Int))=some (V.int i):=by rw[z9,Y,←C];exact i5 (L6 J)
   have wj:atI (tI W) (c / 4 / (((tI W).length:Nat):Int) % (((tI W).length:Nat):Int))=some (V.int j):=by rw[z9,Z,←G];exact i5 (L6 L)
   have t:(0:Int)<(((tI W).length:Nat):Int):=by rw[z9];lia
   refine m7 ⟨_,rfl,_,rfl,_,_,rfl,rfl,⟨by decide,by decide⟩,_,rfl,g,_,rfl,.inl (SqL.of a),_,_,rfl,rfl,t,g,_,_,_,rfl,rfl,SqL.of a,wi,?_⟩;refine⟨_,rfl,_,rfl,_,_,rfl,rfl,⟨by decide,by decide⟩,_,rfl,g,_,rfl,.inl (SqL.of a),_,_,rfl,rfl,⟨t,by rw[z9];lia⟩,_,rfl,g,_,rfl,.inl (SqL.of a),_,_,rfl,rfl,t,g,_,_,_,rfl,rfl,SqL.of a,wj,?_⟩;refine⟨_,rfl,_,rfl,l,_,_,_,rfl,rfl,SqL.of k,i5 tj,_,rfl,_,rfl,l,_,_,_,rfl,rfl,SqL.of k,i5 ti,(by show 2<=gn;decide),λp o=>?_⟩;have e3:=y4 o (.tup [V.int ((u.getD j 0:Nat):Int),V.int ((u.getD i 0:Nat):Int)]) _ _ k;refine⟨p,_,rfl,SqT.of z3,rfl,_,_,rfl,_,rfl,_,rfl,l,tI u,_,i,rfl,rfl,e3,by rw[z9];exact K1 (by lia),_,_,rfl,_,rfl,_,rfl,l,tI (u.set i (u.getD j 0)),_,j,rfl,rfl,by rw[z3,J7],by rw[z9,bD];exact K1 (by lia),rfl,z _ _ ?_⟩;rw[J7,J7];obtain⟨g1,g2,g3⟩:=d H2 u i j b e hi m p o _ rfl;exact⟨_,_,_,rfl,g1,g2,g3⟩
  .rw[decide_eq_false c2];exact o9 (z _ _ ⟨u,_,_,rfl,b,k,e⟩)
 clear d k e b af a;rintro σ H2 ⟨u,T,U,rfl,b,k,e⟩;refine⟨_,rfl,_,_,rfl,rfl,(by show(0:Int)<4;decide),rfl,_,rfl,?_⟩;rw[u9];by_cases c3:c % 4=3
 .rw[decide_eq_true c3];refine m7 ⟨_,rfl,_,_,rfl,rfl,⟨by decide,by decide⟩,_,rfl,g,_,rfl,.inl (SqL.of (b _ _ v)),?_⟩;rw[z9];refine⟨_,W.length,rfl,by lia,λr H3 ai h0 s3 S h3=>?_⟩;refine⟨_,rfl,_,rfl,r,g,n,ai,W,rfl,.inr h3,s3 _ _ (b _ _ v),by rw[S.length];exact S,by rw[S.length];exact aq _,hW,hlt,hn,λr2 H4 ay s4 h4=>q r2 H4 _ ((b.trans s3).trans s4) ?_ h4⟩;rw[S.length,aT];exact TM.sp_isT hW hlt S
 .rw[decide_eq_false c3];exact o9 ⟨_,rfl,l,_,rfl,.inl ⟨SqL.of k,λtp ae=>q tp _ u (b.trans (y4 ae _)) e z3⟩⟩
theorem zt6 {K:W.Frag}{H:Hp}{a b:Addr}{xs ys:List V}{Q:VK}(c:H a=some (.tup xs))(hb:H b=some (.tup ys))(f:xs.length+ys.length<=gn)(q:∀(r:Addr) (H':Hp),y8 H H'->H' r=some (.tup (xs++ys))->Q (.ref r) H'):xb2 K (.ref a) (.ref b) H Q:=by
 refine⟨a,b,xs,ys,rfl,rfl,SqT.of c,SqT.of hb,f,λe=>?_,λ_ e=>?_,λ_ _ p d=>q p _ (y4 d _) z3⟩
 .subst e;exact q b H (y8.refl _) hb
 .subst e;exact q a H (y8.refl _) (by rw[bN];exact c)
theorem ya0 {H:Hp}:∀zs:List Int,Dts H (zs.map V.int) (zs.map PyData.int)
 | []=>.nil
 | z::r=>.cons (.int z) (ya0 r)
theorem ya9:∀zs:List Int,M5 (zs.map PyData.int)=zs
 | []=>rfl
 | z::r=>by
  show z::M5 (r.map PyData.int)=z::r
  rw[ya9 r]
theorem yf6 {n:Nat}{zs:List Int}(h:J8 n (.tuple (zs.map PyData.int))=true):zs.length=n/\zs.Perm (za8 n):=by
 have h:(((decide (1<=(zs.map PyData.int).length)&&decide ((zs.map PyData.int).length<=60))&&((zs.map PyData.int).all isW&&decide (ye1 (M5 (zs.map PyData.int))=za8 (zs.map PyData.int).length)))&&decide ((zs.map PyData.int).length=n))=true:=h;simp only[bp]at h;obtain⟨⟨_,_,h2⟩,a⟩:=h;have a:=of_decide_eq_true a;have h2:=of_decide_eq_true h2;rw[ya9,a]at h2;rw[aa]at a;refine⟨a,?_⟩;rw[←h2];exact(fI zs _).symm
theorem yi8 (n:Nat):(za8 n).Nodup:=by
 unfold za8;exact aZ.mpr (aN.imp λh e=>h (by lia))
theorem xb3 {n:Nat}{z:Int}(h:z∈za8 n):0<=z/\z<(n:Int):=by
 unfold za8 at h;obtain⟨i,hi,rfl⟩:=az.mp h;have:=av.mp hi;lia
theorem xe9 {n:Nat}{zs:List Int}(h:zs.length≠n∨(∃z∈zs,z<0∨(n:Int)<=z)∨¬zs.Nodup):J8 n (.tuple (zs.map PyData.int))=false:=by
 refine cw.mpr λe=>?_;obtain⟨h1,h2⟩:=yf6 e;rcases h with h|⟨z,a,h⟩|h
 .exact h h1
 .have:=xb3 (h2.mem_iff.mp a);lia
 .exact h (h2.nodup_iff.mpr (yi8 n))
theorem yw2 (t:List Nat)(h:0<t.length):P6 (tI t) none (some (-1))=tI (t.take (t.length-1)):=by
 unfold P6 tI;rw[HT.sIx_none,eK,eC,dG];congr 1;unfold HT.sIx;dsimp only;rw[if_pos (by decide),aa];lia
theorem yq2 {n:Nat}{ds:List PyData}(h:ds.all isW=false):J8 n (.tuple ds)=false:=by
 show(((decide (1<=ds.length)&&decide (ds.length<=60))&&(ds.all isW&&_))&&_)=false;rw[h,dC,dP,dC]
def yk5 (n:Nat)(d:PyData):Prop:=(∀ds,d=.tuple ds->ds.length<=100)/\J8 n d=false
theorem G5 {n:Nat}{zs:List Int}(hl:zs.length<=100)(h:zs.length≠n∨(∃z∈zs,z<0∨(n:Int)<=z)∨¬zs.Nodup):yk5 n (.tuple (zs.map PyData.int)):=⟨λds e=>by cases e;rw[aa];exact hl,xe9 h⟩
theorem A7 {H:Hp}{a:Addr}{t:List Nat}(e:H a=some (.tup (tI t))):Dt H (.ref a) (.tuple ((TM.iN t).map PyData.int)):=.tup e (by rw[iI];exact ya0 _)
def xe3 (oa:Addr)(x:List Nat)(c:Int):St->Hp->Prop:=λσ H=>(σ[0]?=some (some (.ref oa))/\σ[1]?=some (some (.int c)))/\H oa=some (.tup (tI x))
theorem xe3.stays {oa:Addr}{x:List Nat}{c:Int}:xk4 (xe3 oa x c):=λσ H H' s h=>⟨h.1,s _ _ h.2⟩
def yn2 (n:Nat)(x:List Nat)(c:Int):List PyData:=[.list (x.map λ(x:Nat)=>PyData.int x),.none,.str "()",.int (c % 10 ^ Int.toNat 30),.tuple ((TM.iN (x++[n])).map PyData.int),.tuple ((TM.iN (x.take (x.length-1))).map PyData.int),.tuple [],.tuple ((TM.iN (x++x.take 1)).map PyData.int),.list [],.dict []]
def zs2:Sp:=λvs H Q _=>∃(oa:Addr) (c:Int) (n:Nat) (x:List Nat),vs=[.ref oa,.int c]/\H oa=some (.tup (tI x))/\TM.IsT n x/\0<n/\n<=60/\∀(v:V) (d:PyData) (H':Hp),y8 H H'->Dt H' v d->yk5 n d->Q v H'
theorem C3:u6 ["_law_one","_law_cell_here","_law_some"] ["_law_one","_law_cell_here"] (x9 J1):=scq
theorem xb8 {X:Cx}{st:List Stmt}{R:TS->Prop}{t:TS}(h:DSs X st t)(r:R t):∃t,PSs X st t/\R t:=⟨t,h.h,r⟩
theorem zq7 {X:Cx}{st:Stmt}{t:TS}(h:DS X st t):DSs X [st] t:=⟨z7 h.h⟩
theorem zo3 (D:Def K mg "_law_other" J1 ["_law_one","_law_cell_here"] f fd)(B:Blt mg):o8 P w K mg base CX0 1 f fd ["_law_one","_law_cell_here"] zs2:=by
 refine D.F.ok C3 (λg H Q E h=>?_) (λcc A bd s H g Q E hr h=>?_)
 .obtain⟨oa,c,n,x,rfl,_⟩:=h;rfl
 obtain⟨oa,c,n,x,rfl,M,hX,X,hn,q⟩:=h;have a:=hX.length;have G:∀k,k<=300->k<=gn:=λk hk=>aM hk (by decide);have be:xl6 10 30:=⟨by decide,by decide,by decide⟩;have an:(0:Int)<10 ^ Int.toNat 30:=by decide
 have I:=xe3.stays (oa:=oa) (x:=x) (c:=c);have bb:¬(HT.sIx (tI x).length 0 none=0/\HT.sIx (tI x).length (tI x).length (some (-1))=(tI x).length):=λ⟨_,z⟩=>by
  rw[z9,a]at z;unfold HT.sIx at z;dsimp only at z;rw[if_pos (by decide)]at z;lia
 have bc:¬(HT.sIx (tI x).length 0 (some 1)=0/\HT.sIx (tI x).length (tI x).length none=(tI x).length):=λ⟨z,_⟩=>by
  have:=HT.sIx_nat (tI x).length 0 1;rw[show(some (1:Int))=some ((1:Nat):Int) from rfl,this,z9,a]at z;lia
 apply xb8
 .apply b4
  .refine xm2 (i:=2) C3.nd rfl (Or.inl rfl) (DE.mk (m9 (t:=yt9 (xe3 oa x c) (yn2 n x c)) (DA.h ?_)));refine X7 I ?_ ?_
   .exact yc7 (r8 V2 rfl B.list W1 (z0 (pv 0) z4)) (λσ H Q j k=>⟨_,j.1.1,oa,_,rfl,.inr (SqT.of j.2),λl hl=>k _ _ (y4 hl _) (.lst z3 (zt9 x))⟩)
   refine X7 I xp9 ?_;refine X7 I xq0 ?_;refine X7 I ?_ ?_
   .exact yc7 (w8 p8 (pv 1) (w8 xa4 z8 z8)) (λσ H Q j k=>⟨_,j.1.2,_,_,rfl,rfl,be,_,_,rfl,rfl,an,k _ H (y8.refl _) (.int _)⟩)
   refine X7 I ?_ ?_
   .refine yc7 (w8 zk7 (pv 0) (R5 (z0 (w6 y6 rfl B.len p4 (z0 (pv 0) z4)) z4))) (λσ H Q j k=>⟨_,j.1.1,_,j.1.1,oa,_,rfl,.inr (SqT.of j.2),(by show 1<=gn;decide),λp J=>?_⟩);refine zt6 (y4 J _ _ _ j.2) z3 (G _ (by rw[z9,a];show n+1<=300;lia)) λr H' s' C=>k _ _ ((y4 J _).trans s') (A7 ?_);rw[C,b8,z9,a];rfl
   refine X7 I ?_ ?_
   .refine yc7 (X8 yj2 (pv 0) P2 (V4 (yn5 zy6 z8))) (λσ H Q j k=>⟨_,j.1.1,_,rfl,_,rfl,oa,_,rfl,SqT.of j.2,bb,λp J=>k _ _ (y4 J _) (A7 ?_)⟩);rw[z3];show some (HO.tup (P6 (tI x) none (some (-1))))=_;rw[yw2 x (by lia)]
   refine X7 I (xq1 zw5 (by show 0<=gn;decide)) ?_;refine X7 I ?_ ?_
   .refine yc7 (w8 zk7 (pv 0) (X8 (SlR.or yj2 xj0) (pv 0) P2 (V4 z8))) (λσ H Q j k=>⟨_,j.1.1,_,j.1.1,_,rfl,?_⟩);by_cases h1:n=1
    .refine .inr ⟨oa,_,rfl,SqT.of j.2,HT.sIx_none ..,?_,?_⟩
     .rw[z9,a,h1];rfl
     .refine zt6 j.2 j.2 (G _ (by rw[z9,a];lia)) λr H' s' C=>k _ _ s' (A7 ?_);rw[C,b8,bF (by lia)]
    .refine .inl ⟨oa,_,rfl,SqT.of j.2,λ⟨_,z⟩=>?_,λp J=>?_⟩
     .have:=HT.sIx_nat (tI x).length (tI x).length 1;rw[show(some (1:Int))=some ((1:Nat):Int) from rfl,this,z9,a]at z;lia
     .have ec:P6 (tI x) none (some 1)=tI (x.take 1):=(zt7 (k:=1) (by rw[z9];lia)).trans (zy4 ..);rw[ec];refine zt6 (y4 J _ _ _ j.2) z3 (G _ (by rw[z9,z9,a,aX];lia)) λr H' s' C=>k _ _ ((y4 J _).trans s') (A7 ?_);rw[C,b8]
   refine X7 I (xp8 zw5 (by show 0<=gn;decide)) ?_;refine X7 I xp7 ?_;exact zw5
  apply b4
  .exact DS.mk (i3 (Q3 PySem.F.plainAttrs_list PySem.F.slot_list_append PySem.F.type_list_append i8 (pv 2) (z0 (r8 i6 rfl B.tuple Y2 (z0 (c5 [] ["_law_x"] rfl (zx1 (pv 0)) (λ_ _ _ _=>xa6 (u8 zr5 (pv 0) z8 (r6 _)) (pv 0) (V3 h7 (pv 0) z8 (r6 _)))) z4)) z4)))
  apply b4
  .exact DS.mk (i3 (Q3 PySem.F.plainAttrs_list PySem.F.slot_list_append PySem.F.type_list_append i8 (pv 2) (z0 (w8 zk7 (R5 (z0 (w6 y6 rfl B.len p4 (z0 (pv 0) z4)) z4)) (X8 yj2 (pv 0) (V4 z8) P2)) z4)))
  apply zq7;exact DS.mk (u4 (p5 t4 (pv 2) (w8 p8 (pv 1) z8) (λ_ _=>rfl)))
 refine⟨⟨⟨rfl,rfl⟩,M⟩,λg H1 s1 N=>⟨by rw[N.length];show 10<=gn;decide,λl hl=>?_⟩⟩;have av:g.length=10:=N.length;have s2:=y4 hl (.lst g);have e2:upd H1 l (.lst g) l=some (.lst g):=z3;generalize upd H1 l (.lst g)=H2 at s2 e2 ⊢;have bg:=s1.trans s2;have Y:=bg _ _ M;refine⟨_,rfl,.inl ⟨rfl,_,SqL.of e2⟩,_,rfl,oa,rfl,⟨_,SqT.of Y⟩,A4 (SqT.of Y) (x.map λ(x:Nat)=>if 1<x then V.int x else V.bl (decide (x=1))) (by rw[aa,z9]) (G _ (by rw[z9];lia)) ?_ ?_⟩
 .intro i H' v hv s' _ _ _ _;obtain⟨y,hy,rfl⟩:=U1 hv;refine⟨_,rfl,_,_,rfl,rfl,_,rfl,?_⟩;by_cases h1:1<y
  .rw[decide_eq_true (show((y:Nat):Int) > 1 by lia)];refine m7 ⟨_,rfl,y8.refl _,?_⟩;rw[af,hy];show some (if 1<y then V.int y else V.bl (decide (y=1)))=_;rw[if_pos h1]
  .rw[decide_eq_false (show ¬((y:Nat):Int) > 1 by lia)];refine o9 ⟨_,rfl,rfl,y8.refl _,?_⟩;rw[af,hy,u9];show some (if 1<y then V.int y else V.bl (decide (y=1)))=_;rw[if_neg h1,show decide (((y:Nat):Int)=1)=decide (y=1) from decide_eq_decide.mpr (by lia)]
 intro D' H3 hD s3 ar;refine⟨D',_,rfl,.inl ⟨SqL.of ar,λm au=>?_⟩⟩;have s4:=s3.trans (y4 au (.tup (x.map λ(x:Nat)=>if 1<x then V.int x else V.bl (decide (x=1)))));have e4:upd H3 m (.tup (x.map λ(x:Nat)=>if 1<x then V.int x else V.bl (decide (x=1)))) m=some (.tup (x.map λ(x:Nat)=>if 1<x then V.int x else V.bl (decide (x=1)))):=z3;generalize upd H3 m (.tup (x.map λ(x:Nat)=>if 1<x then V.int x else V.bl (decide (x=1))))=O at s4 e4 ⊢;have S:=s4 _ _ e2;have ad:∀k,k<=1000->k<gn:=λk hk=>cq hk (by decide);refine⟨l,_,_,rfl,rfl,S,ad _ (by lia),?_⟩;have k5:∀b o,O b=some o->b≠l->upd O l (.lst (g++[V.ref m])) b=some o:=λb o e nb=>by rw[y0 nb];exact e
 have s5:y8 H1 (upd O l (.lst (g++[V.ref m]))):=p7 (s2.trans s4) hl _;have e5:upd O l (.lst (g++[V.ref m])) l=some (.lst (g++[V.ref m])):=z3;have t5:=k5 _ _ e4 (l4 e4 S (by intro z;cases z));generalize upd O l (.lst (g++[V.ref m]))=H5 at s5 e5 t5 ⊢;have Z:=(s1.trans s5) _ _ M;refine⟨_,rfl,.inl ⟨rfl,_,SqL.of e5⟩,_,rfl,oa,_,rfl,.inr (SqT.of Z),(by show 1<=gn;decide),λp J=>?_⟩;rw[z9,a];have s6:=y4 J (.tup [V.int n]);have e6:upd H5 p (.tup [V.int n]) p=some (.tup [V.int n]):=z3;generalize upd H5 p (.tup [V.int n])=H6 at s6 e6 ⊢;refine⟨_,rfl,_,rfl,oa,_,rfl,SqT.of (s6 _ _ Z),bc,λp2 as=>?_⟩;rw[show P6 (tI x) (some 1) none=tI (x.drop 1) from(yg8 (k:=1) (by rw[z9];lia)).trans (zy3 ..)];have s7:=y4 as (.tup (tI (x.drop 1)));refine zt6 (s7 _ _ e6) z3 (G _ (by rw[z9,br];show 1+(x.length-1)<=300;lia)) λr R s8 ab=>?_;have L:=(s6.trans s7).trans s8;have e8:=L _ _ e5;refine⟨l,_,_,rfl,rfl,e8,ad _ (by rw[ag];show g.length+1<=1000;lia),?_⟩;have k9:∀b o,R b=some o->b≠l->upd R l (.lst (g++[V.ref m]++[V.ref r])) b=some o:=λb o e nb=>by rw[y0 nb];exact e
 have s9:y8 H1 (upd R l (.lst (g++[V.ref m]++[V.ref r]))):=p7 (s5.trans L) hl _;have e9:upd R l (.lst (g++[V.ref m]++[V.ref r])) l=some (.lst (g++[V.ref m]++[V.ref r])):=z3;have t9:=k9 _ _ (L _ _ t5) (l4 (L _ _ t5) e8 (by intro z;cases z));have r9:=k9 _ _ ab (l4 ab e8 (by intro z;cases z));generalize upd R l (.lst (g++[V.ref m]++[V.ref r]))=H9 at s9 e9 t9 r9 ⊢;have aw:∀l:List Nat,Dts H9 (l.map λ(x:Nat)=>if 1<x then V.int x else V.bl (decide (x=1))) (l.map λ(x:Nat)=>if 1<x then PyData.int x else PyData.bool (decide (x=1))):=λl=>by
  induction l with
  | nil=>exact .nil
  | cons x r ih =>
   refine .cons ?_ ih;show Dt _ (if 1<x then V.int x else V.bl (decide (x=1))) (if 1<x then PyData.int x else PyData.bool (decide (x=1)));by_cases h1:1<x
   .rw[if_pos h1,if_pos h1];exact .int _
   .rw[if_neg h1,if_neg h1];exact .bl _
 have ap:Dts H9 (g++[V.ref m]++[V.ref r]) (yn2 n x c++[.tuple (x.map λ(x:Nat)=>if 1<x then PyData.int x else PyData.bool (decide (x=1)))]++[.tuple ((TM.iN (n::x.drop 1)).map PyData.int)]):=((N.same s9).append (.cons (.tup t9 (aw x)) .nil)).append (.cons (A7 r9) .nil);have T:∀d∈yn2 n x c++[.tuple (x.map λ(x:Nat)=>if 1<x then PyData.int x else PyData.bool (decide (x=1)))]++[.tuple ((TM.iN (n::x.drop 1)).map PyData.int)],yk5 n d:=by
  have u:∀t:List Nat,(TM.iN t).length=t.length:=λt=>aa _;have pl:∀d:PyData,(∀ds,d≠.tuple ds)->J8 n d=false->yk5 n d:=λd h1 h2=>⟨λds e=>absurd e (h1 ds),h2⟩;intro d U;unfold yn2 at U;simp only[fU,ff,ay,ba,or_false]at U;rcases U with rfl|rfl|rfl|rfl|rfl|rfl|rfl|rfl|rfl|rfl|rfl|rfl
  .exact pl _ (λ_ e=>by cases e) rfl
  .exact pl _ (λ_ e=>by cases e) rfl
  .exact pl _ (λ_ e=>by cases e) rfl
  .exact pl _ (λ_ e=>by cases e) rfl
  .exact G5 (by rw[u,ag,a];show n+1<=100;lia) (.inl (by rw[u,ag,a];show n+1≠n;lia))
  .exact G5 (by rw[u,aX,a];lia) (.inl (by rw[u,aX,a];lia))
  .exact G5 (zs:=[]) (aY _) (.inl (aP X))
  .exact G5 (by rw[u,ag,aX,a];lia) (.inl (by rw[u,ag,aX,a];lia))
  .exact pl _ (λ_ e=>by cases e) rfl
  .exact pl _ (λ_ e=>by cases e) rfl
  .refine⟨λds e=>by cases e;rw[aa];lia,yq2 ?_⟩;refine cw.mpr λz=>?_;have:=bu.mp z _ (az.mpr ⟨0,hX.mem X,rfl⟩)
   cases this
  .exact G5 (by rw[u,aC,br,a];lia) (.inr (.inl ⟨(n:Int),ao,.inr (Int.le_refl _)⟩))
 obtain⟨k,ek,hk⟩:=yc0 (c:=c) (k:=12) (by decide);have ek:c % 12=(k:Int):=ek;have bv:(g++[V.ref m]++[V.ref r]).length=12:=by rw[ag,ag,av];rfl
 have W:(g++[V.ref m]++[V.ref r])[k]?=some ((g++[V.ref m]++[V.ref r])[k]'(by lia)):=ac _;obtain⟨d,U,aq⟩:=ap.get W;exact⟨_,rfl,_,rfl,_,_,rfl,rfl,(by show(0:Int)<12;decide),l,_,_,_,rfl,rfl,SqL.of e9,(by rw[ek];exact l8 W),q _ d H9 (s1.trans s9) aq (T d (ax U))⟩
theorem xf7 {f n:Nat}{Ps:List (List Nat)}{c:Int}(ok:xl7 f n Ps):(∀t∈mkT f n Ps c,TM.IsT n t)/\(∀x,TM.Grp n (λz=>z∈mkT f n Ps c) x↔TM.IsT n x/\InG f n Ps (mkT f n Ps c) x)/\TM.gM n (mkT f n Ps c)=szW f Ps/\(mkT f n Ps c).length<=200:=by
 have l:¬f=4:=by have:=ok.w;lia
 have E:Ps.flatten.length<=n:=TM.nodup_below ok.nd ok.lt;have H:=ok.n60;have few:=ok.few;have k:∀S∈Ps,S.Nodup/\(∀x∈S,x<n)/\S.length<=60/\0<S.length:=λS hS=>⟨TM.flat_nd ok.nd hS,λx G=>ok.lt x (TM.in_flat hS x G),aM (za5 hS) (by lia),bR.mpr (ok.ne S hS)⟩;by_cases j:f=1
 .obtain⟨R,rfl,y⟩:=ok.one (.inl j);obtain⟨i,g,s,_⟩:=k R ao;have u:[R].flatten=R:=by simp
  have e:mkT f n [R] c=TM.mk1 n R:=by unfold mkT;rw[if_pos j];rfl
  rw[e];obtain⟨h1,h2,m⟩:=TM.fam1 i g (by lia);refine⟨h1,λx=>(h2 x).trans ?_,m.trans ?_,?_⟩
  .unfold InG;rw[if_neg l,if_neg (by lia),if_pos j,u];exact⟨λh=>⟨h.1.1,h.1.2,h.2⟩,λh=>⟨⟨h.1,h.2.1⟩,h.2.2⟩⟩
  .unfold szW;rw[if_pos j];rfl
  .unfold TM.mk1;rw[aa,br];lia
 by_cases p:f=3
 .obtain⟨R,rfl,y⟩:=ok.one (.inr p);obtain⟨i,g,s,ps⟩:=k R ao;have u:[R].flatten=R:=by simp
  have e:mkT f n [R] c=TM.mk3 n R c:=by unfold mkT;rw[if_neg j,if_pos p];rfl
  rw[e];obtain⟨h1,h2,m⟩:=TM.fam3 i g y c;refine⟨h1,λx=>(h2 x).trans ?_,m.trans ?_,?_⟩
  .unfold InG;rw[if_neg l,if_neg (by lia),if_neg j,if_neg (by lia),u];show(∃r,TM.DD R.length r/\x=TM.sp n R r)↔TM.IsT n x/\TM.Only n R x/\∃r,TM.DD R.length r/\x=TM.sp n R r;refine⟨λh=>?_,λh=>h.2.2⟩;obtain⟨r,F,e⟩:=id h;have C:=TM.DD.isT ps F;exact⟨by rw[e];exact TM.sp_isT i g C,by rw[e];exact TM.sp_only i g C,h⟩
  .unfold szW;rw[if_neg j,if_pos p];rfl
  .show 2<=200;decide
 by_cases q:f=2
 .obtain⟨hm,sz,hs⟩:=ok.two q;obtain⟨R,Rs,rfl⟩:∃R Rs,Ps=R::Rs:=by
   cases Ps with
   | nil=>exact absurd rfl ok.some
   | cons R Rs=>exact⟨R,Rs,rfl⟩
  obtain⟨i,g,s,I⟩:=k R ao;have D:=hs R ao;have e:mkT f n (R::Rs) c=TM.mk2 n (od c) (R::Rs):=by unfold mkT;rw[if_neg j,if_neg p,if_pos q]
  rw[e];obtain⟨h1,h2,m⟩:=TM.fam2 (by lia) hm ok.nd ok.lt hs (od c);refine⟨h1,λx=>(h2 x).trans ?_,m.trans ?_,?_⟩
  .unfold InG;rw[if_neg l,if_neg (by lia),if_neg j,if_pos q];have B:∀a∈(R::Rs).flatten,((R::Rs).getD (TM.pix (R::Rs) a) []).getD 0 0∈(R::Rs).flatten/\TM.pix (R::Rs) (((R::Rs).getD (TM.pix (R::Rs) a) []).getD 0 0)=TM.pix (R::Rs) a:=λa o=>by
    have A:=TM.part_at (TM.pix_in o);have v:=TM.wIn (k _ A).2.2.2;exact⟨TM.in_flat A _ v,TM.pix_of ok.nd v⟩
   constructor
   .intro h;exact⟨h.isT,h.only,λa o=>h.kp a o _ (B a o).1 (B a o).2.symm⟩
   .rintro⟨L,K,h⟩;refine⟨L,K,λa o b hb e=>?_⟩;rw[h a o,h b hb,e]
  .unfold szW;rw[if_neg j,if_neg p,if_pos q]
  .show(TM.mk0 n (od c) R++TM.tw2 n R.length (R::Rs).flatten).length<=200;rw[ag];have:=TM.mk0_len i g (od c);show(TM.mk0 n (od c) R).length+2<=200;lia
 .have J:f=0:=by have:=ok.w;lia
  have e:mkT f n Ps c=Ps.flatMap (TM.mk0 n (od c)):=by unfold mkT;rw[if_neg j,if_neg p,if_neg q]
  rw[e];obtain⟨h1,h2,m⟩:=TM.fam0 ok.nd ok.lt (od c);refine⟨h1,λx=>(h2 x).trans ?_,m.trans ?_,?_⟩
  .unfold InG;rw[if_neg l,if_pos J];exact⟨λh=>⟨h.isT,h.only,h.kp⟩,λh=>⟨h.1,h.2.1,h.2.2⟩⟩
  .unfold szW;rw[if_neg j,if_neg p,if_neg q,dH]
  .have:∀Rs:List (List Nat),(∀S∈Rs,S.Nodup/\(∀x∈S,x<n)/\S.length<=60/\0<S.length)->(Rs.flatMap (TM.mk0 n (od c))).length<=60*Rs.length:=by
    intro Rs
    induction Rs with
    | nil=>intro _;exact aq _
    | cons R Rs ih =>
     intro h;have h1:=ih λS hS=>h S (ah _ hS);obtain⟨a,b,d,_⟩:=h R ao;have:=TM.mk0_len a b (od c);rw[dW,ag,aC];lia
   have:=this Ps k;lia
structure xw1 (way n:Nat) (Ps ts:List (List Nat)):Prop where
 ps:xs3 way n Ps ts
 n0:0<n
 n60:n<=60
 isT:∀t∈ts,TM.IsT n t
 len:ts.length<=200
 grp:∀x,TM.Grp n (λz=>z∈ts) x↔TM.IsT n x/\InG way n Ps ts x
 size:way<4->TM.gM n ts=szW way Ps
 few:Ps.length<=20
 small:way<4->way=3∨∀R∈Ps,R.length<=20
structure yq0 (way:Nat) (ss:List Nat):Prop where
 pos:∀s∈ss,1<=s
 ne:ss≠[]
 few:ss.length<=3
 sum:ss.sum<=60
 one:way=1∨way=3->∃s,ss=[s]/\3<=s
 two:way=2->2<=ss.length/\∃s,∀z∈ss,z=s
 len:way=3∨∀s∈ss,s<=20
 big:way=0->6<ss.getD 0 0->ss.length=1
theorem xd0:∀ss:List Nat,(∀s∈ss,1<=s/\s<=5)->ss.sum<=5*ss.length
 | [],_=>aq _
 | a::r,h=>by
  have h1:=xd0 r λs hs=>h s (ah _ hs)
  have h2:=(h a ao).2
  rw[de,aC]
  lia
theorem xj5 {b:List Nat}(h:∀s∈b,1<=s/\s<=5)(c:b≠[])(d:b.length<=3):yq0 0 b:=by
 have:=xd0 b h;refine⟨λs hs=>(h s hs).1,c,d,by lia,λz=>by lia,λz=>by lia,.inr λs hs=>aM (h s hs).2 (by decide),λ_ z=>?_⟩
 cases b with
 | nil=>exact absurd rfl c
 | cons a r =>
  have:=(h a ao).2;have z:6<a:=z;lia
theorem D7 {way s:Nat}(h1:1<=s)(h60:s<=60)(hw:way≠2)(h3:way=1∨way=3->3<=s)(h20:way=3∨s<=20):yq0 way [s] :=
 ⟨λz hz=>by rw[ar.mp hz];exact h1,du _ _,(by show 1<=3;decide),by rw[List.sum_singleton];exact h60,λz=>⟨s,rfl,h3 z⟩,λz=>absurd z hw,h20.imp id λh z hz=>by rw[ar.mp hz];exact h,λ_ _=>rfl⟩
theorem yd6 {α:Type}(v:α):∀k:Nat,(List.replicate k [v]).flatten=List.replicate k v
 | 0=>rfl
 | k+1=>by rw[ck,bw,yd6 v k,ck];rfl
theorem yh3:∀ss:List Nat,(TM.iN ss).sum=(ss.sum:Int)
 | []=>rfl
 | a::r=>by
  show((a:Nat):Int)+(TM.iN r).sum=(((a+r.sum:Nat)):Int)
  rw[yh3 r,cM]
theorem xf3 {g n:Nat}{W d:List Nat}(h:yq0 g d)(hw:g<4)(m:n<=60)(hs:d.sum<=n)(hW:TM.IsT n W):xl7 g n (G1 W d):=by
 have hl:(G1 W d).map List.length=d:=zq4 d W (by rw[hW.length];exact hs);have k:=zq3 d W;have c:∀R∈G1 W d,R.length∈d:=λR f=>by rw[←hl];exact az.mpr ⟨R,f,rfl⟩
 have b:=zi2 d W;refine⟨by rw[k];exact List.Nodup.sublist (dU _ _) hW.nodup,λa j=>?_,λR f e=>?_,hw,m,by rw[b];exact h.few,λe=>?_,λi=>?_,λi=>?_,?_⟩
 .rw[k]at j;exact hW.lt (bI j)
 .have:=h.pos _ (c R f);rw[e]at this;exact absurd this (by decide)
 .rw[e]at b;exact h.ne (cP.mp b.symm)
 .obtain⟨s,rfl,l⟩:=h.one i;refine⟨W.take s,rfl,?_⟩;have:[(W.take s).length]=[s]:=hl;injection this with this
  rw[this];exact l
 .obtain⟨h2,s,hs⟩:=h.two i;exact⟨by rw[b];exact h2,s,λR f=>hs _ (c R f)⟩
 .rcases h.len with e|e
  .exact .inl e
  .exact .inr λR f=>e _ (c R f)
def zs1 (K:W.Frag):Sp:=λvs H Q _=>∃(sa:Addr) (ns:List Int),vs=[.ref sa]/\SqL K H sa (ns.map V.int)/\∀(r pa ma:Addr) (way n:Nat) (Ps ts:List (List Nat)) (mas:List Addr) (H':Hp),ns.getD 0 0 % 5=(way:Int)->y8 H H'->H' r=some (.lst [.ref pa,.ref ma,.int n])->Q4 H' pa Ps->H' ma=some (.lst (mas.map V.ref))->Q6 H' mas ts->xw1 way n Ps ts->Q (.ref r) H'
theorem o1:u6 ["_law_script","_law_cell_here","_law_way","_law_many","_law_sizes","_law_window","_law_parts_here"] ["_law_script"] (x9 J0):=scq
theorem zo2 (D:Def K mg "_law_group" J0 ["_law_script"] f fd)(B:Blt mg)(KC:n5 P w K mg base 1 "_law_cell" ["_law_script","_law_k"] (zm5 K))(KT:n5 P w K mg base 1 "_law_turning" ["_law_cell_here","_law_many"] E8)(KU:n5 P w K mg base 1 "_law_spun" ["_law_cell_here"] ye9)(KA:n5 P w K mg base 1 "_law_parts" ["_law_window","_law_sizes"] zs3)(KM:n5 P w K mg base 3 "_law_makers_of" ["_law_way","_law_parts_here","_law_many","_law_cell_here"] xc4):o8 P w K mg base CX0 4 f fd ["_law_script"] (zs1 K):=by
 refine D.F.ok o1 (λvs H Q E h=>?_) (λcw A ca s H vs Q E T h=>?_)
 .obtain⟨O,M,rfl,_⟩:=h;rfl
 obtain⟨O,M,rfl,J,q⟩:=h;refine⟨_,z6 (v0 (i:=1) o1.nd rfl (Or.inl rfl) (w8 p8 (o6 KC T rfl (z0 (pv 0) (z0 z8 z4))) (w8 xa4 z8 z8)))
  (z6 (v0 (i:=2) o1.nd rfl (Or.inl rfl) (w8 p8 (o6 KC T rfl (z0 (pv 0) (z0 z8 z4))) z8))
  (z6 (o3 (u8 h7 (pv 2) z8 (r6 _)) (z6 (v0 (i:=3) o1.nd rfl (Or.inl rfl) (w8 l7 z8 (w8 p8 (pv 1) z8)))
   (z7 (u4 (m9 (z0 (m9 (z0 (r8 (Z8 rfl) rfl B.list W1 (z0 (r8 U6 rfl B.range S9 (z0 (pv 3) z4)) z4)) z4)) (z0 (m9 (z0 (o6 KT T rfl (z0 (o6 KC T rfl (z0 (pv 0) (z0 z8 z4))) (z0 (pv 3) z4))) z4)) (z0 (pv 3) z4))))))) u5)
  (z6 (v0 (i:=4) o1.nd rfl (Or.inl rfl) (m9 (z0 (w8 l7 z8 (w8 p8 (pv 1) z8)) z4)))
  (z6 (o3 (u8 h7 (pv 2) z8 (r6 _)) (z6 (v0 (i:=4) o1.nd rfl (Or.inl rfl) (X8 J6 (m9 (z0 (w8 l7 z8 (w8 p8 (pv 1) z8)) (z0 (w8 l7 z8 (w8 p8 (w8 g6 (pv 1) z8) z8)) (z0 (w8 l7 z8 (w8 p8 (w8 g6 (pv 1) z8) z8)) z4)))) P2 (V4 (w8 l7 z8 (w8 p8 (w8 g6 (pv 1) z8) z8)))))
   (z7 (o3 (u8 h7 (w6 y6 rfl B.len p4 (z0 (pv 4) z4)) z8 (r6 _)) (z6 (v0 (i:=4) o1.nd rfl (Or.inl rfl) (m9 (z0 (w8 l7 z8 (w8 p8 (pv 1) z8)) z4)))
    (z7 (o3 (u8 h7 (w8 p8 (w8 g6 (pv 1) z8) z8) z8 (r6 _)) (z7 (v0 (i:=4) o1.nd rfl (Or.inl rfl) (m9 (z0 (w8 l7 z8 (w8 p8 (pv 1) z8)) z4)))) u5))) u5))) u5)
  (z6 (o3 (u8 h7 (pv 2) z8 (r6 _)) (z7 (v0 (i:=4) o1.nd rfl (Or.inl rfl) (w8 xp4 (m9 (z0 (w8 l7 z8 (w8 p8 (pv 1) z8)) z4)) (w8 l7 z8 (w8 p8 (w8 g6 (pv 1) z8) z8))))) u5)
  (z6 (o3 (u8 h7 (pv 2) z8 (r6 _)) (z7 (v0 (i:=4) o1.nd rfl (Or.inl rfl) (m9 (z0 (w8 l7 z8 (w8 p8 (pv 1) z8)) z4)))) u5)
  (z6 (v0 (i:=3) o1.nd rfl (Or.inl rfl) (w8 l7 (w6 (zp7 rfl) rfl B.sum yv6 (z0 (pv 4) z4)) (w8 p8 (w8 g6 (pv 1) z8) (w8 N8 z8 (w6 (zp7 rfl) rfl B.sum yv6 (z0 (pv 4) z4))))))
  (z6 (o3 (PW.pt (yi6 (u8 zr5 (p5 t4 (pv 4) z8 (λ_ _=>rfl)) z8 (r6 _)) (zx4 (u8 h7 (pv 2) z8 (r6 _))))) (z7 (v0 (i:=3) o1.nd rfl (Or.inl rfl) (w8 l7 (p5 t4 (pv 4) z8 (λ_ _=>rfl)) (w8 p8 (w8 g6 (pv 1) z8) z8)))) u5)
  (z6 (v0 (i:=5) o1.nd rfl (Or.inl rfl) (r8 V2 rfl B.list W1 (z0 (o6 KT T rfl (z0 (o6 KU T rfl (z0 (o6 KC T rfl (z0 (pv 0) (z0 z8 z4))) z4)) (z0 (pv 3) z4))) z4)))
  (z6 (v0 (i:=6) o1.nd rfl (Or.inl rfl) (o6 KA T rfl (z0 (pv 5) (z0 (pv 4) z4))))
  (z7 (u4 (m9 (z0 (pv 6) (z0 (o6 KM T rfl (z0 (pv 2) (z0 (pv 6) (z0 (pv 3) (z0 (o6 KC T rfl (z0 (pv 0) (z0 z8 z4))) z4))))) (z0 (pv 3) z4)))))))))))))))),?_⟩
 have cb:xl6 10 30:=⟨by decide,by decide,by decide⟩;have ak:(0:Int)<10 ^ Int.toNat 30:=by decide
 obtain⟨C,hC⟩:∃C:Nat,M.getD 1 0 % 10 ^ Int.toNat 30=(C:Int):=⟨(M.getD 1 0 % 10 ^ Int.toNat 30).toNat,(bB (bh _ (by decide))).symm⟩;obtain⟨b,u,bu⟩:=yc0 (c:=M.getD 0 0) (k:=5) (by decide);have u:M.getD 0 0 % 5=(b:Int):=u;refine⟨_,rfl,O,M,1,rfl,J,_,_,rfl,rfl,cb,_,_,rfl,rfl,ak,?_⟩;dsimp only[Z0];rw[hC];refine⟨_,rfl,O,M,0,rfl,J,_,_,rfl,rfl,(by show(0:Int)<5;decide),?_⟩;dsimp only[Z0];rw[u];refine X6 (λσ H2=>σ=[some (.ref O),some (.int C),some (.int b),none,none,none,none]/\H2=H/\b<4) ?_ λN v=>?_;rotate_left
 .refine⟨_,rfl,rfl,_,rfl,?_⟩;rw[u9];by_cases w4:b=4
  .rw[decide_eq_true (by lia)];refine m7 ⟨_,rfl,_,_,rfl,rfl,(by show(0:Int)<60;decide),_,_,rfl,rfl,?_⟩;obtain⟨n,hn⟩:∃n:Nat,(1:Int)+(C:Int) % 60=(n:Int):=⟨1+C % 60,by lia⟩;have n0:0<n:=by lia
   have b':n<=60:=by lia
   dsimp only[Z0];rw[hn];refine⟨_,rfl,_,rfl,λp hp=>⟨p,_,_,rfl,z3,⟨by lia,by lia,by lia,by lia,by lia⟩,λl hl=>?_⟩⟩;rw[show((n:Int)-0).toNat=n by lia,O8];have g:y8 H (upd (upd H p (.rng 0 (n:Int))) l (.lst (tI (List.range n)))):=p7 (y4 hp _) ((y4 hp _).free hl) _;have o:upd (upd H p (.rng 0 (n:Int))) l (.lst (tI (List.range n))) l=some (.lst (tI (List.range n))):=z3;generalize upd (upd H p (.rng 0 (n:Int))) l (.lst (tI (List.range n)))=H1 at g o ⊢;refine⟨(by show 1<=gn;decide),λY an=>?_⟩;have s2:=y4 an (.lst [V.ref l]);have e2:upd H1 Y (.lst [V.ref l]) Y=some (.lst (([l]:List Addr).map V.ref)):=z3;generalize upd H1 Y (.lst [V.ref l])=H2 at s2 e2 ⊢;have au:=g.trans s2;refine⟨_,rfl,O,M,2,rfl,au.seq J,_,rfl,_,n,rfl,by lia,λta H3 t ak s3 tT h3=>?_⟩;refine⟨(by show 1<=gn;decide),λZ br=>?_⟩;have s4:=y4 br (.lst [V.ref ta]);have e4:upd H3 Z (.lst [V.ref ta]) Z=some (.lst (([ta]:List Addr).map V.ref)):=z3;generalize upd H3 Z (.lst [V.ref ta])=H4 at s4 e4 ⊢;refine⟨_,rfl,(by show 3<=gn;decide),λr ae=>?_⟩;have s5:=y4 ae (.lst [V.ref Y,V.ref Z,V.int n]);have ax:=s3.trans s4;have hT:∀z∈[t],TM.IsT n z:=λz m=>by rw[ar.mp m];exact tT
   have aq:=tT.grp_one (S:=λz=>z∈[t]) (TM.Grp.of hT ao) (λz m=>.inl (ar.mp m));have fl:[List.range n].flatten=List.range n:=by simp
   refine q r Y Z b n [List.range n] [t] [ta] _ u (((au.trans s3).trans s4).trans s5) z3 ⟨[l],s5 _ _ (ax _ _ e2),.cons (s5 _ _ (ax _ _ (s2 _ _ o))) .nil⟩ (s5 _ _ e4) (.cons (s5 _ _ (s4 _ _ h3)) .nil) ⟨⟨by rw[fl];exact aN,λa ha=>?_,λR hR e=>?_,du _ _,λ_=>rfl,bu,λ_=>⟨t,rfl,tT⟩⟩,n0,b',hT,(by show 1<=200;decide),λx=>?_,λh=>absurd w4 (by lia),(by show 1<=20;decide),λh=>absurd w4 (by lia)⟩
   .rw[fl]at ha;exact av.mp ha
   .rw[ar.mp hR]at e;have:=congrArg List.length e;rw[aA]at this;exact absurd this (dD n0)
   .unfold InG;rw[if_pos w4];exact⟨λh=>⟨h.isT hT,(aq x).mp h⟩,λh=>(aq x).mpr h.2⟩
  .rw[decide_eq_false (by lia)];exact o9 (v _ _ ⟨rfl,rfl,by lia⟩)
 rintro σ H0 ⟨rfl,e,bt⟩;have e':=e.symm;subst e';clear e;have z5:(0:Int)<5:=by decide
 refine⟨_,rfl,_,_,rfl,rfl,(by show(0:Int)<4;decide),_,_,rfl,rfl,(by show 1<=gn;decide),λl0 al=>?_⟩;have g:=y4 al (.lst [V.int (3+(C:Int) % 4)]);have o:upd H l0 (.lst [V.int (3+(C:Int) % 4)]) l0=some (.lst (tI [3+C % 4])):=by
  rw[z3];show _=some (HO.lst [V.int ((3+C % 4:Nat):Int)]);rw[show((3+C % 4:Nat):Int)=3+(C:Int) % 4 by lia]
 generalize upd H l0 (.lst [V.int (3+(C:Int) % 4)])=H1 at g o ⊢;dsimp only[Z0];refine X6 (λσ H2=>∃(l:Addr) (d:List Nat),σ=[some (.ref O),some (.int C),some (.int b),none,some (.ref l),none,none]/\y8 H H2/\H2 l=some (.lst (tI d))/\(b<2->yq0 b d)) ?_ λN v=>?_;rotate_left
 .refine⟨_,rfl,rfl,_,rfl,?_⟩;rw[u9];by_cases w0:b=0
  .subst w0;have ev:[V.int (1+(C:Int) % 5),V.int (1+(C:Int) / 5 % 5),V.int (1+(C:Int) / 25 % 5)]=tI [1+C % 5,1+C / 5 % 5,1+C / 25 % 5]:=by
    show _=[V.int ((1+C % 5:Nat):Int),V.int ((1+C / 5 % 5:Nat):Int),V.int ((1+C / 25 % 5:Nat):Int)];rw[show((1+C % 5:Nat):Int)=1+(C:Int) % 5 by lia,show((1+C / 5 % 5:Nat):Int)=1+(C:Int) / 5 % 5 by lia,show((1+C / 25 % 5:Nat):Int)=1+(C:Int) / 25 % 5 by lia]
   refine m7 ⟨_,rfl,_,_,rfl,rfl,z5,_,_,rfl,rfl,_,rfl,_,_,rfl,rfl,⟨by decide,by decide⟩,_,_,rfl,rfl,z5,_,_,rfl,rfl,_,rfl,_,_,rfl,rfl,⟨by decide,by decide⟩,_,_,rfl,rfl,z5,_,_,rfl,rfl,(by show 3<=gn;decide),λlx ad=>?_⟩;have ek:(1:Int)+(C:Int) / 125 % 3=((1+C / 125 % 3:Nat):Int):=by lia
   refine⟨_,rfl,_,_,rfl,rfl,⟨by decide,by decide⟩,_,_,rfl,rfl,(by show(0:Int)<3;decide),_,_,rfl,rfl,((1+C / 125 % 3:Nat):Int),congrArg V.int ek,lx,_,rfl,SqL.of z3,λX ab=>?_⟩;have s2:=(y4 ad (.lst [V.int (1+(C:Int) % 5),V.int (1+(C:Int) / 5 % 5),V.int (1+(C:Int) / 25 % 5)])).trans (y4 ab (.lst (P6 [V.int (1+(C:Int) % 5),V.int (1+(C:Int) / 5 % 5),V.int (1+(C:Int) / 25 % 5)] none (some ((1+C / 125 % 3:Nat):Int)))));have e2:upd (upd H1 lx (.lst [V.int (1+(C:Int) % 5),V.int (1+(C:Int) / 5 % 5),V.int (1+(C:Int) / 25 % 5)])) X (.lst (P6 [V.int (1+(C:Int) % 5),V.int (1+(C:Int) / 5 % 5),V.int (1+(C:Int) / 25 % 5)] none (some ((1+C / 125 % 3:Nat):Int)))) X=some (.lst (tI ([1+C % 5,1+C / 5 % 5,1+C / 25 % 5].take (1+C / 125 % 3)))):=by
    rw[z3,ev,zt7 (by rw[z9];show _<=3;lia),zy4]
   generalize upd (upd H1 lx (.lst [V.int (1+(C:Int) % 5),V.int (1+(C:Int) / 5 % 5),V.int (1+(C:Int) / 25 % 5)])) X (.lst (P6 [V.int (1+(C:Int) % 5),V.int (1+(C:Int) / 5 % 5),V.int (1+(C:Int) / 25 % 5)] none (some ((1+C / 125 % 3:Nat):Int))))=H2 at s2 e2 ⊢;refine⟨_,rfl,X,_,rfl,.inl (SqL.of e2),rfl,_,rfl,?_⟩;rw[u9,z9];by_cases h1:([1+C % 5,1+C / 5 % 5,1+C / 25 % 5].take (1+C / 125 % 3)).length=1
   .rw[decide_eq_true (by lia)];refine m7 ⟨_,rfl,_,_,rfl,rfl,(by show(0:Int)<10;decide),_,_,rfl,rfl,(by show 1<=gn;decide),λl2 bq=>?_⟩;have s3:=y4 bq (.lst [V.int (1+(C:Int) % 10)]);have e3:upd H2 l2 (.lst [V.int (1+(C:Int) % 10)]) l2=some (.lst (tI [1+C % 10])):=by
     rw[z3];show _=some (HO.lst [V.int ((1+C % 10:Nat):Int)]);rw[show((1+C % 10:Nat):Int)=1+(C:Int) % 10 by lia]
    generalize upd H2 l2 (.lst [V.int (1+(C:Int) % 10)])=H3 at s3 e3 ⊢;refine⟨_,rfl,_,_,rfl,rfl,⟨by decide,by decide⟩,_,_,rfl,rfl,(by show(0:Int)<8;decide),rfl,_,rfl,?_⟩;rw[u9];by_cases h2:(C:Int) / 10 % 8=1
    .rw[decide_eq_true h2];refine m7 ⟨_,rfl,_,_,rfl,rfl,(by show(0:Int)<7;decide),_,_,rfl,rfl,(by show 1<=gn;decide),λl3 ac=>v _ _ ⟨l3,[14+C % 7],rfl,((g.trans s2).trans s3).trans (y4 ac _),?_,λ_=>D7 (by lia) (by lia) (by decide) (λz=>by lia) (.inr (by lia))⟩⟩;rw[z3];show _=some (HO.lst [V.int ((14+C % 7:Nat):Int)]);rw[show((14+C % 7:Nat):Int)=14+(C:Int) % 7 by lia]
    .rw[decide_eq_false h2];exact o9 (v _ _ ⟨l2,[1+C % 10],rfl,(g.trans s2).trans s3,e3,λ_=>D7 (by lia) (by lia) (by decide) (λz=>by lia) (.inr (by lia))⟩)
   .rw[decide_eq_false (by lia)];refine o9 (v _ _ ⟨X,_,rfl,g.trans s2,e2,λ_=>xj5 (λs hs=>?_) ?_ ?_⟩)
    .have hs:=bI hs;simp only[ay,ba,or_false]at hs;rcases hs with rfl|rfl|rfl <;> lia
    .rw[show 1+C / 125 % 3=C / 125 % 3+1 by lia,fH];exact du _ _
    .exact aM (List.length_take_le _ _) (by lia)
  .rw[decide_eq_false (by lia)];exact o9 (v _ _ ⟨l0,_,rfl,g,o,λh=>D7 (by lia) (by lia) (by lia) (λz=>by lia) (.inr (by lia))⟩)
 clear g o al;rintro σ H2 ⟨X,cc,rfl,g,o,L⟩;refine X6 (λσ H2=>∃(l:Addr) (d:List Nat),σ=[some (.ref O),some (.int C),some (.int b),none,some (.ref l),none,none]/\y8 H H2/\H2 l=some (.lst (tI d))/\(b<3->yq0 b d)) ?_ λN v=>?_;rotate_left
 .refine⟨_,rfl,rfl,_,rfl,?_⟩;rw[u9];by_cases w2:b=2
  .subst w2;have ek:(2:Int)+(C:Int) / 3 % 2=((2+C / 3 % 2:Nat):Int):=by lia
   refine m7 ⟨_,rfl,_,_,rfl,rfl,(by show(0:Int)<3;decide),_,_,rfl,rfl,(by show 1<=gn;decide),λlx ad=>?_⟩;refine⟨_,rfl,_,_,rfl,rfl,⟨by decide,by decide⟩,_,_,rfl,rfl,(by show(0:Int)<2;decide),_,_,rfl,rfl,lx,((2+C / 3 % 2:Nat):Int),_,rfl,congrArg V.int ek,z3,by lia,by lia,aM (show 1*(((2+C / 3 % 2:Nat):Int)).toNat<=1000 by lia) (by decide),λp hp=>v _ _ ⟨p,List.replicate (2+C / 3 % 2) (1+C % 3),rfl,g.trans ((y4 ad _).trans (y4 hp _)),?_,λ_=>?_⟩⟩
   .rw[z3,aK,yd6];unfold tI;rw[List.map_replicate,show((1+C % 3:Nat):Int)=1+(C:Int) % 3 by lia]
   .have hm:∀z∈List.replicate (2+C / 3 % 2) (1+C % 3),z=1+C % 3:=λz m=>(List.mem_replicate.mp m).2;refine⟨λz m=>by rw[hm z m];lia,λe=>?_,by rw[bT];lia,?_,λz=>by lia,λ_=>⟨by rw[bT];lia,_,hm⟩,.inr λz m=>by rw[hm z m];lia,λz=>by lia⟩
    .have:=congrArg List.length e;rw[bT]at this;exact absurd this (by show ¬2+C / 3 % 2=0;lia)
    .have:=xd0 (List.replicate (2+C / 3 % 2) (1+C % 3)) λz m=>by rw[hm z m];lia
     rw[bT]at this;lia
  .rw[decide_eq_false (by lia)];exact o9 (v _ _ ⟨X,_,rfl,g,o,λh=>L (by lia)⟩)
 clear g o L;rintro σ H3 ⟨X,cc,rfl,g,o,L⟩;refine X6 (λσ H2=>∃(l:Addr) (d:List Nat),σ=[some (.ref O),some (.int C),some (.int b),none,some (.ref l),none,none]/\y8 H H2/\H2 l=some (.lst (tI d))/\yq0 b d) ?_ λN v=>?_;rotate_left
 .refine⟨_,rfl,rfl,_,rfl,?_⟩;rw[u9];by_cases w3:b=3
  .subst w3;refine m7 ⟨_,rfl,_,_,rfl,rfl,(by show(0:Int)<58;decide),_,_,rfl,rfl,(by show 1<=gn;decide),λl3 ac=>v _ _ ⟨l3,[3+C % 58],rfl,g.trans (y4 ac _),?_,D7 (by lia) (by lia) (by decide) (λz=>by lia) (.inl rfl)⟩⟩;rw[z3];show _=some (HO.lst [V.int ((3+C % 58:Nat):Int)]);rw[show((3+C % 58:Nat):Int)=3+(C:Int) % 58 by lia]
  .rw[decide_eq_false (by lia)];exact o9 (v _ _ ⟨X,_,rfl,g,o,L (by lia)⟩)
 clear g o L;rintro σ H4 ⟨l,d,rfl,g,o,m⟩;have ap:=m.sum;have U:0<d.length:=bR.mpr m.ne;have eI:H4 l=some (.lst ((TM.iN d).map V.int)):=by rw[←iI];exact o
 have ag:(0:Int)<61-(TM.iN d).sum:=by rw[yh3];lia
 obtain⟨n1,am,y,G⟩:∃n:Nat,(TM.iN d).sum+(C:Int) / 375 % (61-(TM.iN d).sum)=(n:Int)/\d.sum<=n/\n<=60:=by
  have h1:=bh ((C:Int) / 375) (show 61-(TM.iN d).sum≠0 by lia);have h2:=cH ((C:Int) / 375) ag;have h3:=yh3 d;generalize (C:Int) / 375 % (61-(TM.iN d).sum)=z at h1 h2 ⊢;exact⟨((TM.iN d).sum+z).toNat,by lia,by lia,by lia⟩
 refine⟨_,rfl,l,_,rfl,SqL.of eI,_,rfl,_,_,rfl,rfl,⟨by decide,by decide⟩,_,rfl,l,_,rfl,SqL.of eI,_,_,rfl,rfl,_,_,rfl,rfl,ag,_,_,rfl,rfl,?_⟩;dsimp only[Z0];rw[am];refine X6 (λσ H2=>∃n:Nat,σ=[some (.ref O),some (.int C),some (.int b),some (.int n),some (.ref l),none,none]/\H2=H4/\d.sum<=n/\n<=60) ?_ λN v=>?_;rotate_left
 .have h0:atI (tI d) 0=some (V.int ((d.getD 0 0:Nat):Int)):=i5 (i:=0) (L6 U);refine⟨_,rfl,l,_,_,_,rfl,rfl,SqL.of o,h0,_,_,rfl,rfl,_,rfl,?_⟩;by_cases h6:6<d.getD 0 0
  .rw[decide_eq_true (show((d.getD 0 0:Nat):Int) > 6 by lia)];refine m7 ⟨_,rfl,rfl,_,rfl,?_⟩;rw[u9];by_cases w0:b=0
   .rw[decide_eq_true (by lia)];have ab:=m.big w0 h6;have cq:d.sum=d.getD 0 0:=by
     match d,ab with
     | [a],_=>exact List.sum_singleton
    obtain⟨n,hn⟩:∃n:Nat,((d.getD 0 0:Nat):Int)+(C:Int) / 375 % 7=(n:Int):=⟨d.getD 0 0+C / 375 % 7,by lia⟩;have dc:d.getD 0 0<=20:=by
     rcases m.len with e|e
     .lia
     .exact e _ (C9 U)
    refine m7 ⟨_,rfl,l,_,_,_,rfl,rfl,SqL.of o,h0,_,rfl,_,_,rfl,rfl,⟨by decide,by decide⟩,_,_,rfl,rfl,(by show(0:Int)<7;decide),_,_,rfl,rfl,?_⟩;dsimp only[Z0];rw[hn];exact v _ _ ⟨n,rfl,rfl,by lia,by lia⟩
   .rw[decide_eq_false (by lia)];exact o9 (v _ _ ⟨n1,rfl,rfl,y,G⟩)
  .rw[decide_eq_false (show ¬((d.getD 0 0:Nat):Int) > 6 by lia)];exact o9 (v _ _ ⟨n1,rfl,rfl,y,G⟩)
 clear am y G n1;rintro σ H5 ⟨n,rfl,e,af,I⟩;subst e;have n0:0<n:=by
  have h1:=m.pos _ (C9 U);have:d.getD 0 0<=d.sum:=by
   clear af h1 U eI ag o ap
   cases d with
   | nil=>exact aY _
   | cons a r=>rw[de];exact dF _ _
  lia
 refine⟨_,rfl,O,M,2,rfl,g.seq J,_,rfl,λz=>?_⟩;refine⟨_,rfl,z,n,rfl,by lia,λta H6 W dd s6 WT h6=>?_⟩;refine⟨ta,_,rfl,.inr (SqT.of h6),λwa bv=>?_⟩;have s7:=y4 bv (.lst (tI W));have e7:upd H6 wa (.lst (tI W)) wa=some (.lst (tI W)):=z3;generalize upd H6 wa (.lst (tI W))=H7 at s7 e7 ⊢;have a':=s6.trans s7;refine⟨_,rfl,_,rfl,wa,l,W,d,rfl,e7,a' _ _ o,by rw[WT.length];exact af,by rw[WT.length];exact I,aM m.few (by decide),λY H8 an s8 hP=>?_⟩;have j:=xf3 m bt I af WT;have aw:=(g.trans a').trans s8;refine⟨_,rfl,_,rfl,_,rfl,_,rfl,_,rfl,O,M,3,rfl,aw.seq J,b,Y,n,G1 W d,_,rfl,hP,j,λZ bx H9 s9 h9 bp=>?_⟩;refine⟨_,rfl,(by show 3<=gn;decide),λr ae=>?_⟩;have sA:=y4 ae (.lst [V.ref Y,V.ref Z,V.int n]);obtain⟨f1,f2,f3,f4⟩:=xf7 (c:=M.getD 3 0) j;exact q r Y Z b n (G1 W d) _ bx _ u ((aw.trans s9).trans sA) z3 ((hP.same s9).same sA) (sA _ _ h9) (bp.same sA) ⟨⟨j.nd,j.lt,j.ne,j.some,λh=>by obtain⟨R,e,_⟩:=j.one (.inr h);rw[e];rfl,by lia,λh=>absurd h (by lia)⟩,n0,I,f1,f4,f2,λ_=>f3,aM j.few (by decide),λ_=>j.len⟩
theorem yw1 (a:List Int)(lo hi:Option Int):∃ms:List Int,P6 (a.map V.int) lo hi=ms.map V.int/\ms.length<=a.length:=by
 refine⟨(a.drop (HT.sIx (a.map V.int).length 0 lo)).take (HT.sIx (a.map V.int).length (a.map V.int).length hi-HT.sIx (a.map V.int).length 0 lo),?_,?_⟩
 .unfold P6;rw[dG,eN]
 .rw[aX,br];lia
theorem V9:u6 ["_law_script","_law_way","_law_parts_here","_law_makers","_law_many","_law_group_here","_law_window","_law_part","_law_size_here","_law_one","_law_cell_here","_law_asked_here"] ["_law_script"] (x9 zf1):=scq
theorem xp1 {cG cC cB cS:Addr}(D:Def K mg "law" zf1 ["_law_script"] f fd)(B:Blt mg)(cg:Y4 K cG B0)(KG:yp9 P w K mg base 7 cG "Group" ["self","many","makers"] (ye6 cG cC cB cS))(cc:Q5 P w K mg base 2 cG "size" ["self"] (yo5 cG cC cB cS))(ab:Q5 P w K mg base 4 cG "has" ["self","thing"] (xc1 cG cC cB cS))
  (KC:n5 P w K mg base 1 "_law_cell" ["_law_script","_law_k"] (zm5 K)) (KR:n5 P w K mg base 4 "_law_group" ["_law_script"] (zs1 K)) (KZ:n5 P w K mg base 2 "_law_size" ["_law_way","_law_parts_here"] ye8) (KO:n5 P w K mg base 1 "_law_other" ["_law_one","_law_cell_here"] zs2) (KA:n5 P w K mg base 2 "_law_asked" ["_law_one","_law_window","_law_cell_here"] zs0) (KI:n5 P w K mg base 3 "_law_in" ["_law_way","_law_parts_here","_law_makers","_law_one"] xc3):o8 P w K mg base CX0 9 f fd ["_law_script"] (yo6 K):=by
 refine D.F.ok V9 (λvs H Q E h=>?_) (λfw A ex s H vs Q E T h=>?_)
 .obtain⟨a,ns,rfl,_⟩:=h;rfl
 obtain⟨a,ns,rfl,hS,gc,eh,q⟩:=h;apply xb8
 .apply b4
  .exact DS.mk (v0 (i:=1) V9.nd rfl (Or.inl rfl) (w8 p8 (o6 KC T rfl (z0 (pv 0) (z0 z8 z4))) z8))
  apply b4
  .exact DS.mk (zl4 (o6 KR T rfl (z0 (pv 0) z4)) (xq4 rfl (h8 (p6 (i:=2) V9.nd rfl (Or.inl rfl)) (h8 (p6 (i:=3) V9.nd rfl (Or.inr rfl)) (h8 (p6 (i:=4) V9.nd rfl (Or.inl rfl)) K4)))))
  apply b4
  .exact DS.mk (v0 (i:=5) V9.nd rfl (Or.inl rfl) (zw8 KG T rfl (z0 (pv 4) (z0 (r8 V2 rfl B.list W1 (z0 (pv 3) z4)) z4))))
  apply b4
  .exact DS.mk (v0 (i:=6) V9.nd rfl (Or.inl rfl) (m9 z4))
  apply b4
  .exact DS.mk (l9 PassesOwn.never rfl (c9 (pv 2)) (p6 (i:=7) V9.nd rfl (Or.inl rfl)) (z7 (v0 (i:=6) V9.nd rfl (Or.inl rfl) (w8 zk6 (pv 6) (pv 7)))))
  apply b4
  .exact DS.mk (v0 (i:=8) V9.nd rfl (Or.inl rfl) (zl0 cg.cls cc T (pv 5)))
  apply b4
  .exact DS.mk (o3 (PW.pt (yd3 (E2 (P8 (w6 W6 rfl B.isinstance Z7 (z0 (pv 8) (z0 (D5 (v:=.ty "int") rfl B.int yg7 rfl) z4))))) (zl8 (P8 (w6 W6 rfl B.isinstance Z7 (z0 (pv 8) (z0 (D5 (v:=.ty "bool") rfl B.bool yk8 rfl) z4))))))) (z7 (u4 Z5)) u5)
  apply b4
  .exact DS.mk (o3 (PW.pt (yi6 (u8 xk8 (pv 1) z8 (r6 _)) (zx4 (u8 zr6 (pv 8) (o6 KZ T rfl (z0 (pv 1) (z0 (pv 2) z4))) (r6 _))))) (z7 (u4 Z5)) u5)
  apply b4
  .exact DS.mk (v0 (i:=9) V9.nd rfl (Or.inl rfl) (r8 (G7 rfl) rfl B.tuple Y2 (z0 (r8 U6 rfl B.range S9 (z0 (pv 4) z4)) z4)))
  apply b4
  .exact DS.mk (l9 PassesOwn.never rfl (c9 (w8 xh4 (m9 (z0 z8 z4)) (X8 J6 (pv 0) (V4 z8) (V4 z8)))) (p6 (i:=10) V9.nd rfl (Or.inr rfl))
    (z6 (o3 (u8 zr5 (w6 y6 rfl B.len p4 (z0 (pv 3) z4)) z8 (r6 _)) (z7 (v0 (i:=9) V9.nd rfl (Or.inl rfl) (r8 i6 rfl B.tuple Y2 (z0 (c5 [3,10] ["_law_x","_law_makers","_law_cell_here"] rfl (zx1 (pv 9)) (λ_ _ _ _=>p5 Z9 (p5 t4 (pv 1) (w8 p8 (w8 g6 (pv 2) z8) (w6 y6 rfl B.len p4 (z0 (pv 1) z4))) (λ_ _=>rfl)) (pv 0) (λ_ _=>rfl))) z4)))) u5)
    (z6 (o3 (PW.pt (yd3 (u8 R1 (X2 cg.cls ab T (pv 5) (z0 (pv 9) z4)) Z5 (r6 _)) (zl8 (u8 R1 (X2 cg.cls ab T (pv 5) (z0 (o6 KO T rfl (z0 (pv 9) (z0 (w8 g6 (pv 10) z8) z4))) z4)) Z5 (r6 _))))) (z7 (u4 Z5)) u5)
    (z6 (v0 (i:=11) V9.nd rfl (Or.inl rfl) (o6 KA T rfl (z0 (pv 9) (z0 (pv 6) (z0 (pv 10) z4)))))
    (z6 (o3 (P8 (o6 KI T rfl (z0 (pv 1) (z0 (pv 2) (z0 (pv 3) (z0 (pv 11) z4)))))) (z7 (o3 (u8 R1 (X2 cg.cls ab T (pv 5) (z0 (pv 11) z4)) Z5 (r6 _)) (z7 (u4 Z5)) u5)) (z7 (o3 (u8 R1 (X2 cg.cls ab T (pv 5) (z0 (pv 11) z4)) Z5 (r6 _)) (z7 (u4 Z5)) u5)))
    (z7 (o3 (u8 R1 (X2 cg.cls ab T (pv 5) (z0 (pv 9) z4)) Z5 (r6 _)) (z7 (u4 Z5)) u5)))))))
  apply zq7;exact DS.mk (u4 (V3 h7 (zl0 cg.cls cc T (pv 5)) (pv 8) (r6 _)))
 obtain⟨dk,ai,gg⟩:=yc0 (c:=ns.getD 0 0) (k:=5) (by decide);have ai:ns.getD 0 0 % 5=(dk:Int):=ai;refine⟨_,rfl,a,ns,0,rfl,hS,_,_,rfl,rfl,(by show(0:Int)<5;decide),?_⟩;dsimp only[Z0];rw[ai];refine⟨_,rfl,a,ns,rfl,hS,λr pa m C n Ps ts J H1 es s1 cv cj bl U ok=>?_⟩;have ew:C=dk:=by lia
 subst ew;refine⟨r,_,rfl,SqL.of cv,rfl,_,_,rfl,_,_,rfl,_,_,rfl,rfl,?_⟩;have cs:J.length=ts.length:=Paired.length U;have n0:=ok.n0;have av:=ok.n60;have ae:=ok.isT;refine⟨_,rfl,_,rfl,m,_,rfl,.inl (SqL.of bl),λl hl=>?_⟩;have s2:=y4 hl (.lst (J.map V.ref));have e2:(upd H1 l (.lst (J.map V.ref))) l=some (.lst (J.map V.ref)):=z3;generalize upd H1 l (.lst (J.map V.ref))=H2 at s2 e2 ⊢;have t2:=U.same s2;refine λg dg hg aq eo=>⟨g,dg,l,n,J,ts,rfl,z3,n0,av,?_,?_,ok.len,ae,λS H3 cf ad _=>⟨rfl,?_⟩⟩
 .rw[y0 (y9 e2 hg),y0 (y9 e2 aq)];exact e2
 .exact Paired.imp' (λb z e=>by rw[y0 (y9 e hg),y0 (y9 e aq)];exact e) t2
 have s3:y8 H2 H3:=λb u h=>cf b u (by simpa using y9 h hg) (by rw[y0 (y9 h hg),y0 (y9 h aq)];exact h);obtain⟨G,gh,A',fh,I,ed,ee,ef⟩:=ad.at';have bm:S.chn.many n n=TM.gM n ts:=by rw[ad.many_g,TM.gM_many ae]
 have al:=s2.trans s3;have cr:=al _ _ bl;have eg:=cj.same al;have cx:=U.same al;have ck:=(s1.trans al).seq hS;clear ed ee ef hg aq eo cf s3 s2 e2 t2 cv bl cj U hl al hS;have n1:∀o,H3 g=some o->o=.ins cG G _:=λo e=>by rw[I]at e;exact(Option.some.inj e).symm
 obtain⟨ga,I⟩:∃fs,H3 g=some (.ins cG G fs)/\fs.lookup ("size":Str)=none/\fs.lookup ("has":Str)=none:=⟨_,I,rfl,rfl⟩;clear n1;obtain⟨I,da,aj⟩:=I;refine⟨(by show 0<=gn;decide),λw0 cz=>?_⟩;have s4:=y4 cz (.lst []);have e4:upd H3 w0 (.lst []) w0=some (.lst (tI [])):=z3;generalize upd H3 w0 (.lst [])=H4 at s4 e4 ⊢;obtain⟨ak,ah,hP⟩:=eg;have ep:(ak.map V.ref).length=Ps.length:=by rw[aa];exact Paired.length hP
 have ge:Ps.flatten.length<=n:=TM.nodup_below ok.ps.nd ok.ps.lt;have bp:∀k,k<=1000->k<=gn:=λk hk=>aM hk (by decide);refine⟨_,rfl,pa,rfl,⟨_,SqL.of (s4 _ _ ah)⟩,Z4 (K:=K) (a:=pa) (xs:=ak.map V.ref) (λi σ H5=>∃(wa:Addr) (v7:Option V),σ=[some (.ref a),some (.int C),some (.ref pa),some (.ref m),some (.int n),some (.ref g),some (.ref wa),v7,none,none,none,none]/\y8 H3 H5/\H5 wa=some (.lst (tI (Ps.take i).flatten)))
  ⟨w0,none,rfl,s4,e4⟩ (λi σ H5 _ ⟨_,_,_,W,_⟩=>SqL.of (W _ _ ah)) ?_ ?_⟩
 .rintro i y σ H5 hy ⟨wa,v7,rfl,W,e5⟩;rw[af]at hy
  cases eb:ak[i]? with
  | none=>rw[eb]at hy;cases hy
  | some b =>
   rw[eb]at hy
   cases hy
   obtain⟨R,hR,eR⟩:=paired_at2 hP i b eb;have et:(Ps.take (i+1)).flatten=(Ps.take i).flatten++R:=by
    rw[be,hR,cy];simp
   have en:((Ps.take (i+1)).flatten).length<=Ps.flatten.length:=by
    conv=>rhs;rw[←bA (i+1) Ps,cy,ag]
    exact dF _ _
   rw[et,ag]at en;refine⟨_,rfl,_,rfl,wa,b,_,_,rfl,rfl,e5,W _ _ eR,bp _ (by rw[z9,z9];lia),λp hp=>⟨p,_,rfl,W.trans (y4 hp _),?_⟩⟩;rw[z3,et,b8]
 rintro σ H5 ⟨wa,v7,rfl,W,e5⟩;rw[ep,aT]at e5;have ch:=ad.same W;clear e4 s4 cz w0;refine⟨_,rfl,g,G,_,rfl,W _ _ I,da,g,n,ts,S,rfl,ch,?_⟩;refine⟨_,rfl,_,_,_,_,rfl,G4.int _,B1 yh5,_,rfl,o9 ?_⟩;refine⟨_,rfl,_,_,_,_,rfl,G4.int _,B1 yb1,_,rfl,o9 ?_⟩;dsimp only[xl3];have bo:C<4->((S.chn.many n n:Nat):Int)=((szW C Ps:Nat):Int):=λh=>by rw[bm,ok.size h]
 refine X6 (λσ H6=>σ=[some (.ref a),some (.int C),some (.ref pa),some (.ref m),some (.int n),some (.ref g),some (.ref wa),v7,some (.int ((S.chn.many n n:Nat):Int)),none,none,none]/\H6=H5) ?_ λN hN=>?_;rotate_left
 .refine⟨_,rfl,_,_,rfl,rfl,_,rfl,?_⟩;by_cases w4:C<4
  .rw[decide_eq_true (show((C:Nat):Int)<4 by lia)];refine m7 ⟨_,rfl,_,rfl,_,rfl,C,pa,Ps,rfl,⟨ak,W _ _ ah,Paired.imp' (λ_ _ e=>W _ _ e) hP⟩,w4,ok.ps.some,by lia,ok.few,ok.small w4,rfl,_,rfl,?_⟩;rw[u9,decide_eq_true (bo w4)];exact o9 (hN _ _ ⟨rfl,rfl⟩)
  .rw[decide_eq_false (show ¬((C:Nat):Int)<4 by lia)];exact o9 (hN _ _ ⟨rfl,rfl⟩)
 rintro σ H6 ⟨rfl,e⟩;subst e;refine⟨_,rfl,_,rfl,λp hp=>⟨p,0,(n:Int),rfl,z3,⟨by lia,by lia,by lia,by lia,by lia⟩,λo ho=>?_⟩⟩;rw[show((n:Int)-0).toNat=n by lia,O8];have s7:y8 H6 (upd (upd H6 p (.rng 0 (n:Int))) o (.tup (tI (List.range n)))):=p7 (y4 hp _) ((y4 hp _).free ho) _;have o7:upd (upd H6 p (.rng 0 (n:Int))) o (.tup (tI (List.range n))) o=some (.tup (tI (List.range n))):=z3;generalize upd (upd H6 p (.rng 0 (n:Int))) o (.tup (tI (List.range n)))=H7 at s7 o7 ⊢;refine⟨(by show 1<=gn;decide),λl1 co=>?_⟩;have s8:=y4 co (.lst [V.int 0]);have e8:upd H7 l1 (.lst [V.int 0]) l1=some (.lst [V.int 0]):=z3;generalize upd H7 l1 (.lst [V.int 0])=H8 at s8 e8 ⊢;obtain⟨ms,ea,fe⟩:=yw1 ns (some 4) (some 64);have bs:=(W.trans s7).trans s8;refine⟨_,rfl,_,rfl,_,rfl,a,_,rfl,bs.seq ck,λl2 cp=>?_⟩;rw[ea];have s9:=y4 cp (.lst (ms.map V.int));have e9:upd H8 l2 (.lst (ms.map V.int)) l2=some (.lst (ms.map V.int)):=z3;have f9:=s9 _ _ e8;generalize upd H8 l2 (.lst (ms.map V.int))=H9 at s9 e9 f9 ⊢;refine⟨l1,l2,_,_,rfl,rfl,SqL.of f9,SqL.of e9,bp _ (by rw[aa];show 1+ms.length<=1000;lia),λl3 cq=>?_⟩;have sA:=y4 cq (.lst ([V.int 0]++ms.map V.int));have eA:upd H9 l3 (.lst ([V.int 0]++ms.map V.int)) l3=some (.lst (((0:Int)::ms).map V.int)):=z3;generalize upd H9 l3 (.lst ([V.int 0]++ms.map V.int))=HA at sA eA ⊢;have L:=(bs.trans s9).trans sA;have dd:=(((s7.trans s8).trans s9).trans sA);have oA:=((s8.trans s9).trans sA) _ _ o7;have X:=ad.same L;have mA:=L _ _ cr;have tA:=cx.same L;have PA:Q4 HA pa Ps:=⟨ak,L _ _ ah,Paired.imp' (λ_ _ e=>L _ _ e) hP⟩;have wA:=dd _ _ e5;have gA:=L _ _ I;clear L dd bs s9 e9 f9 s8 e8 o7 s7 e5 W ah hP cx cr I ad ch co cp cq ck;refine⟨l3,rfl,⟨_,SqL.of eA⟩,Z4 (K:=K) (a:=l3) (xs:=((0:Int)::ms).map V.int) (λi σ HB=>∃(Y:Addr) (x:List Nat) (bu ay:Option V),σ=[some (.ref a),some (.int C),some (.ref pa),some (.ref m),some (.int n),some (.ref g),some (.ref wa),v7,some (.int ((S.chn.many n n:Nat):Int)),some (.ref Y),bu,ay]/\y8 HA HB/\HB Y=some (.tup (tI x))/\TM.IsT n x/\TM.Grp n (λz=>z∈ts) x)
  ⟨o,List.range n,none,none,rfl,y8.refl _,oA,TM.IsT.range n,.one⟩ (λi σ HB _ ⟨_,_,_,_,_,sB,_⟩=>SqL.of (sB _ _ eA)) ?_ ?_⟩
 .rintro i y σ HB hi ⟨bq,x0,bu,ay,rfl,Z,O,M,bw⟩;obtain⟨z,hz,rfl⟩:=xf1 hi;show Z0 10 (V.int z) _ _ _;dsimp only[Z0];refine X6 (λσ HC=>∃(Y:Addr) (x:List Nat),σ=[some (.ref a),some (.int C),some (.ref pa),some (.ref m),some (.int n),some (.ref g),some (.ref wa),v7,some (.int ((S.chn.many n n:Nat):Int)),some (.ref Y),some (.int z),ay]/\y8 HA HC/\HC Y=some (.tup (tI x))/\TM.IsT n x/\TM.Grp n (λz=>z∈ts) x) ?_ λN hN=>?_;rotate_left
  .refine⟨_,rfl,m,_,rfl,.inl (SqL.of (Z _ _ mA)),_,_,rfl,rfl,_,rfl,?_⟩;rw[aa,cs];by_cases h0:0<ts.length
   .rw[decide_eq_true (show((ts.length:Nat):Int) > 0 by lia)];obtain⟨k,ek,hk⟩:=yc0 (c:=z / 4) h0;obtain⟨b,hb⟩:∃b,J[k]?=some b:=⟨_,ac (by lia)⟩;obtain⟨t,ht,ei⟩:=paired_at2 (tA.same Z) k b hb;have tT:=ae t (ax ht);refine m7 ⟨_,rfl,bq,rfl,⟨_,SqT.of O⟩,A4 (SqT.of O) (tI (TM.beh x0 t)) (by rw[z9,z9,(M.beh tT).length,M.length]) (bp _ (by rw[z9,M.length];lia)) ?_ ?_⟩
    .intro j HC y hy sC _ _ _ _;obtain⟨p,hp,rfl⟩:=U1 hy;have eq:p<n:=M.lt (ax hp);have as:t[p]?=some (t.getD p 0):=tT.get_step eq;have m':=sC _ _ (Z _ _ mA);refine⟨_,rfl,_,rfl,_,_,rfl,rfl,⟨by decide,by decide⟩,_,rfl,m,_,rfl,.inl (SqL.of m'),_,_,rfl,rfl,(by rw[aa];lia),m,_,_,V.ref b,rfl,rfl,SqL.of m',(by rw[aa,cs,ek];exact l8 (by rw[af,hb];rfl)),_,rfl,b,_,_,_,rfl,rfl,SqT.of (sC _ _ ei),i5 as,y8.refl _,xr2 x0 t j hp as⟩
    .intro l HC hl sC em;exact⟨l,_,rfl,.inl ⟨SqL.of em,λtp as=>hN _ _ ⟨tp,TM.beh x0 t,rfl,Z.trans (sC.trans (y4 as _)),z3,M.beh tT,TM.Grp.beh ae bw (TM.Grp.of ae (ax ht))⟩⟩⟩
   .rw[decide_eq_false (show ¬((ts.length:Nat):Int) > 0 by lia)];exact o9 (hN _ _ ⟨bq,x0,rfl,Z,O,M,bw⟩)
  clear Z O M bw bq x0;rintro σ HB ⟨Y,x,rfl,sB,ar,xT,xG⟩;refine⟨_,rfl,g,G,_,rfl,sB _ _ gA,aj,_,rfl,.inl ⟨g,Y,n,ts,S,x,rfl,X.same sB,ar,xT,λc1 H2 s2 ej=>?_⟩⟩;obtain rfl:c1=true:=ej.mpr xG;refine⟨true,true,rfl,rfl,_,rfl,o9 ?_⟩;have df:=sB.trans s2;refine⟨_,rfl,g,G,_,rfl,df _ _ gA,aj,_,rfl,_,rfl,_,_,rfl,rfl,⟨by decide,by decide⟩,Y,_,n,x,rfl,s2 _ _ ar,xT,n0,av,λv d H3 s3 hd ba=>?_⟩;have dh:=df.trans s3;refine .inr ⟨g,v,n,ts,S,d,rfl,X.same dh,hd,ba.1,ba.2,λH4 s4=>⟨false,false,rfl,rfl,_,rfl,o9 ?_⟩⟩;have di:=dh.trans s4;have ct:=((s2.trans s3).trans s4) _ _ ar;have hW:Ps.flatten≠[]:=by
   obtain⟨R,hR⟩:=List.exists_mem_of_ne_nil _ ok.ps.some;obtain⟨y,hy⟩:=List.exists_mem_of_ne_nil _ (ok.ps.ne R hR);exact List.ne_nil_of_mem (TM.in_flat hR y hy)
  refine⟨_,rfl,_,rfl,_,rfl,Y,wa,z,n,x,Ps.flatten,rfl,ct,xT,di _ _ wA,ok.ps.nd,ok.ps.lt,hW,n0,av,λra H5 u W uT hu=>?_⟩;have am:=di.trans W;have cu:=W _ _ ct;have cn:=ok.grp u;dsimp only[Z0];refine X6 (λσ HC=>σ=[some (.ref a),some (.int C),some (.ref pa),some (.ref m),some (.int n),some (.ref g),some (.ref wa),v7,some (.int ((S.chn.many n n:Nat):Int)),some (.ref Y),some (.int z),some (.ref ra)]/\y8 H5 HC) ?_ λN hN=>?_;rotate_left
  .refine⟨_,rfl,_,rfl,_,rfl,_,rfl,C,pa,m,ra,n,Ps,ts,u,J,rfl,PA.same am,am _ _ mA,tA.same am,hu,uT,av,ok.ps,λc2 H6 s6 cl=>?_⟩;refine⟨_,rfl,?_⟩;have aw:=am.trans s6
   cases c2 with
   | true =>
    refine m7 ⟨_,rfl,g,G,_,rfl,aw _ _ gA,aj,_,rfl,.inl ⟨g,ra,n,ts,S,u,rfl,X.same aw,s6 _ _ hu,uT,λc3 H7 s7 bk=>?_⟩⟩;obtain rfl:c3=true:=bk.mpr (cn.mpr ⟨uT,cl.mp rfl⟩);exact⟨true,true,rfl,rfl,_,rfl,o9 (hN _ _ ⟨rfl,s6.trans s7⟩)⟩
   | false =>
    refine o9 ⟨_,rfl,g,G,_,rfl,aw _ _ gA,aj,_,rfl,.inl ⟨g,ra,n,ts,S,u,rfl,X.same aw,s6 _ _ hu,uT,λc3 H7 s7 bk=>?_⟩⟩;obtain rfl:c3=false:=cw.mpr λe=>by
     have:=cl.mpr (cn.mp (bk.mp e)).2
     cases this
    exact⟨false,false,rfl,rfl,_,rfl,o9 (hN _ _ ⟨rfl,s6.trans s7⟩)⟩
  rintro σ HC ⟨rfl,sC⟩;have bt:=am.trans sC;refine⟨_,rfl,g,G,_,rfl,bt _ _ gA,aj,_,rfl,.inl ⟨g,Y,n,ts,S,x,rfl,X.same bt,sC _ _ cu,xT,λc4 HD sD el=>?_⟩⟩;obtain rfl:c4=true:=el.mpr xG;exact⟨true,true,rfl,rfl,_,rfl,o9 ⟨Y,x,_,_,rfl,bt.trans sD,sD _ _ (sC _ _ cu),xT,xG⟩⟩
 .rintro σ HB ⟨Y,x,bu,ay,rfl,sB,ar,xT,xG⟩;refine⟨_,rfl,g,G,_,rfl,sB _ _ gA,da,g,n,ts,S,rfl,X.same sB,_,rfl,rfl,?_⟩;rw[decide_eq_true rfl];exact q _
end
def DI (K:W.Frag)(x:Str)(st:Stmt):Prop:=∃f fd,Fun K x x st f fd/\W.nsIn K mainGlobals x=some (some (.ref f))
def MI (K:W.Frag)(c:Addr)(m q:Str)(st:Stmt):Prop:=∃f fd,Fun K m q st f fd/\W.findIn K (.ref c) m=some (some (.ref f))/\W.isFn K (.ref f)=true
def xp0 (K:W.Frag)(c:Addr)(f:Str):Bool:=match W.findIn K (.ref c) f with|some none=>true|_=>false
def BA (x q:Str)(st:Stmt)(ps:List Str):Prop:=∀(kV doc pm:Value) (an:Option Addr) (cdv ct:Value) (us:List Value),us.length=ps.length->bindArgs (W.fnOf x q (Q9 st) (T7 st) (x9 st) .none kV doc pm an cdv ct) ⟨us,[]⟩=pure (ps.zip us)
structure CI (K:W.Frag) (c:Addr) (x:Str) (fs:List Str):Prop where
 n:W.nsIn K mainGlobals x=some (some (.ref c))
 cc:Cls K c
 ma:W.makesIn K c=true
 kp:W.keepIn K (.ref c)=true
 no:fs.all (xp0 K c)=true
structure ZZ (P:gq) (w:gv) (K:W.Frag) (mg:Str->Option Value) (base:Heap):Prop where
 mg:∀{x:Str} {v:Value},W.nsIn K mainGlobals x=some (some v)->mg x=some v
section
variable {P:gq}{w:gv}{K:W.Frag}{mg:Str->Option Value}{base:Heap}{x m q:Str}{st:Stmt}{ps fs:List Str}{k:Nat}{sp:Sp}{c C TE:Addr}{tl:List Value}
section
variable {f:Addr}{oc:Value}{od an:Option Addr}{sl:Array (Option Value)}{kV dc pm cd ct:Value}
theorem DI.of (a:W.nsIn K mainGlobals x=some (some (.ref f)))(l:K.lookup f=some ⟨oc,od,.func (W.fnOf x x (Q9 st) (T7 st) (x9 st) .none kV dc pm an cd ct),sl⟩)(h:W.codeIn K cd x=true)(k:W.keepIn K (.ref f)=true):DI K x st:=⟨f,_,zu0 l h k,a⟩
theorem MI.of (a:W.findIn K (.ref c) m=some (some (.ref f)))(l:K.lookup f=some ⟨oc,od,.func (W.fnOf m q (Q9 st) (T7 st) (x9 st) .none kV dc pm an cd ct),sl⟩)(h:W.codeIn K cd q=true)(k:W.keepIn K (.ref f)=true)(i:W.isFn K (.ref f)=true):MI K c m q st:=⟨f,_,zu0 l h k,a,i⟩
end
theorem CI.of (a:W.nsIn K mainGlobals x=some (some (.ref c)))(pg:W.plainGet K c Str.empty=true)(hd:W.hasDictIn K c=true)(po:W.plainOver K c=true)(sa:W.findIn K (.ref c) "__setattr__"=some (some (.builtin "object.__setattr__")))(mk:W.makesIn K c=true)(kp:W.keepIn K (.ref c)=true)(no:fs.all (xp0 K c)=true):CI K c x fs:=⟨a,⟨pg,hd,po,sa⟩,mk,kp,no⟩
theorem CI.f (I:CI K c x fs):Y4 K c fs:=⟨I.cc,λf hf=>by
 have h:=bu.mp I.no f hf
 unfold xp0 at h
 split at h
 .assumption
 .cases h⟩
theorem DI.kn (I:DI K x st)(Z:ZZ P w K mg base)(G:∀{f fd},Def K mg x st ps f fd->o8 P w K mg base CX0 k f fd ps sp)
  (h:BA x x st ps:=by trivial):n5 P w K mg base k x ps sp:=by
 obtain⟨f,fd,F,a⟩:=I;exact Def.known ⟨F,F.binds h,Z.mg a⟩ (G ⟨F,F.binds h,Z.mg a⟩)
theorem DI.kx {R:Prop}(I:DI K x st)(Z:ZZ P w K mg base)(G:∀{f fd},Def K mg x st ps f fd->R)
  (h:BA x x st ps:=by trivial):R:=by
 obtain⟨f,fd,F,a⟩:=I;exact G ⟨F,F.binds h,Z.mg a⟩
theorem MI.kn (I:MI K c m q st)(Z:ZZ P w K mg base)(G:∀{f fd},Fun K m q st f fd->o8 P w K mg base CX0 k f fd ps sp)
  (h:BA m q st ps:=by trivial):Q5 P w K mg base k c m ps sp:=by
 obtain⟨f,fd,F,a,i⟩:=I;exact⟨f,fd,G F,⟨a,i,F.kp⟩,F.binds h⟩
theorem MI.mak (I:MI K c "__init__" q st)(Z:ZZ P w K mg base)(N:CI K c x fs)(G:∀{f fd},Fun K "__init__" q st f fd->o8 P w K mg base CX0 k f fd ps sp)
  (h:BA "__init__" q st ps:=by trivial):yp9 P w K mg base k c x ps sp:=by
 obtain⟨f,fd,F,a,i⟩:=I;exact⟨f,fd,G F,⟨N.ma,a,i,N.kp⟩,Z.mg N.n,F.binds h⟩
end
def MF (K:W.Frag)(f:Addr)(oc:Value)(od:Option Addr)(sl:Array (Option Value))(kV dc pm:Value)(an:Option Addr)(cd ct:Value)(m q:Str)(st:Stmt):Prop:=K.lookup f=some ⟨oc,od,.func (W.fnOf m q (Q9 st) (T7 st) (x9 st) .none kV dc pm an cd ct),sl⟩
theorem all_mk {l:W.OpenLaw}{w:gv}{K:W.Frag}{h:Heap}{mg:Str->Option Value}{fa z:Addr}(X:K.In h)(G:h.Ns mainGlobals mg)(A:mg "law"=some (.ref fa))
  (a0:DI K "is_whole" B9) (a1:DI K "is_turning" J3) (a2:DI K "is_turning_of" R9) (a3:DI K "still" zx5) (a4:DI K "behind" zl9) (a5:DI K "back" yj1) (a6:DI K "need_group" J4) (a7:DI K "_law_cell" E3) (a8:DI K "_law_turning" O1) (a9:DI K "_law_loop" E5) (a10:DI K "_law_spun" E7) (a11:DI K "_law_spread" M1) (a12:DI K "_law_exchange" R8) (a13:DI K "_law_loop_of" O0) (a14:DI K "_law_parts" J2) (a15:DI K "_law_factorial" T3) (a16:DI K "_law_size" E6) (a17:DI K "_law_even" E4) (a18:DI K "_law_ringed" M0) (a19:DI K "_law_power_of" W3) (a20:DI K "_law_in" zd4) (a21:DI K "_law_makers_of" T4) (a22:DI K "_law_asked" K9) (a23:DI K "_law_other" J1) (a24:DI K "_law_group" J0)
  {od an:Option Addr} {sl:Array (Option Value)} {oc kV dc pm cd ct:Value} (aL:W.nsIn K mainGlobals "law"=some (some (.ref z))) (lL:MF K z oc od sl kV dc pm an cd ct "law" "law" zf1) (cL:W.codeIn K cd "law"=true) (kL:W.keepIn K (.ref z)=true)
  {av aw ax:Tok} (gc0:W.nsIn K mainGlobals "MOST_PLACES"=some (some (.int 60 av))) (gc1:W.nsIn K mainGlobals "MOST_MAKERS"=some (some (.int 200 aw))) (gc2:W.nsIn K mainGlobals "STILL_LINE"=some (some (.int 0 ax)))
  {c:Addr} (nBook:CI K c "Book" zh7) {d:Addr} (nStep:CI K d "Step" C5) {b:Addr} (nChain:CI K b "Chain" U7) {e:Addr} (nGroup:CI K e "Group" B0) (iBookinit:MI K c "__init__" "Book.__init__" R6) (iBookput:MI K c "put" "Book.put" B8) (iBookput_behind:MI K c "put_behind" "Book.put_behind" V6) (iBookput_back:MI K c "put_back" "Book.put_back" W2) (iStepinit:MI K d "__init__" "Step.__init__" R7) (iStepput_mover:MI K d "put_mover" "Step.put_mover" T2) (iStepput_place:MI K d "put_place" "Step.put_place" Y7) (iStepnext_pair:MI K d "next_pair" "Step.next_pair" T1) (iChaininit:MI K b "__init__" "Chain.__init__" U9) (iChainsifted:MI K b "sifted" "Chain.sifted" V7) (iChainholds:MI K b "holds" "Chain.holds" N9) (iChainfound_mover:MI K b "found_mover" "Chain.found_mover" b0) (iChainsettle:MI K b "settle" "Chain.settle" P9) (iChaintake:MI K b "take" "Chain.take" K7) (iChainsize:MI K b "size" "Chain.size" K6) (iGroupinit:MI K e "__init__" "Group.__init__" T0) (iGroupsize:MI K e "size" "Group.size" K8) (iGrouphas:MI K e "has" "Group.has" R3)
  (zz:(["len","range","list","tuple","isinstance","int","bool","str","enumerate","sorted","sum","all","set","reversed","divmod","max","min"]:List Str).all (λx=>match W.nsIn K mainGlobals x with|some none=>true|_=>false)=true) :
  ∃fd:gD,(∀(s:gh) (v:Value),BindsTo s fd ⟨[v],[]⟩ [("_law_script",v)])/\∀base:Heap,K.In base->base.Ns mainGlobals mg->o8 l.prog w K mg base CX0 9 fa fd ["_law_script"] (yo6 K):=by
 cases A.symm.trans (W.mg_of X G aL)
 have bi:∀x∈(["len","range","list","tuple","isinstance","int","bool","str","enumerate","sorted","sum","all","set","reversed","divmod","max","min"]:List Str),mg x=none:=λx hx=>W.mg_none_of X G (by have h:=bu.mp zz x hx;split at h <;> first|assumption|cases h)
 have B:Blt mg:=by constructor <;> exact bi _ (by simp)
 have j9:zn3 mg "MOST_PLACES" (.int 60):=⟨_,W.mg_of X G gc0,⟨_,rfl⟩⟩
 have P:zn3 mg "MOST_MAKERS" (.int 200):=⟨_,W.mg_of X G gc1,⟨_,rfl⟩⟩
 have j7:zn3 mg "STILL_LINE" (.int 0):=⟨_,W.mg_of X G gc2,⟨_,rfl⟩⟩
 refine⟨W.fnOf "law" "law" (Q9 zf1) (T7 zf1) (x9 zf1) .none kV dc pm an cd ct,λs v=>.of_eq rfl,λbase _ _=>?_⟩
 have Z:ZZ l.prog w K mg base:=⟨λa=>W.mg_of X G a⟩
 have j:=nBook.f
 have i:=nStep.f
 have g:=nChain.f
 have y:=nGroup.f
 have r:=a0.kn Z λD=>yc4 D B
 have ao:=a1.kn Z λD=>zo5 D B r j9
 have q:=a2.kn Z λD=>zd1 D B ao
 have t:=a3.kn Z λD=>xa1 D B
 have j8:=a4.kn Z λD=>yt0 D B
 have p:=a5.kn Z λD=>xh2 D B
 have ap:=a6.kn Z λD=>zo6 D B r q j9 P
 have S:=iBookinit.mak Z nBook λF=>zv5 F B j t j7
 have j5:=iBookput.kn Z λF=>yc3 F B j
 have E:=iBookput_behind.kn Z λF=>B5 F B j j5 j8 j7
 have C:=iBookput_back.kn Z λF=>zc8 F B j j5 p
 have V:=iStepinit.mak Z nStep λF=>zv7 F B i t j7
 have k:=iStepput_mover.kn Z λF=>za1 F B i
 have R:=iStepput_place.kn Z λF=>za2 F B i p
 have Q:=iStepnext_pair.kn Z λF=>za0 F B i
 have T:=iChaininit.mak Z nChain λF=>zn6 F B g S V
 have J:=iChainsifted.kn (sp:=yj6 b c d) Z λF=>zf8 F B g i j8
 have j6:=iChainholds.kn Z λF=>zk1 F B g J
 have H:=iChainfound_mover.kn Z λF=>F9 F B g j i j8 R E C k j6
 have I:=iChainsettle.kn Z λF=>zf7 F B g i Q H
 have M:=iChaintake.kn Z λF=>zn8 F B g j i j5 k j6 I
 have L:=iChainsize.kn (sp:=yj7 b c d) Z λF=>zn7 F B g i
 have U:=iGroupinit.mak Z nGroup λF=>zn9 F B y g ap T M
 have O:=iGroupsize.kn Z λF=>zo0 F B y g L
 have N:=iGrouphas.kn Z λF=>zv6 F B y g q j6
 have m:=a7.kn Z λD=>zv8 D B
 have o:=a8.kn Z λD=>zg0 D B
 have n:=a9.kn Z λD=>zw0 D B
 have am:=a10.kn Z λD=>zw2 D B
 have u:=a11.kn Z λD=>zk5 D B
 have ab:=a12.kn Z λD=>zc9 D B u
 have af:=a13.kn Z λD=>zf9 D B u
 have ai:=a14.kn Z λD=>zo4 D B
 have ac:=a15.kn Z λD=>za3 D B
 have al:=a16.kn Z λD=>zw1 D B ac
 have aa:=a17.kn Z λD=>zv9 D B n
 have ak:=a18.kn Z λD=>zk4 D B
 have aj:=a19.kn Z λD=>zd0 D B n
 have ae:=a20.kn Z λD=>yi0 D B aj aa ak
 have ag:=a21.kn Z λD=>za4 D B af u ab
 have Y:=a22.kn Z λD=>zo1 D B o u
 have ah:=a23.kn Z λD=>zo3 D B
 have ad:=a24.kn Z λD=>zo2 D B m o am ai ag
 exact xp1 ⟨zu0 (st:=zf1) lL cL kL,(zu0 (st:=zf1) lL cL kL).binds (ps:=["_law_script"]) λ_ _ _ _ _ _ us hl=>match us,hl with|[_],_=>rfl,W.mg_of X G aL⟩ B y U O N m ad al ah Y ae
end Tb
open PySem PySem.W PyProof.Rows
set_option maxRecDepth 100000 in
set_option maxHeartbeats 0 in
theorem PySem.Challenge.cw_turnbase_k35_has_of_known_groups_holds : PySem.Challenge.rw_turnbase_k35_has_of_known_groups.Holds := by
 refine Tb.early.2 Tb.early2 Tb.early3 Tb.early4 Tb.early5 ?_;refine Tb.walk (l := PySem.Challenge.rw_turnbase_k35_has_of_known_groups) (k := 9) (x := "_law_script") rfl rfl ⟨rfl, by decide, by decide⟩ (fun w h Y => PySem.W.kIn_of Y) ?F
 case F =>
  intro w mg fa h KX G hmg;refine' Tb.all_mk KX G hmg ?a0 ?a1 ?a2 ?a3 ?a4 ?a5 ?a6 ?a7 ?a8 ?a9 ?a10 ?a11 ?a12 ?a13 ?a14 ?a15 ?a16 ?a17 ?a18 ?a19 ?a20 ?a21 ?a22 ?a23 ?a24 ?aL ?lL ?cL ?kL ?gc0 ?gc1 ?gc2 ?nBook ?nStep ?nChain ?nGroup ?iBookinit ?iBookput ?iBookput_behind ?iBookput_back ?iStepinit ?iStepput_mover ?iStepput_place ?iStepnext_pair ?iChaininit ?iChainsifted ?iChainholds ?iChainfound_mover ?iChainsettle ?iChaintake ?iChainsize ?iGroupinit ?iGroupsize ?iGrouphas ?zz;(case a0 | a1 | a2 | a3 | a4 | a5 | a6 | a7 | a8 | a9 | a10 | a11 | a12 | a13 | a14 | a15 | a16 | a17 | a18 | a19 | a20 | a21 | a22 | a23 | a24 => refine' Tb.DI.of ?x1 ?x2 ?x3 ?x4; (case x1 | x2 | x3 | x4 => first | k_is | kernel_rfl | (unfold Tb.MF; k_is)));(case nBook | nStep | nChain | nGroup => refine' Tb.CI.of ?x1 ?x2 ?x3 ?x4 ?x5 ?x6 ?x7 ?x8; (case x1 | x2 | x3 | x4 | x5 | x6 | x7 | x8 => first | k_is | kernel_rfl | (unfold Tb.MF; k_is)));(case iBookinit | iBookput | iBookput_behind | iBookput_back | iStepinit | iStepput_mover | iStepput_place | iStepnext_pair | iChaininit | iChainsifted | iChainholds | iChainfound_mover | iChainsettle | iChaintake | iChainsize | iGroupinit | iGroupsize | iGrouphas => refine' Tb.MI.of ?x1 ?x2 ?x3 ?x4 ?x5; (case x1 | x2 | x3 | x4 | x5 => first | k_is | kernel_rfl | (unfold Tb.MF; k_is)));(case aL | lL | cL | kL | gc0 | gc1 | gc2 | zz => first | k_is | kernel_rfl | (unfold Tb.MF; k_is))

