import PyProof.Rows.All
import KE.KDictList
import KE.KIsAll
import KE.KSortTup
import KE.LcSums
import KE.KItem
import Lean
import PySem.Challenge.RW_turnbase_k48_sides_act
open Array renaming length_toList → aX, getElem?_toList → cZ, perm_iff_toList_perm → eE, append_assoc → fm
open Bool renaming false_ne_true → aE, and_eq_true → bp, false_eq_true → bC, eq_false_iff → cX, eq_iff_iff → dJ, false_and → eJ, and_false → eL, or_true → fD
open Int renaming toNat_natCast → bY, emod_nonneg → cK, not_lt → dw, le_refl → dA, le_trans → dH, le_of_lt → dI, natCast_nonneg → dR, emod_lt_of_pos → dS, fmod_eq_emod_of_nonneg → eO, fdiv_eq_ediv_of_nonneg → eP, toNat_of_nonneg → fu, natCast_mul → fB
open List renaming length_map → aa, getElem?_eq_getElem → ae, mem_singleton → af, getElem?_map → ah, getElem?_eq_some_iff → al, mem_cons_of_mem → ao, length_append → aq, mem_map → au, mem_of_getElem? → av, mem_cons → aw, mem_cons_self → ax, getD_eq_getElem?_getD → ay, size_toArray → aA, mem_append → aC, length_cons → aD, map_append → aG, mem_append_left → aH, getElem?_append_left → aI, mem_append_right → aJ, nodup_cons → aK, length_range → aN, map_cons → aR, getElem?_eq_none → aS, mem_nil_iff → aV, getElem?_append_right → aZ, take_add_one → bc, append_nil → be, mem_range → bg, getElem?_range → bh, pairwise_map → bj, take_length → bn, nodup_append → bu, mem_iff_getElem → bv, map_map → bx, append_assoc → bz, mem_filterMap → bA, length_singleton → bB, not_mem_nil → bD, length_drop → bE, map_congr_left → bF, take_append_of_le_length → bG, length_take → bI, getElem?_of_mem → bJ, length_pos_of_mem → bL, length_set → bM, pairwise_iff_getElem → bN, take_append_drop → bO, length_replicate → bP, lookup_cons → bQ, getElem_mem → bR, mem_of_mem_take → bS, getElem?_set_ne → bU, take_of_length_le → bV, length_nil → bW, length_erase_of_mem → bZ, mem_flatten → cf, getElem?_replicate → ci, all_eq_true → ck, map_nil → cn, getElem?_set_self → cp, ext_getElem? → cy, mem_erase_of_ne → cE, mem_flatMap → cH, find?_cons → cJ, length_eq_zero_iff → cM, take_zero → cO, flatMap_cons → cP, find?_cons_of_pos → cQ, find?_cons_of_neg → cU, drop_of_length_le → cV, toList_toArray → df, idxOf_lt_length_of_mem → dh, perm_ext_iff_of_nodup → dr, getElem?_drop → dv, drop_eq_getElem_cons → dz, range'_succ → dC, nodup_range → dD, filter_cons → dE, mem_filter → dF, forIn_cons → dG, nodup_nil → dL, map_id → dM, filterMap_cons → dP, map_take → dQ, take_sublist → dU, find?_append → dW, cons_ne_nil → dZ, of_mem_zip → eB, mem_or_eq_of_mem_set → eM, sum_cons → eQ, map_drop → eR, getElem?_take_of_lt → eS, any_cons → eU, all_cons → eV, getElem?_toArray → eZ, mergeSort_perm → fj, filter_sublist → fk, zip_cons_cons → ft, getElem_inj → fz, all_map → fC
open Nat renaming le_refl → ag, ne_of_lt → aO, zero_le → aP, lt_of_lt_of_le → aQ, le_trans → aW, lt_irrefl → aY, le_of_lt → bH, lt_succ_self → bK, not_lt_zero → bX, sub_self → cq, lt_or_eq_of_le → cv, lt_succ_of_lt → cz, le_succ → cF, le_of_not_lt → cI, mul_le_mul_right → de, sub_zero → di, ne_of_gt → dq, pow_le_pow_right → dN, one_mul → dO, lt_trichotomy → dX, le_of_lt_succ → dY, one_pos → eh, add_mul → eA, min_eq_left → eD, lt_or_ge → eX, add_comm → eY, mul_one → fh, lt_of_le_of_lt → fx, succ_le_of_lt → fy, mod_eq_of_lt → fA, zero_add → fE, succ_mul → fF, pow_succ → fH, mul_comm → fI, lt_trans → fJ, le_total → fK, le_of_eq → fM
open Option renaming getD_some → cY, map_eq_some_iff → dB, isSome_iff_exists → eG, toList_some → ff, isSome_map → fg, getD_none → fq, map_some → fv
open PyProof.Rows renaming seqObj → gl
open PySem renaming wpAny_bind → fN, Shared → fO, wpAny_pure → fP, sizeLine → fQ, Program → fR, wpAny → fS, starEach → fU, model → fV, World → fW, Around → fX, wpAny_holding → fY, wpAny_mono → fZ, bootBuiltins → ge, keywordEach → gf, FuncData → gh
open PySem.Heap renaming get?_push_of_some → ar, lt_size → az, get?_push_size → aB, size_push → cN
set_option Elab.async false
set_option linter.all false
set_option compiler.extract_closed false
set_option genSizeOf false
local macro_rules | `(tactic| trivial) => `(tactic| (intro _ _ _ _ _ _ us hl; rcases us with _ | ⟨_, _ | ⟨_, _ | ⟨_, _ | ⟨_, _ | ⟨_, _ | ⟨_, _⟩⟩⟩⟩⟩⟩ <;> first | rfl | simp at hl))
namespace Tb
open PySem PySem.W
def xf7 (st:SharedT->Thread->Option (SharedT×Thread))(ok thr:Thread->Bool):Nat->SharedT->Thread->Option SharedT
 | 0,_,_=>none
 | n+1,s,t=>match thr t with
  | true=>some s
  | false=>match ok t with
   | false=>none
   | true=>match st s t with
    | some (s',t')=>xf7 st ok thr n s' t'
    | none=>none
theorem ys8 {tb:String->Option Builtin}{p:fR}{w:fW}{n₀:Nat}{ann:Option Value}:∀{n:Nat} {s r:SharedT} {t:Thread},xf7 (stepT (denote tb) p w) (stepOk n₀ ann) through n s t=some r->topRun tb p w n₀ ann n s.abs t=some r.abs
 | 0,_,_,_,h=>by cases h
 | n+1,s,r,t,h=>by
  unfold xf7 at h
  unfold topRun
  cases ht:through t with
  | true=>rw[ht]at h;cases h;rfl
  | false =>
   rw[ht]at h
   cases hk:stepOk n₀ ann t with
   | false=>rw[hk]at h;cases h
   | true =>
    rw[hk]at h
    cases hs:stepT (denote tb) p w s t with
    | none=>rw[hs]at h;cases h
    | some q =>
     obtain⟨s₂,t₂⟩:=q
     rw[hs]at h
     rw[stepT_spec hs]
     exact ys8 h
def zh8:List Obj->Nat->BT->Option BT
 | [],_,T=>some T
 | o::r,k,T=>match ((T.ins k o).get k).isSome with
  | true=>zh8 r (k+1) (T.ins k o)
  | false=>none
theorem zt2 {life:Life}:∀{l:List Obj} {k:Nat} {T T':BT},zh8 l k T=some T'->(absHeap T' (k+l.length) life).objs=(absHeap T k life).objs++l.toArray
 | [],k,T,T',h=>by
  cases h
  simp
 | o::r,k,T,T',h=>by
  unfold zh8 at h
  cases hs:((T.ins k o).get k).isSome with
  | false=>rw[hs]at h;cases h
  | true =>
   rw[hs]at h
   have ih:=zt2 (life:=life) h
   rw[absHeap_ins hs]at ih
   rw[aD,show k+(r.length+1)=k+1+r.length by lia,ih]
   show((absHeap T k life).objs.push o)++r.toArray=_
   simp
theorem yl5 {h:Heap}{T:BT}(e:zh8 h.objs.toList 0 .nil=some T):absHeap T h.objs.size h.life=h:=by
 have q:=zt2 (life:=h.life) e
 rw[fE,aX]at q
 have q0:(absHeap BT.nil 0 h.life).objs=#[]:=by
  apply Array.ext_getElem?
  intro i
  rw[absHeap_at]
  simp
 rw[q0]at q
 have:(absHeap T h.objs.size h.life).objs=h.objs:=by rw[q];simp
 show Heap.mk _ _=h
 rw[show h=Heap.mk h.objs h.life from rfl]
 exact congrArg (Heap.mk · h.life) this
def xb7 (fo:Option fO)(st:SharedT->Thread->Option (SharedT×Thread))(ok:Nat->Option Value->Thread->Bool)(p:fR)(N:Nat):Option (fO×SharedT) :=
 match fo with
 | none=>none
 | some s₀=>match zh8 s₀.heap.objs.toList 0 .nil with
  | none=>none
  | some T=>match xf7 st (ok s₀.heap.objs.size (s₀.heap.nsMap mainGlobals "__annotations__")) through N ⟨T,s₀.heap.objs.size,s₀.heap.life,s₀.gens,s₀.drawn,s₀.toks,s₀.os⟩ (topStub p) with
   | none=>none
   | some s₁=>some (s₀,s₁)
def yv0 {β:Type}:Nat->List β->List β
 | 0,_=>[]
 | _+1,[]=>[]
 | n+1,x::l=>x::yv0 n l
def yg2 {β:Type}:Nat->List β->List β
 | 0,l=>l
 | _+1,[]=>[]
 | n+1,_::l=>yg2 n l
theorem yl4 {β:Type}:∀(n:Nat) (l:List β),yv0 n l=l.take n
 | 0,_=>rfl
 | _+1,[]=>rfl
 | n+1,x::l=>congrArg (x :: ·) (yl4 n l)
theorem zd3 {β:Type}:∀(n:Nat) (l:List β),yg2 n l=l.drop n
 | 0,_=>rfl
 | _+1,[]=>rfl
 | n+1,_::l=>zd3 n l
theorem leftC {p q:fR}{loose:List Str}{Xt:fO->Bool}{β:Type}{Yf:fO->List β}{Ya:fW->List β}{N:Nat}{g0:Bool}(n:Nat)(e:opening p=plainProg p.main.scope.names)(hN:Nat.ble 600 N=true)(f:∀s,fenceModules? p s=some s)
  (hA:∀w os,(xb7 (some ⟨boot_heap w.params,Array.mk [],boot_drawn,boot_toks,os⟩) (stepT (denote treeTable) p w) stepOk p N).map (λr=>(r.1.heap.isNs mainGlobals&&r.1.gens.size==0,staticsOk (importedModules p.main.body) r.1.heap r.2.abs.heap&&namesBound p r.2.abs.heap&&gensDone r.2.abs&&laidKept r.1.heap r.2.abs.heap,openSeen q loose (importedModules p.main.body) Xt g0 r.2.abs))=some (true,true,openGood q loose))
  (hB:∀w os,(xb7 (some ⟨boot_heap w.params,Array.mk [],boot_drawn,boot_toks,os⟩) (stepT (denote treeTable) p w) stepOk p N).map (λr=>(Yf r.2.abs).take n)=some (yv0 n (Ya w)))
  (hC:∀w os,(xb7 (some ⟨boot_heap w.params,Array.mk [],boot_drawn,boot_toks,os⟩) (stepT (denote treeTable) p w) stepOk p N).map (λr=>((Yf r.2.abs).drop n).take n)=some (yv0 n (yg2 n (Ya w))))
  (hD:∀w os,(xb7 (some ⟨boot_heap w.params,Array.mk [],boot_drawn,boot_toks,os⟩) (stepT (denote treeTable) p w) stepOk p N).map (λr=>((Yf r.2.abs).drop n).drop n)=some (yg2 n (yg2 n (Ya w)))):LeftO p q loose Xt Yf Ya N g0:=λw=>by
 obtain⟨s₀,hs,hv⟩:=dB.mp (boot_open e hN f w)
 have es:(⟨boot_heap w.params,Array.mk [],boot_drawn,boot_toks,s₀.os⟩:fO)=s₀:=by
  obtain⟨h1,h2⟩:=Prod.mk.inj hv
  obtain⟨h2,h3⟩:=Prod.mk.inj h2
  obtain⟨h3,h4⟩:=Prod.mk.inj h3
  rw[←h1,←h2,←h3,←h4]
 have a:=hA w s₀.os
 have b:=hB w s₀.os
 have c:=hC w s₀.os
 have d:=hD w s₀.os
 rw[es]at a b c d
 clear es hv
 unfold openEnds
 rw[hs]
 unfold xb7 at a b c d
 dsimp only at a b c d
 cases ht:zh8 s₀.heap.objs.toList 0 .nil with
 | none=>rw[ht]at a;cases a
 | some T =>
  rw[ht]at a b c d
  dsimp only at a b c d
  cases hr:xf7 (stepT (denote treeTable) p w) (stepOk s₀.heap.objs.size (s₀.heap.nsMap mainGlobals "__annotations__")) through N ⟨T,s₀.heap.objs.size,s₀.heap.life,s₀.gens,s₀.drawn,s₀.toks,s₀.os⟩ (topStub p) with
  | none=>rw[hr]at a;cases a
  | some s₁ =>
   rw[hr]at a b c d
   have a:=Option.some.inj a
   have b:=Option.some.inj b
   have c:=Option.some.inj c
   have d:=Option.some.inj d
   dsimp only at a b c d
   rw[yl4]at b c
   rw[zd3]at c
   rw[zd3,zd3]at d
   have c':(Yf s₁.abs).drop n=(Ya w).drop n:=by rw[←bO n ((Yf s₁.abs).drop n),c,d,bO]
   have b':Yf s₁.abs=Ya w:=by rw[←bO n (Yf s₁.abs),b,c',bO]
   have e1:=(Prod.mk.inj a).1
   have e2:=(Prod.mk.inj (Prod.mk.inj a).2).1
   have e3:=(Prod.mk.inj (Prod.mk.inj a).2).2
   have r:=ys8 hr
   have ab:(SharedT.mk T s₀.heap.objs.size s₀.heap.life s₀.gens s₀.drawn s₀.toks s₀.os).abs=s₀:=by
    show Shared.mk (absHeap T s₀.heap.objs.size s₀.heap.life) s₀.gens s₀.drawn s₀.toks s₀.os=s₀
    rw[yl5 ht]
   rw[ab]at r
   show Option.map _ (topFrom treeTable p w N s₀)=_
   unfold topFrom
   rw[e1]
   dsimp only
   rw[r]
   show Option.map _ (match staticsOk (importedModules p.main.body) s₀.heap s₁.abs.heap&&namesBound p s₁.abs.heap&&gensDone s₁.abs&&laidKept s₀.heap s₁.abs.heap with|true=>some s₁.abs|false=>none)=_
   rw[e2]
   exact congrArg some (Prod.ext e3 b')
end Tb
section
open PySem PySem.W PyProof.Rows
namespace Tb
def seenQ:fR:=view PySem.Challenge.pw_turnbase_k48_sides_act [0,2,3,4,5,6,7,9,10,11,12,13,14,15,17,18,19,21,22,23,24,26,27,28,29,31,33,34,35,36,37,38,39,40,41,42,43,44]
end Tb
local macro_rules | `(tactic| o_head $H:term)=>`(tactic| refine W.holds_open (q:=Tb.seenQ) (loose:=[]) (Xt:=λs=>xlAt Tb.seenQ [] s&&recOk (RowW.records (OpenRow.toRowW PySem.Challenge.rw_turnbase_k48_sides_act.row)) s) (XP:=XL Tb.seenQ []) (Yf:=Hook.obs $H) (Ya:=Hook.val $H) (YP:=Hook.says $H) (N:=10866) ?hl (Hook.of $H) (Hook.keeps $H) (λs e=>xl_of s (Bool.and_eq_true_iff.mp e).1) XL.keeps (by rfl) (by rfl) (by rfl) (λs e=>recFacts_of (Bool.and_eq_true_iff.mp e).2) (by rfl) (by assumption) (by decide +kernel) ⟨rfl,rfl,rfl,rfl,rfl,by decide +kernel⟩ ?hw ?hc)
set_option maxRecDepth 100000 in
set_option maxHeartbeats 0 in
def Tb.early:PSigma (λT:Prop×Prop×Prop×Prop×Prop=>T.1->T.2.1->T.2.2.1->T.2.2.2.1->T.2.2.2.2->PySem.Challenge.rw_turnbase_k48_sides_act.Holds):=by
 refine⟨(∀w os,(?A:fW->OsState->Prop) w os,∀w os,(?B:fW->OsState->Prop) w os,∀w os,(?C:fW->OsState->Prop) w os,∀w os,(?D:fW->OsState->Prop) w os,?T),λha hb hc hd he=>?m⟩
 (case m =>
  w_on;refine W.holds_law (by kernel_rfl) λsaid=>?_;k_head
  (case hl =>
  refine Tb.leftC (β:=Option Obj) 190 (by kernel_rfl) (by decide) (λs=>by kernel_rfl) ?_ ?_ ?_ ?_ <;> intro w os <;> (try unfold Tb.seenQ) <;> (repeat (first|rw[PySem.W.Fast.te10274390034422433532]|rw[PySem.W.Fast.te14289696077712309145]|rw[PySem.W.Fast.te10156331382660048174]|rw[PySem.W.Fast.te6613529449190102663]|rw[PySem.W.Fast.te11892475500146522536]|rw[PySem.W.Fast.te4187177175401517315]|rw[PySem.W.Fast.te14364793385576792824]|rw[PySem.W.Fast.te1435165496053646825]|rw[PySem.W.Fast.te5923862056798008813]))
  ·exact ha w os
  ·exact hb w os
  ·exact hc w os
  ·exact hd w os)
  (case hw=>w_witness2)
  k_fill
  exact he)
set_option maxRecDepth 100000 in
set_option maxHeartbeats 0 in
theorem Tb.early2:Tb.early.1.1:=by
 refine λw os=>?_
 kernel_rfl
set_option maxRecDepth 100000 in
set_option maxHeartbeats 0 in
theorem Tb.early3:Tb.early.1.2.1:=by
 refine λw os=>?_
 kernel_rfl
set_option maxRecDepth 100000 in
set_option maxHeartbeats 0 in
theorem Tb.early4:Tb.early.1.2.2.1:=by
 refine λw os=>?_
 kernel_rfl
set_option maxRecDepth 100000 in
set_option maxHeartbeats 0 in
theorem Tb.early5:Tb.early.1.2.2.2.1:=by
 refine λw os=>?_
 kernel_rfl
end
set_option Elab.async false
set_option linter.all false
set_option maxRecDepth 100000
namespace L2
open PySem PySem.Spec PyProof.Rows
abbrev Key:=Sum Int Str
def zp1 : Key -> Value -> Bool
  | .inl k,v=>Value.isInt k v
  | .inr x,v=>Value.isStrOf x v
def xx2 (w : fW) : Key -> Int
  | .inl k=>hashInt k
  | .inr x=>hashStr w x
theorem h9 : ∀{k : Key} {v : Value}, zp1 k v = true -> (∃i t, k = Sum.inl i /\ v = Value.int i t)∨(∃x t, k = Sum.inr x /\ v = Value.str x t)
  | .inl i,v,h=>by
    obtain⟨t,e⟩:=Value.isInt_shape (k:=i) (v:=v) h
    exact .inl ⟨i,t,rfl,e⟩
  | .inr x,v,h=>by
    obtain⟨t,e⟩:=Value.isStrOf_shape (x:=x) (v:=v) h
    exact .inr ⟨x,t,rfl,e⟩
theorem yx2 (i:Int)(t:Tok):zp1 (.inl i) (.int i t)=true:=by simp[zp1,Value.isInt]
theorem yx3 (x:Str)(t:Tok):zp1 (.inr x) (.str x t)=true:=by simp[zp1,Value.isStrOf]
theorem xp7 (a b:Int):decide ((Sum.inl a:Key)=Sum.inl b)=(a==b):=by
  by_cases e:a=b
  . subst e;simp
  . have h : ¬(Sum.inl a : Key) = Sum.inl b := λq => e (Sum.inl.inj q)
    rw[decide_eq_false h]
    exact(beq_eq_false_iff_ne.mpr e).symm
theorem xq0 (a b:Str):decide ((Sum.inr a:Key)=Sum.inr b)=decide (a=b):=by
  by_cases e:a=b
  . subst e;simp
  . have h : ¬(Sum.inr a : Key) = Sum.inr b := λq => e (Sum.inr.inj q)
    rw[decide_eq_false h,decide_eq_false e]
theorem xp8 (a:Int)(b:Str):decide ((Sum.inl a:Key)=Sum.inr b)=false:=decide_eq_false (λq=>nomatch q)
theorem xp9 (a:Str)(b:Int):decide ((Sum.inr a:Key)=Sum.inl b)=false:=decide_eq_false (λq=>nomatch q)
def c6 (prog:fR)(w:fW):PySem.KeyKind prog w Key where
  is:=zp1
  hash:=xx2 w
  inj:=λv a b ha hb=>by
    rcases h9 ha with⟨i,t,rfl,rfl⟩|⟨x,t,rfl,rfl⟩
    . rcases h9 hb with⟨j, u, rfl, e⟩|⟨y, u, rfl, e⟩
      . injection e with e1 _;rw[e1]
      . exact nomatch e
    . rcases h9 hb with⟨j, u, rfl, e⟩|⟨y, u, rfl, e⟩
      . exact nomatch e
      . injection e with e1 _;rw[e1]
  byValue:=λk v h=>by
    rcases h9 h with⟨i,t,rfl,rfl⟩|⟨x,t,rfl,rfl⟩ <;> rfl
  pyHash:=λhv h=>by
    rcases h9 hv with⟨i,t,rfl,rfl⟩|⟨x,t,rfl,rfl⟩
    . exact wpAny_pyHash_int h
    . exact wpAny_pyHash_str h
  eqBool:=λhu hv h=>by
    rcases h9 hu with⟨i,t,rfl,rfl⟩|⟨x,t,rfl,rfl⟩
    . rcases h9 hv with⟨j, u, rfl, rfl⟩|⟨y, u, rfl, rfl⟩
      . rw[xp7]at h;exact wpAny_eqBool_int h
      . rw[xp8]at h;exact SeqAt.EqAt.int_str i t y u _ _ _ _ h
    . rcases h9 hv with⟨j, u, rfl, rfl⟩|⟨y, u, rfl, rfl⟩
      . rw[xp9]at h;exact SeqAt.EqAt.str_int x t j u _ _ _ _ h
      . rw[xq0]at h;exact wpAny_eqBool_str h
  «strs»:=λk x t v h=>by
    rcases h9 h with⟨i,u,rfl,e⟩|⟨y,u,rfl,e⟩
    . exact nomatch e
    . injection e with e1 _
      subst e1
      cases v <;> rfl
theorem yh5 (prog:fR)(w:fW)(i:Int)(t:Tok):(c6 prog w).is (.inl i) (.int i t)=true:=yx2 i t
theorem yh6 (prog:fR)(w:fW)(x:Str)(t:Tok):(c6 prog w).is (.inr x) (.str x t)=true:=yx3 x t
inductive V where
  | non|bl (b:Bool)|int (i:Int)|str (x:Str)|byt (b:Array UInt8)|flt (b:UInt64)|ref (a:Addr)|ty (n:String)
  deriving DecidableEq
def o0 : V -> Value -> Prop
  | .non,u=>u=Value.none
  | .bl b,u=>u=Value.bool b
  | .int i,u=>∃t,u=Value.int i t
  | .str x,u=>∃t,u=Value.str x t
  | .byt b,u=>∃t,u=Value.bytes b t
  | .flt b,u=>∃t,u=Value.float b t
  | .ref a,u=>u=Value.ref a
  | .ty n,u=>u=Value.type n
abbrev p8:List V->List Value->Prop:=Paired o0
theorem p8.length {xs:List V}{us:List Value}(r:p8 xs us):xs.length=us.length:=Paired.length r
theorem p8.get : ∀{xs : List V} {us : List Value} {i : Nat} {x : V}, p8 xs us -> xs[i]? = some x -> ∃u, us[i]? = some u /\ o0 x u
  | _,_,_,_,.nil,e=>by simp at e
  | _,_,0,_,.cons r _,e=>by simp at e;subst e;exact⟨_,rfl,r⟩
  | _,_,i+1,x,.cons _ t,e=>by
    obtain⟨u,h1,h2⟩:=p8.get (i:=i) (x:=x) t (by simpa using e)
    exact⟨u,by simpa using h1,h2⟩
theorem p8.set {x : V}{u : Value}(r : o0 x u) : ∀{xs : List V} {us : List Value} (i : Nat), p8 xs us -> p8 (xs.set i x) (us.set i u)
  | _,_,_,.nil=>.nil
  | _,_,0,.cons _ t=>.cons r t
  | _,_,i+1,.cons q t=>.cons q (p8.set r i t)
theorem p8.append : ∀{xs ys : List V} {us ws : List Value}, p8 xs us -> p8 ys ws -> p8 (xs ++ ys) (us ++ ws)
  | _,_,_,_,.nil,s=>s
  | _,_,_,_,.cons r t,s=>.cons r (p8.append t s)
theorem p8.take : ∀{xs : List V} {us : List Value} (n : Nat), p8 xs us -> p8 (xs.take n) (us.take n)
  | _,_,0,_=>.nil
  | _,_,_+1,.nil=>.nil
  | _,_,n+1,.cons r t=>.cons r (p8.take n t)
theorem p8.drop : ∀{xs : List V} {us : List Value} (n : Nat), p8 xs us -> p8 (xs.drop n) (us.drop n)
  | _,_,0,r=>r
  | _,_,_+1,.nil=>.nil
  | _,_,n+1,.cons _ t=>p8.drop n t
def za0 : Option V -> Option Value -> Prop
  | some v,some u=>o0 v u
  | none,none=>True
  | _,_=>False
def KV {κ:Type}:List (κ×V)->List (κ×Value)->Prop:=Paired λ(p:κ×V) (q:κ×Value)=>p.1=q.1/\o0 p.2 q.2
def kV : Key -> V
  | .inl i=>.int i
  | .inr x=>.str x
inductive HO where
  | lst (xs:List V)
  | tup (xs:List V)
  | dK (kvs:List (Key×V))|dT (kvs:List (List Key×V))
  | set (S:Int->Bool) (n:Nat)
  | ins (C dx:Addr) (fs:List (Str×V))
  | own (x:Addr)
  | xd (fs:List (Str×V))
  | met (f x:Addr)
  | rng (lo hi:Int)
  | frz (o:Obj) (u:HO)
  | tbl (ps:Array Value)
  | ext (φ:Heap->Prop)
abbrev Hp:=Addr->Option HO
def upd (H:Hp)(a:Addr)(o:HO):Hp:=λb=>if b=a then some o else H b
theorem z3 {H:Hp}{a:Addr}{o:HO}:upd H a o a=some o:=by unfold upd;rw[if_pos rfl]
theorem z5 {H:Hp}{a b:Addr}{o:HO}(h:b≠a):upd H a o b=H b:=by unfold upd;rw[if_neg h]
theorem k9 {H:Hp}{a b:Addr}{o u:HO}(h:H a=some o)(h':H b=some u)(d:o≠u):a≠b:=by
  intro e;subst e;rw[h]at h';exact d (Option.some.inj h')
theorem z9 {H:Hp}{a b:Addr}{o:HO}(h:H a=some o)(h':H b=none):a≠b:=by
  intro e;subst e;rw[h]at h';cases h'
def zt7 (h:Heap)(a:Addr)(items:Array Value):Prop:=∃o,h.get? a=some o/\o.cls=.type "tuple"/\∃n,o.data=.seq items n/\o.dict=none
theorem zt7.new (h:Heap)(items:Array Value):zt7 (h.push { cls:=.type "tuple",data:=.seq items }) h.objs.size items:=⟨_,aB _ rfl,rfl,_,rfl,rfl⟩
theorem zt7.is {h:Heap}{a:Addr}{items:Array Value}(x:zt7 h a items):IsTup h a items:=let ⟨o,h1,h2,n,h3,_⟩:=x;⟨o,h1,h2,n,h3⟩
section
variable (P:fR)(w:fW)
def m9 (H : Hp)(h : Heap)(a : Addr) : HO -> Prop
  | .lst xs=>xs.length<=fQ/\∃(its:List Value) (n:Nat),p8 xs its/\h.get? a=some { cls:=.type "list",data:=.seq its.toArray n }
  | .tup xs=>xs.length<=fQ/\∃its:List Value,p8 xs its/\zt7 h a its.toArray
  | .dK kvs=>kvs.length<=fQ/\(a==sysModules)=false/\∃vs,KV kvs vs/\h.DictOf (c6 P w) a vs
  | .dT kvs=>kvs.length<=fQ/\(a==sysModules)=false/\∃xs:List (List Key×Addr×Value),
      Paired (λ(p:List Key×V) (q:List Key×Addr×Value)=>p.1=q.1/\H q.2.1=some (.tup (p.1.map kV))/\o0 p.2 q.2.2) kvs xs /\
      ∃o es ep,h.get? a=some o/\o.ExactDict/\o.data=.dict es ep/\es.toList=xs.map (entryOfKey (tupleKind (c6 P w)))/\(xs.map (·.1)).Nodup
  | .set S n=>h.SetOf (intKind P w) a S n
  | .ins C dx fs=>H dx=some (.own a)/\fs.length<=1000/\dx≠a/\h.get? a=some (W.instObj C dx) /\
      ∃mA,h.Ns1 dx mA/\(∀f,za0 (fs.lookup f) (mA f))/\PySem.Within mA (fs.map (·.1))
  | .own _=>∃o,h.get? a=some o
  | .xd fs=>∃mA,h.Ns1 a mA/\∀f,za0 (fs.lookup f) (mA f)
  | .rng lo hi=>∃t u v,h.get? a=some { cls:=.type "range",data:=.fields #[.int lo t,.int hi u,.int 1 v] }
  | .frz o u=>h.get? a=some o/\m9 H h a u
  | .tbl ps=>h.get? a=some { cls:=.none,data:=.fields ps }
  | .met f x=>h.get? a=some (W.methodObj (.ref f) (.ref x))
  | .ext φ=>φ h/\(∃o,h.get? a=some o)/\∀h1 h2:Heap,φ h1->(∀o,h1.get? a=some o->h2.get? a=some o)->φ h2
def HOk (H:Hp)(h:Heap):Prop:=∀a o,H a=some o->m9 P w H h a o
end
section
variable {P:fR}{w:fW}{H H':Hp}{h h':Heap}{a:Addr}{o:HO}
theorem m9.lt (x:m9 P w H h a o):a<h.objs.size:=by
  cases o with
  | lst xs=>obtain⟨_,_,_,_,e⟩:=x;exact az e
  | tup xs=>obtain⟨_,_,_,p⟩:=x;exact p.is.lt
  | dK kvs=>obtain⟨_,_,_,_,o,_,_,e,_⟩:=x;exact az e
  | dT kvs=>obtain⟨_,_,_,_,o,_,_,e,_⟩:=x;exact az e
  | set S n=>obtain⟨o,_,_,_,e,_⟩:=x;exact az e
  | ins C dx fs=>obtain⟨_,_,_,e,_⟩:=x;exact az e
  | own y=>obtain⟨_,e⟩:=x;exact az e
  | xd fs=>obtain⟨_,⟨_,_,_,e,_⟩,_⟩:=x;exact az e
  | rng lo hi=>obtain⟨_,_,_,e⟩:=x;exact az e
  | frz ob u=>obtain⟨e,_⟩:=x;exact az e
  | tbl ps=>exact az (show h.get? a=some _ from x)
  | met f y=>exact az (show h.get? a=some _ from x)
  | ext φ=>obtain⟨_,⟨_,e⟩,_⟩:=x;exact az e
theorem Paired.mapP {α β : Type}{F G : α -> β -> Prop} : ∀{l₁ : List α} {l₂ : List β}, Paired F l₁ l₂ -> (∀a b, F a b -> G a b) -> Paired G l₁ l₂
  | _,_,.nil,_=>.nil
  | _,_,.cons r t,f=>.cons (f _ _ r) (Paired.mapP t f)
theorem Paired.imp' {α β:Type}{F G:α->β->Prop}(f:∀a b,F a b->G a b){l₁:List α}{l₂:List β}(r:Paired F l₁ l₂):Paired G l₁ l₂:=Paired.mapP r f
theorem m9.stay (x : m9 P w H h a o)(k : ∀b u, (b = a∨H b = some (.own a)) -> h.get? b = some u -> h'.get? b = some u)
    (ho:∀b,H b=some (.own a)->H' b=some (.own a)) (ht:∀b xs,H b=some (.tup xs)->H' b=some (.tup xs)):m9 P w H' h' a o:=by
  induction o with
  | lst xs=>obtain⟨z,its,n,r,e⟩:=x;exact⟨z,its,n,r,k _ _ (.inl rfl) e⟩
  | tup xs=>obtain⟨z,its,r,ob,e,c⟩:=x;exact⟨z,its,r,ob,k _ _ (.inl rfl) e,c⟩
  | dK kvs=>obtain⟨z,y,vs,r,ob,es,ep,e,c⟩:=x;exact⟨z,y,vs,r,ob,es,ep,k _ _ (.inl rfl) e,c⟩
  | dT kvs =>
    obtain⟨z,y,xs,r,ob,es,ep,e,c⟩:=x
    exact⟨z,y,xs,Paired.mapP r λp q z=>⟨z.1,ht _ _ z.2.1,z.2.2⟩,ob,es,ep,k _ _ (.inl rfl) e,c⟩
  | set S n=>obtain⟨ob,es,ep,t,e,c⟩:=x;exact⟨ob,es,ep,t,k _ _ (.inl rfl) e,c⟩
  | ins C dx fs =>
    obtain⟨d,z,ne,e,mA,⟨od,es,ep,e2,c⟩,r⟩:=x
    exact⟨ho _ d,z,ne,k _ _ (.inl rfl) e,mA,⟨od,es,ep,k _ _ (.inr d) e2,c⟩,r⟩
  | own y=>obtain⟨ob,e⟩:=x;exact⟨ob,k _ _ (.inl rfl) e⟩
  | xd fs=>obtain⟨mA,⟨od,es,ep,e,c⟩,r⟩:=x;exact⟨mA,⟨od,es,ep,k _ _ (.inl rfl) e,c⟩,r⟩
  | rng lo hi=>obtain⟨t,u,v,e⟩:=x;exact⟨t,u,v,k _ _ (.inl rfl) e⟩
  | frz ob u ih=>obtain⟨e,q⟩:=x;exact⟨k _ _ (.inl rfl) e,ih q⟩
  | tbl ps =>
    have e:h.get? a=some { cls:=.none,data:=.fields ps }:=x
    show h'.get? a=some { cls:=.none,data:=.fields ps }
    exact k a _ (.inl rfl) e
  | met f y =>
    have e:h.get? a=some (W.methodObj (.ref f) (.ref y)):=x
    show h'.get? a=some (W.methodObj (.ref f) (.ref y))
    exact k a _ (.inl rfl) e
  | ext φ=>obtain⟨p,⟨o,e⟩,st⟩:=x;exact⟨st _ _ p λo q=>k _ _ (.inl rfl) q,⟨o,k _ _ (.inl rfl) e⟩,st⟩
theorem HOk.lt (x:HOk P w H h)(e:H a=some o):a<h.objs.size:=(x a o e).lt
theorem HOk.fresh (x:HOk P w H h)(e:h.objs.size<=a):H a=none:=by
  cases q:H a with
  | none=>rfl
  | some u=>exact absurd (aQ (x.lt q) e) (aY _)
theorem HOk.kept (x:HOk P w H h)(k:∀b u,h.get? b=some u->h'.get? b=some u):HOk P w H h':=λa o e =>
  (x a o e).stay (λb u _ q=>k b u q) (λ_ q=>q) λ_ _ q=>q
theorem HOk.laid (x:HOk P w H h)(k:∀b u,h.get? b=some u->h'.get? b=some u)(hp:h.objs.size<=a)(new:m9 P w (upd H a o) h' a o):HOk P w (upd H a o) h':=λb u e=>by
  have hn:=x.fresh hp
  by_cases hb:b=a
  . subst hb;rw[z3]at e;cases e;exact new
  . rw[z5 hb]at e
    exact(x b u e).stay (λc v _ q=>k c v q) (λc q=>by rw[z5 (z9 q hn)];exact q) λc xs q=>by rw[z5 (z9 q hn)];exact q
end
def Rd (H:Hp)(a:Addr)(u:HO):Prop:=H a=some u∨∃o,H a=some (.frz o u)
theorem Rd.ok {P:fR}{w:fW}{H:Hp}{h:Heap}{a:Addr}{u:HO}(r:Rd H a u)(x:HOk P w H h):m9 P w H h a u:=by
  rcases r with r|⟨o,r⟩
  . exact x a u r
  . obtain⟨_, q⟩ := x a _ r
    exact q
def Mut : Option HO -> Prop
  | some (.lst _)=>True
  | some (.dK _)=>True
  | some (.dT _)=>True
  | some (.set _ _)=>True
  | some (.ins _ _ _)=>True
  | some (.ext _)=>True
  | _=>False
section
variable {P:fR}{w:fW}{H:Hp}{h h':Heap}{x e:Addr}{o':HO}
theorem HOk.write (ok : HOk P w H h)(mu : Mut (H x))(he : e = x∨H e = some (.own x))(k : ∀b u, b ≠ e -> h.get? b = some u -> h'.get? b = some u)(heo : ∃u, h'.get? e = some u)
    (new:m9 P w (upd H x o') h' x o'):HOk P w (upd H x o') h':=λb u q=>by
  have nown:∀c y,H c=some (.own y)->c≠x:=λc y r z=>by subst z;rw[r]at mu;exact mu
  have ntup:∀c xs,H c=some (.tup xs)->c≠x:=λc xs r z=>by subst z;rw[r]at mu;exact mu
  by_cases hb:b=x
  . subst hb;rw[z3]at q;cases q;exact new
  . rw[z5 hb]at q
    by_cases hbe:b=e
    . have q':H b=some (.own x):=by
        rcases he with z|z
        . exact absurd (hbe.trans z) hb
        . rw[hbe];exact z
      rw[q]at q';cases q'
      obtain⟨v,hv⟩:=heo
      exact⟨v,by rw[hbe];exact hv⟩
    . refine(ok b u q).stay (λc v hc r => k c v ?_ r) (λc r => by rw[z5 (nown c b r)]; exact r) λc xs r => by rw[z5 (ntup c xs r)]; exact r
      rcases hc with rfl|hc
      . exact hbe
      . rintro rfl
        rcases he with z|z
        . exact nown c b hc z
        . rw[hc]at z;cases z;exact hb rfl
end
structure Un (fs ex:List Addr) (H H':Hp) (h h':Heap):Prop where
  keep:∀b o,h.get? b=some o->H b=none->b∉fs->b∉ex->h'.get? b=some o
  slot:∀b o,h.get? b=some o->H b=none->b∈fs->b∉ex->∃sl,h'.get? b=some { o with slots:=sl }
  free:∀b o,h.get? b=some o->H b=none->b∉ex->H' b=none
  there:∀b o,h.get? b=some o->b∉ex->∃o',h'.get? b=some o'
  tups:∀b xs,H b=some (.tup xs)->H' b=some (.tup xs)
  frzs:∀b o u,H b=some (.frz o u)->H' b=some (.frz o u)
  tbls:∀b ps,H b=some (.tbl ps)->∃more,H' b=some (.tbl (ps++more))
section
variable {fs fs' ex ex':List Addr}{H H1 H2:Hp}{h h1 h2 h':Heap}{a x e:Addr}{o:HO}
theorem Un.any (u:Un fs ex H H1 h h1){b:Addr}{ob:Obj}(q:h.get? b=some ob)(n:H b=none)(hx:b∉ex):∃sl,h1.get? b=some { ob with slots:=sl }:=by
  by_cases hb:b∈fs
  . exact u.slot b ob q n hb hx
  . exact⟨ob.slots,u.keep b ob q n hb hx⟩
theorem Un.kept (k:∀b u,h.get? b=some u->h'.get? b=some u):Un fs ex H H h h' :=
  ⟨λb ob q _ _ _=>k b ob q,λb ob q _ _ _=>⟨ob.slots,k b ob q⟩,λ_ _ _ n _=>n,λb ob q _=>⟨ob,k b ob q⟩,λ_ _ q=>q,λ_ _ _ q=>q,λ_ ps q=>⟨#[],by rw[q];simp⟩⟩
theorem Un.refl:Un fs ex H H h h:=Un.kept λ_ _ q=>q
theorem Un.laid (k:∀b u,h.get? b=some u->h'.get? b=some u)(hp:h.objs.size<=a)(hn:H a=none):Un fs ex H (upd H a o) h h' where
  keep:=λb u q _ _ _=>k b u q
  slot:=λb u q _ _ _=>⟨u.slots,k b u q⟩
  free:=λb u q n _=>by rw[z5 (aO (aQ (az q) hp))];exact n
  there:=λb u q _=>⟨u,k b u q⟩
  tups:=λb xs q=>by rw[z5 (z9 q hn)];exact q
  frzs:=λb u xs q=>by rw[z5 (z9 q hn)];exact q
  tbls:=λb ps q=>⟨#[],by rw[z5 (z9 q hn),q];simp⟩
theorem Un.write (mu:Mut (H x))(he:e=x∨H e=some (.own x))(k:∀b u,b≠e->h.get? b=some u->h'.get? b=some u)(heo:∃u,h'.get? e=some u):Un fs ex H (upd H x o) h h':=by
  have hx:∀b,H b=none->b≠x:=λb n z=>by subst z;rw[n]at mu;exact mu
  have hb:∀b,H b=none->b≠e:=λb n z=>by
    subst z
    rcases he with r|r
    . exact hx b n r
    . rw[n]at r;cases r
  have hm:∀b u,H b=some u->¬Mut (some u)->b≠x:=λb u q nm z=>by subst z;rw[q]at mu;exact nm mu
  refine⟨λb u q n _ _=>k b u (hb b n) q,λb u q n _ _=>⟨u.slots,k b u (hb b n) q⟩,λb u q n _=>by rw[z5 (hx b n)];exact n,λb u q _=>?_,
    λb xs q=>by rw[z5 (hm b _ q λz=>z)];exact q,λb u xs q=>by rw[z5 (hm b _ q λz=>z)];exact q,λb ps q=>⟨#[],by rw[z5 (hm b _ q λz=>z),q];simp⟩⟩
  by_cases hbe:b=e
  . subst hbe;exact heo
  . exact⟨u,k b u hbe q⟩
end
def trk (h:Heap)(H:Hp):List Addr:=(List.range h.objs.size).filter λa=>(H a).isSome
def zz4 (h:Heap)(H:Hp):Heap:=W.hideAll h (trk h H)
theorem yw8 (h:Heap)(H:Hp):(zz4 h H).objs.size=h.objs.size:=W.hideAll_size _ _
theorem xc1 {h:Heap}{H:Hp}{b:Addr}{o:Obj}(e:h.get? b=some o)(n:H b=none):(zz4 h H).get? b=some o :=
  W.hideAll_get _ e λhm=>by
    have q:(H b).isSome=true:=(dF.mp hm).2
    rw[n]at q;simp at q
theorem xj9 {h:Heap}{H:Hp}{b:Addr}{o:Obj}(e:(zz4 h H).get? b=some o):h.get? b=some o/\H b=none:=by
  have e':h.get? b=some o:=W.of_hideAll (trk h H) e
  refine⟨e',?_⟩
  cases q:H b with
  | none=>rfl
  | some x =>
    have hm:b∈trk h H:=dF.mpr ⟨bg.mpr (az e'),by simp[q]⟩
    have z:(zz4 h H).get? b=none:=W.hideAll_none (trk h H) hm
    rw[z]at e;cases e
def xi3 (g h:Heap)(L:Addr):List (Addr×Obj):=(List.range h.objs.size).filterMap λa=>if a=L∨(g.get? a).isSome=true then none else(h.get? a).map λo=>(a,o)
def M1 (g h:Heap)(L d:Addr):List (Addr×Obj):=(xi3 g h L).filter λp=>decide (p.1≠d)
structure Mod (K:W.Frag) (mg:Str->Option Value) (base:Heap):Prop where
  kin:K.In base
  glob:base.Ns mainGlobals mg
  blt:∃mb,base.Ns builtinsNs mb/\∀x:Str,x≠"__name__"->mb x=ge x
  nolimit:base.NoLimit
structure Cx where
  prog:fR
  w:fW
  K:W.Frag
  mg:Str->Option Value
  base:Heap
  A:fX
  N:List Str
  s₀:fO
  H₀:Hp
  env:Env
  outer:List Env
  stack:List Env
  ex:List Addr
  fn:Str->Bool
  calm:Bool
  pn:List (Addr×Obj)
  xe:Value->fO->Prop
def frs (l:List Env):List Addr:=l.filterMap (·.frame)
abbrev Cx.fs (X:Cx):List Addr:=frs X.outer
def Vis (sc:Scope)(x:Str):Prop:=sc.names.lookup x=some .local∨sc.names.lookup x=some .cell∨sc.names.lookup x=some .free
def Loc (sc:Scope)(x:Str):Prop:=sc.names.lookup x=some .local∨sc.names.lookup x=some .cell
def xw4 (env:Env)(h:Heap)(m:Str->Option Value)(x:Str)(u:Value):Prop :=
  (env.kindOf x=some .local/\m x=some u)∨((env.kindOf x=some .cell∨env.kindOf x=some .free)/\∃c,env.cells.lookup x=some c/\h.IsCell c (some u))
structure Cx.Ok (X:Cx):Prop where
  mod:Mod X.K X.mg X.base
  kind:X.env.scope.kind=.function
  glob:X.env.globals=mainGlobals
  blt:X.env.builtins=builtinsNs
  above:X.s₀.heap.objs.size<=X.env.locals
  inj:∀x y c,X.env.cells.lookup x=some c->X.env.cells.lookup y=some c->x=y
  has:∀x,(X.env.kindOf x=some .cell∨X.env.kindOf x=some .free)->∃c,X.env.cells.lookup x=some c
  cab:∀x c,X.fn x=true->X.env.cells.lookup x=some c->X.s₀.heap.objs.size<=c
  hd:X.calm=true->X.A.handled=none
  frames:X.A.frames=some X.stack
  stk:X.stack=X.outer∨(X.stack=X.env::X.outer/\X.env.frame=some X.env.locals)
  exf:∀b∈X.ex,b≠X.env.locals/\∀x c,X.env.cells.lookup x=some c->c≠b
  bs:∀b o,X.base.get? b=some o->X.s₀.heap.get? b=some o/\X.H₀ b=none
  bsz:X.base.objs.size<=X.s₀.heap.objs.size
  noex:∀b o,X.base.get? b=some o->b∉X.ex
  exfs:∀b∈X.ex,b∉X.fs
  funs:X.s₀.heap.FunFrames X.base X.outer
  frf:∀b∈X.fs,X.H₀ b=none
structure Inv (X:Cx) (pins:List (Addr×Obj)) (σ:List (Option V)) (H:Hp) (s:fO):Prop where
  ok:X.Ok
  os:s.os=X.s₀.os
  bare:AllBare s.gens
  base:Un X.fs X.ex X.H₀ H X.s₀.heap s.heap
  loc:∃m,s.heap.Ns X.env.locals m/\∀(i:Nat) (x:Str) (v:V),X.N[i]?=some x->σ[i]?=some (some v)->Vis X.env.scope x->∃u,o0 v u/\xw4 X.env s.heap m x u
  cell:∀x c,X.env.cells.lookup x=some c->∃v,s.heap.IsCell c v
  free:H X.env.locals=none
  freeC:∀x c,X.env.cells.lookup x=some c->H c=none
  pin:∀p∈X.pn++pins,s.heap.get? p.1=some p.2/\H p.1=none/\p.1≠X.env.locals/\p.1∉X.fs/\∀v,p.2.data≠.cell v
  hok:HOk X.prog X.w H s.heap
  len:σ.length=X.N.length
section
variable {X:Cx}{pins:List (Addr×Obj)}{σ:List (Option V)}{H H':Hp}{s:fO}{h':Heap}
theorem Cx.Ok.nofr (ok:X.Ok){b:Addr}{o:Obj}(e:X.base.get? b=some o):b∉X.fs:=λhb=>by
  have:=(ok.funs.mem hb).1
  rw[e]at this;cases this
theorem Inv.bs (I:Inv X pins σ H s):∀b o,X.base.get? b=some o->s.heap.get? b=some o/\H b=none:=λb o e =>
  ⟨I.base.keep b o (I.ok.bs b o e).1 (I.ok.bs b o e).2 (I.ok.nofr e) (I.ok.noex b o e),I.base.free b o (I.ok.bs b o e).1 (I.ok.bs b o e).2 (I.ok.noex b o e)⟩
theorem Inv.bk (I:Inv X pins σ H s):∀b o,X.base.get? b=some o->s.heap.get? b=some o:=λb o e=>(I.bs b o e).1
theorem Inv.mod (I:Inv X pins σ H s):Mod X.K X.mg X.base:=I.ok.mod
theorem Inv.kIn (I:Inv X pins σ H s):X.K.In s.heap:=I.ok.mod.kin.keeps I.bk
theorem Inv.fr (I:Inv X pins σ H s):∃m,Fr X.base X.env.locals s.heap m :=
  let ⟨m,hn,_⟩:=I.loc
  ⟨m,hn,I.bk,aW I.ok.bsz I.ok.above⟩
theorem Inv.lt (I:Inv X pins σ H s):X.env.locals<s.heap.objs.size:=let ⟨_,hn,_⟩:=I.loc;hn.lt
theorem Inv.sz (I:Inv X pins σ H s):X.s₀.heap.objs.size<=s.heap.objs.size:=aW I.ok.above (bH I.lt)
theorem Inv.nofs (I:Inv X pins σ H s){a:Addr}(h:s.heap.objs.size<=a):a∉X.fs:=λhb=>by
  obtain⟨_,o,ho,_⟩:=I.ok.funs.mem hb
  exact absurd (aQ (az ho) (aW I.sz h)) (aY _)
theorem Inv.cne (I:Inv X pins σ H s):∀x c,X.env.cells.lookup x=some c->c≠X.env.locals:=λx c e z=>by
  obtain⟨v,o,ho,hd⟩:=I.cell x c e
  obtain⟨m,⟨o',es,ep,ho',hd',_⟩,_⟩:=I.loc
  rw[z,ho']at ho;cases ho;rw[hd']at hd;cases hd
theorem Inv.funs (I:Inv X pins σ H s):s.heap.FunFrames X.base X.outer:=by
  have all:∀(l:List Env),(∀b∈frs l,b∈X.fs)->X.s₀.heap.FunFrames X.base l->s.heap.FunFrames X.base l:=by
    intro l
    induction l with
    | nil=>intro _ _;trivial
    | cons env r ih =>
      intro hs hl
      obtain⟨hk,⟨L,o,hf,hn,ho,hd⟩,hr⟩:=hl
      have hL:L∈X.fs:=hs L (by unfold frs;rw[dP,hf];exact ax)
      obtain⟨sl,e⟩:=I.base.slot L o ho (I.ok.frf L hL) hL λz=>I.ok.exfs L z hL
      exact⟨hk,⟨L,_,hf,hn,e,hd⟩,ih (λb hb=>hs b (by unfold frs;rw[dP,hf];exact ao _ hb)) hr⟩
  exact all X.outer (λ_ hb=>hb) I.ok.funs
theorem Inv.stack (I:Inv X pins σ H s):s.heap.FunFrames X.base X.stack:=by
  rcases I.ok.stk with e|⟨e,hf⟩
  . rw[e];exact I.funs
  . rw[e]
    obtain⟨m,hn,_⟩:=I.loc
    refine .cons (by rw[I.ok.kind];decide) hf hn ?_ I.funs
    exact Heap.get?_none_of_le (aW I.ok.bsz I.ok.above)
theorem Inv.stkSub (I:Inv X pins σ H s):∀b∈frs X.stack,b∈X.env.locals::X.fs:=λb hb=>by
  rcases I.ok.stk with e|⟨e,hf⟩
  . rw[e]at hb;exact ao _ hb
  . rw[e]at hb
    unfold frs at hb
    rw[dP,hf]at hb
    exact hb
theorem Inv.stkFree (I:Inv X pins σ H s):∀b∈frs X.stack,H b=none:=λb hb=>by
  rcases aw.mp (I.stkSub b hb) with e|hb
  . rw[e];exact I.free
  . obtain⟨_, o, ho, _⟩ := I.ok.funs.mem hb
    exact I.base.free b o ho (I.ok.frf b hb) λz=>I.ok.exfs b z hb
theorem Inv.step {g' : Array GenState}{t' : Nat}{d' : Drawn}{ch : List Addr}(I : Inv X pins σ H s)
    (hch:∀b∈ch,(b∈X.ex∨X.s₀.heap.objs.size<=b)/\b≠X.env.locals/\(∀x c,X.env.cells.lookup x=some c->c≠b)/\∀p∈X.pn++pins,p.1≠b)
    (keep:∀b o,b≠X.env.locals->b∉X.fs->b∉ch->s.heap.get? b=some o->H b=none->h'.get? b=some o)
    (slot:∀b o,b≠X.env.locals->b∈X.fs->b∉ch->s.heap.get? b=some o->H b=none->∃sl,h'.get? b=some { o with slots:=sl }) (free:∀b o,b∉ch->s.heap.get? b=some o->H b=none->H' b=none)
    (there:∀b o,b∉ch->s.heap.get? b=some o->∃o',h'.get? b=some o')
    (tups:∀b xs,H b=some (.tup xs)->H' b=some (.tup xs)) (frzs:∀b o u,H b=some (.frz o u)->H' b=some (.frz o u)) (tbls:∀b ps,H b=some (.tbl ps)->∃more,H' b=some (.tbl (ps++more)))
    (ns:∀m,s.heap.Ns X.env.locals m->h'.Ns X.env.locals m) (hok:HOk X.prog X.w H' h') (hg:AllBare g') :
    Inv X pins σ H' { s with heap:=h',gens:=g',drawn:=d',toks:=t' }:=by
  have neL:∀b o,X.s₀.heap.get? b=some o->b≠X.env.locals:=λb o e=>aO (aQ (az e) I.ok.above)
  have neC:∀b o,X.s₀.heap.get? b=some o->b∉X.ex->b∉ch:=λb o e hx hb=>by
    rcases (hch b hb).1 with z|z
    . exact hx z
    . exact absurd (aQ (az e) z) (aY _)
  have cellK:∀x c,X.env.cells.lookup x=some c->∀v,s.heap.IsCell c v->h'.IsCell c v:=λx c e v ⟨o,ho,hd⟩=>by
    have nch:c∉ch:=λz=>(hch c z).2.2.1 x c e rfl
    by_cases hc:c∈X.fs
    . obtain⟨sl, q⟩ := slot c o (I.cne x c e) hc nch ho (I.freeC x c e)
      exact⟨_,q,hd⟩
    . exact⟨o,keep c o (I.cne x c e) hc nch ho (I.freeC x c e),hd⟩
  refine⟨I.ok,I.os,hg,⟨λb o e n hb hx=>?_,λb o e n hb hx=>?_,λb o e n hx=>?_,λb o e hx=>?_,λb xs e=>tups b xs (I.base.tups b xs e),λb o xs e=>frzs b o xs (I.base.frzs b o xs e),λb ps e=>?_⟩,?_,λx c e=>?_,?_,λx c e=>?_,λp hp=>?_,hok,I.len⟩
  . exact keep b o (neL b o e) hb (neC b o e hx) (I.base.keep b o e n hb hx) (I.base.free b o e n hx)
  . obtain⟨sl, e1⟩ := I.base.slot b o e n hb hx
    obtain⟨sl',e2⟩:=slot b _ (neL b o e) hb (neC b o e hx) e1 (I.base.free b o e n hx)
    exact⟨sl',e2⟩
  . obtain⟨o', e1⟩ := I.base.there b o e hx
    exact free b o' (neC b o e hx) e1 (I.base.free b o e n hx)
  . obtain⟨o', e1⟩ := I.base.there b o e hx
    exact there b o' (neC b o e hx) e1
  . obtain⟨m1, e1⟩ := I.base.tbls b ps e
    obtain⟨m2,e2⟩:=tbls b _ e1
    exact⟨m1++m2,by rw[e2,fm]⟩
  . obtain⟨m, hn, hl⟩ := I.loc
    refine⟨m,ns m hn,λi x v e1 e2 e3=>?_⟩
    obtain⟨u,r,l⟩:=hl i x v e1 e2 e3
    refine⟨u,r,?_⟩
    rcases l with l|⟨k,c,e,z⟩
    . exact .inl l
    . exact .inr ⟨k,c,e,cellK x c e _ z⟩
  . obtain⟨v, z⟩ := I.cell x c e
    exact⟨v,cellK x c e v z⟩
  . obtain⟨m, ⟨o, _, _, ho, _⟩, _⟩ := I.loc
    exact free _ o (λz=>(hch _ z).2.1 rfl) ho I.free
  . obtain⟨v, o, ho, hd⟩ := I.cell x c e
    exact free c o (λz=>(hch c z).2.2.1 x c e rfl) ho (I.freeC x c e)
  . obtain⟨e, n, ne, nf, d⟩ := I.pin p hp
    have nch:p.1∉ch:=λz=>(hch p.1 z).2.2.2 p hp rfl
    exact⟨keep p.1 p.2 ne nf nch e n,free p.1 p.2 nch e n,ne,nf,d⟩
theorem Inv.un {t':Nat}(I:Inv X pins σ H s)(u:Un X.fs [] H H' s.heap h')(hok:HOk X.prog X.w H' h'):Inv X pins σ H' { s with heap:=h',toks:=t' }:=by
  obtain⟨m,⟨o,es,ep,ho,r⟩,_⟩:=id I.loc
  obtain⟨sl,hL⟩:=u.any ho I.free (by simp)
  exact I.step (g':=s.gens) (d':=s.drawn) (ch:=[]) (λ_ z=>nomatch z) (λb o _ hb _ e n=>u.keep b o e n hb (by simp)) (λb o _ hb _ e n=>u.slot b o e n hb (by simp)) (λb o _ e n=>u.free b o e n (by simp)) (λb o _ e=>u.there b o e (by simp)) u.tups u.frzs u.tbls (λm' hm=>by
    obtain⟨o',es',ep',ho',r'⟩:=hm
    rw[ho]at ho';cases ho'
    exact⟨_,es',ep',hL,r'⟩) hok I.bare
theorem Inv.call {g' : Array GenState}{t' : Nat}{d' : Drawn}{ch : List Addr}(I : Inv X pins σ H s)(u : Un (frs X.stack) ch H H' s.heap h')(hok : HOk X.prog X.w H' h')(hg : AllBare g')
    (hch:∀b∈ch,(b∈X.ex∨X.s₀.heap.objs.size<=b)/\b≠X.env.locals/\(∀x c,X.env.cells.lookup x=some c->c≠b)/\∀p∈X.pn++pins,p.1≠b) :
    Inv X pins σ H' { s with heap:=h',gens:=g',drawn:=d',toks:=t' }:=by
  obtain⟨m,⟨o,es,ep,ho,r⟩,_⟩:=id I.loc
  obtain⟨sl,hL⟩:=u.any ho I.free λz=>(hch _ z).2.1 rfl
  exact I.step (ch:=ch) hch (λb o hL hb hc e n=>u.keep b o e n (λz=>(aw.mp (I.stkSub b z)).elim hL hb) hc) (λb o _ _ hc e n=>u.any e n hc) (λb o hc e n=>u.free b o e n hc) (λb o hc e=>u.there b o e hc) u.tups u.frzs u.tbls (λm' hm=>by
    obtain⟨o',es',ep',ho',r'⟩:=hm
    rw[ho]at ho';cases ho'
    exact⟨_,es',ep',hL,r'⟩) hok hg
theorem Inv.turned {t' : Nat}{it : Addr}(I : Inv X pins σ H s)(k : ∀b o, b ≠ it -> s.heap.get? b = some o -> h'.get? b = some o)(hn : H it = none)(hL : it ≠ X.env.locals)
    (h1:it∈X.ex∨X.s₀.heap.objs.size<=it) (h2:∀x c,X.env.cells.lookup x=some c->c≠it) (h3:∀p∈X.pn++pins,p.1≠it):Inv X pins σ H { s with heap:=h',toks:=t' }:=by
  have nit:∀b u,H b=some u->b≠it:=λb u e z=>by rw[z,hn]at e;cases e
  refine I.step (g' := s.gens) (d' := s.drawn) (ch := [it]) (λb hb => ?_) (λb o _ _ hc e _ => k b o (λz => hc (by simp[z])) e) (λb o _ _ hc e _ => ⟨o.slots, k b o (λz => hc (by simp[z])) e⟩) (λ_ _ _ _ n => n)
    (λb o hc e=>⟨o,k b o (λz=>hc (by simp[z])) e⟩) (λ_ _ e=>e) (λ_ _ _ e=>e) (λb ps e=>⟨#[],by rw[e];simp⟩) (λm hm=>?_) (λb u e=>?_) I.bare
  . have e : b = it := by simpa using hb
    subst e
    exact⟨h1,hL,h2,h3⟩
  . obtain⟨o, es, ep, ho, r⟩ := hm
    exact⟨o,es,ep,k _ o (Ne.symm hL) ho,r⟩
  . refine(I.hok b u e).stay (λc v hc q => k c v ?_ q) (λ_ q => q) λ_ _ q => q
    rcases hc with z|z
    . rw[z];exact nit b u e
    . exact nit c _ z
theorem Inv.tok (I:Inv X pins σ H s)(t:Nat):Inv X pins σ H { s with toks:=t }:=I.un (h':=s.heap) (t':=t) Un.refl I.hok
theorem Inv.kept {t':Nat}(I:Inv X pins σ H s)(k:∀b u,s.heap.get? b=some u->h'.get? b=some u):Inv X pins σ H { s with heap:=h',toks:=t' }:=I.un (Un.kept k) (I.hok.kept k)
theorem Inv.laid {a : Addr}{o : HO}{t' : Nat}(I : Inv X pins σ H s)(k : ∀b u, s.heap.get? b = some u -> h'.get? b = some u)(hp : s.heap.objs.size <= a)(new : m9 X.prog X.w (upd H a o) h' a o) :
    Inv X pins σ (upd H a o) { s with heap:=h',toks:=t' }:=I.un (Un.laid k hp (I.hok.fresh hp)) (I.hok.laid k hp new)
theorem Inv.write {x e : Addr}{o : HO}{t' : Nat}(I : Inv X pins σ H s)(mu : Mut (H x))(he : e = x∨H e = some (.own x))(k : ∀b u, b ≠ e -> s.heap.get? b = some u -> h'.get? b = some u)(heo : ∃u, h'.get? e = some u)
    (new:m9 X.prog X.w (upd H x o) h' x o):Inv X pins σ (upd H x o) { s with heap:=h',toks:=t' }:=I.un (Un.write mu he k heo) (I.hok.write mu he k heo new)
theorem Inv.pins_of {pins':List (Addr×Obj)}(I:Inv X pins σ H s)(h:∀p∈pins',s.heap.get? p.1=some p.2/\H p.1=none/\p.1≠X.env.locals/\p.1∉X.fs/\∀v,p.2.data≠.cell v):Inv X pins' σ H s :=
  ⟨I.ok,I.os,I.bare,I.base,I.loc,I.cell,I.free,I.freeC,λp hp=>(aC.mp hp).elim (λz=>I.pin p (aH _ z)) (h p),I.hok,I.len⟩
theorem yh8 {N:List Str}(hN:N.Nodup){i j:Nat}{x:Str}(a:N[i]?=some x)(b:N[j]?=some x):i=j:=by
  obtain⟨h1,e1⟩:=al.mp a
  obtain⟨h2,e2⟩:=al.mp b
  exact(fz hN).mp (e1.trans e2.symm)
theorem zy4 {M : Model}{A : fX}{E : Value -> fO -> Prop}{i : Nat}{x : Str}{v : V}{u : Value}{Q : Unit -> fO -> Prop}(I : Inv X pins σ H s)(hN : X.N.Nodup)(hi : X.N[i]? = some x)(hx : Loc X.env.scope x)(r : o0 v u)
    (h:∀s',Inv X pins (σ.set i (some v)) H s'->(∃a,Heap.SameBut a s.heap s'.heap/\(a=X.env.locals∨X.env.cells.lookup x=some a))->Q () s') (hf:X.fn x=true∨X.env.scope.names.lookup x=some .local:=by first|exact .inl rfl|exact .inr rfl|assumption):fS M A (storeName X.env x u) Q E s:=by
  obtain⟨m,hn,hl⟩:=id I.loc
  have hcls:(X.env.scope.kind == .class || (X.env.scope.kind == .module&&X.env.locals != X.env.globals))=false:=by rw[I.ok.kind];rfl
  have hiσ:i<σ.length:=by rw[I.len];exact(al.mp hi).1
  have cne:=I.cne
  have tracked:∀{a:Addr} {h':Heap},(∃o,s.heap.get? a=some o/\H a=none)->Heap.SameBut a s.heap h'->HOk X.prog X.w H h':=λ{a h'} ha hs b ob e=>by
    obtain⟨_,_,hfree⟩:=ha
    refine(I.hok b ob e).stay (λc w' hc q=>(hs.2 c ?_).trans q) (λ_ q=>q) λ_ _ q=>q
    rintro rfl
    rcases hc with rfl|hc
    . rw[hfree]at e;cases e
    . rw[hfree]at hc;cases hc
  rcases hx with hk|hk
  . refine wpAny_storeName_local hk hn (λh' hn' hs => ?_) hcls
    obtain⟨oL,_,_,hoL,_⟩:=id hn
    refine h _ ⟨I.ok,I.os,I.bare,⟨λb o e n hb hx=>?_,λb o e n hb hx=>?_,I.base.free,λb o e hx=>?_,I.base.tups,I.base.frzs,I.base.tbls⟩,⟨_,hn',λj y v' e1 e2 e3=>?_⟩,λy c e=>?_,I.free,I.freeC,λp hp=>?_,tracked ⟨oL,hoL,I.free⟩ hs,by simpa using I.len⟩ ⟨_,hs,.inl rfl⟩
    . exact(hs.2 b (aO (aQ (az e) I.ok.above))).trans (I.base.keep b o e n hb hx)
    . obtain⟨sl, e1⟩ := I.base.slot b o e n hb hx
      exact⟨sl,(hs.2 b (aO (aQ (az e) I.ok.above))).trans e1⟩
    . obtain⟨o', e1⟩ := I.base.there b o e hx
      exact⟨o',(hs.2 b (aO (aQ (az e) I.ok.above))).trans e1⟩
    . by_cases hj : j = i
      . subst hj
        rw[hi]at e1;cases e1
        rw[cp hiσ]at e2
        cases e2
        exact⟨u,r,.inl ⟨hk,by simp⟩⟩
      . rw[bU (Ne.symm hj)]at e2
        obtain⟨u',r',q⟩:=hl j y v' e1 e2 e3
        refine⟨u',r',?_⟩
        rcases q with⟨k,e⟩|⟨k,c,e,z⟩
        . refine .inl ⟨k, ?_⟩
          have:y≠x:=λe=>hj (yh8 hN e1 (e ▸ hi))
          simp[this,e]
        . exact .inr ⟨k,c,e,z.sameBut hs (cne y c e)⟩
    . obtain⟨w', z⟩ := I.cell y c e
      exact⟨w',z.sameBut hs (cne y c e)⟩
    . obtain⟨e, n, ne, nf, d⟩ := I.pin p hp
      exact⟨(hs.2 p.1 ne).trans e,n,ne,nf,d⟩
  . have hfn:X.fn x=true:=by
      rcases hf with z|z
      . exact z
      . rw[z]at hk;cases hk
    obtain⟨c,hc⟩:=I.ok.has x (.inl hk)
    obtain⟨w',z⟩:=I.cell x c hc
    refine wpAny_storeName_cell I.ok.kind hk hc z (λh' hc' hs=>?_)
    obtain⟨oc,hoc,hocd⟩:=id z
    refine h { s with heap:=h' } ⟨I.ok,I.os,I.bare,⟨λb o e n hb hx=>?_,λb o e n hb hx=>?_,I.base.free,λb o e hx=>?_,I.base.tups,I.base.frzs,I.base.tbls⟩,⟨m,hn.sameBut hs (Ne.symm (cne x c hc)),λj y v' e1 e2 e3=>?_⟩,λy c' e=>?_,I.free,I.freeC,λp hp=>?_,tracked ⟨oc,hoc,I.freeC x c hc⟩ hs,by simpa using I.len⟩ ⟨c,hs,.inr hc⟩
    . exact(hs.2 b (aO (aQ (az e) (I.ok.cab x c hfn hc)))).trans (I.base.keep b o e n hb hx)
    . obtain⟨sl, e1⟩ := I.base.slot b o e n hb hx
      exact⟨sl,(hs.2 b (aO (aQ (az e) (I.ok.cab x c hfn hc)))).trans e1⟩
    . obtain⟨o', e1⟩ := I.base.there b o e hx
      exact⟨o',(hs.2 b (aO (aQ (az e) (I.ok.cab x c hfn hc)))).trans e1⟩
    . by_cases hj : j = i
      . subst hj
        rw[hi]at e1;cases e1
        rw[cp hiσ]at e2
        cases e2
        exact⟨u,r,.inr ⟨.inl hk,c,hc,hc'⟩⟩
      . rw[bU (Ne.symm hj)]at e2
        obtain⟨u',r',q⟩:=hl j y v' e1 e2 e3
        refine⟨u',r',?_⟩
        rcases q with q|⟨k,c',e,z'⟩
        . exact .inl q
        . refine .inr ⟨k, c', e, z'.sameBut hs ?_⟩
          rintro rfl
          exact hj (yh8 hN e1 (I.ok.inj _ _ _ e hc ▸ hi))
    . by_cases hcc : c' = c
      . subst hcc;exact⟨_,hc'⟩
      . obtain⟨w2, z2⟩ := I.cell y c' e
        exact⟨w2,z2.sameBut hs hcc⟩
    . obtain⟨e, n, ne, nf, d⟩ := I.pin p hp
      refine⟨(hs.2 p.1 ?_).trans e,n,ne,nf,d⟩
      intro q
      rw[q,hoc]at e
      have q':oc=p.2:=Option.some.inj e
      exact d w' (by rw[←q'];exact hocd)
theorem zt1 {M : Model}{A : fX}{E : Value -> fO -> Prop}{i : Nat}{x : Str}{v : V}{u : Value}{Q : Unit -> fO -> Prop}(I : Inv X pins σ H s)(hN : X.N.Nodup)(hi : X.N[i]? = some x)(hx : Loc X.env.scope x)(r : o0 v u)
    (h:∀s',Inv X pins (σ.set i (some v)) H s'->Q () s') (hf:X.fn x=true∨X.env.scope.names.lookup x=some .local:=by first|exact .inl rfl|exact .inr rfl|assumption):fS M A (storeName X.env x u) Q E s :=
  zy4 I hN hi hx r (λs' I' _=>h s' I') hf
theorem Inv.call' {s' : fO}{ch : List Addr}(I : Inv X pins σ H s)(ho : s'.os = s.os)(u : Un (frs X.stack) ch H H' s.heap s'.heap)(hok : HOk X.prog X.w H' s'.heap)(hg : AllBare s'.gens)
    (hch:∀b∈ch,(b∈X.ex∨X.s₀.heap.objs.size<=b)/\b≠X.env.locals/\(∀x c,X.env.cells.lookup x=some c->c≠b)/\∀p∈X.pn++pins,p.1≠b):Inv X pins σ H' s':=by
  obtain⟨h',g',d',t',o'⟩:=s'
  have e:o'=s.os:=ho
  subst e
  exact I.call (g':=g') (t':=t') (d':=d') u hok hg hch
end
abbrev XK:=Value->Option Addr->Hp->Prop
abbrev St:=List (Option V)
abbrev VK:=V->Hp->Prop
abbrev TE:=St->Hp->VK->Prop
abbrev TT:=St->Hp->(Bool->Hp->Prop)->Prop
abbrev TA:=St->Hp->(List V->Hp->Prop)->Prop
structure za9 where
  nx:St->Hp->Prop
  rt:VK
  bk:St->Hp->Prop:=λ_ _=>False
  ct:St->Hp->Prop:=λ_ _=>False
abbrev TS:=za9->St->Hp->Prop
def EP (X:Cx)(pins:List (Addr×Obj))(σ:St)(Q:VK)(u:Value)(s':fO):Prop:=∃v H',Inv X pins σ H' s'/\o0 v u/\Q v H'
def TP (X:Cx)(pins:List (Addr×Obj))(σ:St)(Q:Bool->Hp->Prop)(b:Bool)(s':fO):Prop:=∃H',Inv X pins σ H' s'/\Q b H'
def AP (X:Cx)(pins:List (Addr×Obj))(σ:St)(Q:List V->Hp->Prop)(us:List Value)(s':fO):Prop:=∃vs H',Inv X pins σ H' s'/\p8 vs us/\Q vs H'
def SP (X:Cx)(pins:List (Addr×Obj))(D:za9)(f:Flow)(s':fO):Prop :=
  match f with
  | .next=>∃σ' H',Inv X pins σ' H' s'/\D.nx σ' H'
  | .brk=>∃σ' H',Inv X pins σ' H' s'/\D.bk σ' H'
  | .cont=>∃σ' H',Inv X pins σ' H' s'/\D.ct σ' H'
  | .ret u=>∃v σ' H',Inv X pins σ' H' s'/\o0 v u/\D.rt v H'
def PE (X:Cx)(e:Expr)(t:TE):Prop :=
  ∀(pins:List (Addr×Obj)) (s:fO) (σ:St) (H:Hp) (Q:VK),Inv X pins σ H s->t σ H Q->fS (fV X.prog X.w) X.A (eval e X.env) (EP X pins σ Q) X.xe s
def PT (X:Cx)(e:Expr)(t:TT):Prop :=
  ∀(pins:List (Addr×Obj)) (s:fO) (σ:St) (H:Hp) (Q:Bool->Hp->Prop),Inv X pins σ H s->t σ H Q->fS (fV X.prog X.w) X.A (isTrue e X.env (eval e X.env)) (TP X pins σ Q) X.xe s
def PW (X:Cx)(e:Expr)(t:TT):Prop :=
  ∀(whole:Sem Value) (pins:List (Addr×Obj)) (s:fO) (σ:St) (H:Hp) (Q:Bool->Hp->Prop),Inv X pins σ H s->t σ H Q->fS (fV X.prog X.w) X.A (isTrue e X.env whole) (TP X pins σ Q) X.xe s
theorem PW.pt {X:Cx}{e:Expr}{t:TT}(h:PW X e t):PT X e t:=h _
def PA (X:Cx)(es:List Expr)(t:TA):Prop :=
  ∀(pos:Pos) (pins:List (Addr×Obj)) (s:fO) (σ:St) (H:Hp) (Q:List V->Hp->Prop),Inv X pins σ H s->t σ H Q->fS (fV X.prog X.w) X.A (spliced (backTo pos (fU es X.env))) (AP X pins σ Q) X.xe s
def PS (X:Cx)(st:Stmt)(t:TS):Prop :=
  ∀(pins:List (Addr×Obj)) (s:fO) (σ:St) (H:Hp) (D:za9),Inv X pins σ H s->t D σ H->fS (fV X.prog X.w) X.A (exec st X.env) (SP X pins D) X.xe s
def PSs (X:Cx)(st:List Stmt)(t:TS):Prop :=
  ∀(pins:List (Addr×Obj)) (s:fO) (σ:St) (H:Hp) (D:za9),Inv X pins σ H s->t D σ H->fS (fV X.prog X.w) X.A (execs st X.env) (SP X pins D) X.xe s
theorem thn {α:Type}{t:Sem α}{Q Q':α->fO->Prop}{M:Model}{A:fX}{E:Value->fO->Prop}{s:fO}(h:fS M A t Q E s)(hQ:∀a s,Q a s->Q' a s):fS M A t Q' E s:=fZ h hQ λ_ _ x=>x
section
variable {X:Cx}
def xv9 (i:Nat):TE:=λσ H Q=>∃v,σ[i]?=some (some v)/\Q v H
def tC (v:V):TE:=λ_ H Q=>Q v H
theorem xr2 {i:Nat}{x:Str}{pos:Pos}(hN:X.N[i]?=some x)(hv:Vis X.env.scope x)(hd:(x==("__debug__":Str))=false:=by decide)(hcd:(x==("__classdict__":Str))=false:=by decide):PE X (.Name x pos) (xv9 i):=by
  intro pins s σ H Q I h
  obtain⟨v,e,h⟩:=h
  obtain⟨m,hn,hl⟩:=I.loc
  obtain⟨u,r,l⟩:=hl i x v hN e hv
  have fin:EP X pins σ Q u s:=⟨v,H,I,r,h⟩
  rcases l with⟨hk,hm⟩|⟨hk,c,hc,hcell⟩
  . exact wpAny_Name (wpAny_loadName_local I.ok.kind hk hn hm fin) hd
  . rcases hk with hk|hk
    . exact wpAny_Name (wpAny_loadName_cell I.ok.kind hk hc hcell fin) hd
    . exact wpAny_Name (wpAny_loadName_free I.ok.kind hk hc hcell fin hcd) hd
theorem x9 {i j pos}:PE X (.Constant (.int i) j pos) (tC (.int i)):=λ_ _ _ H _ I h=>wpAny_Constant_int ⟨.int i,H,I.tok _,⟨_,rfl⟩,h⟩
theorem U6 {b j pos}:PE X (.Constant (.bool b) j pos) (tC (.bl b)):=λ_ _ _ H _ I h=>Constant_bool ⟨.bl b,H,I,rfl,h⟩
theorem yn9 {j pos}:PE X (.Constant .none j pos) (tC .non):=λ_ _ _ H _ I h=>Constant_none ⟨.non,H,I,rfl,h⟩
theorem C8 {x j pos}:PE X (.Constant (.str x) j pos) (tC (.str x)):=λ_ _ _ H _ I h=>Calls.Constant_str ⟨.str x,H,I.tok _,⟨_,rfl⟩,h⟩
def Gl (X:Cx)(x:Str):Prop:=X.env.kindOf x=some .globalImplicit
theorem A6 {E : Value -> fO -> Prop}{pins : List (Addr×Obj)}{s : fO}{σ : St}{H : Hp}{x : Str}{u : Value}{pos : Pos}{Q : Value -> fO -> Prop}(I : Inv X pins σ H s)(hg : Gl X x)(hm : X.mg x = some u)(h : Q u s)
    (hd:(x==("__debug__":Str))=false:=by decide):fS (fV X.prog X.w) X.A (eval (.Name x pos) X.env) Q E s :=
  Calls.Name_function_global I.ok.kind hg (Calls.loadGlobal_global (by rw[I.ok.glob];exact I.mod.glob.keeps I.bk) hm h) hd
theorem zg4 {E : Value -> fO -> Prop}{pins : List (Addr×Obj)}{s : fO}{σ : St}{H : Hp}{x : Str}{u : Value}{pos : Pos}{Q : Value -> fO -> Prop}(I : Inv X pins σ H s)(hg : Gl X x)(hm : X.mg x = none)(hv : ge x = some u)(h : Q u s)
    (hn:x≠"__name__":=by decide) (hd:(x==("__debug__":Str))=false:=by decide):fS (fV X.prog X.w) X.A (eval (.Name x pos) X.env) Q E s:=by
  obtain⟨mb,h1,h2⟩:=I.mod.blt
  exact Calls.Name_function_global I.ok.kind hg (Calls.loadGlobal_builtin (by rw[I.ok.glob];exact I.mod.glob.keeps I.bk) hm (by rw[I.ok.blt];exact h1.keeps I.bk) ((h2 x hn).trans hv) h) hd
theorem yr9 {x:Str}{v:V}{u:Value}{pos:Pos}(hg:Gl X x)(hm:X.mg x=some u)(r:o0 v u)(hd:(x==("__debug__":Str))=false:=by decide):PE X (.Name x pos) (tC v) :=
  λ_ _ _ H _ I h=>A6 I hg hm ⟨v,H,I,r,h⟩ hd
theorem M5 {x:Str}{v:V}{u:Value}{pos:Pos}(hg:Gl X x)(hm:X.mg x=none)(hv:ge x=some u)(r:o0 v u)(hn:x≠"__name__":=by decide)(hd:(x==("__debug__":Str))=false:=by decide):PE X (.Name x pos) (tC v) :=
  λ_ _ _ H _ I h=>zg4 I hg hm hv ⟨v,H,I,r,h⟩ hn hd
variable {a b:Expr}{ta tb:TE}{pos:Pos}
def PC (X:Cx)(op:CmpOp)(a b:Expr)(t:TE):Prop :=
  ∀(pins:List (Addr×Obj)) (s:fO) (σ:St) (H:Hp) (Q:VK),Inv X pins σ H s->t σ H Q ->
    fS (fV X.prog X.w) X.A (eval a X.env) (λv s₁=>fS (fV X.prog X.w) X.A (eval b X.env) (λu s₂=>fS (fV X.prog X.w) X.A (compareOp op v u) (EP X pins σ Q) X.xe s₂) X.xe s₁) X.xe s
theorem xd6 (b:Expr){op:CmpOp}(h:op≠.In)(h2:op≠.NotIn):behindInMarks op b=false:=by
  have e1:(op==CmpOp.In)=false:=by cases op <;> first|rfl|exact absurd rfl h
  have e2:(op==CmpOp.NotIn)=false:=by cases op <;> first|rfl|exact absurd rfl h2
  cases b <;> simp[behindInMarks,e1,e2]
def xy4 (ta:TE):TE:=λσ H Q=>ta σ H λx H1=>Q (.bl (decide (x=.non))) H1
theorem o0.none_iff {x:V}{v:Value}(r:o0 x v):(v==Value.none)=decide (x=.non):=by
  cases x with
  | non=>cases r;rfl
  | bl _=>cases r;rfl
  | int _=>obtain⟨t,rfl⟩:=r;rfl
  | str _=>obtain⟨t,rfl⟩:=r;rfl
  | byt _=>obtain⟨t,rfl⟩:=r;rfl
  | flt _=>obtain⟨t,rfl⟩:=r;rfl
  | ref _=>cases r;rfl
  | ty _=>cases r;rfl
theorem xq9 {j pos'}(ha:PE X a ta):PC X .Is a (.Constant .none j pos') (xy4 ta):=by
  intro pins s σ H Q I h
  refine thn (ha pins s σ H _ I h) λv s1 ⟨x,H1,I1,r1,q1⟩=>?_
  exact Constant_none (is_none_gen ⟨.bl _,H1,I1,by rw[r1.none_iff];rfl,q1⟩)
def tB (t:TE):TT:=λσ H Q=>t σ H λx H1=>∃c,x=.bl c/\Q c H1
theorem B0 {op:CmpOp}{t:TE}(h:PC X op a b t)(h1:behindInMarks op b=false:=by first|exact xd6 _ (by decide) (by decide)|rfl):PT X (.Compare a [op] [b] pos) (tB t):=by
  intro pins s σ H Q I hw
  refine wpAny_isTrue_Compare1 (thn (h pins s σ H _ I hw) λv s1 h1=>thn h1 λu s2 h2=>thn h2 λc s3 ⟨x,H1,I1,r1,q1⟩=>?_) h1
  obtain⟨d,rfl,q⟩:=q1
  cases r1
  exact wpAny_truthy_bool ⟨H1,I1,q⟩
theorem Y5 {e:Expr}{t:TE}(h:PE X e t)(he:∀whole,isTrue e X.env whole=(do let v ←whole;standAt e.pos;holding [v] (truthy v)):=by intro _;rfl):PT X e (tB t):=by
  intro pins s σ H Q I hw
  refine isTrue_plain (thn (h pins s σ H _ I hw) λv s1 ⟨x,H1,I1,r1,q1⟩=>?_) (he _)
  obtain⟨d,rfl,q⟩:=q1
  cases r1
  exact wpAny_truthy_bool ⟨H1,I1,q⟩
variable {tA tB':TT}{M1:List Expr}
def tOr (t u:TT):TT:=λσ H Q=>t σ H λc H1=>if c=true then Q true H1 else u σ H1 Q
def xy6 (t:TT):TT:=λσ H Q=>t σ H λc H1=>Q (!c) H1
theorem zb8 (ha:PT X a tA):PW X (.BoolOp .Or [a] pos) tA:=by
  intro wh pins s σ H Q I h
  refine isTrue_or (thn (ha pins s σ H Q I h) λc s1 e=>?_)
  cases c with
  | false=>exact isTrue_or_nil e
  | true=>exact e
theorem zj4 (ha:PT X a tA)(hb:PW X (.BoolOp .Or (b::M1) pos) tB'):PW X (.BoolOp .Or (a::b::M1) pos) (tOr tA tB'):=by
  intro wh pins s σ H Q I h
  refine isTrue_or (thn (ha pins s σ H _ I h) λc s1 ⟨H1,I1,q1⟩=>?_)
  cases c with
  | true=>exact⟨H1,I1,q1⟩
  | false=>exact hb wh pins s1 σ H1 Q I1 q1
theorem X8 (ha:PT X a tA):PT X (.UnaryOp .Not a pos) (xy6 tA):=by
  intro pins s σ H Q I h
  exact isTrue_not (ha pins s σ H (λc H1=>Q (!c) H1) I h)
def xu9 (ta tb:TE):TE:=λσ H Q=>ta σ H λx H1=>∃c,x=.bl c/\if c=true then tb σ H1 Q else Q (.bl false) H1
def xv6 (ta:TE):TE:=λσ H Q=>ta σ H λx H1=>∃c,x=.bl c/\Q (.bl (!c)) H1
theorem zb7 {op}{t:TE}(h:PE X a t):PE X (.BoolOp op [a] pos) t:=λpins s σ H Q I hw=>BoolOp_one (h pins s σ H Q I hw)
theorem C7 (ha:PE X a ta)(hb:PE X (.BoolOp .And (b::M1) pos) tb):PE X (.BoolOp .And (a::b::M1) pos) (xu9 ta tb):=by
  intro pins s σ H Q I h
  refine BoolOp_and (thn (ha pins s σ H _ I h) λv s1 ⟨x,H1,I1,r1,q1⟩=>?_)
  obtain⟨c,rfl,q1⟩:=q1
  cases r1
  refine wpAny_truthy_bool ?_
  cases c with
  | true=>exact hb pins s1 σ H1 Q I1 q1
  | false=>exact⟨.bl false,H1,I1,rfl,q1⟩
theorem xe7 (ha:PE X a ta):PE X (.UnaryOp .Not a pos) (xv6 ta):=by
  intro pins s σ H Q I h
  refine UnaryOp_ (thn (ha pins s σ H _ I h) λv s1 ⟨x,H1,I1,r1,q1⟩=>?_)
  obtain⟨c,rfl,q1⟩:=q1
  cases r1
  exact not_of (wpAny_truthy_bool ⟨.bl (!c),H1,I1,rfl,q1⟩)
end
def SqL (K:W.Frag)(H:Hp)(a:Addr)(xs:List V):Prop :=
  Rd H a (.lst xs) ∨
    ∃(o:Obj) (its:Array Value) (n:Nat),K.lookup a=some o/\o.cls=.type "list"/\o.dict=none/\o.data=.seq its n/\its.size<=fQ/\p8 xs its.toList
def SqT (K:W.Frag)(H:Hp)(a:Addr)(xs:List V):Prop :=
  Rd H a (.tup xs) ∨
    ∃(o:Obj) (its:Array Value) (n:Nat),K.lookup a=some o/\o.cls=.type "tuple"/\o.data=.seq its n/\its.size<=fQ/\p8 xs its.toList
def xw6 : Value -> Option V
  | .none=>some .non
  | .bool b=>some (.bl b)
  | .int i _=>some (.int i)
  | .str x _=>some (.str x)
  | .bytes b _=>some (.byt b)
  | .float b _=>some (.flt b)
  | .ref a=>some (.ref a)
  | .type n=>some (.ty n)
  | _=>none
theorem o0.abs {x:V}{u:Value}(r:o0 x u):xw6 u=some x:=by
  cases x with
  | non=>cases r;rfl
  | bl _=>cases r;rfl
  | int _=>obtain⟨t,rfl⟩:=r;rfl
  | str _=>obtain⟨t,rfl⟩:=r;rfl
  | byt _=>obtain⟨t,rfl⟩:=r;rfl
  | flt _=>obtain⟨t,rfl⟩:=r;rfl
  | ref _=>cases r;rfl
  | ty _=>cases r;rfl
theorem o0.inj {x y:V}{u:Value}(r:o0 x u)(q:o0 y u):x=y:=Option.some.inj (r.abs.symm.trans q.abs)
theorem p8.inj : ∀{xs ys : List V} {us : List Value}, p8 xs us -> p8 ys us -> xs = ys
  | _,_,_,.nil,.nil=>rfl
  | _,_,_,.cons r t,.cons r' t'=>by rw[r.inj r',p8.inj t t']
section
variable {X:Cx}{pins:List (Addr×Obj)}{σ:St}{H:Hp}{s:fO}{a:Addr}{xs ys:List V}
theorem SqL.of {K:W.Frag}(h:H a=some (.lst xs)):SqL K H a xs:=.inl (.inl h)
theorem SqT.of {K:W.Frag}(h:H a=some (.tup xs)):SqT K H a xs:=.inl (.inl h)
theorem Inv.list (I:Inv X pins σ H s)(h:SqL X.K H a xs):∃its:List Value,p8 xs its/\PlainL s.heap a its.toArray/\xs.length<=fQ:=by
  rcases h with h|⟨o,its,n,hk,hc,hd,hs,hz,r⟩
  . obtain⟨z, its, n, r, e⟩ := h.ok I.hok
    exact⟨its,r,⟨_,n,e,rfl,rfl,rfl⟩,z⟩
  . refine⟨its.toList, r, ⟨o, n, I.kIn a o hk, hc, hd, by simpa using hs⟩, ?_⟩
    have e:=r.length
    simp only[aX]at e
    lia
theorem Inv.tuple (I:Inv X pins σ H s)(h:SqT X.K H a xs):∃its:List Value,p8 xs its/\IsTup s.heap a its.toArray/\xs.length<=fQ:=by
  rcases h with h|⟨o,its,n,hk,hc,hs,hz,r⟩
  . obtain⟨z, its, r, p⟩ := h.ok I.hok
    exact⟨its,r,p.is,z⟩
  . refine⟨its.toList, r, ⟨o, I.kIn a o hk, hc, n, by simpa using hs⟩, ?_⟩
    have e:=r.length
    simp only[aX]at e
    lia
theorem Inv.list_inj (I:Inv X pins σ H s)(h:SqL X.K H a xs)(h':SqL X.K H a ys):xs=ys:=by
  obtain⟨its,r,⟨o,n,e,_,_,d⟩,_⟩:=I.list h
  obtain⟨its',r',⟨o',n',e',_,_,d'⟩,_⟩:=I.list h'
  rw[e]at e';cases e'
  rw[d]at d'
  injection d' with d1 _
  have:its=its':=by simpa using congrArg Array.toList d1
  subst this
  exact r.inj r'
theorem Inv.tuple_inj (I:Inv X pins σ H s)(h:SqT X.K H a xs)(h':SqT X.K H a ys):xs=ys:=by
  obtain⟨its,r,⟨o,e,_,n,d⟩,_⟩:=I.tuple h
  obtain⟨its',r',⟨o',e',_,n',d'⟩,_⟩:=I.tuple h'
  rw[e]at e';cases e'
  rw[d]at d'
  injection d' with d1 _
  have:its=its':=by simpa using congrArg Array.toList d1
  subst this
  exact r.inj r'
end
abbrev Cx.wish (X:Cx) (E:Value->fO->Prop):Cx:={ X with xe:=E }
abbrev Cx.nox (X:Cx):Cx:=X.wish λ_ _=>False
theorem Cx.Ok.wish {X:Cx}(ok:X.Ok)(E:Value->fO->Prop):(X.wish E).Ok :=
  ⟨ok.mod,ok.kind,ok.glob,ok.blt,ok.above,ok.inj,ok.has,ok.cab,ok.hd,ok.frames,ok.stk,ok.exf,ok.bs,ok.bsz,ok.noex,ok.exfs,ok.funs,ok.frf⟩
theorem Cx.Ok.unwish {X:Cx}{E:Value->fO->Prop}(ok:(X.wish E).Ok):X.Ok :=
  ⟨ok.mod,ok.kind,ok.glob,ok.blt,ok.above,ok.inj,ok.has,ok.cab,ok.hd,ok.frames,ok.stk,ok.exf,ok.bs,ok.bsz,ok.noex,ok.exfs,ok.funs,ok.frf⟩
section
variable {X:Cx}{pins:List (Addr×Obj)}{σ:St}{H:Hp}{s:fO}{E:Value->fO->Prop}
theorem Inv.wish (I:Inv X pins σ H s)(E:Value->fO->Prop):Inv (X.wish E) pins σ H s:=⟨I.ok.wish E,I.os,I.bare,I.base,I.loc,I.cell,I.free,I.freeC,I.pin,I.hok,I.len⟩
theorem Inv.unwish (I:Inv (X.wish E) pins σ H s):Inv X pins σ H s:=⟨I.ok.unwish,I.os,I.bare,I.base,I.loc,I.cell,I.free,I.freeC,I.pin,I.hok,I.len⟩
theorem SP.unwish {D:za9}{f:Flow}{s':fO}(h:SP (X.wish E) pins D f s'):SP X pins D f s':=by
  cases f with
  | next=>obtain⟨σ',H',I,q⟩:=h;exact⟨σ',H',I.unwish,q⟩
  | brk=>obtain⟨σ',H',I,q⟩:=h;exact⟨σ',H',I.unwish,q⟩
  | cont=>obtain⟨σ',H',I,q⟩:=h;exact⟨σ',H',I.unwish,q⟩
  | ret u=>obtain⟨v,σ',H',I,r,q⟩:=h;exact⟨v,σ',H',I.unwish,r,q⟩
theorem PSs.nox {st:List Stmt}{t:TS}(h:PSs X.nox st t):PSs X st t:=λpins s σ H D I hw =>
  fZ (h pins s σ H D (I.wish _) hw) (λ_ _ q=>q.unwish) λ_ _ z=>False.elim z
end
section
variable {X:Cx}{st:Stmt}{M1:List Stmt}{t u:TS}{e:Expr}{te:TE}{pos:Pos}
def xv5:TS:=λD σ H=>D.nx σ H
def xh4 (t u:TS):TS:=λD σ H=>t { D with nx:=u D } σ H
theorem u8:PSs X [] xv5:=λ_ _ σ H _ I h=>wpAny_execs_nil ⟨σ,H,I,h⟩
theorem z7 (h1:PS X st t)(h2:PSs X M1 u):PSs X (st::M1) (xh4 t u):=by
  intro pins s σ H D I h
  refine wpAny_execs_cons (thn (h1 pins s σ H { D with nx:=u D } I h) λf s1 q=>?_)
  cases f with
  | next =>
    obtain⟨σ',H',I',q⟩:=q
    exact h2 pins s1 σ' H' D I' q
  | ret v=>exact q
  | brk=>exact q
  | cont=>exact q
theorem z6 (h1:PS X st t):PSs X [st] t:=by
  intro pins s σ H D I h
  refine wpAny_execs_cons (thn (h1 pins s σ H D I h) λf s1 q=>?_)
  cases f with
  | next=>exact wpAny_execs_nil q
  | ret v=>exact q
  | brk=>exact q
  | cont=>exact q
theorem Inv.quiet {pins:List (Addr×Obj)}{σ:St}{H:Hp}{s:fO}(I:Inv X pins σ H s):interactive X.env=false:=by simp[interactive,I.ok.kind]
def xv3 (te:TE):TS:=λD σ H=>te σ H λ_ H1=>D.nx σ H1
theorem m7 (he:PE X e te)(hs:swapsWith e none pos.line X.env=pure false:=by rfl):PS X (.Expr e pos) (xv3 te):=by
  intro pins s σ H D I h
  exact wpAny_Expr_any (thn (he pins s σ H _ I h) λv s1 ⟨x,H1,I1,r1,q1⟩=>⟨σ,H1,I1,q1⟩) I.quiet hs
def xy7 (te:TE):TS:=λD σ H=>te σ H D.rt
theorem y9 (he:PE X e te):PS X (.Return (some e) pos) (xy7 te):=by
  intro pins s σ H D I h
  exact wpAny_Return_some (thn (he pins s σ H _ I h) λv s1 ⟨x,H1,I1,r1,q1⟩=>⟨x,σ,H1,I1,r1,q1⟩)
def xy3 (c:TT)(t u:TS):TS:=λD σ H=>c σ H λb H1=>if b=true then t D σ H1 else u D σ H1
theorem l8 {c:Expr}{a b:List Stmt}{tc:TT}(hc:PT X c tc)(ha:PSs X a t)(hb:PSs X b u):PS X (.If c a b pos) (xy3 tc t u):=by
  intro pins s σ H D I h
  refine wpAny_If (thn (hc pins s σ H _ I h) λd s1 ⟨H1,I1,q1⟩=>?_)
  cases d with
  | true=>exact ha pins s1 σ H1 D I1 q1
  | false=>exact hb pins s1 σ H1 D I1 q1
def xs3:TS:=λ_ _ _=>False
theorem C9:PS X st xs3:=λ_ _ _ _ _ _ h=>h.elim
end
abbrev TG:=V->St->Hp->(St->Hp->Prop)->Prop
abbrev TGs:=List V->St->Hp->(St->Hp->Prop)->Prop
def PG (X:Cx)(target:Expr)(t:TG):Prop :=
  ∀(pins:List (Addr×Obj)) (s:fO) (σ:St) (H:Hp) (v:V) (u:Value) (Q:St->Hp->Prop),Inv X pins σ H s->o0 v u->t v σ H Q ->
    fS (fV X.prog X.w) X.A (assign target X.env u) (λ_ s'=>∃σ' H',Inv X pins σ' H' s'/\Q σ' H') X.xe s
def PGs (X:Cx)(ts:List Expr)(t:TGs):Prop :=
  ∀(pins:List (Addr×Obj)) (s:fO) (σ:St) (H:Hp) (vs:List V) (us:List Value) (Q:St->Hp->Prop),Inv X pins σ H s->p8 vs us->t vs σ H Q ->
    fS (fV X.prog X.w) X.A (assignInOrder ((assignEach ts X.env).map (·.2)) us) (λ_ s'=>∃σ' H',Inv X pins σ' H' s'/\Q σ' H') X.xe s
abbrev xo0:=V->V->V->Hp->(Hp->Prop)->Prop
def xt1 (X:Cx)(t:xo0):Prop :=
  ∀(pins:List (Addr×Obj)) (s:fO) (σ:St) (H:Hp) (o i v:V) (ov iv u:Value) (Q:Hp->Prop),Inv X pins σ H s->o0 o ov->o0 i iv->o0 v u->t o i v H Q ->
    fS (fV X.prog X.w) X.A (setItem ov iv u) (λ_ s'=>∃H',Inv X pins σ H' s'/\Q H') X.xe s
abbrev TIp:=V->V->Hp->VK->Prop
def PIp (X:Cx)(op:Operator)(t:TIp):Prop :=
  ∀(pins:List (Addr×Obj)) (s:fO) (σ:St) (H:Hp) (x y:V) (v u:Value) (Q:VK),Inv X pins σ H s->o0 x v->o0 y u->t x y H Q ->
    fS (fV X.prog X.w) X.A (inplaceOp op v u) (EP X pins σ Q) X.xe s
section
variable {X:Cx}{pos:Pos}
def U4 (i:Nat):TG:=λv σ H Q=>Q (σ.set i (some v)) H
theorem n8 {i:Nat}{x:Str}(hN:X.N.Nodup)(hi:X.N[i]?=some x)(hx:Loc X.env.scope x)(hf:X.fn x=true∨X.env.scope.names.lookup x=some .local:=by first|exact .inl rfl|exact .inr rfl|assumption):PG X (.Name x pos) (U4 i):=by
  intro pins s σ H v u Q I r h
  exact wpAny_assign_Name (zt1 I hN hi hx r (λs' I'=>⟨_,H,I',h⟩) hf)
def xw8:TGs:=λvs σ H Q=>vs=[]/\Q σ H
def xt6 (t:TG)(u:TGs):TGs:=λvs σ H Q=>∃v r,vs=v::r/\t v σ H λσ' H'=>u r σ' H' Q
theorem ze7:PGs X [] xw8:=by
  intro pins s σ H vs us Q I r h
  obtain⟨e,h⟩:=h
  subst e
  cases r
  exact assignInOrder_nil ⟨σ,H,I,h⟩
theorem W2 {e : Expr}{es : List Expr}{t : TG}{u : TGs}(h1 : PG X e t)(h2 : PGs X es u)
    (hs:(assignEach (e::es) X.env).map (·.2)=assign e X.env::(assignEach es X.env).map (·.2):=by rfl):PGs X (e::es) (xt6 t u):=by
  intro pins s σ H vs us Q I r h
  obtain⟨v,vr,e1,h⟩:=h
  subst e1
  cases r with
  | cons r rr =>
    rw[hs]
    refine assignInOrder_cons (thn (h1 pins s σ H _ _ _ I r h) λ_ s1 ⟨σ1,H1,I1,q1⟩=>?_)
    exact h2 pins s1 σ1 H1 _ _ Q I1 rr q1
def xx0 (K:W.Frag)(n:Nat)(t:TGs):TG:=λv σ H Q=>∃a xs,v=.ref a/\SqT K H a xs/\xs.length=n/\t xs σ H Q
theorem zq8 {es : List Expr}{k : Nat}{t : TGs}{n : Nat}(hc : X.calm = true)(h : PGs X es t)
    (hn:(assignEach es X.env).length=n:=by rfl) (hst:(assignEach es X.env).findIdx? (·.1)=none:=by rfl):PG X (.Tuple es k pos) (xx0 X.K n t):=by
  intro pins s σ H v u Q I r hw
  obtain⟨a,xs,e1,hq,hl,hw⟩:=hw
  subst e1
  cases r
  obtain⟨its,rv,ht,hz⟩:=I.tuple hq
  refine assign_Tuple_tuple (I.ok.hd hc) ht (by simp[hn,←hl,rv.length]) hst λh' hx=>?_
  have I1:Inv X pins σ H { s with heap:=h' }:=I.kept (t':=s.toks) λb o e=>hx b o (aO (az e)) e
  exact h pins _ σ H xs _ Q I1 (by simpa using rv) hw
def xw9 (to ti:TE)(t:xo0):TG:=λv σ H Q=>to σ H λo H1=>ti σ H1 λi H2=>t o i v H2 λH3=>Q σ H3
theorem xe8 {o i : Expr}{to ti : TE}{t : xo0}(ho : PE X o to)(hi : PE X i ti)(hs : xt1 X t)
    (ha : ∀v, assign (.Subscript o i pos) X.env v = (do
      let ov ←holding [v] (eval o X.env)
      let iv ←holding [v,ov] (eval i X.env)
      standAt pos
      holding [v,ov,iv] (setItem ov iv v)
      release [v,ov,iv] []):=by intro _;rfl):PG X (.Subscript o i pos) (xw9 to ti t):=by
  intro pins s σ H v u Q I r h
  rw[ha]
  refine fN (fY (thn (ho pins s σ H _ I h) λov s1 ⟨x,H1,I1,r1,q1⟩=>?_))
  refine fN (fY (thn (hi pins s1 σ H1 _ I1 q1) λiv s2 ⟨y,H2,I2,r2,q2⟩=>?_))
  refine fN (wpAny_standAt (fN (fY (thn (hs pins s2 σ H2 x y v ov iv u _ I2 r1 r2 r q2) λ_ s3 ⟨H3,I3,q3⟩=>?_))))
  exact wpAny_release ⟨σ,H3,I3,q3⟩
def xl9 (te:TE)(g:TG):TS:=λD σ H=>te σ H λx H1=>g x σ H1 D.nx
theorem yo1 {tg e : Expr}{te : TE}{g : TG}(he : PE X e te)(hg : PG X tg g)(hs : swapsWithSole [tg] e pos.line X.env = pure false := by rfl)(hw : swappedStores [tg] e X.env = pure none := by rfl)
    (h1:(assignEach [tg] X.env).map (·.2)=[assign tg X.env]:=by rfl):PS X (.Assign [tg] e pos) (xl9 te g):=by
  intro pins s σ H D I h
  refine wpAny_Assign_stores (thn (he pins s σ H _ I h) λv s1 ⟨x,H1,I1,r1,q1⟩=>?_) hs hw
  rw[h1]
  exact thn (hg pins s1 σ H1 x v _ I1 r1 q1) λ_ s2 q=>q
theorem y8 {i : Nat}{x : Str}{e : Expr}{te : TE}{pos' : Pos}(hN : X.N.Nodup)(hi : X.N[i]? = some x)(hx : Loc X.env.scope x)(he : PE X e te)(hs : swapsWith e (some (.Name x pos')) pos.line X.env = pure false := by rfl)(hf : X.fn x = true∨X.env.scope.names.lookup x = some .local := by first|exact .inl rfl|exact .inr rfl|assumption) :
    PS X (.Assign [.Name x pos'] e pos) (xl9 te (U4 i)):=by
  intro pins s σ H D I h
  refine wpAny_Assign_Name (thn (he pins s σ H _ I h) λv s1 ⟨y,H1,I1,r1,q1⟩=>?_) hs
  exact zt1 I1 hN hi hx r1 (λs2 I2=>⟨_,H1,I2,q1⟩) hf
def xx9 (i:Nat)(te:TE)(ti:TIp):TS:=λD σ H=>∃x,σ[i]?=some (some x)/\te σ H λy H1=>ti x y H1 λz H2=>D.nx (σ.set i (some z)) H2
theorem yo2 {i : Nat}{x : Str}{e : Expr}{te : TE}{op : Operator}{ti : TIp}{pos' : Pos}(hN : X.N.Nodup)(hi : X.N[i]? = some x)(hx : Loc X.env.scope x)(he : PE X e te)(ho : PIp X op ti)(hf : X.fn x = true∨X.env.scope.names.lookup x = some .local := by first|exact .inl rfl|exact .inr rfl|assumption) :
    PS X (.AugAssign (.Name x pos') op e pos) (xx9 i te ti):=by
  intro pins s σ H D I h
  obtain⟨v,e1,h⟩:=h
  obtain⟨m,hn,hl⟩:=I.loc
  have vis:Vis X.env.scope x:=by rcases hx with k|k;exact .inl k;exact .inr (.inl k)
  obtain⟨u,r,l⟩:=hl i x v hi e1 vis
  refine wpAny_AugAssign_Name ?_
  have go:fS (fV X.prog X.w) X.A (eval e X.env) (λw s₂=>fS (fV X.prog X.w) X.A (inplaceOp op u w) (λr s₃=>fS (fV X.prog X.w) X.A (storeName X.env x r) (λ_=>SP X pins D .next) X.xe s₃) X.xe s₂) X.xe s:=by
    refine thn (he pins s σ H _ I h) λw s1 ⟨y,H1,I1,r1,q1⟩=>?_
    refine thn (ho pins s1 σ H1 v y u w _ I1 r r1 q1) λz s2 ⟨zv,H2,I2,r2,q2⟩=>?_
    exact zt1 I2 hN hi hx r2 (λs3 I3=>⟨_,H2,I3,q2⟩) hf
  rcases l with⟨hk,hm⟩|⟨hk,c,hc,hcell⟩
  . exact wpAny_loadName_local I.ok.kind hk hn hm go
  . rcases hk with hk|hk
    . exact wpAny_loadName_cell I.ok.kind hk hc hcell go
    . rcases hx with k|k
      . have : X.env.scope.names.lookup x = some .free := hk
        rw[k]at this;cases this
      . have : X.env.scope.names.lookup x = some .free := hk
        rw[k]at this;cases this
def ipI (f:Int->Int->Int):TIp:=λx y H Q=>∃i j,x=.int i/\y=.int j/\Q (.int (f i j)) H
theorem xo7:PIp X .Add (ipI λi j=>i+j):=by
  intro pins s σ H x y v u Q I r1 r2 h
  obtain⟨i,j,e1,e2,q⟩:=h
  subst e1;subst e2
  obtain⟨t,rfl⟩:=r1
  obtain⟨t',rfl⟩:=r2
  exact iadd_int ⟨.int _,H,I.tok _,⟨_,rfl⟩,q⟩
theorem xo9:PIp X .Sub (ipI λi j=>i-j):=by
  intro pins s σ H x y v u Q I r1 r2 h
  obtain⟨i,j,e1,e2,q⟩:=h
  subst e1;subst e2
  obtain⟨t,rfl⟩:=r1
  obtain⟨t',rfl⟩:=r2
  exact isub_int ⟨.int _,H,I.tok _,⟨_,rfl⟩,q⟩
end
section
variable {X:Cx}{pos:Pos}
def xh5 (c:TT)(tb:TS):TS:=λD σ H=>∃W:Nat->St->Hp->Prop,(∃m,W m σ H)/\∀m σ H,W m σ H ->
  c σ H λb H1=>if b=true then ∃N:St->Hp->Prop,(∀σ' H',N σ' H'->∃m',m'<m/\W m' σ' H')/\tb { D with nx:=N,ct:=N,bk:=D.nx } σ H1 else D.nx σ H1
theorem ze9 {c:Expr}{body:List Stmt}{tc:TT}{tb:TS}(hp:PassesOwn (fV X.prog X.w) X.A X.env X.xe)(hc:PT X c tc)(hb:PSs X body tb):PS X (.While c body [] pos) (xh5 tc tb):=by
  intro pins s σ H D I h
  obtain⟨W,⟨m0,w0⟩,turn⟩:=h
  refine wpAny_While (codeAny_whileLoop (λn s'=>∃σ' H',Inv X pins σ' H' s'/\W n σ' H') ?_ m0 ⟨σ,H,I,w0⟩)
  rintro n s1 ⟨σ1,H1,I1,w1⟩
  refine wpAny_passesOwn hp (thn (hc pins s1 σ1 H1 _ I1 (turn n σ1 H1 w1)) λb s2 ⟨H2,I2,q2⟩=>?_)
  cases b with
  | true =>
    obtain⟨N,hN,q2⟩:=q2
    rw[if_pos rfl]
    refine wpAny_passesOwn hp (thn (hb pins s2 σ1 H2 _ I2 q2) λf s3 q3=>?_)
    cases f with
    | next =>
      obtain⟨σ3,H3,I3,n3⟩:=q3
      obtain⟨m',hm,w3⟩:=hN σ3 H3 n3
      exact⟨m',hm,σ3,H3,I3,w3⟩
    | cont =>
      obtain⟨σ3,H3,I3,n3⟩:=q3
      obtain⟨m',hm,w3⟩:=hN σ3 H3 n3
      exact⟨m',hm,σ3,H3,I3,w3⟩
    | brk=>exact q3
    | ret v=>exact q3
  | false =>
    rw[if_neg aE]
    exact wpAny_execs_nil ⟨σ1,H2,I2,q2⟩
end
structure It where
  go:Nat->Hp->Prop
  yld:Nat->Hp->V->Hp->Prop
  stop:Nat->Hp->Prop
def zf7 (X:Cx)(pins:List (Addr×Obj))(H:Hp)(b:Addr):Prop :=
  H b=none/\b≠X.env.locals/\b∉X.fs/\(b∈X.ex∨X.s₀.heap.objs.size<=b)/\(∀x c,X.env.cells.lookup x=some c->c≠b)/\∀p∈X.pn++pins,p.1≠b
theorem Inv.fpOk {X:Cx}{pins:List (Addr×Obj)}{σ:St}{H H':Hp}{s:fO}{b:Addr}(I:Inv X pins σ H s)(hb:s.heap.objs.size<=b)(hn:H' b=none):zf7 X pins H' b:=by
  refine⟨hn,dq (aQ I.lt hb),I.nofs hb,.inr (aW I.sz hb),λx c e z=>?_,λp hp z=>?_⟩
  . obtain⟨v, q⟩ := I.cell x c e
    exact absurd (aQ q.lt (by rw[z];exact hb)) (aY _)
  . exact absurd (aQ (az (I.pin p hp).1) (by rw[z];exact hb)) (aY _)
structure ye7 (P:fR) (w:fW) (K:W.Frag) (tg:Expr) (J:It) (fp:List Addr) (it:Addr) (tn:Nat->Heap->Prop):Prop where
  mem:it∈fp
  obj:∀i h,tn i h->∀b∈fp,∃o,h.get? b=some o/\∀v,o.data≠.cell v
  keep:∀i h h',tn i h->(∀b∈fp,∀o,h.get? b=some o->h'.get? b=some o)->tn i h'
  item:∀(X:Cx),X.prog=P->X.w=w->X.K=K->X.calm=true->∀(i:Nat) (pins:List (Addr×Obj)) (s:fO) (σ:St) (H:Hp) (E:Value->fO->Prop),Inv X pins σ H s->(∀b∈fp,zf7 X pins H b)->tn i s.heap->J.go i H ->
    fS (fV P w) X.A (pyNext (.ref it)) (λr s1=>∃u,r=some u /\
      fS (fV P w) X.A (letOwnedTupleGo tg (.ref it) u) (λ_ s2=>∃x H',Inv X pins σ H' s2/\o0 x u/\J.yld i H x H'/\tn (i+1) s2.heap/\∀b∈fp,H' b=none) E s1) E s
  done:∀(X:Cx),X.prog=P->X.w=w->X.K=K->X.calm=true->∀(i:Nat) (pins:List (Addr×Obj)) (s:fO) (σ:St) (H:Hp) (E:Value->fO->Prop),Inv X pins σ H s->(∀b∈fp,zf7 X pins H b)->tn i s.heap->J.stop i H ->
    fS (fV P w) X.A (pyNext (.ref it)) (λr s1=>r=none/\Inv X pins σ H s1) E s
  self:∀(A:fX) (i:Nat) (s:fO) (Q:Value->fO->Prop) (E:Value->fO->Prop),tn i s.heap->Q (.ref it) s->fS (fV P w) A (pyIter (.ref it)) Q E s
abbrev TI:=St->Hp->(It->Hp->Prop)->Prop
def PIE (X:Cx)(pins:List (Addr×Obj))(σ:St)(tg:Expr)(R:It->Hp->Prop)(itv:Value)(s2:fO):Prop :=
  ∃(it:Addr) (fp:List Addr) (tn:Nat->Heap->Prop) (J:It) (H':Hp),itv=.ref it/\Inv X pins σ H' s2/\ye7 X.prog X.w X.K tg J fp it tn/\tn 0 s2.heap/\(∀b∈fp,zf7 X pins H' b)/\R J H'
def PI (X:Cx)(tg iter:Expr)(wi:TI):Prop :=
  ∀(pins:List (Addr×Obj)) (s:fO) (σ:St) (H:Hp) (R:It->Hp->Prop),Inv X pins σ H s->wi σ H R ->
    fS (fV X.prog X.w) X.A (eval iter X.env) (λv s1=>fS (fV X.prog X.w) X.A (pyIter v) (PIE X pins σ tg R) X.xe s1) X.xe s
theorem yg6 {M : Model}{A : fX}{E : Value -> fO -> Prop}{s : fO}{tg : Expr}{it : Addr}{u : Value}{o : Obj}{n : String}{vs : Array Value}{Q : Unit -> fO -> Prop}(ho : s.heap.get? it = some o)(hc : o.cls = .type n)(hd : o.data = .fields vs)
    (hn:["enumerate","zip","dict_itemiterator","dict_reverseitemiterator","odict_iterator","itertools.zip_longest","itertools.pairwise"].contains n=false) (hQ:Q () s):fS M A (letOwnedTupleGo tg (.ref it) u) Q E s:=by
  unfold letOwnedTupleGo
  cases tg <;> first
    | exact fP hQ
    | (cases u <;> first
        | exact fP hQ
        | (refine fN (wpAny_load ho ?_)
           rw[hc,hd]
           show fS M A (if (["enumerate","zip","dict_itemiterator","dict_reverseitemiterator","odict_iterator","itertools.zip_longest","itertools.pairwise"].contains n&&vs[0]?==some (rawInt _))=true then _ else _) Q E s
           rw[if_neg (by intro h;rw[hn,eJ]at h;cases h)]
           exact fP hQ))
def Itl (K:W.Frag)(a:Addr):It :=
  ⟨λi H=>∃xs x,SqL K H a xs/\xs[i]?=some x,λi H x H'=>H'=H/\∀xs,SqL K H a xs->xs[i]?=some x,λi H=>∃xs,SqL K H a xs/\xs.length<=i⟩
def Itt (K:W.Frag)(a:Addr):It :=
  ⟨λi H=>∃xs x,SqT K H a xs/\xs[i]?=some x,λi H x H'=>H'=H/\∀xs,SqT K H a xs->xs[i]?=some x,λi H=>∃xs,SqT K H a xs/\xs.length<=i⟩
def Itr (lo:Int)(n:Nat):It:=⟨λi _=>i<n,λi H x H'=>H'=H/\x=.int (lo+i),λi _=>n<=i⟩
theorem yz3 {P:fR}{w:fW}{K:W.Frag}{tg:Expr}(a it:Addr):ye7 P w K tg (Itl K a) [it] it (λi h=>h.IsListIter it a i) where
  mem:=by simp
  obj:=λi h st b hb=>by
    have e:b=it:=by simpa using hb
    subst e
    obtain⟨o,e,c,d⟩:=st
    exact⟨o,e,λv z=>by rw[d]at z;cases z⟩
  keep:=λi h h' st k=>st.at λo e=>k it (by simp) o e
  item:=by
    intro X hP hw hK hc i pins s σ H E I hf st hg
    subst hP hw hK
    obtain⟨xs,x,hq,hx⟩:=hg
    obtain⟨its,rv,p,hz⟩:=I.list hq
    obtain⟨u,hu,ru⟩:=rv.get hx
    obtain⟨f0,f1,f2,f3,f4,f5⟩:=hf it (by simp)
    refine wpAny_pyNext_list_item st p.isList (x:=u) (by simpa using hu) λh' st' sb=>?_
    have I1:Inv X pins σ H { s with heap:=h' }:=I.turned (t':=s.toks) (λb o hb e=>(sb.2 b hb).trans e) f0 f1 f3 f4 f5
    obtain⟨o,e,c,d⟩:=id st'
    exact⟨u,rfl,yg6 (s:={ s with heap:=h' }) e c d (by decide) ⟨x,H,I1,ru,⟨rfl,λys hy=>by rw[I.list_inj hy hq];exact hx⟩,st',λb hb=>(hf b hb).1⟩⟩
  done:=by
    intro X hP hw hK hc i pins s σ H E I hf st hg
    subst hP hw hK
    obtain⟨xs,hq,hx⟩:=hg
    obtain⟨its,rv,p,hz⟩:=I.list hq
    obtain⟨f0,f1,f2,f3,f4,f5⟩:=hf it (by simp)
    have hl:=rv.length
    exact wpAny_pyNext_list_end (I.ok.hd hc) st p.isList (by simp;lia) λh' eb=>⟨rfl,I.turned (t':=s.toks) (λb o hb e=>eb b o hb e) f0 f1 f3 f4 f5⟩
  self:=λ_ _ _ _ _ st h=>wpAny_pyIter_listiter st h
theorem yp7 {P:fR}{w:fW}{K:W.Frag}{tg:Expr}(a it:Addr):ye7 P w K tg (Itt K a) [it] it (λi h=>h.IsTupleIter it a i) where
  mem:=by simp
  obj:=λi h st b hb=>by
    have e:b=it:=by simpa using hb
    subst e
    obtain⟨o,e,c,d⟩:=st
    exact⟨o,e,λv z=>by rw[d]at z;cases z⟩
  keep:=λi h h' st k=>st.at λo e=>k it (by simp) o e
  item:=by
    intro X hP hw hK hc i pins s σ H E I hf st hg
    subst hP hw hK
    obtain⟨xs,x,hq,hx⟩:=hg
    obtain⟨its,rv,p,hz⟩:=I.tuple hq
    obtain⟨u,hu,ru⟩:=rv.get hx
    obtain⟨f0,f1,f2,f3,f4,f5⟩:=hf it (by simp)
    refine wpAny_pyNext_tuple_item st (show s.heap.IsTuple a its.toArray from p) (x:=u) (by simpa using hu) λh' st' sb=>?_
    have I1:Inv X pins σ H { s with heap:=h' }:=I.turned (t':=s.toks) (λb o hb e=>(sb.2 b hb).trans e) f0 f1 f3 f4 f5
    obtain⟨o,e,c,d⟩:=id st'
    exact⟨u,rfl,yg6 (s:={ s with heap:=h' }) e c d (by decide) ⟨x,H,I1,ru,⟨rfl,λys hy=>by rw[I.tuple_inj hy hq];exact hx⟩,st',λb hb=>(hf b hb).1⟩⟩
  done:=by
    intro X hP hw hK hc i pins s σ H E I hf st hg
    subst hP hw hK
    obtain⟨xs,hq,hx⟩:=hg
    obtain⟨its,rv,p,hz⟩:=I.tuple hq
    obtain⟨f0,f1,f2,f3,f4,f5⟩:=hf it (by simp)
    have hl:=rv.length
    exact wpAny_pyNext_tuple_end (I.ok.hd hc) st (show s.heap.IsTuple a its.toArray from p) (by simp;lia) λh' eb=>⟨rfl,I.turned (t':=s.toks) (λb o hb e=>eb b o hb e) f0 f1 f3 f4 f5⟩
  self:=λ_ _ _ _ _ st h=>wpAny_pyIter_tupleiter st h
theorem yp6 {P:fR}{w:fW}{K:PySem.W.Frag}{tg:Expr}(it:Addr)(lo:Int)(n:Nat):ye7 P w K tg (Itr lo n) [it] it (λi h=>IsRangeIter h it (lo+(i:Nat)*1) ((n:Int)-(i:Nat)) 1) where
  mem:=by simp
  obj:=λi h st b hb=>by
    have e:b=it:=by simpa using hb
    subst e
    exact⟨_,st,λv z=>by
      have z':Data.fields _=Data.cell v:=z
      cases z'⟩
  keep:=λi h h' st k=>k it (by simp) _ st
  item:=by
    intro X hP hw hK hc i pins s σ H E I hf st hg
    subst hP hw hK
    obtain⟨f0,f1,f2,f3,f4,f5⟩:=hf it (by simp)
    have W:=Walks.range (prog:=X.prog) (w:=X.w) (I.ok.hd hc) it lo 1 n
    refine W.item i s _ _ hg st λv h' tk hv st' kk=>?_
    obtain⟨t,rfl⟩:=hv
    have I1:Inv X pins σ H { s with heap:=h',toks:=tk }:=I.turned (λb o hb e=>kk b o (by simpa using hb) e) f0 f1 f3 f4 f5
    refine⟨_,rfl,yg6 (s:={ s with heap:=h',toks:=tk }) (n:="range_iterator") st' rfl rfl (by decide) ⟨.int (lo+i),H,I1,⟨t,?_⟩,⟨rfl,rfl⟩,st',λb hb=>(hf b hb).1⟩⟩
    rw[Int.mul_one]
  done:=by
    intro X hP hw hK hc i pins s σ H E I hf st hg
    subst hP hw hK
    obtain⟨f0,f1,f2,f3,f4,f5⟩:=hf it (by simp)
    exact wpAny_pyNext_range_end (I.ok.hd hc) st (by have:n<=i:=hg;lia) λh' eb=>⟨rfl,I.turned (t':=s.toks) (λb o hb e=>eb b o hb e) f0 f1 f3 f4 f5⟩
  self:=λ_ _ _ _ _ st h=>wpAny_pyIter_rangeiter st h
section
variable {X:Cx}{tg:Expr}
def xt8 (K:W.Frag)(tl:TE):TI:=λσ H R=>tl σ H λx H1=>∃a,x=.ref a/\(∃xs,SqL K H1 a xs)/\R (Itl K a) H1
def xx1 (K:W.Frag)(tl:TE):TI:=λσ H R=>tl σ H λx H1=>∃a,x=.ref a/\(∃xs,SqT K H1 a xs)/\R (Itt K a) H1
theorem c9 {l:Expr}{tl:TE}(hl:PE X l tl):PI X tg l (xt8 X.K tl):=by
  intro pins s σ H R I h
  refine thn (hl pins s σ H _ I h) λv s1 ⟨x,H1,I1,r1,q1⟩=>?_
  obtain⟨a,e,⟨xs,hq⟩,q⟩:=q1
  subst e
  cases r1
  obtain⟨its,rv,p,hz⟩:=I1.list hq
  refine wpAny_pyIter_list p.isList ?_
  refine⟨s1.heap.objs.size,[s1.heap.objs.size],_,_,H1,rfl,I1.kept (t':=s1.toks) λb o e=>ar _ e,yz3 a _,⟨_,aB _ rfl,rfl,rfl⟩,λb hb=>?_,q⟩
  have e:b=s1.heap.objs.size:=by simpa using hb
  subst e
  exact I1.fpOk (ag _) (I1.hok.fresh (ag _))
theorem yb9 {l:Expr}{tl:TE}(hl:PE X l tl):PI X tg l (xx1 X.K tl):=by
  intro pins s σ H R I h
  refine thn (hl pins s σ H _ I h) λv s1 ⟨x,H1,I1,r1,q1⟩=>?_
  obtain⟨a,e,⟨xs,hq⟩,q⟩:=q1
  subst e
  cases r1
  obtain⟨its,rv,p,hz⟩:=I1.tuple hq
  refine wpAny_pyIter_tuple (show s1.heap.IsTuple a its.toArray from p) ?_
  refine⟨s1.heap.objs.size,[s1.heap.objs.size],_,_,H1,rfl,I1.kept (t':=s1.toks) λb o e=>ar _ e,yp7 a _,⟨_,aB _ rfl,rfl,rfl⟩,λb hb=>?_,q⟩
  have e:b=s1.heap.objs.size:=by simpa using hb
  subst e
  exact I1.fpOk (ag _) (I1.hok.fresh (ag _))
theorem xf3 {pins : List (Addr×Obj)}{σ : St}{H : Hp}{s : fO}{R : It -> Hp -> Prop}{E : Value -> fO -> Prop}{lo hi : Int}{t u v : Tok}{tk : Nat}(I : Inv X pins σ H s)(h1 : -(2 ^ 62) <= lo)(h2 : lo<2 ^ 62)(h3 : -(2 ^ 62) <= hi)(h4 : hi<2 ^ 62)
    (q:R (Itr lo (hi-lo).toNat) H):fS (fV X.prog X.w) X.A (pyIter (.ref s.heap.objs.size)) (PIE X pins σ tg R) E { s with heap:=s.heap.push { cls:=.type "range",data:=.fields #[.int lo t,.int hi u,.int 1 v] },toks:=tk }:=by
  refine wpAny_pyIter_range (IsRange.new ..) (small_one h1 h2 h3 h4) ?_
  have I1:Inv X pins σ H { s with heap:=s.heap.push { cls:=.type "range",data:=.fields #[.int lo t,.int hi u,.int 1 v] },toks:=tk }:=I.kept λb o e=>ar _ e
  refine⟨(s.heap.push { cls:=.type "range",data:=.fields #[.int lo t,.int hi u,.int 1 v] }).objs.size,[(s.heap.push { cls:=.type "range",data:=.fields #[.int lo t,.int hi u,.int 1 v] }).objs.size],_,_,H,rfl,
    I1.kept (t':=tk) λb o e=>ar _ e,yp6 _ lo (hi-lo).toNat,?_,λb hb=>?_,q⟩
  . have e1 : lo+((0 : Nat) : Int)*1 = lo := by simp
    have e2:(((hi-lo).toNat:Nat):Int)-((0:Nat):Int)=Builtin.Range.rangeSize lo hi 1:=by rw[rangeSize_one];split <;> lia
    show IsRangeIter _ _ (lo+((0:Nat):Int)*1) ((((hi-lo).toNat:Nat):Int)-((0:Nat):Int)) 1
    rw[e1,e2]
    exact aB _ rfl
  . have e : b = (s.heap.push { cls := .type "range", data := .fields #[.int lo t, .int hi u, .int 1 v] }).objs.size := by simpa using hb
    subst e
    exact I1.fpOk (ag _) (I1.hok.fresh (ag _))
def xu0 (ta:TA):TI:=λσ H R=>ta σ H λvs H1=>∃j:Int,vs=[.int j]/\-(2 ^ 62)<=j/\j<2 ^ 62/\R (Itr 0 j.toNat) H1
theorem A7 {a:Expr}{ta:TA}{p pos:Pos}(hg:Gl X "range")(hm:X.mg "range"=none)(ha:PA X [a] ta)(hs:fU [a] X.env=[(false,eval a X.env)]:=by rfl):PI X tg (.Call (.Name "range" p) [a] [] pos) (xu0 ta):=by
  intro pins s σ H R I h
  refine Call_ (zg4 I hg hm boot_range (PyProof.Rows.callWith_type1 (thn (ha pos pins s σ H _ I h) λus s1 ⟨vs,H1,I1,r1,q1⟩=>?_) hs rfl))
  obtain⟨j,e,q1,q2,q⟩:=q1
  subst e
  cases r1 with
  | cons r rr =>
    cases rr
    obtain⟨t,rfl⟩:=r
    exact call_range_1 (xf3 I1 (by lia) (by lia) q1 q2 (by simpa using q))
def xy2 (wi:TI)(g:TG)(tb:TS):TS:=λD σ H=>wi σ H λJ H1=>∃W:Nat->Nat->St->Hp->Prop,(∃m,W 0 m σ H1)/\∀i m σ H,W i m σ H ->
  (J.stop i H/\D.nx σ H)∨(J.go i H/\∃N:St->Hp->Prop,(∀σ' H',N σ' H'->∃m',m'<m/\W (i+1) m' σ' H')/\∀x H',J.yld i H x H'->g x σ H' λσ2 H2=>tb { D with nx:=N,ct:=N,bk:=D.nx } σ2 H2)
def yc0 (fp:List Addr)(h:Heap):List (Addr×Obj):=fp.filterMap λb=>(h.get? b).map λo=>(b,o)
theorem zb4 {fp:List Addr}{h:Heap}{b:Addr}{o:Obj}(hb:b∈fp)(e:h.get? b=some o):(b,o)∈yc0 fp h:=bA.mpr ⟨b,hb,by rw[e];rfl⟩
theorem yy0 {fp:List Addr}{h:Heap}{p:Addr×Obj}(hp:p∈yc0 fp h):p.1∈fp/\h.get? p.1=some p.2:=by
  obtain⟨b,hb,e⟩:=bA.mp hp
  cases q:h.get? b with
  | none=>rw[q]at e;cases e
  | some o =>
    rw[q]at e
    have e':(b,o)=p:=Option.some.inj e
    subst e'
    exact⟨hb,q⟩
theorem Inv.pinned {pins:List (Addr×Obj)}{σ:St}{H:Hp}{s:fO}{fp:List Addr}(I:Inv X pins σ H s)(hf:∀b∈fp,zf7 X pins H b)(ho:∀b∈fp,∃o,s.heap.get? b=some o/\∀v,o.data≠.cell v):Inv X (pins++yc0 fp s.heap) σ H s :=
  I.pins_of λp hp=>(aC.mp hp).elim (λz=>I.pin p (aJ _ z)) λz=>by
    obtain⟨hb,e⟩:=yy0 z
    obtain⟨f0,f1,f2,_⟩:=hf p.1 hb
    obtain⟨o,e',d⟩:=ho p.1 hb
    rw[e]at e';cases e'
    exact⟨e,f0,f1,f2,d⟩
theorem Inv.unpinned {pins pl:List (Addr×Obj)}{σ:St}{H:Hp}{s:fO}(I:Inv X (pins++pl) σ H s):Inv X pins σ H s:=I.pins_of λp hp=>I.pin p (aJ _ (aH _ hp))
theorem X7 {iter : Expr}{body : List Stmt}{wi : TI}{g : TG}{tb : TS}{pos : Pos}(hp : PassesOwn (fV X.prog X.w) X.A X.env X.xe)(hc : X.calm = true)(hi : PI X tg iter wi)(hg : PG X tg g)(hb : PSs X body tb)
    (hs:∀x,foldedSetIterable iter X.env x=pure x:=by intro _;rfl):PS X (.For tg iter body [] pos) (xy2 wi g tb):=by
  intro pins s σ H D I h
  refine wpAny_For (thn (hi pins s σ H _ I h) λv s1 h1=>thn h1 λitv s2 h2=>?_) hs
  obtain⟨it,fp,tn,J,H2,e,I2,T,st2,f2,W,⟨m0,w0⟩,turn⟩:=h2
  subst e
  have stat:∀{H':Hp},(∀b∈fp,H' b=none)->∀b∈fp,zf7 X pins H' b:=λhn b hb=>⟨hn b hb,(f2 b hb).2⟩
  refine codeAny_forLoop_any (λn s'=>∃i σ' H',Inv X pins σ' H' s'/\tn i s'.heap/\(∀b∈fp,H' b=none)/\W i n σ' H') ?_ m0 ⟨0,σ,H2,I2,st2,λb hb=>(f2 b hb).1,w0⟩
  rintro n s3 ⟨i,σ3,H3,I3,st3,fr3,w3⟩
  rcases turn i n σ3 H3 w3 with⟨stop,qn⟩|⟨go,N,hN,step⟩
  . refine wpAny_passesOwn hp (thn (T.done X rfl rfl rfl hc i pins s3 σ3 H3 X.xe I3 (stat fr3) st3 stop) λr s4 ⟨hr, I4⟩ => ?_)
    subst hr
    exact wpAny_execs_nil ⟨σ3,H3,I4,qn⟩
  . refine wpAny_passesOwn hp (thn (T.item X rfl rfl rfl hc i pins s3 σ3 H3 X.xe I3 (stat fr3) st3 go) λr s4 ⟨u, hr, h4⟩ => ?_)
    subst hr
    refine wpAny_passesOwn hp (thn h4 λ_ s5 ⟨x,H5,I5,r5,y5,st5,fr5⟩=>?_)
    have I5':=I5.pinned (stat fr5) (T.obj _ _ st5)
    refine wpAny_passesOwn hp (thn (hg _ s5 σ3 H5 x u _ I5' r5 (step x H5 y5)) λ_ s6 ⟨σ6,H6,I6,q6⟩=>?_)
    refine wpAny_passesOwn hp (thn (hb _ s6 σ6 H6 _ I6 q6) λf s7 q7=>?_)
    have again:∀{σ7:St} {H7:Hp},Inv X (pins++yc0 fp s5.heap) σ7 H7 s7->N σ7 H7->∃m,m<n/\∃i σ' H',Inv X pins σ' H' s7/\tn i s7.heap/\(∀b∈fp,H' b=none)/\W i m σ' H':=λ{σ7 H7} I7 n7=>by
      obtain⟨m',hm,w7⟩:=hN σ7 H7 n7
      refine⟨m',hm,i+1,σ7,H7,I7.unpinned,T.keep _ _ _ st5 λb hb o e=>(I7.pin (b,o) (aJ _ (aJ _ (zb4 hb e)))).1,λb hb=>?_,w7⟩
      obtain⟨o,e,d⟩:=T.obj _ _ st5 b hb
      exact(I7.pin (b,o) (aJ _ (aJ _ (zb4 hb e)))).2.1
    cases f with
    | next=>obtain⟨σ7,H7,I7,n7⟩:=q7;exact again I7 n7
    | cont=>obtain⟨σ7,H7,I7,n7⟩:=q7;exact again I7 n7
    | brk=>obtain⟨σ7,H7,I7,q7⟩:=q7;exact⟨σ7,H7,I7.unpinned,q7⟩
    | ret v=>obtain⟨x7,σ7,H7,I7,r7,q7⟩:=q7;exact⟨x7,σ7,H7,I7.unpinned,r7,q7⟩
end
theorem W1 {K : PySem.W.Frag}{a : Addr}{xs : List V}{g : TG}{tb : TS}{D : za9}{σ : St}{H : Hp}(Pv : Nat -> St -> Hp -> Prop)(h0 : Pv 0 σ H)(hl : ∀i σ H, i <= xs.length -> Pv i σ H -> SqL K H a xs)
    (hs:∀i x σ H,xs[i]?=some x->Pv i σ H->g x σ H λσ2 H2=>tb { D with nx:=Pv (i+1),ct:=Pv (i+1),bk:=D.nx } σ2 H2) (hd:∀σ H,Pv xs.length σ H->D.nx σ H) :
    ∃W:Nat->Nat->St->Hp->Prop,(∃m,W 0 m σ H)/\∀i m σ H,W i m σ H ->
      ((Itl K a).stop i H/\D.nx σ H)∨((Itl K a).go i H/\∃N:St->Hp->Prop,(∀σ' H',N σ' H'->∃m',m'<m/\W (i+1) m' σ' H')/\∀x H',(Itl K a).yld i H x H'->g x σ H' λσ2 H2=>tb { D with nx:=N,ct:=N,bk:=D.nx } σ2 H2):=by
  refine⟨λi m σ H=>m=xs.length-i/\i<=xs.length/\Pv i σ H,⟨xs.length,by simp,aP _,h0⟩,?_⟩
  rintro i m σ H ⟨rfl,hi,p⟩
  have q:=hl i σ H hi p
  by_cases hlt:i<xs.length
  . refine .inr ⟨⟨xs, xs[i], q, by simp[hlt]⟩, Pv (i+1), λσ' H' p' => ⟨xs.length-(i+1), by lia, rfl, hlt, p'⟩, λx H' y => ?_⟩
    obtain⟨e,y⟩:=y
    subst e
    exact hs i x σ _ (y xs q) p
  . have e : i = xs.length := by lia
    subst e
    exact .inl ⟨⟨xs,q,ag _⟩,hd σ H p⟩
theorem yw6 {lo : Int}{n : Nat}{g : TG}{tb : TS}{D : za9}{σ : St}{H : Hp}(Pv : Nat -> St -> Hp -> Prop)(h0 : Pv 0 σ H)
    (hs:∀i σ H,i<n->Pv i σ H->g (.int (lo+i)) σ H λσ2 H2=>tb { D with nx:=Pv (i+1),ct:=Pv (i+1),bk:=D.nx } σ2 H2) (hd:∀σ H,Pv n σ H->D.nx σ H) :
    ∃W:Nat->Nat->St->Hp->Prop,(∃m,W 0 m σ H)/\∀i m σ H,W i m σ H ->
      ((Itr lo n).stop i H/\D.nx σ H)∨((Itr lo n).go i H/\∃N:St->Hp->Prop,(∀σ' H',N σ' H'->∃m',m'<m/\W (i+1) m' σ' H')/\∀x H',(Itr lo n).yld i H x H'->g x σ H' λσ2 H2=>tb { D with nx:=N,ct:=N,bk:=D.nx } σ2 H2):=by
  refine⟨λi m σ H=>m=n-i/\i<=n/\Pv i σ H,⟨n,by simp,aP _,h0⟩,?_⟩
  rintro i m σ H ⟨rfl,hi,p⟩
  by_cases hlt:i<n
  . refine .inr ⟨hlt, Pv (i+1), λσ' H' p' => ⟨n-(i+1), by lia, rfl, hlt, p'⟩, λx H' y => ?_⟩
    obtain⟨e,y⟩:=y
    subst e y
    exact hs i σ _ hlt p
  . have e : i = n := by lia
    subst e
    exact .inl ⟨ag _,hd σ H p⟩
theorem yl6 {c : TT}{tb : TS}{D : za9}{σ : St}{H : Hp}(Pv : St -> Hp -> Prop)(μ : St -> Hp -> Nat)(h0 : Pv σ H)
    (hs:∀σ H,Pv σ H->c σ H λb H1=>if b=true then tb { D with nx:=λσ' H'=>Pv σ' H'/\μ σ' H'<μ σ H,ct:=λσ' H'=>Pv σ' H'/\μ σ' H'<μ σ H,bk:=D.nx } σ H1 else D.nx σ H1)
    (mono:∀σ H Q Q',(∀b H1,Q b H1->Q' b H1)->c σ H Q->c σ H Q'):xh5 c tb D σ H:=by
  refine⟨λm σ H=>m=μ σ H/\Pv σ H,⟨_,rfl,h0⟩,?_⟩
  rintro m σ H ⟨rfl,p⟩
  refine mono σ H _ _ (λb H1 q=>?_) (hs σ H p)
  cases b with
  | true=>exact⟨_,λσ' H' ⟨p',l⟩=>⟨_,l,rfl,p'⟩,q⟩
  | false=>exact q
abbrev R2:=V->V->Hp->VK->Prop
def OpR (X:Cx)(f:Value->Value->Sem Value)(r:R2):Prop :=
  ∀(pins:List (Addr×Obj)) (s:fO) (σ:St) (H:Hp) (x y:V) (v u:Value) (Q:VK),Inv X pins σ H s->o0 x v->o0 y u->r x y H Q ->
    fS (fV X.prog X.w) X.A (f v u) (EP X pins σ Q) X.xe s
def UnR (X:Cx)(f:Value->Sem Value)(r:V->Hp->VK->Prop):Prop :=
  ∀(pins:List (Addr×Obj)) (s:fO) (σ:St) (H:Hp) (x:V) (v:Value) (Q:VK),Inv X pins σ H s->o0 x v->r x H Q ->
    fS (fV X.prog X.w) X.A (f v) (EP X pins σ Q) X.xe s
def V8 (X:Cx)(f:Value)(r:List V->Hp->VK->Prop):Prop :=
  ∀(pins:List (Addr×Obj)) (s:fO) (σ:St) (H:Hp) (xs:List V) (us:List Value) (Q:VK),Inv X pins σ H s->p8 xs us->r xs H Q ->
    fS (fV X.prog X.w) X.A (call f us) (EP X pins σ Q) X.xe s
def tOp (r:R2)(ta tb:TE):TE:=λσ H Q=>ta σ H λx H1=>tb σ H1 λy H2=>r x y H2 Q
def tUn (r:V->Hp->VK->Prop)(ta:TE):TE:=λσ H Q=>ta σ H λx H1=>r x H1 Q
def rI (C:Int->Int->Prop)(g:Int->Int->V):R2:=λx y H Q=>∃i j,x=.int i/\y=.int j/\C i j/\Q (g i j) H
def rI0 (g:Int->Int->V):R2:=λx y H Q=>∃i j,x=.int i/\y=.int j/\Q (g i j) H
def rU (g:Int->V):V->Hp->VK->Prop:=λx H Q=>∃i,x=.int i/\Q (g i) H
section
variable {X:Cx}{a b c:Expr}{ta tb tc:TE}{pos:Pos}
theorem xo1 (ha : PE X a ta)(hb : PE X b tb){pins : List (Addr×Obj)}{s : fO}{σ : St}{H : Hp}{R : V -> V -> Hp -> Prop}(I : Inv X pins σ H s)
    (h:ta σ H λx H1=>tb σ H1 λy H2=>R x y H2) {Q:Value->fO->Prop} {f:Value->Value->Sem Value}
    (hf:∀v u s2 x y H2,Inv X pins σ H2 s2->o0 x v->o0 y u->R x y H2->fS (fV X.prog X.w) X.A (f v u) Q X.xe s2) :
    fS (fV X.prog X.w) X.A (eval a X.env) (λv s₁=>fS (fV X.prog X.w) X.A (eval b X.env) (λu s₂=>fS (fV X.prog X.w) X.A (f v u) Q X.xe s₂) X.xe s₁) X.xe s:=by
  refine thn (ha pins s σ H _ I h) λv s1 ⟨x,H1,I1,r1,q1⟩=>?_
  refine thn (hb pins s1 σ H1 _ I1 q1) λu s2 ⟨y,H2,I2,r2,q2⟩=>?_
  exact hf v u s2 x y H2 I2 r1 r2 q2
theorem c0 {op:Operator}{r:R2}(ho:OpR X (binaryOp op) r)(ha:PE X a ta)(hb:PE X b tb):PE X (.BinOp a op b pos) (tOp r ta tb):=by
  intro pins s σ H Q I h
  exact wpAny_BinOp (xo1 ha hb I h λv u s2 x y H2 I2 rx ry q=>ho pins s2 σ H2 x y v u Q I2 rx ry q)
theorem xn1 {op:UnaryOp}{r:V->Hp->VK->Prop}(ho:UnR X (unaryOp op) r)(ha:PE X a ta):PE X (.UnaryOp op a pos) (tUn r ta):=by
  intro pins s σ H Q I h
  exact UnaryOp_ (thn (ha pins s σ H _ I h) λv s1 ⟨x,H1,I1,r1,q1⟩=>ho pins s1 σ H1 x v Q I1 r1 q1)
theorem opI {f : Value -> Value -> Sem Value}{C : Int -> Int -> Prop}{g : Int -> Int -> Int}
    (rule:∀(i j:Int) (t u:Tok) (s:fO) (Q:Value->fO->Prop) (E:Value->fO->Prop),C i j->Q (.int (g i j) s.toks) { s with toks:=s.toks+1 }->fS (fV X.prog X.w) X.A (f (.int i t) (.int j u)) Q E s) :
    OpR X f (rI C λi j=>.int (g i j)):=by
  intro pins s σ H x y v u Q I rx ry h
  obtain⟨i,j,rfl,rfl,hc,q⟩:=h
  obtain⟨t,rfl⟩:=rx
  obtain⟨t',rfl⟩:=ry
  exact rule i j t t' s _ _ hc ⟨.int (g i j),H,I.tok _,⟨_,rfl⟩,q⟩
theorem xq7 {f : Value -> Value -> Sem Value}{g : Int -> Int -> Int}
    (rule:∀(i j:Int) (t u:Tok) (s:fO) (Q:Value->fO->Prop) (E:Value->fO->Prop),Q (.int (g i j) s.toks) { s with toks:=s.toks+1 }->fS (fV X.prog X.w) X.A (f (.int i t) (.int j u)) Q E s) :
    OpR X f (rI0 λi j=>.int (g i j)):=by
  intro pins s σ H x y v u Q I rx ry h
  obtain⟨i,j,rfl,rfl,q⟩:=h
  obtain⟨t,rfl⟩:=rx
  obtain⟨t',rfl⟩:=ry
  exact rule i j t t' s _ _ ⟨.int (g i j),H,I.tok _,⟨_,rfl⟩,q⟩
theorem xk1 {f : Value -> Value -> Sem Value}{g : Int -> Int -> Bool}
    (rule:∀(i j:Int) (t u:Tok) (s:fO) (Q:Value->fO->Prop) (E:Value->fO->Prop),Q (.bool (g i j)) s->fS (fV X.prog X.w) X.A (f (.int i t) (.int j u)) Q E s) :
    OpR X f (rI0 λi j=>.bl (g i j)):=by
  intro pins s σ H x y v u Q I rx ry h
  obtain⟨i,j,rfl,rfl,q⟩:=h
  obtain⟨t,rfl⟩:=rx
  obtain⟨t',rfl⟩:=ry
  exact rule i j t t' s _ _ ⟨.bl (g i j),H,I,rfl,q⟩
def xs8 (i j:Int):Prop:=0<j/\j<1073741824
def xi0 (i j:Int):Prop:=(-(2 ^ 64)<i/\i<2 ^ 64)∨(-(2 ^ 64)<j/\j<2 ^ 64)
theorem xi0.ok {i j:Int}(h:xi0 i j):IntMulOk i j:=by
  rcases h with⟨h1,h2⟩|⟨h1,h2⟩
  . exact .of_left (intBits_le_64 h1 h2)
  . exact .of_right (intBits_le_64 h1 h2)
theorem P1:OpR X (binaryOp .Add) (rI0 λi j=>.int (i+j)):=xq7 λ_ _ _ _ _ _ _ q=>add_int q
theorem yb5:OpR X (binaryOp .Sub) (rI0 λi j=>.int (i-j)):=xq7 λ_ _ _ _ _ _ _ q=>sub_int q
theorem xq8:OpR X (binaryOp .Mult) (rI xi0 λi j=>.int (i*j)):=opI λ_ _ _ _ _ _ _ hc q=>mul_int q hc.ok
theorem ze6:OpR X (binaryOp .FloorDiv) (rI xs8 λi j=>.int (i / j)):=opI λi j _ _ _ _ _ hc q=>by
  have h1:(0:Int)<j:=hc.1
  have h2:j<1073741824:=hc.2
  exact floordiv_int (by lia) (by rw[eP i (by lia)];exact q) (.inl (PyProof.noPylong_small (by lia)))
theorem zg7:OpR X (binaryOp .Mod) (rI (λ_ j=>0<j) λi j=>.int (i % j)):=opI λi j _ _ _ _ _ hc q=>by
  have h1:(0:Int)<j:=hc
  exact mod_int' (by lia) (by rw[eO i (by lia)];exact q)
theorem xj2:OpR X (inplaceOp .Add) (rI0 λi j=>.int (i+j)):=xq7 λ_ _ _ _ _ _ _ q=>iadd_int q
theorem unI {f : Value -> Sem Value}{g : Int -> Int}
    (rule:∀(i:Int) (t:Tok) (s:fO) (Q:Value->fO->Prop) (E:Value->fO->Prop),Q (.int (g i) s.toks) { s with toks:=s.toks+1 }->fS (fV X.prog X.w) X.A (f (.int i t)) Q E s) :
    UnR X f (rU λi=>.int (g i)):=by
  intro pins s σ H x v Q I rx h
  obtain⟨i,rfl,q⟩:=h
  obtain⟨t,rfl⟩:=rx
  exact rule i t s _ _ ⟨.int (g i),H,I.tok _,⟨_,rfl⟩,q⟩
theorem xh8:UnR X (unaryOp .USub) (rU λi=>.int (-i)):=unI λ_ _ _ _ _ q=>neg_int q
end
def xu8 : V -> V -> Bool
  | .non,.non=>true | .non,.int _=>true | .int _,.non=>true | .non,.bl _=>true | .bl _,.non=>true | .non,.str _=>true | .str _,.non=>true
  | .int _,.int _=>true | .bl _,.bl _=>true | .str _,.str _=>true | .byt _,.byt _=>true
  | .int _,.str _=>true | .str _,.int _=>true | .bl _,.str _=>true | .str _,.bl _=>true
  | _,_=>false
def rEq:R2:=λx y H Q=>xu8 x y=true/\Q (.bl (decide (x=y))) H
def rNe:R2:=λx y H Q=>xu8 x y=true/\Q (.bl (!decide (x=y))) H
theorem yq4 {i j:Int}:decide (V.int i=V.int j)=(i==j):=by
  rw[dJ]
  simp
theorem xb2 {i j:Bool}:decide (V.bl i=V.bl j)=(i==j):=by
  rw[dJ]
  simp
theorem yq5 {i j:Str}:decide (V.str i=V.str j)=(i==j):=by
  rw[dJ]
  simp
theorem yq3 {i j:Array UInt8}:decide (V.byt i=V.byt j)=(i.toList==j.toList):=by
  rw[dJ]
  cases i
  cases j
  simp
section
variable {X:Cx}{a b c:Expr}{ta tb tc:TE}{pos:Pos}
theorem n5 {pins:List (Addr×Obj)}{σ:St}{H:Hp}{s:fO}{Q:VK}{k k':Bool}(I:Inv X pins σ H s)(q:Q (.bl k) H)(e:k=k'):EP X pins σ Q (.bool k') s:=by
  subst e
  exact⟨.bl k,H,I,rfl,q⟩
theorem zj2:OpR X (compareOp .Eq) rEq:=by
  intro pins s σ H x y v u Q I rx ry h
  obtain⟨hs,q⟩:=h
  cases x with
  | non =>
    cases rx
    cases y with
    | non=>cases ry;exact PySem.EqNone.eq_none_none (n5 I q (by simp))
    | bl j=>cases ry;exact PySem.EqNone.eq_none_bool (n5 I q (by simp))
    | int j=>obtain⟨t',rfl⟩:=ry;exact PySem.EqNone.eq_none_int (n5 I q (by simp))
    | str j=>obtain⟨t',rfl⟩:=ry;exact PySem.EqNone.eq_none_str (n5 I q (by simp))
    | _=>exact absurd (show false=true from hs) aE
  | bl i =>
    cases rx
    cases y with
    | non=>cases ry;exact PySem.EqNone.eq_bool_none (n5 I q (by simp))
    | bl j=>cases ry;exact eq_bool (n5 I q xb2)
    | str j=>obtain⟨t',rfl⟩:=ry;exact PySem.EqMixed.eq_bool_str (n5 I q (by simp))
    | _=>exact absurd (show false=true from hs) aE
  | int i =>
    obtain⟨t,rfl⟩:=rx
    cases y with
    | non=>cases ry;exact PySem.EqNone.eq_int_none (n5 I q (by simp))
    | int j=>obtain⟨t',rfl⟩:=ry;exact eq_int (n5 I q yq4)
    | str j=>obtain⟨t',rfl⟩:=ry;exact PySem.EqMixed.eq_int_str (n5 I q (by simp))
    | _=>exact absurd (show false=true from hs) aE
  | str i =>
    obtain⟨t,rfl⟩:=rx
    cases y with
    | non=>cases ry;exact PySem.EqNone.eq_str_none (n5 I q (by simp))
    | bl j=>cases ry;exact PySem.EqMixed.eq_str_bool (n5 I q (by simp))
    | int j=>obtain⟨t',rfl⟩:=ry;exact PySem.EqMixed.eq_str_int (n5 I q (by simp))
    | str j=>obtain⟨t',rfl⟩:=ry;exact eq_str (n5 I q yq5)
    | _=>exact absurd (show false=true from hs) aE
  | byt i =>
    obtain⟨t,rfl⟩:=rx
    cases y with
    | byt j=>obtain⟨t',rfl⟩:=ry;exact W.eq_bytes (n5 I q yq3)
    | _=>exact absurd (show false=true from hs) aE
  | _=>cases y <;> exact absurd (show false=true from hs) aE
theorem yi9:OpR X (compareOp .NotEq) rNe:=by
  intro pins s σ H x y v u Q I rx ry h
  obtain⟨hs,q⟩:=h
  cases x with
  | non =>
    cases rx
    cases y with
    | non=>cases ry;exact PySem.EqNone.ne_none_none (n5 I q (by simp))
    | bl j=>cases ry;exact PySem.EqNone.ne_none_bool (n5 I q (by simp))
    | int j=>obtain⟨t',rfl⟩:=ry;exact PySem.EqNone.ne_none_int (n5 I q (by simp))
    | str j=>obtain⟨t',rfl⟩:=ry;exact PySem.EqNone.ne_none_str (n5 I q (by simp))
    | _=>exact absurd (show false=true from hs) aE
  | bl i =>
    cases rx
    cases y with
    | non=>cases ry;exact PySem.EqNone.ne_bool_none (n5 I q (by simp))
    | bl j=>cases ry;exact ne_bool (n5 I q (congrArg not xb2))
    | str j=>obtain⟨t',rfl⟩:=ry;exact PySem.EqMixed.ne_bool_str (n5 I q (by simp))
    | _=>exact absurd (show false=true from hs) aE
  | int i =>
    obtain⟨t,rfl⟩:=rx
    cases y with
    | non=>cases ry;exact PySem.EqNone.ne_int_none (n5 I q (by simp))
    | int j=>obtain⟨t',rfl⟩:=ry;exact ne_int (n5 I q (congrArg not yq4))
    | str j=>obtain⟨t',rfl⟩:=ry;exact PySem.EqMixed.ne_int_str (n5 I q (by simp))
    | _=>exact absurd (show false=true from hs) aE
  | str i =>
    obtain⟨t,rfl⟩:=rx
    cases y with
    | non=>cases ry;exact PySem.EqNone.ne_str_none (n5 I q (by simp))
    | bl j=>cases ry;exact PySem.EqMixed.ne_str_bool (n5 I q (by simp))
    | int j=>obtain⟨t',rfl⟩:=ry;exact PySem.EqMixed.ne_str_int (n5 I q (by simp))
    | str j=>obtain⟨t',rfl⟩:=ry;exact ne_str (n5 I q (congrArg not yq5))
    | _=>exact absurd (show false=true from hs) aE
  | byt i =>
    obtain⟨t,rfl⟩:=rx
    cases y with
    | byt j=>obtain⟨t',rfl⟩:=ry;exact W.ne_bytes (n5 I q (congrArg not yq3))
    | _=>exact absurd (show false=true from hs) aE
  | _=>cases y <;> exact absurd (show false=true from hs) aE
theorem yi8:OpR X (compareOp .Lt) (rI0 λi j=>.bl (decide (i<j))):=xk1 λ_ _ _ _ _ _ _ q=>lt_int q
theorem yr7:OpR X (compareOp .LtE) (rI0 λi j=>.bl (decide (i<=j))):=xk1 λ_ _ _ _ _ _ _ q=>le_int q
theorem xe5:OpR X (compareOp .Gt) (rI0 λi j=>.bl (decide (j<i))):=xk1 λ_ _ _ _ _ _ _ q=>gt_int q
theorem xm8:OpR X (compareOp .GtE) (rI0 λi j=>.bl (decide (j<=i))):=xk1 λ_ _ _ _ _ _ _ q=>ge_int q
theorem xk3:OpR X (compareOp .IsNot) (λx y H Q=>y=.non/\Q (.bl (!decide (x=.non))) H):=by
  intro pins s σ H x y v u Q I rx ry h
  obtain⟨rfl,q⟩:=h
  cases ry
  refine isnot_none_gen (n5 I q ?_)
  cases x <;> first
    | (cases rx;rfl)
    | (obtain⟨t,rfl⟩:=rx;rfl)
theorem n1 (b:Expr){op:CmpOp}(h:op≠.In:=by decide)(h2:op≠.NotIn:=by decide):behindInMarks op b=false:=by
  have e1:(op==CmpOp.In)=false:=by cases op <;> first|rfl|exact absurd rfl h
  have e2:(op==CmpOp.NotIn)=false:=by cases op <;> first|rfl|exact absurd rfl h2
  cases b <;> simp[behindInMarks,e1,e2]
theorem Q3 {op:CmpOp}{r:R2}(ho:OpR X (compareOp op) r)(ha:PE X a ta)(hb:PE X b tb)(hm:behindInMarks op b=false):PE X (.Compare a [op] [b] pos) (tOp r ta tb):=by
  intro pins s σ H Q I h
  exact wpAny_Compare1 (xo1 ha hb I h λv u s2 x y H2 I2 rx ry q=>ho pins s2 σ H2 x y v u Q I2 rx ry q) hm
def xn5 (t:TE):TT:=λσ H Q=>t σ H λx H'=>∃k,x=.bl k/\Q k H'
theorem k8 {op:CmpOp}{r:R2}(ho:OpR X (compareOp op) r)(ha:PE X a ta)(hb:PE X b tb)(hm:behindInMarks op b=false):PT X (.Compare a [op] [b] pos) (xn5 (tOp r ta tb)):=by
  intro pins s σ H Q I h
  refine wpAny_isTrue_Compare1 (thn (ha pins s σ H _ I h) λv s1 ⟨x,H1,I1,r1,q1⟩=>thn (hb pins s1 σ H1 _ I1 q1) λu s2 ⟨y,H2,I2,r2,q2⟩ =>
    thn (ho pins s2 σ H2 x y v u _ I2 r1 r2 q2) λc s3 ⟨z,H3,I3,r3,k,e,q3⟩=>?_) hm
  subst e
  cases r3
  exact wpAny_truthy_bool ⟨H3,I3,q3⟩
def xs1 (r r':R2)(ta tb tc:TE):TE:=λσ H Q=>ta σ H λx H1=>tb σ H1 λy H2=>r x y H2 λz H3=>∃k,z=.bl k /\
  (if k=true then tc σ H3 λw' H4=>r' y w' H4 Q else Q (.bl false) H3)
theorem yj4 {op op' : CmpOp}{r r' : R2}(ho : OpR X (compareOp op) r)(ho' : OpR X (compareOp op') r')(ha : PE X a ta)(hb : PE X b tb)(hc : PE X c tc)
    (hm:lastMarks [op,op'] [b,c]=false:=by with_unfolding_all rfl):PT X (.Compare a [op,op'] [b,c] pos) (xn5 (xs1 r r' ta tb tc)):=by
  intro pins s σ H Q I h
  refine isTrue_chain (thn (ha pins s σ H _ I h) λv s1 ⟨x,H1,I1,r1,q1⟩=>test_link (thn (hb pins s1 σ H1 _ I1 q1) λu s2 ⟨y,H2,I2,r2,q2⟩ =>
    thn (ho pins s2 σ H2 x y v u _ I2 r1 r2 q2) λd s3 ⟨z,H3,I3,r3,k,e,q3⟩=>?_)) hm
  subst e
  cases r3
  refine wpAny_truthy_bool ?_
  cases k with
  | false =>
    obtain⟨k',e',q'⟩:=q3
    cases e'
    exact ite_ff ⟨H3,I3,q'⟩
  | true =>
    refine ite_tt (test_last (thn (hc pins s3 σ H3 _ I3 q3) λw' s4 ⟨z',H4,I4,r4,q4⟩=>thn (ho' pins s4 σ H4 y z' u w' _ I4 r2 r4 q4) λd' s5 ⟨z2,H5,I5,r5,k2,e2,q5⟩=>?_))
    subst e2
    cases r5
    exact wpAny_truthy_bool ⟨H5,I5,q5⟩
theorem ya2:(fQ:Nat)<2 ^ 63:=by rw[sizeLine_eq];decide
theorem N9 {x:V}{us:List Value}(r:p8 [x] us):∃u,us=[u]/\o0 x u:=by
  cases r with
  | cons r1 r2=>cases r2;exact⟨_,rfl,r1⟩
theorem xh9 {x y:V}{us:List Value}(r:p8 [x,y] us):∃u w',us=[u,w']/\o0 x u/\o0 y w':=by
  cases r with
  | cons r1 r2 =>
    cases r2 with
    | cons r3 r4=>cases r4;exact⟨_,_,rfl,r1,r3⟩
theorem yf0:V8 X (.builtin "divmod") (λxs H Q=>∃i j,xs=[.int i,.int j]/\xs8 i j/\∀p,H p=none->Q (.ref p) (upd H p (.tup [.int (i / j),.int (i % j)]))):=by
  intro pins s σ H xs us Q I r h
  obtain⟨i,j,rfl,⟨h1,h2⟩,q⟩:=h
  obtain⟨u,w',rfl,⟨t,rfl⟩,⟨t',rfl⟩⟩:=xh9 r
  refine divmod_int (by lia) ?_ (.inl (PyProof.noPylong_small (by lia)))
  rw[eP i (by lia),eO i (by lia)]
  have hn:H s.heap.objs.size=none:=I.hok.fresh (ag _)
  refine⟨.ref s.heap.objs.size,_,?_,rfl,q _ hn⟩
  refine I.laid (λb o e=>ar _ e) (ag _) ⟨by simp only[aD,bW];rw[sizeLine_eq];decide,[.int (i / j) s.toks,.int (i % j) (s.toks+1)],.cons ⟨_,rfl⟩ (.cons ⟨_,rfl⟩ .nil),?_⟩
  exact⟨_,aB s.heap rfl,rfl,0,rfl,rfl⟩
end
structure ym2 (h:Heap) (x dx C:Addr) (mA:Str->Option Value):Prop where
  obj:h.get? x=some (W.instObj C dx)
  ns:h.Ns1 dx mA
  ne:dx≠x
theorem yx7 {h:Heap}{dx:Addr}{mA:Str->Option Value}(n:h.Ns1 dx mA):∃od,h.get? dx=some od/\∀name,W.lookIn name od=some (mA name):=by
  obtain⟨o,es,ep,ho,hd,hk,_,hm⟩:=n
  refine⟨o,ho,λname=>?_⟩
  have e:=hm name
  unfold nsFind findBy at e
  rw[←Array.find?_toList]at e
  unfold W.lookIn
  rw[hd]
  dsimp only
  split
  . rename_i y q
    rw[q]at e
    exact congrArg some e
  . rename_i q
    rw[q]at e
    have a:es.toList.any (·.refKey)=false:=by
      rw[List.any_eq_false]
      intro y hy
      obtain⟨z,t,hkey⟩:=hk y (Array.mem_toList_iff.mp hy)
      simp[DictEntry.refKey,hkey]
    have a':¬es.toList.any (·.refKey)=true:=by rw[a];exact aE
    rw[if_neg a']
    exact congrArg some e
theorem ym2.look {h:Heap}{x dx C:Addr}{mA:Str->Option Value}(I:ym2 h x dx C mA):∃od,W.InstAt h x (W.instObj C dx) C (some od)/\∀name,W.lookIn name od=some (mA name) :=
  let ⟨od,ho,hl⟩:=yx7 I.ns
  ⟨od,⟨I.obj,rfl,rfl,ho⟩,hl⟩
section
variable {prog:fR}{w:fW}{A:fX}{E:Value->fO->Prop}{s:fO}{K:W.Frag}{x dx C f:Addr}{mA:Str->Option Value}{name:Str}{v:Value}
theorem xi9 {expr : Bool}{Q : Value -> fO -> Prop}(X : K.In s.heap)(I : ym2 s.heap x dx C mA)(hg : W.plainGet K C name = true)(hh : W.hasDictIn K C = true)
    (ha:W.findIn K (.ref C) name=some none) (hv:mA name=some v) (hv':W.handedIn v=true) (h:Q v { s with toks:=s.toks+1 }) :
    fS (fV prog w) A (getAttr (.ref x) name expr) Q E s:=by
  obtain⟨od,J,hl⟩:=I.look
  exact W.get_value X J (W.plainGet_of hg).1 (W.findObj_own hh ha rfl (by rw[hl,hv])) hv' h
theorem xc0 {pl : Sem Bool}{Q : Value×List Value -> fO -> Prop}(X : K.In s.heap)(I : ym2 s.heap x dx C mA)(hg : W.plainGet K C name = true)
    (hf:W.findIn K (.ref C) name=some (some (.ref f))) (ht:W.isFn K (.ref f)=true) (hv:mA name=none) (h:Q (.ref f,[.ref x]) s) :
    fS (fV prog w) A (getMethod (.ref x) name pl) Q E s:=by
  obtain⟨od,J,hl⟩:=I.look
  exact W.method_fn X J (W.plainGet_of hg).1 (W.plainGet_of hg).2 hf (beq_iff_eq.mp ht) (by show(W.lookIn name od).map (·.isSome)=some false;rw[hl,hv];rfl) h
theorem xl7 {ns : List Str}{Q : Unit -> fO -> Prop}(X : K.In s.heap)(I : ym2 s.heap x dx C mA)
    (hs:W.findIn K (.ref C) "__setattr__"=some (some (.builtin "object.__setattr__"))) (hp:W.plainOver K C=true) (ht:W.takerIn K C name=some none) (hh:W.hasDictIn K C=true)
    (hw:PySem.Within mA ns) (hsz:ns.length<=fQ)
    (h:∀h',ym2 h' x dx C (λy=>if y=name then some v else mA y)->Heap.SameBut dx s.heap h'->Q () { s with heap:=h',toks:=s.toks+2 }) :
    fS (fV prog w) A (setAttr (.ref x) name v) Q E s:=by
  obtain⟨od,J,hl⟩:=I.look
  refine W.set_plain X J hs (W.osa_open (s:={ s with toks:=s.toks+1 }) (r:=none) X J hp ht λb=>?_)
  obtain⟨cd,hc,hd'⟩:=W.any_some hh
  have hx:s.heap.get? x=some ⟨.ref C,some dx,.plain,#[]⟩:=I.obj
  refine fN (fP (fN (fN (wpAny_loadPart hx (fN (W.Looks.here (s:={ s with toks:=s.toks+1 }) (W.looks_clsIn X hc) ?_))))))
  rw[hd']
  refine fP (a:=some dx) (fN (fP (fN ?_)))
  refine wpAny_nsSet1 (s:={ s with toks:=s.toks+1 }) I.ns λh' hn2 hs2=>?_
  obtain⟨oD,esD,epD,hoD,hdD,hcD⟩:=hn2.count (PySem.Within.cons name v hw)
  refine fN (wpAny_lookBehind hoD (by rw[hdD];exact pastItsLine_dict (aW hcD (by rw[aD];lia))) ?_)
  exact fP (h _ ⟨(hs2.2 _ (Ne.symm I.ne)).trans I.obj,hn2,I.ne⟩ hs2)
theorem xd2 {R : Result -> fO -> Prop}{vs : List Value}{kw : List (Str×Value)}(X : K.In s.heap)(hm : W.makesIn K C = true)
    (hi:W.findIn K (.ref C) "__init__"=some (some (.ref f))) (hf:W.typeIn K (.ref f)=some (.type "function"))
    (h : codeAny (fV prog w) (A.under (.builtin "type.__call__" ⟨.ref C::vs, kw⟩)) (.call (.ref f) ⟨.ref (s.heap.objs.size+1)::vs, kw⟩) (W.InitBack (s.heap.objs.size+1) R)
      { s with heap:=(s.heap.push W.emptyDict).push (W.instObj C s.heap.objs.size) }) :
    codeAny (fV prog w) A (.call (.ref C) ⟨vs,kw⟩) R s:=by
  obtain⟨hh,g,d,t,os⟩:=s
  exact W.make_core (W.makes_of X hm) (W.looks_findIn X hi) (λself=>W.bind_fn X self hf) (.inl rfl) h
end
def Y9 (f : Str)(v : V) : List (Str×V) -> List (Str×V)
  | []=>[(f,v)]
  | (g,x)::r=>if g=f then(g,v)::r else(g,x)::Y9 f v r
theorem zj1 (f g : Str)(v : V) : ∀fs : List (Str×V), (Y9 f v fs).lookup g = if g = f then some v else fs.lookup g
  | []=>by
    show List.lookup g [(f,v)]=_
    by_cases h:g=f
    . have hb : (g==f) = true := beq_iff_eq.mpr h
      simp only[List.lookup,hb,if_pos h]
    . have hb : (g==f) = false := beq_eq_false_iff_ne.mpr h
      simp only[List.lookup,hb,if_neg h]
  | (k,x)::r=>by
    have ih:=zj1 f g v r
    rw[show Y9 f v ((k,x)::r)=(if k=f then(k,v)::r else(k,x)::Y9 f v r) from rfl]
    by_cases hk:k=f
    . rw[if_pos hk]
      by_cases h:g=k
      . have hb : (g==k) = true := beq_iff_eq.mpr h
        simp only[List.lookup,hb,if_pos (h.trans hk)]
      . have hb : (g==k) = false := beq_eq_false_iff_ne.mpr h
        simp only[List.lookup,hb,if_neg (λe:g=f=>h (e.trans hk.symm))]
    . rw[if_neg hk]
      by_cases h:g=k
      . have hb : (g==k) = true := beq_iff_eq.mpr h
        simp only[List.lookup,hb,if_neg (λe:g=f=>hk (h.symm.trans e))]
      . have hb : (g==k) = false := beq_eq_false_iff_ne.mpr h
        simp only[List.lookup,hb]
        exact ih
theorem zg3 (f : Str)(v : V) : ∀fs : List (Str×V), f ∈ (Y9 f v fs).map (·.1) /\ ∀g, g ∈ fs.map (·.1) -> g ∈ (Y9 f v fs).map (·.1)
  | []=>⟨by simp[Y9],λg h=>by simp at h⟩
  | (k,x)::r=>by
    obtain⟨i1,i2⟩:=zg3 f v r
    rw[show Y9 f v ((k,x)::r)=(if k=f then(k,v)::r else(k,x)::Y9 f v r) from rfl]
    by_cases hk:k=f
    . rw[if_pos hk]
      subst hk
      exact⟨by simp,λg h=>by simpa using h⟩
    . rw[if_neg hk]
      refine⟨?_,λg h=>?_⟩
      . rw[aR]
        exact ao _ i1
      . rw[aR]at h ⊢
        rcases aw.mp h with e|e
        . exact aw.mpr (.inl e)
        . exact ao _ (i2 g e)
theorem zj0 (f : Str)(v : V) : ∀fs : List (Str×V), (Y9 f v fs).length <= fs.length+1
  | []=>by simp[Y9]
  | (k,x)::r=>by
    have ih:=zj0 f v r
    rw[show Y9 f v ((k,x)::r)=(if k=f then(k,v)::r else(k,x)::Y9 f v r) from rfl]
    by_cases hk:k=f
    . rw[if_pos hk,aD,aD];lia
    . rw[if_neg hk,aD,aD];lia
theorem za0.some_of {v:V}{o:Option Value}(r:za0 (some v) o):∃u,o=some u/\o0 v u:=by
  cases o with
  | none=>exact(show False from r).elim
  | some u=>exact⟨u,rfl,r⟩
theorem za0.none_of {o:Option Value}(r:za0 none o):o=none:=by
  cases o with
  | none=>rfl
  | some u=>exact(show False from r).elim
theorem yw7 {v:V}{u:Value}(r:o0 v u):W.handedIn u=true:=by
  cases v with
  | non=>cases (show u=Value.none from r);rfl
  | bl b=>cases (show u=Value.bool b from r);rfl
  | int i=>obtain⟨t,e⟩:=(show ∃t,u=Value.int i t from r);cases e;rfl
  | str x=>obtain⟨t,e⟩:=(show ∃t,u=Value.str x t from r);cases e;rfl
  | byt b=>obtain⟨t,e⟩:=(show ∃t,u=Value.bytes b t from r);cases e;rfl
  | flt b=>obtain⟨t,e⟩:=(show ∃t,u=Value.float b t from r);cases e;rfl
  | ref a=>cases (show u=Value.ref a from r);rfl
  | ty n=>cases (show u=Value.type n from r);rfl
section
variable {P:fR}{w:fW}{H H':Hp}{h h':Heap}{a C dx:Addr}{fs fs':List (Str×V)}
theorem zd6 (hok:HOk P w H h)(e:H a=some (.ins C dx fs)):∃mA,ym2 h a dx C mA/\(∀f,za0 (fs.lookup f) (mA f))/\PySem.Within mA (fs.map (·.1))/\fs.length<=1000/\H dx=some (.own a):=by
  obtain⟨d,z,ne,ob,mA,n,r,q⟩:=(show m9 P w H h a (.ins C dx fs) from hok a _ e)
  exact⟨mA,⟨ob,n,ne⟩,r,q,z,d⟩
end
structure Cls (K:W.Frag) (C:Addr):Prop where
  pg:W.plainGet K C Str.empty=true
  hd:W.hasDictIn K C=true
  po:W.plainOver K C=true
  sa:W.findIn K (.ref C) "__setattr__"=some (some (.builtin "object.__setattr__"))
theorem Cls.get {K:W.Frag}{C:Addr}(c:Cls K C)(f:Str):W.plainGet K C f=true:=c.pg
def D3 (K:W.Frag)(C:Addr)(f:Str):Prop:=W.findIn K (.ref C) f=some none
theorem D3.taker {K:W.Frag}{C:Addr}{f:Str}(n:D3 K C f):W.takerIn K C f=some none:=by
  unfold W.takerIn
  rw[show W.findIn K (.ref C) f=some none from n]
  rfl
structure yz8 (K:W.Frag) (C:Addr) (m:Str) (f:Addr):Prop where
  at_:W.findIn K (.ref C) m=some (some (.ref f))
  fn:W.isFn K (.ref f)=true
  kp:W.keepIn K (.ref f)=true
section
variable {X:Cx}{pins:List (Addr×Obj)}{σ:St}{H:Hp}{s:fO}{a C dx:Addr}{fs:List (Str×V)}{f:Str}{v:V}{A:fX}{E:Value->fO->Prop}
theorem zo8 {b : Bool}{Q : Value -> fO -> Prop}(I : Inv X pins σ H s)(e : H a = some (.ins C dx fs))(c : Cls X.K C)(n : D3 X.K C f)(l : fs.lookup f = some v)
    (h:∀u s',Inv X pins σ H s'->o0 v u->Q u s'):fS (fV X.prog X.w) A (getAttr (.ref a) f b) Q E s:=by
  obtain⟨mA,O,r,_,_,_⟩:=zd6 I.hok e
  obtain⟨u,hu,ru⟩:=za0.some_of (v:=v) (o:=mA f) (by rw[←l];exact r f)
  exact xi9 I.kIn O (c.get f) c.hd n hu (yw7 ru) (h u _ (I.tok _) ru)
theorem zb1 {m : Str}{g : Addr}{pl : Sem Bool}{Q : Value×List Value -> fO -> Prop}(I : Inv X pins σ H s)(e : H a = some (.ins C dx fs))(c : Cls X.K C)(k : yz8 X.K C m g)(l : fs.lookup m = none)
    (h:Q (.ref g,[.ref a]) s):fS (fV X.prog X.w) A (getMethod (.ref a) m pl) Q E s:=by
  obtain⟨mA,O,r,_,_,_⟩:=zd6 I.hok e
  have hn:mA m=none:=za0.none_of (by rw[←l];exact r m)
  exact xc0 I.kIn O (c.get m) k.at_ k.fn hn h
theorem zs1 {y : V}{u : Value}{Q : Unit -> fO -> Prop}(I : Inv X pins σ H s)(e : H a = some (.ins C dx fs))(c : Cls X.K C)(n : D3 X.K C f)(hl : fs.length<1000)(ry : o0 y u)
    (h:∀s',Inv X pins σ (upd H a (.ins C dx (Y9 f y fs))) s'->Q () s'):fS (fV X.prog X.w) A (setAttr (.ref a) f u) Q E s:=by
  obtain⟨mA,O,r,wi,_,ho⟩:=zd6 I.hok e
  have hz:(fs.map (·.1)).length<=fQ:=by rw[aa,sizeLine_eq];lia
  refine xl7 I.kIn O c.sa c.po n.taker c.hd wi hz λh' O' sb=>h _ ?_
  have hd:∃o,h'.get? dx=some o:=let ⟨o,_,_,e',_⟩:=O'.ns;⟨o,e'⟩
  refine I.write (x:=a) (e:=dx) (by rw[e];exact True.intro) (.inr ho) (λb q hb z=>(sb.2 b hb).trans z) hd ?_
  refine⟨by rw[z5 O.ne];exact ho,?_,O.ne,O'.obj,_,O'.ns,λg=>?_,λg hg=>?_⟩
  . have:=zj0 f y fs;lia
  . show za0 ((Y9 f y fs).lookup g) (if g = f then some u else mA g)
    rw[zj1]
    by_cases q:g=f
    . rw[if_pos q,if_pos q];exact ry
    . rw[if_neg q,if_neg q];exact r g
  . by_cases q : g = f
    . rw[q];exact(zg3 f y fs).1
    . refine(zg3 f y fs).2 g (wi g λz => hg ?_)
      show(if g=f then some u else mA g)=none
      rw[if_neg q];exact z
theorem Inv.made (I : Inv X pins σ H s) : Inv X pins σ (upd (upd H s.heap.objs.size (.own (s.heap.objs.size+1))) (s.heap.objs.size+1) (.ins C s.heap.objs.size []))
    { s with heap:=(s.heap.push W.emptyDict).push (W.instObj C s.heap.objs.size) }:=by
  have e1:(s.heap.push W.emptyDict).get? s.heap.objs.size=some W.emptyDict:=aB s.heap rfl
  have e2:((s.heap.push W.emptyDict).push (W.instObj C s.heap.objs.size)).get? (s.heap.objs.size+1)=some (W.instObj C s.heap.objs.size):=by
    have:=aB (s.heap.push W.emptyDict) (o:=W.instObj C s.heap.objs.size) rfl
    rwa [cN]at this
  have e3:(s.heap.push W.emptyDict).Ns s.heap.objs.size (λ_=>none):=⟨W.emptyDict,#[],_,e1,rfl,(λe he=>absurd he (by simp)),λ_=>rfl⟩
  have I1:=I.laid (a:=s.heap.objs.size) (o:=.own (s.heap.objs.size+1)) (h':=s.heap.push W.emptyDict) (t':=s.toks) (λb u q=>ar _ q) (ag _) ⟨_,e1⟩
  refine I1.laid (a:=s.heap.objs.size+1) (o:=.ins C s.heap.objs.size []) (t':=s.toks) (λb u q=>ar _ q) (fM (cN _ _)) ?_
  have ne:s.heap.objs.size≠s.heap.objs.size+1:=aO (bK _)
  refine⟨by rw[z5 ne,z3],aP _,ne,e2,λ_=>none,(Heap.Ns1.of_empty e3).at λo q=>ar _ q,λ_=>True.intro,λy hy=>absurd rfl hy⟩
theorem xi4 {prog : fR}{w : fW}{env : Env}{e : Expr}{f : Str}{pos : Pos}{s : fO}{Q : Value -> fO -> Prop}(hb : attributeBase e f env (eval e env) = eval e env)
    (h:fS (fV prog w) A (eval e env) (λo s₁=>fS (fV prog w) A (getAttr o f true) Q E s₁) E s):fS (fV prog w) A (eval (.Attribute e f pos) env) Q E s :=
  Attribute_any_ h (by rw[arm_eval_Attribute,hb])
end
def xy1 (K:W.Frag)(ta:TE)(f:Str):TE:=λσ H Q=>ta σ H λx H1=>∃a C dx fs v,x=.ref a/\H1 a=some (.ins C dx fs)/\Cls K C/\D3 K C f/\fs.lookup f=some v/\Q v H1
def xx8 (K:W.Frag)(ta tv:TE)(f:Str):TS:=λD σ H=>tv σ H λy H1=>ta σ H1 λx H2=>∃a C dx fs,x=.ref a/\H2 a=some (.ins C dx fs)/\Cls K C/\D3 K C f/\fs.length<1000 /\
  D.nx σ (upd H2 a (.ins C dx (Y9 f y fs)))
def xw2 (X:Cx)(op:Operator)(rd:V->V->Hp->VK->Prop):Prop :=
  ∀(pins:List (Addr×Obj)) (s:fO) (σ:St) (H:Hp) (x y:V) (u v:Value) (Q:VK),Inv X pins σ H s->o0 x u->o0 y v->rd x y H Q->fS (fV X.prog X.w) X.A (inplaceOp op u v) (EP X pins σ Q) X.xe s
def xl5 (K:W.Frag)(ta tv:TE)(rd:V->V->Hp->VK->Prop)(f:Str):TS:=λD σ H=>ta σ H λx H1=>∃a C dx fs v,x=.ref a/\H1 a=some (.ins C dx fs)/\Cls K C/\D3 K C f/\fs.lookup f=some v /\
  tv σ H1 λy H2=>rd v y H2 λz H3=>∃dx' fs',H3 a=some (.ins C dx' fs')/\fs'.length<1000/\D.nx σ (upd H3 a (.ins C dx' (Y9 f z fs')))
section
variable {X:Cx}{o e value:Expr}{f:Str}{pos pos' tpos:Pos}{ta tv:TE}
theorem y3 (he:PE X e ta)(hb:attributeBase e f X.env (eval e X.env)=eval e X.env):PE X (.Attribute e f pos) (xy1 X.K ta f):=by
  intro pins s σ H Q I h
  refine xi4 hb (thn (he pins s σ H _ I h) λu s1 ⟨x,H1,I1,rx,a,C,dx,fs,v,ex,ea,c,n,l,q⟩=>?_)
  subst ex
  obtain rfl:u=Value.ref a:=rx
  exact zo8 I1 ea c n l λu' s2 I2 ru=>⟨v,H1,I2,ru,q⟩
theorem i6 (ha:PE X o ta)(hv:PE X value tv)(hs:swapsWith value (some (.Attribute o f pos')) pos.line X.env=pure false):PS X (.Assign [.Attribute o f pos'] value pos) (xx8 X.K ta tv f):=by
  intro pins s σ H D I h
  refine plainObj_wpAny_Assign_Attribute (thn (hv pins s σ H _ I h) λu s1 ⟨y,H1,I1,ry,q⟩=>thn (ha pins s1 σ H1 _ I1 q) λov s2 ⟨x,H2,I2,rx,a,C,dx,fs,ex,ea,c,n,l,q2⟩=>?_) hs
  subst ex
  obtain rfl:ov=Value.ref a:=rx
  exact zs1 I2 ea c n l ry λs3 I3=>⟨σ,_,I3,q2⟩
theorem yy3 {op:Operator}{rd:V->V->Hp->VK->Prop}(ha:PE X o ta)(hv:PE X value tv)(hop:xw2 X op rd):PS X (.AugAssign (.Attribute o f tpos) op value pos) (xl5 X.K ta tv rd f):=by
  intro pins s σ H D I h
  refine wpAny_AugAssign_AttributeAny (thn (ha pins s σ H _ I h) λov s1 ⟨x,H1,I1,rx,a,C,dx,fs,v,ex,ea,c,n,l,q⟩=>?_)
  subst ex
  obtain rfl:ov=Value.ref a:=rx
  refine zo8 I1 ea c n l λu s2 I2 ru=>thn (hv pins s2 σ H1 _ I2 q) λw3 s3 ⟨y,H2,I3,ry,q3⟩=>thn (hop pins s3 σ H2 v y u w3 _ I3 ru ry q3) λw4 s4 ⟨z,H3,I4,rz,dx',fs',ea',l',q4⟩=>?_
  exact zs1 I4 ea' c n l' rz λs5 I5=>⟨σ,_,I5,q4⟩
end
section
variable {X:Cx}{pins:List (Addr×Obj)}{σ:St}{H:Hp}{s:fO}{A:fX}{E:Value->fO->Prop}{Q:Value->fO->Prop}{c:Value}{b:Bool}
inductive K0 (K:W.Frag) (H:Hp):V->Value->Prop where
  | non:K0 K H .non (.type "NoneType")
  | bl (x:Bool):K0 K H (.bl x) (.type "bool")
  | int (i:Int):K0 K H (.int i) (.type "int")
  | str (x:Str):K0 K H (.str x) (.type "str")
  | flt (x:UInt64):K0 K H (.flt x) (.type "float")
  | lst {a:Addr} {xs:List V} (e:H a=some (.lst xs)):K0 K H (.ref a) (.type "list")
  | frz {a:Addr} {o:Obj} {xs:List V} (e:H a=some (.frz o (.lst xs))):K0 K H (.ref a) (.type "list")
  | tup {a:Addr} {xs:List V} (e:H a=some (.tup xs)):K0 K H (.ref a) (.type "tuple")
  | dK {a:Addr} {kvs:List (Key×V)} (e:H a=some (.dK kvs)):K0 K H (.ref a) (.type "dict")
  | dT {a:Addr} {kvs:List (List Key×V)} (e:H a=some (.dT kvs)):K0 K H (.ref a) (.type "dict")
  | ins {a C dx : Addr} {fs : List (Str×V)} (e : H a = some (.ins C dx fs)) (cl : Cls K C) (ha : W.findIn K (.ref C) "__class__" = some (some (.builtin "object.__class__")))
      (hn:W.specialIn K (.builtin "object.__class__") "__get__"=some (some (.builtin "getset_descriptor.__get__"))) (htk:W.takesIn K (.builtin "object.__class__")=some true)
      (hm:W.mroIn K C (.type "object")=some true):K0 K H (.ref a) (.ref C)
theorem zx2 {x : V}{u t : Value}(I : Inv X pins σ H s)(rx : o0 x u)(ty : K0 X.K H x t)(e : W.kitOne X.K t c = some b)(h : ∀tk, Q (.bool b) { s with toks := tk }) :
    fS (fV X.prog X.w) A (call (.builtin "isinstance") [u,c]) Q E s:=by
  cases ty with
  | non=>cases (show u=Value.none from rx);exact W.kia_one W.kitx_none I.kIn True.intro e (λz=>nomatch z) h
  | bl y=>cases (show u=Value.bool y from rx);exact W.kia_one W.kitx_bool I.kIn True.intro e (λz=>nomatch z) h
  | int i=>obtain⟨t,q⟩:=(show ∃t,u=Value.int i t from rx);cases q;exact W.kia_one W.kitx_int I.kIn True.intro e (λz=>nomatch z) h
  | str y=>obtain⟨t,q⟩:=(show ∃t,u=Value.str y t from rx);cases q;exact W.kia_one W.kitx_str I.kIn True.intro e (λz=>nomatch z) h
  | flt y=>obtain⟨t,q⟩:=(show ∃t,u=Value.float y t from rx);cases q;exact W.kia_one W.kitx_float I.kIn True.intro e (λz=>nomatch z) h
  | @lst a xs ea =>
    cases (show u=Value.ref a from rx)
    obtain⟨_,_,n,_,h1⟩:=(show m9 X.prog X.w H s.heap a (.lst xs) from I.hok a _ ea)
    exact W.kia_one W.kitx_list I.kIn ⟨_,h1,rfl⟩ e (λz=>nomatch z) h
  | @frz a ob xs ea =>
    cases (show u=Value.ref a from rx)
    obtain⟨_,_,_,n,_,h1⟩:=(show m9 X.prog X.w H s.heap a (.frz ob (.lst xs)) from I.hok a _ ea)
    exact W.kia_one W.kitx_list I.kIn ⟨_,h1,rfl⟩ e (λz=>nomatch z) h
  | @tup a xs ea =>
    cases (show u=Value.ref a from rx)
    obtain⟨_,_,_,p⟩:=(show m9 X.prog X.w H s.heap a (.tup xs) from I.hok a _ ea)
    obtain⟨o,h1,h2,_⟩:=p
    exact W.kia_one W.kitx_tuple I.kIn ⟨o,h1,h2⟩ e (λz=>nomatch z) h
  | @dK a kvs ea =>
    cases (show u=Value.ref a from rx)
    obtain⟨_,_,vs,_,p⟩:=(show m9 X.prog X.w H s.heap a (.dK kvs) from I.hok a _ ea)
    obtain⟨o,es,ep,h1,h2,_⟩:=p
    exact W.kia_one W.kitx_dict I.kIn ⟨o,h1,h2.1⟩ e (λz=>nomatch z) h
  | @dT a kvs ea =>
    cases (show u=Value.ref a from rx)
    obtain⟨_,_,xs,_,o,es,ep,h1,h2,_⟩:=(show m9 X.prog X.w H s.heap a (.dT kvs) from I.hok a _ ea)
    exact W.kia_one W.kitx_dict I.kIn ⟨o,h1,h2.1⟩ e (λz=>nomatch z) h
  | @ins a C dx fs ea cl ha hn htk hm =>
    cases (show u=Value.ref a from rx)
    obtain⟨mA,O,_⟩:=zd6 I.hok ea
    obtain⟨od,J,_⟩:=O.look
    exact W.kia_one (W.kitx_own (cl.get _) cl.hd ha hn htk hm) I.kIn J e (λz=>nomatch z) h
end
structure Y3 (k:Nat) (A:fX):Prop where
  hd:A.handled=none
  dp:A.depth+3*k+5<recursionLimit
  un:A.units+16*k+200<cLine
theorem Y3.mono {j k:Nat}{A:fX}(r:Y3 k A)(h:j<=k):Y3 j A:=⟨r.hd,by have:=r.dp;lia,by have:=r.un;lia⟩
theorem Y3.deeper {k:Nat}{A:fX}(r:Y3 (k+1) A)(env:Env):Y3 k (A.deeper env) :=
  ⟨r.hd,by have:=r.dp;show A.depth+1+3*k+5<_;lia,by have:=r.un;show A.units+3+16*k+200<_;lia⟩
theorem yn6 {A:fX}{C:Addr}{us:List Value}{kw:List (Str×Value)}:(A.under (.builtin "type.__call__" ⟨.ref C::us,kw⟩)).depth=A.depth+1:=by
  first|rfl|simp[Around.under,Code.weight,Code.isCreation,Code.isGuard,Code.isCaller,Code.frames,Code.isFrame,guardIds]
theorem yn7 {A:fX}{C:Addr}{us:List Value}{kw:List (Str×Value)}:(A.under (.builtin "type.__call__" ⟨.ref C::us,kw⟩)).units=A.units+1:=by
  first|rfl|simp[Around.under,Code.cUnits,Code.frames,Code.isFrame]
theorem Y3.make {k:Nat}{A:fX}(r:Y3 (k+1) A)(C:Addr)(us:List Value)(kw:List (Str×Value)):Y3 k (A.under (.builtin "type.__call__" ⟨.ref C::us,kw⟩)) :=
  ⟨r.hd,by have:=r.dp;rw[yn6];lia,by have:=r.un;rw[yn7];lia⟩
theorem Y3.depth {k:Nat}{A:fX}(r:Y3 k A):A.depth<recursionLimit:=by have:=r.dp;lia
theorem Y3.units {k:Nat}{A:fX}(r:Y3 k A):A.units+64<cLine:=by have:=r.un;lia
def xs4:TA:=λ_ H Q=>Q [] H
def xv0 (ta:TE)(tr:TA):TA:=λσ H Q=>ta σ H λx H1=>tr σ H1 λxs H2=>Q (x::xs) H2
section
variable {X:Cx}{e:Expr}{es:List Expr}{te:TE}{t:TA}{pos:Pos}
theorem z4:PA X [] xs4:=λ_ _ _ _ H Q I h=>Calls.spliced_nil ⟨[],H,I,.nil,h⟩
theorem z0 (ha:PE X e te)(hr:PA X es t)(hs:fU (e::es) X.env=(false,eval e X.env)::fU es X.env:=by rfl):PA X (e::es) (xv0 te t):=by
  intro pos pins s σ H Q I h
  rw[hs]
  show fS _ _ (spliced ((false,eval e X.env)::backTo pos (fU es X.env))) _ _ s
  refine Calls.spliced_cons (thn (ha pins s σ H _ I h) λu s1 ⟨x,H1,I1,r1,q1⟩=>?_)
  exact thn (hr pos pins s1 σ H1 _ I1 q1) λus s2 ⟨xs,H2,I2,r2,q2⟩=>⟨x::xs,H2,I2,.cons r1 r2,q2⟩
def xy8 (t:TA):TE:=λσ H Q=>t σ H λxs H1=>xs.length<=fQ/\∀p,H1 p=none->Q (.ref p) (upd H1 p (.tup xs))
def xy5 (t:TA):TE:=λσ H Q=>t σ H λxs H1=>xs.length<=fQ/\∀p,H1 p=none->Q (.ref p) (upd H1 p (.lst xs))
theorem J5 {x1}(h:PA X es t):PE X (.Tuple es x1 pos) (xy8 t):=by
  intro pins s σ H Q I hq
  refine wpAny_Tuple_spliced (thn (h pos pins s σ H _ I hq) λus s1 ⟨xs,H1,I1,r,z,q⟩=>⟨by rw[←r.length];exact z,?_⟩)
  have hf:H1 s1.heap.objs.size=none:=I1.hok.fresh (ag _)
  refine⟨.ref s1.heap.objs.size,upd H1 s1.heap.objs.size (.tup xs),I1.laid (t':=s1.toks) (λb u e=>ar _ e) (ag _) ?_,rfl,q _ hf⟩
  exact⟨z,us,r,⟨_,aB _ rfl,rfl,_,rfl,rfl⟩⟩
theorem U7 (h:PA X es t):PE X (.List es pos) (xy5 t):=by
  intro pins s σ H Q I hq
  refine wpAny_List_spliced (thn (h pos pins s σ H _ I hq) λus s1 ⟨xs,H1,I1,r,z,q⟩=>⟨by rw[←r.length];exact z,?_⟩)
  have hf:H1 s1.heap.objs.size=none:=I1.hok.fresh (ag _)
  refine⟨.ref s1.heap.objs.size,upd H1 s1.heap.objs.size (.lst xs),I1.laid (t':=s1.toks) (λb u e=>ar _ e) (ag _) ?_,rfl,q _ hf⟩
  exact⟨z,us,0,r,aB _ rfl⟩
end
abbrev Sp:=List V->Hp->VK->XK->Prop
abbrev CXT:=List Env->Hp->fO->XK->Value->fO->Prop
structure ym0 (P:fR) (w:fW) (K:W.Frag) (mg:Str->Option Value) (base:Heap) (A:fX) (outer:List Env) (s:fO) (H:Hp):Prop where
  frames:A.frames=some outer
  mod:Mod K mg base
  bs:∀b o,base.get? b=some o->s.heap.get? b=some o/\H b=none
  bsz:base.objs.size<=s.heap.objs.size
  funs:s.heap.FunFrames base outer
  frf:∀b∈frs outer,H b=none
  hok:HOk P w H s.heap
  bare:AllBare s.gens
def CE (outer:List Env)(P:fR)(w:fW)(H:Hp)(s:fO)(Q:VK)(u:Value)(s':fO):Prop :=
  ∃v H',s'.os=s.os/\AllBare s'.gens/\Un (frs outer) [] H H' s.heap s'.heap/\HOk P w H' s'.heap/\o0 v u/\Q v H'
def CR (CX:CXT)(outer:List Env)(P:fR)(w:fW)(H:Hp)(s:fO)(Q:VK)(E:XK)(r:Result)(s':fO):Prop :=
  match r with
  | .ok (.ret u)=>CE outer P w H s Q u s'
  | .ok _=>False
  | .error e=>CX outer H s E e s'
structure u6 (P:fR) (w:fW) (K:W.Frag) (mg:Str->Option Value) (base:Heap) (CX:CXT) (k:Nat) (f:Addr) (fd:gh) (ps:List Str) (sp:Sp):Prop where
  len:∀vs H Q E,sp vs H Q E->vs.length=ps.length
  run:∀(A:fX) (outer:List Env) (s:fO) (H:Hp) (args:Args) (us:List Value) (vs:List V) (Q:VK) (E:XK),Y3 k A->ym0 P w K mg base A outer s H->BindsTo s fd args (ps.zip us)->p8 vs us->sp vs H Q E ->
    codeAny (fV P w) A (.call (.ref f) args) (CR CX outer P w H s Q E) s
theorem u6.imp {P : fR}{w : fW}{K : W.Frag}{mg : Str -> Option Value}{base : Heap}{CX : CXT}{k : Nat}{f : Addr}{fd : gh}{ps : List Str}{sp sp' : Sp}(F : u6 P w K mg base CX k f fd ps sp)
    (h:∀vs H Q E,sp' vs H Q E->sp vs H Q E):u6 P w K mg base CX k f fd ps sp' :=
  ⟨λvs H Q E q=>F.len vs H Q E (h _ _ _ _ q),λA outer s H args us vs Q E hr he hb hv hs=>F.run A outer s H args us vs Q E hr he hb hv (h _ _ _ _ hs)⟩
theorem ym0.make {P : fR}{w : fW}{K : W.Frag}{mg : Str -> Option Value}{base : Heap}{A : fX}{outer : List Env}{s : fO}{H : Hp}(e : ym0 P w K mg base A outer s H)(C : Addr)(us : List Value)(kw : List (Str×Value)) :
    ym0 P w K mg base (A.under (.builtin "type.__call__" ⟨.ref C::us,kw⟩)) outer s H:=⟨by first|exact e.frames|(simpa[Around.under,Code.envs,Code.isFrame,pushEnvs] using e.frames),e.mod,e.bs,e.bsz,e.funs,e.frf,e.hok,e.bare⟩
section
variable {X:Cx}{pins:List (Addr×Obj)}{σ:St}{H:Hp}{s s':fO}
theorem Inv.env0 (I:Inv X pins σ H s):ym0 X.prog X.w X.K X.mg X.base X.A X.stack s H :=
  ⟨I.ok.frames,I.ok.mod,I.bs,aW I.ok.bsz I.sz,I.stack,I.stkFree,I.hok,I.bare⟩
theorem Inv.after {Q:VK}{u:Value}(I:Inv X pins σ H s)(h:CE X.stack X.prog X.w H s Q u s'):EP X pins σ Q u s':=by
  obtain⟨v,H',os,bare,un,hok,r,q⟩:=h
  obtain⟨hh,g,d,t,os'⟩:=s'
  obtain rfl:os'=s.os:=os
  exact⟨v,H',I.call (h':=hh) (g':=g) (d':=d) (t':=t) (ch:=[]) un hok bare (λb z=>absurd z (by simp)),r,q⟩
end
def yu6 (sp:Sp)(dvs:List V)(E:XK)(t:TA):TE:=λσ H Q=>t σ H λvs H1=>sp (vs++dvs) H1 Q E
def yl3 (C:Addr)(m:Str)(sp:Sp)(dvs:List V)(E:XK)(ta:TE)(t:TA):TE:=λσ H Q=>ta σ H λx H1=>∃a dx fs,x=.ref a/\H1 a=some (.ins C dx fs)/\fs.lookup m=none /\
  t σ H1 λvs H2=>sp (x::(vs++dvs)) H2 Q E
def xh3 (C:Addr)(sp:Sp)(dvs:List V)(E:XK)(t:TA):TE:=λσ H Q=>t σ H λvs H1=>∀x dx,H1 x=none->H1 dx=none->dx≠x ->
  sp (.ref x::(vs++dvs)) (upd (upd H1 dx (.own x)) x (.ins C dx [])) (λv H2=>v=.non/\Q (.ref x) H2) E
def V5 (K:W.Frag)(fd:gh)(ps:List Str)(ds:List Value):Prop :=
  ∀(s:fO) (us:List Value),K.In s.heap->(us++ds).length=ps.length->BindsTo s fd ⟨us,[]⟩ (ps.zip (us++ds))
theorem V5.all {K:W.Frag}{fd:gh}{ps:List Str}(h:∀us:List Value,us.length=ps.length->bindArgs fd ⟨us,[]⟩=pure (ps.zip us)):V5 K fd ps []:=λs us _ hl=>by
  rw[be]at hl ⊢
  exact .of_eq (h us hl)
def D4 (CX:CXT)(X:Cx)(E:XK):Prop:=∀(pins:List (Addr×Obj)) (σ:St) (H:Hp) (s:fO) (e:Value) (s':fO),Inv X pins σ H s->CX X.stack H s E e s'->X.xe e s'
section
variable {X:Cx}{CX:CXT}{k:Nat}{f C:Addr}{fd:gh}{ps:List Str}{sp:Sp}{dvs:List V}{ds:List Value}{E:XK}{x m:Str}{p pos apos:Pos}{e o:Expr}{es:List Expr}{ta:TE}{t:TA}
theorem yc5 {pins : List (Addr×Obj)}{σ : St}{H : Hp}{s : fO}{Q : VK}{us : List Value}{vs : List V}(F : u6 X.prog X.w X.K X.mg X.base CX k f fd ps sp)(hr : Y3 k X.A)(hb : V5 X.K fd ps ds)(hd : p8 dvs ds)(hx : D4 CX X E)
    (I:Inv X pins σ H s) (r:p8 vs us) (h:sp (vs++dvs) H Q E):fS (fV X.prog X.w) X.A (call (.ref f) us) (EP X pins σ Q) X.xe s:=by
  have r2:p8 (vs++dvs) (us++ds):=r.append hd
  have hl:(us++ds).length=ps.length:=by rw[←r2.length];exact F.len _ _ _ _ h
  refine wpAny_call (codeAny_mono (F.run X.A X.stack s H ⟨us,[]⟩ (us++ds) (vs++dvs) Q E hr I.env0 (hb s us I.kIn hl) r2 h) λr s' hq=>?_)
  cases r with
  | error e=>exact hx pins σ H s e s' I hq
  | ok fl =>
    cases fl with
    | ret u=>exact I.after hq
    | next=>exact False.elim hq
    | brk=>exact False.elim hq
    | cont=>exact False.elim hq
theorem yr8 (F : u6 X.prog X.w X.K X.mg X.base CX k f fd ps sp)(hr : Y3 k X.A)(hg : Gl X x)(hm : X.mg x = some (.ref f))(hk : W.keepIn X.K (.ref f) = true)(hb : V5 X.K fd ps ds)(hd : p8 dvs ds)(hx : D4 CX X E)
    (ha:PA X (e::es) t) (hdb:(x==("__debug__":Str))=false:=by decide) (he:fU (e::es) X.env=(false,eval e X.env)::fU es X.env:=by rfl) (hpl:(backTo pos (fU es X.env)).any (·.1)=false:=by rfl) :
    PE X (.Call (.Name x p) (e::es) [] pos) (yu6 sp dvs E t):=by
  intro pins s σ H Q I h
  refine wpAny_Call_Name_kw (A6 I hg hm ?_ hdb)
  refine W.callWith_K (h₀:=X.base) I.ok.mod.kin hk (thn (ha pos pins s σ H _ I h) λus s1 ⟨vs,H1,I1,r,q⟩=>⟨I1.kIn,?_⟩) he hpl
  exact yc5 F hr hb hd hx I1 r q
theorem ys1 {pl : Sem Bool}(he : PE X o ta)(c : Cls X.K C)(hm : yz8 X.K C m f)(F : u6 X.prog X.w X.K X.mg X.base CX k f fd ps sp)(hr : Y3 k X.A)(hb : V5 X.K fd ps ds)(hd : p8 dvs ds)(hx : D4 CX X E)(ha : PA X (e::es) t)
    (hst:fU (e::es) X.env=(false,eval e X.env)::fU es X.env:=by rfl) (hpl:(backTo pos (fU es X.env)).any (·.1)=false:=by rfl)
    (ht : eval (.Call (.Attribute o m apos) (e::es) [] pos) X.env = (do
      let ov ←eval o X.env
      standAt apos.atName
      let (f,first) ←holding [ov] (getMethod ov m pl)
      callWith pos f first (backTo pos (fU (e::es) X.env)) (backToKw pos (gf [] X.env))):=by rfl) :
    PE X (.Call (.Attribute o m apos) (e::es) [] pos) (yl3 C m sp dvs E ta t):=by
  intro pins s σ H Q I h
  refine W.methodCall_KW (pl:=pl) (thn (he pins s σ H _ I h) λu s1 ⟨x,H1,I1,rx,a,dx,fs,ex,ea,l,q⟩=>?_) ht
  subst ex
  obtain rfl:u=Value.ref a:=rx
  refine zb1 I1 ea c hm l ?_
  refine W.callWith_K (first:=[.ref a]) (h₀:=X.base) I.ok.mod.kin hm.kp (thn (ha pos pins s1 σ H1 _ I1 q) λus s2 ⟨vs,H2,I2,r,q2⟩=>⟨I2.kIn,?_⟩) hst hpl
  exact yc5 (us:=.ref a::us) (vs:=.ref a::vs) F hr hb hd hx I2 (.cons rfl r) q2
theorem xe6 {pl : Sem Bool}(he : PE X o ta)(c : Cls X.K C)(hm : yz8 X.K C m f)(F : u6 X.prog X.w X.K X.mg X.base CX k f fd ps sp)(hr : Y3 k X.A)(hb : V5 X.K fd ps ds)(hd : p8 dvs ds)(hx : D4 CX X E)
    (ht : eval (.Call (.Attribute o m apos) [] [] pos) X.env = (do
      let ov ←eval o X.env
      standAt apos.atName
      let (f,first) ←holding [ov] (getMethod ov m pl)
      callWith pos f first (backTo pos (fU [] X.env)) (backToKw pos (gf [] X.env))):=by rfl) :
    PE X (.Call (.Attribute o m apos) [] [] pos) (yl3 C m sp dvs E ta xs4):=by
  intro pins s σ H Q I h
  refine W.methodCall_KW (pl:=pl) (thn (he pins s σ H _ I h) λu s1 ⟨x,H1,I1,rx,a,dx,fs,ex,ea,l,q⟩=>?_) ht
  subst ex
  obtain rfl:u=Value.ref a:=rx
  refine zb1 I1 ea c hm l ?_
  exact W.callWith_K0 (first:=[.ref a]) I1.kIn hm.kp (yc5 (us:=[.ref a]) (vs:=[.ref a]) F hr hb hd hx I1 (.cons rfl .nil) q)
structure Mk (K:W.Frag) (C f:Addr):Prop where
  makes:W.makesIn K C=true
  init:W.findIn K (.ref C) "__init__"=some (some (.ref f))
  fn:W.isFn K (.ref f)=true
  kp:W.keepIn K (.ref C)=true
theorem xf8 {pins : List (Addr×Obj)}{σ : St}{H : Hp}{s : fO}{Q : VK}{us : List Value}{vs : List V}(M : Mk X.K C f)(F : u6 X.prog X.w X.K X.mg X.base CX k f fd ps sp)(hr : Y3 (k+1) X.A)(hb : V5 X.K fd ps ds)(hd : p8 dvs ds)
    (hx:D4 CX X E) (I:Inv X pins σ H s) (r:p8 vs us)
    (h:∀x dx,H x=none->H dx=none->dx≠x->sp (.ref x::(vs++dvs)) (upd (upd H dx (.own x)) x (.ins C dx [])) (λv H2=>v=.non/\Q (.ref x) H2) E) :
    fS (fV X.prog X.w) X.A (call (.ref C) us) (EP X pins σ Q) X.xe s:=by
  have hq:=h (s.heap.objs.size+1) s.heap.objs.size (I.hok.fresh (cF _)) (I.hok.fresh (ag _)) (aO (bK _))
  have I2:=Inv.made (C:=C) I
  have r2:p8 (V.ref (s.heap.objs.size+1)::(vs++dvs)) (Value.ref (s.heap.objs.size+1)::(us++ds)):=.cons rfl (r.append hd)
  have hl:(Value.ref (s.heap.objs.size+1)::us++ds).length=ps.length:=by
    have e:=r2.length
    rw[F.len _ _ _ _ hq]at e
    exact e.symm
  refine wpAny_call (xd2 (f := f) I.kIn M.makes M.init (beq_iff_eq.mp M.fn) (codeAny_mono (F.run _ X.stack _ _ ⟨Value.ref (s.heap.objs.size+1)::us, []⟩ (Value.ref (s.heap.objs.size+1)::(us ++ ds)) _ _ E (hr.make C us [])
    (I2.env0.make C us []) (hb _ (Value.ref (s.heap.objs.size+1)::us) I2.kIn hl) r2 hq) λr s' hq'=>?_))
  cases r with
  | error e=>exact hx pins σ _ _ e s' I2 hq'
  | ok fl =>
    cases fl with
    | ret u =>
      obtain⟨v,H',I3,rv,ev,q3⟩:=I2.after hq'
      subst ev
      exact⟨rv,⟨V.ref (s.heap.objs.size+1),H',I3,rfl,q3⟩⟩
    | next=>exact False.elim hq'
    | brk=>exact False.elim hq'
    | cont=>exact False.elim hq'
theorem ys0 (M : Mk X.K C f)(F : u6 X.prog X.w X.K X.mg X.base CX k f fd ps sp)(hr : Y3 (k+1) X.A)(hg : Gl X x)(hm : X.mg x = some (.ref C))(hb : V5 X.K fd ps ds)(hd : p8 dvs ds)(hx : D4 CX X E)
    (ha:PA X (e::es) t) (hdb:(x==("__debug__":Str))=false:=by decide) (he:fU (e::es) X.env=(false,eval e X.env)::fU es X.env:=by rfl) (hpl:(backTo pos (fU es X.env)).any (·.1)=false:=by rfl) :
    PE X (.Call (.Name x p) (e::es) [] pos) (xh3 C sp dvs E t):=by
  intro pins s σ H Q I h
  refine wpAny_Call_Name_kw (A6 I hg hm ?_ hdb)
  refine W.callWith_K (h₀:=X.base) I.ok.mod.kin M.kp (thn (ha pos pins s σ H _ I h) λus s1 ⟨vs,H1,I1,r,q⟩=>⟨I1.kIn,?_⟩) he hpl
  exact xf8 M F hr hb hd hx I1 r q
end
section
variable {X:Cx}{CX:CXT}{k:Nat}{f C:Addr}{fd:gh}{ps ks:List Str}{sp:Sp}{E:XK}{x m:Str}{p pos apos kpos:Pos}{e o:Expr}{es:List Expr}{kws:List Keyword}{te ta:TE}{t tk:TA}{nm:Option Str}
variable {g:List Value->List Value->List Value}{gV:List V->List V->List V}
end
structure y4 (N P:List Str) (sc:Scope):Prop where
  kind:sc.kind=.function
  co:sc.isCoroutine=false
  gen:sc.isGenerator=false
  nd:N.Nodup
  pre:N.take P.length=P
  par:∀x∈P,sc.names.lookup x=some .local∨sc.names.lookup x=some .cell
  nofree:∀y∈sc.names,y.2≠.free
theorem zw6 {kindOf : Str -> Option NameKind}{x : Str} : ∀{binds : List (Str×Value)} {m : Str -> Option Value}, (∀v, (x, v) ∉ binds) -> bindL kindOf binds m x = m x
  | [],_,_=>rfl
  | (n,v)::r,m,h=>by
    unfold bindL
    rw[zw6 λw hw=>h w (ao _ hw)]
    split
    . have : x ≠ n := by rintro rfl; exact h v ax
      simp[this]
    . rfl
theorem zw4 {kindOf : Str -> Option NameKind}{x : Str} : ∀{binds : List (Str×Value)} {m : Str -> Option Value}, (∀v, (x, v) ∉ binds) -> bindC kindOf binds m x = m x
  | [],_,_=>rfl
  | (n,v)::r,m,h=>by
    unfold bindC
    rw[zw4 λw hw=>h w (ao _ hw)]
    split
    . rfl
    . have : x ≠ n := by rintro rfl; exact h v ax
      simp[this]
theorem zw5 {kindOf:Str->Option NameKind}{x:Str}{v:Value}:∀{P:List Str} {vs:List Value} {i:Nat} {m:Str->Option Value},P.Nodup->P[i]?=some x->vs[i]?=some v->kindOf x=some .local ->
    bindL kindOf (P.zip vs) m x=some v
  | [],_,_,_,_,h,_,_=>by simp at h
  | _::_,[],_,_,_,_,h,_=>by simp at h
  | p::P,w::vs,0,m,nd,h1,h2,hk=>by
    simp at h1 h2;subst h1;subst h2
    show bindL kindOf ((p,w)::P.zip vs) m p=_
    unfold bindL
    rw[zw6 λv hv=>(aK.mp nd).1 (eB hv).1,if_pos hk]
    simp
  | p::P,w::vs,i+1,m,nd,h1,h2,hk=>by
    show bindL kindOf ((p,w)::P.zip vs) m x=_
    unfold bindL
    exact zw5 (i:=i) (aK.mp nd).2 (by simpa using h1) (by simpa using h2) hk
theorem zw3 {kindOf:Str->Option NameKind}{x:Str}{v:Value}:∀{P:List Str} {vs:List Value} {i:Nat} {m:Str->Option Value},P.Nodup->P[i]?=some x->vs[i]?=some v->kindOf x≠some .local ->
    bindC kindOf (P.zip vs) m x=some v
  | [],_,_,_,_,h,_,_=>by simp at h
  | _::_,[],_,_,_,_,h,_=>by simp at h
  | p::P,w::vs,0,m,nd,h1,h2,hk=>by
    simp at h1 h2;subst h1;subst h2
    show bindC kindOf ((p,w)::P.zip vs) m p=_
    unfold bindC
    rw[zw4 λv hv=>(aK.mp nd).1 (eB hv).1,if_neg hk]
    simp
  | p::P,w::vs,i+1,m,nd,h1,h2,hk=>by
    show bindC kindOf ((p,w)::P.zip vs) m x=_
    unfold bindC
    exact zw3 (i:=i) (aK.mp nd).2 (by simpa using h1) (by simpa using h2) hk
def start (N:List Str)(vs:List V):St:=vs.map some++List.replicate (N.length-vs.length) none
def Q7 (CX:CXT)(P:fR)(w:fW)(K:W.Frag)(mg:Str->Option Value)(base:Heap)(N:List Str)(qual:Str)(scope:Scope)(f:Addr)(cd:Value)(A:fX)(outer:List Env)(s:fO)(H:Hp)(E:XK):Cx where
  prog:=P
  w:=w
  K:=K
  mg:=mg
  base:=base
  A:=A.deeper (envOfC qual scope s.heap.objs.size f cd)
  N:=N
  s₀:=s
  H₀:=H
  env:=envOfC qual scope s.heap.objs.size f cd
  outer:=outer
  stack:=envOfC qual scope s.heap.objs.size f cd::outer
  ex:=[]
  calm:=true
  fn:=λ_=>true
  pn:=[]
  xe:=λe s'=>fS (fV P w) (A.deeper (envOfC qual scope s.heap.objs.size f cd)) (leaving (envOfC qual scope s.heap.objs.size f cd) e) (λ_ s''=>CX outer H s E e s'') (λe' s''=>CX outer H s E e' s'') s'
theorem yf1 {sc:Scope}{n:Nat}{x:Str}(h:sc.names.lookup x=some .cell):∃c,(cellsFrom n sc.names []).lookup x=some c:=by
  have q:=W.cellsFrom_some sc.names n [] (.inl h)
  exact eG.mp q
theorem yx0 {CX : CXT}{P : fR}{w : fW}{K : W.Frag}{mg : Str -> Option Value}{base : Heap}{N ps : List Str}{qual : Str}{scope : Scope}{f : Addr}{cd : Value}{A : fX}{outer : List Env}{s s1 : fO}{H : Hp}{E : XK}{us : List Value}{vs : List V}
    (S:y4 N ps scope) (hd:A.handled=none) (e0:ym0 P w K mg base A outer s H) (hl:vs.length=ps.length) (r:p8 vs us)
    (x:InCallC s s.heap.objs.size (bindL (envOfC qual scope s.heap.objs.size f cd).kindOf (ps.zip us) λ_=>none) (cellsFrom (s.heap.objs.size+1) scope.names []) (bindC (envOfC qual scope s.heap.objs.size f cd).kindOf (ps.zip us) λ_=>none) s1) :
    Inv (Q7 CX P w K mg base N qual scope f cd A outer s H E) [] (start N vs) H s1:=by
  have hpl:ps.length<=N.length:=by have:=congrArg List.length S.pre;rw[bI]at this;lia
  obtain⟨h1,tk,rfl,hk⟩:=x.done
  have noA:∀b:Addr,b∉(Q7 CX P w K mg base N qual scope f cd A outer s H E).ex:=λb z=>absurd (show b∈([]:List Addr) from z) (by simp)
  refine⟨⟨e0.mod,S.kind,rfl,rfl,ag _,λy z c h1 h2=>?_,λy hy=>?_,λy c _ h=>?_,λ_=>hd,Around.frames_deeper e0.frames,.inr ⟨rfl,rfl⟩,λb z=>absurd z (noA b),e0.bs,e0.bsz,λb _ _=>noA b,λb z=>absurd z (noA b),e0.funs,e0.frf⟩,
    rfl,e0.bare,Un.kept hk,⟨_,x.toInCall.ns,λi y v h1 h2 h3=>?_⟩,λy c h=>⟨_,x.cell y c h⟩,e0.hok.fresh (ag _),λy c h=>?_,λp hp=>absurd (show p∈([]:List (Addr×Obj)) from hp) (by simp),e0.hok.kept hk,?_⟩
  . exact name_of_addr x.apart (PySem.mem_of_lookup h1) (PySem.mem_of_lookup h2)
  . have hy : scope.names.lookup y = some .cell∨scope.names.lookup y = some .free := hy
    rcases hy with hy|hy
    . exact yf1 hy
    . exact absurd rfl (S.nofree _ (PySem.mem_of_lookup hy))
  . exact bH (x.above y c (PySem.mem_of_lookup h))
  . have hi:i<vs.length:=by
      unfold start at h2
      by_cases hi:i<vs.length
      . exact hi
      . rw[aZ (by simpa using hi)]at h2
        rw[ci]at h2
        split at h2 <;> cases h2
    have ha:vs[i]?=some v:=by
      unfold start at h2
      rw[aI (by simpa using hi),ah]at h2
      cases e:vs[i]? with
      | none=>rw[e]at h2;cases h2
      | some a=>rw[e]at h2;cases h2;rfl
    obtain⟨u,hu,rv⟩:=r.get ha
    have hp:ps[i]?=some y:=by
      rw[←S.pre,eS (by lia)];exact h1
    have ndP:ps.Nodup:=by rw[←S.pre];exact S.nd.sublist (dU _ _)
    refine⟨u,rv,?_⟩
    rcases S.par y (av hp) with k|k
    . exact .inl ⟨k,zw5 ndP hp hu k⟩
    . obtain⟨c, e⟩ := yf1 (n := s.heap.objs.size+1) k
      refine .inr ⟨.inl k,c,e,?_⟩
      have q:=x.cell y c e
      rw[zw3 ndP hp hu (by show scope.names.lookup y≠_;rw[k];decide)]at q
      exact q
  . exact e0.hok.fresh (bH (x.above y c (PySem.mem_of_lookup h)))
  . unfold start
    show _=N.length
    rw[aq,aa,bP]
    lia
theorem xb9 {CX : CXT}{P : fR}{w : fW}{K : W.Frag}{mg : Str -> Option Value}{base : Heap}{k : Nat}{f : Addr}{name qual : Str}{params : Arguments}{body : List Stmt}{scope : Scope}{dV kV doc pm cdv ct oc : Value}{an od : Option Addr}
    {osl:Array (Option Value)} {N ps:List Str} {sp:Sp} (lk:K.lookup f=some ⟨oc,od,.func (W.fnOf name qual params body scope dV kV doc pm an cdv ct),osl⟩) (hcd:W.codeIn K cdv qual=true) (S:y4 N ps scope)
    (len:∀vs H Q E,sp vs H Q E->vs.length=ps.length)
    (hbody:∀(A:fX) (outer:List Env) (s:fO) (H:Hp) (vs:List V) (Q:VK) (E:XK),Y3 k (A.deeper (envOfC qual scope s.heap.objs.size f cdv))->sp vs H Q E ->
      ∃t,PSs (Q7 CX P w K mg base N qual scope f cdv A outer s H E) body t/\t { nx:=λ_ H'=>Q .non H',rt:=Q } (start N vs) H) :
    u6 P w K mg base CX (k+1) f (W.fnOf name qual params body scope dV kV doc pm an cdv ct) ps sp:=by
  refine⟨len,λA outer s H args us vs Q E hr e0 hb r hsp=>?_⟩
  have hl:=len _ _ _ _ hsp
  have KX:K.In s.heap:=e0.mod.kin.keeps λb o e=>(e0.bs b o e).1
  have lim:s.heap.NoLimit:=e0.mod.nolimit.keeps λb o e=>(e0.bs b o e).1
  have hkind:∀y∈ps.zip us,scope.names.lookup y.1=some .local∨(scope.names.lookup y.1=some .cell/\((cellsFrom (s.heap.objs.size+1) scope.names []).lookup y.1).isSome=true):=λ⟨n,v⟩ hy=>by
    rcases S.par n (eB hy).1 with q|q
    . exact .inl q
    . exact .inr ⟨q,W.cellsFrom_some _ _ _ (.inl q)⟩
  refine codeAny_call_function hr.depth (KX _ _ lk) rfl S.co S.gen rfl (W.codeRec_of KX hcd) (hb _ _ _ _ ?_)
  refine wpAny_newFunctionEnv_cells S.kind hkind λenv he s1 x=>?_
  subst he
  refine⟨lim.keeps x.toInCall.keep,codeAny_func ?_⟩
  obtain⟨t,ht,hq⟩:=hbody A outer s H vs Q E (hr.deeper _) hsp
  have I:Inv (Q7 CX P w K mg base N qual scope f cdv A outer s H E) [] (start N vs) H s1:=yx0 S hr.hd e0 hl r x
  refine fZ (ht [] s1 (start N vs) H _ I hq) (λfl s' hs=>?_) λe s' hs=>hs
  have fin:∀{σ':St} {H':Hp} {v:V} {u:Value},Inv (Q7 CX P w K mg base N qual scope f cdv A outer s H E) [] σ' H' s'->o0 v u->Q v H'->CE outer P w H s Q u s' :=
    λ{σ' H' v u} J rv q=>⟨v,H',J.os,J.bare,J.base,J.hok,rv,q⟩
  cases fl with
  | ret u =>
    obtain⟨v,σ',H',J,rv,q⟩:=hs
    exact fin J rv q
  | next =>
    obtain⟨σ',H',J,q⟩:=hs
    exact fin (v:=V.non) (u:=Value.none) J rfl q
  | brk =>
    obtain⟨_,_,_,q⟩:=hs
    exact False.elim q
  | cont =>
    obtain⟨_,_,_,q⟩:=hs
    exact False.elim q
section
variable {X:Cx}{x:Str}{p pos:Pos}{e:Expr}{es:List Expr}{t:TA}{id T:String}{r:List V->Hp->VK->Prop}
def tCB (r:List V->Hp->VK->Prop)(t:TA):TE:=λσ H Q=>t σ H λvs H1=>r vs H1 Q
theorem w8 (hc : V8 X (.builtin id) r)(hg : Gl X x)(hm : X.mg x = none)(hv : ge x = some (.builtin id))(ha : PA X (e::es) t)(hn : x ≠ "__name__" := by decide)(hdb : (x==("__debug__" : Str)) = false := by decide)
    (he:fU (e::es) X.env=(false,eval e X.env)::fU es X.env:=by rfl) (hpl:(backTo pos (fU es X.env)).any (·.1)=false:=by rfl):PE X (.Call (.Name x p) (e::es) [] pos) (tCB r t):=by
  intro pins s σ H Q I h
  refine wpAny_Call_Name_kw (zg4 I hg hm hv ?_ hn hdb)
  exact PyProof.Rows.callWith_builtin1 (thn (ha pos pins s σ H _ I h) λus s1 ⟨vs,H1,I1,r1,q1⟩=>hc pins s1 σ H1 vs us Q I1 r1 q1) he hpl
theorem t9 (hc : V8 X (.type T) r)(hg : Gl X x)(hm : X.mg x = none)(hv : ge x = some (.type T))(ha : PA X (e::es) t)(hn : x ≠ "__name__" := by decide)(hdb : (x==("__debug__" : Str)) = false := by decide)
    (he:fU (e::es) X.env=(false,eval e X.env)::fU es X.env:=by rfl) (hpl:(backTo pos (fU es X.env)).any (·.1)=false:=by rfl):PE X (.Call (.Name x p) (e::es) [] pos) (tCB r t):=by
  intro pins s σ H Q I h
  refine wpAny_Call_Name_kw (zg4 I hg hm hv ?_ hn hdb)
  exact PyProof.Rows.callWith_type1 (thn (ha pos pins s σ H _ I h) λus s1 ⟨vs,H1,I1,r1,q1⟩=>hc pins s1 σ H1 vs us Q I1 r1 q1) he hpl
end
end L2
namespace HT
open PySem PyProof.Rows
def lexLt : List Int -> List Int -> Bool
  | [],[]=>false
  | [],_::_=>true
  | _::_,[]=>false
  | x::xs,y::ys=>if x=y then lexLt xs ys else decide (x<y)
theorem lexLt_cons (x y:Int)(xs ys:List Int):lexLt (x::xs) (y::ys)=if x=y then lexLt xs ys else decide (x<y):=rfl
theorem zt9:lexLt [] []=false:=rfl
theorem lexLt_nil_cons (y:Int)(ys:List Int):lexLt [] (y::ys)=true:=rfl
theorem zp5 (x:Int)(xs:List Int):lexLt (x::xs) []=false:=rfl
theorem xb8 (A:fX)(s:fO)(a:Int)(t:Tok)(c:Int)(u:Tok):∃e,SeqAt.EqAt A s (.int a t) (.int c u) e/\(e=true↔a=c) :=
  ⟨(a==c),SeqAt.EqAt.int_int a t c u,by simp⟩
theorem xf4 (A : fX)(s : fO)(a : Int)(t : Tok)(c : Int)(u : Tok)(prog : fR)(w : fW)(E : Value -> fO -> Prop)(Q : Value -> fO -> Prop)(h : Q (.bool (decide (a<c))) s) :
    fS (fV prog w) A (richCompare .Lt (.int a t) (.int c u)) Q E s :=
  (PyProof.Rows.lt_int h:fS (fV prog w) A (compareOp .Lt (.int a t) (.int c u)) Q E s)
section
open PySem.SeqAt
open PySem.AutoSeq1 (wpAny_loadPart')
open PySem.MeetsSeq PySem.MeetsSeq2 PySem.MeetsSeq3
theorem zw1 (l b : Addr)(items items2 : Array Value)(n n2 : Nat)(dd dd2 : Option Addr)(sl sl2 : Array (Option Value))(ns ms : List Int)(hi : IntsAre items.toList ns)(hj : IntsAre items2.toList ms) :
    Meets (Builtin.«tuple.__lt__» ⟨[.ref l, .ref b], []⟩)
      (λ_ R s=>s.heap.get? l=some { cls:=.type "tuple",dict:=dd,data:=.seq items n,slots:=sl }/\s.heap.get? b=some { cls:=.type "tuple",dict:=dd2,data:=.seq items2 n2,slots:=sl2 } /\
        R (.ok (.ret (.bool (lexLt ns ms)))) s) :=
  .of_wp λprog w A R s h=>by
    obtain⟨hp,g,d,tk,os⟩:=s;obtain⟨hl,hb,h⟩:=h
    have f2:=AutoSeq1.sub_tuple_tuple
    have z1:items.size=ns.length:=by rw[←hi.length];simp
    have z2:items2.size=ms.length:=by rw[←hj.length];simp
    wp_walk using wpAny_loadPart' hl,wpAny_loadPart' hb,wpAny_forIn_list _ (λM1 b s'=>b.1=none/\s'=⟨hp,g,d,tk,os⟩/\∃(vs ws:List Value) (ns' ms':List Int),M1=vs.zip ws /\
      IntsAre vs ns'/\IntsAre ws ms'/\ns'.length+items2.size=ms'.length+items.size/\R (.ok (.ret (.bool (lexLt ns' ms')))) ⟨hp,g,d,tk,os⟩) _
    case turn =>
      rintro⟨y,x⟩ M1 b s' ⟨hb',rfl,vs,ws,ns',ms',hz,hvi,hwi,hlen,hR⟩
      cases hvi with
      | nil=>rw[List.zip_nil_left]at hz;cases hz
      | cons a t hvi' =>
        cases hwi with
        | nil=>rw[List.zip_nil_right]at hz;cases hz
        | cons c u hwi' =>
          rw[ft]at hz
          injection hz with hyx hrest
          injection hyx with hy hx
          subst hy hx
          rw[lexLt_cons]at hR
          simp only[aD]at hlen
          obtain⟨e,he,hiff⟩:=xb8 A.in1 ⟨hp,g,d,tk,os⟩ a t c u
          refine fN (he prog w _ _ ?_)
          cases e with
          | true =>
            rw[if_pos (hiff.mp rfl)]at hR
            wp_walk
            exact⟨rfl,rfl,_,_,_,_,hrest,hvi',hwi',by lia,hR⟩
          | false =>
            rw[if_neg (λq=>absurd (hiff.mpr q) aE)]at hR
            have hri:=xf4 A.in1 ⟨hp,g,d,tk,os⟩ a t c u prog w
            wp_walk using hri
            exact⟨_,rfl,by simpa using hR⟩
    case fin =>
      rintro⟨b1,b2⟩ s' ⟨hb',rfl,vs,ws,ns',ms',hz,hvi,hwi,hlen,hR⟩
      simp only at hb'
      subst hb'
      have hv:lexLt ns' ms'=decide (items.size<items2.size):=by
        cases hvi with
        | nil =>
          cases hwi with
          | nil =>
            simp only[bW]at hlen
            rw[zt9]
            exact(decide_eq_false (by lia)).symm
          | cons c u hw =>
            simp only[bW,aD]at hlen
            rw[lexLt_nil_cons]
            exact(decide_eq_true (by lia)).symm
        | cons a t hv =>
          cases hwi with
          | nil =>
            simp only[bW,aD]at hlen
            rw[zp5]
            exact(decide_eq_false (by lia)).symm
          | cons c u hw =>
            rw[ft]at hz
            cases hz
      rw[hv]at hR
      wp_walk
      exact⟨_,rfl,by simpa[Builtin.Tuple.tupleCompareSizes] using hR⟩
    case h =>
      exact⟨rfl,rfl,items.toList,items2.toList,ns,ms,rfl,hi,hj,by lia,h⟩
end
section
variable {prog:fR}{w:fW}{A:fX}{E:Value->fO->Prop}{s:fO}
theorem lt_tupInts {l b : Addr}{items items2 : Array Value}{ns ms : List Int}{Q : Value -> fO -> Prop}(hl : IsTup s.heap l items)(hb : IsTup s.heap b items2)(hi : IntsAre items.toList ns)(hj : IntsAre items2.toList ms)
    (hu:A.units<cLine) (h:Q (.bool (lexLt ns ms)) s):fS (fV prog w) A (compareOp .Lt (.ref l) (.ref b)) Q E s:=by
  obtain⟨⟨cls,dd,data,sl⟩,ho,hc,n,hd⟩:=id hl
  obtain⟨⟨cls2,dd2,data2,sl2⟩,ho2,hc2,n2,hd2⟩:=id hb
  simp only at hc hd hc2 hd2
  subst hc hd hc2 hd2
  exact richCompare_meets_room (op := .Lt) ⟨_, ho, rfl⟩ ⟨_, ho2, rfl⟩ PySem.F.slot_tuple_lt PySem.F.entry_tuple_lt (PySem.F.args_tuple_lt_2 _ _) (zw1 l b items items2 n n2 dd dd2 sl sl2 ns ms hi hj)
    ⟨ho,ho2,show Value.bool (lexLt ns ms)≠Value.notImplemented/\Q (.bool (lexLt ns ms)) s from⟨(λx=>nomatch x),h⟩⟩ hu
theorem cat_tup {t b : Addr}{vs ws : List Value}{Q : Value -> fO -> Prop}(ht : IsTup s.heap t vs.toArray)(hb : IsTup s.heap b ws.toArray)(hv : vs ≠ [])
    (h1:ws=[]->Q (.ref t) s) (h2:ws≠[]->Q (.ref s.heap.objs.size) { s with heap:=s.heap.push { cls:=.type "tuple",data:=.seq (vs++ws).toArray } })
    (hsz:vs.length+ws.length<=fQ):fS (fV prog w) A (binaryOp .Add (.ref t) (.ref b)) Q E s:=by
  obtain⟨⟨cls,dd,data,sl⟩,ho,hc,n,hd⟩:=id ht
  obtain⟨⟨cls2,dd2,data2,sl2⟩,ho2,hc2,n2,hd2⟩:=id hb
  simp only at hc hd hc2 hd2
  subst hc hd hc2 hd2
  have e:vs.toArray++ws.toArray=(vs++ws).toArray:=by simp
  by_cases hw:ws=[]
  . exact concat_meets ⟨_, ho, rfl⟩ ⟨_, ho2, rfl⟩ noFill_tuple_add seq_tuple_add PySem.F.slot_tuple_add PySem.F.entry_tuple_add (PySem.F.args_tuple_add_2 _ _)
      (tuple_addW1 t b vs.toArray ws.toArray n n2 dd dd2 sl sl2 (by simpa using hv) (by simp[hw])) ⟨ho,ho2,h1 hw⟩
  . refine concat_meets ⟨_, ho, rfl⟩ ⟨_, ho2, rfl⟩ noFill_tuple_add seq_tuple_add PySem.F.slot_tuple_add PySem.F.entry_tuple_add (PySem.F.args_tuple_add_2 _ _)
      (tuple_addW2 t b vs.toArray ws.toArray n n2 dd dd2 sl sl2 (by simpa using hv) (by simpa using hw) (by rw[aA,aA];exact hsz)) ⟨ho,ho2,?_⟩
    rw[e]
    exact h2 hw
def sIx (n d : Nat) : Option Int -> Nat
  | none=>d
  | some v=>if v<0 then(v+(n:Int)).toNat else min v.toNat n
theorem sIx_none (n d:Nat):sIx n d none=d:=rfl
theorem sIx_nat (n d k:Nat):sIx n d (some (k:Int))=min k n:=by
  show(if (k:Int)<0 then((k:Int)+(n:Int)).toNat else min (k:Int).toNat n)=min k n
  rw[if_neg (by lia),bY]
theorem xr7 (n d:Nat)(hd:d<=n)(o:Option Int):sIx n d o<=n:=by
  cases o with
  | none=>exact hd
  | some v =>
    show(if v<0 then(v+(n:Int)).toNat else min v.toNat n)<=n
    by_cases hv:v<0
    . rw[if_pos hv];lia
    . rw[if_neg hv];exact Nat.min_le_right _ _
theorem yq2 (v:Int)(n d:Nat):(if v<0 then max (v+(n:Int)) 0 else min v (n:Int))=((sIx n d (some v):Nat):Int):=by
  show(if v<0 then max (v+(n:Int)) 0 else min v (n:Int))=(((if v<0 then(v+(n:Int)).toNat else min v.toNat n):Nat):Int)
  by_cases hv:v<0
  . simp only[if_pos hv];lia
  . simp only[if_neg hv];lia
theorem ym3 (lo hi:Option Int)(n:Nat):Builtin.Slice.sliceAdjust lo hi 1 (n:Int)=(((sIx n 0 lo:Nat):Int),((sIx n n hi:Nat):Int)):=by
  have h1:¬((1:Int)<0):=by lia
  unfold Builtin.Slice.sliceAdjust
  simp only[h1,if_false]
  refine Prod.ext ?_ ?_
  . cases lo with
    | none=>rfl
    | some v=>exact yq2 v n 0
  . cases hi with
    | none=>rfl
    | some v=>exact yq2 v n n
theorem yo0 (i j:Nat):Builtin.Slice.slicePlaces (i:Int) (j:Int) 1=j-i:=by
  unfold Builtin.Slice.slicePlaces
  have h1:(1:Int) > 0:=by lia
  simp only[h1,if_true,Int.ediv_one]
  split <;> lia
theorem zs2 {v:Value}{o:Option Int}{Q:Option Int->fO->Prop}(p:IsPart v o)(h:Q o s):fS (fV prog w) A (Builtin.Slice.slicePartIndex v) Q E s:=by
  cases p with
  | none=>exact slicePart_none h
  | int i t=>exact slicePart_int h
theorem zh4 {sl : Addr}{vl vu : Value}{lo hi : Option Int}{n : Nat}{Q : Int×Int×Nat -> fO -> Prop}(hs : s.heap.IsSliceOf sl vl vu .none)(pl : IsPart vl lo)(pu : IsPart vu hi)
    (h:Q (((sIx n 0 lo:Nat):Int),1,sIx n n hi-sIx n 0 lo) s):fS (fV prog w) A (Builtin.Slice.sliceApplied (.ref sl) (pure (n:Int))) Q E s:=by
  obtain⟨os,hos,hcs,hds⟩:=id hs
  unfold Builtin.Slice.sliceApplied Builtin.Slice.sliceFields
  refine fN (fN (wpAny_field hos hds (x:=vl) rfl (fN (wpAny_field hos hds (x:=vu) rfl (fN (wpAny_field hos hds (x:=.none) rfl (fP ?_)))))))
  refine fN (slicePart_none ?_)
  show fS _ _ (if ((1:Int)==0)=true then _ else _) _ _ s
  rw[if_neg (by decide)]
  refine fN (zs2 pl (fN (zs2 pu (fN (fP ?_)))))
  show fS _ _ (match Builtin.Slice.sliceAdjust lo hi 1 (n:Int) with|(lo,hi)=>pure (lo,(1:Int),Builtin.Slice.slicePlaces lo hi 1)) _ _ s
  rw[ym3 lo hi n]
  show fS _ _ (pure (((sIx n 0 lo:Nat):Int),(1:Int),Builtin.Slice.slicePlaces ((sIx n 0 lo:Nat):Int) ((sIx n n hi:Nat):Int) 1)) _ _ s
  rw[yo0]
  exact fP h
theorem xf1 (xs:Array Value)(i k:Nat):((List.range k).filterMap λ(m:Nat)=>xs[((i:Int)+(m:Int)*1).toNat]?).toArray=((xs.toList.drop i).take k).toArray:=by
  have e:(λ(m:Nat)=>xs[((i:Int)+(m:Int)*1).toNat]?)=λm=>xs[i+m]?:=by
    funext m
    have:((i:Int)+(m:Int)*1).toNat=i+m:=by lia
    rw[this]
  rw[e]
  have:=pick_run xs i k
  rw[List.filterMap_map]at this
  have e2:((λx=>xs[x]?) ∘ λx=>i+x)=λm=>xs[i+m]?:=rfl
  rw[e2]at this
  rw[this]
theorem getItem_tuple_cut {t sl : Addr}{items : Array Value}{vl vu : Value}{lo hi : Option Int}{Q : Value -> fO -> Prop}(ht : IsTup s.heap t items)(hs : s.heap.IsSliceOf sl vl vu .none)(pl : IsPart vl lo)(pu : IsPart vu hi)
    (hw:¬(sIx items.size 0 lo=0/\sIx items.size items.size hi=items.size))
    (h:Q (.ref s.heap.objs.size) { s with heap:=s.heap.push { cls:=.type "tuple",data:=.seq ((items.toList.drop (sIx items.size 0 lo)).take (sIx items.size items.size hi-sIx items.size 0 lo)).toArray } })
    (hsz:items.size<=fQ):fS (fV prog w) A (getItem (.ref t) (.ref sl)) Q E s:=by
  have htake:sizeOk (.seq ((items.toList.drop (sIx items.size 0 lo)).take (sIx items.size items.size hi-sIx items.size 0 lo)).toArray):=by
    show((items.toList.drop (sIx items.size 0 lo)).take (sIx items.size items.size hi-sIx items.size 0 lo)).toArray.size<=fQ
    rw[aA,bI,bE,aX]
    lia
  have hj:sIx items.size items.size hi<=items.size:=xr7 _ _ (ag _) hi
  obtain⟨os,hos,hcs,hds⟩:=id hs
  have hTs:s.TypeIs (.ref sl) "slice":=⟨os,hos,hcs⟩
  unfold getItem
  try with_reducible refine fY ?_
  first|refine fN (fP ?_)|skip
  refine fN (wpAny_sequenceKey ht.typeIs (by decide) ?_)
  refine fN (wpAny_callSpecial?_slot (name := Str.ofString "__getitem__") ht.typeIs PyProof.Rows.slot_tuple_getitem
    (wpAny_call_entry PyProof.Rows.slot_tuple_getitem ht.typeIs entry_tuple_getitem ?_ (args_tuple_getitem _ _)))
  show fS _ _ (Builtin.Tuple.tupleItemsOf (.ref t) >>= _) _ _ s
  refine fN (tupleItemsOf_ ht ?_)
  refine fN (wpAny_typeOf hTs ?_)
  rw[if_pos (by decide)]
  refine fN (zh4 hs pl pu ?_)
  have hno:¬((((sIx items.size 0 lo:Nat):Int)==0&&(1:Int)==1&&(sIx items.size items.size hi-sIx items.size 0 lo)==items.size)=true):=by
    intro q
    rw[bp,bp]at q
    have q1:((sIx items.size 0 lo:Nat):Int)=0:=eq_of_beq q.1.1
    have q2:sIx items.size items.size hi-sIx items.size 0 lo=items.size:=eq_of_beq q.2
    exact hw ⟨by lia,by lia⟩
  show fS _ _ (if (((sIx items.size 0 lo:Nat):Int)==0&&(1:Int)==1&&(sIx items.size items.size hi-sIx items.size 0 lo)==items.size)=true then _ else _) _ _ s
  rw[if_neg hno,xf1]
  first
    | exact fN (m:=Builtin.Tuple.tupleExact _) (wpAny_newObj_type (fP ⟨_,rfl,fP h⟩) htake)
    | exact fN (m:=Builtin.Tuple.tupleExact _) (wpAny_newObj_type (fN (fP (fP ⟨_,rfl,fP h⟩))) htake)
    | exact fN (fN (m:=Builtin.Tuple.tupleExact _) (wpAny_newObj_type (fP (fP ⟨_,rfl,fP h⟩)) htake))
    | exact fN (fN (m:=Builtin.Tuple.tupleExact _) (wpAny_newObj_type (fP ⟨_,rfl,fP h⟩) htake))
end
end HT
namespace L2
open PySem PySem.Spec PyProof.Rows
abbrev TO:=St->Hp->(Option Int->Hp->Prop)->Prop
def PO (X:Cx)(e:Option Expr)(t:TO):Prop :=
  ∀(pins:List (Addr×Obj)) (s:fO) (σ:St) (H:Hp) (Q:Option Int->Hp->Prop),Inv X pins σ H s->t σ H Q ->
    fS (fV X.prog X.w) X.A (evalPart e X.env) (λu s'=>∃o H',Inv X pins σ H' s'/\IsPart u o/\Q o H') X.xe s
def xm2:TO:=λ_ H Q=>Q none H
def xv7 (t:TE):TO:=λσ H Q=>t σ H λx H1=>∃i,x=.int i/\Q (some i) H1
theorem T9 {ns:List Int}:∀{us:List Value},p8 (ns.map V.int) us->IntsAre us ns:=by
  induction ns with
  | nil=>intro us r;rw[cn]at r;cases r;exact .nil
  | cons n ns ih =>
    intro us r
    rw[aR]at r
    cases r with
    | cons r1 r2 =>
      obtain⟨t,e⟩:=r1
      subst e
      exact .cons n t (ih r2)
section
variable {X:Cx}{e:Expr}{te:TE}{lo hi:Option Expr}{tl th:TO}{pos p2:Pos}
theorem ze8:PO X none xm2:=by
  intro pins s σ H Q I h
  rw[evalPart_none]
  exact fP ⟨none,H,I,.none,h⟩
theorem P9 (h:PE X e te):PO X (some e) (xv7 te):=by
  intro pins s σ H Q I hw
  rw[evalPart_some]
  refine thn (h pins s σ H _ I hw) λu s1 ⟨x,H1,I1,r1,q1⟩=>?_
  obtain⟨i,rfl,q⟩:=q1
  obtain⟨t,rfl⟩:=r1
  exact⟨some i,H1,I1,.int i t,q⟩
def SlR (X:Cx)(r:V->Option Int->Option Int->Hp->VK->Prop):Prop :=
  ∀(pins:List (Addr×Obj)) (s:fO) (σ:St) (H:Hp) (x:V) (v vl vu:Value) (lo hi:Option Int) (sl:Addr) (Q:VK),Inv X pins σ H s->o0 x v->s.heap.IsSliceOf sl vl vu .none->IsPart vl lo->IsPart vu hi->r x lo hi H Q ->
    ∃T id,typeLookup (.type T) "__getitem__"=pure (some (.builtin id))/\s.TypeIs v T/\fS (fV X.prog X.w) X.A (getItem v (.ref sl)) (EP X pins σ Q) X.xe s
def tSl (r:V->Option Int->Option Int->Hp->VK->Prop)(te:TE)(tl th:TO):TE:=λσ H Q=>te σ H λx H1=>tl σ H1 λl H2=>th σ H2 λu H3=>r x l u H3 Q
theorem O4 {r:V->Option Int->Option Int->Hp->VK->Prop}(hr:SlR X r)(he:PE X e te)(hl:PO X lo tl)(hu:PO X hi th):PE X (.Subscript e (.Slice lo hi none p2) pos) (tSl r te tl th):=by
  intro pins s σ H Q I h
  refine Subscript_ (thn (he pins s σ H _ I h) λv s1 ⟨x,H1,I1,r1,q1⟩=>?_)
  refine wpAny_Slice (thn (hl pins s1 σ H1 _ I1 q1) λvl s2 ⟨l,H2,I2,pl,q2⟩=>thn (hu pins s2 σ H2 _ I2 q2) λvu s3 ⟨u,H3,I3,pu,q3⟩=>?_)
  rw[evalPart_none]
  refine fP ?_
  have I4:Inv X pins σ H3 { s3 with heap:=s3.heap.push { cls:=.type "slice",data:=.fields #[vl,vu,.none] } }:=I3.kept (t':=s3.toks) λb ob q=>ar _ q
  obtain⟨T,id,hT,ht,hg⟩:=hr pins { s3 with heap:=s3.heap.push { cls:=.type "slice",data:=.fields #[vl,vu,.none] } } σ H3 x v vl vu l u s3.heap.objs.size Q I4 r1 (Heap.IsSliceOf.new ..) pl pu q3
  show fS (fV X.prog X.w) X.A (subscriptTail e (.Slice lo hi none p2) v (.ref s3.heap.objs.size)) (EP X pins σ Q) X.xe { s3 with heap:=s3.heap.push { cls:=.type "slice",data:=.fields #[vl,vu,.none] } }
  exact tail_any (ops:=[.ref s3.heap.objs.size,v]) ht hT hg (by with_unfolding_all rfl)
def za1 (xs:List V)(lo hi:Option Int):List V:=(xs.drop (HT.sIx xs.length 0 lo)).take (HT.sIx xs.length xs.length hi-HT.sIx xs.length 0 lo)
theorem zi5 (xs:List V)(lo hi:Option Int):(za1 xs lo hi).length<=xs.length:=by
  unfold za1
  rw[bI,bE]
  lia
def xx6 (K:W.Frag):V->Option Int->Option Int->Hp->VK->Prop:=λx lo hi H Q=>∃a xs,x=.ref a/\SqT K H a xs /\
  ¬(HT.sIx xs.length 0 lo=0/\HT.sIx xs.length xs.length hi=xs.length)/\∀p,H p=none->Q (.ref p) (upd H p (.tup (za1 xs lo hi)))
theorem xr8:SlR X (xx6 X.K):=by
  intro pins s σ H x v vl vu lo hi sl Q I rx hs pl pu h
  obtain⟨a,xs,rfl,hx,hw,q⟩:=h
  cases rx
  obtain⟨its,r,ht,hz⟩:=I.tuple hx
  have hlen:its.toArray.size=xs.length:=by rw[aA];exact r.length.symm
  refine⟨"tuple",_,PyProof.Rows.slot_tuple_getitem.lookup,ht.typeIs,?_⟩
  refine HT.getItem_tuple_cut ht hs pl pu (by rw[hlen];exact hw) ?_ (by rw[hlen];exact hz)
  rw[hlen]
  refine⟨.ref s.heap.objs.size,_,I.laid (t':=s.toks) (o:=.tup (za1 xs lo hi)) (λb ob q=>ar _ q) (ag _) ?_,rfl,q _ (I.hok.fresh (ag _))⟩
  exact⟨aW (zi5 xs lo hi) hz,_,(r.drop (HT.sIx xs.length 0 lo)).take (HT.sIx xs.length xs.length hi-HT.sIx xs.length 0 lo),zt7.new _ _⟩
def xu5 (K:W.Frag):R2:=λx y H Q=>∃a b xs ys,x=.ref a/\y=.ref b/\SqT K H a xs/\SqT K H b ys/\xs≠[]/\xs.length+ys.length<=fQ /\
  (ys=[]->Q (.ref a) H)/\(ys≠[]->∀p,H p=none->Q (.ref p) (upd H p (.tup (xs++ys))))
theorem p8.nil_iff {xs:List V}{us:List Value}(r:p8 xs us):us=[]↔xs=[]:=by
  cases r with
  | nil=>simp
  | cons _ _=>simp
theorem xk2:OpR X (binaryOp .Add) (xu5 X.K):=by
  intro pins s σ H x y v u Q I rx ry h
  obtain⟨a,b,xs,ys,rfl,rfl,ha,hb,hx,hz,q1,q2⟩:=h
  cases rx
  cases ry
  obtain⟨its,r1,p1,_⟩:=I.tuple ha
  obtain⟨its2,r2,p2,_⟩:=I.tuple hb
  refine HT.cat_tup p1 p2 (λz=>hx (r1.nil_iff.mp z)) (λz=>⟨.ref a,H,I,rfl,q1 (r2.nil_iff.mp z)⟩) (λz=>?_) (by rw[←r1.length,←r2.length];exact hz)
  refine⟨.ref s.heap.objs.size,_,I.laid (t':=s.toks) (o:=.tup (xs++ys)) (λb ob q=>ar _ q) (ag _) ?_,rfl,q2 (λw=>z (r2.nil_iff.mpr w)) _ (I.hok.fresh (ag _))⟩
  exact⟨by rw[aq];exact hz,_,r1.append r2,zt7.new _ _⟩
end
def ixN (n:Nat)(i:Int):Option Nat:=if 0<=i then(if i<n then some i.toNat else none) else if -(n:Int)<=i then some (i+n).toNat else none
def atI {α:Type}(xs:List α)(i:Int):Option α:=(ixN xs.length i).bind λj=>xs[j]?
theorem zz6 {n:Nat}{i:Int}{j:Nat}(h:ixN n i=some j):seqIndex? i n=some j/\j<n/\-(n:Int)<=i/\i<n:=by
  unfold ixN at h
  by_cases h0:0<=i
  . rw[if_pos h0]at h
    by_cases h1:i<n
    . rw[if_pos h1]at h
      have e:i.toNat=j:=Option.some.inj h
      exact⟨by rw[seqIndex_of h0 h1,e],by lia,by lia,h1⟩
    . rw[if_neg h1]at h;cases h
  . rw[if_neg h0]at h
    by_cases h1:-(n:Int)<=i
    . rw[if_pos h1]at h
      have e:(i+n).toNat=j:=Option.some.inj h
      exact⟨by rw[seqIndex_neg (by lia) h1,e],by lia,h1,by lia⟩
    . rw[if_neg h1]at h;cases h
theorem yq1 {α:Type}{xs:List α}{i:Int}{v:α}(h:atI xs i=some v):∃j,seqIndex? i xs.length=some j/\xs[j]?=some v/\j<xs.length/\-(xs.length:Int)<=i/\i<xs.length:=by
  unfold atI at h
  cases e:ixN xs.length i with
  | none=>rw[e]at h;cases h
  | some j =>
    rw[e]at h
    obtain⟨h1,h2,h3,h4⟩:=zz6 e
    exact⟨j,h1,h,h2,h3,h4⟩
theorem d0 {α:Type}{xs:List α}{j:Nat}{v:α}(h:xs[j]?=some v):atI xs (j:Int)=some v:=by
  have hj:j<xs.length:=(al.mp h).1
  have e:ixN xs.length (j:Int)=some j:=by
    unfold ixN
    rw[if_pos (by lia),if_pos (by lia)];simp
  unfold atI;rw[e];exact h
theorem xa3 {α:Type}(xs:List α)(v:α):atI (xs++[v]) (-1)=some v:=by
  have hl:(xs++[v]).length=xs.length+1:=by simp
  have e:ixN (xs++[v]).length (-1)=some xs.length:=by
    unfold ixN
    rw[hl,if_neg (by decide),if_pos (by lia)]
    congr 1
    lia
  unfold atI
  rw[e]
  show(xs++[v])[xs.length]?=some v
  simp
def xi2 (b:Expr):Prop:=∀o i,subscripted b false o i=operate [o,i] (getItem o i)
def IxR (X:Cx)(r:R2):Prop :=
  ∀(value slice:Expr) (pins:List (Addr×Obj)) (s:fO) (σ:St) (H:Hp) (x y:V) (v u:Value) (Q:VK),Inv X pins σ H s->o0 x v->o0 y u->r x y H Q ->
    subscripted slice false v u=operate [v,u] (getItem v u)->fS (fV X.prog X.w) X.A (subscriptTail value slice v u) (EP X pins σ Q) X.xe s
def MtR (X:Cx)(id:String)(r:V->List V->Hp->VK->Prop):Prop :=
  ∀(pins:List (Addr×Obj)) (s:fO) (σ:St) (H:Hp) (x:V) (xs:List V) (v:Value) (us:List Value) (Q:VK),Inv X pins σ H s->o0 x v->p8 xs us->r x xs H Q ->
    fS (fV X.prog X.w) X.A (call (.builtin id) (v::us)) (EP X pins σ Q) X.xe s
section
variable {X:Cx}{a b:Expr}{ta tb:TE}{pos:Pos}
theorem d9 {r:R2}(hr:IxR X r)(ha:PE X a ta)(hb:PE X b tb)(hs:xi2 b):PE X (.Subscript a b pos) (tOp r ta tb):=by
  intro pins s σ H Q I h
  exact Subscript_ (xo1 ha hb I h λv u s2 x y H2 I2 rx ry q=>hr a b pins s2 σ H2 x y v u Q I2 rx ry q (hs _ _))
def xx3 (K:W.Frag):R2:=λx y H Q=>∃p xs i v,x=.ref p/\y=.int i/\SqL K H p xs/\atI xs i=some v/\Q v H
def xx4 (K:W.Frag):R2:=λx y H Q=>∃p xs i v,x=.ref p/\y=.int i/\SqT K H p xs/\atI xs i=some v/\Q v H
theorem l9:IxR X (xx3 X.K):=by
  intro value slice pins s σ H x y v u Q I rx ry h hs
  obtain⟨p,xs,i,z,rfl,rfl,hq,he,q⟩:=h
  cases rx
  obtain⟨t,rfl⟩:=ry
  obtain⟨its,r,pl,hz⟩:=I.list hq
  obtain⟨j,h1,h2,h3,h4,h5⟩:=yq1 he
  obtain⟨w,ew,rw'⟩:=r.get h2
  have hl:=r.length
  have hn:=ya2
  have fin:EP X pins σ Q w s:=⟨z,H,I,rw',q⟩
  by_cases h0:0<=i
  . have hj:i.toNat=j:=by
      rw[seqIndex_of h0 h5]at h1
      exact Option.some.inj h1
    exact item_listR pl.isList h0 (by lia) (by rw[hj];simpa using ew) fin hs
  . have hj:(i+(its.toArray.size:Int)).toNat=j:=by
      rw[seqIndex_neg (by lia) h4]at h1
      rw[aA,←hl]
      exact Option.some.inj h1
    exact subscriptTail_builtinR (x := w) pl.isList.typeIs slot_list_getitem.lookup
      (wpAny_getItem_list_neg (Q:=λr s'=>r=w/\EP X pins σ Q r s') pl.isList (by lia) (by rw[aA] <;> lia) (by lia) (by rw[hj];simpa using ew) ⟨rfl,fin⟩) hs
theorem C1:IxR X (xx4 X.K):=by
  intro value slice pins s σ H x y v u Q I rx ry h hs
  obtain⟨p,xs,i,z,rfl,rfl,hq,he,q⟩:=h
  cases rx
  obtain⟨t,rfl⟩:=ry
  obtain⟨its,r,pl,hz⟩:=I.tuple hq
  obtain⟨j,h1,h2,h3,h4,h5⟩:=yq1 he
  obtain⟨w,ew,rw'⟩:=r.get h2
  have hl:=r.length
  have hn:=ya2
  have fin:EP X pins σ Q w s:=⟨z,H,I,rw',q⟩
  exact subscriptTail_builtinR (x := w) pl.typeIs slot_tuple_getitem.lookup
    (getItem_tuple (j:=j) (Q:=λr s'=>r=w/\EP X pins σ Q r s') pl (by lia) (by lia) (by rw[aA,←hl];exact h1) (by simpa using ew) ⟨rfl,fin⟩) hs
theorem yn8 (its:List Value)(n j:Nat)(u:Value):Obj.mapSeq (·.setIfInBounds j u) { cls:=.type "list",data:=.seq its.toArray n }={ cls:=.type "list",data:=.seq (its.set j u).toArray n }:=by
  simp[Obj.mapSeq]
theorem Inv.lst {pins : List (Addr×Obj)}{σ : St}{H : Hp}{s : fO}{p : Addr}{xs : List V}(I : Inv X pins σ H s)(h : H p = some (.lst xs)) :
    ∃(its:List Value) (n:Nat),p8 xs its/\s.heap.get? p=some { cls:=.type "list",data:=.seq its.toArray n }/\xs.length<=fQ:=by
  obtain⟨z,its,n,r,e⟩:=I.hok p _ h
  exact⟨its,n,r,e,z⟩
theorem Inv.lstUpd {pins : List (Addr×Obj)}{σ : St}{H : Hp}{s : fO}{p : Addr}{xs ys : List V}{its its' : List Value}{n n' : Nat}{f : Obj -> Obj}(I : Inv X pins σ H s)(h : H p = some (.lst xs))
    (ho:s.heap.get? p=some { cls:=.type "list",data:=.seq its.toArray n }) (hf:f { cls:=.type "list",data:=.seq its.toArray n }={ cls:=.type "list",data:=.seq its'.toArray n' }) (r:p8 ys its') (hz:ys.length<=fQ) (t:Nat) :
    Inv X pins σ (upd H p (.lst ys)) { s with heap:=s.heap.update p f,toks:=t }:=by
  have e:(s.heap.update p f).get? p=some { cls:=.type "list",data:=.seq its'.toArray n' }:=by
    rw[Heap.get?_update_self f ho (by rw[hf] <;> rfl),hf]
  refine I.write (x:=p) (e:=p) (by rw[h];trivial) (.inl rfl) (λb u hb q=>(Heap.get?_update_other _ _ (Ne.symm hb)).trans q) ⟨_,e⟩ ?_
  exact⟨hz,its',n',r,e⟩
def xu6:V->V->V->Hp->(Hp->Prop)->Prop:=λo i v H Q=>∃p xs k j,o=.ref p/\i=.int k/\H p=some (.lst xs)/\ixN xs.length k=some j/\Q (upd H p (.lst (xs.set j v)))
theorem yk1:xt1 X xu6:=by
  intro pins s σ H o i v ov iv u Q I ro ri rv h
  obtain⟨p,xs,k,j,rfl,rfl,hp,hj,q⟩:=h
  cases ro
  obtain⟨t,rfl⟩:=ri
  obtain⟨its,n,r,ho,hz⟩:=I.lst hp
  obtain⟨h1,h2,h3,h4⟩:=zz6 hj
  have hl:=r.length
  have hn:=ya2
  have I':Inv X pins σ (upd H p (.lst (xs.set j v))) { s with heap:=s.heap.update p (Obj.mapSeq (·.setIfInBounds j u)) } :=
    I.lstUpd hp ho (yn8 its n j u) (r.set rv j) (by rw[bM];exact hz) s.toks
  by_cases h0:0<=k
  . have hk:k.toNat=j:=by
      rw[seqIndex_of h0 h4]at h1
      exact Option.some.inj h1
    exact W.ki_setAt ho h0 (by lia) (by rw[aA,←hl];exact h4) (by rw[hk];exact⟨_,I',q⟩)
  . have hk:(k+(its.toArray.size:Int)).toNat=j:=by
      rw[seqIndex_neg (by lia) h3]at h1
      rw[aA,←hl]
      exact Option.some.inj h1
    exact W.ki_setBack ho (by lia) (by rw[aA,←hl];exact h3) (by lia) (by rw[hk];exact⟨_,I',q⟩)
theorem yd1 (lo hi:Option Int)(n:Nat):(sliceBounds lo hi none n).1=((HT.sIx n 0 lo:Nat):Int)/\(sliceBounds lo hi none n).2.1=((HT.sIx n n hi:Nat):Int)/\(sliceBounds lo hi none n).2.2=1:=by
  refine⟨?_,?_,rfl⟩
  . cases lo with
    | none=>simp[sliceBounds,HT.sIx]
    | some i =>
      simp only[sliceBounds,HT.sIx,fq,show(1:Int) > 0 by decide,if_true]
      by_cases h:i<0
      . simp only[h,if_true] <;> lia
      . simp only[h,if_false] <;> lia
  . cases hi with
    | none=>simp[sliceBounds,HT.sIx]
    | some i =>
      simp only[sliceBounds,HT.sIx,fq,show(1:Int) > 0 by decide,if_true]
      by_cases h:i<0
      . simp only[h,if_true] <;> lia
      . simp only[h,if_false] <;> lia
theorem zw0 (its:List Value)(lo hi:Option Int):slicePick its.toArray lo hi none=((its.drop (HT.sIx its.length 0 lo)).take (HT.sIx its.length its.length hi-HT.sIx its.length 0 lo)).toArray:=by
  obtain⟨h1,h2,h3⟩:=yd1 lo hi its.toArray.size
  unfold slicePick
  rw[h1,h2,h3]
  simp only[sliceRange_one,pick_run,aA] <;> rfl
def xx5 (K:W.Frag):V->Option Int->Option Int->Hp->VK->Prop:=λx lo hi H Q=>∃a xs,x=.ref a/\SqL K H a xs/\∀p,H p=none->Q (.ref p) (upd H p (.lst (za1 xs lo hi)))
theorem A8:SlR X (xx5 X.K):=by
  intro pins s σ H x v vl vu lo hi sl Q I rx hs pl pu h
  obtain⟨a,xs,rfl,hx,q⟩:=h
  cases rx
  obtain⟨its,r,ht,hz⟩:=I.list hx
  have hlen:=r.length
  refine⟨"list",_,slot_list_getitem.lookup,ht.isList.typeIs,?_⟩
  refine wpAny_getItem_list_slice ht.isList hs pl pu .none (by simp) ?_ (by rw[aA] <;> lia)
  rw[zw0,←hlen]
  refine⟨.ref s.heap.objs.size,_,I.laid (t':=s.toks) (o:=.lst (za1 xs lo hi)) (λb ob q=>ar _ q) (ag _) ?_,rfl,q _ (I.hok.fresh (ag _))⟩
  exact⟨aW (zi5 xs lo hi) hz,_,0,(r.drop (HT.sIx xs.length 0 lo)).take (HT.sIx xs.length xs.length hi-HT.sIx xs.length 0 lo),aB _ rfl⟩
theorem p0:V8 X (.builtin "len") (λxs H Q=>∃p ys,xs=[.ref p]/\(SqL X.K H p ys∨SqT X.K H p ys)/\Q (.int ys.length) H):=by
  intro pins s σ H xs us Q I r h
  obtain⟨p,ys,rfl,hq,q⟩:=h
  obtain⟨u,rfl,rx⟩:=N9 r
  cases rx
  have hn:=ya2
  rcases hq with hq|hq
  . obtain⟨its, r', pl, hz⟩ := I.list hq
    have hlen:=r'.length
    exact Calls.call_len_list pl.isList (by simp only[aA] <;> lia) ⟨.int ys.length,H,I.tok _,⟨s.toks+1,by rw[aA,hlen]⟩,q⟩
  . obtain⟨its, r', pl, hz⟩ := I.tuple hq
    have hlen:=r'.length
    exact len_tuple pl (by simp only[aA] <;> lia) ⟨.int ys.length,H,I.tok _,⟨s.toks+1,by rw[aA,hlen]⟩,q⟩
theorem P6:V8 X (.type "list") (λxs H Q=>∃p ys,xs=[.ref p]/\(SqL X.K H p ys∨SqT X.K H p ys)/\∀l,H l=none->Q (.ref l) (upd H l (.lst ys))):=by
  intro pins s σ H xs us Q I r h
  obtain⟨p,ys,rfl,hq,q⟩:=h
  obtain⟨u,rfl,rx⟩:=N9 r
  cases rx
  have fin:∀(its:List Value),p8 ys its->ys.length<=fQ->∀(h':Heap) (c':Nat),(∀b o',s.heap.get? b=some o'->h'.get? b=some o') ->
      h'.get? s.heap.objs.size=some { cls:=.type "list",dict:=none,data:=.seq its.toArray c',slots:=#[] }->EP X pins σ Q (.ref s.heap.objs.size) { s with heap:=h' }:=λits r' hz h' c' kp e =>
    ⟨.ref s.heap.objs.size,_,I.laid (t':=s.toks) kp (ag _) (show m9 X.prog X.w _ h' _ (.lst ys) from⟨hz,its,c',r',e⟩),rfl,q _ (I.hok.fresh (ag _))⟩
  rcases hq with hq|hq
  . obtain⟨its, r', pl, hz⟩ := I.list hq
    have hlen:=r'.length
    obtain⟨o,ho,hc,n,hd⟩:=pl.isList
    exact call_list_seq p (.inl rfl) ho hc hd (λh' c' kp e=>fin its r' hz h' c' kp e) (by simp only[aA] <;> lia)
  . obtain⟨its, r', pl, hz⟩ := I.tuple hq
    have hlen:=r'.length
    obtain⟨o,ho,hc,n,hd⟩:=pl
    exact call_list_seq p (.inr rfl) ho hc hd (λh' c' kp e=>fin its r' hz h' c' kp e) (by simp only[aA] <;> lia)
theorem h8:V8 X (.type "tuple") (λxs H Q=>∃p ys,xs=[.ref p]/\((SqL X.K H p ys/\∀l,H l=none->Q (.ref l) (upd H l (.tup ys)))∨(SqT X.K H p ys/\Q (.ref p) H))):=by
  intro pins s σ H xs us Q I r h
  obtain⟨p,ys,rfl,h⟩:=h
  obtain⟨u,rfl,rx⟩:=N9 r
  cases rx
  rcases h with⟨hq,q⟩|⟨hq,q⟩
  . obtain⟨its, r', pl, hz⟩ := I.list hq
    have hlen:=r'.length
    refine call_tuple_list pl.isList (λh' kp=>?_) (by simp only[aA] <;> lia)
    have I1:Inv X pins σ H { s with heap:=h' }:=I.kept (t':=s.toks) kp
    have I2:Inv X pins σ (upd H h'.objs.size (.tup ys)) { s with heap:=h'.push { cls:=.type "tuple",data:=.seq its.toArray } } :=
      I1.laid (t':=s.toks) (λb o e=>ar _ e) (ag _) (show m9 X.prog X.w _ _ _ (.tup ys) from⟨hz,its,r',zt7.new _ _⟩)
    exact⟨.ref h'.objs.size,_,I2,rfl,q _ (I1.hok.fresh (ag _))⟩
  . obtain⟨its, r', pl, hz⟩ := I.tuple hq
    exact call_tuple_same pl ⟨.ref p,H,I,rfl,q⟩
def tyV (K:W.Frag)(T:String)(x:V)(H:Hp):Prop:=match x with
  | .str _=>T="str"
  | .int _=>T="int"
  | .ref p => (T = "list" /\ ∃xs, SqL K H p xs)∨(T = "tuple" /\ ∃o, K.lookup p = some o /\ o.cls = .type "tuple" /\ o.dict = none) ∨
      (T="dict"/\((∃kvs,H p=some (.dK kvs))∨∃kvs,H p=some (.dT kvs)))∨(T="set"/\∃S n,H p=some (.set S n))
  | _=>False
theorem xs5 {pins : List (Addr×Obj)}{σ : St}{H : Hp}{s : fO}{T : String}{x : V}{v : Value}(I : Inv X pins σ H s)(r : o0 x v)(ty : tyV X.K T x H) :
    s.TypeIs v T/\∀a,v=.ref a->∃ob,s.heap.get? a=some ob/\ob.dict=none:=by
  cases x with
  | str z =>
    obtain⟨t,rfl⟩:=r
    cases (show T="str" from ty)
    exact⟨typeIs_str s z t,λ_ e=>nomatch e⟩
  | int i =>
    obtain⟨t,rfl⟩:=r
    cases (show T="int" from ty)
    exact⟨typeIs_int s i t,λ_ e=>nomatch e⟩
  | ref p =>
    cases r
    rcases ty with⟨rfl,xs,hq⟩|⟨rfl,o,hk,hc,hd⟩|⟨rfl,hk⟩|⟨rfl,S,n,hk⟩
    . obtain⟨its, _, pl, _⟩ := I.list hq
      refine⟨pl.isList.typeIs,λa e=>?_⟩
      cases e
      obtain⟨o,n,e,c,hd,_⟩:=pl
      exact⟨o,e,hd⟩
    . refine⟨⟨o, I.kIn p o hk, hc⟩, λa e => ?_⟩
      cases e
      exact⟨o,I.kIn _ o hk,hd⟩
    . have z:∃o,s.heap.get? p=some o/\o.ExactDict:=by
        rcases hk with⟨kvs,hk⟩|⟨kvs,hk⟩
        . obtain⟨_, _, _, _, o, _, _, e, ex, _⟩ := I.hok p _ hk
          exact⟨o,e,ex⟩
        . obtain⟨_, _, _, _, o, _, _, e, ex, _⟩ := I.hok p _ hk
          exact⟨o,e,ex⟩
      obtain⟨o,e,ex⟩:=z
      refine⟨⟨o,e,ex.1⟩,λa e2=>?_⟩
      cases e2
      exact⟨o,e,ex.2.1⟩
    . obtain⟨o, _, _, _, e, ex, _⟩ := I.hok p _ hk
      refine⟨⟨o,e,ex.1⟩,λa e2=>?_⟩
      cases e2
      exact⟨o,e,ex.2.1⟩
  | _=>exact False.elim ty
def tBM (K:W.Frag)(T:String)(r:V->List V->Hp->VK->Prop)(to:TE)(t:TA):TE:=λσ H Q=>to σ H λx H1=>tyV K T x H1/\t σ H1 λxs H2=>r x xs H2 Q
variable {o e:Expr}{es:List Expr}{to:TE}{t:TA}{name:Str}{apos cpos:Pos}{T id:String}{r:V->List V->Hp->VK->Prop}
theorem E7 (pa : PlainAttrs T)(slot : Slot T name id)(hty : typeOf (.builtin id) = pure (.type "method_descriptor"))(hm : MtR X id r)(ho : PE X o to)(ha : PA X (e::es) t)
    (hbase:attributeBase o name X.env (eval o X.env)=eval o X.env:=by rfl)
    (hfew : ((backTo cpos (fU (e::es) X.env)).all (λx => !x.1)&&(backToKw cpos (gf [] X.env)).all (λx => x.1.isSome)
      && decide ((e::es).length+([]:List Keyword).length+(if ([]:List Keyword).isEmpty then 0 else 1)<30))=true:=by rfl)
    (hline:(apos.endLine==cpos.line)=true:=by rfl) (hs:fU (e::es) X.env=(false,eval e X.env)::fU es X.env:=by rfl) (hplain:(backTo cpos (fU es X.env)).any (·.1)=false:=by rfl) :
    PE X (.Call (.Attribute o name apos) (e::es) [] cpos) (tBM X.K T r to t):=by
  intro pins s σ H Q I h
  refine wpAny_Call_method_late hbase hfew hline rfl (thn (ho pins s σ H _ I h) λv s1 ⟨x,H1,I1,r1,ty,q1⟩=>?_)
  obtain⟨h1,h2⟩:=xs5 I1 r1 ty
  refine⟨T,id,pa,slot,hty,h1,h2,?_⟩
  have hA:=ha cpos pins s1 σ H1 _ I1 q1
  rw[hs]at hA ⊢
  refine Calls.callWith_builtin (by show(false || (backTo cpos (fU es X.env)).any (·.1))=false;rw[hplain] <;> rfl) (Calls.evalArgs_plain ?_)
  exact thn hA λus s2 ⟨vs,H2,I2,r2,q2⟩=>hm pins s2 σ H2 x vs v us Q I2 r1 r2 q2
end
def MtM (X:Cx)(id:String)(r:V->List V->Hp->VK->Prop):Prop :=
  ∀(pins:List (Addr×Obj)) (s:fO) (σ:St) (H:Hp) (x:V) (xs:List V) (v:Value) (us:List Value) (Q:VK),Inv X pins σ H s->o0 x v->p8 xs us->r x xs H Q ->
    fS (fV X.prog X.w) X.A (call (.builtin id) (v::us)) (EP X pins σ Q) X.xe s
theorem p8.one : ∀{x : V} {us : List Value}, p8 [x] us -> ∃u, us = [u] /\ o0 x u
  | _,_,.cons r .nil=>⟨_,rfl,r⟩
theorem p8.eraseIdx : ∀{xs : List V} {us : List Value} (i : Nat), p8 xs us -> p8 (xs.eraseIdx i) (us.eraseIdx i)
  | _,_,_,.nil=>.nil
  | _,_,0,.cons _ t=>t
  | _,_,i+1,.cons r t=>.cons r (p8.eraseIdx i t)
theorem zx4 {α : Type} : ∀(l : List α) (i : Nat), (l.eraseIdx i).length <= l.length
  | [],_=>ag _
  | _::_,0=>cF _
  | _::r,i+1=>Nat.succ_le_succ (zx4 r i)
section
variable {X:Cx}{pins:List (Addr×Obj)}{σ:St}{H:Hp}{s:fO}{l b:Addr}{xs ys zs:List V}
theorem Inv.lset {its its' : List Value}{n : Nat}{f : Array Value -> Array Value}{t' : Nat}(I : Inv X pins σ H s)(hH : H l = some (.lst xs))
    (e:s.heap.get? l=some { cls:=.type "list",data:=.seq its.toArray n }) (hf:f its.toArray=its'.toArray) (hv:p8 ys its') (hz:ys.length<=fQ) :
    Inv X pins σ (upd H l (.lst ys)) { s with heap:=s.heap.update l (Obj.mapSeq f),toks:=t' }:=by
  have q:=PySem.IsL.update e f
  rw[hf]at q
  refine I.write (x:=l) (e:=l) (by rw[hH];exact trivial) (.inl rfl) (λb' u hb hu=>(Heap.get?_update_other s.heap (Obj.mapSeq f) (Ne.symm hb)).trans hu) ⟨_,q⟩ ?_
  exact⟨hz,its',_,hv,q⟩
theorem Inv.lnew {its : List Value}{t' : Nat}(I : Inv X pins σ H s)(hv : p8 ys its)(hz : ys.length <= fQ) :
    Inv X pins σ (upd H s.heap.objs.size (.lst ys)) { s with heap:=s.heap.push { cls:=.type "list",data:=.seq its.toArray },toks:=t' } :=
  I.laid (λ_ _ q=>ar _ q) (ag _) ⟨hz,its,0,hv,aB _ rfl⟩
theorem Inv.lstM (I:Inv X pins σ H s)(hH:H l=some (.lst xs)):xs.length<=fQ/\∃(its:List Value) (n:Nat),p8 xs its/\xs.length=its.length/\s.heap.get? l=some { cls:=.type "list",data:=.seq its.toArray n }:=by
  obtain⟨z,its,n,r,e⟩:=I.hok l _ hH
  exact⟨z,its,n,r,r.length,e⟩
theorem xd7 {n:Nat}(h:n<=fQ):Builtin.List.listTooLong n=false:=by
  unfold Builtin.List.listTooLong
  exact decide_eq_false (by lia)
end
section
variable {X:Cx}
def xk9:V->List V->Hp->VK->Prop:=λx vs H Q=>∃l xs y,x=.ref l/\vs=[y]/\H l=some (.lst xs)/\xs.length<fQ/\Q .non (upd H l (.lst (xs++[y])))
theorem Y0:MtM X "list.append" xk9:=by
  intro pins s σ H x vs v us Q I rx rv h
  obtain⟨l,xs,y,rfl,rfl,hH,hz,q⟩:=h
  cases rx
  obtain⟨u,rfl,ru⟩:=rv.one
  obtain⟨z,its,n,r,hl,e⟩:=I.lstM hH
  refine call_meets F.slot_list_append ⟨_,e,rfl⟩ F.entry_list_append (F.args_list_append_2 _ _) (PySem.list_append l its.toArray n u (by rw[aA];lia)) ⟨e,?_⟩
  refine⟨.non,_,I.lset (its':=its++[u]) hH e (by simp) (r.append (.cons ru .nil)) ?_,rfl,q⟩
  rw[aq,bB]
  lia
def xl0:V->List V->Hp->VK->Prop:=λx vs H Q=>∃l b xs zs,x=.ref l/\vs=[.ref b]/\H l=some (.lst xs)/\H b=some (.lst zs)/\xs.length+zs.length<=fQ/\Q .non (upd H l (.lst (xs++zs)))
theorem zx5:MtM X "list.extend" xl0:=by
  intro pins s σ H x vs v us Q I rx rv h
  obtain⟨l,b,xs,zs,rfl,rfl,hH,hB,hz,q⟩:=h
  cases rx
  obtain⟨u,rfl,ru⟩:=rv.one
  cases ru
  obtain⟨z,its,n,r,hl,e⟩:=I.lstM hH
  obtain⟨z2,its2,n2,r2,hl2,e2⟩:=I.lstM hB
  have hsz:its.toArray.size+its2.toArray.size<=fQ:=by rw[aA,aA];lia
  have hlong:¬(!its.toArray.isEmpty&&Builtin.List.listTooLong (its.toArray.size+its2.toArray.size))=true:=by
    rw[xd7 hsz,eL]
    exact aE
  refine call_meets F.slot_list_extend ⟨_, e, rfl⟩ F.entry_list_extend (F.args_list_extend_2 _ _)
    (AutoSeq1.list_extend_list_list_0 l its.toArray n b its2.toArray n2 hlong (by rw[aA];lia) (by lia)) ⟨e,e2,?_⟩
  refine⟨.non,_,I.lset (its':=its++its2) hH e (by simp) (r.append r2) ?_,rfl,q⟩
  rw[aq]
  lia
def xr4:V->List V->Hp->VK->Prop:=λx vs H Q=>∃l xs i k y,x=.ref l/\vs=[.int i]/\H l=some (.lst xs)/\-(2 ^ 63)<=i/\i<2 ^ 63/\seqIndex? i xs.length=some k/\xs[k]?=some y/\Q y (upd H l (.lst (xs.eraseIdx k)))
theorem xd5:MtM X "list.pop" xr4:=by
  intro pins s σ H x vs v us Q I rx rv h
  obtain⟨l,xs,i,k,y,rfl,rfl,hH,h1,h2,hk,hy,q⟩:=h
  cases rx
  obtain⟨u,rfl,ru⟩:=rv.one
  obtain⟨t,rfl⟩:=ru
  obtain⟨z,its,n,r,hl,e⟩:=I.lstM hH
  obtain⟨w,hw,rw'⟩:=r.get hy
  refine call_meets F.slot_list_pop ⟨_, e, rfl⟩ F.entry_list_pop (F.args_list_pop_2 _ _)
    (MeetsSeq.list_pop_at l its.toArray n i t k w (fitsIndex_both h1 h2) (by rw[aA,←hl];exact hk) (by rw[←cZ];exact hw) (by rw[aA];lia)) ⟨e,?_⟩
  refine⟨y,_,I.lset (its':=its.eraseIdx k) hH e ?_ (r.eraseIdx k) ?_,rw',q⟩
  . show its.toArray.eraseIdxIfInBounds k = (its.eraseIdx k).toArray
    rw[List.eraseIdxIfInBounds_toArray]
  . have := zx4 xs k
    lia
end
section
variable {prog:fR}{w:fW}{A:fX}{E:Value->fO->Prop}{s:fO}
end
section
variable {X:Cx}
end
section
variable {κ:Type}[DecidableEq κ]
def L9 (kvs:List (κ×V))(k:κ):Option V:=(kvs.find? λkv=>decide (kv.1=k)).map (·.2)
def putK (kvs:List (κ×V))(k:κ)(v:V):List (κ×V) :=
  if (kvs.any λkv=>decide (kv.1=k))=true then kvs.map (λkv=>if kv.1=k then(kv.1,v) else kv) else kvs++[(k,v)]
theorem N8 {p:κ×V}{r:List (κ×V)}{k:κ}(e:p.1=k):L9 (p::r) k=some p.2:=by simp[L9,cJ,e]
theorem T4 {p:κ×V}{r:List (κ×V)}{k:κ}(e:¬p.1=k):L9 (p::r) k=L9 r k:=by simp[L9,cJ,e]
theorem N7 (k : κ) : ∀kvs : List (κ×V), (kvs.any λkv => decide (kv.1 = k)) = (L9 kvs k).isSome
  | []=>rfl
  | p::r=>by
    rw[eU]
    by_cases e:p.1=k
    . simp only[N8 e,decide_eq_true e,Bool.true_or,Option.isSome_some]
    . rw[T4 e,decide_eq_false e,Bool.false_or];exact N7 k r
theorem C2 (kvs:List (κ×V))(k:κ)(v:V):(putK kvs k v).length<=kvs.length+1:=by
  unfold putK
  split
  . rw[aa];lia
  . rw[aq,aD,bW];lia
theorem zr2 {kvs:List (κ×V)}{k:κ}(v:V)(h:L9 kvs k=none):putK kvs k v=kvs++[(k,v)]:=by
  unfold putK
  rw[N7,h]
  exact if_neg (by decide)
theorem za0.isSome_eq {o:Option V}{u:Option Value}(r:za0 o u):o.isSome=u.isSome:=by
  cases o with
  | none=>cases u with
    | none=>rfl
    | some _=>exact(show False from r).elim
  | some _=>cases u with
    | none=>exact(show False from r).elim
    | some _=>rfl
theorem KV.val {kvs:List (κ×V)}{vs:List (κ×Value)}(r:KV kvs vs)(k:κ):za0 (L9 kvs k) (valueAt vs k):=by
  unfold KV at r
  induction r with
  | nil=>exact True.intro
  | @cons p q ps qs h t ih =>
    obtain⟨h1,h2⟩:=h
    by_cases e:p.1=k
    . have e' : q.1 = k := h1.symm.trans e
      have b:valueAt (q::qs) k=some q.2:=by simp[valueAt,cJ,e']
      rw[N8 e,b];exact h2
    . have e' : ¬q.1 = k := λz => e (h1.trans z)
      have b:valueAt (q::qs) k=valueAt qs k:=by simp[valueAt,cJ,e']
      rw[T4 e,b];exact ih
theorem KV.any {kvs:List (κ×V)}{vs:List (κ×Value)}(r:KV kvs vs)(k:κ):(kvs.any λkv=>decide (kv.1=k))=vs.any λkv=>decide (kv.1=k):=by
  unfold KV at r
  induction r with
  | nil=>rfl
  | cons h t ih=>rw[eU,eU,ih,h.1]
theorem KV.repl {kvs : List (κ×V)}{vs : List (κ×Value)}(r : KV kvs vs)(k : κ){y : V}{u : Value}(ry : o0 y u) :
    KV (kvs.map λkv=>if kv.1=k then(kv.1,y) else kv) (vs.map λkv=>if kv.1=k then(kv.1,u) else kv):=by
  unfold KV at r ⊢
  induction r with
  | nil=>exact .nil
  | @cons p q ps qs h t ih =>
    rw[aR,aR]
    refine .cons ?_ ih
    obtain⟨h1,h2⟩:=h
    by_cases e:p.1=k
    . rw[if_pos e,if_pos (h1.symm.trans e)];exact⟨h1,ry⟩
    . rw[if_neg e,if_neg (λz=>e (h1.trans z))];exact⟨h1,h2⟩
theorem KV.put {kvs:List (κ×V)}{vs:List (κ×Value)}(r:KV kvs vs)(k:κ){y:V}{u:Value}(ry:o0 y u):KV (putK kvs k y) (stored vs k u):=by
  unfold putK stored
  rw[r.any k]
  by_cases e:(vs.any λkv=>decide (kv.1=k))=true
  . rw[if_pos e,if_pos e];exact r.repl k ry
  . rw[if_neg e,if_neg e];exact Paired.snoc r ⟨rfl,ry⟩
theorem KV.length {kvs:List (κ×V)}{vs:List (κ×Value)}(r:KV kvs vs):kvs.length=vs.length:=Paired.length r
end
theorem yh1 {P:fR}{w:fW}{k:Key}{u:Value}(r:o0 (kV k) u):(c6 P w).is k u=true:=by
  cases k with
  | inl i=>obtain⟨t,e⟩:=(show ∃t,u=Value.int i t from r);subst e;exact yh5 P w i t
  | inr x=>obtain⟨t,e⟩:=(show ∃t,u=Value.str x t from r);subst e;exact yh6 P w x t
theorem zx3 {P : fR}{w : fW} : ∀{ks : List Key} {us : List Value}, p8 (ks.map kV) us -> ItemsAre (c6 P w) ks us
  | [],_,r=>by rw[cn]at r;cases r;exact .nil
  | k::ks,_,r=>by
    rw[aR]at r
    cases r with
    | cons h t=>exact .cons (yh1 h) (zx3 t)
abbrev KT (H:Hp):List (List Key×V)->List (List Key×Addr×Value)->Prop:=Paired λp q=>p.1=q.1/\H q.2.1=some (.tup (p.1.map kV))/\o0 p.2 q.2.2
theorem KT.val {H:Hp}{kvs:List (List Key×V)}{xs:List (List Key×Addr×Value)}(r:KT H kvs xs)(k:List Key):za0 (L9 kvs k) ((atKey xs k).map (·.2)):=by
  induction r with
  | nil=>exact True.intro
  | @cons p q ps qs h t ih =>
    obtain⟨h1,_,h2⟩:=h
    by_cases e:p.1=k
    . have e' : q.1 = k := h1.symm.trans e
      have b:atKey (q::qs) k=some q.2:=by simp[atKey,cJ,e']
      rw[N8 e,b];exact h2
    . have e' : ¬q.1 = k := λz => e (h1.trans z)
      have b:atKey (q::qs) k=atKey qs k:=by simp[atKey,cJ,e']
      rw[T4 e,b];exact ih
theorem KT.repl {H : Hp}{kvs : List (List Key×V)}{xs : List (List Key×Addr×Value)}(r : KT H kvs xs)(k : List Key){y : V}{u : Value}(ry : o0 y u) :
    KT H (kvs.map λkv=>if kv.1=k then(kv.1,y) else kv) (xs.map (putAt k u)):=by
  induction r with
  | nil=>exact .nil
  | @cons p q ps qs h t ih =>
    rw[aR,aR]
    refine .cons ?_ ih
    obtain⟨h1,h2,h3⟩:=h
    unfold putAt
    by_cases e:p.1=k
    . rw[if_pos e,if_pos (h1.symm.trans e)];exact⟨h1,h2,ry⟩
    . rw[if_neg e,if_neg (λz=>e (h1.trans z))];exact⟨h1,h2,h3⟩
theorem KT.put {H : Hp}{kvs : List (List Key×V)}{xs : List (List Key×Addr×Value)}(r : KT H kvs xs)(k : List Key){b : Addr}{y : V}{u : Value}(hb : H b = some (.tup (k.map kV)))(ry : o0 y u) :
    KT H (putK kvs k y) (storedH xs k b u):=by
  have e:(kvs.any λkv=>decide (kv.1=k))=(atKey xs k).isSome:=by
    rw[N7,(r.val k).isSome_eq,fg]
  unfold putK storedH
  rw[e]
  by_cases q:(atKey xs k).isSome=true
  . rw[if_pos q,if_pos q];exact r.repl k ry
  . rw[if_neg q,if_neg q];exact Paired.snoc r ⟨rfl,hb,ry⟩
theorem KT.keeps {H H':Hp}{kvs:List (List Key×V)}{xs:List (List Key×Addr×Value)}(r:KT H kvs xs)(ht:∀b ys,H b=some (.tup ys)->H' b=some (.tup ys)):KT H' kvs xs :=
  Paired.mapP r λ_ _ z=>⟨z.1,ht _ _ z.2.1,z.2.2⟩
section
variable {P:fR}{w:fW}{H:Hp}{h:Heap}{a:Addr}
theorem xn2 {u:HO}(ok:HOk P w H h)(e:Rd H a u):m9 P w H h a u:=e.ok ok
theorem yg1 {kvs:List (Key×V)}(ok:HOk P w H h)(e:Rd H a (.dK kvs)):kvs.length<=fQ/\(a==sysModules)=false/\∃vs,KV kvs vs/\h.DictOf (c6 P w) a vs :=
  show m9 P w H h a (.dK kvs) from xn2 ok e
theorem xb5 {kvs:List (Key×V)}(ok:HOk P w H h)(e:H a=some (.dK kvs)):kvs.length<=fQ/\(a==sysModules)=false/\∃vs,KV kvs vs/\h.DictOf (c6 P w) a vs:=yg1 ok (.inl e)
theorem zp2 {ks:List Key}(ok:HOk P w H h)(e:H a=some (.tup (ks.map kV))):(tupleKind (c6 P w)).is h ks a:=by
  obtain⟨_,its,r,o,h1,h2,n,h3⟩:=(show m9 P w H h a (.tup (ks.map kV)) from ok a _ e)
  exact⟨o,its.toArray,n,h1,h2,h3.1,by simpa using zx3 r⟩
theorem zo4 {kvs:List (List Key×V)}(ok:HOk P w H h)(e:Rd H a (.dT kvs)):kvs.length<=fQ/\(a==sysModules)=false /\
    ∃xs,KT H kvs xs/\h.DictOfH (tupleKind (c6 P w)) a xs:=by
  obtain⟨z,y,xs,r,o,es,ep,h1,h2,h3,h4,h5⟩:=(show m9 P w H h a (.dT kvs) from xn2 ok e)
  refine⟨z,y,xs,r,o,es,ep,h1,h2,h3,h4,λx hx=>?_,h5⟩
  have all:∀{l:List (List Key×V)} {m:List (List Key×Addr×Value)},KT H l m->∀x∈m,(tupleKind (c6 P w)).is h x.1 x.2.1:=by
    intro l m q
    induction q with
    | nil=>intro x hx;exact nomatch hx
    | @cons p q ps qs hq t ih =>
      intro x hx
      rcases aw.mp hx with e|hx
      . subst e
        exact zp2 ok (by rw[←hq.1];exact hq.2.1)
      . exact ih x hx
  exact all r x hx
theorem xb6 {kvs:List (List Key×V)}(ok:HOk P w H h)(e:H a=some (.dT kvs)):kvs.length<=fQ/\(a==sysModules)=false /\
    ∃xs,KT H kvs xs/\h.DictOfH (tupleKind (c6 P w)) a xs:=zo4 ok (.inl e)
end
def Y2 (H:Hp)(a:Addr)(y:V)(r:Option V):Prop :=
  (∃kvs k,Rd H a (.dK kvs)/\y=kV k/\r=L9 kvs k)∨∃kvs k b,Rd H a (.dT kvs)/\y=.ref b/\H b=some (.tup (k.map kV))/\r=L9 kvs k
def zn0 (H:Hp)(a:Addr)(y v:V)(H':Hp):Prop :=
  (∃kvs k,H a=some (.dK kvs)/\y=kV k/\kvs.length<fQ/\H'=upd H a (.dK (putK kvs k v))) ∨
  ∃kvs k b,H a=some (.dT kvs)/\y=.ref b/\H b=some (.tup (k.map kV))/\kvs.length<fQ/\H'=upd H a (.dT (putK kvs k v))
theorem Y2.k {H:Hp}{a:Addr}{kvs:List (Key×V)}{k:Key}(e:H a=some (.dK kvs)):Y2 H a (kV k) (L9 kvs k):=.inl ⟨kvs,k,.inl e,rfl,rfl⟩
theorem Y2.t {H:Hp}{a b:Addr}{kvs:List (List Key×V)}{k:List Key}(e:H a=some (.dT kvs))(eb:H b=some (.tup (k.map kV))):Y2 H a (.ref b) (L9 kvs k):=.inr ⟨kvs,k,b,.inl e,rfl,eb,rfl⟩
theorem zn0.k {H:Hp}{a:Addr}{kvs:List (Key×V)}{k:Key}{v:V}(e:H a=some (.dK kvs))(hl:kvs.length<fQ):zn0 H a (kV k) v (upd H a (.dK (putK kvs k v))):=.inl ⟨kvs,k,e,rfl,hl,rfl⟩
theorem zn0.t {H : Hp}{a b : Addr}{kvs : List (List Key×V)}{k : List Key}{v : V}(e : H a = some (.dT kvs))(eb : H b = some (.tup (k.map kV)))(hl : kvs.length<fQ) :
    zn0 H a (.ref b) v (upd H a (.dT (putK kvs k v))):=.inr ⟨kvs,k,b,e,rfl,eb,hl,rfl⟩
section
variable {X:Cx}{pins:List (Addr×Obj)}{σ:St}{H:Hp}{s:fO}{a:Addr}{y v:V}{u r:Value}{o:Option V}{A:fX}{E:Value->fO->Prop}
theorem Inv.big (I:Inv X pins σ H s):sysModules<s.heap.objs.size:=by
  have h:mainGlobals<s.heap.objs.size:=(I.mod.glob.keeps I.bk).lt
  exact fJ (by decide) h
theorem yw1 {Q : Value -> fO -> Prop}(hu : A.units+1<cLine)(I : Inv X pins σ H s)(g : Y2 H a y (some v))(ry : o0 y u)(h : ∀w' s', Inv X pins σ H s' -> o0 v w' -> Q w' s') :
    fS (fV X.prog X.w) A (getItem (.ref a) u) Q E s:=by
  rcases g with⟨kvs,k,e,ey,l⟩|⟨kvs,k,b,e,ey,eb,l⟩
  . subst ey
    obtain⟨z,hd,vs,rel,dd⟩:=yg1 I.hok e
    obtain⟨w',hw,rw'⟩:=za0.some_of (v:=v) (o:=valueAt vs k) (by rw[l];exact rel.val k)
    exact wpAny_getItem_of (yh1 ry) dd.mapOf hw (h w' _ (I.tok _) rw')
  . subst ey
    cases (show u=Value.ref b from ry)
    obtain⟨z,hd,xs,rel,dd⟩:=zo4 I.hok e
    obtain⟨w',hw,rw'⟩:=za0.some_of (v:=v) (o:=(atKey xs k).map (·.2)) (by rw[l];exact rel.val k)
    obtain⟨p,hp,hp2⟩:=dB.mp hw
    refine wpAny_getItem_heap (tupleKind_room_in1 hu) (zp2 I.hok eb) dd hp ?_
    rw[hp2]
    exact h w' _ (I.tok _) rw'
theorem xi6 {Q : Value -> fO -> Prop}(hu : A.units+1<cLine)(I : Inv X pins σ H s)(g : Y2 H a y o)(ry : o0 y u)(h : ∀s', Inv X pins σ H s' -> Q (.bool (!o.isSome)) s') :
    fS (fV X.prog X.w) A (compareOp .NotIn u (.ref a)) Q E s:=by
  rcases g with⟨kvs,k,e,ey,l⟩|⟨kvs,k,b,e,ey,eb,l⟩
  . subst ey
    obtain⟨z,hd,vs,rel,dd⟩:=yg1 I.hok e
    refine wpAny_notIn_of (yh1 ry) hd dd.mapOf ?_
    rw[←(rel.val k).isSome_eq,←l]
    exact h _ (I.tok _)
  . subst ey
    cases (show u=Value.ref b from ry)
    obtain⟨z,hd,xs,rel,dd⟩:=zo4 I.hok e
    refine wpAny_notIn_heap (tupleKind_room_in1 hu) (zp2 I.hok eb) hd dd ?_
    have q:=(rel.val k).isSome_eq
    rw[fg]at q
    rw[←q,←l]
    exact h _ (I.tok _)
theorem zl8 {h' : Heap}{t' : Nat}{ob : HO}(I : Inv X pins σ H s)(mu : Mut (H a))(hs : Heap.SameBut a s.heap h')(he : ∃q, h'.get? a = some q)(new : m9 X.prog X.w (upd H a ob) h' a ob) :
    Inv X pins σ (upd H a ob) { s with heap:=h',toks:=t' } :=
  I.write (x:=a) (e:=a) mu (.inl rfl) (λb q hb z=>(hs.2 b hb).trans z) he new
theorem xb4 {P : fR}{w : fW}{H' : Hp}{h' : Heap}{kvs : List (Key×V)}{vs : List (Key×Value)}(z : kvs.length <= fQ)(hd : (a==sysModules) = false)(rel : KV kvs vs)(dd : h'.DictOf (c6 P w) a vs) :
    m9 P w H' h' a (.dK kvs):=⟨z,hd,vs,rel,dd⟩
theorem yw2 {H' : Hp}{Q : Unit -> fO -> Prop}(hu : A.units+1<cLine)(I : Inv X pins σ H s)(g : zn0 H a y v H')(ry : o0 y u)(rv : o0 v r)(h : ∀s', Inv X pins σ H' s' -> Q () s') :
    fS (fV X.prog X.w) A (setItem (.ref a) u r) Q E s:=by
  rcases g with⟨kvs,k,e,ey,l,eH⟩|⟨kvs,k,b,e,ey,eb,l,eH⟩
  . subst ey eH
    obtain⟨z,hd,vs,rel,dd⟩:=xb5 I.hok e
    have hz:vs.length<=fQ:=by rw[←rel.length];exact z
    have hl:(putK kvs k v).length<=fQ:=by have:=C2 kvs k v;lia
    refine wpAny_setItem_pairs (hsz:=hz) (yh1 ry) dd λh' dd' hs=>h _ ?_
    have he:∃q,h'.get? a=some q:=let ⟨q,_,_,hq,_⟩:=dd';⟨q,hq⟩
    exact zl8 I (by rw[e];exact True.intro) hs he (xb4 hl hd (rel.put k rv) dd')
  . subst ey eH
    cases (show u=Value.ref b from ry)
    obtain⟨z,hd,xs,rel,dd⟩:=xb6 I.hok e
    have hz:xs.length<=fQ:=by rw[←Paired.length rel];exact z
    have hl:(putK kvs k v).length<=fQ:=by have:=C2 kvs k v;lia
    refine wpAny_setItem_heap (hsz:=hz) (tupleKind_room_in1 hu) (zp2 I.hok eb) dd λh' dd' hs=>h _ ?_
    obtain⟨q,es,ep,hq,h2,h3,h4,_,h5⟩:=dd'
    refine zl8 I (by rw[e];exact True.intro) hs ⟨q,hq⟩ ⟨hl,hd,_,(rel.put k eb rv).keeps λc ys ec=>?_,q,es,ep,hq,h2,h3,h4,h5⟩
    rw[z5 (k9 ec e (λz=>nomatch z))]
    exact ec
end
section
variable {X:Cx}{pins:List (Addr×Obj)}{σ:St}{H:Hp}{s:fO}{a:Addr}{kvs:List (Key×V)}{k:Key}{u:Value}{A:fX}{E:Value->fO->Prop}
theorem xt3 {Q:Value->fO->Prop}(I:Inv X pins σ H s)(e:Rd H a (.dK kvs))(h:∀t s',Inv X pins σ H s'->Q (.int kvs.length t) s'):fS (fV X.prog X.w) A (call (.builtin "len") [.ref a]) Q E s:=by
  obtain⟨z,hd,vs,rel,dd⟩:=yg1 I.hok e
  refine call_len_dict hd dd (by rw[←rel.length];rw[sizeLine_eq]at z;lia) ?_
  rw[←rel.length]
  exact h _ _ (I.tok _)
end
def xt0 (i:Expr):Prop:=∀ov iv,subscripted i false ov iv=operate [ov,iv] (getItem ov iv)
theorem xl8 {prog : fR}{w : fW}{A : fX}{E : Value -> fO -> Prop}{s : fO}{env : Env}{value slice : Expr}{pos : Pos}{T id : String}{Q : Value -> fO -> Prop}
    (hl:typeLookup (.type T) "__getitem__"=pure (some (.builtin id))) (hs:xt0 slice)
    (h:fS (fV prog w) A (eval value env) (λo s₁=>fS (fV prog w) A (eval slice env) (λi s₂=>s₂.TypeIs o T/\fS (fV prog w) A (getItem o i) Q E s₂) E s₁) E s) :
    fS (fV prog w) A (eval (.Subscript value slice pos) env) Q E s:=by
  refine Subscript_ (fZ h (λo s₁ h₁=>fZ h₁ (λi s₂ h₂=>?_) λ_ _ x=>x) λ_ _ x=>x)
  obtain⟨hT,h₂⟩:=h₂
  unfold subscriptTail
  refine fN ?_
  rw[getitemInPython_of_ne hT.not_modules]
  refine fN (wpAny_specialOf hT hl ?_)
  have fin:fS (fV prog w) A (subscripted slice false o i) (λr s₃=>fS (fV prog w) A (letTemporaryGo value o r >>= λ_=>pure r) Q E s₃) E s₂:=by
    rw[hs o i]
    exact wpAny_operating (fZ h₂ (λr s₃ h₃=>fN (wpAny_letTemporaryGo (fP h₃))) λ_ _ x=>x)
  first
    | exact fP (fN fin)
    | exact fN (fP (fN fin))
    | exact fN fin
theorem yg0 {X:Cx}{pins:List (Addr×Obj)}{σ:St}{H:Hp}{s:fO}{a:Addr}{y:V}{o:Option V}(I:Inv X pins σ H s)(g:Y2 H a y o):s.TypeIs (.ref a) "dict":=by
  rcases g with⟨kvs,k,e,_,_⟩|⟨kvs,k,b,e,_,_,_⟩
  . obtain⟨_, _, vs, _, dd⟩ := yg1 I.hok e
    exact dd.typeIs
  . obtain⟨_, _, xs, _, dd⟩ := zo4 I.hok e
    exact dd.typeIs
def xv1 (td ty:TE):TE:=λσ H Q=>td σ H λx H1=>ty σ H1 λy H2=>∃a v,x=.ref a/\Y2 H2 a y (some v)/\Q v H2
def xm0 (ty td:TE):TE:=λσ H Q=>ty σ H λy H1=>td σ H1 λx H2=>∃a o,x=.ref a/\Y2 H2 a y o/\Q (.bl (!o.isSome)) H2
def xu7 (td ty tv:TE):TS:=λD σ H=>tv σ H λv H1=>td σ H1 λx H2=>ty σ H2 λy H3=>∃a H4,x=.ref a/\zn0 H3 a y v H4/\D.nx σ H4
section
variable {X:Cx}{o i e value:Expr}{pos pos' tpos:Pos}{td ty tv:TE}
theorem Y8 (hu:X.A.units+1<cLine)(ho:PE X o td)(hi:PE X i ty)(hs:xt0 i):PE X (.Subscript o i pos) (xv1 td ty):=by
  intro pins s σ H Q I h
  refine xl8 PySem.F.slot_dict_getitem.lookup hs (thn (ho pins s σ H _ I h) λu s1 ⟨x,H1,I1,rx,q1⟩=>thn (hi pins s1 σ H1 _ I1 q1) λiv s2 ⟨y,H2,I2,ry,a,v,ex,g,q2⟩=>?_)
  subst ex
  obtain rfl:u=Value.ref a:=rx
  exact⟨yg0 I2 g,yw1 hu I2 g ry λw' s3 I3 rw'=>⟨v,H2,I3,rw',q2⟩⟩
theorem S9 (hu:X.A.units+1<cLine)(hi:PE X i ty)(ho:PE X o td):PC X .NotIn i o (xm0 ty td):=by
  intro pins s σ H Q I h
  refine thn (hi pins s σ H _ I h) λiv s1 ⟨y,H1,I1,ry,q1⟩=>thn (ho pins s1 σ H1 _ I1 q1) λu s2 ⟨x,H2,I2,rx,a,ov,ex,g,q2⟩=>?_
  subst ex
  obtain rfl:u=Value.ref a:=rx
  exact xi6 hu I2 g ry λs3 I3=>⟨.bl (!ov.isSome),H2,I3,rfl,q2⟩
theorem J6 (hu : X.A.units+1<cLine)(ho : PE X o td)(hi : PE X i ty)(hv : PE X value tv)(hs : swapsWith value (some (.Subscript o i pos')) pos.line X.env = pure false) :
    PS X (.Assign [.Subscript o i pos'] value pos) (xu7 td ty tv):=by
  intro pins s σ H D I h
  refine wpAny_Assign_Subscript (thn (hv pins s σ H _ I h) λr s1 ⟨v,H1,I1,rv,q1⟩=>thn (ho pins s1 σ H1 _ I1 q1) λu s2 ⟨x,H2,I2,rx,q2⟩=>thn (hi pins s2 σ H2 _ I2 q2) λiv s3 ⟨y,H3,I3,ry,a,H4,ex,g,q3⟩=>?_) hs
  subst ex
  obtain rfl:u=Value.ref a:=rx
  exact yw2 hu I3 g ry rv λs4 I4=>⟨σ,H4,I4,q3⟩
end
theorem xb3 {P:fR}{w:fW}{H:Hp}(h:Heap)(hb:sysModules<h.objs.size):m9 P w H (h.push { cls:=.type "dict",data:=.dict #[] }) h.objs.size (.dK []) :=
  ⟨aP _,beq_eq_false_iff_ne.mpr (Ne.symm (aO hb)),[],.nil,Heap.DictOf.new h⟩
theorem yg3 {P:fR}{w:fW}{H:Hp}(h:Heap)(hb:sysModules<h.objs.size):m9 P w H (h.push { cls:=.type "dict",data:=.dict #[] }) h.objs.size (.dT []) :=
  ⟨aP _,beq_eq_false_iff_ne.mpr (Ne.symm (aO hb)),[],.nil,_,#[],0,aB _ rfl,⟨rfl,rfl,rfl⟩,rfl,rfl,dL⟩
def xs2:TE:=λ_ H Q=>∀p,H p=none->Q (.ref p) (upd H p (.dT []))
section
variable {X:Cx}{pos:Pos}
theorem yj0:PE X (.Dict [] [] pos) xs2:=λpins s σ H Q I h =>
  wpAny_Dict_empty ⟨.ref s.heap.objs.size,_,I.laid (a:=s.heap.objs.size) (o:=.dT []) (t':=s.toks) (λ_ _ q=>ar _ q) (ag _) (yg3 s.heap I.big),rfl,h _ (I.hok.fresh (ag _))⟩
end
def yp1 : List (TE×TE) -> St -> Hp -> (List (V×V) -> Hp -> Prop) -> Prop
  | [],_,H,Q=>Q [] H
  | (tk,tv)::r,σ,H,Q=>tk σ H λx H1=>tv σ H1 λy H2=>yp1 r σ H2 λps H3=>Q ((x,y)::ps) H3
abbrev VV:List (V×V)->List (Value×Value)->Prop:=Paired λp q=>o0 p.1 q.1/\o0 p.2 q.2
def PPs (X:Cx)(pos:Pos)(keys:List (Option Expr))(values:List Expr)(trs:List (TE×TE)):Prop :=
  ∀(pins:List (Addr×Obj)) (s:fO) (σ:St) (H:Hp) (Q:List (V×V)->Hp->Prop),Inv X pins σ H s->yp1 trs σ H Q ->
    fS (fV X.prog X.w) X.A (evalPairs (pairTrees keys values X.env pos)) (λvs s'=>∃ps H',Inv X pins σ H' s'/\VV ps vs/\Q ps H') X.xe s
theorem yc1 {X:Cx}{pos:Pos}:PPs X pos [] [] []:=λpins s σ H Q I h=>pairTrees_nil_walk ⟨[],H,I,.nil,h⟩
theorem zr0 {X : Cx}{pos : Pos}{k v : Expr}{ks : List (Option Expr)}{vs : List Expr}{tk tv : TE}{trs : List (TE×TE)}(hk : PE X k tk)(hv : PE X v tv)(hr : PPs X pos ks vs trs) :
    PPs X pos (some k::ks) (v::vs) ((tk,tv)::trs):=λpins s σ H Q I h =>
  pairTrees_cons_walk (thn (hk pins s σ H _ I h) λu s1 ⟨x,H1,I1,rx,q1⟩=>thn (hv pins s1 σ H1 _ I1 q1) λw2 s2 ⟨y,H2,I2,ry,q2⟩ =>
    thn (hr pins s2 σ H2 _ I2 q2) λws s3 ⟨ps,H3,I3,rel,q3⟩=>⟨(x,y)::ps,H3,I3,.cons ⟨rx,ry⟩ rel,q3⟩)
def V3 (kvs more:List (Key×V)):List (Key×V):=more.foldl (λacc kv=>putK acc kv.1 kv.2) kvs
theorem KV.merge:∀{more:List (Key×V)} {rs:List (Key×Value)} {kvs:List (Key×V)} {vs:List (Key×Value)},KV more rs->KV kvs vs->KV (V3 kvs more) (merged vs rs):=by
  intro more rs kvs vs r
  unfold KV at r
  induction r generalizing kvs vs with
  | nil=>intro q;exact q
  | @cons p q ps qs h t ih =>
    intro r0
    have e:KV (putK kvs p.1 p.2) (stored vs q.1 q.2):=by
      have:=r0.put p.1 h.2
      rw[←h.1];exact this
    exact ih e
theorem za6 : ∀(more kvs : List (Key×V)), (V3 kvs more).length <= kvs.length+more.length
  | [],kvs=>by show kvs.length<=kvs.length+0;lia
  | p::r,kvs=>by
    have h1:=za6 r (putK kvs p.1 p.2)
    have h2:=C2 kvs p.1 p.2
    show(V3 (putK kvs p.1 p.2) r).length<=_
    rw[aD];lia
theorem zo0 {P : fR}{w : fW} : ∀{kvs : List (Key×V)} {ws : List (Value×Value)}, VV (kvs.map λkv => (kV kv.1, kv.2)) ws -> ∃rs, Carries (c6 P w) ws rs /\ KV kvs rs
  | [],_,r=>by rw[cn]at r;cases r;exact⟨[],True.intro,.nil⟩
  | p::kvs,_,r=>by
    rw[aR]at r
    cases r with
    | @cons a b as bs h t =>
      obtain⟨rs,c,q⟩:=zo0 (P:=P) (w:=w) t
      obtain⟨b1,b2⟩:=b
      exact⟨(p.1,b2)::rs,⟨yh1 h.1,rfl,c⟩,.cons ⟨rfl,h.2⟩ q⟩
def xv2 (trs:List (TE×TE)):TE:=λσ H Q=>∀p,H p=none->yp1 trs σ (upd H p (.dK [])) λps H2=>H2 p=some (.dK [])/\∃kvs:List (Key×V),ps=kvs.map (λkv=>(kV kv.1,kv.2))/\kvs.length<=15/\Q (.ref p) (upd H2 p (.dK (V3 [] kvs)))
theorem yb8 {X : Cx}{pos : Pos}{keys : List (Option Expr)}{values : List Expr}{trs : List (TE×TE)}(h : PPs X pos keys values trs)(hall : keys.all (·.isSome) = true)(hl : keys.length = values.length)(h0 : keys ≠ [])
    (h15:keys.length<=15):PE X (.Dict keys values pos) (xv2 trs):=by
  intro pins s σ H Q I q
  have hn:=I.hok.fresh (ag s.heap.objs.size)
  have I1:=I.laid (a:=s.heap.objs.size) (o:=.dK []) (h':=s.heap.push { cls:=.type "dict",data:=.dict #[] }) (t':=s.toks) (λ_ _ q=>ar _ q) (ag _) (xb3 s.heap I.big)
  refine wpAny_Dict_walk (knd:=c6 X.prog X.w) hall hl h0 h15 (thn (h pins _ σ _ _ I1 (q _ hn)) λws s2 ⟨ps,H2,I2,rel,e,kvs,ep,lk,q2⟩=>?_)
  subst ep
  obtain⟨rs,c,rk⟩:=zo0 (P:=X.prog) (w:=X.w) rel
  obtain⟨z,hd,vs0,r0,dd⟩:=xb5 I2.hok e
  cases r0
  refine⟨rs,c,dd,λh' dd' hs=>⟨.ref s.heap.objs.size,_,?_,rfl,q2⟩⟩
  have hz:(V3 [] kvs).length<=fQ:=by
    have h1:=za6 kvs []
    rw[bW]at h1
    rw[sizeLine_eq];lia
  have he:∃q,h'.get? s.heap.objs.size=some q:=let ⟨q,_,_,hq,_⟩:=dd';⟨q,hq⟩
  exact zl8 I2 (by rw[e];exact True.intro) hs he (xb4 hz hd (rk.merge .nil) dd')
structure M2 (X:Cx) (o:Expr) (m:Str) (apos:Pos) (e f:Expr) (cpos:Pos):Prop where
  base:attributeBase o m X.env (eval o X.env)=eval o X.env
  few : ((backTo cpos (fU [e, f] X.env)).all (λx => !x.1)&&(backToKw cpos (gf [] X.env)).all (λx => x.1.isSome)
    && decide (([e,f]:List Expr).length+([]:List Keyword).length+(if ([]:List Keyword).isEmpty then 0 else 1)<30))=true
  line:(apos.endLine==cpos.line)=true
  trees:backTo cpos (fU [e,f] X.env)=[(false,eval e X.env),(false,eval f X.env)]
section
variable {X:Cx}{pins:List (Addr×Obj)}{σ:St}{H:Hp}{s:fO}{a:Addr}{y d:V}{u r:Value}{o:Option V}{A:fX}{E:Value->fO->Prop}
end
section
variable {X:Cx}{o e f:Expr}{apos cpos:Pos}{td ty tx:TE}
end
section
variable {X:Cx}{pins:List (Addr×Obj)}{σ:St}{H:Hp}{s:fO}{a:Addr}{kvs:List (Key×V)}{A:fX}{E:Value->fO->Prop}
end
section
variable {X:Cx}{pins:List (Addr×Obj)}{σ:St}{H:Hp}{s:fO}{a:Addr}{y:V}{u:Value}{A:fX}{E:Value->fO->Prop}
end
end L2
namespace Att
open PySem PySem.W PySem.Calls PyProof.Rows
theorem zk2 {P:Params}{h:Heap}:∀(ns:List Int) (vs:List Value),WellAll P h vs (ns.map WData.int)->IntsAre vs ns:=by
  intro ns
  induction ns with
  | nil =>
    intro vs w
    rw[cn]at w
    cases w
    exact .nil
  | cons n ns ih =>
    intro vs w
    rw[aR]at w
    cases w with
    | cons a b =>
      cases a
      exact .cons _ _ (ih _ b)
theorem yy7 {l : OpenLaw}{n : Nat}(hn : l.most = some n){P : Params}{h : Heap}{args : List WData}{vals : List Value}
    (hpre:l.row.toRowW.claim.pre args=true) (hwl:WellAll P h vals args) :
    ∃a vs ns,vals=[Value.ref a]/\args=[WData.list (ns.map WData.int)]/\h.get? a=some { cls:=.type "list",data:=.seq vs.toArray }/\IntsAre vs ns/\ns.length<=n:=by
  have hsh:WShape.hasAll [] args [.list .int]=true:=(pre_splitW hpre).1
  have hc:l.pre.holds [] { args:=args }=true:=(pre_splitW hpre).2
  obtain⟨d,r,rfl,h1,h2⟩:=hasAllW_cons hsh
  obtain rfl:=hasAllW_nil h2
  obtain⟨xs,rfl,h3⟩:=hasW_list h1
  obtain⟨ns,rfl⟩:=items_int h3
  have hlen:ns.length<=n:=by
    unfold OpenLaw.pre at hc
    have h4:(WTm.not (.lt (.lit (.int n)) (.len (.arg 0)))).holds [] { args:=[.list (ns.map .int)] }=true:=by
      have h4:=(holds_andW hc).1
      rw[hn]at h4
      exact h4
    have h5:=condW_of h4 (w_not (w_lt w_lit (w_len_list (w_arg rfl))))
    rw[aa]at h5
    refine cI λq=>?_
    have q':(n:Int)<((ns.length:Nat):Int):=by lia
    first
      | (rw[decide_eq_true q']at h5;exact absurd h5 (by decide))
      | (simp at h5;lia)
  cases hwl with
  | cons w1 w2 =>
    cases w2
    cases w1 with
    | list ho hall=>exact⟨_,_,ns,rfl,rfl,ho,zk2 ns _ hall,hlen⟩
theorem yy2 (l:OpenLaw)(args:List WData):l.row.toRowW.claim.post args (.bool true) args=true :=
  postW_of (r := l.row.toRowW) (X := (true==true))
    (show WShape.has [] (.bool true) .bool=true by first|rfl|decide|simp[WShape.has,WShape.arms,WShape.armsAll])
    (show(WTm.eq .res (.lit (.bool true))).value [] { args:=args,res:=some (.bool true),after:=args }=some (.bool (true==true)) from w_eq_bool (w_res rfl) w_lit) rfl
section
variable {prog:fR}{w:fW}{A:fX}{E:Value->fO->Prop}{s:fO}{K:Frag}
end
end Att
namespace L2
open PySem PySem.Spec PyProof.Rows
theorem zh9 : ∀{vs : List Value} {ns : List Int}, IntsAre vs ns -> p8 (ns.map V.int) vs
  | _,_,.nil=>.nil
  | _,_,.cons n t h=>.cons ⟨t,rfl⟩ (zh9 h)
def Only (H:Hp):Prop:=∀b,H b=none∨∃o xs,H b=some (.frz o (.lst xs))
theorem xc5 {P : fR}{w : fW}{K : W.Frag}{mg mb : Str -> Option Value}{CX : CXT}{k : Nat}{fa a : Addr}{fd : gh}{x : Str}{sp : Sp}{s₁ : fO}{vs : List Value}{ns : List Int}
    (KX:K.In s₁.heap) (hns:s₁.heap.Ns mainGlobals mg) (hb:s₁.heap.Ns builtinsNs mb) (hbb:∀x:Str,x≠"__name__"->mb x=ge x) (hlim:s₁.heap.NoLimit) (hg:s₁.gens=#[])
    (ha:s₁.heap.get? a=some { cls:=.type "list",data:=.seq vs.toArray }) (hi:IntsAre vs ns) (hl:ns.length<=fQ) (hr:Y3 k callerA)
    (F:∀base:Heap,K.In base->base.Ns mainGlobals mg->u6 P w K mg base CX k fa fd [x] sp) (hbind:∀(s:fO) (u:Value),BindsTo s fd ⟨[u],[]⟩ [(x,u)])
    (hsp:∀H:Hp,Only H->SqL K H a (ns.map V.int)->sp [.ref a] H (λv _=>v=.bl true) λ_ _ _=>False)
    (hCX:∀H e s',CX [] H s₁ (λ_ _ _=>False) e s'->False) :
    codeAny (fV P w) callerA (.call (.ref fa) ⟨[.ref a],[]⟩) (λr s'=>r=.ok (.ret (.bool true))/\OldK s₁.heap s'.heap/\s'.os=s₁.os/\AllBare s'.gens) s₁:=by
  have rv:=zh9 hi
  have lenV:=hi.length
  have core:∀H:Hp,Only H->SqL K H a (ns.map V.int)->HOk P w H s₁.heap->(∀b,H b≠none->b=a)->(H a≠none->K.lookup a=none) ->
      codeAny (fV P w) callerA (.call (.ref fa) ⟨[.ref a],[]⟩) (λr s'=>r=.ok (.ret (.bool true))/\OldK s₁.heap s'.heap/\s'.os=s₁.os/\AllBare s'.gens) s₁:=by
    intro H hO hS hok hA hK
    have base_of:∀{b:Addr} {o:Obj},s₁.heap.get? b=some o->H b=none->(zz4 s₁.heap H).get? b=some o:=λe n=>xc1 e n
    have noA:∀{b:Addr} {o:Obj} {es:Array DictEntry} {ep:Nat},s₁.heap.get? b=some o->o.data=.dict es ep->H b=none:=λ{b o es ep} e d=>by
      cases q:H b with
      | none=>rfl
      | some u =>
        have e':b=a:=hA b (by rw[q];simp)
        subst e'
        rw[ha]at e;cases e
        have d':Data.seq vs.toArray _=Data.dict es ep:=d
        cases d'
    have nsK:∀{b:Addr} {m:Str->Option Value},s₁.heap.Ns b m->(zz4 s₁.heap H).Ns b m:=λ{b m} ⟨o,es,ep,e,d,r⟩=>⟨o,es,ep,base_of e (noA e d),d,r⟩
    have hKb:K.In (zz4 s₁.heap H):=λb o e=>base_of (KX b o e) (by
      cases q:H b with
      | none=>rfl
      | some u =>
        have e':b=a:=hA b (by rw[q];simp)
        subst e'
        rw[hK (by rw[q];simp)]at e;cases e)
    have hM:Mod K mg (zz4 s₁.heap H):=⟨hKb,nsK hns,⟨mb,nsK hb,hbb⟩,let ⟨mc,h1,h2⟩:=hlim;⟨mc,nsK h1,h2⟩⟩
    have e0:ym0 P w K mg (zz4 s₁.heap H) callerA [] s₁ H:=⟨rfl,hM,λb o e=>xj9 e,fM (yw8 _ _),trivial,λb hb=>absurd (show b∈([]:List Addr) from hb) (by simp),hok,.of_eq hg⟩
    refine codeAny_mono ((F _ hKb (nsK hns)).run callerA [] s₁ H ⟨[.ref a],[]⟩ [.ref a] [.ref a] _ _ hr e0 (hbind s₁ (.ref a)) (.cons rfl .nil) (hsp H hO hS)) λr s' h=>?_
    cases r with
    | error e=>exact(hCX H e s' h).elim
    | ok fl =>
      cases fl with
      | next=>exact False.elim h
      | brk=>exact False.elim h
      | cont=>exact False.elim h
      | ret u =>
        obtain⟨v,H',os,bare,un,hok',r',q⟩:=h
        have q':v=.bl true:=q
        subst q'
        obtain rfl:u=Value.bool true:=r'
        refine⟨rfl,OldK.of_keep λb o e=>?_,os,bare⟩
        cases q:H b with
        | none=>exact un.keep b o e q (by intro z;exact absurd (show b∈([]:List Addr) from z) (by simp)) (by simp)
        | some u =>
          rcases hO b with z|⟨ob,xs,z⟩
          . rw[q]at z;cases z
          . have z2 := un.frzs b ob _ z
            obtain⟨e1,_⟩:=hok b _ z
            obtain⟨e2,_⟩:=hok' b _ z2
            rw[e]at e1;cases e1
            exact e2
  cases hk:K.lookup a with
  | some o =>
    have e:=KX a o hk
    rw[ha]at e
    cases e
    refine core (λ_=>none) (λ_=>.inl rfl) (.inr ⟨_,vs.toArray,_,hk,rfl,rfl,rfl,by rw[aA,lenV];exact hl,by simpa using rv⟩) (λb u z=>by have z':(none:Option HO)=some u:=z;cases z') (λb z=>absurd rfl z) λz=>absurd rfl z
  | none =>
    refine core (λb=>if b=a then some (.frz { cls:=.type "list",data:=.seq vs.toArray } (.lst (ns.map V.int))) else none) (λb=>?_) (.inl (.inr ⟨{ cls:=.type "list",data:=.seq vs.toArray },if_pos rfl⟩)) (λb u z=>?_) (λb z=>?_) λ_=>hk
    . by_cases hb : b = a
      . exact .inr ⟨_,_,if_pos hb⟩
      . exact .inl (if_neg hb)
    . by_cases hb : b = a
      . have z' := (if_pos hb).symm.trans z
        cases z'
        subst hb
        exact⟨ha,by rw[aa];exact hl,vs,_,rv,ha⟩
      . have z' := (if_neg hb).symm.trans z
        cases z'
    . by_cases hb : b = a
      . exact hb
      . exact absurd (if_neg hb) z
end L2
namespace L2
open PySem PySem.Spec PyProof.Rows
def W6 (s:Stmt):Arguments:=match s with
  | .FunctionDef _ a _ _ _ _ _ _ _ _=>a
  | _=>{ posonlyargs:=[],args:=[],vararg:=none,kwonlyargs:=[],kw_defaults:=[],kwarg:=none,defaults:=[] }
def Z5 (s:Stmt):List Stmt:=match s with
  | .FunctionDef _ _ b _ _ _ _ _ _ _=>b
  | _=>[]
def z8 (s:Stmt):Scope:=match s with
  | .FunctionDef _ _ _ _ _ _ sc _ _ _=>sc
  | _=>{ kind:=.function,names:=[],isGenerator:=false,isCoroutine:=false }
abbrev CX0:CXT:=λ_ _ _ _ _ _=>False
abbrev E0:XK:=λ_ _ _=>False
theorem zx6 {X:Cx}:D4 CX0 X E0:=λ_ _ _ _ _ _ _ h=>h.elim
structure Fun (K:W.Frag) (x qual:Str) (st:Stmt) (f:Addr) (fd:gh):Prop where
  ex:∃(oc:Value) (od:Option Addr) (kV doc pm:Value) (an:Option Addr) (cdv ct:Value) (osl:Array (Option Value)),
    fd=W.fnOf x qual (W6 st) (Z5 st) (z8 st) .none kV doc pm an cdv ct/\K.lookup f=some ⟨oc,od,.func fd,osl⟩/\W.codeIn K cdv qual=true
  kp:W.keepIn K (.ref f)=true
section
variable {P:fR}{w:fW}{K:W.Frag}{mg:Str->Option Value}{base:Heap}
theorem Fun.ok {x qual : Str}{st : Stmt}{f : Addr}{fd : gh}{N ps : List Str}{k : Nat}{sp : Sp}(F : Fun K x qual st f fd)(S : y4 N ps (z8 st))(len : ∀vs H Q E, sp vs H Q E -> vs.length = ps.length)
    (hbody:∀(cdv:Value) (A:fX) (outer:List Env) (s:fO) (H:Hp) (vs:List V) (Q:VK) (E:XK),Y3 k (A.deeper (envOfC qual (z8 st) s.heap.objs.size f cdv))->sp vs H Q E ->
      ∃t,PSs (Q7 CX0 P w K mg base N qual (z8 st) f cdv A outer s H E).nox (Z5 st) t/\t { nx:=λ_ H'=>Q .non H',rt:=Q } (start N vs) H):u6 P w K mg base CX0 (k+1) f fd ps sp:=by
  obtain⟨oc,od,kV,doc,pm,an,cdv,ct,osl,rfl,lk,hcd⟩:=F.ex
  refine xb9 lk hcd S len λA outer s H vs Q E hr hsp=>?_
  obtain⟨t,h,q⟩:=hbody cdv A outer s H vs Q E hr hsp
  exact⟨t,h.nox,q⟩
theorem Fun.binds {x qual : Str}{st : Stmt}{f : Addr}{fd : gh}{ps : List Str}(F : Fun K x qual st f fd)
    (h:∀(kV doc pm:Value) (an:Option Addr) (cdv ct:Value) (us:List Value),us.length=ps.length->bindArgs (W.fnOf x qual (W6 st) (Z5 st) (z8 st) .none kV doc pm an cdv ct) ⟨us,[]⟩=pure (ps.zip us)):V5 K fd ps []:=by
  obtain⟨oc,od,kV,doc,pm,an,cdv,ct,osl,rfl,lk,hcd⟩:=F.ex
  exact .all (h kV doc pm an cdv ct)
theorem zo6 {x qual : Str}{st : Stmt}{f : Addr}{oc : Value}{od an : Option Addr}{osl : Array (Option Value)}{kV doc pm cdv ct : Value}(l : K.lookup f = some ⟨oc, od, .func (W.fnOf x qual (W6 st) (Z5 st) (z8 st) .none kV doc pm an cdv ct), osl⟩)
    (c:W.codeIn K cdv qual=true) (k:W.keepIn K (.ref f)=true):Fun K x qual st f (W.fnOf x qual (W6 st) (Z5 st) (z8 st) .none kV doc pm an cdv ct):=⟨⟨oc,od,kV,doc,pm,an,cdv,ct,osl,rfl,l,c⟩,k⟩
end
theorem zi9 {A:fX}{k:Nat}(hr:Y3 k A):A.units+1<cLine:=fx (Nat.add_le_add_left (by decide:1<=64) _) hr.units
theorem zy2 {n:Nat}(h:n<=1000):n<fQ:=fx h (by decide)
section
variable {X:Cx}
theorem pv (i : Nat){x : Str}{pos : Pos}(hN : X.N[i]? = some x := by rfl)(hv : Vis X.env.scope x := by first|exact Or.inl rfl|exact Or.inr (Or.inl rfl)|exact Or.inr (Or.inr rfl))(hd : (x==("__debug__" : Str)) = false := by decide)
    (hcd:(x==("__classdict__":Str))=false:=by decide):PE X (.Name x pos) (xv9 i):=xr2 hN hv hd hcd
end
theorem i9 {A B:Prop}(h:B):if false=true then A else B:=by
  rw[if_neg aE]
  exact h
theorem Z1 {A B:Prop}(h:A):if true=true then A else B:=by
  rw[if_pos rfl]
  exact h
theorem yx1 {c A B:Prop}[Decidable c](h1:c->A)(h2:¬c->B):if c then A else B:=by
  by_cases h:c
  . rw[if_pos h]
    exact h1 h
  . rw[if_neg h]
    exact h2 h
def y0 (H H':Hp):Prop:=∀b o,H b=some o->H' b=some o
theorem y0.refl (H:Hp):y0 H H:=λ_ _ h=>h
theorem y0.trans {H H1 H2:Hp}(a:y0 H H1)(b:y0 H1 H2):y0 H H2:=λc o h=>b c o (a c o h)
theorem y0.free {H H':Hp}(e:y0 H H'){l:Addr}(h:H' l=Option.none):H l=Option.none:=by
  cases q:H l with
  | none=>rfl
  | some o =>
    rw[e l o q]at h
    cases h
theorem y0.seq {K:W.Frag}{H H':Hp}{a:Addr}{xs:List V}(e:y0 H H')(h:SqL K H a xs):SqL K H' a xs:=by
  rcases h with (h|⟨o,h⟩)|h
  . exact .inl (.inl (e _ _ h))
  . exact .inl (.inr ⟨o,e _ _ h⟩)
  . exact .inr h
section
variable {X:Cx}
theorem yv6:V8 X (.builtin "len") (λxs H Q=>∃a kvs,xs=[V.ref a]/\H a=some (.dK kvs)/\Q (.int kvs.length) H):=by
  intro pins s σ H xs us Q I r h
  obtain⟨a,kvs,rfl,ha,q⟩:=h
  obtain⟨u,rfl,ru⟩:=N9 r
  cases ru
  exact xt3 I (.inl ha) λt s' I'=>⟨.int kvs.length,H,I',⟨t,rfl⟩,q⟩
end
section
variable {κ:Type}[DecidableEq κ]
end
end L2
set_option maxHeartbeats 4000000
namespace Att
open PySem PySem.W PySem.Calls PyProof.Rows
theorem yv4 {ns:List Int}{z:Int}(h:(WData.list (ns.map WData.int)).layable=true)(hz:z∈ns):Builtin.Int.intBits z<=2 ^ 20:=by
 have h1:=layableW_item h (WData.int z) (au.mpr ⟨z,hz,rfl⟩)
 obtain⟨_,_,h3⟩:=layableW_iff.mp h1
 simpa only[WData.weight,Builtin.Int.intBits] using h3
theorem attach_callB {l:OpenLaw}{n:Nat}{q:fR}{loose:List Str}{XP:(Str->Option Value)->Heap->Prop}{YP:fW->Heap->Prop}{d:DefRec}
  (hn:l.most=some n) (hdf:d.params.defaults=[])
  (call:∀(w:fW) (s₀ s₁:fO) (mg mb:Str->Option Value) (fa:Addr) (o:Obj) (pm cd doc:Value) (a:Addr) (vs:List Value) (ns:List Int),
   Ground q loose [] XP w s₀ mg mb s₁.heap->YP w s₁.heap ->
   s₁.heap.get? fa=some o->o.data=.func (docDef d.name d.params d.body d.scope pm cd doc)->s₁.heap.CodeRec cd d.name->mg d.name=some (.ref fa) ->
   s₁.heap.get? a=some { cls:=.type "list",data:=.seq vs.toArray }->IntsAre vs ns->ns.length<=n->(∀z∈ns,Builtin.Int.intBits z<=2 ^ 20)->s₁.gens=#[] ->
   codeAny (fV l.prog w) callerA (.call (.ref fa) ⟨[.ref a],[]⟩) (λr s'=>r=.ok (.ret (.bool true))/\OldK s₁.heap s'.heap/\s'.os=s₁.os/\AllBare s'.gens) s₁) :
  WalkO q loose XP YP l.row.toRowW d [] (λf vs=>PySem.call f vs):=by
 intro w s₀ s₁ mg mb G Y fa o pm cd doc dV kV ho hd hcd hD hmg hg args vals as hpre hlay hrd hwl hlo
 obtain rfl:dV=.none:=Dflts.none hD hdf
 obtain rfl:kV=.none:=Dflts.noKw hD
 obtain⟨a,vs,ns,rfl,rfl,hobj,hints,hlen⟩:=yy7 hn hpre hwl
 have hbits:∀z∈ns,Builtin.Int.intBits z<=2 ^ 20:=λz hz=>yv4 (layableW_arg hlay _ ax) hz
 refine enter_call (codeAny_mono (call w s₀ s₁ mg mb fa o pm cd doc a vs ns G Y ho (fd_plain hd) hcd hmg hobj hints hlen hbits hg) λr s' hq=>?_)
 obtain⟨rfl,h2,h3,h4⟩:=hq
 exact⟨.inl ⟨.bool true,.bool true,[],rfl,λ_=>rfl,.bool true,yy2 l _,λ_=>⟨List.Pairwise.nil,λ_ hm=>(nomatch hm)⟩⟩,h2,h3,h4⟩
end Att
namespace L2
open PySem PySem.Spec PyProof.Rows
theorem walk_ofB {l:W.OpenLaw}{n k:Nat}{q:fR}{loose:List Str}{XP:(Str->Option Value)->Heap->Prop}{YP:fW->Heap->Prop}{d:DefRec}{K:Params->W.Frag}{CX:CXT}{sp:W.Frag->Sp}{x:Str}
  (hn:l.most=some n) (hn2:n<=fQ) (hdf:d.params.defaults=[]) (hr:Y3 k callerA)
  (hY:∀(w:fW) (h:Heap),YP w h->(K w.params).In h)
  (F:∀(w:fW) (mg:Str->Option Value) (fa:Addr) (h:Heap),(K w.params).In h->h.Ns mainGlobals mg->mg d.name=some (.ref fa) ->
   ∃fd:gh,(∀(s:fO) (u:Value),BindsTo s fd ⟨[u],[]⟩ [(x,u)]) /\
    ∀base:Heap,(K w.params).In base->base.Ns mainGlobals mg->u6 l.prog w (K w.params) mg base CX k fa fd [x] (sp (K w.params)))
  (hsp:∀(K:W.Frag) (H:Hp) (a:Addr) (ns:List Int),ns.length<=n->(∀z∈ns,Builtin.Int.intBits z<=2 ^ 20)->Only H->SqL K H a (ns.map V.int)->sp K [.ref a] H (λv _=>v=.bl true) λ_ _ _=>False)
  (hCX:∀(H:Hp) (s:fO) (e:Value) (s':fO),CX [] H s (λ_ _ _=>False) e s'->False) :
  W.WalkO q loose XP YP l.row.toRowW d [] (λf vs=>PySem.call f vs):=by
 refine Att.attach_callB hn hdf λw s₀ s₁ mg mb fa o pm cd doc a vs ns G Y ho hd hcd hmg hobj hints hlen hbits hg=>?_
 have KX:=hY w _ Y
 obtain⟨fd,hb,hF⟩:=F w mg fa _ KX G.T.g hmg
 exact xc5 KX G.T.g G.T.b G.T.builtins G.T.nolimit hg hobj hints (aW hlen hn2) hr hF hb (λH hO hS=>hsp (K w.params) H a ns hlen hbits hO hS) λH e s'=>hCX H s₁ e s'
section
variable {X:Cx}
end
theorem yw4 {α β:Type}{l:List α}{f:α->β->Sem (ForInStep β)}{g:β->α->β}:∀(c:β),(∀x∈l,∀c,f x c=pure (.yield (g c x)))->forIn l c f=pure (l.foldl g c):=by
 induction l with
 | nil=>intro c _;rfl
 | cons x l ih =>
  intro c h
  rw[dG,h x ax,pure_bind]
  exact ih _ λy hy=>h y (ao _ hy)
def Z8 (cells:List (Str×Addr))(cs:List (Str×Addr))(x:Str×NameKind):List (Str×Addr):=if (x.2==NameKind.free)=true then(x.1,(cells.lookup x.1).getD 0)::cs else cs
def xa8 (cells:List (Str×Addr))(names:List (Str×NameKind)):List (Str×Addr):=names.foldl (Z8 cells) []
theorem zo2 {scope:Scope}{env:Env}(h:∀y∈scope.names,y.2=.free->∃c,env.cells.lookup y.1=some c):closureFor scope env=pure (xa8 env.cells scope.names):=by
 simp only[closureFor]
 rw[yw4 (g:=Z8 env.cells) [] (λx hx c=>by
  obtain⟨n,k⟩:=x
  by_cases hk:k=.free
  ·subst hk
   obtain⟨a,ha⟩:=h _ hx rfl
   have ha':env.cells.lookup n=some a:=ha
   simp only[Z8,beq_self_eq_true,if_true,cellOf,ha',cY,pure_bind]
  ·have hb:(k==NameKind.free)=false:=by simpa using hk
   simp only[Z8,hb,bC,if_false])]
 rfl
theorem zw7 {cells:List (Str×Addr)}:∀{names:List (Str×NameKind)} {cs:List (Str×Addr)},(∀y∈names,y.2=.free->∃c,cells.lookup y.1=some c)->(∀x c,cs.lookup x=some c->cells.lookup x=some c) ->
  ∀x c,(names.foldl (Z8 cells) cs).lookup x=some c->cells.lookup x=some c
 | [],cs,_,h,x,c,e=>h x c e
 | (n,k)::r,cs,hn,h,x,c,e=>by
  refine zw7 (names:=r) (λy hy=>hn y (ao _ hy)) (λx c e=>?_) x c e
  by_cases hk:k=.free
  ·subst hk
   obtain⟨a,ha⟩:=hn (n,.free) ax rfl
   have ha':cells.lookup n=some a:=ha
   simp only[Z8,beq_self_eq_true,if_true,ha',cY,bQ]at e
   cases q:x==n with
   | true =>
    rw[q]at e
    have q':x=n:=by simpa using q
    rw[q',ha']
    exact e
   | false =>
    rw[q]at e
    exact h x c e
  ·have hb:(k==NameKind.free)=false:=by simpa using hk
   simp only[Z8,hb,bC,if_false]at e
   exact h x c e
theorem zg0 {cells:List (Str×Addr)}{x:Str}:∀{names:List (Str×NameKind)} {cs:List (Str×Addr)},((x,NameKind.free)∈names∨∃c,cs.lookup x=some c)->∃c,(names.foldl (Z8 cells) cs).lookup x=some c
 | [],cs,h=>by
  rcases h with h|h
  ·cases h
  ·exact h
 | (n,k)::r,cs,h=>by
  refine zg0 (names:=r) (cs:=Z8 cells cs (n,k)) ?_
  rcases h with h|⟨c,h⟩
  ·rcases aw.mp h with e|e
   ·cases e
    right
    simp[Z8]
   ·exact .inl e
  ·right
   by_cases hk:k=.free
   ·subst hk
    simp only[Z8,beq_self_eq_true,if_true,bQ]
    cases x==n with
    | true=>exact⟨_,rfl⟩
    | false=>exact⟨c,h⟩
   ·have hb:(k==NameKind.free)=false:=by simpa using hk
    simp only[Z8,hb,bC,if_false]
    exact⟨c,h⟩
def zg1 (sc osc:Scope)(fr:List Str):Bool :=
 sc.kind == .function&&(sc.names.all λy=>y.2 != .cell)&&(sc.names.all λy=>y.2 != .local || sc.names.lookup y.1==some .local) &&
 (sc.names.all λy=>y.2 != .free || (osc.names.lookup y.1==some .cell || osc.names.lookup y.1==some .free))&&(fr.all λx=>sc.names.lookup x==some .free)
structure yl9 (sc osc:Scope) (fr:List Str):Prop where
 kind:sc.kind=.function
 cell:∀y∈sc.names,y.2≠.cell
 loc:∀y∈sc.names,y.2=.local->sc.names.lookup y.1=some .local
 free:∀y∈sc.names,y.2=.free->osc.names.lookup y.1=some .cell∨osc.names.lookup y.1=some .free
 fr:∀x∈fr,sc.names.lookup x=some .free
theorem zw8 {sc osc:Scope}{fr:List Str}(h:zg1 sc osc fr=true):yl9 sc osc fr:=by
 unfold zg1 at h
 rw[bp,bp,bp,bp]at h
 obtain⟨⟨⟨⟨h1,h2⟩,h3⟩,h4⟩,h5⟩:=h
 refine⟨by simpa using h1,λy hy=>?_,λy hy e=>?_,λy hy e=>?_,λx hx=>?_⟩
 ·simpa using ck.mp h2 y hy
 ·have:=ck.mp h3 y hy
  rw[e]at this
  simpa using this
 ·have:=ck.mp h4 y hy
  rw[e]at this
  simpa using this
 ·simpa using ck.mp h5 x hx
theorem mem_of_lookup {x:Str}{k:NameKind}:∀{l:List (Str×NameKind)},l.lookup x=some k->(x,k)∈l
 | [],h=>by cases h
 | (n,j)::r,h=>by
  rw[bQ]at h
  cases q:x==n with
  | true =>
   rw[q]at h
   have q':x=n:=by simpa using q
   cases h
   rw[q']
   exact ax
  | false =>
   rw[q]at h
   exact ao _ (mem_of_lookup h)
theorem P5 {env:Env}:∀{names:List (Str×NameKind)} {x:Str},names.lookup x=some .free ->
  (names.map λ(n,k)=>if (k==NameKind.free&&env.scope.kind == .function&&env.kindOf n==some .cell) then(n,NameKind.cell) else(n,k)).lookup x=some .cell ∨
  (names.map λ(n,k)=>if (k==NameKind.free&&env.scope.kind == .function&&env.kindOf n==some .cell) then(n,NameKind.cell) else(n,k)).lookup x=some .free
 | [],_,h=>by cases h
 | (n,k)::r,x,h=>by
  have ih:=@P5 env r x
  show List.lookup x ((if (k==NameKind.free&&env.scope.kind == .function&&env.kindOf n==some .cell)=true then(n,NameKind.cell) else(n,k))::_)=_∨List.lookup x ((if (k==NameKind.free&&env.scope.kind == .function&&env.kindOf n==some .cell)=true then(n,NameKind.cell) else(n,k))::_)=_
  rw[bQ]at h
  by_cases hc:(k==NameKind.free&&env.scope.kind == .function&&env.kindOf n==some .cell)=true
  ·rw[if_pos hc]
   simp only[bQ]
   cases hx:x==n with
   | true=>exact .inl rfl
   | false=>rw[hx]at h;exact ih h
  ·rw[if_neg hc]
   simp only[bQ]
   cases hx:x==n with
   | true=>rw[hx]at h;exact .inr h
   | false=>rw[hx]at h;exact ih h
def X4 (X:Cx)(N':List Str)(scope:Scope)(C:Addr)(s₃:fO)(H₃:Hp)(fp:List Addr):Cx where
 prog:=X.prog
 w:=X.w
 K:=X.K
 mg:=X.mg
 base:=X.base
 A:=X.A
 N:=N'
 s₀:=s₃
 H₀:=H₃
 env:=compEnvC scope (xa8 X.env.cells scope.names) C X.env
 outer:=X.stack
 stack:=X.stack
 ex:=fp
 fn:=λ_=>false
 calm:=X.calm
 pn:=[]
 xe:=λ_ _=>False
def N5 (own:Nat)(fr:List Nat)(σ:St):St:=List.replicate own none++fr.map λj=>(σ[j]?).getD none
section
variable {X:Cx}{pins:List (Addr×Obj)}{σ:St}{H:Hp}{s:fO}
theorem xc3 {N':List Str}{own:Nat}{fr:List Nat}{scope:Scope}{fp:List Addr}{h₁:Heap}{m:Str->Option Value}{t:Nat}{oD:Obj}(I:Inv X pins σ H s)(hf:∀b∈fp,zf7 X pins H b)(hob:∀b∈fp,∃o,s.heap.get? b=some o)
  (hok:yl9 scope X.env.scope (N'.drop own)) (hfr:fr.map (λj=>X.N[j]?)=(N'.drop own).map some) (hown:own<=N'.length)
  (hn:h₁.Ns s.heap.objs.size m) (hsb:Heap.SameBut s.heap.objs.size (s.heap.push oD) h₁) :
  Inv (X4 X N' scope s.heap.objs.size s H fp) [] (N5 own fr σ) H { s with heap:=h₁,toks:=t }:=by
 have cellsSub:∀x c,(xa8 X.env.cells scope.names).lookup x=some c->X.env.cells.lookup x=some c:=λx c e =>
  zw7 (λy hy hk=>I.ok.has y.1 (hok.free y hy hk)) (λx c e=>by cases e) x c e
 have up:∀b o,s.heap.get? b=some o->h₁.get? b=some o:=λb o e=>(hsb.2 b (aO (az e))).trans (ar _ e)
 have hlen:fr.length=(N'.drop own).length:=by
  have:=congrArg List.length hfr
  simpa using this
 have okX:(X4 X N' scope s.heap.objs.size s H fp).Ok :=
  {mod:=I.ok.mod
   kind:=hok.kind
   glob:=I.ok.glob
   blt:=I.ok.blt
   above:=ag _
   inj:=λx y c e1 e2=>I.ok.inj x y c (cellsSub x c e1) (cellsSub y c e2)
   has:=λx hk=>by
    have hk':(relabel scope X.env).names.lookup x=some .cell∨(relabel scope X.env).names.lookup x=some .free:=hk
    have key:(x,NameKind.free)∈scope.names:=by
     have all:∀(l:List (Str×NameKind)),(∀y∈l,y.2≠.cell)->((l.map λ(n,k)=>if (k==NameKind.free&&X.env.scope.kind == .function&&X.env.kindOf n==some .cell) then(n,NameKind.cell) else(n,k)).lookup x=some .cell ∨
       (l.map λ(n,k)=>if (k==NameKind.free&&X.env.scope.kind == .function&&X.env.kindOf n==some .cell) then(n,NameKind.cell) else(n,k)).lookup x=some .free)->(x,NameKind.free)∈l:=by
      intro l
      induction l with
      | nil=>intro _ h;rcases h with h|h <;> cases h
      | cons p r ih =>
       obtain⟨n,k⟩:=p
       intro hc h
       have hr:∀y∈r,y.2≠.cell:=λy hy=>hc y (ao _ hy)
       have hkc:k≠.cell:=hc (n,k) ax
       rw[aR]at h
       by_cases hx:(x==n)=true
       ·have hx':x=n:=by simpa using hx
        subst hx'
        by_cases hk:k=.free
        ·subst hk
         exact ax
        ·exfalso
         have hb:(k==NameKind.free)=false:=by simpa using hk
         simp[hb,bQ]at h
         rcases h with h|h
         ·exact hkc h
         ·exact hk h
       ·have hx0:(x==n)=false:=by simpa using hx
        refine ao _ (ih hr ?_)
        by_cases hc:(k==NameKind.free&&X.env.scope.kind == .function&&X.env.kindOf n==some .cell)=true
        ·simp only[hc,if_true,bQ,hx0]at h
         exact h
        ·have hc':(k==NameKind.free&&X.env.scope.kind == .function&&X.env.kindOf n==some .cell)=false:=by simpa using hc
         simp only[hc',bC,if_false,bQ,hx0]at h
         exact h
     exact all scope.names hok.cell hk'
    exact zg0 (.inl key)
   cab:=λx c e=>by cases e
   hd:=I.ok.hd
   frames:=I.ok.frames
   stk:=.inl rfl
   exf:=λb hb=>⟨λe=>by
     obtain⟨o,ho⟩:=hob b hb
     exact absurd (az ho) (by rw[e];exact aY _),λx c e=>(hf b hb).2.2.2.2.1 x c (cellsSub x c e)⟩
   bs:=I.bs
   bsz:=aW I.ok.bsz I.sz
   noex:=λb o e hb=>by
    rcases (hf b hb).2.2.2.1 with z|z
    ·exact I.ok.noex b o e z
    ·exact absurd (az (I.ok.bs b o e).1) (Nat.not_lt.mpr z)
   exfs:=λb hb z=>by
    rcases aw.mp (I.stkSub b z) with e|e
    ·exact(hf b hb).2.1 e
    ·exact(hf b hb).2.2.1 e
   funs:=I.stack
   frf:=I.stkFree }
 refine⟨okX,rfl,I.bare,Un.kept up,⟨m,hn,λi x v e1 e2 e3=>?_⟩,λx c e=>?_,I.hok.fresh (ag _),λx c e=>I.freeC x c (cellsSub x c e),λp hp=>(by cases hp),I.hok.kept up,?_⟩
 ·have e2':(List.replicate own none++fr.map λj=>(σ[j]?).getD none)[i]?=some (some v):=e2
  by_cases hi:i<own
  ·rw[aI (by simpa using hi),ci]at e2'
   rw[if_pos hi]at e2'
   cases e2'
  ·rw[aZ (by simpa using cI hi),bP,ah]at e2'
   cases hj:fr[i-own]? with
   | none=>rw[hj]at e2';cases e2'
   | some j =>
    rw[hj]at e2'
    have e4:(σ[j]?).getD none=some v:=by simpa using e2'
    have e5:σ[j]?=some (some v):=by
     cases q:σ[j]? with
     | none=>rw[q]at e4;cases e4
     | some z=>rw[q]at e4;simpa using e4
    have e6:N'[own+(i-own)]?=some x:=by
     rw[show own+(i-own)=i by lia]
     exact e1
    have e7:(N'.drop own)[i-own]?=some x:=by rw[dv];exact e6
    have e8:X.N[j]?=some x:=by
     have q:=congrArg (λl=>l[i-own]?) hfr
     simp only[ah,hj,e7,fv]at q
     simpa using q
    have hx:=hok.fr x (av e7)
    have hmem:=mem_of_lookup hx
    have hout:=hok.free _ hmem rfl
    obtain⟨mX,_,hl⟩:=I.loc
    obtain⟨u,r,l⟩:=hl j x v e8 e5 (.inr hout)
    refine⟨u,r,?_⟩
    rcases l with⟨k,_⟩|⟨_,c,ec,z⟩
    ·have k':X.env.scope.names.lookup x=some .local:=k
     rcases hout with q|q <;> (have q':X.env.scope.names.lookup x=_:=q;rw[k']at q';cases q')
    ·obtain⟨c',ec'⟩:=zg0 (cells:=X.env.cells) (cs:=[]) (.inl hmem)
     have q:=cellsSub x c' ec'
     rw[ec]at q
     cases q
     obtain⟨o,ho,hd⟩:=z
     exact .inr ⟨P5 hx,c,ec',o,up c o ho,hd⟩
 ·obtain⟨v,o,ho,hd⟩:=I.cell x c (cellsSub x c e)
  exact⟨v,o,up c o ho,hd⟩
 ·show(List.replicate own none++fr.map λj=>(σ[j]?).getD none).length=N'.length
  rw[aq,bP,aa,hlen,bE]
  lia
end
section
variable {prog:fR}{w:fW}{A:fX}{s:fO}
theorem D8 {elt target iter:Expr}{scope:Scope}{pos:Pos}{it acc:Value}{env:Env}{R:Result->fO->Prop}(I:Nat->fO->Prop)
  (turn:∀n s,I n s->fS (fV prog w) A (pyNext it) (λr s₁=>match r with
   | none=>R (.ok .next) s₁
   | some v=>fS (fV prog w) A (letOwnedTupleGo target it v) (λ_ s₁'=>fS (fV prog w) A (assign target env v) (λ_ s₂=>fS (fV prog w) A (eval elt env) (λx s₃ =>
     fS (fV prog w) A (call (.builtin "list.append") [acc,x]) (λ_ s₄=>∃m,m<n/\I m s₄) (notedBy (fV prog w) A env λe s'=>R (.error e) s') s₃)
     (notedBy (fV prog w) A env λe s'=>R (.error e) s') s₂) (notedBy (fV prog w) A env λe s'=>R (.error e) s') s₁') (notedBy (fV prog w) A env λe s'=>R (.error e) s') s₁) (notedBy (fV prog w) A env λe s'=>R (.error e) s') s)
  (n:Nat) (h:I n s):codeAny (fV prog w) A (.compLoop (.ListComp elt [⟨target,iter,[],0⟩] scope pos) 0 it acc env) R s:=by
 refine codeAny_loop rfl I (λn s hI=>?_) n h
 show fS _ _ ((compTurn (.ListComp elt [⟨target,iter,[],0⟩] scope pos) 0 it acc env).onRaise (λx=>do noteFrame x env;theTreesLotGoes x)) _ _ s
 refine wpAny_noted ?_
 rw[compTurn_list1]
 refine fN (wpAny_standAt (fN (fZ (turn n s hI) (λr s₁ h₁=>?_) λ_ _ h'=>h')))
 cases r with
 | none=>exact fP h₁
 | some v =>
  refine fN (fZ h₁ (λ_ s₁' h₁'=>?_) λ_ _ h'=>h')
  exact fN (fZ h₁' (λ_ s₂ h₂=>fN (fN (fZ h₂ (λx s₃ h₃=>fN (fZ h₃
   (λ_ s₄ h₄=>fP (fP ⟨rfl,h₄⟩)) λ_ _ h'=>h')) λ_ _ h'=>h'))) λ_ _ h'=>h')
end
abbrev CT (α:Type):=Addr->fO->Hp->List Addr->α
def xh2 (own:Nat)(fr:List Nat)(wi:TI)(g:CT TG)(te:CT TE)(σ:St)(H:Hp)(Q:Addr->Hp->Prop):Prop:=wi σ H λJ H1=>∀D,H1 D=none ->
 ∃W:Nat->Nat->St->Hp->Prop,(∃m,W 0 m (N5 own fr σ) (upd H1 D (.lst [])))/\∀i m σ' H',W i m σ' H' ->
  (J.stop i H'/\Q D H')∨(J.go i H'/\∀x H2,J.yld i H' x H2->∀C₀ s₀ H₀ fp,g C₀ s₀ H₀ fp x σ' H2 λσ3 H3=>∃N:VK,te C₀ s₀ H₀ fp σ3 H3 N/\∀y H4,N y H4 ->
   ∃ys m',H4 D=some (.lst ys)/\ys.length<fQ/\m'<m/\W (i+1) m' σ3 (upd H4 D (.lst (ys++[y]))))
def yu7 (own:Nat)(fr:List Nat)(wi:TI)(g:CT TG)(te:CT TE):TE:=λσ H Q=>xh2 own fr wi g te σ H λD H'=>Q (.ref D) H'
def xt2 (X:Cx)(pins:List (Addr×Obj))(H:Hp)(C:Addr):Prop :=
 H C=none/\C≠X.env.locals/\X.s₀.heap.objs.size<=C/\(∀x c,X.env.cells.lookup x=some c->c≠C)/\∀p∈X.pn++pins,p.1≠C
section
variable {X:Cx}{own:Nat}{fr:List Nat}{N':List Str}{tg iter elt:Expr}{scope:Scope}{pos:Pos}{wi:TI}{g:CT TG}{te:CT TE}
theorem yf6 {pins:List (Addr×Obj)}{s:fO}{σ:St}{H:Hp}{Q:Addr->Hp->Prop}{use:Option (Value->Sem Unit)}{Q':Value->fO->Prop}{pos':Pos}(hc:X.calm=true)(hi:PI X tg iter wi)(hg:∀C s₃ H₃ fp,PG (X4 X N' scope C s₃ H₃ fp) tg (g C s₃ H₃ fp))(he:∀C s₃ H₃ fp,PE (X4 X N' scope C s₃ H₃ fp) elt (te C s₃ H₃ fp))
  (hok:yl9 scope X.env.scope (N'.drop own)) (hfr:fr.map (λj=>X.N[j]?)=(N'.drop own).map some) (hown:own<=N'.length) (hs:∀x,foldedSetIterable iter X.env x=pure x)
  (I:Inv X pins σ H s) (h:xh2 own fr wi g te σ H Q)
  (fin:∀D C m H' s',Inv X pins σ H' s'->s'.heap.Ns C m->xt2 X pins H' C->Q D H'->compPost (fV X.prog X.w) X.A X.xe use Q' (.ref D) C (.ok .next) s') :
  fS (fV X.prog X.w) X.A (comprehension (.ListComp elt [⟨tg,iter,[],0⟩] scope pos) scope X.env pos' (newList []) false (eval iter X.env) use) Q' X.xe s:=by
 refine wpAny_comprehension_free rfl hs (zo2 λy hy hk=>I.ok.has y.1 (hok.free y hy hk)) hok.kind hok.loc (thn (hi pins s σ H _ I h) λxv s1 h1=>thn h1 λitv s2 h2=>?_)
 obtain⟨it,fp,tn,J,H2,e,I2,T,st2,f2,body⟩:=h2
 subst e
 refine wpAny_newList (items:=[]) ?_
 have hD:H2 s2.heap.objs.size=none:=I2.hok.fresh (ag _)
 have I3:Inv X pins σ (upd H2 s2.heap.objs.size (.lst [])) { s2 with heap:=s2.heap.push { cls:=.type "list",data:=.seq ([]:List Value).toArray } }:=I2.lnew (its:=[]) (t':=s2.toks) .nil (by decide)
 obtain⟨W,⟨m0,w0⟩,turn⟩:=body _ hD
 generalize hDD:s2.heap.objs.size=D at hD I3 w0 turn ⊢
 have up3:∀b o,s2.heap.get? b=some o->(s2.heap.push { cls:=.type "list",data:=.seq ([]:List Value).toArray }).get? b=some o:=λb o e=>ar _ e
 have st3:tn 0 (s2.heap.push { cls:=.type "list",data:=.seq ([]:List Value).toArray }):=T.keep _ _ _ st2 λb _ o e=>up3 b o e
 have fpne:∀b∈fp,b≠D:=λb hb e=>by
  obtain⟨o,ho,_⟩:=T.obj _ _ st2 b hb
  rw[e,←hDD]at ho
  exact absurd (az ho) (aY _)
 have f3:∀b∈fp,zf7 X pins (upd H2 D (.lst [])) b:=λb hb=>⟨by rw[z5 (fpne b hb)];exact(f2 b hb).1,(f2 b hb).2⟩
 generalize hs3:({ s2 with heap:=s2.heap.push { cls:=.type "list",data:=.seq ([]:List Value).toArray } }:fO)=s3 at I3 ⊢
 have st3':tn 0 s3.heap:=by rw[←hs3];exact st3
 generalize upd H2 D (.lst [])=H3 at I3 f3 w0
 have hob:∀b∈fp,∃o,s3.heap.get? b=some o:=λb hb=>let ⟨o,ho,_⟩:=T.obj _ _ st3' b hb;⟨o,ho⟩
 refine wpAny_newFunctionEnv hok.cell (by intro y hy;simp at hy) (λh₁ hns₁ hsb₁=>?_) hok.kind
 have up4:∀b o,s3.heap.get? b=some o->h₁.get? b=some o:=λb o e=>(hsb₁.2 b (aO (az e))).trans (ar _ e)
 have I4:=xc3 (N':=N') (own:=own) (fr:=fr) (scope:=scope) (t:=s3.toks+([]:List (Str×Value)).length) I3 f3 hob hok hfr hown hns₁ hsb₁
 have st4:tn 0 h₁:=T.keep _ _ _ st3' λb _ o e=>up4 b o e
 have stat:∀{H':Hp} ,(∀b∈fp,H' b=none)->∀b∈fp,zf7 (X4 X N' scope s3.heap.objs.size s3 H3 fp) [] H' b:=λhn b hb=>by
  refine⟨hn b hb,(I4.ok.exf b hb).1,I4.ok.exfs b hb,.inl hb,(I4.ok.exf b hb).2,λp hp=>by cases hp⟩
 have loop:codeAny (fV X.prog X.w) X.A (.compLoop (.ListComp elt [⟨tg,iter,[],0⟩] scope pos) 0 (.ref it) (.ref D) (X4 X N' scope s3.heap.objs.size s3 H3 fp).env)
   (compPost (fV X.prog X.w) X.A X.xe use Q' (.ref D) s3.heap.objs.size) { s3 with heap:=h₁,toks:=s3.toks+([]:List (Str×Value)).length }:=by
  refine D8 (λn s'=>∃i σ' H',Inv (X4 X N' scope s3.heap.objs.size s3 H3 fp) [] σ' H' s'/\tn i s'.heap/\(∀b∈fp,H' b=none)/\W i n σ' H') ?_ m0 ⟨0,_,H3,I4,st4,λb hb=>(f3 b hb).1,w0⟩
  rintro n s5 ⟨i,σ5,H5,I5,st5,fr5,w5⟩
  rcases turn i n σ5 H5 w5 with⟨stop,q⟩|⟨go,step⟩
  ·refine thn (T.done (X4 X N' scope s3.heap.objs.size s3 H3 fp) rfl rfl rfl hc i [] s5 σ5 H5 _ I5 (stat fr5) st5 stop) λr s6 ⟨hr,I6⟩=>?_
   subst hr
   obtain⟨m6,hn6,_⟩:=I6.loc
   have I7:Inv X pins σ H5 s6:=I3.call' (ch:=fp) (by have:=I6.os;exact this) I6.base I6.hok I6.bare λb hb=>⟨(f3 b hb).2.2.2.1,(f3 b hb).2.1,(f3 b hb).2.2.2.2.1,(f3 b hb).2.2.2.2.2⟩
   refine fin D s3.heap.objs.size m6 H5 s6 I7 hn6 ⟨I6.free,dq I3.lt,I3.sz,λx c e z=>?_,λp hp z=>?_⟩ q
   ·obtain⟨v,z1⟩:=I3.cell x c e
    exact absurd z1.lt (by rw[z];exact aY _)
   ·exact absurd (az (I3.pin p hp).1) (by rw[z];exact aY _)
  ·refine thn (T.item (X4 X N' scope s3.heap.objs.size s3 H3 fp) rfl rfl rfl hc i [] s5 σ5 H5 _ I5 (stat fr5) st5 go) λr s6 ⟨u,hr,h6⟩=>?_
   subst hr
   refine thn h6 λ_ s7 ⟨x,H7,I7,r7,y7,st7,fr7⟩=>?_
   have I7':=I7.pinned (stat fr7) (T.obj _ _ st7)
   refine fZ (hg _ _ _ _ _ s7 σ5 H7 x u _ I7' r7 (step x H7 y7 _ _ _ _)) (λ_ s8 ⟨σ8,H8,I8,N,q8,hN⟩=>?_) λ_ _ z=>z.elim
   refine fZ (he _ _ _ _ _ s8 σ8 H8 N I8 q8) (λyv s9 ⟨y,H9,I9,r9,n9⟩=>?_) λ_ _ z=>z.elim
   obtain⟨ys,m',hD9,hlt,hm,w9⟩:=hN y H9 n9
   refine fZ (Y0 (X:=X4 X N' scope s3.heap.objs.size s3 H3 fp) _ s9 σ8 H9 (.ref D) [y] (.ref D) [yv] (λ_ H'=>H'=upd H9 D (.lst (ys++[y]))) I9 rfl (.cons r9 .nil) ⟨D,ys,y,rfl,rfl,hD9,hlt,rfl⟩) (λ_ s10 ⟨_,H10,I10,_,q10⟩=>?_) λ_ _ z=>z.elim
   subst q10
   have pin:=λb hb o e=>I10.pin (b,o) (aJ _ (aJ _ (zb4 (h:=s7.heap) (fp:=fp) hb e)))
   refine⟨m',hm,i+1,σ8,_,I10.unpinned,T.keep _ _ _ st7 λb hb o e=>(pin b hb o e).1,λb hb=>?_,w9⟩
   obtain⟨o,e,d⟩:=T.obj _ _ st7 b hb
   exact(pin b hb o e).2.1
 exact codeAny_compStart_list loop (T.self X.A 0 _ _ _ st4 loop)
theorem xk5 (own:Nat)(fr:List Nat)(N':List Str)(hc:X.calm=true)(hi:PI X tg iter wi)(hg:∀C s₃ H₃ fp,PG (X4 X N' scope C s₃ H₃ fp) tg (g C s₃ H₃ fp))(he:∀C s₃ H₃ fp,PE (X4 X N' scope C s₃ H₃ fp) elt (te C s₃ H₃ fp))
  (hok:zg1 scope X.env.scope (N'.drop own)=true:=by rfl) (hfr:fr.map (λj=>X.N[j]?)=(N'.drop own).map some:=by rfl) (hown:own<=N'.length:=by decide) (hs:∀x,foldedSetIterable iter X.env x=pure x:=by intro _;rfl) :
  PE X (.ListComp elt [⟨tg,iter,[],0⟩] scope pos) (yu7 own fr wi g te):=by
 intro pins s σ H Q I h
 rw[eval_ListComp]
 refine yf6 (use:=none) hc hi hg he (zw8 hok) hfr hown hs I h λD C m H' s' I' hn sp q=>?_
 refine⟨m,hn,λh' sb=>⟨.ref D,H',?_,rfl,q⟩⟩
 exact I'.turned (t':=s'.toks) (λb o hb e=>(sb.2 b hb).trans e) sp.1 sp.2.1 (.inr sp.2.2.1) sp.2.2.2.1 sp.2.2.2.2
theorem yo3 {i:Nat}{y:Str}{py spos:Pos}(own:Nat)(fr:List Nat)(N':List Str)(hN:X.N.Nodup)(hy:X.N[i]?=some y)(hl:X.env.scope.names.lookup y=some .local)(hc:X.calm=true)(hi:PI X tg iter wi)(hg:∀C s₃ H₃ fp,PG (X4 X N' scope C s₃ H₃ fp) tg (g C s₃ H₃ fp))(he:∀C s₃ H₃ fp,PE (X4 X N' scope C s₃ H₃ fp) elt (te C s₃ H₃ fp))
  (hsw:swapsWith (.ListComp elt [⟨tg,iter,[],0⟩] scope pos) (some (.Name y py)) spos.line X.env=pure true:=by rfl)
  (hok:zg1 scope X.env.scope (N'.drop own)=true:=by rfl) (hfr:fr.map (λj=>X.N[j]?)=(N'.drop own).map some:=by rfl) (hown:own<=N'.length:=by decide) (hs:∀x,foldedSetIterable iter X.env x=pure x:=by intro _;rfl) :
  PS X (.Assign [.Name y py] (.ListComp elt [⟨tg,iter,[],0⟩] scope pos) spos) (xl9 (yu7 own fr wi g te) (U4 i)):=by
 intro pins s σ H D I h
 rw[exec_Assign_Name_used _ _ _ _ hsw]
 refine fN (wpAny_standAt (fN ?_))
 show fS _ X.A (do let _ ←comprehension (.ListComp elt [⟨tg,iter,[],0⟩] scope pos) scope X.env _ (newList []) false (eval iter X.env) (some (assign (.Name y py) X.env))) _ _ s
 refine fN (fZ (yf6 (use:=some (assign (.Name y py) X.env)) (Q':=λ_ s'=>SP X pins D .next s') hc hi hg he (zw8 hok) hfr hown hs I h λDl C m H' s' I' hn sp q=>?_) (λ_ s' hq=>fP (fP hq)) λ_ _ e=>e)
 show fS _ X.A (assign (.Name y py) X.env (.ref Dl)) _ _ _
 refine wpAny_assign_Name (zy4 (v:=.ref Dl) I' hN hy (.inl hl) rfl (λs2 I2 ⟨a,sb,ha⟩=>?_) (.inr hl))
 have hCa:C≠a:=by
  rcases ha with e|e
  ·rw[e];exact sp.2.1
  ·exact λz=>sp.2.2.2.1 y a e z.symm
 refine⟨m,hn.sameBut sb hCa,λh' sb'=>⟨_,H',?_,q⟩⟩
 exact I2.turned (t':=s2.toks) (λb o hb e=>(sb'.2 b hb).trans e) sp.1 sp.2.1 (.inr sp.2.2.1) sp.2.2.2.1 sp.2.2.2.2
theorem c7 {x:Str}{px:Pos}(fr:List Nat)(N':List Str)(hc:X.calm=true)(hi:PI X (.Name x px) iter wi)(he:∀C s₃ H₃ fp,PE (X4 X N' scope C s₃ H₃ fp) elt (te C s₃ H₃ fp))(hN:N'.Nodup:=by decide +kernel)(h0:N'[0]?=some x:=by rfl)(hx:scope.names.lookup x=some .local:=by rfl)
  (hok:zg1 scope X.env.scope (N'.drop 1)=true:=by rfl) (hfr:fr.map (λj=>X.N[j]?)=(N'.drop 1).map some:=by rfl) (hown:1<=N'.length:=by decide) (hs:∀x,foldedSetIterable iter X.env x=pure x:=by intro _;rfl) :
  PE X (.ListComp elt [⟨.Name x px,iter,[],0⟩] scope pos) (yu7 1 fr wi (λ_ _ _ _=>U4 0) te) :=
 xk5 1 fr N' hc hi (λ_ _ _ _=>n8 hN h0 (.inl (lookup_relabel_local hx)) (.inr (lookup_relabel_local hx))) he hok hfr hown hs
theorem yj3 {i:Nat}{x y:Str}{px py spos:Pos}(fr:List Nat)(N':List Str)(hNd:X.N.Nodup)(hy:X.N[i]?=some y)(hl:X.env.scope.names.lookup y=some .local)(hc:X.calm=true)(hi:PI X (.Name x px) iter wi)(he:∀C s₃ H₃ fp,PE (X4 X N' scope C s₃ H₃ fp) elt (te C s₃ H₃ fp))
  (hsw:swapsWith (.ListComp elt [⟨.Name x px,iter,[],0⟩] scope pos) (some (.Name y py)) spos.line X.env=pure true:=by rfl) (hN:N'.Nodup:=by decide +kernel) (h0:N'[0]?=some x:=by rfl) (hx:scope.names.lookup x=some .local:=by rfl)
  (hok:zg1 scope X.env.scope (N'.drop 1)=true:=by rfl) (hfr:fr.map (λj=>X.N[j]?)=(N'.drop 1).map some:=by rfl) (hown:1<=N'.length:=by decide) (hs:∀x,foldedSetIterable iter X.env x=pure x:=by intro _;rfl) :
  PS X (.Assign [.Name y py] (.ListComp elt [⟨.Name x px,iter,[],0⟩] scope pos) spos) (xl9 (yu7 1 fr wi (λ_ _ _ _=>U4 0) te) (U4 i)) :=
 yo3 1 fr N' hNd hy hl hc hi (λ_ _ _ _=>n8 hN h0 (.inl (lookup_relabel_local hx)) (.inr (lookup_relabel_local hx))) he hsw hok hfr hown hs
end
end L2
namespace PySem
open Sem (wp)
section
variable {prog:fR}{w:fW}{A:fX}{E:Value->fO->Prop}{s:fO}
theorem za5 {Q:List Value->fO->Prop}{r:Addr}{a b c:Int}{t u v:Tok}{n:Nat}(hh:A.handled=none)(hr:IsRange s.heap r a b c t u v)(hsmall:Builtin.Range.small a b c=true)
  (hn:Builtin.Range.rangeSize a b c=n) (hlen:n<=2 ^ 24)
  (hQ:∀h' tk acc,(∀b o,s.heap.get? b=some o->h'.get? b=some o)->ItemsOf (λi v=>∃t,v=.int (a+i*c) t) acc n->Q acc.toList { s with heap:=h',toks:=tk }) :
  fS (fV prog w) A (collect (.ref r)) Q E s:=by
 unfold collect
 refine fN (wpAny_runValue (codeAny_builtin F.entry_proto_collect ?_))
 rw[Around.under_plainId F.plain_proto_collect _]
 show fS _ A.in1 (newList [] >>= λl=>again (.builtin "list.__iadd__" ⟨[l,.ref r],[]⟩)) _ _ s
 refine fN (wpAny_newObj_type ?_)
 refine fP ⟨plainId_quiet F.plain_list_iadd _,codeAny_builtin F.entry_list_iadd ?_⟩
 rw[Around.under_plainId F.plain_list_iadd _]
 show fS _ A.in1 (Builtin.List.listExtendWith (.ref s.heap.objs.size) (.ref r) (.ref s.heap.objs.size)) _ _ _
 have key:∀(r₁:Result) (s₁:fO),(r₁=.ok (.ret (.ref s.heap.objs.size))/\∃h' tk acc' c',s₁={ s with heap:=h',toks:=tk }/\(∀b o,s.heap.get? b=some o->h'.get? b=some o)/\h'.get? s.heap.objs.size=some { cls:=.type "list",dict:=none,data:=.seq acc' c',slots:=#[] }/\ItemsOf (λi v=>∃t,v=.int (a+i*c) t) acc' n) ->
   (match r₁ with
    | .ok (.ret v)=>fS (fV prog w) A (match v with
      | .ref a=>do
       match (←load a).data with
       | .seq xs _=>pure xs.toList
       | _=>unsupported "internal:collect"
      | _=>unsupported "internal:collect") Q E s₁
    | .ok _=>False
    | .error e=>E e s₁):=by
  rintro r₁ s₁ ⟨rfl,h',tk,acc',c',rfl,hk,hS',hacc⟩
  show fS _ A (load s.heap.objs.size >>= _) _ _ _
  refine fN (wpAny_load hS' ?_)
  exact fP (hQ h' tk acc' hk hacc)
 refine fZ (wpAny_extend_range (s:={ s with heap:=s.heap.push { cls:=.type "list",data:=.seq ([]:List Value).toArray } }) (A:=A)
  (R:=λr₁ s₁=>r₁=.ok (.ret (.ref s.heap.objs.size))/\∃h' tk acc' c',s₁={ s with heap:=h',toks:=tk }/\(∀b o,s.heap.get? b=some o->h'.get? b=some o)/\h'.get? s.heap.objs.size=some { cls:=.type "list",dict:=none,data:=.seq acc' c',slots:=#[] }/\ItemsOf (λi v=>∃t,v=.int (a+i*c) t) acc' n)
  hh (ar _ hr) hsmall hn hlen s.heap.objs.size (.ref s.heap.objs.size) 0 (aB _ rfl) λh' tk acc' c' hk hS' hacc=>⟨rfl,h',tk,acc',c',rfl,λb o e=>hk b o (aO (az e)) (ar _ e),hS',hacc⟩) (λfin s₁ h₁=>?_) λe s₁ h₁=>key _ _ h₁
 cases fin with
 | done f=>exact key _ _ h₁
 | again c'=>exact⟨h₁.1,codeAny_mono h₁.2 λr₂ s₂ h₂=>key _ _ h₂⟩
open AutoSeq1 (wpAny_loadPart')
theorem D2 {r:Addr}{a b c:Int}{t u v:Tok}{n:Nat}(hsmall:Builtin.Range.small a b c=true)(hn:Builtin.Range.rangeSize a b c=n)(hlen:n<=2 ^ 24)(hsz:n<=fQ) :
  Meets (Builtin.«tuple.__new__» ⟨[.type "tuple",.ref r],[]⟩)
   (λA R s=>A.handled=none/\IsRange s.heap r a b c t u v/\∀(h':Heap) (tk:Nat) (acc:Array Value),(∀b o,s.heap.get? b=some o->h'.get? b=some o)->ItemsOf (λi v=>∃t,v=.int (a+i*c) t) acc n ->
    R (.ok (.ret (.ref h'.objs.size))) { s with heap:=h'.push { cls:=.type "tuple",data:=.seq acc },toks:=tk }) :=
 .of_wp λprog w A R s h=>by
  obtain⟨hh,hr,h⟩:=h
  have hsub:=sub_tuple_self
  have hinit:=init_tuple_lookup
  have hmh:=madeHere_tuple
  have hT:s.TypeIs (.ref r) "range":=⟨_,hr,rfl⟩
  have hh1:A.in1.handled=none:=hh
  wp_walk using wpAny_typeOf hT,za5 hh1 hr hsmall hn hlen
  intro h' tk acc hk hacc
  show fS _ _ (Builtin.Tuple.tupleExact acc.toList.toArray >>= λv=>ret v) _ _ _
  unfold Builtin.Tuple.tupleExact
  refine fN (wpAny_newObj_type ?_ (show acc.toList.toArray.size<=fQ by simp only[Array.toArray_toList];rw[hacc.1];exact hsz))
  refine fP ⟨_,rfl,?_⟩
  have e:acc.toList.toArray=acc:=by simp
  rw[e]
  exact h h' tk acc hk hacc
theorem zf9 {Q:Value->fO->Prop}{r:Addr}{a b c:Int}{t u v:Tok}{n:Nat}(hh:A.handled=none)(hr:IsRange s.heap r a b c t u v)(hsmall:Builtin.Range.small a b c=true)
  (hn:Builtin.Range.rangeSize a b c=n) (hlen:n<=2 ^ 24) (hsz:n<=fQ)
  (h:∀(h':Heap) (tk:Nat) (acc:Array Value),(∀b o,s.heap.get? b=some o->h'.get? b=some o)->ItemsOf (λi v=>∃t,v=.int (a+i*c) t) acc n->Q (.ref h'.objs.size) { s with heap:=h'.push { cls:=.type "tuple",data:=.seq acc },toks:=tk }) :
  fS (fV prog w) A (call (.type "tuple") [.ref r]) Q E s :=
 callType_new F.called_tuple (by decide) (F.typeCall_tuple_1 _) (F.newCall_tuple_1 _) (λobj=>F.args_object_init_2 obj _) F.entry_tuple_new
  (D2 hsmall hn hlen hsz) ⟨hh,hr,λh' tk acc hk hacc=>⟨⟨_,aB _ rfl,rfl⟩,h h' tk acc hk hacc⟩⟩
end
end PySem
namespace L2
open PySem PySem.Spec PyProof.Rows
theorem za8:∀{xs:List V} {us:List Value},xs.length=us.length->(∀(i:Nat) x u,xs[i]?=some x->us[i]?=some u->o0 x u)->p8 xs us
 | [],[],_,_=>.nil
 | [],_::_,h,_=>by cases h
 | _::_,[],h,_=>by cases h
 | x::xs,u::us,h,r=>.cons (r 0 x u rfl rfl) (za8 (by simpa using h) λi y w e1 e2=>r (i+1) y w (by simpa using e1) (by simpa using e2))
def U5 (lo:Int)(n:Nat):List V:=(List.range n).map λi=>V.int (lo+(i:Nat))
theorem Q0 (lo:Int)(n:Nat):(U5 lo n).length=n:=by unfold U5;rw[aa,aN]
theorem zt4 {acc:Array Value}{lo:Int}{n:Nat}(h:ItemsOf (λi v=>∃t,v=.int (lo+i*1) t) acc n):p8 (U5 lo n) acc.toList:=by
 obtain⟨h1,h2⟩:=h
 refine za8 (by rw[Q0,aX,h1]) λi x u e1 e2=>?_
 have hi:i<n:=by
  have:=(al.mp e1).1
  rwa [Q0]at this
 obtain⟨t,rfl⟩:=h2 i u (by simpa using e2)
 unfold U5 at e1
 rw[ah,bh hi]at e1
 cases e1
 exact⟨t,by rw[Int.mul_one]⟩
section
variable {X:Cx}
theorem T8:V8 X (.type "range") (λxs H Q=>∃j,xs=[.int j]/\∀p,H p=none->Q (.ref p) (upd H p (.rng 0 j))):=by
 intro pins s σ H xs us Q I r h
 obtain⟨j,rfl,q⟩:=h
 obtain⟨u,rfl,t,rfl⟩:=N9 r
 exact call_range_1 ⟨.ref s.heap.objs.size,_,I.laid (λb o e=>ar _ e) (ag _) (show m9 X.prog X.w _ _ _ (.rng 0 j) from⟨_,_,_,aB _ rfl⟩),rfl,q _ (I.hok.fresh (ag _))⟩
def xa0 (lo hi:Int):Prop:=-(2 ^ 62)<=lo/\lo<2 ^ 62/\-(2 ^ 62)<=hi/\hi<2 ^ 62/\(hi-lo).toNat<=1000000
theorem p9:1000000<=fQ:=by decide
theorem M8 (hc:X.calm=true):V8 X (.type "list") (λxs H Q=>∃p lo hi,xs=[.ref p]/\H p=some (.rng lo hi)/\xa0 lo hi/\∀l,H l=none->Q (.ref l) (upd H l (.lst (U5 lo (hi-lo).toNat)))):=by
 intro pins s σ H xs us Q I r h
 obtain⟨p,lo,hi,rfl,hp,⟨s1,s2,s3,s4,s5⟩,q⟩:=h
 obtain⟨u,rfl,rx⟩:=N9 r
 cases rx
 obtain⟨t,u,v,hr⟩:=I.hok p _ hp
 have hz:=p9
 refine call_list_range (n:=(hi-lo).toNat) (I.ok.hd hc) hr (small_one s1 s2 s3 s4) (by rw[rangeSize_one];split <;> lia) (by lia) λh' tk acc' c' kp hS hacc=>?_
 refine⟨.ref s.heap.objs.size,_,I.laid (t':=tk) kp (ag _) (show m9 X.prog X.w _ h' _ (.lst (U5 lo (hi-lo).toNat)) from⟨by rw[Q0];lia,acc'.toList,c',zt4 hacc,by simpa using hS⟩),rfl,q _ (I.hok.fresh (ag _))⟩
theorem U1 (hc:X.calm=true):V8 X (.type "tuple") (λxs H Q=>∃p lo hi,xs=[.ref p]/\H p=some (.rng lo hi)/\xa0 lo hi/\∀l,H l=none->Q (.ref l) (upd H l (.tup (U5 lo (hi-lo).toNat)))):=by
 intro pins s σ H xs us Q I r h
 obtain⟨p,lo,hi,rfl,hp,⟨s1,s2,s3,s4,s5⟩,q⟩:=h
 obtain⟨u,rfl,rx⟩:=N9 r
 cases rx
 obtain⟨t,u,v,hr⟩:=I.hok p _ hp
 have hz:=p9
 refine zf9 (n:=(hi-lo).toNat) (I.ok.hd hc) hr (small_one s1 s2 s3 s4) (by rw[rangeSize_one];split <;> lia) (by lia) (by lia) λh' tk acc kp hacc=>?_
 have I1:Inv X pins σ H { s with heap:=h',toks:=tk }:=I.kept kp
 have I2:Inv X pins σ (upd H h'.objs.size (.tup (U5 lo (hi-lo).toNat))) { s with heap:=h'.push { cls:=.type "tuple",data:=.seq acc },toks:=tk } :=
  I1.laid (t':=tk) (λb o e=>ar _ e) (ag _) (show m9 X.prog X.w _ _ _ (.tup (U5 lo (hi-lo).toNat)) from⟨by rw[Q0];lia,acc.toList,zt4 hacc,by simpa using zt7.new h' acc⟩)
 exact⟨.ref h'.objs.size,_,I2,rfl,q _ (I1.hok.fresh (ag _))⟩
theorem Z2:V8 X (.builtin "isinstance") (λxs H Q=>∃x t c b,xs=[x,.ty c]/\K0 X.K H x t/\W.kitOne X.K t (.type c)=some b/\Q (.bl b) H):=by
 intro pins s σ H xs us Q I r h
 obtain⟨x,t,c,b,rfl,ty,e,q⟩:=h
 obtain⟨u,w',rfl,rx,rc⟩:=xh9 r
 cases (show w'=Value.type c from rc)
 exact zx2 I rx ty e λtk=>⟨.bl b,H,I.tok tk,rfl,q⟩
theorem zg2 {J:It}{fr:List Nat}{te:CT TE}{σ:St}{H1:Hp}{Q:Addr->Hp->Prop}{n:Nat}(ys:List V)(hn:ys.length=n)(hz:n<=fQ)
  (hstop:∀H,y0 H1 H->J.stop n H) (hgo:∀i H,i<n->y0 H1 H->J.go i H)
  (turn:∀i H x H2,i<n->y0 H1 H->J.yld i H x H2->H2=H/\∀C₀ s₀ H₀ fp,te C₀ s₀ H₀ fp (some x::fr.map λj=>(σ[j]?).getD none) H λy H4=>y0 H H4/\ys[i]?=some y)
  (fin:∀D H,H1 D=none->y0 H1 H->H D=some (.lst ys)->Q D H) :
  ∀D,H1 D=none->∃W:Nat->Nat->St->Hp->Prop,(∃m,W 0 m (N5 1 fr σ) (upd H1 D (.lst [])))/\∀i m σ' H',W i m σ' H' ->
  (J.stop i H'/\Q D H')∨(J.go i H'/\∀x H2,J.yld i H' x H2->∀C₀ s₀ H₀ fp,U4 0 x σ' H2 λσ3 H3=>∃N:VK,te C₀ s₀ H₀ fp σ3 H3 N/\∀y H4,N y H4 ->
   ∃ys m',H4 D=some (.lst ys)/\ys.length<fQ/\m'<m/\W (i+1) m' σ3 (upd H4 D (.lst (ys++[y])))):=by
 intro D hD
 have s0:∀o,y0 H1 (upd H1 D o):=λo b u e=>by rw[z5 (z9 e hD)];exact e
 refine⟨λi m σ' H'=>m=n-i/\i<=n/\y0 H1 H'/\H' D=some (.lst (ys.take i))/\∃z,σ'=z::fr.map λj=>(σ[j]?).getD none,⟨n,rfl,aP _,s0 _,by rw[z3];rfl,none,rfl⟩,?_⟩
 rintro i m σ' H' ⟨rfl,hi,sm,hl,z,rfl⟩
 by_cases hlt:i<n
 ·refine .inr ⟨hgo i H' hlt sm,λx H2 y C₀ s₀ H₀ fp=>?_⟩
  obtain⟨e,q⟩:=turn i H' x H2 hlt sm y
  subst e
  refine⟨_,q C₀ s₀ H₀ fp,λy H4 ⟨s4,e4⟩=>⟨ys.take i,n-(i+1),s4 _ _ hl,?_,by lia,rfl,hlt,?_,?_,_,rfl⟩⟩
  ·rw[bI];lia
  ·intro b u e
   rw[z5 (z9 e hD)]
   exact s4 _ _ (sm _ _ e)
  ·rw[z3,bc,e4]
   rfl
 ·have e:i=n:=by lia
  subst e
  refine .inl ⟨hstop H' sm,fin D H' hD sm ?_⟩
  rw[hl,bV (by lia)]
theorem y0.seqT {K:W.Frag}{H H':Hp}{a:Addr}{xs:List V}(e:y0 H H')(h:SqT K H a xs):SqT K H' a xs:=by
 rcases h with (h|⟨o,h⟩)|h
 ·exact .inl (.inl (e _ _ h))
 ·exact .inl (.inr ⟨o,e _ _ h⟩)
 ·exact .inr h
theorem zd2 {K:PySem.W.Frag}{a:Addr}{xs:List V}{fr:List Nat}{te:CT TE}{σ:St}{H1:Hp}{Q:Addr->Hp->Prop}(hS:SqT K H1 a xs)(ys:List V)(hn:ys.length=xs.length)(hz:xs.length<=fQ)
  (turn:∀(i:Nat) H x,xs[i]?=some x->y0 H1 H->∀C₀ s₀ H₀ fp,te C₀ s₀ H₀ fp (some x::fr.map λj=>(σ[j]?).getD none) H λy H4=>y0 H H4/\ys[i]?=some y)
  (fin:∀D H,H1 D=none->y0 H1 H->H D=some (.lst ys)->Q D H) :
  ∀D,H1 D=none->∃W:Nat->Nat->St->Hp->Prop,(∃m,W 0 m (N5 1 fr σ) (upd H1 D (.lst [])))/\∀i m σ' H',W i m σ' H' ->
  ((Itt K a).stop i H'/\Q D H')∨((Itt K a).go i H'/\∀x H2,(Itt K a).yld i H' x H2->∀C₀ s₀ H₀ fp,U4 0 x σ' H2 λσ3 H3=>∃N:VK,te C₀ s₀ H₀ fp σ3 H3 N/\∀y H4,N y H4 ->
   ∃ys m',H4 D=some (.lst ys)/\ys.length<fQ/\m'<m/\W (i+1) m' σ3 (upd H4 D (.lst (ys++[y])))) :=
 zg2 ys hn hz (λH s=>⟨xs,s.seqT hS,ag _⟩) (λi H hi s=>⟨xs,xs[i],s.seqT hS,by simp[hi]⟩) (λi H x H2 hi s y=>⟨y.1,turn i H x (y.2 xs (s.seqT hS)) s⟩) fin
theorem A5 {K:PySem.W.Frag}{a:Addr}{xs:List V}{fr:List Nat}{te:CT TE}{σ:St}{H1:Hp}{Q:Addr->Hp->Prop}(hS:SqL K H1 a xs)(ys:List V)(hn:ys.length=xs.length)(hz:xs.length<=fQ)
  (turn:∀(i:Nat) H x,xs[i]?=some x->y0 H1 H->∀C₀ s₀ H₀ fp,te C₀ s₀ H₀ fp (some x::fr.map λj=>(σ[j]?).getD none) H λy H4=>y0 H H4/\ys[i]?=some y)
  (fin:∀D H,H1 D=none->y0 H1 H->H D=some (.lst ys)->Q D H) :
  ∀D,H1 D=none->∃W:Nat->Nat->St->Hp->Prop,(∃m,W 0 m (N5 1 fr σ) (upd H1 D (.lst [])))/\∀i m σ' H',W i m σ' H' ->
  ((Itl K a).stop i H'/\Q D H')∨((Itl K a).go i H'/\∀x H2,(Itl K a).yld i H' x H2->∀C₀ s₀ H₀ fp,U4 0 x σ' H2 λσ3 H3=>∃N:VK,te C₀ s₀ H₀ fp σ3 H3 N/\∀y H4,N y H4 ->
   ∃ys m',H4 D=some (.lst ys)/\ys.length<fQ/\m'<m/\W (i+1) m' σ3 (upd H4 D (.lst (ys++[y])))) :=
 zg2 ys hn hz (λH s=>⟨xs,s.seq hS,ag _⟩) (λi H hi s=>⟨xs,xs[i],s.seq hS,by simp[hi]⟩) (λi H x H2 hi s y=>⟨y.1,turn i H x (y.2 xs (s.seq hS)) s⟩) fin
end
end L2
namespace PySem
open Sem (wp)
open AutoSeq1 (wpAny_loadPart')
section
variable {prog:fR}{w:fW}{A:fX}{E:Value->fO->Prop}{s:fO}
theorem K9 {it t:Addr}{i:Nat}{items}{x:Value}{Q:Value->fO->Prop}(hit:s.heap.IsTupleIter it t i)(ht:s.heap.IsTuple t items)(hx:items[i]?=some x)
  (hQ:∀h',h'.IsTupleIter it t (i+1)->Heap.SameBut it s.heap h'->Q x { s with heap:=h' }):fS (fV prog w) A (Builtin.SmallTypes.nextOf (.ref it)) Q E s:=by
 obtain⟨o,ho,hc,hd⟩:=id hit
 obtain⟨ol,hol,_,nl,hdl⟩:=ht
 unfold Builtin.SmallTypes.nextOf
 refine fN (wpAny_callSpecial?_slot (name:=Str.ofString "__next__") hit.typeIs F.slot_tuple_iterator_next
  (wpAny_call_entry F.slot_tuple_iterator_next hit.typeIs F.entry_tuple_iterator_next ?_ (F.args_tuple_iterator_next_1 _)))
 show fS _ _ (field (.ref it) 0 >>= _) _ _ s
 refine fN (wpAny_field ho hd (x:=.ref t) rfl ?_)
 show fS _ _ (if (Value.ref t==Value.none)=true then _ else _) _ _ s
 rw[if_neg (show ¬((Value.ref t==Value.none)=true) from aE)]
 show fS _ _ (field (.ref it) 1 >>= _) _ _ s
 refine fN (wpAny_field ho hd (x:=.int i 0) rfl ?_)
 show fS _ _ (seqItems? (.ref t) >>= _) _ _ s
 refine fN (wpAny_seqItems hol hdl ?_)
 simp only[bY,hx]
 refine fN (wpAny_setField ho hd (by simp) (fP ⟨x,rfl,fP (hQ _ ?_ (Heap.SameBut.update ..))⟩))
 exact⟨_,Heap.get?_update_self _ ho (Obj.isFreed_of_fields (Obj.data_mapFields hd _)),(Obj.cls_mapFields ..).trans hc,by
  rw[Obj.data_mapFields hd];simp[rawInt]⟩
theorem T5 {it t:Addr}{i:Nat}{items}{Q:Value->fO->Prop}(hh:A.handled=none)
  (hit:s.heap.IsTupleIter it t i) (ht:s.heap.IsTuple t items) (hx:items[i]?=none)
  (hE:∀h' e,Heap.ExtBut it s.heap h'->(∃o,h'.get? e=some o/\o.cls=.type "StopIteration")->E (.ref e) { s with heap:=h' }) :
  fS (fV prog w) A (Builtin.SmallTypes.nextOf (.ref it)) Q E s:=by
 obtain⟨o,ho,hc,hd⟩:=id hit
 obtain⟨ol,hol,_,nl,hdl⟩:=ht
 unfold Builtin.SmallTypes.nextOf
 refine fN (wpAny_callSpecial?_slot (name:=Str.ofString "__next__") hit.typeIs F.slot_tuple_iterator_next
  (wpAny_call_entry F.slot_tuple_iterator_next hit.typeIs F.entry_tuple_iterator_next ?_ (F.args_tuple_iterator_next_1 _)))
 show fS _ _ (field (.ref it) 0 >>= _) _ _ s
 refine fN (wpAny_field ho hd (x:=.ref t) rfl ?_)
 show fS _ _ (if (Value.ref t==Value.none)=true then _ else _) _ _ s
 rw[if_neg (show ¬((Value.ref t==Value.none)=true) from aE)]
 show fS _ _ (field (.ref it) 1 >>= _) _ _ s
 refine fN (wpAny_field ho hd (x:=.int i 0) rfl ?_)
 show fS _ _ (seqItems? (.ref t) >>= _) _ _ s
 refine fN (wpAny_seqItems hol hdl ?_)
 simp only[bY,hx]
 refine fN (wpAny_rule (fN (wpAny_setField ho hd (by simp) ?_)))
 show fS _ _ (newExc (.type "StopIteration") [] >>= _) _ _ _
 refine fN ?_
 simp only[newExc,newTuple]
 refine fN (wpAny_newObj_type ?_ (by size_fits))
 refine fN (m:=firstArgMember _ _) (wpAny_of_eq (a:=Value.none) (by first|rfl|(simp only[firstArgMember];rfl)) ?_)
 refine wpAny_newObj_type ?_ (by size_fits)
 simp only[raiseNew]
 refine fN (wpAny_handled ?_)
 first|rw[show A.in1.handled=none from hh]|rw[hh]
 refine fN (fP (wpAny_throw ?_))
 exact hE _ _ (((Heap.SameBut.update ..).extBut.push _).push _) ⟨_,aB _ rfl,rfl⟩
end
theorem Draws.tuple {prog:fR}{w:fW}{A:fX}(hh:A.handled=none)(it l:Addr)(hne:l≠it)(items:Array Value) :
  Draws prog w A it [it,l] items.size (λi v=>items[i]?=some v) (λi h=>h.IsTupleIter it l i/\h.IsTuple l items) where
 live:=λ_ _ st=>let ⟨o,ho,_⟩:=st.1;⟨o,ho⟩
 frame:=λ_ _ _ st hk=>⟨st.1.at λo e=>hk it (by simp) o e,let ⟨o,ho,r⟩:=st.2;⟨o,hk l (by simp) o ho,r⟩⟩
 item:=λi s Q E hi st hQ=>by
  refine K9 st.1 st.2 (x:=items[i]) (by simp[hi]) λh' hit' hs'=>?_
  exact hQ _ h' s.toks (by simp[hi]) ⟨hit',st.2.extBut hs'.extBut hne⟩ hs'
 done:=λs Q E st hE=>T5 hh st.1 st.2 (by simp) hE
theorem C4 (l:Addr)(items:Array Value)(n:Nat)(dct:Option Addr)(sl:Array (Option Value)) :
  Meets (Builtin.«enumerate.__new__» ⟨[.type "enumerate",.ref l],[]⟩) (λ_ R s=>s.heap.get? l=some { cls:=.type "tuple",dict:=dct,data:=.seq items n,slots:=sl } /\
   R (.ok (.ret (.ref (s.heap.push { cls:=.type "tuple_iterator",data:=.fields #[.ref l,.int 0 0] }).objs.size)))
    {s with heap:=(s.heap.push { cls:=.type "tuple_iterator",data:=.fields #[.ref l,.int 0 0] }).push { cls:=.type "enumerate",data:=.fields #[.none,.bool false,.ref s.heap.objs.size,rawInt 0,.none,.none] } }) :=
 .of_wp λprog w A R s h=>by
  obtain⟨hp,g,d,tk,os⟩:=s;obtain⟨hl,h⟩:=h
  have hsub:=sub_enumerate
  have hL:Heap.IsTuple (Shared.heap ⟨hp,g,d,tk,os⟩) l items:=⟨_,hl,rfl,n,rfl⟩
  wp_walk using wpAny_loadPart' hl
  refine wpAny_stack_any λst=>fP ?_
  split
  ·rename_i c _ _ _ _ _
   cases (c==Value.type "enumerate")
   ·wp_walk using wpAny_loadPart' hl,wpAny_pyIter_tuple hL
    exact⟨_,rfl,h⟩
   ·wp_walk using wpAny_loadPart' hl,wpAny_pyIter_tuple hL
    exact⟨_,rfl,h⟩
  ·wp_walk using wpAny_loadPart' hl,wpAny_pyIter_tuple hL
   exact⟨_,rfl,h⟩
section
variable {prog:fR}{w:fW}{A:fX}{E:Value->fO->Prop}{s:fO}
theorem D7 {l:Addr}{items:Array Value}{Q:Value->fO->Prop}(hL:s.heap.IsTuple l items)
  (h:∀h',IsEnum h' (s.heap.objs.size+1) s.heap.objs.size 0 .none->h'.IsTupleIter s.heap.objs.size l 0->h'.objs.size=s.heap.objs.size+2 ->
   (∀b o,s.heap.get? b=some o->h'.get? b=some o)->Q (.ref (s.heap.objs.size+1)) { s with heap:=h' }) :
  fS (fV prog w) A (call (.type "enumerate") [.ref l]) Q E s:=by
 obtain⟨⟨c,dct,dt,sl⟩,hl,hc,n,hd⟩:=hL
 replace hc:c=.type "tuple":=hc
 replace hd:dt=.seq items n:=hd
 subst hc hd
 refine callType_new F.called_enumerate (by decide) (F.typeCall_enumerate_1 _) (F.newCall_enumerate_1 _) (λobj=>F.args_object_init_2 obj _) F.entry_enumerate_new
  (C4 l items n dct sl) ⟨hl,?_⟩
 have hz:(s.heap.push { cls:=.type "tuple_iterator",data:=.fields #[.ref l,.int 0 0] }).objs.size=s.heap.objs.size+1:=cN ..
 show _/\_
 rw[hz]
 have he:IsEnum ((s.heap.push { cls:=.type "tuple_iterator",data:=.fields #[.ref l,.int 0 0] }).push
   {cls:=.type "enumerate",data:=.fields #[.none,.bool false,.ref s.heap.objs.size,rawInt 0,.none,.none] }) (s.heap.objs.size+1) s.heap.objs.size 0 .none:=by
  have:=aB (s.heap.push { cls:=.type "tuple_iterator",data:=.fields #[.ref l,.int 0 0] })
   (o:={ cls:=.type "enumerate",data:=.fields #[.none,.bool false,.ref s.heap.objs.size,rawInt 0,.none,.none] }) rfl
  rw[hz]at this;exact this
 refine⟨⟨_,he,rfl⟩,h _ he ⟨_,ar _ (aB _ rfl),rfl,rfl⟩ (by rw[cN,hz]) λb o x=>ar _ (ar _ x)⟩
end
end PySem
namespace L2
open PySem PySem.Spec PyProof.Rows
section
variable {X:Cx}
theorem Inv.pair {pins:List (Addr×Obj)}{σ:St}{H:Hp}{s:fO}{h':Heap}{t':Nat}{e it:Addr}{xs:List V}{its:List Value}(I:Inv X pins σ H s)(fe:zf7 X pins H e)(fi:zf7 X pins H it)
  (k:∀b o,b≠e->b≠it->s.heap.get? b=some o->h'.get? b=some o) (hT:zt7 h' s.heap.objs.size its.toArray) (hv:p8 xs its) (hz:xs.length<=fQ) :
  Inv X pins σ (upd H s.heap.objs.size (.tup xs)) { s with heap:=h',toks:=t' }:=by
 have fT:zf7 X pins H s.heap.objs.size:=I.fpOk (ag _) (I.hok.fresh (ag _))
 have nT:∀b o,H b=some o->b≠s.heap.objs.size:=λb o q z=>by rw[z,fT.1]at q;cases q
 have ne:∀b o,H b=some o->b≠e:=λb o q z=>by rw[z,fe.1]at q;cases q
 have ni:∀b o,H b=some o->b≠it:=λb o q z=>by rw[z,fi.1]at q;cases q
 have ok:∀b∈[e,it,s.heap.objs.size],zf7 X pins H b:=λb hb=>by
  simp only[aw,aV,or_false]at hb
  rcases hb with rfl|rfl|rfl
  ·exact fe
  ·exact fi
  ·exact fT
 have out:∀b,b∉[e,it,s.heap.objs.size]->b≠e/\b≠it/\b≠s.heap.objs.size:=λb hb=>by
  simp only[aw,aV,or_false,not_or]at hb
  exact hb
 refine I.step (g':=s.gens) (d':=s.drawn) (ch:=[e,it,s.heap.objs.size]) (λb hb=>⟨(ok b hb).2.2.2.1,(ok b hb).2.1,(ok b hb).2.2.2.2.1,(ok b hb).2.2.2.2.2⟩)
  (λb o _ _ hc q _=>k b o (out b hc).1 (out b hc).2.1 q) (λb o _ _ hc q _=>⟨o.slots,k b o (out b hc).1 (out b hc).2.1 q⟩) (λb o hc q n=>by rw[z5 (out b hc).2.2];exact n)
  (λb o hc q=>⟨o,k b o (out b hc).1 (out b hc).2.1 q⟩) (λb ys q=>by rw[z5 (nT b _ q)];exact q) (λb o u q=>by rw[z5 (nT b _ q)];exact q) (λb ps q=>⟨#[],by rw[z5 (nT b _ q),q];simp⟩)
  (λm hm=>?_) (λb u q=>?_) I.bare
 ·obtain⟨o,es,ep,ho,r⟩:=hm
  exact⟨o,es,ep,k _ o (Ne.symm fe.2.1) (Ne.symm fi.2.1) ho,r⟩
 ·by_cases hb:b=s.heap.objs.size
  ·subst hb
   rw[z3]at q
   cases q
   exact⟨hz,its,hv,hT⟩
  ·rw[z5 hb]at q
   refine(I.hok b u q).stay (λc v hc z=>k c v ?_ ?_ z) (λc z=>by rw[z5 (nT c _ z)];exact z) λc ys z=>by rw[z5 (nT c _ z)];exact z
   ·rcases hc with z|z
    ·rw[z];exact ne b u q
    ·exact ne c _ z
   ·rcases hc with z|z
    ·rw[z];exact ni b u q
    ·exact ni c _ z
def Ite (Sq:Hp->List V->Prop):It :=
 ⟨λi H=>∃xs x,Sq H xs/\xs[i]?=some x,λi H x H'=>∃T v,H T=none/\x=.ref T/\H'=upd H T (.tup [.int (i:Nat),v])/\∀xs,Sq H xs->xs[i]?=some v,λi H=>∃xs,Sq H xs/\xs.length<=i⟩
theorem yp5 {P:fR}{w:fW}{K:W.Frag}{elts:List Expr}{x1:Nat}{tp:Pos}(a e it:Addr)(hei:e≠it):ye7 P w K (.Tuple elts x1 tp) (Ite λH xs=>SqT K H a xs) [e,it] e (λi h=>(∃old,IsEnum h e it i old)/\h.IsTupleIter it a i) where
 mem:=by simp
 obj:=λi h st b hb=>by
  obtain⟨⟨old,he⟩,o,ho,c,d⟩:=st
  rcases aw.mp hb with z|z
  ·subst z
   exact⟨_,he,λv q=>by have q':Data.fields _=Data.cell v:=q;cases q'⟩
  ·have z':b=it:=by simpa using z
   subst z'
   exact⟨o,ho,λv q=>by rw[d]at q;cases q⟩
 keep:=λi h h' st k=>⟨let ⟨old,he⟩:=st.1;⟨old,k e (by simp) _ he⟩,st.2.at λo q=>k it (by simp) o q⟩
 item:=by
  intro X hP hw hK hc i pins s σ H E I hf st hg
  subst hP hw hK
  obtain⟨xs,x,hq,hx⟩:=hg
  obtain⟨its,rv,p,hz⟩:=I.tuple hq
  obtain⟨u,hu,ru⟩:=rv.get hx
  obtain⟨⟨old,he⟩,hit⟩:=st
  have fe:=hf e (by simp)
  have fi:=hf it (by simp)
  have hlt:i<its.toArray.size:=by
   have:=(al.mp hu).1
   simpa using this
  obtain⟨oa,hoa,hca,na,hda⟩:=id p
  have hai:a≠it:=λz=>by
   obtain⟨o,ho,c,d⟩:=id hit
   rw[z,ho]at hoa
   cases hoa
   rw[c]at hca
   exact absurd hca (by decide)
  have hae:e∉[it,a]:=by
   intro z
   simp only[aw,aV,or_false]at z
   rcases z with z|z
   ·exact hei z
   ·rw[←z,he]at hoa
    cases hoa
    exact absurd (show Value.type "enumerate"=Value.type "tuple" from hca) (by decide)
  refine wpAny_pyNext_enum_itemD (Draws.tuple (A:=X.A.in1) (I.ok.hd hc) it a hai its.toArray) he ⟨hit,p⟩ hlt hei hae λy h' tk hP ho hst hT hsz kk=>?_
  obtain rfl:y=u:=by
   have:its.toArray[i]?=some u:=by simpa using hu
   rw[this]at hP
   exact(Option.some.inj hP).symm
  have I1:Inv X pins σ (upd H s.heap.objs.size (.tup [.int (i:Nat),x])) { s with heap:=h',toks:=tk+1 }:=I.pair (its:=[.int i tk,y]) fe fi kk ⟨_,hT,rfl,_,rfl,rfl⟩ (.cons ⟨tk,rfl⟩ (.cons ru .nil)) (by show 2<=fQ;decide)
  have neT:∀b∈[e,it],b≠s.heap.objs.size:=λb hb z=>by
   rcases aw.mp hb with q|q
   ·rw[←q,z]at he
    exact absurd (az he) (aY _)
   ·have q':b=it:=by simpa using q
    obtain⟨o,hi2,_⟩:=hit
    rw[←q',z]at hi2
    exact absurd (az hi2) (aY _)
  have fr:∀b∈[e,it],(upd H s.heap.objs.size (.tup [.int (i:Nat),x])) b=none:=λb hb=>by rw[z5 (neT b hb)];exact(hf b hb).1
  refine⟨_,rfl,wpAny_letOwnedTupleGo_enum (s:={ s with heap:=h',toks:=tk+1 }) ho λh'' he'' hs''=>?_⟩
  have I2:Inv X pins σ (upd H s.heap.objs.size (.tup [.int (i:Nat),x])) { s with heap:=h'',toks:=tk+1 }:=I1.turned (t':=tk+1) (λb o hb q=>(hs''.2 b hb).trans q) (fr e (by simp)) fe.2.1 fe.2.2.2.1 fe.2.2.2.2.1 fe.2.2.2.2.2
  refine⟨.ref s.heap.objs.size,_,I2,rfl,⟨s.heap.objs.size,x,I.hok.fresh (ag _),rfl,rfl,λys hy=>by rw[I.tuple_inj hy hq];exact hx⟩,⟨⟨y,by simpa using he''⟩,hst.1.at λo q=>(hs''.2 it (Ne.symm hei)).trans q⟩,fr⟩
 done:=by
  intro X hP hw hK hc i pins s σ H E I hf st hg
  subst hP hw hK
  obtain⟨xs,hq,hx⟩:=hg
  obtain⟨its,rv,p,hz⟩:=I.tuple hq
  obtain⟨⟨old,he⟩,hit⟩:=st
  have fi:=hf it (by simp)
  have hT:s.TypeIs (.ref e) "enumerate":=⟨_,he,rfl⟩
  unfold pyNext
  refine fN (wpAny_attempt (wpAny_callSpecial?_slot (name:=Str.ofString "__next__") hT F.slot_enumerate_next
   (wpAny_call_entry F.slot_enumerate_next hT F.entry_enumerate_next ?_ (F.args_enumerate_next_1 _))))
  show fS _ _ (field (.ref e) 2 >>= _) _ _ _
  refine fN (wpAny_field he rfl (x:=.ref it) rfl ?_)
  have hl:=rv.length
  refine fN (T5 (A:=_) (I.ok.hd hc) hit p (by simp;lia) λh' x he' hx'=>?_)
  obtain⟨o,ho,hcl⟩:=hx'
  refine fN (wpAny_isInstance (T:="StopIteration") (b:=true) ⟨o,ho,hcl⟩ isSubtype_stop ?_)
  exact fP ⟨rfl,I.turned (t':=s.toks) (λb o hb q=>he' b o hb q) fi.1 fi.2.1 fi.2.2.2.1 fi.2.2.2.2.1 fi.2.2.2.2.2⟩
 self:=λ_ _ _ _ _ st h=>let ⟨_,he⟩:=st.1;wpAny_pyIter_enum he h
theorem yp4 {P:fR}{w:fW}{K:W.Frag}{elts:List Expr}{x1:Nat}{tp:Pos}(a e it:Addr)(hei:e≠it):ye7 P w K (.Tuple elts x1 tp) (Ite λH xs=>SqL K H a xs) [e,it] e (λi h=>(∃old,IsEnum h e it i old)/\h.IsListIter it a i) where
 mem:=by simp
 obj:=λi h st b hb=>by
  obtain⟨⟨old,he⟩,o,ho,c,d⟩:=st
  rcases aw.mp hb with z|z
  ·subst z
   exact⟨_,he,λv q=>by have q':Data.fields _=Data.cell v:=q;cases q'⟩
  ·have z':b=it:=by simpa using z
   subst z'
   exact⟨o,ho,λv q=>by rw[d]at q;cases q⟩
 keep:=λi h h' st k=>⟨let ⟨old,he⟩:=st.1;⟨old,k e (by simp) _ he⟩,st.2.at λo q=>k it (by simp) o q⟩
 item:=by
  intro X hP hw hK hc i pins s σ H E I hf st hg
  subst hP hw hK
  obtain⟨xs,x,hq,hx⟩:=hg
  obtain⟨its,rv,p,hz⟩:=I.list hq
  obtain⟨u,hu,ru⟩:=rv.get hx
  obtain⟨⟨old,he⟩,hit⟩:=st
  have fe:=hf e (by simp)
  have fi:=hf it (by simp)
  have hlt:i<its.toArray.size:=by
   have:=(al.mp hu).1
   simpa using this
  obtain⟨oa,hoa,hca,na,hda⟩:=id p.isList
  have hai:a≠it:=λz=>by
   obtain⟨o,ho,c,d⟩:=id hit
   rw[z,ho]at hoa
   cases hoa
   rw[c]at hca
   exact absurd hca (by decide)
  have hae:e∉[it,a]:=by
   intro z
   simp only[aw,aV,or_false]at z
   rcases z with z|z
   ·exact hei z
   ·rw[←z,he]at hoa
    cases hoa
    exact absurd (show Value.type "enumerate"=Value.type "list" from hca) (by decide)
  refine wpAny_pyNext_enum_itemD (Draws.list (A:=X.A.in1) (I.ok.hd hc) it a hai its.toArray) he ⟨hit,p.isList⟩ hlt hei hae λy h' tk hP ho hst hT hsz kk=>?_
  obtain rfl:y=u:=by
   have:its.toArray[i]?=some u:=by simpa using hu
   rw[this]at hP
   exact(Option.some.inj hP).symm
  have I1:Inv X pins σ (upd H s.heap.objs.size (.tup [.int (i:Nat),x])) { s with heap:=h',toks:=tk+1 }:=I.pair (its:=[.int i tk,y]) fe fi kk ⟨_,hT,rfl,_,rfl,rfl⟩ (.cons ⟨tk,rfl⟩ (.cons ru .nil)) (by show 2<=fQ;decide)
  have neT:∀b∈[e,it],b≠s.heap.objs.size:=λb hb z=>by
   rcases aw.mp hb with q|q
   ·rw[←q,z]at he
    exact absurd (az he) (aY _)
   ·have q':b=it:=by simpa using q
    obtain⟨o,hi2,_⟩:=hit
    rw[←q',z]at hi2
    exact absurd (az hi2) (aY _)
  have fr:∀b∈[e,it],(upd H s.heap.objs.size (.tup [.int (i:Nat),x])) b=none:=λb hb=>by rw[z5 (neT b hb)];exact(hf b hb).1
  refine⟨_,rfl,wpAny_letOwnedTupleGo_enum (s:={ s with heap:=h',toks:=tk+1 }) ho λh'' he'' hs''=>?_⟩
  have I2:Inv X pins σ (upd H s.heap.objs.size (.tup [.int (i:Nat),x])) { s with heap:=h'',toks:=tk+1 }:=I1.turned (t':=tk+1) (λb o hb q=>(hs''.2 b hb).trans q) (fr e (by simp)) fe.2.1 fe.2.2.2.1 fe.2.2.2.2.1 fe.2.2.2.2.2
  refine⟨.ref s.heap.objs.size,_,I2,rfl,⟨s.heap.objs.size,x,I.hok.fresh (ag _),rfl,rfl,λys hy=>by rw[I.list_inj hy hq];exact hx⟩,⟨⟨y,by simpa using he''⟩,hst.1.at λo q=>(hs''.2 it (Ne.symm hei)).trans q⟩,fr⟩
 done:=by
  intro X hP hw hK hc i pins s σ H E I hf st hg
  subst hP hw hK
  obtain⟨xs,hq,hx⟩:=hg
  obtain⟨its,rv,p,hz⟩:=I.list hq
  obtain⟨⟨old,he⟩,hit⟩:=st
  have fi:=hf it (by simp)
  have hT:s.TypeIs (.ref e) "enumerate":=⟨_,he,rfl⟩
  unfold pyNext
  refine fN (wpAny_attempt (wpAny_callSpecial?_slot (name:=Str.ofString "__next__") hT F.slot_enumerate_next
   (wpAny_call_entry F.slot_enumerate_next hT F.entry_enumerate_next ?_ (F.args_enumerate_next_1 _))))
  show fS _ _ (field (.ref e) 2 >>= _) _ _ _
  refine fN (wpAny_field he rfl (x:=.ref it) rfl ?_)
  have hl:=rv.length
  refine fN (wpAny_nextOf_list_end (A:=_) (I.ok.hd hc) hit p.isList (by simp;lia) λh' x he' hx'=>?_)
  obtain⟨o,ho,hcl⟩:=hx'
  refine fN (wpAny_isInstance (T:="StopIteration") (b:=true) ⟨o,ho,hcl⟩ isSubtype_stop ?_)
  exact fP ⟨rfl,I.turned (t':=s.toks) (λb o hb q=>he' b o hb q) fi.1 fi.2.1 fi.2.2.2.1 fi.2.2.2.2.1 fi.2.2.2.2.2⟩
 self:=λ_ _ _ _ _ st h=>let ⟨_,he⟩:=st.1;wpAny_pyIter_enum he h
def xo5 (K:W.Frag)(ta:TA):TI:=λσ H R=>ta σ H λvs H1=>∃a,vs=[.ref a]/\(∃xs,SqT K H1 a xs)/\R (Ite λH xs=>SqT K H a xs) H1
def xo4 (K:W.Frag)(ta:TA):TI:=λσ H R=>ta σ H λvs H1=>∃a,vs=[.ref a]/\(∃xs,SqL K H1 a xs)/\R (Ite λH xs=>SqL K H a xs) H1
theorem yj2 {elts:List Expr}{x1:Nat}{tp:Pos}{a:Expr}{ta:TA}{p pos:Pos}(hg:Gl X "enumerate")(hm:X.mg "enumerate"=none)(ha:PA X [a] ta)(hs:fU [a] X.env=[(false,eval a X.env)]:=by rfl):PI X (.Tuple elts x1 tp) (.Call (.Name "enumerate" p) [a] [] pos) (xo5 X.K ta):=by
 intro pins s σ H R I h
 refine Call_ (zg4 I hg hm boot_enumerate (PyProof.Rows.callWith_type1 (thn (ha pos pins s σ H _ I h) λus s1 ⟨vs,H1,I1,r1,q1⟩=>?_) hs rfl))
 obtain⟨b,e,⟨xs,hq⟩,q⟩:=q1
 subst e
 cases r1 with
 | cons r rr =>
  cases rr
  cases r
  obtain⟨its,rv,pl,hz⟩:=I1.tuple hq
  refine D7 pl λh' he hit hsz kk=>?_
  have I2:Inv X pins σ H1 { s1 with heap:=h' }:=I1.kept (t':=s1.toks) kk
  refine wpAny_pyIter_enum he ⟨s1.heap.objs.size+1,[s1.heap.objs.size+1,s1.heap.objs.size],_,_,H1,rfl,I2,yp5 b _ _ (dq (bK _)),⟨⟨.none,by simpa using he⟩,hit⟩,λc hc=>?_,q⟩
  have hle:s1.heap.objs.size<=c:=by
   simp only[aw,aV,or_false]at hc
   rcases hc with rfl|rfl
   ·exact cF _
   ·exact ag _
  exact I1.fpOk hle (I1.hok.fresh hle)
theorem yj1 {elts:List Expr}{x1:Nat}{tp:Pos}{a:Expr}{ta:TA}{p pos:Pos}(hg:Gl X "enumerate")(hm:X.mg "enumerate"=none)(ha:PA X [a] ta)(hs:fU [a] X.env=[(false,eval a X.env)]:=by rfl):PI X (.Tuple elts x1 tp) (.Call (.Name "enumerate" p) [a] [] pos) (xo4 X.K ta):=by
 intro pins s σ H R I h
 refine Call_ (zg4 I hg hm boot_enumerate (PyProof.Rows.callWith_type1 (thn (ha pos pins s σ H _ I h) λus s1 ⟨vs,H1,I1,r1,q1⟩=>?_) hs rfl))
 obtain⟨b,e,⟨xs,hq⟩,q⟩:=q1
 subst e
 cases r1 with
 | cons r rr =>
  cases rr
  cases r
  obtain⟨its,rv,pl,hz⟩:=I1.list hq
  refine call_enumerate_list pl.isList λh' he hit hsz kk=>?_
  have I2:Inv X pins σ H1 { s1 with heap:=h' }:=I1.kept (t':=s1.toks) kk
  refine wpAny_pyIter_enum he ⟨s1.heap.objs.size+1,[s1.heap.objs.size+1,s1.heap.objs.size],_,_,H1,rfl,I2,yp4 b _ _ (dq (bK _)),⟨⟨.none,by simpa using he⟩,hit⟩,λc hc=>?_,q⟩
  have hle:s1.heap.objs.size<=c:=by
   simp only[aw,aV,or_false]at hc
   rcases hc with rfl|rfl
   ·exact cF _
   ·exact ag _
  exact I1.fpOk hle (I1.hok.fresh hle)
theorem zd5 {Sq:Hp->List V->Prop}{xs:List V}{g:TG}{tb:TS}{D:za9}{σ:St}{H:Hp}(Pv:Nat->St->Hp->Prop)(h0:Pv 0 σ H)(hl:∀i σ H,i<=xs.length->Pv i σ H->Sq H xs)
  (hs:∀i x σ H T,xs[i]?=some x->Pv i σ H->H T=none->g (.ref T) σ (upd H T (.tup [.int (i:Nat),x])) λσ2 H2=>tb { D with nx:=Pv (i+1),ct:=Pv (i+1),bk:=D.nx } σ2 H2) (hd:∀σ H,Pv xs.length σ H->D.nx σ H) :
  ∃W:Nat->Nat->St->Hp->Prop,(∃m,W 0 m σ H)/\∀i m σ H,W i m σ H ->
   ((Ite Sq).stop i H/\D.nx σ H)∨((Ite Sq).go i H/\∃N:St->Hp->Prop,(∀σ' H',N σ' H'->∃m',m'<m/\W (i+1) m' σ' H')/\∀x H',(Ite Sq).yld i H x H'->g x σ H' λσ2 H2=>tb { D with nx:=N,ct:=N,bk:=D.nx } σ2 H2):=by
 refine⟨λi m σ H=>m=xs.length-i/\i<=xs.length/\Pv i σ H,⟨xs.length,by simp,aP _,h0⟩,?_⟩
 rintro i m σ H ⟨rfl,hi,p⟩
 have q:=hl i σ H hi p
 by_cases hlt:i<xs.length
 ·refine .inr ⟨⟨xs,xs[i],q,by simp[hlt]⟩,Pv (i+1),λσ' H' p'=>⟨xs.length-(i+1),by lia,rfl,hlt,p'⟩,λx H' y=>?_⟩
  obtain⟨T,v,hT,rfl,rfl,hv⟩:=y
  exact hs i v σ H T (hv xs q) p hT
 ·have e:i=xs.length:=by lia
  subst e
  exact .inl ⟨⟨xs,q,ag _⟩,hd σ H p⟩
end
section
variable {X:Cx}
end
section
variable {X:Cx}
end
section
variable {X:Cx}
end
section
variable {X:Cx}
end
end L2
namespace L2
open PySem PySem.Spec PyProof.Rows PyProof.Rows.LSm
mutual
inductive RdD (K:W.Frag) (H:Hp):V->PyData->Prop
 | non:RdD K H .non .none
 | bl (b:Bool):RdD K H (.bl b) (.bool b)
 | int (i:Int):RdD K H (.int i) (.int i)
 | str (x:Str):RdD K H (.str x) (.str x)
 | lst {a:Addr} {xs:List V} {ds:List PyData}:SqL K H a xs->D5 K H xs ds->RdD K H (.ref a) (.list ds)
 | tup {a:Addr} {xs:List V} {ds:List PyData}:SqT K H a xs->D5 K H xs ds->RdD K H (.ref a) (.tuple ds)
inductive D5 (K:W.Frag) (H:Hp):List V->List PyData->Prop
 | nil:D5 K H [] []
 | cons {x:V} {d:PyData} {xs:List V} {ds:List PyData}:RdD K H x d->D5 K H xs ds->D5 K H (x::xs) (d::ds)
end
theorem D5.ints {K:W.Frag}{H:Hp}:∀(ns:List Int),D5 K H (ns.map V.int) (ns.map PyData.int)
 | []=>.nil
 | n::r=>.cons (.int n) (D5.ints r)
section
variable {X:Cx}{pins:List (Addr×Obj)}{σ:St}{H:Hp}{s:fO}
mutual
theorem RdD.reads (I:Inv X pins σ H s):∀{x:V} {d:PyData},RdD X.K H x d->∀u,o0 x u->∃as,Reads s.heap u d as
 | _,_,.non,u,r=>by cases (show u=Value.none from r);exact⟨_,.none⟩
 | _,_,.bl b,u,r=>by cases (show u=Value.bool b from r);exact⟨_,.bool b⟩
 | _,_,.int i,u,r=>by obtain⟨t,rfl⟩:=(show ∃t,u=Value.int i t from r);exact⟨_,.int i t⟩
 | _,_,.str x,u,r=>by obtain⟨t,rfl⟩:=(show ∃t,u=Value.str x t from r);exact⟨_,.str x t⟩
 | _,_,.lst h hs,u,r=>by
  cases (show u=Value.ref _ from r)
  obtain⟨its,rv,p,_⟩:=I.list h
  obtain⟨o,ho,hc,n,hd⟩:=p.isList
  obtain⟨as,ha⟩:=D5.reads I hs its rv
  exact⟨_,.list ho hc hd (by simpa using ha)⟩
 | _,_,.tup h hs,u,r=>by
  cases (show u=Value.ref _ from r)
  obtain⟨its,rv,p,_⟩:=I.tuple h
  obtain⟨o,ho,hc,n,hd⟩:=p
  obtain⟨as,ha⟩:=D5.reads I hs its rv
  exact⟨_,.tuple ho hc hd (by simpa using ha)⟩
theorem D5.reads (I:Inv X pins σ H s):∀{xs:List V} {ds:List PyData},D5 X.K H xs ds->∀us,p8 xs us->∃as,ReadsAll s.heap us ds as
 | _,_,.nil,us,r=>by cases r;exact⟨_,.nil⟩
 | _,_,.cons h hs,us,r=>by
  cases r with
  | cons r1 r2 =>
   obtain⟨as,ha⟩:=RdD.reads I h _ r1
   obtain⟨bs,hb⟩:=D5.reads I hs _ r2
   exact⟨_,.cons ha hb⟩
end
end
section
variable {X:Cx}
theorem yb3 (hu:X.A.units+64<cLine):OpR X (compareOp .Eq) (λx y H Q=>∃d e,RdD X.K H x d/\RdD X.K H y e/\PySem.SeqAt.shaped d=true/\PySem.SeqAt.shaped e=true/\Q (.bl (PyData.eqv d e)) H):=by
 intro pins s σ H x y v u Q I rx ry h
 obtain⟨d,e,hd,he,s1,s2,q⟩:=h
 obtain⟨as,ra⟩:=hd.reads I v rx
 obtain⟨bs,rb⟩:=he.reads I u ry
 exact eq_dataH ra rb s1 s2 hu ⟨.bl _,H,I,rfl,q⟩
theorem yb4 (hu:X.A.units+64<cLine):OpR X (compareOp .NotEq) (λx y H Q=>∃d e,RdD X.K H x d/\RdD X.K H y e/\PySem.SeqAt.shaped d=true/\PySem.SeqAt.shaped e=true/\Q (.bl (!PyData.eqv d e)) H):=by
 intro pins s σ H x y v u Q I rx ry h
 obtain⟨d,e,hd,he,s1,s2,q⟩:=h
 obtain⟨as,ra⟩:=hd.reads I v rx
 obtain⟨bs,rb⟩:=he.reads I u ry
 exact ne_dataH ra rb s1 s2 hu ⟨.bl _,H,I,rfl,q⟩
theorem zi2:∀{bs:List Bool} {us:List Value},p8 (bs.map V.bl) us->BoolsAre us bs
 | [],_,r=>by cases r;exact .nil
 | b::bs,_,r=>by
  cases r with
  | cons a c =>
   cases (show _=Value.bool b from a)
   exact .cons b (zi2 c)
theorem K1 (hc:X.calm=true):V8 X (.builtin "all") (λxs H Q=>∃(p:Addr) (bs:List Bool),xs=[.ref p]/\SqL X.K H p (bs.map V.bl)/\Q (.bl (bs.all id)) H):=by
 intro pins s σ H xs us Q I r h
 obtain⟨p,bs,rfl,hq,q⟩:=h
 obtain⟨u,rfl,rx⟩:=N9 r
 cases rx
 obtain⟨its,r1,p1,hz⟩:=I.list hq
 obtain⟨m,F⟩:=I.fr
 have hb:=zi2 r1
 have hl:=p1.isList
 have hlt:p<s.heap.objs.size:=by obtain⟨_,e,_⟩:=hl;exact az e
 refine call_all_walk (wpAny_pyIter_list hl ?_)
 refine⟨s.heap.objs.size,[s.heap.objs.size,p],[s.heap.objs.size],its.toArray.size,_,_,λi=>(bs[i]?).getD true,rfl,Walks.list (A:=X.A.in1) (I.ok.hd hc) _ p (aO hlt) its.toArray,
  ⟨⟨_,aB _ rfl,rfl,rfl⟩,hl.push _⟩,λi v s' Q' E' hP hQ=>?_,λh' tk hk=>?_⟩
 ·obtain⟨b,e,rfl⟩:=hb.get i v (by simpa using hP)
  simp only[e,cY]at hQ
  exact wpAny_truthy_bool hQ
 ·have e:((List.range its.toArray.size).all λi=>(bs[i]?).getD true)=bs.all id:=by
   rw[aA,hb.length];exact range_all bs
  rw[e]
  exact⟨.bl _,H,I.kept (kept_iter hk),rfl,q⟩
end
end L2
namespace L2
open PySem PySem.Spec PyProof.Rows
section
variable {X:Cx}
end
section
variable {X:Cx}{tg:Expr}
end
section
variable {X:Cx}
end
def CX1 (P:fR)(w:fW):CXT:=λouter H s E e s'=>∃(ea C:Addr) (a0:Value) (B:Heap) (H':Hp),e=.ref ea/\s'.os=s.os/\AllBare s'.gens/\HOk P w H' B/\Heap.FlyingW B outer ea (.ref C) a0 s'.heap /\
 (∀b o,s.heap.get? b=some o->H b=none->b∉frs outer->B.get? b=some o) /\
 (∀b o,s.heap.get? b=some o->H b=none->b∈frs outer->∃sl,s'.heap.get? b=some { o with slots:=sl }) /\
 (∀b o,s.heap.get? b=some o->H b=none->H' b=none) /\
 (∀b o,s.heap.get? b=some o->b∈frs outer∨∃o',B.get? b=some o') /\
 (∀b xs,H b=some (.tup xs)->H' b=some (.tup xs))/\(∀b o u,H b=some (.frz o u)->H' b=some (.frz o u)) /\
 (∀b ps,H b=some (.tbl ps)->∃more,H' b=some (.tbl (ps++more)))/\E (.ref C) none H'
theorem xc2 {P:fR}{w:fW}{H:Hp}{h:Heap}{fs:List Addr}(x:HOk P w H h)(hf:∀b∈fs,H b=none):HOk P w H (W.hideAll h fs):=λa o e =>
 (x a o e).stay (λb u hb q=>W.hideAll_get _ q λhm=>by
  have hn:=hf b hm
  rcases hb with rfl|hb
  ·rw[e]at hn;cases hn
  ·rw[hb]at hn;cases hn) (λ_ q=>q) λ_ _ q=>q
section
variable {P:fR}{w:fW}{K:W.Frag}{mg:Str->Option Value}{base:Heap}{N:List Str}{qual:Str}{scope:Scope}{f:Addr}{cd:Value}{A:fX}{outer:List Env}{s s1:fO}{H H1:Hp}{E:XK}{pins:List (Addr×Obj)}{σ:St}
theorem yn5 {C e:Addr}{h':Heap}{args:List Value}(I:Inv (Q7 (CX1 P w) P w K mg base N qual scope f cd A outer s H E) pins σ H1 s1)(hx:Heap.MadeExcOf s1.heap h' e (.ref C) args)(hE:E (.ref C) none H1) :
  (Q7 (CX1 P w) P w K mg base N qual scope f cd A outer s H E).xe (.ref e) { s1 with heap:=h' }:=by
 have hst:=I.stack
 have hfree:=I.stkFree
 refine wpAny_leaves_madeW (base:=W.hideAll s1.heap (frs (envOfC qual scope s.heap.objs.size f cd::outer))) (h:=s1.heap) I.ok.frames rfl (λb o q=>W.of_hideAll _ q) (W.funFrames_hide hst λenv he a ha=>bA.mpr ⟨env,he,ha⟩) hx λh'' t x1 x2 x3 x4=>?_
 have notL:∀b o,s.heap.get? b=some o->b∉frs outer->b∉frs (envOfC qual scope s.heap.objs.size f cd::outer):=λb o hb hn hm=>by
  obtain⟨env,he,ha⟩:=bA.mp hm
  rcases aw.mp he with rfl|he
  ·have e1:s.heap.objs.size=b:=Option.some.inj ha
   exact absurd (az hb) (by rw[e1];exact aY _)
  ·exact hn (bA.mpr ⟨env,he,ha⟩)
 refine⟨e,C,.ref t,_,H1,rfl,I.os,I.bare,xc2 I.hok hfree,x1,λb o hb hn hf=>?_,λb o hb hn hf=>?_,λb o hb hn=>?_,λb o hb=>?_,I.base.tups,I.base.frzs,I.base.tbls,hE⟩
 ·exact W.hideAll_get _ (I.base.keep b o hb hn hf (by intro z;cases z)) (notL b o hb hf)
 ·obtain⟨sl,q⟩:=I.base.slot b o hb hn hf (by intro z;cases z)
  obtain⟨_,o2,ho2,hd⟩:=I.funs.mem hf
  have e2:o2={ o with slots:=sl }:=Option.some.inj (ho2.symm.trans q)
  subst e2
  obtain⟨sl',q'⟩:=x4 b _ (hx.keeps _ _ q) hd
  exact⟨sl',q'⟩
 ·exact I.base.free b o hb hn (by intro z;cases z)
 ·by_cases hf:b∈frs outer
  ·exact .inl hf
  ·obtain⟨o',q⟩:=I.base.there b o hb (by intro z;cases z)
   exact .inr ⟨o',W.hideAll_get _ q (notL b o hb hf)⟩
theorem xc8 {e:Value}{s2:fO}{E1:XK}(I:Inv (Q7 (CX1 P w) P w K mg base N qual scope f cd A outer s H E) pins σ H1 s1)(hx:CX1 P w (Q7 (CX1 P w) P w K mg base N qual scope f cd A outer s H E).stack H1 s1 E1 e s2)(hE:∀C a H',E1 C a H'->E C a H') :
  (Q7 (CX1 P w) P w K mg base N qual scope f cd A outer s H E).xe e s2:=by
 obtain⟨ea,C,a0,B,H',rfl,hos,hbare,hok,hfl,k1,k2,k3,k4,k5,k6,k7,hE1⟩:=hx
 refine wpAny_leaves_onW I.ok.frames rfl hfl λh'' x1 x2=>?_
 have inB:∀b o,s.heap.get? b=some o->H b=none->b∉frs outer->B.get? b=some o:=λb o hb hn hf=>by
  have q:=I.base.keep b o hb hn hf (by intro z;cases z)
  refine k1 b o q (I.base.free b o hb hn (by intro z;cases z)) λhm=>?_
  obtain⟨env,he,ha⟩:=bA.mp hm
  rcases aw.mp he with rfl|he
  ·have e1:s.heap.objs.size=b:=Option.some.inj ha
   exact absurd (az hb) (by rw[e1];exact aY _)
  ·exact hf (bA.mpr ⟨env,he,ha⟩)
 have sub:∀b,b∈frs outer->b∈frs (envOfC qual scope s.heap.objs.size f cd::outer):=λb hb=>by
  obtain⟨env,he,ha⟩:=bA.mp hb
  exact bA.mpr ⟨env,ao _ he,ha⟩
 refine⟨ea,C,a0,B,H',rfl,hos.trans I.os,hbare,hok,x1,inB,λb o hb hn hf=>?_,λb o hb hn=>?_,λb o hb=>?_,λb xs q=>k5 b xs (I.base.tups b xs q),λb o u q=>k6 b o u (I.base.frzs b o u q),λb ps q=>?_,hE _ _ _ hE1⟩
 ·obtain⟨sl,q⟩:=I.base.slot b o hb hn hf (by intro z;cases z)
  have hn1:=I.base.free b o hb hn (by intro z;cases z)
  obtain⟨sl2,q2⟩:=k2 b _ q hn1 (sub b hf)
  obtain⟨_,o2,ho2,hd⟩:=I.funs.mem hf
  have e2:o2={ o with slots:=sl }:=Option.some.inj (ho2.symm.trans q)
  subst e2
  obtain⟨sl',q'⟩:=x2 b _ q2 hd
  exact⟨sl',q'⟩
 ·obtain⟨o',q⟩:=I.base.there b o hb (by intro z;cases z)
  exact k3 b o' q (I.base.free b o hb hn (by intro z;cases z))
 ·by_cases hf:b∈frs outer
  ·exact .inl hf
  ·obtain⟨o',q⟩:=I.base.there b o hb (by intro z;cases z)
   rcases k4 b o' q with hm|hm
   ·obtain⟨env,he,ha⟩:=bA.mp hm
    rcases aw.mp he with rfl|he
    ·have e1:s.heap.objs.size=b:=Option.some.inj ha
     exact absurd (az hb) (by rw[e1];exact aY _)
    ·exact absurd (bA.mpr ⟨env,he,ha⟩) hf
   ·exact .inr hm
 ·obtain⟨m1,q1⟩:=I.base.tbls b ps q
  obtain⟨m2,q2⟩:=k7 b _ q1
  exact⟨m1++m2,by rw[q2,fm]⟩
end
section
variable {prog:fR}{w:fW}{A:fX}{s:fO}
end
section
variable {X:Cx}{own:Nat}{fr:List Nat}{N':List Str}{tg iter elt ce:Expr}{scope:Scope}{pos:Pos}{wi:TI}{g:CT TG}{te:CT TE}{tt:CT TT}
end
section
variable {X:Cx}
end
abbrev bmV:List Value:=[.type "ValueError",.type "Exception",.type "BaseException",.type "object"]
structure zk1 (K:W.Frag) (C:Addr) (tl:List Value) (newId:String):Prop where
 obj:∃nm qn N bs hdct sn sub ab col dd k0 k1 k2 k3 k5 oN,K.lookup C=some (excClassObj nm qn C N bs tl hdct sn sub ab col dd k0 k1 k2 k3 k5 newId)/\K.lookup N=some oN/\W.nsOkIn K N=true/\W.nsIn K N "__init__"=some none
 tail:W.tailIn K bmV tl=true
theorem zk1.mk' {K:W.Frag}{C:Addr}{tl:List Value}{newId:String}{nm qn:Str}{N:Addr}{bs:List Value}{hdct:Bool}{sn:List Str}{sub:List Value}{ab:Bool}{col:Option Bool}{dd:Option Addr}{k0 k1 k2 k3 k5:Option Value}{oN:Obj}
  (l:K.lookup C=some (excClassObj nm qn C N bs tl hdct sn sub ab col dd k0 k1 k2 k3 k5 newId)) (n:K.lookup N=some oN) (o:W.nsOkIn K N=true) (i:W.nsIn K N "__init__"=some none) (t:W.tailIn K bmV tl=true):zk1 K C tl newId :=
 ⟨⟨nm,qn,N,bs,hdct,sn,sub,ab,col,dd,k0,k1,k2,k3,k5,oN,l,n,o,i⟩,t⟩
theorem xw0 {K:W.Frag}{C:Addr}{tl:List Value}{newId:String}(x:zk1 K C tl newId):∃nm qn N bs hdct sn sub ab col dd k0 k1 k2 k3 k5 oN,
  K.lookup C=some (excClassObj nm qn C N bs tl hdct sn sub ab col dd k0 k1 k2 k3 k5 newId)/\K.lookup N=some oN/\∀h,K.In h->(∃mN,h.Ns N mN/\mN "__init__"=none)/\OwnTail h bmV tl:=by
 obtain⟨⟨nm,qn,N,bs,hdct,sn,sub,ab,col,dd,k0,k1,k2,k3,k5,oN,l,n,o,i⟩,t⟩:=x
 exact⟨nm,qn,N,bs,hdct,sn,sub,ab,col,dd,k0,k1,k2,k3,k5,oN,l,n,λh X=>⟨⟨_,.of_isNs (W.isNs_of_in X o),W.nsMap_none_of_in X o i⟩,W.tail_of_in X t⟩⟩
theorem xj8 {h h':Heap}{N:Addr}{o:Obj}{m:Str->Option Value}(e:h.get? N=some o)(e':h'.get? N=some o)(n:h.Ns N m):h'.Ns N m:=by
 obtain⟨o1,es,ep,ho,r⟩:=n
 rw[e]at ho
 cases ho
 exact⟨o,es,ep,e',r⟩
theorem OwnTail.base_in {h:Heap}{tl:List Value}(T:OwnTail h bmV tl):tl.contains (.type "BaseException")=true:=T.hasType (by decide)
def yv2 (ea C:Addr):HO:=.ext λh=>∃o,h.get? ea=some o/\o.cls=.ref C
section
variable {P:fR}{w:fW}{K:W.Frag}{mg:Str->Option Value}{base:Heap}{N:List Str}{qual:Str}{scope:Scope}{f:Addr}{cd:Value}{A:fX}{outer:List Env}{s0:fO}{H0:Hp}{E:XK}
theorem zr1 {x:Str}{C:Addr}{tl:List Value}{Bn newId inN:String}{bmN:List Value}{e:Expr}{es:List Expr}{t:TA}{np cpos pos:Pos}(hm:mg x=some (.ref C))(hx:zk1 K C tl newId)(Fn:ExcBaseFacts Bn newId inN bmN)(hBn:bmV.contains (.type Bn)=true)
  (hg:Gl (Q7 (CX1 P w) P w K mg base N qual scope f cd A outer s0 H0 E) x) (ha:PA (Q7 (CX1 P w) P w K mg base N qual scope f cd A outer s0 H0 E) (e::es) t)
  (hd:(x==("__debug__":Str))=false:=by decide) (he:fU (e::es) (envOfC qual scope s0.heap.objs.size f cd)=(false,eval e (envOfC qual scope s0.heap.objs.size f cd))::fU es (envOfC qual scope s0.heap.objs.size f cd):=by rfl)
  (hpl:(backTo cpos (fU es (envOfC qual scope s0.heap.objs.size f cd))).any (·.1)=false:=by rfl) :
  PS (Q7 (CX1 P w) P w K mg base N qual scope f cd A outer s0 H0 E) (.Raise (some (.Call (.Name x np) (e::es) [] cpos)) none pos) (λD σ H1=>t σ H1 λvs H2=>vs.length<=1000/\E (.ref C) none H2):=by
 intro pins s σ H D I h
 obtain⟨nm,qn,Na,bs,hdct,sn,sub,ab,col,dd,k0,k1,k2,k3,k5,oN,lC,lN,all⟩:=xw0 hx
 obtain⟨⟨mN,hN,hni⟩,T⟩:=all _ I.kIn
 refine wpAny_Raise_call_subU (C:=C) (nm:=nm) (q:=qn) (N:=Na) (bs:=bs) (bm:=tl) (hdct:=hdct) (sn:=sn) (sub:=sub) (ab:=ab) (col:=col) (dd:=dd) (k0:=k0) (k1:=k1) (k2:=k2) (k3:=k3) (k5:=k5)
  Fn hBn PySem.F.excBase_ValueError (mN:=mN) (OwnTail.base_in T) (I.ok.hd rfl) ?_ hni (A6 I hg hm ⟨rfl,?_⟩ hd)
 ·show(backTo cpos (fU (e::es) (envOfC qual scope s0.heap.objs.size f cd))).any (·.1)=false
  rw[he]
  show(false || (backTo cpos (fU es (envOfC qual scope s0.heap.objs.size f cd))).any (·.1))=false
  rw[hpl]
  rfl
 have hA:=ha cpos pins s σ H _ I h
 show fS _ _ (evalArgs (.ref C) true (backTo cpos (fU (e::es) (envOfC qual scope s0.heap.objs.size f cd))) []) _ _ s
 have hA':fS (fV P w) (Q7 (CX1 P w) P w K mg base N qual scope f cd A outer s0 H0 E).A (spliced (backTo cpos (fU (e::es) (envOfC qual scope s0.heap.objs.size f cd)))) _ _ s:=hA
 rw[he]at hA' ⊢
 refine Calls.evalArgs_plain (thn hA' λus s2 ⟨vs,H2,I2,r,q1,q2⟩=>?_)
 refine⟨rfl,?_,I2.kIn _ _ lC,xj8 (I.kIn _ _ lN) (I2.kIn _ _ lN) hN,(all _ I2.kIn).2,λh' ex hx=>yn5 I2 hx q2⟩
 rw[←r.length]
 exact aW q1 (by decide)
theorem Fun.okX {x qual:Str}{st:Stmt}{f:Addr}{fd:gh}{N ps:List Str}{k:Nat}{sp:Sp}(F:Fun K x qual st f fd)(S:y4 N ps (z8 st))(len:∀vs H Q E,sp vs H Q E->vs.length=ps.length)
  (hbody:∀(cdv:Value) (A:fX) (outer:List Env) (s:fO) (H:Hp) (vs:List V) (Q:VK) (E:XK),Y3 k (A.deeper (envOfC qual (z8 st) s.heap.objs.size f cdv))->sp vs H Q E ->
   ∃t,PSs (Q7 (CX1 P w) P w K mg base N qual (z8 st) f cdv A outer s H E) (Z5 st) t/\t { nx:=λ_ H'=>Q .non H',rt:=Q } (start N vs) H):u6 P w K mg base (CX1 P w) (k+1) f fd ps sp:=by
 obtain⟨oc,od,kV,doc,pm,an,cdv,ct,osl,rfl,lk,hcd⟩:=F.ex
 refine xb9 lk hcd S len λA outer s H vs Q E hr hsp=>?_
 obtain⟨t,h,q⟩:=hbody cdv A outer s H vs Q E hr hsp
 exact⟨t,h,q⟩
end
theorem m9.there {P:fR}{w:fW}{H:Hp}{h:Heap}{a:Addr}{o:HO}(x:m9 P w H h a o):∃ob,h.get? a=some ob:=by
 cases o with
 | lst xs=>obtain⟨_,_,_,_,e⟩:=x;exact⟨_,e⟩
 | tup xs=>obtain⟨_,_,_,o,e,_⟩:=x;exact⟨_,e⟩
 | dK kvs=>obtain⟨_,_,_,_,o,_,_,e,_⟩:=x;exact⟨_,e⟩
 | dT kvs=>obtain⟨_,_,_,_,o,_,_,e,_⟩:=x;exact⟨_,e⟩
 | set S n=>obtain⟨o,_,_,_,e,_⟩:=x;exact⟨_,e⟩
 | ins C dx fs=>obtain⟨_,_,_,e,_⟩:=x;exact⟨_,e⟩
 | own y=>obtain⟨_,e⟩:=x;exact⟨_,e⟩
 | xd fs=>obtain⟨_,⟨_,_,_,e,_⟩,_⟩:=x;exact⟨_,e⟩
 | rng lo hi=>obtain⟨_,_,_,e⟩:=x;exact⟨_,e⟩
 | frz ob u=>obtain⟨e,_⟩:=x;exact⟨_,e⟩
 | tbl ps=>exact⟨_,(show h.get? a=some _ from x)⟩
 | met f y=>exact⟨_,(show h.get? a=some _ from x)⟩
 | ext φ=>obtain⟨_,⟨_,e⟩,_⟩:=x;exact⟨_,e⟩
theorem HOk.track {P:fR}{w:fW}{H:Hp}{h:Heap}{a:Addr}{o:HO}(x:HOk P w H h)(hn:H a=none)(new:m9 P w (upd H a o) h a o):HOk P w (upd H a o) h:=λb u e=>by
 by_cases hb:b=a
 ·subst hb;rw[z3]at e;cases e;exact new
 ·rw[z5 hb]at e
  exact(x b u e).stay (λc v _ q=>q) (λc q=>by rw[z5 (z9 q hn)];exact q) λc xs q=>by rw[z5 (z9 q hn)];exact q
def Cgt (X:Cx)(pins:List (Addr×Obj))(σ:St)(H:Hp)(ea C:Addr)(s:fO):Prop :=
 ∃(B:Heap) (a0:Value),Heap.FlyingW B X.stack ea (.ref C) a0 s.heap/\H ea=some (yv2 ea C)/\∀(h:Heap) (tk:Nat),Heap.FlyingW B X.stack ea (.ref C) a0 h->s.heap.UpToSlots h->Inv X pins σ H { s with heap:=h,toks:=tk }
theorem Cgt.inv {X:Cx}{pins:List (Addr×Obj)}{σ:St}{H:Hp}{ea C:Addr}{s:fO}(x:Cgt X pins σ H ea C s):Inv X pins σ H s:=by
 obtain⟨B,a0,f,e,all⟩:=x
 exact all s.heap s.toks f (Heap.UpToSlots.refl _)
theorem xa7 {X:Cx}{pins:List (Addr×Obj)}{σ:St}{H:Hp}{s s':fO}{E:XK}{e:Value}{Q:Flow->fO->Prop}{E':Value->fO->Prop}{hs:List ExceptHandler}(I:Inv X pins σ H s)(hst:X.stack=X.env::X.outer)(hfr:X.env.frame=some X.env.locals)
  (hx:CX1 X.prog X.w X.stack H s E e s')
  (h:∀ea C H' s2,e=.ref ea->Cgt X pins σ (upd H' ea (yv2 ea C)) ea C s2->H' ea=none->E (.ref C) none H'->fS (fV X.prog X.w) X.A (handleBy (.ref ea) X.env hs) Q E' s2) :
  fS (fV X.prog X.w) X.A (noteFrame e X.env) (λ_ s2=>fS (fV X.prog X.w) X.A (setFlight e none) (λ_ s3=>fS (fV X.prog X.w) X.A (handleBy e X.env hs) Q E' s3) E' s2) E' s':=by
 obtain⟨ea,C,a0,B,H',rfl,hos,hbare,hok,hfl,k1,k2,k3,k4,k5,k6,k7,hE⟩:=hx
 have hen:H' ea=none:=by
  cases q:H' ea with
  | none=>rfl
  | some o =>
   obtain⟨ob,z⟩:=m9.there (hok ea o q)
   rw[hfl.2.1]at z
   cases z
 have hfl0:=hfl
 rw[hst]at hfl
 refine wpAny_looks_onW (hst ▸ I.ok.frames) hfr hfl λh1 held u1=>?_
 refine wpAny_landsW held λh2 fl2 u2=>?_
 have u12:s'.heap.UpToSlots h2:=u1.trans u2
 rw[←hst]at fl2
 refine h ea C H' _ rfl ⟨B,a0,fl2,z3,λhh tk flh uh=>?_⟩ hen hE
 have u3:s'.heap.UpToSlots hh:=u12.trans uh
 have nea:∀b o,s.heap.get? b=some o->b≠ea:=λb o hb z=>by
  subst z
  rcases k4 b o hb with hm|⟨o',q⟩
  ·obtain⟨_,o2,ho2,hd⟩:=hfl0.2.2.1.mem hm
   obtain⟨oe,vs,he,_,hde,_⟩:=hfl0.first
   rw[he]at ho2
   cases ho2
   exact hd vs hde
  ·rw[hfl0.2.1]at q
   cases q
 obtain⟨oe,vs,he,hc,hde,_⟩:=flh.first
 have k2':∀b o,s.heap.get? b=some o->H b=none->b∈frs X.stack->∃sl,hh.get? b=some { o with slots:=sl }:=λb o q n hf=>by
  obtain⟨sl,q1⟩:=k2 b o q n hf
  obtain⟨_,o2,ho2,hd⟩:=hfl0.2.2.1.mem hf
  have e2:o2={ o with slots:=sl }:=Option.some.inj (ho2.symm.trans q1)
  subst e2
  obtain⟨sl',q'⟩:=u3 b _ q1 hd
  exact⟨sl',q'⟩
 have Hok:HOk X.prog X.w (upd H' ea (yv2 ea C)) hh:=HOk.track (hok.kept λb u q=>flh.1 _ _ q) hen ⟨⟨oe,he,hc⟩,⟨oe,he⟩,λh1 h2 ⟨o,ho,r⟩ k=>⟨o,k o ho,r⟩⟩
 refine I.call' (s':={ s' with heap:=hh,toks:=tk }) (ch:=[]) hos ⟨λb o q n hf _=>flh.1 _ _ (k1 b o q n hf),λb o q n hf _=>k2' b o q n hf,λb o q n _=>by rw[z5 (nea b o q)];exact k3 b o q n,λb o q _=>?_,λb xs q=>by rw[z5 (z9 (k5 b xs q) hen)];exact k5 b xs q,λb o u q=>by rw[z5 (z9 (k6 b o u q) hen)];exact k6 b o u q,λb ps q=>by
   obtain⟨more,z⟩:=k7 b ps q
   exact⟨more,by rw[z5 (z9 z hen)];exact z⟩⟩ Hok hbare (λb z=>absurd z (by simp))
 rcases k4 b o q with hm|⟨o',q'⟩
 ·obtain⟨_,o2,ho2,_⟩:=I.stack.mem hm
  obtain⟨sl,q2⟩:=k2' b o2 ho2 (I.stkFree b hm) hm
  exact⟨_,q2⟩
 ·exact⟨o',flh.1 _ _ q'⟩
section
variable {M:Model}{A:fX}{E:Value->fO->Prop}{s:fO}
theorem ym9 {α β:Type}{cs:List α}{b:β}{f:α->β->Sem (ForInStep β)}{Q:β->fO->Prop}(hf:∀c∈cs,∀Q':ForInStep β->fO->Prop,Q' (.yield b) s->fS M A (f c b) Q' E s)(h:Q b s):fS M A (forIn cs b f) Q E s:=by
 induction cs with
 | nil=>exact fP h
 | cons c r ih =>
  rw[dG]
  exact fN (hf c ax _ (ih λd hd=>hf d (ao _ hd)))
def XAt (h:Heap)(D:Addr)(tl:List Value):Prop:=∃nm qn N bs hdct sn sub ab col dd k0 k1 k2 k3 k5 newId,h.get? D=some (excClassObj nm qn D N bs tl hdct sn sub ab col dd k0 k1 k2 k3 k5 newId)
theorem zk1.at {K:W.Frag}{C:Addr}{tl:List Value}{newId:String}(x:zk1 K C tl newId){h:Heap}(X:K.In h):XAt h C tl/\tl.contains (.type "BaseException")=true:=by
 obtain⟨nm,qn,N,bs,hdct,sn,sub,ab,col,dd,k0,k1,k2,k3,k5,oN,l,n,all⟩:=xw0 x
 exact⟨⟨nm,qn,N,bs,hdct,sn,sub,ab,col,dd,k0,k1,k2,k3,k5,newId,X _ _ l⟩,OwnTail.base_in (all _ X).2⟩
theorem xh1 {D:Addr}{tl:List Value}{v:Value}{Q:Bool->fO->Prop}(x:XAt s.heap D tl)(q:Q ((Value.ref D::tl).contains v) s):fS M A (isSubtype (.ref D) v) Q E s:=by
 obtain⟨nm,qn,N,bs,hdct,sn,sub,ab,col,dd,k0,k1,k2,k3,k5,newId,l⟩:=x
 obtain⟨h,g,d,t,os⟩:=s
 exact wpAny_isSubtype_exc l q
theorem xc4 {D:Addr}{tl:List Value}{Q:Bool->fO->Prop}(x:XAt s.heap D tl)(b:tl.contains (.type "BaseException")=true)(q:Q true s):fS M A (isExcClass (.ref D)) Q E s:=by
 obtain⟨nm,qn,N,bs,hdct,sn,sub,ab,col,dd,k0,k1,k2,k3,k5,newId,l⟩:=id x
 unfold isExcClass isType loadHead
 refine fN (fN (wpAny_loadPart l (fP ?_)))
 dsimp only
 rw[if_pos rfl]
 refine xh1 x ?_
 rw[List.contains_cons,b,fD]
 exact q
theorem yz4 {e:Addr}{oe:Obj}{C:Addr}{Q:Value->fO->Prop}(he:s.heap.get? e=some oe)(hc:oe.cls=.ref C)(q:Q (.ref C) s):fS M A (typeOf (.ref e)) Q E s:=by
 obtain⟨h,g,d,t,os⟩:=s
 unfold typeOf
 refine fN (wpAny_loadPart he (fP ?_))
 rw[hc]
 exact q
theorem yh4 {e D C:Addr}{oe:Obj}{tl tlD:List Value}{Q:Bool->fO->Prop}(he:s.heap.get? e=some oe)(hc:oe.cls=.ref C)(hC:XAt s.heap C tl)(hD:XAt s.heap D tlD)(hb:tlD.contains (.type "BaseException")=true)
  (hm:(Value.ref C::tl).contains (.ref D)=true) (q:Q true s):fS M A (excMatches (.ref e) (.ref D)) Q E s:=by
 obtain⟨nm,qn,N,bs,hdct,sn,sub,ab,col,dd,k0,k1,k2,k3,k5,newId,l⟩:=id hD
 unfold excMatches
 refine fN (wpAny_isInstance (T:="type") (b:=false) (show s.TypeIs (.ref D) "type" from⟨_,l,rfl⟩) (by rw[isSubtype_type];kernel_rfl) ?_)
 dsimp only
 rw[if_neg aE]
 try (refine fN (fP ?_))
 refine fN (ym9 (λc hcm Q' hq=>?_) ?_)
 ·obtain rfl:=af.mp hcm
  refine fN (xc4 hD hb ?_)
  rw[if_neg (by decide)]
  exact fP hq
 refine fN (yz4 he hc ?_)
 rw[dG]
 refine fN (fN (fN (xh1 hC ?_)))
 rw[hm,if_pos rfl]
 exact fP (fP (fP q))
end
abbrev xs0 (X:Cx) (ea:Addr):Cx:={ X with A:=X.A.mark (some (.ref ea)),calm:=false,xe:=λ_ _=>False }
theorem Inv.sx {X:Cx}{pins:List (Addr×Obj)}{σ:St}{H:Hp}{s:fO}(I:Inv X pins σ H s)(ea:Addr):Inv (xs0 X ea) pins σ H s :=
 ⟨⟨I.ok.mod,I.ok.kind,I.ok.glob,I.ok.blt,I.ok.above,I.ok.inj,I.ok.has,I.ok.cab,(λz=>by cases z),I.ok.frames,I.ok.stk,I.ok.exf,I.ok.bs,I.ok.bsz,I.ok.noex,I.ok.exfs,I.ok.funs,I.ok.frf⟩,I.os,I.bare,I.base,I.loc,I.cell,I.free,I.freeC,I.pin,I.hok,I.len⟩
theorem Inv.unsx {X:Cx}{pins:List (Addr×Obj)}{σ:St}{H:Hp}{s:fO}{ea:Addr}(ok:X.Ok)(I:Inv (xs0 X ea) pins σ H s):Inv X pins σ H s :=
 ⟨ok,I.os,I.bare,I.base,I.loc,I.cell,I.free,I.freeC,I.pin,I.hok,I.len⟩
def PH (X:Cx)(hs:List ExceptHandler)(t:Addr->Addr->TS):Prop:=∀(pins:List (Addr×Obj)) (σ:St) (H:Hp) (ea C:Addr) (s:fO) (D:za9),Cgt X pins σ H ea C s->t ea C D σ H ->
 fS (fV X.prog X.w) X.A (handleBy (.ref ea) X.env hs) (SP X pins D) X.xe s
section
variable {X:Cx}
end
section
variable {X:Cx}
def ym1 (P:fR)(w:fW)(K:W.Frag)(mg:Str->Option Value)(base:Heap)(k:Nat)(x:Str)(ps:List Str)(sp:Sp):Prop :=
 ∃f fd,u6 P w K mg base (CX1 P w) k f fd ps sp/\W.keepIn K (.ref f)=true/\mg x=some (.ref f)/\V5 K fd ps []
end
structure xn7 (K:W.Frag) (mg:Str->Option Value) (TE:Addr):Prop where
 m:mg "TurnError"=some (.ref TE)
 c:zk1 K TE bmV "ValueError.__new__"
 v:mg "ValueError"=none
structure ye4 (K:W.Frag) (mg:Str->Option Value) (TE:Addr) (x:Str) (C:Addr):Prop where
 m:mg x=some (.ref C)
 c:zk1 K C (.ref TE::bmV) "ValueError.__new__"
 i:W.isIn K (.ref C) TE=true
def kvD (x:Key×V):PyData×PyData:=(match x.1 with | .inl i=>.int i | .inr t=>.str t,match x.2 with | .int i=>.int i|_=>.none)
mutual
inductive Dt (H:Hp):V->PyData->Prop
 | non:Dt H .non .none
 | bl (b:Bool):Dt H (.bl b) (.bool b)
 | int (i:Int):Dt H (.int i) (.int i)
 | str (x:Str):Dt H (.str x) (.str x)
 | lst {a:Addr} {xs:List V} {ds:List PyData}:H a=some (.lst xs)->Dts H xs ds->Dt H (.ref a) (.list ds)
 | tup {a:Addr} {xs:List V} {ds:List PyData}:H a=some (.tup xs)->Dts H xs ds->Dt H (.ref a) (.tuple ds)
 | dct {a:Addr} {kvs:List (Key×V)}:H a=some (.dK kvs)->Dt H (.ref a) (.dict (kvs.map kvD))
inductive Dts (H:Hp):List V->List PyData->Prop
 | nil:Dts H [] []
 | cons {x:V} {d:PyData} {xs:List V} {ds:List PyData}:Dt H x d->Dts H xs ds->Dts H (x::xs) (d::ds)
end
mutual
theorem Dt.same {H H':Hp}(s:y0 H H'):∀{x:V} {d:PyData},Dt H x d->Dt H' x d
 | _,_,.non=>.non
 | _,_,.bl b=>.bl b
 | _,_,.int i=>.int i
 | _,_,.str x=>.str x
 | _,_,.lst h r=>.lst (s _ _ h) (Dts.same s r)
 | _,_,.tup h r=>.tup (s _ _ h) (Dts.same s r)
 | _,_,.dct h=>.dct (s _ _ h)
theorem Dts.same {H H':Hp}(s:y0 H H'):∀{xs:List V} {ds:List PyData},Dts H xs ds->Dts H' xs ds
 | _,_,.nil=>.nil
 | _,_,.cons h r=>.cons (Dt.same s h) (Dts.same s r)
end
theorem Dts.length {H:Hp}:∀{xs:List V} {ds:List PyData},Dts H xs ds->xs.length=ds.length
 | _,_,.nil=>rfl
 | _,_,.cons _ r=>by rw[aD,aD,Dts.length r]
theorem Dts.get {H:Hp}:∀{xs:List V} {ds:List PyData} {i:Nat} {x:V},Dts H xs ds->xs[i]?=some x->∃d,ds[i]?=some d/\Dt H x d
 | _,_,_,_,.nil,e=>by simp at e
 | _,_,0,_,.cons h _,e=>by simp at e;subst e;exact⟨_,rfl,h⟩
 | _,_,i+1,x,.cons _ r,e=>by
  obtain⟨d,h1,h2⟩:=Dts.get (i:=i) (x:=x) r (by simpa using e)
  exact⟨d,by simpa using h1,h2⟩
def tyD:PyData->String
 | .none=>"NoneType"
 | .bool _=>"bool"
 | .int _=>"int"
 | .str _=>"str"
 | .list _=>"list"
 | .tuple _=>"tuple"
 | .dict _=>"dict"
theorem Dt.ty {K:W.Frag}{H:Hp}{x:V}{d:PyData}(h:Dt H x d):K0 K H x (.type (tyD d)):=by
 cases h with
 | non=>exact .non
 | bl b=>exact .bl b
 | int i=>exact .int i
 | str x=>exact .str x
 | lst h _=>exact .lst h
 | tup h _=>exact .tup h
 | dct h=>exact .dK h
section
variable {X:Cx}{e:Expr}{es:List Expr}{pos:Pos}{C:St->Hp->Prop}{d:PyData}{ds:List PyData}
structure DS (X:Cx) (st:Stmt) (t:TS):Prop where
 h:PS X st t
structure DSs (X:Cx) (st:List Stmt) (t:TS):Prop where
 h:PSs X st t
theorem y6 {st:Stmt}{M1:List Stmt}{t u:TS}(h1:DS X st t)(h2:DSs X M1 u):DSs X (st::M1) (xh4 t u):=⟨@z7 _ _ _ _ _ h1.h h2.h⟩
theorem new_at {H:Hp}{p:Addr}(u:HO):upd H p u p=some u:=by show(if p=p then _ else _)=_;rw[if_pos rfl]
end
section
variable {prog:fR}{w:fW}{A:fX}{E:Value->fO->Prop}{s:fO}
def gat (h:Heap)(vs:List Value):Heap:=(h.push (gl "list" #[] 0)).update h.objs.size (Obj.mapSeq (·++vs.toArray))
theorem yf4 {a:Addr}{vs:List Value}{R:List Value->fO->Prop}(ht:IsTup s.heap a vs.toArray)(hz:vs.length<=fQ)(q:R vs { s with heap:=gat s.heap vs }):fS (fV prog w) A (collect (.ref a)) R E s:=by
 obtain⟨o,ho,hc,n,hd⟩:=ht
 have ho1:(s.heap.push (gl "list" #[] 0)).get? a=some o:=ar _ ho
 have hn1:(s.heap.push (gl "list" #[] 0)).get? s.heap.objs.size=some (gl "list" #[] 0):=aB _ rfl
 unfold collect
 refine fN (wpAny_runValue (codeAny_builtin entry_proto_collect' (fN (m:=newList []) (wpAny_newList (fP ⟨Code.quiet_builtin _ (by decide +kernel),codeAny_builtin entry_list_iadd' ?_⟩)))))
 show fS _ _ (Builtin.List.listExtendWith (.ref s.heap.objs.size) (.ref a) (.ref s.heap.objs.size)) _ _ { s with heap:=s.heap.push (gl "list" #[] 0) }
 (unfold Builtin.List.listExtendWith;refine fN (wpAny_typeOf (T:="tuple") ⟨o,ho1,hc⟩ ?_))
 have hty:(Value.type "tuple" == Value.type "tuple")=true:=rfl
 rw[if_pos (show _=true by rw[hty,fD])]
 refine fN (listItems_at ho1 hd (fN (listItems_at (xs:=#[]) (n:=0) hn1 rfl ?_)))
 rw[if_neg (show ¬_=true by simp)]
 refine fN (listUpdate_at (xs:=#[]) (n:=0) hn1 rfl (fP ?_) (aP _) (by simp only[Array.size_append,aA,bW];show 0+vs.length<=_;lia))
 show fS (fV prog w) A (load s.heap.objs.size >>= _) R E { s with heap:=gat s.heap vs }
 refine fN (wpAny_load (get?_update_seq hn1 _) ?_)
 have e:((#[]:Array Value)++vs.toArray).toList=vs:=by simp
 exact fP (e.symm ▸ q)
theorem zo7 (h:Heap)(vs:List Value):(gat h vs).objs.size=h.objs.size+1:=by unfold gat;rw[Heap.size_update,size_push']
theorem zm0 {h:Heap}{vs:List Value}{b:Addr}{o:Obj}(e:h.get? b=some o):(gat h vs).get? b=some o:=by
 have hlt:=az e
 unfold gat
 rw[Heap.get?_update_ne _ _ _ _ (aO hlt),Heap.get?_push_ne _ _ _ (aO hlt)]
 exact e
theorem yo6 {a:Addr}{vs:List Value}{ns:List Int}{R:Value->fO->Prop}(ht:IsTup s.heap a vs.toArray)(hI:IntsAre vs ns)(h64:vs.length<64)
  (q:∀(out:Array Value) (ms:List Int),IntsAre out.toList ms->ms.Perm ns->ms.Pairwise (·<=·)->R (.ref (gat s.heap vs).objs.size) { s with heap:=sortedHeap ((gat s.heap vs).push (gl "list" vs.toArray 0)) (gat s.heap vs).objs.size vs out }) :
  fS (fV prog w) A (call (.builtin "sorted") [.ref a]) R E s:=by
 have hn:((gat s.heap vs).push (gl "list" vs.toArray 0)).get? (gat s.heap vs).objs.size=some (gl "list" vs.toArray 0):=aB _ rfl
 refine Calls.call_function_entry kind_sorted plain_sorted entry_sorted (args_sorted1 (.ref a)) ?_
 unfold Builtin.«sorted»
 refine fN (m:=checkCount "sorted" 1 1 _) (fP (fN (yf4 ht (by rw[sizeLine_eq];lia) (fN (wpAny_newList ?_)))))
 show fS _ _ _ _ _ { s with heap:=(gat s.heap vs).push (gl "list" vs.toArray 0) }
 refine fN (fY (wpAny_call_entry slot_list_sort ⟨_,hn,rfl⟩ entry_list_sort (list_sort_tree hn hI h64 λout ms a1 a2 a3=>⟨_,rfl,fP ⟨_,rfl,q out ms a1 a2 a3⟩⟩) (args_list_sort _)))
end
section
variable {X:Cx}
theorem zz1:V8 X (.builtin "sorted") (λxs H Q=>∃(p:Addr) (ns:List Int),xs=[.ref p]/\SqT X.K H p (ns.map V.int)/\ns.length<64/\∀(l:Addr) (ms:List Int),H l=none->ms.Perm ns->ms.Pairwise (·<=·)->Q (.ref l) (upd H l (.lst (ms.map V.int)))):=by
 intro pins s σ H xs us Q I r h
 obtain⟨p,ns,rfl,hq,h64,q⟩:=h
 obtain⟨u,rfl,rx⟩:=N9 r
 cases rx
 obtain⟨its,r1,p1,hz⟩:=I.tuple hq
 have l1:=r1.length
 rw[aa]at l1 hz
 refine yo6 p1 (T9 r1) (by lia) λout ms a1 a2 a3=>?_
 have hl:=a2.length_eq
 have hsz:=zo7 s.heap its
 obtain⟨e,he⟩:=sortedHeap_at (vs:=its) (out:=out) (n:=0) (show((gat s.heap its).push (gl "list" its.toArray 0)).get? (gat s.heap its).objs.size=some (gl "list" its.toArray 0) from aB _ rfl)
 have hold:∀b o,s.heap.get? b=some o->(sortedHeap ((gat s.heap its).push (gl "list" its.toArray 0)) (gat s.heap its).objs.size its out).get? b=some o:=λb o z=>by
  have hlt:=az z
  have h1:b<(gat s.heap its).objs.size:=hsz.symm ▸ cz hlt
  rw[sortedHeap_old (aO h1) (by rw[size_push'];exact cz h1),Heap.get?_push_ne _ _ _ (aO h1)]
  exact zm0 z
 refine⟨.ref (gat s.heap its).objs.size,_,I.laid (t':=s.toks) hold (by lia) (show m9 X.prog X.w _ _ _ (.lst (ms.map V.int)) from⟨by rw[aa];lia,out.toList,e,zh9 a1,by simpa using he⟩),rfl,q _ ms (I.hok.fresh (by lia)) a2 a3⟩
end
section
variable {X:Cx}{pins:List (Addr×Obj)}{σ:St}{H:Hp}{s:fO}
def nw (H H':Hp):Hp:=λb=>match H b with
 | none=>H' b
 | some _=>none
section
variable {e:Expr}{es:List Expr}{pos:Pos}{C:St->Hp->Prop}{d:PyData}{ds:List PyData}
end
end
section
end
section
variable {P:fR}{w:fW}{K:W.Frag}{mg:Str->Option Value}{base:Heap}{N:List Str}{qual:Str}{scope:Scope}{f:Addr}{cd:Value}{A:fX}{outer:List Env}{s s1:fO}{H H1:Hp}{E:XK}{pins:List (Addr×Obj)}{σ:St}
theorem xn0:D4 (CX1 P w) (Q7 (CX1 P w) P w K mg base N qual scope f cd A outer s H E) E:=λ_ _ _ _ _ _ I hx=>xc8 I hx λ_ _ _ z=>z
end
section
variable {P:fR}{w:fW}{K:W.Frag}{mg:Str->Option Value}{base:Heap}{N:List Str}{qual:Str}{scope:Scope}{f:Addr}{cd:Value}{A:fX}{outer:List Env}{s:fO}{H:Hp}{E:XK}
theorem xr1 {x:Str}{p pos:Pos}{e:Expr}{es:List Expr}{t:TA}{ps:List Str}{sp:Sp}{k j:Nat}(kn:ym1 P w K mg base k x ps sp)(hr:Y3 j (A.deeper (envOfC qual scope s.heap.objs.size f cd)))(hg:Gl (Q7 (CX1 P w) P w K mg base N qual scope f cd A outer s H E) x)
  (ha:PA (Q7 (CX1 P w) P w K mg base N qual scope f cd A outer s H E) (e::es) t) (hj:k<=j:=by decide) (hdb:(x==("__debug__":Str))=false:=by decide)
  (he:fU (e::es) (envOfC qual scope s.heap.objs.size f cd)=(false,eval e (envOfC qual scope s.heap.objs.size f cd))::fU es (envOfC qual scope s.heap.objs.size f cd):=by rfl) (hpl:(backTo pos (fU es (envOfC qual scope s.heap.objs.size f cd))).any (·.1)=false:=by rfl) :
  PE (Q7 (CX1 P w) P w K mg base N qual scope f cd A outer s H E) (.Call (.Name x p) (e::es) [] pos) (yu6 sp [] E t):=by
 obtain⟨g,gd,G,hk,hm,hb⟩:=kn
 exact yr8 (X:=Q7 (CX1 P w) P w K mg base N qual scope f cd A outer s H E) G (hr.mono hj) hg hm hk hb .nil xn0 ha hdb he hpl
end
section
variable {M:Model}{A:fX}{E:Value->fO->Prop}{s:fO}{env:Env}
end
section
variable {X:Cx}{E:XK}{own:Nat}{fr:List Nat}{N':List Str}{tg iter elt:Expr}{scope:Scope}{pos:Pos}{wi:TI}{g:CT TG}{te:CT TE}
end
def XEp (X:Cx)(pins:List (Addr×Obj))(EX:St->XK):Value->fO->Prop:=λe s'=>∃(σ:St) (H:Hp) (s:fO),Inv X pins σ H s/\CX1 X.prog X.w X.stack H s (EX σ) e s'
def QS (X:Cx)(st:Stmt)(t:(St->XK)->TS):Prop:=∀(pins:List (Addr×Obj)) (s:fO) (σ:St) (H:Hp) (D:za9) (EX:St->XK),Inv X pins σ H s->t EX D σ H->fS (fV X.prog X.w) X.A (exec st X.env) (SP X pins D) (XEp X pins EX) s
def QSs (X:Cx)(st:List Stmt)(t:(St->XK)->TS):Prop:=∀(pins:List (Addr×Obj)) (s:fO) (σ:St) (H:Hp) (D:za9) (EX:St->XK),Inv X pins σ H s->t EX D σ H->fS (fV X.prog X.w) X.A (execs st X.env) (SP X pins D) (XEp X pins EX) s
section
variable {X:Cx}
theorem ys6:QSs X [] (λ_ D σ H=>D.nx σ H):=λ_ _ σ H _ _ I h=>wpAny_execs_nil ⟨σ,H,I,h⟩
theorem yj5 {st:Stmt}{M1:List Stmt}{t u:(St->XK)->TS}(h1:QS X st t)(h2:QSs X M1 u):QSs X (st::M1) (λEX=>xh4 (t EX) (u EX)):=by
 intro pins s σ H D EX I h
 refine wpAny_execs_cons (thn (h1 pins s σ H { D with nx:=u EX D } EX I h) λfl s1 q=>?_)
 cases fl with
 | next =>
  obtain⟨σ',H',I',q⟩:=q
  exact h2 pins s1 σ' H' D EX I' q
 | ret v=>exact q
 | brk=>exact q
 | cont=>exact q
theorem ys4 {body:List Stmt}{tb:(St->XK)->TS}{h0:ExceptHandler}{hs:List ExceptHandler}{th:Addr->Addr->TS}{pos:Pos}(hb:QSs X body tb)(hh:PH X (h0::hs) th)(hst:X.stack=X.env::X.outer)(hfr:X.env.frame=some X.env.locals) :
  PS X (.Try body (h0::hs) [] [] pos) (λD σ H=>∃EX:St->XK,tb EX D σ H/\∀(σ':St) (ea C:Addr) (H':Hp),EX σ' (.ref C) none H'->H' ea=none->th ea C D σ' (upd H' ea (yv2 ea C))):=by
 rintro pins s σ H D I ⟨EX,h1,h2⟩
 refine wpAny_Try_except (fZ (hb pins s σ H D EX I h1) (λfl s1 q=>?_) λex s' ⟨σ',H',s2,I',hx⟩=>?_)
 ·cases fl with
  | next=>exact wpAny_execs_nil q
  | ret u=>exact q
  | brk=>exact q
  | cont=>exact q
 ·exact xa7 I' hst hfr hx λea C H2 s3 _ cg hn hE=>hh pins σ' _ ea C s3 D cg (h2 σ' ea C H2 hE hn)
end
section
end
section
variable {X:Cx}
end
section
variable {X:Cx}{tg:Expr}
end
open PySem.W PySem.Builtin PySem.Builtin.ObjectAttr PySem.Builtin.Getset_descriptor
section
variable {X:Cx}
end
section
variable {prog:fR}{w:fW}{A:fX}{E:Value->fO->Prop}{s:fO}{K:W.Frag}{x C:Addr}{o:Obj}
end
section
variable {X:Cx}
end
end L2
namespace Tb.ST
open PySem PySem.SetTable
def adv (mask:Nat)(p:Probe):Probe:=if p.more > 0 then { p with j:=p.j+1,more:=p.more-1 } else
 {p with j:=(leap mask p.i p.perturb).1,more:=runEnd mask (leap mask p.i p.perturb).1-(leap mask p.i p.perturb).1,i:=(leap mask p.i p.perturb).1,perturb:=(leap mask p.i p.perturb).2 }
def start (mask:Nat)(h:Int):Probe:={ j:=bits h % (mask+1),more:=runEnd mask (bits h % (mask+1))-bits h % (mask+1),i:=bits h % (mask+1),perturb:=bits h,dummy:=none }
def go (mask:Nat):Nat->Probe->Probe
 | 0,p=>p
 | q+1,p=>go mask q (adv mask p)
def lc (M x:Nat):Nat:=(x*5+1) % M
def lcs (M:Nat):Nat->Nat->Nat
 | 0,x=>x
 | k+1,x=>lcs M k (lc M x)
def xm9 (M:Nat):Nat->Nat->List Nat
 | 0,_=>[]
 | k+1,x=>lc M x::xm9 M k (lc M x)
def full (M:Nat):Bool:=((List.range M).all λe=>(xm9 M M 0).contains e)&&lcs M M 0==0
end Tb.ST
namespace Tb.ST
open PySem PySem.SetTable
theorem zd6 {α:Type}{l:List α}{p i:Nat}{x:α}(hp:p<=l.length):(l.take p++x::l.drop p)[i]?=if i<p then l[i]? else if i=p then some x else l[i-1]?:=by
 have ht:(l.take p).length=p:=by rw[bI];lia
 by_cases h1:i<p
 ·rw[if_pos h1,aI (by lia),eS h1]
 ·rw[if_neg h1,aZ (by lia),ht]
  by_cases h2:i=p
  ·rw[if_pos h2,h2,cq];rfl
  ·rw[if_neg h2,show i-p=(i-p-1)+1 by lia,List.getElem?_cons_succ,dv,show p+(i-p-1)=i-1 by lia]
end Tb.ST
namespace Tb.ST
open PySem PySem.SetTable
def Fr (owner:Array (Option Nat))(j:Nat):Prop:=(owner.getD j (some 0)).isNone=true
end Tb.ST
namespace L2
open PySem PySem.Spec PyProof.Rows
section
variable {prog:fR}{w:fW}{K:Type}[DecidableEq K]{knd:KeyKind prog w K}{A:fX}{E:Value->fO->Prop}{s:fO}
end
section
variable {X:Cx}
theorem zi0:∀{as:List Addr} {us:List Value},p8 (as.map V.ref) us->us=as.map Value.ref
 | [],_,r=>by rw[cn]at r;cases r;rfl
 | a::as,_,r=>by
  rw[aR]at r
  cases r with
  | cons h t =>
   cases h
   rw[zi0 t]
   rfl
end
section
variable {prog:fR}{w:fW}{A:fX}{E:Value->fO->Prop}{s:fO}
variable {I Z:Addr}{fp wr:List Addr}{G:Array GenState->Array GenState->Prop}{n:Nat}{P:Nat->Value->Prop}{St:Nat->fO->Prop}{R:Result->fO->Prop}
end
section
variable {X:Cx}
end
end L2
namespace Tb.SO
open PySem PySem.W PyProof.Rows
def run {α:Type}(lt:Nat->Nat->Bool):KasT α->α
 | .ret a=>a
 | .ask i j k=>run lt (k (lt i j))
theorem K4 {α β:Type}{lt:Nat->Nat->Bool}{f:α->KasT β}:∀t:KasT α,run lt (t.bind f)=run lt (f (run lt t))
 | .ret _=>rfl
 | .ask i j k=>K4 (k (lt i j))
section
variable (r:Nat->Int)
def ltr (i j:Nat):Bool:=decide (r i<r j)
def Kr (p:Array Nat)(i:Nat):Int:=r (p.getD i 0)
def Up (p:Array Nat)(k:Nat):Prop:=∀i j,i<=j->j<k->Kr r p i<=Kr r p j
def ye3 (p:Array Nat)(k:Nat):Prop:=∀i j,i<=j->j<k->Kr r p j<=Kr r p i
end
variable {r:Nat->Int}
theorem ye5 {p q:Array Nat}{i j:Nat}(h:p[i]?=q[j]?):Kr r p i=Kr r q j:=by
 unfold Kr
 rw[Array.getD_eq_getD_getElem?,Array.getD_eq_getD_getElem?,h]
theorem Up.succ {p:Array Nat}{n:Nat}(h:Up r p n)(h1:n=0∨Kr r p (n-1)<=Kr r p n):Up r p (n+1):=λi j hij hj=>by
 by_cases e:j=n
 ·subst e
  by_cases e2:i=j
  ·rw[e2];exact dA _
  ·rcases h1 with z|z
   ·lia
   ·exact dH (h i (j-1) (by lia) (by lia)) z
 ·exact h i j hij (by lia)
theorem ye3.succ {p:Array Nat}{n:Nat}(h:ye3 r p n)(h1:n=0∨Kr r p n<=Kr r p (n-1)):ye3 r p (n+1):=λi j hij hj=>by
 by_cases e:j=n
 ·subst e
  by_cases e2:i=j
  ·rw[e2];exact dA _
  ·rcases h1 with z|z
   ·lia
   ·exact dH z (h i (j-1) (by lia) (by lia))
 ·exact h i j hij (by lia)
theorem ym5 {p:Array Nat}:∀(f n:Nat),Up r p n->∃m,run (ltr r) (kas_asc p f n)=m/\n<=m/\m<=n+f/\Up r p m/\(m<n+f->Kr r p m<Kr r p (m-1))
 | 0,n,h=>⟨n,rfl,ag _,ag _,h,λz=>absurd z (aY _)⟩
 | f+1,n,h=>by
  show ∃m,run (ltr r) (if ltr r (p.getD n 0) (p.getD (n-1) 0)=true then KasT.ret n else kas_asc p f (n+1))=m/\_
  by_cases hc:Kr r p n<Kr r p (n-1)
  ·rw[if_pos (show ltr r (p.getD n 0) (p.getD (n-1) 0)=true from decide_eq_true hc)]
   exact⟨n,rfl,ag _,by lia,h,λ_=>hc⟩
  ·rw[if_neg (by rw[show ltr r (p.getD n 0) (p.getD (n-1) 0)=false from decide_eq_false hc];exact aE)]
   obtain⟨m,e,h1,h2,h3,h4⟩:=ym5 f (n+1) (h.succ (.inr (dw.mp hc)))
   exact⟨m,e,by lia,by lia,h3,λz=>h4 (by lia)⟩
theorem yc2 {p:Array Nat}{i j:Nat}(hj:j<=p.size)(k:Nat):Kr r (kas_rev p i j) k=if i<=k/\k<j then Kr r p (i+j-1-k) else Kr r p k:=by
 have h:=getElem?_mirror_all (xs:=p) (i:=i) hj k
 by_cases c:i<=k/\k<j
 ·rw[if_pos c]at h ⊢
  exact ye5 h
 ·rw[if_neg c]at h ⊢
  exact ye5 h
theorem zr3 {p:Array Nat}{i j:Nat}(hj:j<=p.size)(he:∀k,i<=k->k<j->Kr r p k=Kr r p (j-1))(k:Nat):Kr r (kas_rev p i j) k=Kr r p k:=by
 rw[yc2 hj]
 split
 ·rename_i c
  rw[he _ (by lia) (by lia),he k c.1 c.2]
 ·rfl
theorem zl9:∀(f:Nat) (p:Array Nat) (n q:Nat),n+f<=p.size->q+1<=n->ye3 r p n->(∀k,n-(q+1)<=k->k<n->Kr r p k=Kr r p (n-1)) ->
  ∃p' n' q',run (ltr r) (kas_desc f p n q)=(p',n',q')/\p'.Perm p/\n<=n'/\n'<=n+f/\q'+1<=n'/\ye3 r p' n'/\∀k,n'-(q'+1)<=k->k<n'->Kr r p' k=Kr r p' (n'-1)
 | 0,p,n,q,hs,hq,hd,he=>⟨p,n,q,rfl,Array.Perm.refl _,ag _,ag _,hq,hd,he⟩
 | f+1,p,n,q,hs,hq,hd,he=>by
  show ∃p' n' q',run (ltr r) (if ltr r (p.getD n 0) (p.getD (n-1) 0)=true then(if q > 0 then kas_desc f (kas_rev p (n-(q+1)) n) (n+1) 0 else kas_desc f p (n+1) 0) else KasT.ask (p.getD (n-1) 0) (p.getD n 0) λd=>if d=true then KasT.ret (p,n,q) else kas_desc f p (n+1) (q+1))=(p',n',q')/\_
  by_cases hc:Kr r p n<Kr r p (n-1)
  ·rw[if_pos (show ltr r (p.getD n 0) (p.getD (n-1) 0)=true from decide_eq_true hc)]
   by_cases h0:q > 0
   ·rw[if_pos h0]
    have same:=zr3 (r:=r) (p:=p) (i:=n-(q+1)) (j:=n) (by lia) he
    have hsz:(kas_rev p (n-(q+1)) n).size=p.size:=mirror_size _ _ _ _
    obtain⟨p',n',q',e,h1,h2,h3,h4,h5,h6⟩:=zl9 f (kas_rev p (n-(q+1)) n) (n+1) 0 (by lia) (by lia) (ye3.succ (λi j hij hj=>by rw[same,same];exact hd i j hij hj) (.inr (by rw[same,same];exact dI hc))) (λk a b=>by rw[show k=n by lia];rfl)
    exact⟨p',n',q',e,h1.trans (mirror_perm _ _ _ _),by lia,by lia,h4,h5,h6⟩
   ·rw[if_neg h0]
    obtain⟨p',n',q',e,h1,h2,h3,h4,h5,h6⟩:=zl9 f p (n+1) 0 (by lia) (by lia) (hd.succ (.inr (dI hc))) (λk a b=>by rw[show k=n by lia];rfl)
    exact⟨p',n',q',e,h1,by lia,by lia,h4,h5,h6⟩
  ·rw[if_neg (by rw[show ltr r (p.getD n 0) (p.getD (n-1) 0)=false from decide_eq_false hc];exact aE)]
   show ∃p' n' q',run (ltr r) (if ltr r (p.getD (n-1) 0) (p.getD n 0)=true then KasT.ret (p,n,q) else kas_desc f p (n+1) (q+1))=(p',n',q')/\_
   by_cases hd2:Kr r p (n-1)<Kr r p n
   ·rw[if_pos (show ltr r (p.getD (n-1) 0) (p.getD n 0)=true from decide_eq_true hd2)]
    exact⟨p,n,q,rfl,Array.Perm.refl _,ag _,by lia,hq,hd,he⟩
   ·rw[if_neg (by rw[show ltr r (p.getD (n-1) 0) (p.getD n 0)=false from decide_eq_false hd2];exact aE)]
    have eq:Kr r p n=Kr r p (n-1):=by lia
    obtain⟨p',n',q',e,h1,h2,h3,h4,h5,h6⟩:=zl9 f p (n+1) (q+1) (by lia) (by lia) (hd.succ (.inr (by lia))) (λk a b=>by
     rw[show n+1-1=n by lia]
     by_cases z:k=n
     ·rw[z]
     ·rw[he k (by lia) (by lia),eq])
    exact⟨p',n',q',e,h1,by lia,by lia,h4,h5,h6⟩
theorem yu9 {n nrem:Nat}{p:Array Nat}(hs:nrem<=p.size)(hn:n<=nrem)(hd:ye3 r p n):∃m p',run (ltr r) (kas_tail3 n nrem p)=(m,p')/\p'.Perm p/\n<=m/\m<=nrem/\Up r p' m:=by
 unfold kas_tail3
 rw[K4]
 have hu:Up r (kas_rev p 0 n) n:=λi j hij hj=>by
  rw[yc2 (by lia),yc2 (by lia),if_pos ⟨by lia,by lia⟩,if_pos ⟨by lia,hj⟩]
  exact hd _ _ (by lia) (by lia)
 obtain⟨m,e,h1,h2,h3,_⟩:=ym5 (r:=r) (nrem-n) n hu
 exact⟨m,kas_rev p 0 n,by rw[e];rfl,mirror_perm _ _ _ _,h1,by lia,h3⟩
theorem zi6 {n nrem:Nat}{p:Array Nat}(hs:nrem<=p.size)(h1:1<=n)(hn:n<nrem)(he:∀k,k<n->Kr r p k=Kr r p (n-1))(hc:Kr r p n<Kr r p (n-1)):∃m p',run (ltr r) (kas_descPart n nrem p)=(m,p')/\p'.Perm p/\1<=m/\m<=nrem/\Up r p' m:=by
 unfold kas_descPart
 rw[K4]
 have hd:ye3 r p n:=λi j hij hj=>by rw[he i (by lia),he j hj];exact dA _
 obtain⟨p',n',q',e,h2,h3,h4,h5,h6,h7⟩:=zl9 (r:=r) (nrem-(n+1)) p (n+1) 0 (by lia) (by lia) (hd.succ (.inr (dI hc))) (λk a b=>by rw[show k=n by lia];rfl)
 rw[e]
 have hsz:=h2.size_eq
 show ∃m p'',run (ltr r) (if q' > 0 then kas_tail3 n' nrem (kas_rev p' (n'-(q'+1)) n') else kas_tail3 n' nrem p')=(m,p'')/\_
 by_cases h0:q' > 0
 ·rw[if_pos h0]
  have same:=zr3 (r:=r) (p:=p') (i:=n'-(q'+1)) (j:=n') (by lia) h7
  obtain⟨m,p2,e2,a1,a2,a3,a4⟩:=yu9 (r:=r) (n:=n') (nrem:=nrem) (p:=kas_rev p' (n'-(q'+1)) n') (by rw[show(kas_rev p' (n'-(q'+1)) n').size=p'.size from mirror_size _ _ _ _];lia) (by lia) (λi j hij hj=>by rw[same,same];exact h6 i j hij hj)
  exact⟨m,p2,e2,(a1.trans (mirror_perm _ _ _ _)).trans h2,by lia,a3,a4⟩
 ·rw[if_neg h0]
  obtain⟨m,p2,e2,a1,a2,a3,a4⟩:=yu9 (r:=r) (n:=n') (nrem:=nrem) (p:=p') (by lia) (by lia) h6
  exact⟨m,p2,e2,a1.trans h2,by lia,a3,a4⟩
theorem xa9 {nrem:Nat}{p:Array Nat}(hs:nrem<=p.size)(h1:1<=nrem):∃m p',run (ltr r) (kas_count nrem p)=(m,p')/\p'.Perm p/\1<=m/\m<=nrem/\Up r p' m:=by
 unfold kas_count
 rw[K4]
 obtain⟨n,e,a1,a2,a3,a4⟩:=ym5 (r:=r) (p:=p) (nrem-1) 1 (λi j hij hj=>by rw[show i=j by lia];exact dA _)
 rw[e]
 show ∃m p',run (ltr r) (if (n==nrem)=true then KasT.ret (n,p) else if n > 1 then KasT.ask (p.getD 0 0) (p.getD (n-1) 0) λc=>if c=true then KasT.ret (n,p) else kas_descPart n nrem (kas_rev p 0 n) else kas_descPart n nrem p)=(m,p')/\_
 by_cases e1:n=nrem
 ·rw[if_pos (by rw[e1];simp)]
  exact⟨n,p,rfl,Array.Perm.refl _,a1,by lia,a3⟩
 ·rw[if_neg (by simpa using e1)]
  have hc:=a4 (by lia)
  by_cases h2:n > 1
  ·rw[if_pos h2]
   show ∃m p',run (ltr r) (if ltr r (p.getD 0 0) (p.getD (n-1) 0)=true then KasT.ret (n,p) else kas_descPart n nrem (kas_rev p 0 n))=(m,p')/\_
   by_cases h3:Kr r p 0<Kr r p (n-1)
   ·rw[if_pos (show ltr r (p.getD 0 0) (p.getD (n-1) 0)=true from decide_eq_true h3)]
    exact⟨n,p,rfl,Array.Perm.refl _,a1,by lia,a3⟩
   ·rw[if_neg (by rw[show ltr r (p.getD 0 0) (p.getD (n-1) 0)=false from decide_eq_false h3];exact aE)]
    have eqs:∀k,0<=k->k<n->Kr r p k=Kr r p (n-1):=λk _ hk=>by
     have b1:=a3 0 k (by lia) hk
     have b2:=a3 k (n-1) (by lia) (by lia)
     lia
    have same:=zr3 (r:=r) (p:=p) (i:=0) (j:=n) (by lia) eqs
    obtain⟨m,p2,e2,b1,b2,b3,b4⟩:=zi6 (r:=r) (n:=n) (nrem:=nrem) (p:=kas_rev p 0 n) (by rw[show(kas_rev p 0 n).size=p.size from mirror_size _ _ _ _];exact hs) (by lia) (by lia) (λk hk=>by rw[same,same];exact eqs k (by lia) hk) (by rw[same,same];exact hc)
    exact⟨m,p2,e2,b1.trans (mirror_perm _ _ _ _),b2,b3,b4⟩
  ·rw[if_neg h2]
   have e3:n=1:=by lia
   exact zi6 (r:=r) hs a1 (by lia) (λk hk=>by rw[show k=n-1 by lia]) hc
theorem zq9 {p:Array Nat}{k:Nat}(hu:Up r p k):∀(f l u:Nat),u-l<=f->l<=u->u<=k->(∀i,i<l->Kr r p i<=Kr r p k)->(∀i,u<=i->i<k->Kr r p k<Kr r p i) ->
  ∃x,run (ltr r) (kas_place p k f l u)=x/\x<=k/\(∀i,i<x->Kr r p i<=Kr r p k)/\∀i,x<=i->i<k->Kr r p k<Kr r p i
 | 0,l,u,hf,hl,hk,h1,h2=>⟨l,rfl,by lia,h1,λi a b=>h2 i (by lia) b⟩
 | f+1,l,u,hf,hl,hk,h1,h2=>by
  unfold kas_place
  by_cases c:l ≥ u
  ·rw[if_pos c]
   exact⟨l,rfl,by lia,h1,λi a b=>h2 i (by lia) b⟩
  ·rw[if_neg c]
   show ∃x,run (ltr r) (if ltr r (p.getD k 0) (p.getD ((l+u) / 2) 0)=true then kas_place p k f l ((l+u) / 2) else kas_place p k f ((l+u) / 2+1) u)=x/\_
   by_cases hc:Kr r p k<Kr r p ((l+u) / 2)
   ·rw[if_pos (show ltr r (p.getD k 0) (p.getD ((l+u) / 2) 0)=true from decide_eq_true hc)]
    exact zq9 hu f l _ (by lia) (by lia) (by lia) h1 λi a b=>Int.lt_of_lt_of_le hc (hu _ _ a b)
   ·rw[if_neg (by rw[show ltr r (p.getD k 0) (p.getD ((l+u) / 2) 0)=false from decide_eq_false hc];exact aE)]
    exact zq9 hu f _ u (by lia) (by lia) hk (λi hi=>dH (hu i ((l+u) / 2) (by lia) (by lia)) (dw.mp hc)) h2
theorem xa4:∀(f:Nat) (p:Array Nat) (k:Nat),k+f<=p.size->Up r p k->∃p',run (ltr r) (kas_bin f p k)=p'/\p'.Perm p/\Up r p' (k+f)
 | 0,p,k,_,h=>⟨p,rfl,Array.Perm.refl _,h⟩
 | f+1,p,k,hs,h=>by
  unfold kas_bin
  rw[K4]
  obtain⟨x,e,h1,h2,h3⟩:=zq9 h k 0 k (by lia) (aP _) (ag _) (λi hi=>absurd hi (bX _)) (λi a b=>absurd a (by lia))
  rw[e]
  have key:∀i,Kr r (bubble p k (k-x)) i=if i=x then Kr r p k else if x<i/\i<=k then Kr r p (i-1) else Kr r p i:=λi=>by
   have hb:=getElem?_bubble (xs:=p) (src:=k) (by lia) (k-x) (by lia) i
   rw[show k-(k-x)=x by lia]at hb
   by_cases c1:i=x
   ·rw[if_pos c1]at hb ⊢
    exact ye5 hb
   ·rw[if_neg c1]at hb ⊢
    by_cases c2:x<i/\i<=k
    ·rw[if_pos c2]at hb ⊢
     exact ye5 hb
    ·rw[if_neg c2]at hb ⊢
     exact ye5 hb
  have hu:Up r (bubble p k (k-x)) (k+1):=λi j hij hj=>by
   rw[key,key]
   by_cases i1:i=x
   ·rw[if_pos i1]
    by_cases j1:j=x
    ·rw[if_pos j1];exact dA _
    ·rw[if_neg j1,if_pos ⟨by lia,by lia⟩]
     exact dI (h3 (j-1) (by lia) (by lia))
   ·rw[if_neg i1]
    by_cases i2:x<i/\i<=k
    ·rw[if_pos i2,if_neg (by lia),if_pos ⟨by lia,by lia⟩]
     exact h (i-1) (j-1) (by lia) (by lia)
    ·rw[if_neg i2]
     by_cases j1:j=x
     ·rw[if_pos j1];exact h2 i (by lia)
     ·rw[if_neg j1]
      by_cases j2:x<j/\j<=k
      ·rw[if_pos j2];exact h i (j-1) (by lia) (by lia)
      ·rw[if_neg j2];exact h i j hij (by lia)
  obtain⟨p',e2,a1,a2⟩:=xa4 f (bubble p k (k-x)) (k+1) (by rw[bubble_size];lia) hu
  exact⟨p',e2,a1.trans (bubble_perm _ _ _),by rw[show k+(f+1)=k+1+f by lia];exact a2⟩
theorem sort_ok (n:Nat)(hn:1<=n):∃p,run (ltr r) (kas_sort n)=p/\p.Perm (List.range n).toArray/\Up r p n:=by
 unfold kas_sort
 rw[K4]
 obtain⟨m,p,e,h1,h2,h3,h4⟩:=xa9 (r:=r) (nrem:=n) (p:=(List.range n).toArray) (by simp) hn
 rw[e]
 have hsz:p.size=n:=by rw[h1.size_eq];simp
 show ∃p',run (ltr r) (if m<n then kas_bin (n-max m 1) p (max m 1) else KasT.ret p)=p'/\_
 by_cases c:m<n
 ·rw[if_pos c]
  obtain⟨p',e2,a1,a2⟩:=xa4 (r:=r) (n-max m 1) p (max m 1) (by lia) (by rw[show max m 1=m by lia];exact h4)
  exact⟨p',e2,a1.trans h1,by rw[show max m 1+(n-max m 1)=n by lia]at a2;exact a2⟩
 ·rw[if_neg c]
  exact⟨p,rfl,h1,by rw[show n=m by lia];exact h4⟩
end Tb.SO
namespace Tb.SO
open PySem PySem.W PyProof.Rows
def Al {α:Type}(n:Nat)(Q:α->Prop):KasT α->Prop
 | .ret a=>Q a
 | .ask i j k=>i<n/\j<n/\∀b,Al n Q (k b)
theorem Al.bind {α β:Type}{n:Nat}{Q:α->Prop}{R:β->Prop}{f:α->KasT β}(hf:∀a,Q a->Al n R (f a)):∀t:KasT α,Al n Q t->Al n R (t.bind f)
 | .ret a,h=>hf a h
 | .ask _ _ k,h=>⟨h.1,h.2.1,λb=>Al.bind hf (k b) (h.2.2 b)⟩
theorem Al.ite {α:Type}{n:Nat}{Q:α->Prop}{c:Prop}[Decidable c]{t u:KasT α}(h1:c->Al n Q t)(h2:¬c->Al n Q u):Al n Q (if c then t else u):=by
 by_cases h:c
 ·rw[if_pos h];exact h1 h
 ·rw[if_neg h];exact h2 h
def Sm (n:Nat)(p:Array Nat):Prop:=∀k,p.getD k 0<n
theorem Sm.perm {n:Nat}{p q:Array Nat}(hn:0<n)(h:Sm n p)(e:q.Perm p):Sm n q:=λk=>by
 by_cases hk:k<q.size
 ·have hm:q.getD k 0∈p.toList:=by
   have h1:q.getD k 0∈q.toList:=by simp[Array.getD,hk]
   exact(eE.mp e).mem_iff.mp h1
  obtain⟨i,hi,e2⟩:=bv.mp hm
  have:=h i
  rw[aX]at hi
  simp only[Array.getD,hi,dif_pos]at this
  rw[←e2]
  simpa using this
 ·simp[Array.getD,hk,hn]
theorem ym4 {n:Nat}{p:Array Nat}(hp:Sm n p):∀f m,Al n (λ_=>True) (kas_asc p f m)
 | 0,_=>trivial
 | f+1,m=>⟨hp _,hp _,λb=>Al.ite (λ_=>trivial) λ_=>ym4 hp f (m+1)⟩
theorem zs3 {n:Nat}{p:Array Nat}(hn:0<n)(hp:Sm n p)(i j:Nat):Sm n (kas_rev p i j):=hp.perm hn (mirror_perm _ _ _ _)
theorem zl5 {n:Nat}(hn:0<n):∀(f:Nat) (p:Array Nat) (m q:Nat),Sm n p->Al n (λx=>Sm n x.1) (kas_desc f p m q)
 | 0,p,m,q,hp=>hp
 | f+1,p,m,q,hp=>⟨hp _,hp _,λb=>Al.ite (λ_=>Al.ite (λ_=>zl5 hn f _ _ _ (zs3 hn hp _ _)) λ_=>zl5 hn f p _ _ hp) λ_=>⟨hp _,hp _,λd=>Al.ite (λ_=>hp) λ_=>zl5 hn f p _ _ hp⟩⟩
theorem yq0 {n:Nat}(hn:0<n){m nrem:Nat}{p:Array Nat}(hp:Sm n p):Al n (λx=>Sm n x.2) (kas_tail3 m nrem p):=by
 unfold kas_tail3
 refine Al.bind (Q:=λ_=>True) (λk _=>?_) _ (ym4 (zs3 hn hp _ _) _ _)
 show Sm n (kas_rev p 0 m)
 exact zs3 hn hp _ _
theorem zi1 {n:Nat}(hn:0<n){m nrem:Nat}{p:Array Nat}(hp:Sm n p):Al n (λx=>Sm n x.2) (kas_descPart m nrem p):=by
 unfold kas_descPart
 exact Al.bind (λx hx=>Al.ite (λ_=>yq0 hn (zs3 hn hx _ _)) λ_=>yq0 hn hx) _ (zl5 hn _ _ _ _ hp)
theorem xa2 {n:Nat}(hn:0<n){nrem:Nat}{p:Array Nat}(hp:Sm n p):Al n (λx=>Sm n x.2) (kas_count nrem p):=by
 unfold kas_count
 refine Al.bind (Q:=λ_=>True) (λm _=>?_) _ (ym4 hp _ _)
 have ret:∀k:Nat,Al n (λx:Nat×Array Nat=>Sm n x.2) (KasT.ret (k,p)):=λk=>hp
 refine Al.ite (λ_=>ret m) λ_=>Al.ite (λ_=>?_) λ_=>zi1 hn hp
 exact⟨hp _,hp _,λc=>Al.ite (λ_=>ret m) λ_=>zi1 hn (zs3 hn hp _ _)⟩
theorem zn3 {n:Nat}{p:Array Nat}{k:Nat}(hp:Sm n p):∀f l u,Al n (λ_=>True) (kas_place p k f l u)
 | 0,_,_=>trivial
 | f+1,l,u=>by
  unfold kas_place
  exact Al.ite (λ_=>trivial) λ_=>⟨hp _,hp _,λc=>Al.ite (λ_=>zn3 hp f _ _) λ_=>zn3 hp f _ _⟩
theorem xa1 {n:Nat}(hn:0<n):∀(f:Nat) (p:Array Nat) (k:Nat),Sm n p->Al n (λ_=>True) (kas_bin f p k)
 | 0,_,_,_=>trivial
 | f+1,p,k,hp=>Al.bind (λl _=>xa1 hn f _ _ (hp.perm hn (bubble_perm _ _ _))) _ (zn3 hp _ _ _)
theorem al_sort {n:Nat}(hn:0<n):Al n (λ_=>True) (kas_sort n):=by
 have h0:Sm n (List.range n).toArray:=λk=>by
  by_cases hk:k<n
  ·simp[Array.getD,hk]
  ·simp[Array.getD,hk,hn]
 unfold kas_sort
 refine Al.bind (λx hx=>?_) _ (xa2 hn h0)
 have ret:Al n (λ_:Array Nat=>True) (KasT.ret x.2):=trivial
 exact Al.ite (λ_=>xa1 hn _ _ _ hx) λ_=>ret
theorem wp_run {α:Type}{n:Nat}{Q:α->Prop}{lt:Nat->Nat->Bool}{cmp:Nat->Nat->(Bool->fO->Prop)->fO->Prop}{G:α->fO->Prop}{s:fO}(hc:∀i j C,i<n->j<n->C (lt i j) s->cmp i j C s):∀t:KasT α,Al n Q t->G (run lt t) s->t.kasWp cmp G s
 | .ret _,_,g=>g
 | .ask i j k,h,g=>hc i j _ h.1 h.2.1 (wp_run hc (k (lt i j)) (h.2.2 _) g)
def rk (x:Nat×Nat):Int:=(x.1:Int)*1000+(x.2:Int)
end Tb.SO
namespace L2
open PySem PySem.Spec PyProof.Rows
section
variable {prog:fR}{w:fW}{A:fX}{E:Value->fO->Prop}{s:fO}
theorem u7 {α β:Type}{F:α->β->Prop}:∀{as:List α} {bs:List β},Paired F as bs->∀(i:Nat) (a:α) (b:β),as[i]?=some a->bs[i]?=some b->F a b
 | _,_,.nil,i,a,b,h,_=>by cases i <;> cases h
 | _,_,.cons f _,0,a,b,h,h'=>by
  cases h
  cases h'
  exact f
 | _,_,.cons _ r,i+1,a,b,h,h'=>u7 r i a b (by simpa using h) (by simpa using h')
theorem zq6 {α β:Type}{F:α->β->Prop}(f:Nat->α)(g:Nat->β):∀l:List Nat,(∀i∈l,F (f i) (g i))->Paired F (l.map f) (l.map g)
 | [],_=>.nil
 | i::r,h=>.cons (h i ax) (zq6 f g r λj hj=>h j (ao _ hj))
theorem xd3 {α:Type}(l:List α)(d:α):(List.range l.length).map (λi=>l.getD i d)=l:=by
 apply cy
 intro i
 rw[ah]
 by_cases hi:i<l.length
 ·rw[bh hi]
  simp[ae hi]
 ·rw[aS (by rw[aN];lia),aS (by lia)]
  rfl
end
section
variable {X:Cx}
end
def l4 (P:fR)(w:fW)(K:W.Frag)(mg:Str->Option Value)(base:Heap)(k:Nat)(C:Addr)(m:Str)(ps:List Str)(sp:Sp):Prop :=
 ∃f fd,u6 P w K mg base CX0 k f fd ps sp/\yz8 K C m f/\V5 K fd ps []
def zb0 (P:fR)(w:fW)(K:W.Frag)(mg:Str->Option Value)(base:Heap)(k:Nat)(C:Addr)(m:Str)(ps:List Str)(sp:Sp):Prop :=
 ∃f fd,u6 P w K mg base (CX1 P w) k f fd ps sp/\yz8 K C m f/\V5 K fd ps []
section
variable {X:Cx}{C:Addr}{k j:Nat}{m:Str}{ps:List Str}{sp:Sp}{o e:Expr}{es:List Expr}{ta:TE}{t:TA}{apos pos cpos:Pos}{pl:Sem Bool}
theorem l7 (c:Cls X.K C)(kn:l4 X.prog X.w X.K X.mg X.base k C m ps sp)(hr:Y3 j X.A)(ho:PE X o ta)(ha:PA X (e::es) t)(hj:k<=j:=by decide)
  (hst:fU (e::es) X.env=(false,eval e X.env)::fU es X.env:=by rfl) (hpl:(backTo pos (fU es X.env)).any (·.1)=false:=by rfl)
  (ht:eval (.Call (.Attribute o m apos) (e::es) [] pos) X.env=(do
   let v ←eval o X.env
   standAt apos.atName
   let (f,first) ←holding [v] (getMethod v m pl)
   callWith pos f first (backTo pos (fU (e::es) X.env)) (backToKw pos (gf [] X.env))):=by rfl):PE X (.Call (.Attribute o m apos) (e::es) [] pos) (yl3 C m sp [] E0 ta t):=by
 obtain⟨f,fd,G,hm,hb⟩:=kn
 exact ys1 ho c hm G (hr.mono hj) hb .nil zx6 ha hst hpl ht
theorem ys5 (c:Cls X.K C)(kn:zb0 X.prog X.w X.K X.mg X.base k C m ps sp)(hr:Y3 j X.A)(ho:PE X.nox o ta)(ha:PA X.nox (e::es) t)(hj:k<=j:=by decide)
  (hst:fU (e::es) X.env=(false,eval e X.env)::fU es X.env:=by rfl) (hpl:(backTo cpos (fU es X.env)).any (·.1)=false:=by rfl)
  (ht:eval (.Call (.Attribute o m apos) (e::es) [] cpos) X.env=(do
   let v ←eval o X.env
   standAt apos.atName
   let (f,first) ←holding [v] (getMethod v m pl)
   callWith cpos f first (backTo cpos (fU (e::es) X.env)) (backToKw cpos (gf [] X.env))):=by rfl)
  (hs:swapsWith (.Call (.Attribute o m apos) (e::es) [] cpos) none pos.line X.env=pure false:=by rfl) :
  QS X (.Expr (.Call (.Attribute o m apos) (e::es) [] cpos) pos) (λEX D σ H=>ta σ H λx H1=>∃a dx fs,x=.ref a/\H1 a=some (.ins C dx fs)/\fs.lookup m=none/\t σ H1 λvs H2=>sp (x::vs) H2 (λ_ H3=>D.nx σ H3) (EX σ)):=by
 intro pins s σ H D EX I h
 obtain⟨f,fd,G,hm,hb⟩:=kn
 refine wpAny_Expr_any (W.methodCall_KW (pl:=pl) (fZ (ho pins s σ H _ (I.wish _) h) (λu s1 ⟨x,H1,I1,rx,a,dx,fs,ex,ea,l,q⟩=>?_) λ_ _ z=>z.elim) ht) I.quiet hs
 subst ex
 obtain rfl:u=Value.ref a:=rx
 have I1':Inv X pins σ H1 s1:=I1.unwish
 refine zb1 I1' ea c hm l ?_
 refine W.callWith_K (first:=[.ref a]) (h₀:=X.base) I.ok.mod.kin hm.kp (fZ (ha cpos pins s1 σ H1 _ (I1'.wish _) q) (λus s2 ⟨vs,H2,I2,r,q2⟩=>⟨I2.kIn,?_⟩) λ_ _ z=>z.elim) hst hpl
 have I2':Inv X pins σ H2 s2:=I2.unwish
 have r2:p8 (V.ref a::vs) (Value.ref a::us):=.cons rfl r
 have hl:((Value.ref a::us)++[]).length=ps.length:=by rw[be,←r2.length];exact G.len _ _ _ _ q2
 have bb:=hb s2 (Value.ref a::us) I2'.kIn hl
 rw[be]at bb
 refine wpAny_call (codeAny_mono (G.run X.A X.stack s2 H2 ⟨Value.ref a::us,[]⟩ (Value.ref a::us) (V.ref a::vs) _ (EX σ) (hr.mono hj) I2'.env0 bb r2 q2) λrr s' hq=>?_)
 cases rr with
 | error ex=>exact⟨σ,H2,s2,I2',hq⟩
 | ok fl =>
  cases fl with
  | ret u =>
   obtain⟨v,H',I3,r3,q3⟩:=I2'.after hq
   exact⟨σ,H',I3,q3⟩
  | next=>exact False.elim hq
  | brk=>exact False.elim hq
  | cont=>exact False.elim hq
end
section
variable {P:fR}{w:fW}{K:W.Frag}{mg:Str->Option Value}{base:Heap}{N:List Str}{qual:Str}{scope:Scope}{f:Addr}{cd:Value}{A:fX}{outer:List Env}{s:fO}{H:Hp}{E:XK}
theorem zx8 {C:Addr}{k j:Nat}{m:Str}{ps:List Str}{sp:Sp}{o e:Expr}{es:List Expr}{ta:TE}{t:TA}{apos pos:Pos}{pl:Sem Bool}(c:Cls K C)(kn:zb0 P w K mg base k C m ps sp)(hr:Y3 j (A.deeper (envOfC qual scope s.heap.objs.size f cd)))(ho:PE (Q7 (CX1 P w) P w K mg base N qual scope f cd A outer s H E) o ta)
  (ha:PA (Q7 (CX1 P w) P w K mg base N qual scope f cd A outer s H E) (e::es) t) (hj:k<=j:=by decide)
  (hst:fU (e::es) (envOfC qual scope s.heap.objs.size f cd)=(false,eval e (envOfC qual scope s.heap.objs.size f cd))::fU es (envOfC qual scope s.heap.objs.size f cd):=by rfl) (hpl:(backTo pos (fU es (envOfC qual scope s.heap.objs.size f cd))).any (·.1)=false:=by rfl)
  (ht:eval (.Call (.Attribute o m apos) (e::es) [] pos) (envOfC qual scope s.heap.objs.size f cd)=(do
   let v ←eval o (envOfC qual scope s.heap.objs.size f cd)
   standAt apos.atName
   let (f',first) ←holding [v] (getMethod v m pl)
   callWith pos f' first (backTo pos (fU (e::es) (envOfC qual scope s.heap.objs.size f cd))) (backToKw pos (gf [] (envOfC qual scope s.heap.objs.size f cd)))):=by rfl) :
  PE (Q7 (CX1 P w) P w K mg base N qual scope f cd A outer s H E) (.Call (.Attribute o m apos) (e::es) [] pos) (yl3 C m sp [] E ta t):=by
 obtain⟨g,gd,G,hm,hb⟩:=kn
 exact ys1 (X:=Q7 (CX1 P w) P w K mg base N qual scope f cd A outer s H E) ho c hm G (hr.mono hj) hb .nil xn0 ha hst hpl ht
end
section
variable {prog:fR}{w:fW}{A:fX}{E:Value->fO->Prop}{s:fO}
end
section
variable {X:Cx}
end
section
variable {X:Cx}
theorem xe9 {y:Str}{np pos:Pos}{b0:Stmt}{suite:List Stmt}{M1:List ExceptHandler}{ts:Addr->TS}{C0 D0:Addr}{tl0 tlD:List Value}{n0 nD:String}(h0:zk1 X.K C0 tl0 n0)(hD:zk1 X.K D0 tlD nD)(hc:(Value.ref C0::tl0).contains (.ref D0)=true)
  (hg:Gl X y) (hm:X.mg y=some (.ref D0)) (hs:∀ea,PSs (xs0 X ea) (b0::suite) (ts ea)) (hdb:(y==("__debug__":Str))=false:=by decide) :
  PH X (.ExceptHandler (some (.Name y np)) none (b0::suite) pos::M1) (λea C D σ H=>C=C0/\ts ea D σ H):=by
 rintro pins σ H ea C s D G ⟨rfl,h⟩
 have I:=G.inv
 have Is:=I.sx ea
 obtain⟨B,a0,fl,hH,all⟩:=id G
 obtain⟨oe,vs,he,hcl,_,_⟩:=fl.first
 refine wpAny_handleBy_cons (codeAny_handlers_test (A6 Is hg hm ?_ hdb)) (by intro q;cases q)
 refine yh4 he hcl (h0.at I.kIn).1 (hD.at I.kIn).1 (hD.at I.kIn).2 hc ?_
 refine codeAny_handlers_suite ?_
 refine lands_againW fl λh2 fl2 u2=>?_
 have I2:Inv X pins σ H { s with heap:=h2,toks:=s.toks }:=all h2 s.toks fl2 u2
 refine fZ (hs ea pins _ _ H D (I2.sx ea) h) (λf s4 h4=>?_) λ_ _ z=>z.elim
 cases f with
 | next =>
  obtain⟨σ',H',I4,q4⟩:=h4
  exact⟨σ',H',I4.unsx I.ok,q4⟩
 | brk =>
  obtain⟨σ',H',I4,q4⟩:=h4
  exact⟨σ',H',I4.unsx I.ok,q4⟩
 | cont =>
  obtain⟨σ',H',I4,q4⟩:=h4
  exact⟨σ',H',I4.unsx I.ok,q4⟩
 | ret u =>
  obtain⟨v,σ',H',I4,r4,q4⟩:=h4
  exact⟨v,σ',H',I4.unsx I.ok,r4,q4⟩
end
structure xn8 (K:W.Frag) (C:Addr):Prop where
 cl:Cls K C
 ha:W.findIn K (.ref C) "__class__"=some (some (.builtin "object.__class__"))
 hn:W.specialIn K (.builtin "object.__class__") "__get__"=some (some (.builtin "getset_descriptor.__get__"))
 ht:W.takesIn K (.builtin "object.__class__")=some true
 hm:W.mroIn K C (.type "object")=some true
section
variable {X:Cx}
theorem zy9:V8 X (.builtin "isinstance") (λxs H Q=>∃(a C D dx:Addr) (fs:List (Str×V)) (b:Bool),xs=[.ref a,.ref D]/\H a=some (.ins C dx fs)/\xn8 X.K C/\W.kitOne X.K (.ref C) (.ref D)=some b/\Q (.bl b) H):=by
 intro pins s σ H xs us Q I r h
 obtain⟨a,C,D,dx,fs,b,rfl,ha,k,e,q⟩:=h
 obtain⟨u,w',rfl,rx,rc⟩:=xh9 r
 cases rc
 exact zx2 I rx (K0.ins ha k.cl k.ha k.hn k.ht k.hm) e λtk=>⟨.bl b,H,I.tok tk,rfl,q⟩
end
section
variable {prog:fR}{w:fW}{A:fX}{E:Value->fO->Prop}{s:fO}
def two (x y:Int)(i:Nat):Int:=if i=0 then x else y
end
section
variable {X:Cx}
end
section
variable {X:Cx}{pos:Pos}
end
section
variable {P:fR}{w:fW}{K:W.Frag}{mg:Str->Option Value}{base:Heap}{f:Addr}{fd:gh}{ps:List Str}{k:Nat}
theorem u6.calm {sp:Sp}(F:u6 P w K mg base (CX1 P w) k f fd ps sp):u6 P w K mg base CX0 k f fd ps (λvs H Q _=>sp vs H Q E0) :=
 ⟨λvs H Q _ h=>F.len vs H Q E0 h,λA outer s H args us vs Q E hr he hb hv hs=>codeAny_mono (F.run A outer s H args us vs Q E0 hr he hb hv hs) λr s' h=>by
  cases r with
  | ok fl=>cases fl <;> exact h
  | error e =>
   obtain⟨ea,C,a0,B,H',_,_,_,_,_,_,_,_,_,_,_,_,hE⟩:=h
   exact hE.elim⟩
end
theorem xu1 {k:Key}{u:Value}(h:zp1 k u=true):o0 (kV k) u:=by
 rcases h9 h with⟨i,t,rfl,rfl⟩|⟨x,t,rfl,rfl⟩
 ·exact⟨t,rfl⟩
 ·exact⟨t,rfl⟩
section
variable {X:Cx}{pins:List (Addr×Obj)}{σ:St}{H:Hp}{s:fO}
theorem Inv.freeze {a:Addr}{kvs:List (Key×V)}{ob:Obj}(I:Inv X pins σ H s)(e:H a=some (.dK kvs))(ho:s.heap.get? a=some ob):Inv X pins σ (upd H a (.frz ob (.dK kvs))) s:=by
 have mu:Mut (H a):=by rw[e];exact True.intro
 refine Inv.write (t':=s.toks) (o:=.frz ob (.dK kvs)) I mu (.inl rfl) (λ_ _ _ q=>q) ⟨ob,ho⟩ ⟨ho,?_⟩
 refine(I.hok a _ e).stay (λ_ _ _ q=>q) (λb q=>?_) λb xs q=>?_
 ·rw[z5 (k9 q e (by intro z;cases z))];exact q
 ·rw[z5 (k9 q e (by intro z;cases z))];exact q
theorem Inv.thaw {a:Addr}{kvs:List (Key×V)}{ob:Obj}(I:Inv X pins σ H s)(e:H a=some (.frz ob (.dK kvs)))(hnf:∀o u,X.H₀ a≠some (.frz o u)):Inv X pins σ (upd H a (.dK kvs)) s:=by
 have ne:∀b o,H b=some o->o≠.frz ob (.dK kvs)->b≠a:=λb o q d=>k9 q e d
 have nen:∀b,H b=none->b≠a:=λb q z=>by subst z;rw[q]at e;cases e
 refine⟨I.ok,I.os,I.bare,⟨I.base.keep,I.base.slot,λb o q n hx=>?_,I.base.there,λb xs q=>?_,λb o u q=>?_,λb ps q=>?_⟩,I.loc,I.cell,?_,λx c q=>?_,λp hp=>?_,λb u q=>?_,I.len⟩
 ·have r:=I.base.free b o q n hx
  rw[z5 (nen b r)];exact r
 ·have r:=I.base.tups b xs q
  rw[z5 (ne b _ r (by intro z;cases z))];exact r
 ·have r:=I.base.frzs b o u q
  have hb:b≠a:=λz=>by subst z;exact hnf o u q
  rw[z5 hb];exact r
 ·obtain⟨m,r⟩:=I.base.tbls b ps q
  exact⟨m,by rw[z5 (ne b _ r (by intro z;cases z))];exact r⟩
 ·rw[z5 (nen _ I.free)];exact I.free
 ·rw[z5 (nen _ (I.freeC x c q))];exact I.freeC x c q
 ·obtain⟨h1,h2,h3,h4,h5⟩:=I.pin p hp
  exact⟨h1,by rw[z5 (nen _ h2)];exact h2,h3,h4,h5⟩
 ·by_cases hb:b=a
  ·subst hb
   rw[z3]at q
   cases q
   obtain⟨_,r⟩:=I.hok b _ e
   refine r.stay (λ_ _ _ q=>q) (λc q=>?_) λc xs q=>?_
   ·rw[z5 (ne c _ q (by intro z;cases z))];exact q
   ·rw[z5 (ne c _ q (by intro z;cases z))];exact q
  ·rw[z5 hb]at q
   refine(I.hok b u q).stay (λ_ _ _ q=>q) (λc q=>?_) λc xs q=>?_
   ·rw[z5 (ne c _ q (by intro z;cases z))];exact q
   ·rw[z5 (ne c _ q (by intro z;cases z))];exact q
theorem Inv.nofrz {a:Addr}{kvs:List (Key×V)}(I:Inv X pins σ H s)(e:H a=some (.dK kvs)):∀o u,X.H₀ a≠some (.frz o u):=λo u q=>by
 have r:=I.base.frzs a o u q
 rw[e]at r
 cases r
end
def ItK (ob:Obj)(d:Addr)(kvs:List (Key×V)):It :=
 ⟨λi H=>H d=some (.frz ob (.dK kvs))/\i<kvs.length,λi H x H'=>H'=H/\∃k v,kvs[i]?=some (k,v)/\x=kV k,λi H=>H d=some (.frz ob (.dK kvs))/\kvs.length<=i⟩
theorem yq6 {P:fR}{w:fW}{H:Hp}{h:Heap}{d:Addr}{ob:Obj}{kvs:List (Key×V)}{ep:Nat}(ok:HOk P w H h)(hep:∃es,ob.data=.dict es ep)(e:H d=some (.frz ob (.dK kvs))) :
  ∃vs,KV kvs vs/\h.DictAt (c6 P w) d vs ep:=by
 obtain⟨ho,_,_,vs,rel,o,es,ep',ho',hx,hd,r⟩:=ok d _ e
 rw[ho]at ho'
 cases ho'
 obtain⟨es',he⟩:=hep
 rw[he]at hd
 cases hd
 exact⟨vs,rel,ob,_,ho,hx,he,r⟩
theorem xm7 {κ:Type}:∀{kvs:List (κ×V)} {vs:List (κ×Value)},KV kvs vs->∀{i:Nat} {k:κ} {v:V},kvs[i]?=some (k,v)->∃u,vs[i]?=some (k,u)/\o0 v u
 | _,_,.nil,i,k,v,h=>by cases i <;> cases h
 | _,_,.cons (b:=q) f _,0,k,v,h=>by
  obtain⟨k',u⟩:=q
  cases h
  obtain⟨e,r⟩:=f
  cases e
  exact⟨u,rfl,r⟩
 | _,_,.cons _ r,i+1,k,v,h=>by
  obtain⟨u,hu,f⟩:=xm7 r (i:=i) (by simpa using h)
  exact⟨u,by simpa using hu,f⟩
theorem yz2 {P:fR}{w:fW}{K:W.Frag}{tg:Expr}(ob:Obj)(d it:Addr)(kvs:List (Key×V))(ep:Nat)(hep:∃es,ob.data=.dict es ep):ye7 P w K tg (ItK ob d kvs) [it] it (λi h=>h.IsKeyIter it d i kvs.length ep) where
 mem:=by simp
 obj:=λi h st b hb=>by
  have e:b=it:=by simpa using hb
  subst e
  obtain⟨o,e,c,d⟩:=st
  exact⟨o,e,λv z=>by rw[d]at z;cases z⟩
 keep:=λi h h' st k=>by
  obtain⟨o,e,r⟩:=st
  exact⟨o,k it (by simp) o e,r⟩
 item:=by
  intro X hP hw hK hc i pins s σ H E I hf st hg
  subst hP hw hK
  obtain⟨e,hi⟩:=hg
  obtain⟨vs,rel,da⟩:=yq6 I.hok hep e
  have hx:kvs[i]?=some (kvs[i].1,kvs[i].2):=ae hi
  obtain⟨u,hu,_⟩:=xm7 rel hx
  obtain⟨f0,f1,f2,f3,f4,f5⟩:=hf it (by simp)
  have st2:s.heap.IsKeyIter it d i vs.length ep:=by rw[←rel.length];exact st
  refine wpAny_pyNext_dict_item st2 da hu λkey h' hk st' sb=>?_
  rw[←rel.length]at st'
  have I1:Inv X pins σ H { s with heap:=h' }:=I.turned (t':=s.toks) (λb o hb e=>(sb.2 b hb).trans e) f0 f1 f3 f4 f5
  obtain⟨o,e2,c,dd⟩:=id st'
  exact⟨key,rfl,yg6 (s:={ s with heap:=h' }) e2 c dd (by decide) ⟨kV kvs[i].1,H,I1,xu1 hk,⟨rfl,_,_,hx,rfl⟩,st',λb hb=>(hf b hb).1⟩⟩
 done:=by
  intro X hP hw hK hc i pins s σ H E I hf st hg
  subst hP hw hK
  obtain⟨e,hi⟩:=hg
  obtain⟨vs,rel,da⟩:=yq6 I.hok hep e
  obtain⟨f0,f1,f2,f3,f4,f5⟩:=hf it (by simp)
  have st2:s.heap.IsKeyIter it d i vs.length ep:=by rw[←rel.length];exact st
  exact wpAny_pyNext_dict_end (I.ok.hd hc) st2 da (aS (by rw[←rel.length];exact hi)) λh' eb=>⟨rfl,I.turned (t':=s.toks) (λb o hb e=>eb b o hb e) f0 f1 f3 f4 f5⟩
 self:=λ_ _ _ _ _ st h=>wpAny_pyIter_keyiter st h
section
variable {X:Cx}{tg:Expr}
def xt7 (td:TE):TI:=λσ H R=>td σ H λx H1=>∃d kvs,x=.ref d/\H1 d=some (.dK kvs)/\∀ob,R (ItK ob d kvs) (upd H1 d (.frz ob (.dK kvs)))
theorem ys3 {l:Expr}{td:TE}(hl:PE X l td):PI X tg l (xt7 td):=by
 intro pins s σ H R I h
 refine thn (hl pins s σ H _ I h) λv s1 ⟨x,H1,I1,r1,q1⟩=>?_
 obtain⟨d,kvs,e,hd,q⟩:=q1
 subst e
 cases r1
 obtain⟨hz,hs,vs,rel,dd⟩:=xb5 I1.hok hd
 obtain⟨ep,da⟩:=dd.dictAt
 obtain⟨ob,es,ho,hx,hdat,r⟩:=id da
 have I2:=I1.freeze hd ho
 refine wpAny_pyIter_dict hs da ?_
 rw[←rel.length]
 refine⟨s1.heap.objs.size,[s1.heap.objs.size],_,_,_,rfl,I2.kept (t':=s1.toks) λb o e=>ar _ e,yz2 ob d _ kvs ep ⟨es,hdat⟩,⟨_,aB _ rfl,rfl,rfl⟩,λb hb=>?_,q ob⟩
 have e:b=s1.heap.objs.size:=by simpa using hb
 subst e
 exact I2.fpOk (ag _) (I2.hok.fresh (ag _))
def xv8 (t:TE):TE:=λσ H Q=>∃d kvs,H d=some (.dK kvs)/\t σ H λv H'=>(∃ob,H' d=some (.frz ob (.dK kvs)))/\Q v (upd H' d (.dK kvs))
theorem ys2 {e:Expr}{t:TE}(h:PE X e t):PE X e (xv8 t):=by
 intro pins s σ H Q I hw
 obtain⟨d,kvs,hd,q⟩:=hw
 have nf:=I.nofrz hd
 refine thn (h pins s σ H _ I q) λv s1 ⟨x,H1,I1,r1,⟨ob,hf⟩,q1⟩=>?_
 exact⟨x,_,I1.thaw hf nf,r1,q1⟩
theorem yv9 {ob:Obj}{d:Addr}{kvs:List (Key×V)}{fr:List Nat}{te:CT TE}{σ:St}{H1:Hp}{Q:Addr->Hp->Prop}(hS:H1 d=some (.frz ob (.dK kvs)))(ys:List V)(hn:ys.length=kvs.length)(hz:kvs.length<=fQ)
  (turn:∀(i:Nat) H k v,kvs[i]?=some (k,v)->y0 H1 H->∀C₀ s₀ H₀ fp,te C₀ s₀ H₀ fp (some (kV k)::fr.map λj=>(σ[j]?).getD none) H λy H4=>y0 H H4/\ys[i]?=some y)
  (fin:∀D H,H1 D=none->y0 H1 H->H D=some (.lst ys)->Q D H) :
  ∀D,H1 D=none->∃W:Nat->Nat->St->Hp->Prop,(∃m,W 0 m (N5 1 fr σ) (upd H1 D (.lst [])))/\∀i m σ' H',W i m σ' H' ->
  ((ItK ob d kvs).stop i H'/\Q D H')∨((ItK ob d kvs).go i H'/\∀x H2,(ItK ob d kvs).yld i H' x H2->∀C₀ s₀ H₀ fp,U4 0 x σ' H2 λσ3 H3=>∃N:VK,te C₀ s₀ H₀ fp σ3 H3 N/\∀y H4,N y H4 ->
   ∃ys m',H4 D=some (.lst ys)/\ys.length<fQ/\m'<m/\W (i+1) m' σ3 (upd H4 D (.lst (ys++[y])))) :=
 zg2 ys hn hz (λH s=>⟨s _ _ hS,ag _⟩) (λi H hi s=>⟨s _ _ hS,hi⟩) (λi H x H2 hi s y=>⟨y.1,by obtain⟨k,v,hk,rfl⟩:=y.2;exact turn i H k v hk s⟩) fin
end
def zt6 (P:fR)(w:fW)(K:W.Frag)(mg:Str->Option Value)(base:Heap)(k:Nat)(C:Addr)(x:Str)(ps:List Str)(sp:Sp):Prop :=
 ∃f fd,u6 P w K mg base CX0 k f fd ps sp/\Mk K C f/\mg x=some (.ref C)/\V5 K fd ps []
section
variable {X:Cx}{C:Addr}{k j:Nat}{x:Str}{ps:List Str}{sp:Sp}{e:Expr}{es:List Expr}{t:TA}{p pos:Pos}
theorem J4 (kn:zt6 X.prog X.w X.K X.mg X.base k C x ps sp)(hr:Y3 j X.A)(hg:Gl X x)(ha:PA X (e::es) t)(hj:k+1<=j:=by decide)(hdb:(x==("__debug__":Str))=false:=by decide)
  (he:fU (e::es) X.env=(false,eval e X.env)::fU es X.env:=by rfl) (hpl:(backTo pos (fU es X.env)).any (·.1)=false:=by rfl):PE X (.Call (.Name x p) (e::es) [] pos) (xh3 C sp [] E0 t):=by
 obtain⟨f,fd,G,hM,hm,hb⟩:=kn
 exact ys0 hM G (hr.mono hj) hg hm hb .nil zx6 ha hdb he hpl
def ipM:TIp:=λx y H Q=>∃i j,x=.int i/\y=.int j/\xi0 i j/\Q (.int (i*j)) H
theorem xo8:PIp X .Mult ipM:=by
 intro pins s σ H x y v u Q I r1 r2 h
 obtain⟨i,j,e1,e2,hc,q⟩:=h
 subst e1;subst e2
 obtain⟨t,rfl⟩:=r1
 obtain⟨t',rfl⟩:=r2
 exact imul_int ⟨.int _,H,I.tok _,⟨_,rfl⟩,q⟩ hc.ok
end
section
variable {prog:fR}{w:fW}{A:fX}{E:Value->fO->Prop}{s:fO}
end
section
variable {X:Cx}
end
def xm1 (tk tv:TE):TE:=λσ H Q=>∀p,H p=none->tk σ (upd H p (.dT [])) λx H1=>tv σ H1 λy H2=>H2 p=some (.dT [])/\∃(ks:List Key) (b:Addr),x=.ref b/\H2 b=some (.tup (ks.map kV))/\Q (.ref p) (upd H2 p (.dT [(ks,y)]))
theorem zx7 {X:Cx}{pos:Pos}{k v:Expr}{tk tv:TE}(hu:X.A.units+1<cLine)(hk:PE X k tk)(hv:PE X v tv):PE X (.Dict [some k] [v] pos) (xm1 tk tv):=by
 intro pins s σ H Q I q
 have hn:=I.hok.fresh (ag s.heap.objs.size)
 have I1:=I.laid (a:=s.heap.objs.size) (o:=.dT []) (h':=s.heap.push { cls:=.type "dict",data:=.dict #[] }) (t':=s.toks) (λ_ _ q=>ar _ q) (ag _) (yg3 s.heap I.big)
 have hl:(pairTrees [some k] [v] X.env pos).length=1:=pairTrees_length [some k] [v] X.env pos rfl rfl
 rw[arm_eval_Dict,zip_pairTrees [some k] [v] X.env pos rfl rfl,dictDisplay_pairs _ (λe=>by rw[e]at hl;cases hl) (by rw[hl];decide)]
 refine fN (wpAny_standAt (fN ?_))
 unfold subDict
 refine fN (wpAny_alloc (fN (fY ?_)))
 rw[if_pos (by rw[hl];decide)]
 refine fN (pairTrees_cons_walk (thn (hk pins _ σ _ _ I1 (q _ hn)) λu s1 ⟨x,H1,I2,rx,q1⟩=>thn (hv pins s1 σ H1 _ I2 q1) λr s2 ⟨y,H2,I3,ry,e,ks,b,ex,eb,q3⟩=>pairTrees_nil_walk (fY ?_)))
 subst ex
 cases (show u=Value.ref b from rx)
 obtain⟨z,hd,xs,rel,dd⟩:=xb6 I3.hok e
 cases rel
 rw[dG]
 refine fN (fN ?_)
 show fS (fV X.prog X.w) X.A (dictSet s.heap.objs.size (.ref b) r >>= λ_=>pure (ForInStep.yield PUnit.unit)) _ _ _
 refine fN (wpAny_dictSet_heap (hsz:=aP _) (knd:=tupleKind (c6 X.prog X.w)) (Nat.lt_of_succ_lt hu) (zp2 I3.hok eb) dd λh' dd' hs=>fP ?_)
 show fS (fV X.prog X.w) X.A (forIn ([]:List (Value×Value)) PUnit.unit _) _ _ _
 rw[List.forIn_nil]
 refine fP (fP (fP (fP ⟨.ref s.heap.objs.size,_,?_,rfl,q3⟩)))
 obtain⟨o,es,ep,hq,h2,h3,h4,_,h5⟩:=dd'
 refine zl8 I3 (by rw[e];exact True.intro) hs ⟨o,hq⟩ ⟨(by show 1<=fQ;decide),hd,_,Paired.cons ⟨rfl,?_,ry⟩ .nil,o,es,ep,hq,h2,h3,h4,h5⟩
 rw[z5 (k9 eb e (λz=>nomatch z))]
 exact eb
section
variable {X:Cx}{C:Addr}{k j:Nat}{x:Str}{ps:List Str}{sp:Sp}{e:Expr}{es:List Expr}{t:TA}{p cpos pos:Pos}
end
end L2
namespace L2
open PySem PySem.Spec PyProof.Rows PySem.Builtin
section
variable {X:Cx}
def xf2 (K:W.Frag):R2:=λx y H Q=>∃a b xs ys,x=.ref a/\y=.ref b/\SqT K H a xs/\SqT K H b ys/\xs.length+ys.length<=fQ /\
 (xs=[]->Q (.ref b) H)/\(xs≠[]->ys=[]->Q (.ref a) H)/\(xs≠[]->ys≠[]->∀p,H p=none->Q (.ref p) (upd H p (.tup (xs++ys))))
theorem yi7:OpR X (binaryOp .Add) (xf2 X.K):=by
 intro pins s σ H x y v u Q I rx ry h
 obtain⟨a,b,xs,ys,rfl,rfl,ha,hb,hz,q0,q1,q2⟩:=h
 by_cases hx:xs=[]
 ·cases rx
  cases ry
  obtain⟨its,r1,p1,_⟩:=I.tuple ha
  obtain⟨its2,r2,p2,_⟩:=I.tuple hb
  obtain⟨⟨cls,dd,data,sl⟩,ho,hc,n,hd⟩:=id p1
  obtain⟨⟨cls2,dd2,data2,sl2⟩,ho2,hc2,n2,hd2⟩:=id p2
  simp only at hc hd hc2 hd2
  subst hc hd hc2 hd2
  have hv:its=[]:=r1.nil_iff.mpr hx
  exact concat_meets ⟨_,ho,rfl⟩ ⟨_,ho2,rfl⟩ noFill_tuple_add seq_tuple_add PySem.F.slot_tuple_add PySem.F.entry_tuple_add (PySem.F.args_tuple_add_2 _ _) (tuple_addW0 a b its.toArray its2.toArray n n2 dd dd2 sl sl2 (by simp[hv])) ⟨ho,ho2,⟨.ref b,H,I,rfl,q0 hx⟩⟩
 ·exact xk2 pins s σ H (.ref a) (.ref b) v u Q I rx ry ⟨a,b,xs,ys,rfl,rfl,ha,hb,hx,hz,q1 hx,q2 hx⟩
end
end L2
namespace L2
open PySem PyProof PyProof.Rows
theorem yo4 {β:Type}(n:Nat)(b:β)(f:Nat->β->Sem (ForInStep β)):forIn [:n] b f=forIn (List.range' 0 n 1) b f:=by
 rw[Std.Legacy.Range.forIn_eq_forIn_range']
 have hsz:([:n]:Std.Legacy.Range).size=n:=by simp[Std.Legacy.Range.size]
 show forIn (List.range' 0 ([:n]:Std.Legacy.Range).size 1) b f=_
 rw[hsz]
theorem zp0:∀{its:List Value} {ns:List Int},IntsAre its ns->∀{i:Nat},i<ns.length->∃z t,its[i]?=some (.int z t)/\ns[i]?=some z
 | _,_,.nil,i,h=>absurd h (bX _)
 | _,_,.cons n t r,0,_=>⟨n,t,rfl,rfl⟩
 | _,_,.cons n t r,i+1,h=>by
  obtain⟨z,t',h1,h2⟩:=zp0 r (i:=i) (by simpa using h)
  exact⟨z,t',by simpa using h1,by simpa using h2⟩
section
variable {prog:fR}{w:fW}{A:fX}{E:Value->fO->Prop}{s:fO}
theorem yn0 {t:Addr}{its:List Value}{ns:List Int}{x:Int}{u:Tok}{k:Nat}{P:Fin->fO->Prop}(ht:IsTup s.heap t its.toArray)(hi:IntsAre its ns)(hk:ns[k]?=some x)(hb:∀i,i<k->ns[i]?≠some x)
  (h:P (.done (.ret (.int k s.toks))) { s with toks:=s.toks+1 }):fS (fV prog w) A (Builtin.«tuple.index» ⟨[.ref t,.int x u],[]⟩) P E s:=by
 show fS _ _ (Builtin.Tuple.tupleItemsOf (.ref t) >>= _) _ _ s
 refine fN (tupleItemsOf_ ht ?_)
 refine fN (fP ?_)
 refine fN (fP ?_)
 have hkl:k<ns.length:=(al.mp hk).1
 have hlen:its.length=ns.length:=by clear hk hb h ht hkl;induction hi with|nil=>rfl|cons n t r ih=>simp[ih]
 dsimp only
 rw[show min its.toArray.size its.toArray.size=ns.length by rw[Nat.min_self,aA,hlen],yo4]
 refine fN (wpAny_forIn_list _ (λM1 b s'=>b.1=none/\s'=s/\∃i,i<=k/\M1=List.range' i (ns.length-i) 1) _ ?_ ?_ _ _ ⟨rfl,rfl,0,aP _,by rw[di]⟩)
 ·rintro y M1 b s' ⟨eb,rfl,i,hik,er⟩
  rw[show ns.length-i=(ns.length-(i+1))+1 by lia,dC]at er
  obtain⟨rfl,rfl⟩:=List.cons.inj er
  obtain⟨z,tz,h1,h2⟩:=zp0 hi (i:=y) (by lia)
  have h1':its.toArray[y]?=some (.int z tz):=by simpa using h1
  rw[h1']
  refine fN (wpAny_eqBool_int ?_)
  by_cases c:y=k
  ·subst c
   rw[hk]at h2
   obtain rfl:=Option.some.inj h2
   rw[if_pos (by simp)]
   unfold retInt
   exact fN (fN (wpAny_mkInt (fP (fP (fP h)))))
  ·have hne:z≠x:=λe=>hb y (by lia) (e ▸ h2)
   rw[if_neg (by simpa using hne)]
   exact fP ⟨rfl,rfl,y+1,by lia,rfl⟩
 ·rintro⟨b1,b2⟩ s' ⟨eb,rfl,i,hik,er⟩
  rw[show ns.length-i=(ns.length-(i+1))+1 by lia,dC]at er
  cases er
end
section
variable {X:Cx}
def xr3 (K:W.Frag):V->List V->Hp->VK->Prop:=λx vs H Q=>∃(a:Addr) (ns:List Int) (z:Int) (k:Nat),x=.ref a/\vs=[.int z]/\SqT K H a (ns.map V.int)/\ns[k]?=some z/\(∀i,i<k->ns[i]?≠some z)/\Q (.int k) H
theorem xd4:MtR X "tuple.index" (xr3 X.K):=by
 intro pins s σ H x xs v us Q I rx rv h
 obtain⟨a,ns,z,k,rfl,rfl,ha,hk,hb,q⟩:=h
 cases rx
 obtain⟨u,rfl,ru⟩:=N9 rv
 obtain⟨t,rfl⟩:=ru
 obtain⟨its,r1,p1,_⟩:=I.tuple ha
 have i1:IntsAre its ns:=by simpa using T9 r1
 exact wpAny_call_entry PySem.F.slot_tuple_index p1.typeIs PySem.F.entry_tuple_index (yn0 p1 i1 hk hb ⟨_,rfl,⟨.int k,H,I.tok _,⟨_,rfl⟩,q⟩⟩) (PySem.F.args_tuple_index_2 _ _)
def xy0 (r:V->List V->Hp->VK->Prop)(to:TE)(t:TA):TE:=λσ H Q=>to σ H λx H1=>(∃a xs,x=.ref a/\H1 a=some (.tup xs))/\t σ H1 λxs H2=>r x xs H2 Q
theorem xr0 {o e:Expr}{es:List Expr}{to:TE}{t:TA}{name:Str}{apos cpos:Pos}{id:String}{r:V->List V->Hp->VK->Prop}(slot:Slot "tuple" name id)(hty:typeOf (.builtin id)=pure (.type "method_descriptor"))(hm:MtR X id r)(ho:PE X o to)(ha:PA X (e::es) t)
  (hbase:attributeBase o name X.env (eval o X.env)=eval o X.env:=by rfl)
  (hfew:((backTo cpos (fU (e::es) X.env)).all (λx=>!x.1)&&(backToKw cpos (gf [] X.env)).all (λx=>x.1.isSome)
   && decide ((e::es).length+([]:List Keyword).length+(if ([]:List Keyword).isEmpty then 0 else 1)<30))=true:=by rfl)
  (hline:(apos.endLine==cpos.line)=true:=by rfl) (hs:fU (e::es) X.env=(false,eval e X.env)::fU es X.env:=by rfl) (hplain:(backTo cpos (fU es X.env)).any (·.1)=false:=by rfl) :
  PE X (.Call (.Attribute o name apos) (e::es) [] cpos) (xy0 r to t):=by
 intro pins s σ H Q I h
 refine wpAny_Call_method_late hbase hfew hline rfl (thn (ho pins s σ H _ I h) λv s1 ⟨x,H1,I1,r1,⟨a,xs,ex,ea⟩,q1⟩=>?_)
 subst ex
 cases (show v=Value.ref a from r1)
 obtain⟨_,its,_,o',h1,h2,n,h3,h4⟩:=(show m9 X.prog X.w H1 s1.heap a (.tup xs) from I1.hok a _ ea)
 refine⟨"tuple",id,PySem.F.plainAttrs_tuple,slot,hty,⟨o',h1,h2⟩,λb hb=>(by cases hb;exact⟨o',h1,h4⟩),?_⟩
 have hA:=ha cpos pins s1 σ H1 _ I1 q1
 rw[hs]at hA ⊢
 refine Calls.callWith_builtin (by show(false || (backTo cpos (fU es X.env)).any (·.1))=false;rw[hplain] <;> rfl) (Calls.evalArgs_plain ?_)
 exact thn hA λus s2 ⟨vs,H2,I2,r2,q2⟩=>hm pins s2 σ H2 (.ref a) vs _ us Q I2 rfl r2 q2
end
end L2
namespace HT
open PySem PyProof.Rows
section
open PySem.SeqAt
open PySem.AutoSeq1 (wpAny_loadPart')
open PySem.MeetsSeq PySem.MeetsSeq2 PySem.MeetsSeq3
end
section
variable {prog:fR}{w:fW}{A:fX}{E:Value->fO->Prop}{s:fO}
end
end HT
namespace L2
open PySem PySem.Spec PyProof.Rows
theorem zm2:∀xs:List Int,HT.lexLt xs xs=false
 | []=>rfl
 | x::xs=>by rw[HT.lexLt_cons,if_pos rfl,zm2 xs]
theorem ya1:∀{xs ys:List Int},HT.lexLt xs ys=true->HT.lexLt ys xs=false
 | [],[],h=>by cases h
 | [],y::ys,_=>rfl
 | x::xs,[],h=>by cases h
 | x::xs,y::ys,h=>by
  rw[HT.lexLt_cons]at h ⊢
  by_cases e:x=y
  ·rw[if_pos e]at h
   rw[if_pos e.symm]
   exact ya1 h
  ·rw[if_neg e]at h
   rw[if_neg (λz=>e z.symm)]
   have:=of_decide_eq_true h
   exact decide_eq_false (by lia)
theorem ya0:∀{xs ys zs:List Int},HT.lexLt ys xs=false->HT.lexLt zs ys=false->HT.lexLt zs xs=false
 | xs,ys,[],h1,h2=>by
  cases ys with
  | nil=>cases xs with
   | nil=>rfl
   | cons x xs=>rw[HT.lexLt_nil_cons]at h1;cases h1
  | cons y ys=>rw[HT.lexLt_nil_cons]at h2;cases h2
 | [],ys,z::zs,h1,h2=>rfl
 | x::xs,[],z::zs,h1,h2=>by rw[HT.lexLt_nil_cons]at h1;cases h1
 | x::xs,y::ys,z::zs,h1,h2=>by
  rw[HT.lexLt_cons]at h1 h2 ⊢
  by_cases e1:y=x
  ·rw[if_pos e1]at h1
   by_cases e2:z=y
   ·rw[if_pos e2]at h2
    rw[if_pos (e2.trans e1)]
    exact ya0 h1 h2
   ·rw[if_neg e2]at h2
    have:=of_decide_eq_false h2
    rw[if_neg (by lia)]
    exact decide_eq_false (by lia)
  ·rw[if_neg e1]at h1
   have h1:=of_decide_eq_false h1
   by_cases e2:z=y
   ·rw[if_neg (by lia)]
    exact decide_eq_false (by lia)
   ·rw[if_neg e2]at h2
    have:=of_decide_eq_false h2
    rw[if_neg (by lia)]
    exact decide_eq_false (by lia)
theorem zp6:∀{xs ys:List Int},HT.lexLt xs ys=false->HT.lexLt ys xs=false->xs=ys
 | [],[],_,_=>rfl
 | [],y::ys,h,_=>by rw[HT.lexLt_nil_cons]at h;cases h
 | x::xs,[],_,h=>by rw[HT.lexLt_nil_cons]at h;cases h
 | x::xs,y::ys,h1,h2=>by
  rw[HT.lexLt_cons]at h1 h2
  by_cases e:x=y
  ·rw[if_pos e]at h1
   rw[if_pos e.symm]at h2
   rw[e,zp6 h1 h2]
  ·rw[if_neg e]at h1
   rw[if_neg (λz=>e z.symm)]at h2
   have:=of_decide_eq_false h1
   have:=of_decide_eq_false h2
   lia
theorem zn5 {bt:Nat->Nat->Bool}{le:Nat->Nat->Prop}(r:∀i,le i i)(tr:∀i j k,le i j->le j k->le i k)(yes:∀i j,bt i j=true->le i j)(no:∀i j,bt i j=false->le j i):∀k,argBest bt k<=k/\∀i,i<=k->le (argBest bt k) i
 | 0=>⟨ag _,λi hi=>by rw[Nat.le_zero.mp hi];exact r 0⟩
 | k+1=>by
  obtain⟨h1,h2⟩:=zn5 r tr yes no k
  unfold argBest
  cases e:bt (k+1) (argBest bt k) with
  | true =>
   rw[if_pos rfl]
   refine⟨ag _,λi hi=>?_⟩
   rcases cv hi with z|z
   ·exact tr _ _ _ (yes _ _ e) (h2 i (by lia))
   ·rw[z];exact r _
  | false =>
   rw[if_neg aE]
   refine⟨by lia,λi hi=>?_⟩
   rcases cv hi with z|z
   ·exact h2 i (by lia)
   ·rw[z];exact no _ _ e
section
variable {X:Cx}
theorem yv7 (hc:X.calm=true):V8 X (.builtin "min") (λxs H Q=>∃(p:Addr) (ns:List Int),xs=[.ref p]/\SqL X.K H p (ns.map V.int)/\0<ns.length/\∀M:Int,M∈ns->(∀a∈ns,M<=a)->Q (.int M) H):=by
 intro pins s σ H xs us Q I r h
 obtain⟨p,ns,rfl,hq,hne,q⟩:=h
 obtain⟨u,rfl,rx⟩:=N9 r
 cases rx
 obtain⟨its,r1,p1,hz⟩:=I.list hq
 have hi:=T9 r1
 obtain⟨ys,ey⟩:=hi.allInts.items
 have eN:ns=ys.toList.map (·.1):=by rw[←hi.numsOf,←nums_intItems,←ey]
 have hsz:0<ys.size:=by
  rw[eN,aa,aX]at hne
  exact hne
 have p2:=p1.isList
 rw[ey]at p2
 refine min_intList (I.ok.hd hc) p2 hsz λv h' tk hv hk=>?_
 obtain⟨t,rfl⟩:=intItems_at hv
 obtain⟨b1,b2⟩:=zn5 (bt:=λi j=>decide (numAt ys i<numAt ys j)) (le:=λi j=>numAt ys i<=numAt ys j) (λi=>dA _) (λi j k=>dH) (λi j e=>dI (of_decide_eq_true e)) (λi j e=>dw.mp (of_decide_eq_false e)) (ys.size-1)
 refine⟨.int _,H,I.kept hk,⟨_,rfl⟩,q _ ?_ λa ha=>?_⟩
 ·rw[eN,numAt_eq]
  exact getD_mem (by rw[aa,aX];lia)
 ·rw[eN]at ha
  obtain⟨j,hj,rfl⟩:=mem_getD ha
  rw[aa,aX]at hj
  rw[←numAt_eq]
  exact b2 j (by lia)
end
section
variable {prog:fR}{w:fW}{A:fX}{R:Result->fO->Prop}{I S:Addr}{fp wr:List Addr}{n:Nat}{P:Nat->Value->Prop}{St:Nat->Heap->Prop}{J:Heap->Prop}{bt:Nat->Nat->Bool}
def yz6 (prog:fR)(w:fW)(A:fX)(P:Nat->Value->Prop)(J:Heap->Prop)(bt:Nat->Nat->Bool):Prop :=
 ∀i j vi vj (z:fO) (Q:Value->fO->Prop) (E:Value->fO->Prop),J z.heap->P i vi->P j vj->Q (.bool (bt i j)) z->fS (fV prog w) A (richCompare .Lt vi vj) Q E z
theorem ya4:(toString "min"++toString ".loop":String)="min.loop":=by decide
theorem xq4 (W:Walks prog w A.in1 I fp wr n P St)(ask:yz6 prog w A.in1 P J bt)(kp:∀h h':Heap,J h->(∀b o,b∉wr->b≠S->h.get? b=some o->h'.get? b=some o)->J h')(hf:S∉fp):∀(k j:Nat) (z:fO) (vb:Value) (c:Nat),n-(j+1)=k->j+1<=n->St (j+1) z.heap->J z.heap->P (argBest bt j) vb ->
  z.heap.get? S=some { cls:=.type "list",dict:=none,data:=.seq #[vb,vb] c,slots:=#[] }->(∀v h' tk,P (argBest bt (n-1)) v->(∀b o,b∉wr->b≠S->z.heap.get? b=some o->h'.get? b=some o)->R (.ok (.ret v)) { z with heap:=h',toks:=tk })->codeAny (fV prog w) A (.builtin "min.loop" ⟨[.ref I,.none,.ref S],[]⟩) R z:=by
 have hw:S∉wr:=λh=>hf (W.sub _ h)
 intro k
 induction k with
 | zero =>
  intro j z vb c hk hj st hJ pb hS hR
  have e:j+1=n:=by lia
  refine codeAny_builtin PySem.F.entry_min_loop ?_
  rw[Around.under_plainId PySem.F.plain_min_loop _]
  show fS _ A.in1 (seqItems? (.ref S) >>= _) _ _ z
  refine fN (wpAny_seqItems hS rfl ?_)
  show fS _ A.in1 (tryCatch (pyNext (.ref I)) _ >>= _) _ _ z
  refine fN (wpAny_tryCatch (W.done z _ _ (e ▸ st) λh1 tk k1=>?_))
  have hS1:=k1 S _ hw hS
  show fS _ A.in1 (updateSeq S (λ_=>#[]) >>= _) _ _ { z with heap:=h1,toks:=tk }
  refine fN (wpAny_updateSeq hS1 rfl (fN (wpAny_letGo (fP ?_))))
  exact hR vb _ tk (by rw[←e];exact pb) λb o hb hbS x=>(Heap.get?_update_other _ _ (Ne.symm hbS)).trans (k1 b o hb x)
 | succ k ih =>
  intro j z vb c hk hj st hJ pb hS hR
  have lt:j+1<n:=by lia
  refine codeAny_builtin PySem.F.entry_min_loop ?_
  rw[Around.under_plainId PySem.F.plain_min_loop _]
  show fS _ A.in1 (seqItems? (.ref S) >>= _) _ _ z
  refine fN (wpAny_seqItems hS rfl ?_)
  show fS _ A.in1 (tryCatch (pyNext (.ref I)) _ >>= _) _ _ z
  refine fN (wpAny_tryCatch (W.item (j+1) z _ _ lt st λv h1 tk hP st1 k1=>?_))
  have hS1:=k1 S _ hw hS
  have J1:J h1:=kp _ _ hJ λb o hb _ x=>k1 b o hb x
  show fS _ A.in1 (tryCatch (holding [v,v] (richCompare .Lt v vb >>= _)) _ >>= _) _ _ { z with heap:=h1,toks:=tk }
  refine fN (wpAny_tryCatch (fY (fN (ask (j+1) (argBest bt j) v vb _ _ _ J1 hP pb ?_))))
  refine fN (fY (wpAny_truthy_bool (fN (wpAny_letGo (fP ?_)))))
  cases hb:bt (j+1) (argBest bt j) with
  | true =>
   simp only[if_true]
   refine fN (wpAny_updateSeq hS1 rfl (fN (wpAny_letGo ?_)))
   rw[ya4]
   have up:∀(u:Obj->Obj) (b:Addr) (o:Obj),b≠S->h1.get? b=some o->(h1.update S u).get? b=some o:=λu b o hbS x=>(Heap.get?_update_other _ _ (Ne.symm hbS)).trans x
   refine fP ⟨plainId_quiet PySem.F.plain_min_loop _,ih (j+1) _ v _ (by lia) lt (W.frame _ _ _ st1 λb hbf o x=>up _ b o (λy=>hf (by rw[←y];exact hbf)) x) (kp _ _ J1 λb o _ hbS x=>up _ b o hbS x) (by simp only[argBest,hb,if_true];exact hP) (Heap.get?_update_self _ hS1 rfl) λv' h2 tk2 hP' k2=>?_⟩
   exact hR v' h2 tk2 hP' λb o hb hbS x=>k2 b o hb hbS (up _ b o hbS (k1 b o hb x))
  | false =>
   simp only[bC,if_false]
   refine fN (wpAny_letGo ?_)
   rw[ya4]
   refine fP ⟨plainId_quiet PySem.F.plain_min_loop _,ih (j+1) _ vb c (by lia) lt st1 J1 (by simp only[argBest,hb,bC,if_false];exact pb) hS1 λv' h2 tk2 hP' k2=>?_⟩
   exact hR v' h2 tk2 hP' λb o hb hbS x=>k2 b o hb hbS (k1 b o hb x)
theorem yx9 (W:Walks prog w A.in1 I fp wr n P St)(ask:yz6 prog w A.in1 P J bt)(kp:∀h h':Heap,J h->(∀b o,b∉wr->b≠S->h.get? b=some o->h'.get? b=some o)->J h')(hf:S∉fp)(hn:0<n){z:fO}{c:Nat}(st:St 0 z.heap)(hJ:J z.heap)
  (hS:z.heap.get? S=some { cls:=.type "list",dict:=none,data:=.seq #[] c,slots:=#[] }) (hR:∀v h' tk,P (argBest bt (n-1)) v->(∀b o,b∉wr->b≠S->z.heap.get? b=some o->h'.get? b=some o)->R (.ok (.ret v)) { z with heap:=h',toks:=tk }):codeAny (fV prog w) A (.builtin "min.loop" ⟨[.ref I,.none,.ref S],[]⟩) R z:=by
 have hw:S∉wr:=λh=>hf (W.sub _ h)
 refine codeAny_builtin PySem.F.entry_min_loop ?_
 rw[Around.under_plainId PySem.F.plain_min_loop _]
 show fS _ A.in1 (seqItems? (.ref S) >>= _) _ _ z
 refine fN (wpAny_seqItems hS rfl ?_)
 show fS _ A.in1 (tryCatch (pyNext (.ref I)) _ >>= _) _ _ z
 refine fN (wpAny_tryCatch (W.item 0 z _ _ hn st λv h1 tk hP st1 k1=>?_))
 have hS1:=k1 S _ hw hS
 show fS _ A.in1 (updateSeq S (λ_=>#[v,v]) >>= _) _ _ { z with heap:=h1,toks:=tk }
 refine fN (wpAny_updateSeq hS1 rfl ?_)
 rw[ya4]
 have up:∀(u:Obj->Obj) (b:Addr) (o:Obj),b≠S->h1.get? b=some o->(h1.update S u).get? b=some o:=λu b o hbS x=>(Heap.get?_update_other _ _ (Ne.symm hbS)).trans x
 refine fP ⟨plainId_quiet PySem.F.plain_min_loop _,xq4 W ask kp hf _ 0 _ v _ rfl hn (W.frame _ _ _ st1 λb hbf o x=>up _ b o (λy=>hf (by rw[←y];exact hbf)) x) (kp _ _ (kp _ _ hJ λb o hb _ x=>k1 b o hb x) λb o _ hbS x=>up _ b o hbS x) hP (Heap.get?_update_self _ hS1 rfl) λv' h2 tk2 hP' k2=>?_⟩
 exact hR v' h2 tk2 hP' λb o hb hbS x=>k2 b o hb hbS (up _ b o hbS (k1 b o hb x))
theorem zz0 {E:Value->fO->Prop}{s:fO}{x:Value}{Q:Value->fO->Prop}(hJ:∀h h':Heap,J h->(∀b o,b<s.heap.objs.size->h.get? b=some o->h'.get? b=some o)->J h')
  (h:fS (fV prog w) A.in1 (pyIter x) (λit z=>∃I fp wr n P St bt,it=.ref I/\Walks prog w A.in1 I fp wr n P St/\St 0 z.heap/\(∀b∈fp,b<z.heap.objs.size)/\(∀b∈wr,s.heap.objs.size<=b)/\s.heap.objs.size<=z.heap.objs.size/\0<n/\J z.heap/\yz6 prog w A.in1 P J bt/\∀v h' tk,P (argBest bt (n-1)) v->(∀b o,b∉wr->z.heap.get? b=some o->h'.get? b=some o)->Q v { z with heap:=h',toks:=tk }) E s):fS (fV prog w) A (call (.builtin "min") [x]) Q E s:=by
 refine call_function_tree PySem.F.kind_min PySem.F.plain_min PySem.F.entry_min (PySem.F.args_min1 _) ?_
 show fS _ A.in1 (Builtin.Builtins.bindParams "min" ["key","default"] 0 ⟨[],[]⟩ >>= λ_=>_) _ _ s
 refine fN (wpAny_of_eq (show Builtin.Builtins.bindParams "min" ["key","default"] 0 ⟨[],[]⟩=pure [none,none] from rfl) (fN (fP (fN (fZ h (λit z hz=>?_) λ_ _ e=>e)))))
 obtain⟨I,fp,wr,n,P,St,bt,rfl,W,st,lo,hi,sz,hn,j0,ask,hQ⟩:=hz
 refine fN (wpAny_newObj_type ?_)
 have hf:z.heap.objs.size∉fp:=λm=>aY _ (lo _ m)
 rw[ya4]
 have pu:∀b o,z.heap.get? b=some o->(z.heap.push { cls:=.type "list",data:=.seq #[] }).get? b=some o:=λb o x=>ar _ x
 refine fP ⟨plainId_quiet PySem.F.plain_min_loop _,yx9 (J:=J) (S:=z.heap.objs.size) W ask (λh1 h2 j1 k=>hJ _ _ j1 λb o hb x=>k b o (λm=>aY _ (aQ hb (hi b m))) (aO (aQ hb sz)) x) hf hn (W.frame _ _ _ st λb _ o x=>pu b o x) (hJ _ _ j0 λb o _ x=>pu b o x) (aB _ rfl) λv h' tk hP k=>?_⟩
 exact hQ v h' tk hP λb o hb x=>k b o hb (aO (az x)) (pu b o x)
end
section
variable {X:Cx}
theorem yv8 (hc:X.calm=true)(hu:X.A.units+64<cLine):V8 X (.builtin "min") (λxs H Q=>∃(p:Addr) (as:List Addr) (rs:List (List Int)),xs=[.ref p]/\SqL X.K H p (as.map V.ref)/\as.length=rs.length/\(∀(i:Nat) (a:Addr) (r:List Int),as[i]?=some a->rs[i]?=some r->H a=some (.tup (r.map V.int)))/\0<as.length /\
  ∀(i:Nat) (a:Addr) (r:List Int),as[i]?=some a->rs[i]?=some r->(∀r'∈rs,HT.lexLt r' r=false)->Q (.ref a) H):=by
 intro pins s σ H xs us Q I r h
 obtain⟨p,as,rs,rfl,hq,hl,hr,hn,q⟩:=h
 obtain⟨u,rfl,rx⟩:=N9 r
 cases rx
 obtain⟨its,r1,p1,hz⟩:=I.list hq
 have e1:=zi0 r1
 have rsAt:∀i,i<as.length->rs[i]?=some (rs.getD i []):=λi hi=>by rw[ay,ae (hl ▸ hi)];rfl
 have row:∀i a,as[i]?=some a->∃us,IsTup s.heap a us.toArray/\IntsAre us (rs.getD i []):=λi a ha=>by
  have hi:i<as.length:=(al.mp ha).1
  obtain⟨us,r2,p2,_⟩:=I.tuple (SqT.of (hr i a _ ha (rsAt i hi)))
  exact⟨us,p2,T9 r2⟩
 have hL:=p1.isList
 have hlt:p<s.heap.objs.size:=by
  obtain⟨o,ho,_⟩:=hL
  exact az ho
 refine zz0 (J:=λh=>∀b o,s.heap.get? b=some o->h.get? b=some o) (λh h' j k b o x=>k b o (az x) (j b o x)) (wpAny_pyIter_list hL ?_)
 refine⟨s.heap.objs.size,[s.heap.objs.size,p],[s.heap.objs.size],its.toArray.size,_,_,λi j=>HT.lexLt (rs.getD i []) (rs.getD j []),rfl,Walks.list (A:=X.A.in1) (by simp[I.ok.hd hc]) _ p (aO hlt) its.toArray,⟨⟨_,aB _ rfl,rfl,rfl⟩,hL.push _⟩,λb hb=>?_,λb hb=>?_,?_,?_,λb o x=>ar _ x,?_,λv h' tk hP hk=>?_⟩
 ·show b<(s.heap.push _).objs.size
  rw[cN]
  rcases aw.mp hb with z|z
  ·rw[z];exact bK _
  ·rw[af.mp z];exact cz hlt
 ·rw[af.mp hb]
  exact ag _
 ·show s.heap.objs.size<=(s.heap.push _).objs.size
  rw[cN]
  exact cF _
 ·rw[e1,aA,aa]
  exact hn
 ·intro i j vi vj z Q' E' hJ hi hj hQ
  have at':∀(i:Nat) (v:Value),its.toArray[i]?=some v->∃a,as[i]?=some a/\v=Value.ref a:=λi v hv=>by
   rw[eZ,e1,ah]at hv
   cases e:as[i]? with
   | none=>rw[e]at hv;cases hv
   | some a=>rw[e]at hv;cases hv;exact⟨a,rfl,rfl⟩
  obtain⟨a,ha,rfl⟩:=at' i vi hi
  obtain⟨b,hb,rfl⟩:=at' j vj hj
  obtain⟨us1,t1,i1⟩:=row i a ha
  obtain⟨us2,t2,i2⟩:=row j b hb
  have up:∀{c:Addr} {its':Array Value},IsTup s.heap c its'->IsTup z.heap c its':=λt=>by
   obtain⟨o,ho,r⟩:=t
   exact⟨o,hJ _ _ ho,r⟩
  have hu1:X.A.in1.units<cLine:=by
   show X.A.units+1<cLine
   lia
  exact(HT.lt_tupInts (up t1) (up t2) i1 i2 hu1 hQ:fS (fV X.prog X.w) X.A.in1 (compareOp .Lt (.ref a) (.ref b)) Q' E' z)
 ·have hsz:its.toArray.size=as.length:=by rw[e1,aA,aa]
  rw[hsz]at hP
  obtain⟨b1,b2⟩:=zn5 (bt:=λi j=>HT.lexLt (rs.getD i []) (rs.getD j [])) (le:=λi j=>HT.lexLt (rs.getD j []) (rs.getD i [])=false) (λi=>zm2 _) (λi j k h1 h2=>ya0 h1 h2) (λi j e=>ya1 e) (λi j e=>e) (as.length-1)
  generalize argBest (λi j=>HT.lexLt (rs.getD i []) (rs.getD j [])) (as.length-1)=k at hP b1 b2
  have hk1:k<as.length:=by lia
  have ha:as[k]?=some as[k]:=ae hk1
  have hv:v=Value.ref as[k]:=by
   rw[eZ,e1,ah,ha]at hP
   exact(Option.some.inj hP).symm
  subst hv
  refine⟨.ref as[k],H,I.kept λb o x=>hk b o (λm=>aO (az x) (af.mp m)) (ar _ x),rfl,q k _ _ ha (rsAt k hk1) λr' hr'=>?_⟩
  obtain⟨j,hj,rfl⟩:=bv.mp hr'
  have:=b2 j (by lia)
  rw[ay (l:=rs) (i:=j),ae hj]at this
  exact this
end
section
variable {M:Model}{A:fX}{E:Value->fO->Prop}{s:fO}
end
section
variable {X:Cx}{pins:List (Addr×Obj)}{σ:St}{H:Hp}{s:fO}
end
section
variable {X:Cx}{own:Nat}{fr:List Nat}{N':List Str}{tg iter elt:Expr}{scope:Scope}{pos:Pos}{wi:TI}{g:CT TG}{te:CT TE}
end
section
variable {pr:fR}{wd:fW}{κ:Type}[DecidableEq κ]{kh:HeapKind pr wd κ}
theorem xh6 (d:Addr)(ne:(d==sysModules)=false):MeetsIn pr wd (Builtin.«dict.__len__» ⟨[.ref d],[]⟩) (λ_ R s=>∃xs,s.heap.DictOfH kh d xs/\R (.ok (.ret (.int xs.length s.toks))) { s with toks:=s.toks+1 }) :=
 .of_wp λA R s ⟨xs,hx,q⟩=>by
  obtain⟨ob,en,ep,h1,h2,h3,h4,h5⟩:=hx
  show fS _ _ (dictSize d >>= _) _ _ s
  unfold dictSize
  refine fN (fN (wpAny_dictEntries h1 h3 (fP ?_)))
  show fS _ _ (Builtin.Dict.pendingCount d >>= _) _ _ s
  refine fN (wpAny_pendingCount_other ne (wpAny_ret_mkInt ?_))
  have e:en.size=xs.length:=size_of_entries h4
  rw[Nat.add_zero,e];exact q
theorem xm3 {A:fX}{E:Value->fO->Prop}{s:fO}{d:Addr}{xs:List (κ×Addr×Value)}{Q:Value->fO->Prop}(ne:(d==sysModules)=false)(hx:s.heap.DictOfH kh d xs)(fit:(xs.length:Int)<2 ^ 63)(q:Q (.int xs.length (s.toks+1)) { s with toks:=s.toks+1+1 }) :
  fS (fV pr wd) A (call (.builtin "len") [.ref d]) Q E s:=by
 refine Calls.call_function_entry kind_len plain_len entry_len (args_len1 _) ?_
 unfold Builtin.«len»
 refine fN (m:=oneArg "len" _) (fP ?_)
 refine fN (m:=callSpecial? (.ref d) (Str.ofString "__len__")) (wpAny_callSpecial?_slot (name:=Str.ofString "__len__") hx.typeIs F.slot_dict_len (call_meetsIn F.slot_dict_len hx.typeIs F.entry_dict_len (F.args_dict_len_1 _) (xh6 (kh:=kh) d ne) ⟨xs,hx,?_⟩))
 show fS _ _ _ _ _ { s with toks:=s.toks+1 }
 refine fN (fY (fP (fN (wpAny_letGo ?_))))
 show fS _ _ (if ((xs.length:Nat):Int)<0 then _ else _) _ _ _
 rw[if_neg (show ¬((xs.length:Nat):Int)<0 by lia)]
 show fS _ _ (if ((xs.length:Nat):Int) ≥ 2 ^ 63 then _ else _) _ _ _
 rw[if_neg (show ¬((xs.length:Nat):Int) ≥ 2 ^ 63 by lia)]
 exact fN (wpAny_mkInt (fP ⟨_,rfl,q⟩))
end
section
variable {X:Cx}
theorem yn4 {H:Hp}{kvs:List (List Key×V)}{xs:List (List Key×Addr×Value)}(h:KT H kvs xs):kvs.length=xs.length:=Paired.length h
theorem zi3:V8 X (.builtin "len") (λxs H Q=>∃a kvs,xs=[V.ref a]/\H a=some (.dT kvs)/\Q (.int kvs.length) H):=by
 intro pins s σ H xs us Q I r h
 obtain⟨a,kvs,rfl,ha,q⟩:=h
 obtain⟨u,rfl,ru⟩:=N9 r
 cases ru
 obtain⟨z,ne,ys,rel,dd⟩:=xb6 I.hok ha
 have hl:=yn4 rel
 refine xm3 ne dd (by rw[←hl];rw[sizeLine_eq]at z;lia) ⟨.int kvs.length,H,I.tok _,⟨_,by rw[hl]⟩,q⟩
end
end L2
namespace Tb.SO
end Tb.SO
namespace L2
open PySem PySem.Spec PyProof.Rows
section
variable {prog:fR}{w:fW}{A:fX}{E:Value->fO->Prop}{s:fO}
end
section
variable {X:Cx}{pins:List (Addr×Obj)}{σ:St}{H H':Hp}{s:fO}{h':Heap}
end
section
variable {X:Cx}
end
section
variable {X:Cx}{pins:List (Addr×Obj)}{σ:St}{H:Hp}{s:fO}
end
section
variable {X:Cx}{tg:Expr}
end
section
variable {prog:fR}{w:fW}{A:fX}{E:Value->fO->Prop}{s:fO}
end
section
variable {X:Cx}{pins:List (Addr×Obj)}{σ:St}{H:Hp}{s:fO}
theorem Inv.freezeT {a:Addr}{kvs:List (List Key×V)}{ob:Obj}(I:Inv X pins σ H s)(e:H a=some (.dT kvs))(ho:s.heap.get? a=some ob):Inv X pins σ (upd H a (.frz ob (.dT kvs))) s:=by
 have mu:Mut (H a):=by rw[e];exact True.intro
 refine Inv.write (t':=s.toks) (o:=.frz ob (.dT kvs)) I mu (.inl rfl) (λ_ _ _ q=>q) ⟨ob,ho⟩ ⟨ho,?_⟩
 refine(I.hok a _ e).stay (λ_ _ _ q=>q) (λb q=>?_) λb xs q=>?_
 ·rw[z5 (k9 q e (by intro z;cases z))];exact q
 ·rw[z5 (k9 q e (by intro z;cases z))];exact q
theorem Inv.thawT {a:Addr}{kvs:List (List Key×V)}{ob:Obj}(I:Inv X pins σ H s)(e:H a=some (.frz ob (.dT kvs)))(hnf:∀o u,X.H₀ a≠some (.frz o u)):Inv X pins σ (upd H a (.dT kvs)) s:=by
 have ne:∀b o,H b=some o->o≠.frz ob (.dT kvs)->b≠a:=λb o q d=>k9 q e d
 have nen:∀b,H b=none->b≠a:=λb q z=>by subst z;rw[q]at e;cases e
 refine⟨I.ok,I.os,I.bare,⟨I.base.keep,I.base.slot,λb o q n hx=>?_,I.base.there,λb xs q=>?_,λb o u q=>?_,λb ps q=>?_⟩,I.loc,I.cell,?_,λx c q=>?_,λp hp=>?_,λb u q=>?_,I.len⟩
 ·have r:=I.base.free b o q n hx
  rw[z5 (nen b r)];exact r
 ·have r:=I.base.tups b xs q
  rw[z5 (ne b _ r (by intro z;cases z))];exact r
 ·have r:=I.base.frzs b o u q
  have hb:b≠a:=λz=>by subst z;exact hnf o u q
  rw[z5 hb];exact r
 ·obtain⟨m,r⟩:=I.base.tbls b ps q
  exact⟨m,by rw[z5 (ne b _ r (by intro z;cases z))];exact r⟩
 ·rw[z5 (nen _ I.free)];exact I.free
 ·rw[z5 (nen _ (I.freeC x c q))];exact I.freeC x c q
 ·obtain⟨h1,h2,h3,h4,h5⟩:=I.pin p hp
  exact⟨h1,by rw[z5 (nen _ h2)];exact h2,h3,h4,h5⟩
 ·by_cases hb:b=a
  ·subst hb
   rw[z3]at q
   cases q
   obtain⟨_,r⟩:=I.hok b _ e
   refine r.stay (λ_ _ _ q=>q) (λc q=>?_) λc xs q=>?_
   ·rw[z5 (ne c _ q (by intro z;cases z))];exact q
   ·rw[z5 (ne c _ q (by intro z;cases z))];exact q
  ·rw[z5 hb]at q
   refine(I.hok b u q).stay (λ_ _ _ q=>q) (λc q=>?_) λc xs q=>?_
   ·rw[z5 (ne c _ q (by intro z;cases z))];exact q
   ·rw[z5 (ne c _ q (by intro z;cases z))];exact q
theorem Inv.nofrzT {a:Addr}{kvs:List (List Key×V)}(I:Inv X pins σ H s)(e:H a=some (.dT kvs)):∀o u,X.H₀ a≠some (.frz o u):=λo u q=>by
 have r:=I.base.frzs a o u q
 rw[e]at r
 cases r
end
def xv4 (t:TS):TS:=λD σ H=>∃d kvs,H d=some (.dT kvs)/\∀ob,t ⟨λσ' H'=>H' d=some (.frz ob (.dT kvs))/\D.nx σ' (upd H' d (.dT kvs)),λ_ _=>False,λ_ _=>False,λ_ _=>False⟩ σ (upd H d (.frz ob (.dT kvs)))
theorem xk7 {X:Cx}{st:Stmt}{t:TS}(h:PS X st t):PS X st (xv4 t):=by
 intro pins s σ H D I hw
 obtain⟨d,kvs,hd,q⟩:=hw
 obtain⟨hz,hs,xs,rel,od,es,ep,ho,r⟩:=zo4 I.hok (.inl hd)
 refine thn (h pins s σ _ _ (I.freezeT hd ho) (q od)) λr s1 hq=>?_
 cases r with
 | next=>obtain⟨σ',H',I',h1,h2⟩:=hq;exact⟨σ',_,I'.thawT h1 (I.nofrzT hd),h2⟩
 | brk=>obtain⟨_,_,_,z⟩:=hq;exact z.elim
 | cont=>obtain⟨_,_,_,z⟩:=hq;exact z.elim
 | ret u=>obtain⟨_,_,_,_,_,z⟩:=hq;exact z.elim
theorem xu2 {H:Hp}{kvs:List (List Key×V)}{xs:List (List Key×Addr×Value)}(r:KT H kvs xs){i:Nat}{k:List Key}{v:V}(h:kvs[i]?=some (k,v)):∃b u,xs[i]?=some (k,b,u)/\H b=some (.tup (k.map kV))/\o0 v u:=by
 induction r generalizing i with
 | nil=>cases h
 | @cons p q ps qs f t ih =>
  cases i with
  | zero =>
   cases h
   obtain⟨e,f2,f3⟩:=f
   obtain⟨k',b,u⟩:=q
   cases e
   exact⟨b,u,rfl,f2,f3⟩
  | succ i =>
   obtain⟨b,u,h1,h2⟩:=ih (i:=i) (by simpa using h)
   exact⟨b,u,by simpa using h1,h2⟩
theorem yf9 {P:fR}{w:fW}{H:Hp}{h:Heap}{d:Addr}{ob:Obj}{kvs:List (List Key×V)}{ep:Nat}{es:Array DictEntry}(ok:HOk P w H h)(hep:ob.data=.dict es ep)(e:H d=some (.frz ob (.dT kvs))) :
  h.get? d=some ob/\es.size=kvs.length/\∀(i:Nat) (k:List Key) (v:V),kvs[i]?=some (k,v)->∃(b:Addr) (u:Value) (en:DictEntry),es[i]?=some en/\en.key=.ref b/\en.val=u/\H b=some (.tup (k.map kV))/\o0 v u:=by
 obtain⟨ho,_⟩:=ok d _ e
 obtain⟨hz,hs,xs,rel,od,es',ep',ho',hx,hd,he,_⟩:=zo4 ok (.inr ⟨ob,e⟩)
 rw[ho]at ho'
 cases ho'
 rw[hep]at hd
 cases hd
 refine⟨ho,?_,λi k v hi=>?_⟩
 ·rw[←aX,he,aa,yn4 rel]
 ·obtain⟨b,u,h1,h2,h3⟩:=xu2 rel hi
  exact⟨b,u,_,by rw[←cZ,he,ah,h1];rfl,rfl,rfl,h2,h3⟩
section
variable {X:Cx}
end
namespace RepN
open PySem.Builtin
end RepN
section
variable {X:Cx}
end
end L2
namespace L2
open PySem PySem.Spec PyProof.Rows
section
variable {prog:fR}{w:fW}{A:fX}{E:Value->fO->Prop}{s:fO}
theorem yh7 {it d:Addr}{i n ep:Nat}{es:Array DictEntry}{od:Obj}{en:DictEntry}{Q:Option Value->fO->Prop}(hI:s.heap.IsKeyIter it d i n ep)(gd:s.heap.get? d=some od)(dd:od.data=.dict es ep)(zn:es.size=n)(gi:es[i]?=some en)
  (q:∀h',h'.IsKeyIter it d (i+1) n ep->Heap.SameBut it s.heap h'->Q (some en.key) { s with heap:=h' }):fS (fV prog w) A (pyNext (.ref it)) Q E s:=by
 obtain⟨o,ho,hc,hd⟩:=id hI
 have own:Builtin.Dict_items.ownsTuple "dict_keyiterator"=false:=by decide
 unfold pyNext
 refine fN (wpAny_attempt (wpAny_callSpecial?_slot (name:=Str.ofString "__next__") hI.typeIs F.slot_dict_keyiterator_next (wpAny_call_entry F.slot_dict_keyiterator_next hI.typeIs F.entry_dict_keyiterator_next ?_ (F.args_dict_keyiterator_next_1 _))))
 refine fN (fP (fN (fN (fN (wpAny_typeNameOfWhole_keyiter hI.typeIs (fP (fN (wpAny_fieldsOf ho hd ?_))))))))
 simp only[own,bC,if_false]
 show fS _ _ (if (Value.ref d==Value.none)=true then _ else _) _ _ s
 rw[if_neg (λz:(Value.ref d==Value.none)=true=>by cases z)]
 refine fN (fP (fN (wpAny_dictEntries gd dd ?_)))
 rw[if_neg (by rw[zn];simp)]
 refine fN (fP (fN (wpAny_dictEpoch gd dd ?_)))
 rw[if_neg (by simp)]
 refine fP ?_
 simp only[show ¬((i:Int)<0) from dw.mpr (dR i),if_false,bY,gi]
 refine fN (fN (wpAny_typeNameOfWhole_keyiter hI.typeIs (fP (fN (wpAny_isOneOf_keyiter hI.typeIs ?_)))))
 show fS _ _ (setField (.ref it) 1 (rawInt ((i:Int)+1)) >>= _) _ _ s
 refine fN (wpAny_setField ho hd (by simp) ?_)
 have h2:(s.heap.update it (Obj.mapFields (·.setIfInBounds 1 (rawInt ((i:Int)+1))))).IsKeyIter it d (i+1) n ep :=
  ⟨_,Heap.get?_update_self _ ho (Obj.isFreed_of_fields (Obj.data_mapFields hd _)),(Obj.cls_mapFields ..).trans hc,by rw[Obj.data_mapFields hd];simp[rawInt]⟩
 refine fN (fY (fN (wpAny_isOneOf_keyiter (s:={ s with heap:=s.heap.update it (Obj.mapFields (·.setIfInBounds 1 (rawInt ((i:Int)+1)))) }) h2.typeIs ?_)))
 show fS _ _ (pure en.key) _ _ _
 exact fP (fP ⟨_,rfl,fP (q _ h2 (Heap.SameBut.update ..))⟩)
theorem yq7 {it d:Addr}{i n ep:Nat}{es:Array DictEntry}{od:Obj}{Q:Option Value->fO->Prop}(hh:A.handled=none)(hI:s.heap.IsKeyIter it d i n ep)(gd:s.heap.get? d=some od)(dd:od.data=.dict es ep)(zn:es.size=n)(gi:es[i]?=none)
  (q:∀h',Heap.ExtBut it s.heap h'->Q none { s with heap:=h' }):fS (fV prog w) A (pyNext (.ref it)) Q E s:=by
 obtain⟨o,ho,hc,hd⟩:=id hI
 have own:Builtin.Dict_items.ownsTuple "dict_keyiterator"=false:=by decide
 unfold pyNext
 refine fN (wpAny_attempt (wpAny_callSpecial?_slot (name:=Str.ofString "__next__") hI.typeIs F.slot_dict_keyiterator_next (wpAny_call_entry F.slot_dict_keyiterator_next hI.typeIs F.entry_dict_keyiterator_next ?_ (F.args_dict_keyiterator_next_1 _))))
 refine fN (fP (fN (fN (fN (wpAny_typeNameOfWhole_keyiter hI.typeIs (fP (fN (wpAny_fieldsOf ho hd ?_))))))))
 simp only[own,bC,if_false]
 show fS _ _ (if (Value.ref d==Value.none)=true then _ else _) _ _ s
 rw[if_neg (λz:(Value.ref d==Value.none)=true=>by cases z)]
 refine fN (fP (fN (wpAny_dictEntries gd dd ?_)))
 rw[if_neg (by rw[zn];simp)]
 refine fN (fP (fN (wpAny_dictEpoch gd dd ?_)))
 rw[if_neg (by simp)]
 refine fP ?_
 simp only[show ¬((i:Int)<0) from dw.mpr (dR i),if_false,bY,gi]
 refine fN (fN (wpAny_typeNameOfWhole_keyiter hI.typeIs (fP ?_)))
 show fS _ _ (setField (.ref it) 0 .none >>= _) _ _ s
 refine fN (wpAny_setField ho hd (by simp) ?_)
 show fS _ _ (newExc (.type "StopIteration") [] >>= _) _ _ _
 refine fN ?_
 simp only[newExc,newTuple]
 refine fN (wpAny_newObj_type (fN (m:=firstArgMember _ _) (wpAny_of_eq (a:=Value.none) (by first|rfl|(simp only[firstArgMember];rfl)) (wpAny_newObj_type ?_ (by size_fits)))) (by size_fits))
 simp only[raiseNew]
 refine fN (wpAny_handled ?_)
 rw[show A.in1.handled=none from hh]
 refine fN (fP (wpAny_throw ?_))
 refine fN (wpAny_isInstance (b:=true) (T:="StopIteration") ⟨_,aB _ rfl,rfl⟩ isSubtype_stop ?_)
 exact fP (q _ (((Heap.SameBut.update ..).extBut.push _).push _))
theorem yh0 {d:Addr}{es:Array DictEntry}{od:Obj}{ep:Nat}{Q:Value->fO->Prop}(lo:(d==sysModules)=false)(gd:s.heap.get? d=some od)(cd:od.cls=.type "dict")(dd:od.data=.dict es ep)
  (q:Q (.ref s.heap.objs.size) { s with heap:=s.heap.push { cls:=.type "dict_keyiterator",data:=.fields #[.ref d,.int 0 0,.int es.size 0,.int ep 0] } }):fS (fV prog w) A (pyIter (.ref d)) Q E s:=by
 have tD:s.TypeIs (.ref d) "dict":=⟨_,gd,cd⟩
 refine wpAny_pyIter_slot tD F.slot_dict_iter (wpAny_call_entry F.slot_dict_iter tD F.entry_dict_iter ?_ (F.args_dict_iter_1 _))
 unfold Builtin.«dict.__iter__»
 refine fN ?_
 unfold Builtin.Dict.dictSlotNone
 refine fN (wpAny_notOrdered_dict tD ?_)
 show fS _ _ (pure (Value.ref d)) _ _ s
 refine fP ?_
 show fS _ _ (Builtin.Dict.showsAll d >>= _) _ _ s
 unfold Builtin.Dict.showsAll
 rw[if_neg (λz=>by rw[lo]at z;cases z)]
 refine fN (fP (fN (wpAny_dictEntries gd dd (fN (wpAny_dictEpoch gd dd ?_)))))
 refine fN (wpAny_newObj_type (fP ⟨_,rfl,"dict_keyiterator",_,⟨_,aB _ rfl,rfl⟩,F.slot_dict_keyiterator_next.lookup,?_⟩))
 simpa[rawInt] using q
theorem yz5 {A:fX}(hh:A.handled=none)(I d:Addr)(hne:d≠I){es:Array DictEntry}{od:Obj}{ep:Nat}(dd:od.data=.dict es ep) :
  Walks prog w A I [I,d] [I] es.size (λi v=>∃e,es[i]?=some e/\v=e.key) (λi h=>h.IsKeyIter I d i es.size ep/\h.get? d=some od) where
 sub:=λb hb=>by simp at hb;simp[hb]
 frame:=λ_ _ _ st hk=>⟨let ⟨o,ho,r⟩:=st.1;⟨o,hk I (by simp) o ho,r⟩,hk d (by simp) od st.2⟩
 item:=λi s Q E hi st hQ=>by
  have hx:es[i]?=some es[i]:=by simp[hi]
  refine yh7 st.1 st.2 dd rfl hx λh' hit sb=>?_
  exact hQ _ h' s.toks ⟨_,hx,rfl⟩ ⟨hit,sb.extBut d od hne st.2⟩ λb o hb e=>sb.extBut b o (λh=>hb (by simp[h])) e
 done:=λs Q E st hQ=>yq7 hh st.1 st.2 dd rfl (by simp) λh' he'=>hQ h' s.toks λb o hb e=>he' b o (λh=>hb (by simp[h])) e
 self:=λ_ _ _ _ st hQ=>wpAny_pyIter_keyiter st.1 hQ
theorem xg9 {d:Addr}{es:Array DictEntry}{od:Obj}{ep:Nat}(lo:(d==sysModules)=false)(cd:od.cls=.type "dict")(dd:od.data=.dict es ep) :
  W.KdlSrc prog w "dict" d d es.size (λi v=>∃e,es[i]?=some e/\v=e.key) (λh=>h.get? d=some od) where
 type:=λ_ hm=>⟨_,hm,cd⟩
 there:=λ_ hm=>⟨az hm,az hm⟩
 keep:=λ_ _ hm hk=>hk d (.inl rfl) _ hm
 notList:=by decide
 notTuple:=by decide
 hint:=λ_ _ _ _ hm hq=>W.kdl_hint_dict ⟨_,hm,cd⟩ hq
 iter:=λ_ _ hh hm=>⟨_,_,(λ_ _ hq=>yh0 lo hm cd dd hq),yz5 hh _ d (aO (az hm)) dd,⟨⟨_,aB _ rfl,rfl,rfl⟩,ar _ hm⟩⟩
end
theorem xj4 {H:Hp}{kvs:List (List Key×V)}{xs:List (List Key×Addr×Value)}(r:KT H kvs xs):Paired (λ(b:Addr) (k:List Key)=>H b=some (.tup (k.map kV))) (xs.map (·.2.1)) (kvs.map (·.1)):=by
 induction r with
 | nil=>exact .nil
 | cons h _ ih=>exact .cons h.2.1 ih
section
variable {X:Cx}
end
section
variable {prog:fR}{w:fW}{A:fX}{E:Value->fO->Prop}{s:fO}
theorem xd0:∀{vs ws:List Value} {xs ys:List Int} {i:Nat} {Q:Bool->fO->Prop} {fin:Bool},IntsAre vs xs->IntsAre ws ys->fin=decide (xs.length<ys.length)->Q (HT.lexLt xs ys) s->W.KatLex prog w A true fin Q (vs.zip ws) i s
 | _,_,_,_,i,Q,fin,.nil,.nil,hf,h=>by
  rw[hf]
  exact W.kat_nil h
 | _,_,_,_,i,Q,fin,.nil,.cons _ _ _,hf,h=>by
  rw[hf]
  exact W.kat_nil h
 | _,_,_,_,i,Q,fin,.cons _ _ _,.nil,hf,h=>by
  rw[hf]
  exact W.kat_nil h
 | _,_,_,_,i,Q,fin,.cons (ns:=xs) a t r,.cons (ns:=ys) b u r',hf,h=>by
  rw[HT.lexLt_cons]at h
  refine W.kat_cons (wpAny_eqBool_int (W.kat_go (λe1=>W.kat_yes ?_) (λe1=>W.kat_no ?_)))
  ·rw[beq_iff_eq]at e1
   rw[if_pos e1]at h
   exact xd0 r r' (by rw[hf];simp) h
  ·have e1':¬a=b:=by simpa using e1
   rw[if_neg e1']at h
   cases i with
   | zero =>
    show fS (fV prog w) A (oneLt' true _ _) Q _ s
    exact oneLt_int h
   | succ i =>
    show fS (fV prog w) A (oneLt' false _ _) Q _ s
    exact W.kat_one _ _ (PyProof.Rows.lt_int h)
def M0 (h:Heap)(b:Addr)(x:List Int):Prop:=∃us:List Value,IsTup h b us.toArray/\IntsAre us x
theorem M0.at {h h':Heap}{b:Addr}{x:List Int}(p:M0 h b x)(k:∀o,h.get? b=some o->h'.get? b=some o):M0 h' b x:=by
 obtain⟨us,⟨o,ho,r⟩,i⟩:=p
 exact⟨us,⟨o,k o ho,r⟩,i⟩
theorem xu3 {b c:Addr}{x y:List Int}(hb:M0 s.heap b x)(hc:M0 s.heap c y){Q:Bool->fO->Prop}(h:Q (HT.lexLt x y) s):fS (fV prog w) A (keyLt' (tuples' true) (.ref b) (.ref c)) Q E s:=by
 obtain⟨us,⟨o,ho,_,n,hd⟩,i⟩:=hb
 obtain⟨us',⟨o',ho',_,n',hd'⟩,i'⟩:=hc
 refine W.kat_lt ho hd ho' hd' ?_
 rw[df,df]
 refine xd0 i i' ?_ h
 rw[aA,aA,i.length,i'.length]
def rkL (rs:List (List Int))(x:List Int):Int:=((rs.filter λy=>HT.lexLt y x).length:Nat)
theorem yx6 {x y z:List Int}(h1:HT.lexLt x y=true)(h2:HT.lexLt y z=true):HT.lexLt x z=true:=by
 cases h:HT.lexLt x z with
 | true=>rfl
 | false=>rw[ya0 (ya1 h2) h]at h1;cases h1
theorem xr5 (rs:List (List Int)){x y:List Int}(h:HT.lexLt y x=false):rkL rs x<=rkL rs y:=by
 unfold rkL
 refine Int.ofNat_le.mpr ?_
 induction rs with
 | nil=>exact ag _
 | cons z rs ih =>
  rw[dE,dE]
  cases e:HT.lexLt z x with
  | false =>
   rw[if_neg aE]
   split
   ·exact Nat.le_succ_of_le ih
   ·exact ih
  | true =>
   have:HT.lexLt z y=true:=by
    cases e':HT.lexLt z y with
    | true=>rfl
    | false=>rw[ya0 h e']at e;cases e
   rw[if_pos rfl,if_pos this,aD,aD]
   lia
theorem xf5 (rs:List (List Int)){x y:List Int}(hx:x∈rs)(h:HT.lexLt x y=true):rkL rs x<rkL rs y:=by
 have key:∀l:List (List Int),(l.filter λz=>HT.lexLt z x).length<=(l.filter λz=>HT.lexLt z y).length/\(x∈l->(l.filter λz=>HT.lexLt z x).length<(l.filter λz=>HT.lexLt z y).length):=λl=>by
  induction l with
  | nil=>exact⟨ag _,λz=>by cases z⟩
  | cons z l ih =>
   rw[dE,dE]
   cases e:HT.lexLt z x with
   | true =>
    rw[if_pos rfl,if_pos (yx6 e h),aD,aD]
    refine⟨by lia,λhz=>?_⟩
    rcases aw.mp hz with q|q
    ·rw[q,zm2]at e
     cases e
    ·have:=ih.2 q
     lia
   | false =>
    rw[if_neg aE]
    by_cases e':HT.lexLt z y=true
    ·rw[if_pos e',aD]
     exact⟨by lia,λ_=>by lia⟩
    ·rw[if_neg e']
     refine⟨ih.1,λhz=>?_⟩
     rcases aw.mp hz with q|q
     ·rw[←q]at e'
      exact absurd h e'
     ·exact ih.2 q
 unfold rkL
 exact Int.ofNat_lt.mpr ((key rs).2 hx)
theorem xl4 (rs:List (List Int)){x y:List Int}(hx:x∈rs):decide (rkL rs x<rkL rs y)=HT.lexLt x y:=by
 cases h:HT.lexLt x y with
 | true=>exact decide_eq_true (xf5 rs hx h)
 | false=>exact decide_eq_false (dw.mpr (xr5 rs h))
theorem yy5 {h:Heap}{as:List Addr}{rs:List (List Int)}(hp:Paired (M0 h) as rs)(hne:∀r∈rs,r≠[]):∃fs,W.KatTups h (as.map Value.ref) fs/\fs.length=as.length/\∀v∈fs,∃i t,v=Value.int i t:=by
 induction hp with
 | nil=>exact⟨[],trivial,rfl,λv h=>(by cases h)⟩
 | cons a _ ih =>
  obtain⟨fs,h1,h2,h3⟩:=ih λr hr=>hne r (ao _ hr)
  obtain⟨us,⟨o,ho,hc,n,hd⟩,i⟩:=a
  cases i with
  | nil=>exact absurd rfl (hne _ ax)
  | cons x t r =>
   refine⟨Value.int x t::fs,W.KatTups.cons ho hc hd rfl h1,by rw[aD,aD,h2],λv hv=>?_⟩
   rcases aw.mp hv with z|z
   ·exact⟨_,_,z⟩
   ·exact h3 v z
theorem yc6 {h h':Heap}{as:List Addr}{rs:List (List Int)}(hp:Paired (M0 h) as rs)(k:∀b∈as,∀o,h.get? b=some o->h'.get? b=some o):Paired (M0 h') as rs:=by
 induction hp with
 | nil=>exact .nil
 | cons f _ ih=>exact .cons (f.at λo eo=>k _ ax o eo) (ih λb hb'=>k b (ao _ hb'))
theorem zd7:∀{us:List Value} {x y:List Int},IntsAre us x->IntsAre us y->x=y
 | _,_,_,.nil,.nil=>rfl
 | _,_,_,.cons a t r,.cons _ _ r'=>by rw[zd7 r r']
theorem zx1 {h:Heap}{b:Addr}{x y:List Int}(hx:M0 h b x)(hy:M0 h b y):x=y:=by
 obtain⟨us,⟨o,ho,_,n,hd⟩,i⟩:=hx
 obtain⟨us',⟨o',ho',_,n',hd'⟩,i'⟩:=hy
 rw[ho]at ho'
 cases ho'
 rw[hd]at hd'
 cases hd'
 exact zd7 i i'
def adr:Value->Addr
 | .ref a=>a
 | _=>0
end
section
variable {X:Cx}
end
section
variable {X:Cx}{e st:Expr}{te:TE}{ts:TO}{pos p2:Pos}
end
section
variable {X:Cx}{iter elt:Expr}{scope:Scope}{pos:Pos}{wi:TI}{te:CT TE}
end
section
variable {X:Cx}
end
section
variable {X:Cx}
end
section
variable {X:Cx}
end
section
variable {prog:fR}{w:fW}{A:fX}{E:Value->fO->Prop}{s:fO}
theorem zz2 {d:Addr}{es:Array DictEntry}{od:Obj}{ep:Nat}{R:List Value->fO->Prop}(hh:A.handled=none)(lo:(d==sysModules)=false)(gd:s.heap.get? d=some od)(cd:od.cls=.type "dict")(dd:od.data=.dict es ep)(hz:es.size<=fQ)
  (q:∀(h':Heap) (tk:Nat) (vs:List Value),(∀b o,s.heap.get? b=some o->h'.get? b=some o)->s.heap.objs.size<h'.objs.size->vs.length=es.size->(∀(i:Nat) (v:Value),vs[i]?=some v->∃e,es[i]?=some e/\v=e.key)->R vs { s with heap:=h',toks:=tk }) :
  fS (fV prog w) A (collect (.ref d)) R E s:=by
 have hlt:=az gd
 have hn1:(s.heap.push (gl "list" #[] 0)).get? s.heap.objs.size=some (gl "list" #[] 0):=aB _ rfl
 have fin:∀(h':Heap) (tk:Nat) (acc':Array Value) (c':Nat),(∀b o,s.heap.get? b=some o->h'.get? b=some o)->h'.get? s.heap.objs.size=some { cls:=.type "list",dict:=none,data:=.seq acc' c',slots:=#[] }->ItemsOf (λi v=>∃e,es[i]?=some e/\v=e.key) acc' es.size ->
   R acc'.toList { s with heap:=h',toks:=tk }:=λh' tk acc' c' hk hS hacc=>q h' tk acc'.toList hk (az hS) (by rw[aX];exact hacc.1) λi v e=>hacc.2 i v (by rw[←cZ];exact e)
 unfold collect
 refine fN (wpAny_runValue (codeAny_builtin entry_proto_collect' (fN (m:=newList []) (wpAny_newList (fP ⟨Code.quiet_builtin _ (by decide +kernel),codeAny_builtin entry_list_iadd' ?_⟩)))))
 rw[Around.under_plainId PySem.F.plain_list_iadd ⟨[.ref s.heap.objs.size,.ref d],[]⟩]
 refine fZ (W.kdl_extend (A:=A) (s:={ s with heap:=s.heap.push (gl "list" #[] 0) }) (R:=λr s'=>∃(h':Heap) (tk:Nat) (acc':Array Value) (c':Nat),r=.ok (.ret (.ref s.heap.objs.size))/\s'={ s with heap:=h',toks:=tk }/\h'.get? s.heap.objs.size=some { cls:=.type "list",dict:=none,data:=.seq acc' c',slots:=#[] }/\R acc'.toList { s with heap:=h',toks:=tk })
  (xg9 (ep:=ep) lo cd dd) hh (ar _ gd) s.heap.objs.size (dq hlt) (dq hlt) (.ref s.heap.objs.size) 0 hn1 (λh' tk acc' c' hk hS hacc=>⟨h',tk,acc',c',rfl,rfl,hS,fin h' tk acc' c' (λb o e=>hk b o (aO (az e)) (ar _ e)) hS hacc⟩) hz) (λf s' x=>?_) (λe s' x=>?_)
 ·cases f with
  | done f =>
   obtain⟨h',tk,acc',c',e,rfl,hS,hR⟩:=x
   cases e
   exact(show fS (fV prog w) A (load s.heap.objs.size >>= _) R E _ from fN (wpAny_load hS (fP hR)))
  | again c1 =>
   refine⟨x.1,codeAny_mono x.2 λr s2 y=>?_⟩
   obtain⟨h',tk,acc',c',e,rfl,hS,hR⟩:=y
   cases e
   exact(show fS (fV prog w) A (load s.heap.objs.size >>= _) R E _ from fN (wpAny_load hS (fP hR)))
 ·obtain⟨_,_,_,_,er,_⟩:=x
  cases er
end
section
variable {X:Cx}
end
structure zy6 (K:W.Frag) (x qual:Str) (st:Stmt) (f:Addr) (fd:gh) (items:Array Value):Prop where
 ex:∃(dT:Addr) (oc:Value) (od:Option Addr) (kV doc pm:Value) (an:Option Addr) (cdv ct:Value) (osl:Array (Option Value)),
  fd=W.fnOf x qual (W6 st) (Z5 st) (z8 st) (.ref dT) kV doc pm an cdv ct/\K.lookup f=some ⟨oc,od,.func fd,osl⟩/\W.codeIn K cdv qual=true/\∃o n,K.lookup dT=some o/\o.data=.seq items n
 kp:W.keepIn K (.ref f)=true
section
variable {P:fR}{w:fW}{K:W.Frag}{mg:Str->Option Value}{base:Heap}
theorem zy6.okX {x qual:Str}{st:Stmt}{f:Addr}{fd:gh}{items:Array Value}{N ps:List Str}{k:Nat}{sp:Sp}(F:zy6 K x qual st f fd items)(S:y4 N ps (z8 st))(len:∀vs H Q E,sp vs H Q E->vs.length=ps.length)
  (hbody:∀(cdv:Value) (A:fX) (outer:List Env) (s:fO) (H:Hp) (vs:List V) (Q:VK) (E:XK),Y3 k (A.deeper (envOfC qual (z8 st) s.heap.objs.size f cdv))->sp vs H Q E ->
   ∃t,PSs (Q7 (CX1 P w) P w K mg base N qual (z8 st) f cdv A outer s H E) (Z5 st) t/\t { nx:=λ_ H'=>Q .non H',rt:=Q } (start N vs) H):u6 P w K mg base (CX1 P w) (k+1) f fd ps sp:=by
 obtain⟨dT,oc,od,kV,doc,pm,an,cdv,ct,osl,rfl,lk,hcd,_⟩:=F.ex
 refine xb9 lk hcd S len λA outer s H vs Q E hr hsp=>?_
 obtain⟨t,h,q⟩:=hbody cdv A outer s H vs Q E hr hsp
 exact⟨t,h,q⟩
end
def xs9 (P:fR)(w:fW)(K:W.Frag)(mg:Str->Option Value)(base:Heap)(k:Nat)(C:Addr)(x:Str)(ps:List Str)(dvs:List V)(sp:Sp):Prop :=
 ∃f fd ds,u6 P w K mg base (CX1 P w) k f fd ps sp/\Mk K C f/\mg x=some (.ref C)/\V5 K fd ps ds/\p8 dvs ds
def KB1 (K:W.Frag)(fd:gh)(ps:List Str)(k:Str):Prop:=∀(s:fO) (us:List Value) (v:Value),K.In s.heap->(us++[v]).length=ps.length->BindsTo s fd ⟨us,[(k,v)]⟩ (ps.zip (us++[v]))
def xw5 (P:fR)(w:fW)(K:W.Frag)(mg:Str->Option Value)(base:Heap)(k:Nat)(C:Addr)(x:Str)(ps:List Str)(kw:Str)(sp:Sp):Prop :=
 ∃f fd,u6 P w K mg base (CX1 P w) k f fd ps sp/\Mk K C f/\mg x=some (.ref C)/\KB1 K fd ps kw
section
variable {P:fR}{w:fW}{K:W.Frag}{mg:Str->Option Value}{base:Heap}{N:List Str}{qual:Str}{scope:Scope}{f:Addr}{cd:Value}{A:fX}{outer:List Env}{s:fO}{H:Hp}{E:XK}
end
section
variable {X:Cx}{C:Addr}{k:Nat}{x kw:Str}{ps:List Str}{sp:Sp}{e ev:Expr}{es:List Expr}{t:TA}{tv:TE}{p pos kpos:Pos}{CX:CXT}{f:Addr}{fd:gh}{E:XK}
end
section
variable {P:fR}{w:fW}{K:W.Frag}{mg:Str->Option Value}{base:Heap}{N:List Str}{qual:Str}{scope:Scope}{f:Addr}{cd:Value}{A:fX}{outer:List Env}{s:fO}{H:Hp}{E:XK}
end
def xn6 (P:fR)(w:fW)(K:W.Frag)(mg:Str->Option Value)(base:Heap)(k:Nat)(C:Addr)(x m:Str)(ps:List Str)(sp:Sp):Prop :=
 ∃(f:Addr) (fd:gh) (mc:Value),u6 P w K mg base CX0 k f fd ps sp/\W.keepIn K (.ref f)=true/\mg x=some (.ref C)/\V5 K fd ps []/\W.readsIn K C mc=true/\W.specialIn K (.ref C) "__getattribute__"=some (some (.builtin "type.__getattribute__"))/\W.findCls K (.ref C) mc m=some (.val (.ref f))/\W.handedIn (.ref f)=true
section
variable {X:Cx}{C:Addr}{k j:Nat}{x m:Str}{ps:List Str}{sp:Sp}{e:Expr}{es:List Expr}{t:TA}{np apos pos:Pos}{pl:Sem Bool}
theorem xk4 (kn:xn6 X.prog X.w X.K X.mg X.base k C x m ps sp)(hr:Y3 j X.A)(hg:Gl X x)(ha:PA X (e::es) t)(hj:k<=j:=by decide)(hdb:(x==("__debug__":Str))=false:=by decide)
  (hst:fU (e::es) X.env=(false,eval e X.env)::fU es X.env:=by rfl) (hpl:(backTo pos (fU es X.env)).any (·.1)=false:=by rfl)
  (ht:eval (.Call (.Attribute (.Name x np) m apos) (e::es) [] pos) X.env=(do
   let v ←eval (.Name x np) X.env
   standAt apos.atName
   let (f,first) ←holding [v] (getMethod v m pl)
   callWith pos f first (backTo pos (fU (e::es) X.env)) (backToKw pos (gf [] X.env))):=by rfl):PE X (.Call (.Attribute (.Name x np) m apos) (e::es) [] pos) (yu6 sp [] E0 t):=by
 obtain⟨f,fd,mc,G,kp,hm,hb,h1,h2,h3,h4⟩:=kn
 intro pins s σ H Q I h
 refine W.methodCall_KW (pl:=pl) (A6 I hg hm ?_ hdb) ht
 refine W.method_cls I.kIn h2 (W.cls_value I.kIn h1 h3 h4 ?_)
 have I1:Inv X pins σ H { s with toks:=s.toks+1 }:=I.tok _
 refine W.callWith_K (first:=[]) (h₀:=X.base) I.ok.mod.kin kp (thn (ha pos pins _ σ H _ I1 h) λus s2 ⟨vs,H2,I2,r,q2⟩=>⟨I2.kIn,?_⟩) hst hpl
 exact yc5 (us:=us) (vs:=vs) G (hr.mono hj) hb .nil zx6 I2 r q2
end
section
variable {prog:fR}{w:fW}{K:Type}[DecidableEq K]{knd:HeapKind prog w K}{A:fX}{E:Value->fO->Prop}{s:fO}{d a:Addr}{k:K}{xs:List (K×Addr×Value)}{p:Addr×Value}
variable (knd d a) in
end
section
variable {X:Cx}{pins:List (Addr×Obj)}{σ:St}{H:Hp}{s:fO}{a b:Addr}{v:V}{A:fX}{E:Value->fO->Prop}{kvs:List (List Key×V)}{k:List Key}
end
section
variable {X:Cx}{CX:CXT}{k:Nat}{f:Addr}{fd:gh}{ps:List Str}{kw:Str}{sp:Sp}{E:XK}{x:Str}{p pos kpos:Pos}{e ev:Expr}{es:List Expr}{t:TA}{tv:TE}
end
section
variable {P:fR}{w:fW}{K:W.Frag}{mg:Str->Option Value}{base:Heap}{N:List Str}{qual:Str}{scope:Scope}{f:Addr}{cd:Value}{A:fX}{outer:List Env}{s:fO}{H:Hp}{E:XK}
end
end L2
namespace L2
open PySem PySem.SeqAt PyProof PyProof.Rows
section
variable {prog:fR}{w:fW}{A:fX}{E:Value->fO->Prop}{s:fO}
end
section
variable {X:Cx}
end
end L2
namespace L2
open PySem PySem.Spec PyProof.Rows
def ItT (ob:Obj)(d:Addr)(kvs:List (List Key×V)):It :=
 ⟨λi H=>H d=some (.frz ob (.dT kvs))/\i<kvs.length,λi H x H'=>H'=H/\∃k v b,kvs[i]?=some (k,v)/\x=.ref b/\H b=some (.tup (k.map kV)),λi H=>H d=some (.frz ob (.dT kvs))/\kvs.length<=i⟩
theorem yp3 {P:fR}{w:fW}{K:W.Frag}{tg:Expr}(ob:Obj)(d it:Addr)(kvs:List (List Key×V))(ep:Nat)(es:Array DictEntry)(hep:ob.data=.dict es ep):ye7 P w K tg (ItT ob d kvs) [it] it (λi h=>h.IsKeyIter it d i kvs.length ep) where
 mem:=by simp
 obj:=λi h st b hb=>by
  have e:b=it:=by simpa using hb
  subst e
  obtain⟨o,e,c,d⟩:=st
  exact⟨o,e,λv z=>by rw[d]at z;cases z⟩
 keep:=λi h h' st k=>by
  obtain⟨o,e,r⟩:=st
  exact⟨o,k it (by simp) o e,r⟩
 item:=by
  intro X hP hw hK hc i pins s σ H E I hf st hg
  subst hP hw hK
  obtain⟨e,hi⟩:=hg
  obtain⟨ho,hes,hat⟩:=yf9 I.hok hep e
  have hx:kvs[i]?=some (kvs[i].1,kvs[i].2):=ae hi
  obtain⟨b,_,en,hen,hkey,_,hb,_⟩:=hat i _ _ hx
  obtain⟨f0,f1,f2,f3,f4,f5⟩:=hf it (by simp)
  refine yh7 st ho hep hes hen λh' st' sb=>?_
  have I1:Inv X pins σ H { s with heap:=h' }:=I.turned (t':=s.toks) (λb o hb e=>(sb.2 b hb).trans e) f0 f1 f3 f4 f5
  obtain⟨o,e2,c,dd⟩:=id st'
  exact⟨en.key,rfl,yg6 (s:={ s with heap:=h' }) e2 c dd (by decide) ⟨.ref b,H,I1,hkey,⟨rfl,_,_,b,hx,rfl,hb⟩,st',λb hb=>(hf b hb).1⟩⟩
 done:=by
  intro X hP hw hK hc i pins s σ H E I hf st hg
  subst hP hw hK
  obtain⟨e,hi⟩:=hg
  obtain⟨ho,hes,hat⟩:=yf9 I.hok hep e
  obtain⟨f0,f1,f2,f3,f4,f5⟩:=hf it (by simp)
  exact yq7 (I.ok.hd hc) st ho hep hes (Array.getElem?_eq_none (by lia)) λh' eb=>⟨rfl,I.turned (t':=s.toks) (λb o hb e=>eb b o hb e) f0 f1 f3 f4 f5⟩
 self:=λ_ _ _ _ _ st h=>wpAny_pyIter_keyiter st h
section
variable {X:Cx}{tg:Expr}
def xo3 (td:TE):TI:=λσ H R=>td σ H λx H1=>∃d ob kvs,x=.ref d/\H1 d=some (.frz ob (.dT kvs))/\R (ItT ob d kvs) H1
theorem xf0 {l:Expr}{td:TE}(hl:PE X l td):PI X tg l (xo3 td):=by
 intro pins s σ H R I h
 refine thn (hl pins s σ H _ I h) λv s1 ⟨x,H1,I1,r1,q1⟩=>?_
 obtain⟨d,ob,kvs,e,hd,q⟩:=q1
 subst e
 cases r1
 obtain⟨hz,lo,xs,rel,od,es,ep,ho',hx,hdd,he,_⟩:=zo4 I1.hok (.inr ⟨ob,hd⟩)
 obtain⟨ho,_⟩:=I1.hok d _ hd
 rw[ho]at ho'
 cases ho'
 have zn:es.size=kvs.length:=by rw[←aX,he,aa,yn4 rel]
 refine yh0 lo ho hx.1 hdd ?_
 rw[zn]
 refine⟨s1.heap.objs.size,[s1.heap.objs.size],_,_,_,rfl,I1.kept (t':=s1.toks) λb o e=>ar _ e,yp3 ob d _ kvs ep es hdd,⟨_,aB _ rfl,rfl,rfl⟩,λb hb=>?_,q⟩
 have e:b=s1.heap.objs.size:=by simpa using hb
 subst e
 exact I1.fpOk (ag _) (I1.hok.fresh (ag _))
theorem yw5 {ob:Obj}{d:Addr}{kvs:List (List Key×V)}{g:TG}{tb:TS}{D:za9}{σ:St}{H:Hp}(Pv:Nat->St->Hp->Prop)(h0:Pv 0 σ H)(hl:∀i σ H,i<=kvs.length->Pv i σ H->H d=some (.frz ob (.dT kvs)))
  (hs:∀i k v b σ H,kvs[i]?=some (k,v)->Pv i σ H->H b=some (.tup (k.map kV))->g (.ref b) σ H λσ2 H2=>tb { D with nx:=Pv (i+1),ct:=Pv (i+1),bk:=D.nx } σ2 H2) (hd:∀σ H,Pv kvs.length σ H->D.nx σ H) :
  ∃W:Nat->Nat->St->Hp->Prop,(∃m,W 0 m σ H)/\∀i m σ H,W i m σ H ->
   ((ItT ob d kvs).stop i H/\D.nx σ H)∨((ItT ob d kvs).go i H/\∃N:St->Hp->Prop,(∀σ' H',N σ' H'->∃m',m'<m/\W (i+1) m' σ' H')/\∀x H',(ItT ob d kvs).yld i H x H'->g x σ H' λσ2 H2=>tb { D with nx:=N,ct:=N,bk:=D.nx } σ2 H2):=by
 refine⟨λi m σ H=>m=kvs.length-i/\i<=kvs.length/\Pv i σ H,⟨kvs.length,by simp,aP _,h0⟩,?_⟩
 rintro i m σ H ⟨rfl,hi,p⟩
 have q:=hl i σ H hi p
 by_cases hlt:i<kvs.length
 ·refine .inr ⟨⟨q,hlt⟩,Pv (i+1),λσ' H' p'=>⟨kvs.length-(i+1),by lia,rfl,hlt,p'⟩,λx H' y=>?_⟩
  obtain⟨eH,k,v,b,hk,ex,hb⟩:=y
  subst ex eH
  exact hs i k v b σ H' hk p hb
 ·have e:i=kvs.length:=by lia
  subst e
  exact .inl ⟨⟨q,ag _⟩,hd σ H p⟩
end
section
variable {prog:fR}{w:fW}{A:fX}{E:Value->fO->Prop}{s:fO}
theorem C3 {a:Addr}{as:List Addr}{rs:List (List Int)}{n:Nat}{P:PySem.Fin->fO->Prop}(ho:s.heap.get? a=some (gl "list" (as.map Value.ref).toArray n))(hp:Paired (M0 s.heap) as rs)(hne:∀b∈as,b≠a)(hb:∀x∈rs,x≠[])(h64:as.length<64)
  (q:∀(bs:List Addr) (qs:List (List Int)),bs.length=as.length->(∀b∈bs,b∈as)->Paired (M0 s.heap) bs qs->qs.Perm rs->qs.Pairwise (λx y=>HT.lexLt y x=false)->P (.done (.ret .none)) { s with heap:=sortedHeap s.heap a (as.map Value.ref) (bs.map Value.ref).toArray }) :
  fS (fV prog w) A (Builtin.«list.sort» ⟨[.ref a],[]⟩) P E s:=by
 have hlen:as.length=rs.length:=Paired.length hp
 have h16:=sizeLine_eq
 have hvl:(as.map Value.ref).length=as.length:=aa _
 rw[list_sort_plain]
 have ha:a<s.heap.objs.size:=az ho
 refine fN (listItems_at ho rfl (fN (listUpdate_at ho rfl ?_ (by rw[aA];lia) (aP _))))
 obtain⟨e1,ho1⟩:∃e1,(s.heap.update a (Obj.mapSeq λ_=>#[])).get? a=some (gl "list" #[] e1):=⟨_,get?_update_seq ho (λ_=>#[])⟩
 refine fN (seqEpoch_at ho1 rfl (fN (wpAny_newTuple (fN (wpAny_newList (fY ?_) (aP _))) (by show(as.map Value.ref).length<=_;lia))))
 have keep:∀b o,b≠a->s.heap.get? b=some o->(((s.heap.update a (Obj.mapSeq λ_=>#[])).push (gl "tuple" (as.map Value.ref).toArray 0)).push (gl "list" #[] 0)).get? b=some o:=λb o nb eb =>
  ar _ (ar _ ((Heap.get?_update_other _ _ (Ne.symm nb)).trans eb))
 have ho6:(((s.heap.update a (Obj.mapSeq λ_=>#[])).push (gl "tuple" (as.map Value.ref).toArray 0)).push (gl "list" #[] 0)).get? a=some (gl "list" #[] e1):=ar _ (ar _ ho1)
 have hp6:Paired (M0 (((s.heap.update a (Obj.mapSeq λ_=>#[])).push (gl "tuple" (as.map Value.ref).toArray 0)).push (gl "list" #[] 0))) as rs:=yc6 hp λb hb' o eo=>keep b o (hne b hb') eo
 show fS (fV prog w) A _ P E { s with heap:=((s.heap.update a (Obj.mapSeq λ_=>(#[]:Array Value))).push (gl "tuple" (as.map Value.ref).toArray 0)).push (gl "list" #[] 0) }
 dsimp only
 by_cases h2:(as.map Value.ref).toArray.size<2
 ·rw[if_pos h2,if_pos h2]
  refine fN (fP ?_)
  rw[StateT.run_pure]
  refine fN (fP ?_)
  dsimp only
  have hz:((as.map Value.ref).toArray.zip (as.map Value.ref).toArray).map (·.2)=(as.map Value.ref).toArray:=by
   apply Array.toList_inj.mp
   rw[Array.toList_map,Array.toList_zip,df]
   exact List.map_snd_zip (ag _)
  refine fN (seqEpoch_at ho6 rfl (fN (listUpdate_at ho6 rfl ?_ (aP _) ?_)))
  ·simp only[bne_self_eq_false,bC,if_false]
   have hone:rs.Pairwise (λx y=>HT.lexLt y x=false):=by
    match rs,hlen with
    | [],_=>exact List.Pairwise.nil
    | [x],_=>exact List.pairwise_singleton _ _
    | _::_::r,hl =>
     rw[aA,hvl,hl,aD,aD]at h2
     lia
   have key:=q as rs rfl (λb hb=>hb) hp (List.Perm.refl _) hone
   have key2:∀o,o=(as.map Value.ref).toArray->P (.done (.ret .none)) { s with heap:=sortedHeap s.heap a (as.map Value.ref) o }:=λo e=>by rw[e];exact key
   exact fP (key2 _ hz)
  ·show(((as.map Value.ref).toArray.zip (as.map Value.ref).toArray).map (·.2)).size<=_
   rw[hz,aA]
   lia
 ·rw[if_neg h2,if_neg h2]
  rw[aA,hvl]at h2
  obtain⟨fs,t1,t2,t3⟩:=yy5 hp6 hb
  refine fN (W.kat_kind (T:=.type "int") t1 (by lia) (λv hv=>?_) rfl ?_)
  ·obtain⟨i,t,rfl⟩:=t3 v hv
   exact W.Looks.of_pure rfl
  show fS _ _ ((sortRuns').run (SortSt.mk' (tuples' true) _ _ _ _) >>= _) _ _ _
  have hget:∀i,i<as.length->(as.map Value.ref).getD i Value.none=Value.ref (as.getD i 0)/\M0 (((s.heap.update a (Obj.mapSeq λ_=>#[])).push (gl "tuple" (as.map Value.ref).toArray 0)).push (gl "list" #[] 0)) (as.getD i 0) (rs.getD i [])/\M0 s.heap (as.getD i 0) (rs.getD i [])/\rs.getD i []∈rs:=λi hi=>by
   have e1:as[i]?=some (as.getD i 0):=by simp[ae hi]
   have e2:rs[i]?=some (rs.getD i []):=by simp[ae (show i<rs.length by lia)]
   refine⟨?_,u7 hp6 i _ _ e1 e2,u7 hp i _ _ e1 e2,av e2⟩
   rw[ay,ah,e1]
   rfl
  obtain⟨p,ep,pp,pu⟩:=Tb.SO.sort_ok (r:=λi=>rkL rs (rs.getD i [])) as.length (by lia)
  have hpl:p.toList.Perm (List.range as.length):=by
   have:=eE.mp pp
   rwa [df]at this
  have hlt:∀i∈p.toList,i<as.length:=λi hi=>bg.mp (hpl.mem_iff.mp hi)
  refine fN (fZ (W.kat_run (κ:=tuples' true) (ks:=as.map Value.ref) (vs:=as.map Value.ref) (G:=λp' s''=>p'=p/\s''={ s with heap:=((s.heap.update a (Obj.mapSeq λ_=>(#[]:Array Value))).push (gl "tuple" (as.map Value.ref).toArray 0)).push (gl "list" #[] 0) })
   (Q:=λst' s''=>s''={ s with heap:=((s.heap.update a (Obj.mapSeq λ_=>(#[]:Array Value))).push (gl "tuple" (as.map Value.ref).toArray 0)).push (gl "list" #[] 0) }/\(arrOf st').map (·.2)=((p.toList.map λi=>as.getD i 0).map Value.ref).toArray/\failedOf st'=none) rfl (by lia) (by lia) (λp' st' s'' a1 a2 a3 a4=>?_) ?_) ?_ λ_ _ e=>e)
  ·obtain⟨rfl,rfl⟩:=a4
   refine⟨rfl,?_,a3⟩
   rw[W.kat_snds rfl a2,bx]
   exact congrArg _ (bF λi hi=>(hget i (hlt i hi)).1)
  ·rw[hvl]
   refine Tb.SO.wp_run (n:=as.length) (lt:=Tb.SO.ltr λi=>rkL rs (rs.getD i [])) (λi j C hi hj hC=>?_) _ (Tb.SO.al_sort (by lia)) ⟨ep,rfl⟩
   obtain⟨i1,i2,_,i4⟩:=hget i hi
   obtain⟨j1,j2,_,j4⟩:=hget j hj
   unfold W.kas_ask
   rw[i1,j1]
   have hC:C (decide (rkL rs (rs.getD i [])<rkL rs (rs.getD j []))) _:=hC
   rw[xl4 rs i4]at hC
   exact xu3 i2 j2 hC
  ·rintro⟨⟨⟩,st'⟩ s' ⟨rfl,hout,hf⟩
   dsimp only
   have hol:((arrOf st').map (·.2)).size<=fQ:=by
    rw[hout,aA,aa,aa,hpl.length_eq,aN]
    lia
   refine fN (seqEpoch_at ho6 rfl (fN (listUpdate_at ho6 rfl ?_ (aP _) (Nat.le_succ_of_le hol))))
   rw[hf]
   simp only[bne_self_eq_false,bC,if_false]
   have hpz:p.toList.length=as.length:=by rw[hpl.length_eq,aN]
   have key:=q (p.toList.map λi=>as.getD i 0) (p.toList.map λi=>rs.getD i []) (by rw[aa,hpz]) (λb hb'=>?_) (zq6 _ _ _ λi hi=>(hget i (hlt i hi)).2.2.1) ?_ ?_
   ·have key2:∀o,o=((p.toList.map λi=>as.getD i 0).map Value.ref).toArray->P (.done (.ret .none)) { s with heap:=sortedHeap s.heap a (as.map Value.ref) o }:=λo e=>by rw[e];exact key
    exact fP (key2 _ hout)
   ·obtain⟨i,hi,rfl⟩:=au.mp hb'
    have hi':=hlt i hi
    simp[hi']
   ·have:=hpl.map λi=>rs.getD i []
    rwa [hlen,xd3]at this
   ·refine bj.mpr (bN.mpr λi j hi hj hij=>?_)
    have h4:=pu i j (bH hij) (by lia)
    unfold Tb.SO.Kr at h4
    have hj':=hj
    rw[aX]at hi hj
    have h4:rkL rs (rs.getD (p.toList[i]'(by simpa using hi)) [])<=rkL rs (rs.getD (p.toList[j]'(by simpa using hj)) []):=by simpa[Array.getD,hi,hj] using h4
    cases e2:HT.lexLt (rs.getD (p.toList[j]'(by simpa using hj)) []) (rs.getD (p.toList[i]'(by simpa using hi)) []) with
    | false=>rfl
    | true=>exact absurd (xf5 rs (hget _ (hlt _ (bR hj'))).2.2.2 e2) (dw.mpr h4)
theorem yk5 {l:Addr}{as:List Addr}{rs:List (List Int)}{R:Value->fO->Prop}(hl:s.heap.IsList l (as.map Value.ref).toArray)(hp:Paired (M0 s.heap) as rs)(hb:∀x∈rs,x≠[])(h64:as.length<64)
  (q:∀(bs:List Addr) (qs:List (List Int)),bs.length=as.length->(∀b∈bs,b∈as)->Paired (M0 s.heap) bs qs->qs.Perm rs->qs.Pairwise (λx y=>HT.lexLt y x=false)->R (.ref (gat s.heap (as.map Value.ref)).objs.size) { s with heap:=sortedHeap ((gat s.heap (as.map Value.ref)).push (gl "list" (as.map Value.ref).toArray 0)) (gat s.heap (as.map Value.ref)).objs.size (as.map Value.ref) (bs.map Value.ref).toArray }) :
  fS (fV prog w) A (call (.builtin "sorted") [.ref l]) R E s:=by
 have h16:=sizeLine_eq
 have hvl:(as.map Value.ref).length=as.length:=aa _
 have hn:((gat s.heap (as.map Value.ref)).push (gl "list" (as.map Value.ref).toArray 0)).get? (gat s.heap (as.map Value.ref)).objs.size=some (gl "list" (as.map Value.ref).toArray 0):=aB _ rfl
 have lt:∀b∈as,b<s.heap.objs.size/\∃o,s.heap.get? b=some o:=λb hb'=>by
  obtain⟨i,hi⟩:=bJ hb'
  have hi2:=(al.mp hi).1
  obtain⟨us,⟨o,ho,_⟩,_⟩:=u7 hp i b _ hi (ae (by rw[←Paired.length hp];exact hi2))
  exact⟨az ho,o,ho⟩
 refine Calls.call_function_entry kind_sorted plain_sorted entry_sorted (args_sorted1 (.ref l)) ?_
 unfold Builtin.«sorted»
 refine fN (m:=checkCount "sorted" 1 1 _) (fP (fN (collect_list hl (fN (wpAny_newList ?_ (by lia))) (by lia))))
 show fS _ _ _ _ _ { s with heap:=(gat s.heap (as.map Value.ref)).push (gl "list" (as.map Value.ref).toArray 0) }
 refine fN (fY (wpAny_call_entry slot_list_sort ⟨_,hn,rfl⟩ entry_list_sort (C3 (s:={ s with heap:=(gat s.heap (as.map Value.ref)).push (gl "list" (as.map Value.ref).toArray 0) }) hn (yc6 hp λb hb' o eo=>ar _ (zm0 eo)) (λb hb' z=>?_) hb h64 λbs qs a1 a2 a3 a4 a5=>⟨_,rfl,fP ⟨_,rfl,q bs qs a1 a2 (yc6 a3 λb hb' o eo=>?_) a4 a5⟩⟩) (args_list_sort _)))
 ·have h5:=(lt b hb').1
  have h6:=zo7 s.heap (as.map Value.ref)
  have h7:b=(gat s.heap (as.map Value.ref)).objs.size:=z
  rw[h7,h6]at h5
  exact aY _ (Nat.lt_of_succ_lt h5)
 ·obtain⟨_,o',ho'⟩:=lt b (a2 b hb')
  have:=ar (gl "list" (as.map Value.ref).toArray 0) (zm0 (vs:=as.map Value.ref) ho')
  rw[show((gat s.heap (as.map Value.ref)).push (gl "list" (as.map Value.ref).toArray 0)).get? b=some o from eo]at this
  rw[ho',this]
end
section
variable {X:Cx}
theorem zt8:V8 X (.builtin "sorted") (λxs H Q=>∃(p:Addr) (as:List Addr) (rs:List (List Int)),xs=[.ref p]/\SqL X.K H p (as.map V.ref)/\Paired (λa x=>H a=some (.tup (x.map V.int))) as rs/\(∀x∈rs,x≠[])/\rs.length<64 /\
  ∀(l:Addr) (bs:List Addr) (qs:List (List Int)),H l=none->qs.Perm rs->qs.Pairwise (λx y=>HT.lexLt y x=false)->Paired (λa x=>H a=some (.tup (x.map V.int))) bs qs->Q (.ref l) (upd H l (.lst (bs.map V.ref)))):=by
 intro pins s σ H xs us Q I r h
 obtain⟨p,as,rs,rfl,hq,hp,hb,h64,q⟩:=h
 obtain⟨u,rfl,rx⟩:=N9 r
 cases rx
 obtain⟨its,r1,p1,hz⟩:=I.list hq
 have hits:=zi0 r1
 subst hits
 have hlen:as.length=rs.length:=Paired.length hp
 have row:∀b x,H b=some (.tup (x.map V.int))->M0 s.heap b x:=λb x hx=>by
  obtain⟨us,r2,p2,_⟩:=I.tuple (SqT.of hx)
  exact⟨us,p2,T9 r2⟩
 have hpr:Paired (M0 s.heap) as rs:=Paired.imp' (λb x hx=>row b x hx) hp
 refine yk5 p1.isList hpr hb (by lia) λbs qs a1 a2 a3 a4 a5=>?_
 have hsz:=zo7 s.heap (as.map Value.ref)
 obtain⟨e,he⟩:=sortedHeap_at (vs:=as.map Value.ref) (out:=(bs.map Value.ref).toArray) (n:=0) (show((gat s.heap (as.map Value.ref)).push (gl "list" (as.map Value.ref).toArray 0)).get? (gat s.heap (as.map Value.ref)).objs.size=some (gl "list" (as.map Value.ref).toArray 0) from aB _ rfl)
 have hold:∀b o,s.heap.get? b=some o->(sortedHeap ((gat s.heap (as.map Value.ref)).push (gl "list" (as.map Value.ref).toArray 0)) (gat s.heap (as.map Value.ref)).objs.size (as.map Value.ref) (bs.map Value.ref).toArray).get? b=some o:=λb o z=>by
  have hlt:=az z
  have h1:b<(gat s.heap (as.map Value.ref)).objs.size:=hsz.symm ▸ cz hlt
  rw[sortedHeap_old (aO h1) (by rw[size_push'];exact cz h1),Heap.get?_push_ne _ _ _ (aO h1)]
  exact zm0 z
 have hz2:=p9
 refine⟨.ref (gat s.heap (as.map Value.ref)).objs.size,_,I.laid (t':=s.toks) hold (by lia) (show m9 X.prog X.w _ _ _ (.lst (bs.map V.ref)) from⟨by rw[aa];lia,bs.map Value.ref,e,?_,he⟩),rfl,q _ bs qs (I.hok.fresh (by lia)) a4 a5 ?_⟩
 ·clear a1 a2 a3 he hold
  induction bs with
  | nil=>exact .nil
  | cons b r ih=>exact .cons rfl ih
 ·
  clear a4 a5 he hold a1
  induction a3 with
  | nil=>exact .nil
  | @cons b x bs qs f _ ih =>
   refine .cons ?_ (ih λc hc=>a2 c (ao _ hc))
   obtain⟨i,hi⟩:=bJ (a2 b ax)
   have hi2:=(al.mp hi).1
   have hx:=u7 hp i b _ hi (ae (show i<rs.length by lia))
   rw[zx1 f (row b _ hx)]
   exact hx
theorem zn9 (hc:X.calm=true):V8 X (.builtin "sorted") (λxs H Q=>∃(d:Addr) (kvs:List (List Key×V)) (rs:List (List Int)),xs=[.ref d]/\H d=some (.dT kvs)/\kvs.map (·.1)=rs.map (λx=>x.map Sum.inl)/\(∀x∈rs,x≠[])/\rs.length<64 /\
  ∀(l:Addr) (bs:List Addr) (qs:List (List Int)),H l=none->qs.Perm rs->qs.Pairwise (λx y=>HT.lexLt y x=false)->Paired (λa x=>H a=some (.tup (x.map V.int))) bs qs->Q (.ref l) (upd H l (.lst (bs.map V.ref)))):=by
 intro pins s σ H xs us Q I r h
 obtain⟨d,kvs,rs,rfl,hd,hks,hb,h64,q⟩:=h
 obtain⟨u,rfl,rx⟩:=N9 r
 cases rx
 obtain⟨hz,lo,xs,rel,o,es,ep,h1,h2,h3,h4,h5⟩:=(show m9 X.prog X.w H s.heap d (.dT kvs) from I.hok d _ hd)
 have hxl:xs.length=kvs.length:=(Paired.length rel).symm
 have hlen:es.size=kvs.length:=by
  rw[←aX,h4,aa]
  exact hxl
 have hrl:kvs.length=rs.length:=by
  have:=congrArg List.length hks
  rwa [aa,aa]at this
 have hka:=xj4 rel
 rw[hks]at hka
 have hpr0:Paired (λ(b:Addr) (x:List Int)=>H b=some (.tup (x.map V.int))) (xs.map (·.2.1)) rs:=by
  clear q hb h64 hks hlen h1 h2 h3 h4 h5 hrl
  generalize xs.map (·.2.1)=as at hka
  induction rs generalizing as with
  | nil=>cases hka;exact .nil
  | cons x rs ih =>
   cases hka with
   | cons f r =>
    refine .cons ?_ (ih _ r)
    rw[f,bx]
    rfl
 have row:∀b x,H b=some (.tup (x.map V.int))->M0 s.heap b x:=λb x hx=>by
  obtain⟨us,r2,p2,_⟩:=I.tuple (SqT.of hx)
  exact⟨us,p2,T9 r2⟩
 refine Calls.call_function_entry kind_sorted plain_sorted entry_sorted (args_sorted1 (.ref d)) ?_
 unfold Builtin.«sorted»
 refine fN (m:=checkCount "sorted" 1 1 _) (fP (fN (zz2 (I.ok.hd hc) lo h1 h2.1 h3 (by rw[hlen];exact hz) λh' tk vs hk hsz hl hv=>fN (wpAny_newList ?_))))
 have hvs:vs=(xs.map (·.2.1)).map Value.ref:=by
  apply cy
  intro i
  by_cases hi:i<es.size
  ·have hx:xs[i]?=some xs[i]:=ae (by lia)
   have ha:vs[i]?=some vs[i]:=ae (by lia)
   obtain⟨e,he,ev⟩:=hv i vs[i] ha
   rw[←cZ,h4,ah,hx]at he
   rw[ha,ah,ah,hx,ev,←Option.some.inj he]
   rfl
  ·rw[aS (by lia),aS (by rw[aa,aa];lia)]
 subst hvs
 clear hv
 have hal:(xs.map (·.2.1)).length=rs.length:=Paired.length hpr0
 clear hka rel h4 h5 hxl
 generalize xs.map (·.2.1)=as at *
 have hn:(h'.push (gl "list" (as.map Value.ref).toArray 0)).get? h'.objs.size=some (gl "list" (as.map Value.ref).toArray 0):=aB _ rfl
 have up:∀b x,H b=some (.tup (x.map V.int))->M0 (h'.push (gl "list" (as.map Value.ref).toArray 0)) b x:=λb x hx=>(row b x hx).at λo eo=>ar _ (hk b o eo)
 have hpr':Paired (M0 (h'.push (gl "list" (as.map Value.ref).toArray 0))) as rs:=Paired.imp' up hpr0
 have lt:∀b∈as,b<s.heap.objs.size:=λb hb'=>by
  obtain⟨i,hi⟩:=bJ hb'
  have hi2:=(al.mp hi).1
  obtain⟨us,⟨o,ho,_⟩,_⟩:=row b _ (u7 hpr0 i b _ hi (ae (by lia)))
  exact az ho
 show fS _ _ _ _ _ { s with heap:=h'.push (gl "list" (as.map Value.ref).toArray 0),toks:=tk }
 refine fN (fY (wpAny_call_entry slot_list_sort ⟨_,hn,rfl⟩ entry_list_sort (C3 (s:={ s with heap:=h'.push (gl "list" (as.map Value.ref).toArray 0),toks:=tk }) hn hpr' (λb hb'=>aO (fJ (lt b hb') hsz)) hb (by lia) λbs qs a1 a2 a3 a4 a5=>⟨_,rfl,fP ⟨_,rfl,?_⟩⟩) (args_list_sort _)))
 obtain⟨e,he⟩:=sortedHeap_at (vs:=as.map Value.ref) (out:=(bs.map Value.ref).toArray) (n:=0) hn
 have hold:∀b o,s.heap.get? b=some o->(sortedHeap (h'.push (gl "list" (as.map Value.ref).toArray 0)) h'.objs.size (as.map Value.ref) (bs.map Value.ref).toArray).get? b=some o:=λb o z=>by
  have h1:b<h'.objs.size:=az (hk b o z)
  rw[sortedHeap_old (aO h1) (by rw[size_push'];exact cz h1),Heap.get?_push_ne _ _ _ (aO h1)]
  exact hk b o z
 have hz2:=p9
 refine⟨.ref h'.objs.size,_,I.laid (t':=tk) hold (by lia) (show m9 X.prog X.w _ _ _ (.lst (bs.map V.ref)) from⟨by rw[aa];lia,bs.map Value.ref,e,?_,he⟩),rfl,q _ bs qs (I.hok.fresh (by lia)) a4 a5 ?_⟩
 ·clear a1 a2 a3 he hold
  induction bs with
  | nil=>exact .nil
  | cons b r ih=>exact .cons rfl ih
 ·clear a4 a5 he hold a1
  induction a3 with
  | nil=>exact .nil
  | @cons b x bs qs f _ ih =>
   refine .cons ?_ (ih λc hc=>a2 c (ao _ hc))
   obtain⟨i,hi⟩:=bJ (a2 b ax)
   have hx:=u7 hpr0 i b _ hi (ae (show i<rs.length by have:=(al.mp hi).1;lia))
   rw[zx1 f (up b _ hx)]
   exact hx
end
end L2
namespace TM
def IsT (n:Nat)(t:List Nat):Prop:=t.Perm (List.range n)
theorem IsT.length {n:Nat}{t:List Nat}(h:IsT n t):t.length=n:=by rw[List.Perm.length_eq h,aN]
theorem IsT.lt {n:Nat}{t:List Nat}(h:IsT n t){x:Nat}(hx:x∈t):x<n:=bg.mp ((List.Perm.mem_iff h).mp hx)
theorem IsT.mem {n:Nat}{t:List Nat}(h:IsT n t){x:Nat}(hx:x<n):x∈t:=(List.Perm.mem_iff h).mpr (bg.mpr hx)
theorem IsT.nodup {n:Nat}{t:List Nat}(h:IsT n t):t.Nodup:=(List.Perm.nodup_iff h).mpr dD
theorem IsT.range (n:Nat):IsT n (List.range n):=List.Perm.refl _
theorem IsT.get_lt {n:Nat}{t:List Nat}(h:IsT n t){i x:Nat}(hx:t[i]?=some x):x<n:=h.lt (av hx)
theorem IsT.at {n:Nat}{t:List Nat}(h:IsT n t){i:Nat}(hi:i<n):∃x,t[i]?=some x/\x<n:=by
 have hi':i<t.length:=by rw[h.length];exact hi
 exact⟨t[i],ae hi',h.lt (bR hi')⟩
theorem V6:∀{t l:List Nat},t.Nodup->(∀x∈t,x∈l)->l.length<=t.length->t.Perm l
 | [],l,_,_,h=>by
  have e:l=[]:=cM.mp (Nat.le_zero.mp h)
  subst e
  exact List.Perm.refl _
 | a::r,l,hn,hs,h=>by
  obtain⟨h1,h2⟩:=aK.mp hn
  have ha:a∈l:=hs a ax
  have p:=List.perm_cons_erase ha
  have ih:r.Perm (l.erase a):=V6 h2 (λx hx=>by
   have hx':=hs x (ao _ hx)
   have ne:x≠a:=λe=>h1 (e ▸ hx)
   rcases aw.mp ((List.Perm.mem_iff p).mp hx') with e|e
   ·exact absurd e ne
   ·exact e) (by rw[bZ ha];simp only[aD]at h;lia)
  exact(List.Perm.cons a ih).trans p.symm
theorem yn1 {n:Nat}{t:List Nat}(hl:t.length=n)(hn:t.Nodup)(hlt:∀x∈t,x<n):IsT n t :=
 V6 hn (λx hx=>bg.mpr (hlt x hx)) (by rw[hl,aN];exact ag _)
theorem zo5 {α:Type}:∀(l:List α) (i:Nat) (x:α),l[i]?=some x->(x::l.eraseIdx i).Perm l
 | [],_,_,h=>by cases h
 | a::r,0,x,h=>by
  cases h
  exact List.Perm.refl _
 | a::r,i+1,x,h=>by
  have ih:=zo5 r i x (by simpa using h)
  rw[List.eraseIdx_cons_succ]
  exact(List.Perm.swap a x _).trans (List.Perm.cons a ih)
theorem draw_perm {n:Nat}{row left:List Nat}{i x:Nat}(h:IsT n (row++left))(hx:left[i]?=some x):IsT n ((row++[x])++left.eraseIdx i):=by
 refine List.Perm.trans ?_ h
 rw[bz]
 exact List.Perm.append_left row (zo5 left i x hx)
end TM
namespace TM
theorem IsT.map {n:Nat}{s t:List Nat}(hs:IsT n s)(ht:IsT n t):IsT n (s.map λx=>t.getD x 0):=by
 have e:((List.range n).map λx=>t.getD x 0)=t:=by
  apply cy
  intro i
  rw[ah]
  by_cases hi:i<n
  ·rw[bh hi]
   have hi':i<t.length:=by rw[ht.length];exact hi
   simp[ae hi']
  ·rw[aS (by rw[aN];lia),aS (by rw[ht.length];lia)]
   rfl
 have h1:=List.Perm.map (λx=>t.getD x 0) hs
 rw[e]at h1
 exact h1.trans ht
theorem getD_of {t:List Nat}{i x:Nat}(h:t[i]?=some x):t.getD i 0=x:=by rw[ay,h];rfl
theorem ya3 {s t:List Nat}{i x y:Nat}(hs:s[i]?=some x)(ht:t[x]?=some y):(s.map λx=>t.getD x 0)[i]?=some y:=by
 rw[ah,hs]
 simp only[fv]
 rw[getD_of ht]
theorem IsT.hit {n:Nat}{t:List Nat}(h:IsT n t){y:Nat}(hy:y<n):∃x,t[x]?=some y/\x<n:=by
 obtain⟨x,hx⟩:=bJ (h.mem hy)
 exact⟨x,hx,by have:=(al.mp hx).1;rwa [h.length]at this⟩
theorem IsT.inj {n:Nat}{t:List Nat}(h:IsT n t){i j x:Nat}(hi:t[i]?=some x)(hj:t[j]?=some x):i=j:=by
 obtain⟨h1,e1⟩:=al.mp hi
 obtain⟨h2,e2⟩:=al.mp hj
 exact(fz h.nodup).mp (e1.trans e2.symm)
structure Back (n:Nat) (t:List Nat) (k:Nat) (b:List Nat):Prop where
 len:b.length=n
 ret:∀x y,x<k->t[x]?=some y->b[y]?=some x
theorem Back.start {n:Nat}{t b:List Nat}(h:b.length=n):Back n t 0 b:=⟨h,λ_ _ h=>absurd h (bX _)⟩
theorem Back.step {n:Nat}{t b:List Nat}{k y:Nat}(hT:IsT n t)(h:Back n t k b)(hy:t[k]?=some y):Back n t (k+1) (b.set y k):=by
 have hyn:y<b.length:=by rw[h.len];exact hT.get_lt hy
 refine⟨by rw[bM];exact h.len,λx z hx hz=>?_⟩
 by_cases e:x=k
 ·subst e
  rw[hy]at hz
  cases hz
  rw[cp hyn]
 ·have ne:y≠z:=λq=>e (hT.inj hz (q ▸ hy))
  rw[bU ne]
  exact h.ret x z (by lia) hz
theorem Back.lt {n:Nat}{t b:List Nat}(hT:IsT n t)(h:Back n t n b){y x:Nat}(hy:b[y]?=some x):x<n/\t[x]?=some y:=by
 have hyn:y<n:=by have:=(al.mp hy).1;rwa [h.len]at this
 obtain⟨z,hz,hzn⟩:=hT.hit hyn
 have:=h.ret z y hzn hz
 rw[hy]at this
 cases this
 exact⟨hzn,hz⟩
theorem Back.get {n:Nat}{t b:List Nat}(hT:IsT n t)(h:Back n t n b){y:Nat}(hy:y<n):∃x,b[y]?=some x/\x<n/\t[x]?=some y:=by
 obtain⟨x,hx,hxn⟩:=hT.hit hy
 exact⟨x,h.ret x y hxn hx,hxn,hx⟩
theorem Back.mem_lt {n:Nat}{t b:List Nat}(hT:IsT n t)(h:Back n t n b){x:Nat}(hx:x∈b):x<n:=by
 obtain⟨y,hy⟩:=bJ hx
 exact(h.lt hT hy).1
theorem Back.uniq {n:Nat}{t b c:List Nat}(hT:IsT n t)(h:Back n t n b)(h':Back n t n c):b=c:=by
 apply cy
 intro y
 by_cases hy:y<n
 ·obtain⟨x,h1,hxn,hx⟩:=h.get hT hy
  rw[h1,h'.ret x y hxn hx]
 ·rw[aS (by rw[h.len];lia),aS (by rw[h'.len];lia)]
theorem Back.isT {n:Nat}{t b:List Nat}(hT:IsT n t)(h:Back n t n b):IsT n b:=by
 refine yn1 h.len ?_ λx hx=>h.mem_lt hT hx
 refine bN.mpr λi j hi hj hij e=>?_
 have h1:=(h.lt hT (ae hi)).2
 have h2:=(h.lt hT (ae hj)).2
 rw[e,h2]at h1
 cases h1
 exact aY _ hij
theorem Back.comp {n:Nat}{s t b c:List Nat}(hs:IsT n s)(ht:IsT n t)(h:Back n s n b)(h':Back n t n c):Back n (s.map λx=>t.getD x 0) n (c.map λx=>b.getD x 0):=by
 refine⟨by rw[aa];exact h'.len,λx z hx hz=>?_⟩
 obtain⟨y,hy,hyn⟩:=hs.at hx
 obtain⟨z',hz',_⟩:=ht.at hyn
 rw[ya3 hy hz']at hz
 cases hz
 exact ya3 (h'.ret y z hyn hz') (h.ret x y hx hy)
theorem Back.range (n:Nat):Back n (List.range n) n (List.range n):=⟨aN,λx y hx hy=>by
 rw[bh hx]at hy
 cases hy
 exact bh hx⟩
end TM
namespace TM
def it (t:List Nat):Nat->Nat->Nat
 | 0,x=>x
 | k+1,x=>t.getD (it t k x) 0
theorem J2 (t:List Nat)(j:Nat):∀(k x:Nat),it t (j+k) x=it t k (it t j x)
 | 0,_=>rfl
 | k+1,x=>by
  show t.getD (it t (j+k) x) 0=t.getD (it t k (it t j x)) 0
  rw[J2 t j k x]
theorem xp3 (t:List Nat)(x:Nat):it t 1 x=t.getD x 0:=rfl
section
variable {n:Nat}{t:List Nat}(h:IsT n t)
include h
theorem IsT.step_lt {x:Nat}(hx:x<n):t.getD x 0<n:=by
 obtain⟨y,hy,hyn⟩:=h.at hx
 rw[getD_of hy]
 exact hyn
theorem IsT.get_step {x:Nat}(hx:x<n):t[x]?=some (t.getD x 0):=by
 obtain⟨y,hy,_⟩:=h.at hx
 rw[getD_of hy,hy]
theorem IsT.it_lt {x:Nat}(hx:x<n):∀k,it t k x<n
 | 0=>hx
 | k+1=>h.step_lt (IsT.it_lt hx k)
theorem IsT.step_inj {x y:Nat}(hx:x<n)(hy:y<n)(e:t.getD x 0=t.getD y 0):x=y:=h.inj (h.get_step hx) (e ▸ h.get_step hy)
theorem IsT.it_inj {x y:Nat}(hx:x<n)(hy:y<n):∀k,it t k x=it t k y->x=y
 | 0,e=>e
 | k+1,e=>IsT.it_inj hx hy k (h.step_inj (h.it_lt hx k) (h.it_lt hy k) e)
end
theorem yx5 {l:List Nat}{n:Nat}(hn:l.Nodup)(hlt:∀x∈l,x<n):l.length<=n:=by
 refine cI λhc=>?_
 have p:=V6 hn (λx hx=>bg.mpr (hlt x hx)) (by rw[aN];lia)
 have:=p.length_eq
 rw[aN]at this
 lia
def per (t:List Nat)(x:Nat):Nat:=((List.range t.length).find? λj=>it t (j+1) x==x).getD 0+1
section
variable {n:Nat}{t:List Nat}(h:IsT n t)
include h
theorem IsT.back_some {x:Nat}(hx:x<n):∃j,j<n/\it t (j+1) x=x:=by
 refine Classical.byContradiction λhc=>?_
 have nd:((List.range (n+1)).map λk=>it t k x).Nodup:=by
  refine bN.mpr λi j hi hj hij e=>?_
  simp only[aa,aN]at hi hj
  simp only[List.getElem_map,List.getElem_range]at e
  have e2:it t (j-i) x=x:=by
   have e3:it t j x=it t i (it t (j-i) x):=by rw[←J2];congr 1;lia
   rw[e3]at e
   exact(h.it_inj hx (h.it_lt hx _) i e).symm
  exact hc ⟨j-i-1,by lia,by rw[show j-i-1+1=j-i by lia];exact e2⟩
 have:=yx5 nd λy hy=>by
  obtain⟨k,_,rfl⟩:=au.mp hy
  exact h.it_lt hx k
 simp only[aa,aN]at this
 lia
theorem IsT.per_spec {x:Nat}(hx:x<n):1<=per t x/\per t x<=n/\it t (per t x) x=x/\∀j,1<=j->j<per t x->it t j x≠x:=by
 obtain⟨j,hj,ej⟩:=h.back_some hx
 have hsome:((List.range t.length).find? λj=>it t (j+1) x==x).isSome=true:=by
  rw[List.find?_isSome]
  exact⟨j,bg.mpr (by rw[h.length];exact hj),by simpa using ej⟩
 obtain⟨k,hk⟩:=eG.mp hsome
 have e:per t x=k+1:=by unfold per;rw[hk];rfl
 rw[e]
 rw[List.find?_range_eq_some]at hk
 obtain⟨h1,h2,h3⟩:=hk
 refine⟨by lia,by have:=bg.mp h2;rw[h.length]at this;lia,by simpa using h1,λi hi1 hi2=>?_⟩
 have:=h3 (i-1) (by lia)
 rw[show i-1+1=i by lia]at this
 simpa using this
theorem IsT.per_pos {x:Nat}(hx:x<n):0<per t x:=(h.per_spec hx).1
theorem IsT.per_back {x:Nat}(hx:x<n):it t (per t x) x=x:=(h.per_spec hx).2.2.1
theorem IsT.it_mul {x:Nat}(hx:x<n):∀q,it t (per t x*q) x=x
 | 0=>rfl
 | q+1=>by rw[Nat.mul_succ,J2,IsT.it_mul hx q,h.per_back hx]
theorem IsT.it_mod {x:Nat}(hx:x<n)(k:Nat):it t (k % per t x) x=it t k x:=by
 have e:k=per t x*(k / per t x)+k % per t x:=(Nat.div_add_mod k (per t x)).symm
 conv=>rhs;rw[e,J2,h.it_mul hx]
theorem IsT.it_eq_iff {x:Nat}(hx:x<n){i j:Nat}(hi:i<per t x)(hj:j<per t x)(e:it t i x=it t j x):i=j:=by
 have key:∀{i j:Nat},i<=j->j<per t x->it t i x=it t j x->i=j:=λ{i j} hij hj e=>by
  by_cases hq:i=j
  ·exact hq
  ·exfalso
   have e3:it t j x=it t i (it t (j-i) x):=by rw[←J2];congr 1;lia
   rw[e3]at e
   have e2:=(h.it_inj hx (h.it_lt hx _) i e).symm
   exact(h.per_spec hx).2.2.2 (j-i) (by lia) (by lia) e2
 rcases fK i j with q|q
 ·exact key q hj e
 ·exact(key q hi e.symm).symm
end
section
variable {n:Nat}{t:List Nat}(h:IsT n t)
include h
theorem IsT.per_it {x:Nat}(hx:x<n)(j:Nat):per t (it t j x)=per t x:=by
 have hy:=h.it_lt hx j
 have le1:∀{x:Nat} (hx:x<n) (j:Nat),per t (it t j x)<=per t x:=λ{x} hx j=>by
  have hy:=h.it_lt hx j
  refine cI λhc=>?_
  refine(h.per_spec hy).2.2.2 (per t x) (h.per_pos hx) hc ?_
  rw[←J2,eY,J2,h.per_back hx]
 refine Nat.le_antisymm (le1 hx j) ?_
 have e:it t (per t x*(j+1)-j) (it t j x)=x:=by
  have hle:j<=per t x*(j+1):=aW (cF j) (by have:=de (j+1) (h.per_pos hx);lia)
  rw[←J2,show j+(per t x*(j+1)-j)=per t x*(j+1) by lia]
  exact h.it_mul hx _
 have:=le1 hy (per t x*(j+1)-j)
 rwa [e]at this
end
structure xy9 (t:List Nat) (x k:Nat) (c:List Nat):Prop where
 eq:c=(List.range k).map λj=>it t j x
 pos:1<=k
 no:∀j,1<=j->j<k->it t j x≠x
def pw (t:List Nat)(m:Int)(x:Nat):Nat:=it t (m % (per t x:Int)).toNat x
def pwT (t:List Nat)(m:Int):List Nat:=(List.range t.length).map (pw t m)
end TM
namespace TM
theorem xc7:∀(l:List Nat),l≠[]->∃y∈l,∀z∈l,y<=z
 | [],h=>absurd rfl h
 | [a],_=>⟨a,ax,λz hz=>by rw[af.mp hz];exact ag _⟩
 | a::b::r,_=>by
  obtain⟨y,hy,hl⟩:=xc7 (b::r) (by simp)
  by_cases q:a<=y
  ·exact⟨a,ax,λz hz=>by
    rcases aw.mp hz with e|e
    ·rw[e];exact ag _
    ·exact aW q (hl z e)⟩
  ·exact⟨y,ao _ hy,λz hz=>by
    rcases aw.mp hz with e|e
    ·rw[e];lia
    ·exact hl z e⟩
theorem xj7 {L:Nat}(hL:0<L)(i:Nat)(m:Int):((((i:Int)+m) % (L:Int)).toNat)=(i+(m % (L:Int)).toNat) % L:=by
 have hL':(0:Int)<(L:Int):=by lia
 have h1:=cK ((i:Int)+m) (show(L:Int)≠0 by lia)
 have h2:=cK m (show(L:Int)≠0 by lia)
 have e1:((m % (L:Int)).toNat:Int)=m % (L:Int):=fu h2
 have e2:(((i+(m % (L:Int)).toNat) % L:Nat):Int)=((i:Int)+m) % (L:Int):=by
  rw[Int.natCast_emod,Int.natCast_add,e1,Int.add_emod_emod]
 lia
section
variable {n:Nat}{t:List Nat}(hT:IsT n t)
include hT
theorem IsT.stay {x:Nat}(hx:x<n)(hp:¬1<per t x):t[x]?=some x:=by
 have h1:=hT.per_pos hx
 have h2:=hT.per_back hx
 rw[show per t x=1 by lia,xp3]at h2
 have:=hT.get_step hx
 rwa [h2]at this
theorem IsT.pw_lt (m:Int){x:Nat}(hx:x<n):pw t m x<n:=hT.it_lt hx _
theorem IsT.pw_pw (a b:Int){x:Nat}(hx:x<n):pw t b (pw t a x)=pw t (a+b) x:=by
 have hL:=hT.per_pos hx
 unfold pw
 rw[hT.per_it hx,←J2]
 have h2:=cK a (show(per t x:Int)≠0 by lia)
 have e:((a+b) % (per t x:Int)).toNat=((a % (per t x:Int)).toNat+(b % (per t x:Int)).toNat) % per t x:=by
  rw[←xj7 hL,fu h2,Int.emod_add_emod]
 rw[e,hT.it_mod hx]
theorem IsT.pwT_get (m:Int){x:Nat}(hx:x<n):(pwT t m)[x]?=some (pw t m x):=by
 unfold pwT
 rw[ah,bh (by rw[hT.length];exact hx)]
 rfl
theorem IsT.pwT_len (m:Int):(pwT t m).length=n:=by unfold pwT;rw[aa,aN,hT.length]
theorem IsT.eq_pwT {g:List Nat}{m:Int}(hl:g.length=n)(h:∀x,x<n->g[x]?=some (pw t m x)):g=pwT t m:=by
 apply cy
 intro x
 by_cases hx:x<n
 ·rw[h x hx,hT.pwT_get m hx]
 ·rw[aS (by lia),aS (by rw[hT.pwT_len];lia)]
theorem IsT.pwT_zero:List.range n=pwT t 0:=hT.eq_pwT aN λx hx=>by
 rw[bh hx]
 unfold pw
 rw[Int.zero_emod]
 rfl
theorem IsT.pwT_one:t=pwT t 1:=hT.eq_pwT hT.length λx hx=>by
 by_cases hp:1<per t x
 ·rw[hT.get_step hx]
  unfold pw
  rw[Int.emod_eq_of_lt (by decide) (by lia)]
  rfl
 ·have h1:=hT.per_pos hx
  rw[hT.stay hx hp]
  unfold pw
  rw[show per t x=1 by lia]
  rfl
theorem IsT.pwT_comp (a b:Int):((pwT t a).map λx=>(pwT t b).getD x 0)=pwT t (a+b):=hT.eq_pwT (by rw[aa,hT.pwT_len]) λx hx=>by
 rw[ya3 (hT.pwT_get a hx) (hT.pwT_get b (hT.pw_lt a hx)),hT.pw_pw a b hx]
end
end TM
namespace TM
section
variable {n:Nat}{t:List Nat}(hT:IsT n t)
include hT
end
def xq1 (l:List Nat):Nat:=l.foldl Nat.lcm 1
theorem lcm_pos {a b:Nat}(ha:0<a)(hb:0<b):0<Nat.lcm a b:=Nat.lcm_pos ha hb
end TM
namespace TM
def iN (l:List Nat):List Int:=l.map λ(x:Nat)=>(x:Int)
theorem xc6:∀{l:List Nat},(∀x∈l,0<x)->0<xq1 l:=by
 intro l
 unfold xq1
 have key:∀(l:List Nat) (a:Nat),0<a->(∀x∈l,0<x)->0<l.foldl Nat.lcm a:=by
  intro l
  induction l with
  | nil=>intro a h _;exact h
  | cons b r ih=>intro a h hl;exact ih _ (Nat.lcm_pos h (hl b ax)) λx hx=>hl x (ao _ hx)
 exact key l 1 (by decide)
end TM
namespace TM
def least (l:List Nat):Nat:=l.foldl min (l.headD 0)
section
variable {n:Nat}{t:List Nat}(hT:IsT n t)
include hT
end
theorem xj5 {l m:List Nat}(h1:l.Nodup)(h2:∀y∈l,y∈m):l.length<=m.length:=by
 refine cI λhc=>?_
 have:=(V6 h1 h2 (by lia)).length_eq
 lia
section
variable {n:Nat}{t b c:List Nat}(hT:IsT n t)(hB:IsT n b)
include hT hB
end
end TM
namespace TM
section
variable {n a b:Nat}{t u:List Nat}(hT:IsT n t)(hU:IsT n u)
include hT hU
end
section
variable {n:Nat}{t:List Nat}(hT:IsT n t)
include hT
end
end TM
namespace TM
inductive Ln where
 | still|told (k:Nat)|behind (i j:Nat)|back (i:Nat)
 deriving DecidableEq
def Ln.refs:Ln->List Nat
 | .still=>[]
 | .told _=>[]
 | .behind i j=>[i,j]
 | .back i=>[i]
def Ln.Ok (c p:Nat):Ln->Prop
 | .still=>True
 | .told k=>k<c
 | .behind i j=>i<p/\j<p
 | .back i=>i<p
def Rec (c:Nat)(ls:List Ln):Prop:=∀(p:Nat) (l:Ln),ls[p]?=some l->l.Ok c p
inductive yp9 (ls:List Ln):Nat->Nat->Prop
 | self (p:Nat):yp9 ls p p
 | by {p r q:Nat} {l:Ln}:ls[p]?=some l->r∈l.refs->yp9 ls r q->yp9 ls p q
open Classical in
noncomputable def nb (ls:List Ln) (q:Nat):Bool:=decide (yp9 ls (ls.length-1) q)
def pos (b:Nat->Bool)(r:Nat):Nat:=((List.range r).filter b).length
def Ln.ren (f:Nat->Nat):Ln->Ln
 | .still=>.still
 | .told k=>.told k
 | .behind i j=>.behind (f i) (f j)
 | .back i=>.back (f i)
def few (b:Nat->Bool)(ls:List Ln)(k:Nat):List Ln:=((List.range k).filter b).map λp=>(ls.getD p .still).ren (pos b)
section
variable {c:Nat}{ls:List Ln}(hR:Rec c ls)(hne:ls≠[])
include hR hne
noncomputable def stay (ls:List Ln):List Ln:=few (nb ls) ls ls.length
end
def bkT (n:Nat)(t:List Nat):List Nat:=(List.range n).map λy=>t.idxOf y
def comp (s t:List Nat):List Nat:=s.map λx=>t.getD x 0
def Ln.mk (n:Nat)(ms:List (List Nat))(made:List (List Nat)):Ln->List Nat
 | .still=>List.range n
 | .told k=>ms.getD k []
 | .behind i j=>comp (made.getD i []) (made.getD j [])
 | .back i=>bkT n (made.getD i [])
end TM
namespace TM
section
variable {α:Type}
def Loc (d:α)(g:Ln->List α->α):Prop:=∀(l:Ln) (m1 m2:List α) (f:Nat->Nat),(∀r∈l.refs,m1.getD r d=m2.getD (f r) d)->g l m1=g (l.ren f) m2
end
def step (n:Nat)(ms:List (List Nat))(x:Int):List Nat:=if 0<=x then ms.getD x.toNat [] else bkT n (ms.getD (-1-x).toNat [])
section
variable {n:Nat}
variable {ms:List (List Nat)}(hms:∀t∈ms,IsT n t)
include hms
end
end TM
namespace TM
def beh (t u:List Nat):List Nat:=t.map λx=>u.getD x 0
def bk (n:Nat)(t:List Nat):List Nat:=(List.range n).map λy=>t.idxOf y
theorem IsT.beh {n:Nat}{t u:List Nat}(ht:IsT n t)(hu:IsT n u):IsT n (TM.beh t u):=IsT.map ht hu
theorem beh_get {n:Nat}{t u:List Nat}(ht:IsT n t){x:Nat}(hx:x<n):(TM.beh t u).getD x 0=u.getD (t.getD x 0) 0:=by
 unfold TM.beh
 rw[ay,ah,ht.get_step hx]
 rfl
theorem still_get {n x:Nat}(hx:x<n):(List.range n).getD x 0=x:=by
 rw[ay,bh hx];rfl
theorem P8 {n:Nat}{a b:List Nat}(ha:IsT n a)(hb:IsT n b)(h:∀x,x<n->a.getD x 0=b.getD x 0):a=b:=by
 apply cy
 intro i
 by_cases hi:i<n
 ·rw[ha.get_step hi,hb.get_step hi,h i hi]
 ·rw[aS (by rw[ha.length];lia),aS (by rw[hb.length];lia)]
theorem r6 {n:Nat}{a b c:List Nat}(ha:IsT n a)(hb:IsT n b)(hc:IsT n c):beh (beh a b) c=beh a (beh b c) :=
 P8 ((ha.beh hb).beh hc) (ha.beh (hb.beh hc)) λx hx=>by rw[beh_get (ha.beh hb) hx,beh_get ha hx,beh_get ha hx,beh_get hb (ha.step_lt hx)]
theorem still_beh {n:Nat}{t:List Nat}(ht:IsT n t):beh (List.range n) t=t :=
 P8 ((IsT.range n).beh ht) ht λx hx=>by rw[beh_get (IsT.range n) hx,still_get hx]
theorem beh_still {n:Nat}{t:List Nat}(ht:IsT n t):beh t (List.range n)=t :=
 P8 (ht.beh (IsT.range n)) ht λx hx=>by rw[beh_get ht hx,still_get (ht.step_lt hx)]
theorem Q8:∀{l:List Nat} {i x:Nat},l.Nodup->l[i]?=some x->l.idxOf x=i
 | a::r,0,x,_,h=>by
  obtain rfl:a=x:=by simpa using h
  exact List.idxOf_cons_self
 | a::r,i+1,x,hn,h=>by
  have h':r[i]?=some x:=by simpa using h
  have hne:a≠x:=λe=>(aK.mp hn).1 (e ▸ av h')
  have ih:=Q8 (aK.mp hn).2 h'
  rw[List.idxOf_cons,show(a==x)=false from beq_eq_false_iff_ne.mpr hne]
  show r.idxOf x+1=i+1
  rw[ih]
theorem zn7 {n:Nat}{t:List Nat}(ht:IsT n t){x:Nat}(hx:x<n):(bk n t).getD (t.getD x 0) 0=x:=by
 unfold bk
 rw[ay,ah,bh (ht.step_lt hx)]
 exact Q8 ht.nodup (ht.get_step hx)
theorem bk_back {n:Nat}{t:List Nat}(ht:IsT n t):Back n t n (bk n t):=by
 refine⟨by unfold bk;rw[aa,aN],λx y hx hy=>?_⟩
 unfold bk
 rw[ah,bh (ht.get_lt hy)]
 exact congrArg some (Q8 ht.nodup hy)
theorem IsT.bk {n:Nat}{t:List Nat}(ht:IsT n t):IsT n (TM.bk n t):=(bk_back ht).isT ht
theorem D6 {n:Nat}{t:List Nat}(ht:IsT n t):beh t (bk n t)=List.range n :=
 P8 (ht.beh ht.bk) (IsT.range n) λx hx=>by rw[beh_get ht hx,zn7 ht hx,still_get hx]
theorem xo2 {n:Nat}{t:List Nat}(ht:IsT n t){y:Nat}(hy:y<n):t.getD ((bk n t).getD y 0) 0=y:=by
 obtain⟨x,hx,hxn⟩:=ht.hit hy
 have e:=getD_of hx
 rw[←e,zn7 ht hxn]
theorem zn6 {n:Nat}{t:List Nat}(ht:IsT n t):beh (bk n t) t=List.range n :=
 P8 (ht.bk.beh ht) (IsT.range n) λx hx=>by rw[beh_get ht.bk hx,xo2 ht hx,still_get hx]
theorem xm6 {n:Nat}{t:List Nat}(ht:IsT n t):bk n (bk n t)=t:=by
 have h:=r6 ht ht.bk ht.bk.bk
 rw[D6 ht,D6 ht.bk,beh_still ht,still_beh ht.bk.bk]at h
 exact h
theorem zy7 {n:Nat}{a b:List Nat}(ha:IsT n a)(hb:IsT n b):bk n (beh a b)=beh (bk n b) (bk n a) :=
 ((bk_back (ha.beh hb)).uniq (ha.beh hb) ((bk_back ha).comp ha hb (bk_back hb)))
theorem bk_still (n:Nat):bk n (List.range n)=List.range n:=(bk_back (IsT.range n)).uniq (IsT.range n) (Back.range n)
theorem J0 {n:Nat}{a b u:List Nat}(ha:IsT n a)(hb:IsT n b)(hu:IsT n u)(h:beh a u=beh b u):a=b:=by
 have e:=congrArg (λz=>beh z (bk n u)) h
 rwa [r6 ha hu hu.bk,r6 hb hu hu.bk,D6 hu,beh_still ha,beh_still hb]at e
theorem ye9 {n:Nat}{a b u:List Nat}(ha:IsT n a)(hb:IsT n b)(hu:IsT n u)(h:beh u a=beh u b):a=b:=by
 have e:=congrArg (λz=>beh (bk n u) z) h
 rwa [←r6 hu.bk hu ha,←r6 hu.bk hu hb,zn6 hu,still_beh ha,still_beh hb]at e
theorem ya5 {n:Nat}{x u:List Nat}(hx:IsT n x)(hu:IsT n u):beh (beh x (bk n u)) u=x:=by rw[r6 hx hu.bk hu,zn6 hu,beh_still hx]
theorem xe3 {n:Nat}{x u:List Nat}(hx:IsT n x)(hu:IsT n u):beh (beh x u) (bk n u)=x:=by rw[r6 hx hu hu.bk,D6 hu,beh_still hx]
inductive Grp (n:Nat) (S:List Nat->Prop):List Nat->Prop
 | one:Grp n S (List.range n)
 | mul {a s:List Nat}:Grp n S a->S s->Grp n S (beh a s)
 | inv {a s:List Nat}:Grp n S a->S s->Grp n S (beh a (bk n s))
section
variable {n:Nat}{S S':List Nat->Prop}(hS:∀s,S s->IsT n s)
include hS
theorem Grp.isT {a:List Nat}(h:Grp n S a):IsT n a:=by
 induction h with
 | one=>exact IsT.range n
 | mul _ hs ih=>exact ih.beh (hS _ hs)
 | inv _ hs ih=>exact ih.beh (hS _ hs).bk
theorem Grp.of {s:List Nat}(h:S s):Grp n S s:=by
 have:=Grp.mul (n:=n) (S:=S) .one h
 rwa [still_beh (hS s h)]at this
theorem Grp.beh {a b:List Nat}(ha:Grp n S a)(hb:Grp n S b):Grp n S (TM.beh a b):=by
 have hA:=ha.isT hS
 induction hb with
 | one=>rw[beh_still hA];exact ha
 | mul h hs ih=>rw[←r6 hA (h.isT hS) (hS _ hs)];exact .mul ih hs
 | inv h hs ih=>rw[←r6 hA (h.isT hS) (hS _ hs).bk];exact .inv ih hs
theorem Grp.bk {a:List Nat}(ha:Grp n S a):Grp n S (TM.bk n a):=by
 induction ha with
 | one=>rw[bk_still];exact .one
 | mul h hs ih =>
  rw[zy7 (h.isT hS) (hS _ hs)]
  refine Grp.beh hS ?_ ih
  have:=Grp.inv (n:=n) (S:=S) .one hs
  rwa [still_beh (hS _ hs).bk]at this
 | inv h hs ih =>
  rw[zy7 (h.isT hS) (hS _ hs).bk,xm6 (hS _ hs)]
  exact Grp.beh hS (Grp.of hS hs) ih
omit hS in
theorem Grp.mono {a:List Nat}(hS':∀s,S' s->IsT n s)(h:∀s,S s->Grp n S' s)(ha:Grp n S a):Grp n S' a:=by
 induction ha with
 | one=>exact .one
 | mul _ hs ih=>exact Grp.beh hS' ih (h _ hs)
 | inv _ hs ih=>exact Grp.beh hS' ih (Grp.bk hS' (h _ hs))
omit hS in
theorem Grp.keeps {P:List Nat->Prop}(h1:P (List.range n))(hm:∀a s,P a->S s->P (TM.beh a s))(hi:∀a s,P a->S s->P (TM.beh a (TM.bk n s))){a:List Nat}(ha:Grp n S a):P a:=by
 induction ha with
 | one=>exact h1
 | mul _ hs ih=>exact hm _ _ ih hs
 | inv _ hs ih=>exact hi _ _ ih hs
end
def Fix (j:Nat)(t:List Nat):Prop:=∀x,x<j->t.getD x 0=x
theorem Fix.zero (t:List Nat):Fix 0 t:=λ_ h=>absurd h (bX _)
theorem Fix.still {n j:Nat}(hj:j<=n):Fix j (List.range n):=λx hx=>still_get (by lia)
theorem Fix.beh {n j:Nat}{a b:List Nat}(hj:j<=n)(hA:IsT n a)(ha:Fix j a)(hb:Fix j b):Fix j (TM.beh a b):=λx hx=>by rw[beh_get hA (by lia),ha x hx,hb x hx]
theorem Fix.bk {n j:Nat}{a:List Nat}(hj:j<=n)(hA:IsT n a)(ha:Fix j a):Fix j (TM.bk n a):=λx hx=>by
 have h:=zn7 hA (show x<n by lia)
 rwa [ha x hx]at h
theorem Fix.all {n:Nat}{a:List Nat}(hA:IsT n a)(h:Fix n a):a=List.range n:=P8 hA (IsT.range n) λx hx=>by rw[h x hx,still_get hx]
theorem Grp.fix {n j:Nat}{S:List Nat->Prop}(hS:∀s,S s->IsT n s)(hj:j<=n)(hf:∀s,S s->Fix j s){a:List Nat}(ha:Grp n S a):Fix j a:=by
 induction ha with
 | one=>exact Fix.still hj
 | mul h hs ih=>exact Fix.beh hj (h.isT hS) ih (hf _ hs)
 | inv h hs ih=>exact Fix.beh hj (h.isT hS) ih (Fix.bk hj (hS _ hs) (hf _ hs))
end TM
namespace TM
structure Chn where
 mv:Nat->List Nat->Prop
 ring:Nat->List Nat
 up:Nat->Nat->List Nat
structure Chn.Ok (n:Nat) (C:Chn):Prop where
 mvT:∀j s,C.mv j s->IsT n s
 mvF:∀j s,C.mv j s->Fix j s
 down:∀j s,C.mv (j+1) s->Grp n (C.mv j) s
 top:∀j s,n<=j->¬C.mv j s
 nd:∀j,j<n->(C.ring j).Nodup
 lt:∀j p,j<n->p∈C.ring j->p<n
 own:∀j,j<n->j∈C.ring j
 upG:∀j p,j<n->p∈C.ring j->Grp n (C.mv j) (C.up j p)
 upTo:∀j p,j<n->p∈C.ring j->(C.up j p).getD j 0=p
 upOwn:∀j,j<n->C.up j j=List.range n
def Chn.Shut (n:Nat)(C:Chn)(j:Nat):Prop:=∀p,p∈C.ring j->∀s,C.mv j s->s.getD p 0∈C.ring j/\Grp n (C.mv (j+1)) (beh (beh (C.up j p) s) (bk n (C.up j (s.getD p 0))))
def Chn.Sif (n:Nat)(C:Chn):Nat->List Nat->Prop
 | 0,_=>True
 | d+1,x=>x.getD (n-(d+1)) 0∈C.ring (n-(d+1))/\Chn.Sif n C d (beh x (bk n (C.up (n-(d+1)) (x.getD (n-(d+1)) 0))))
section
variable {n:Nat}{C:Chn}(ok:C.Ok n)
include ok
theorem Chn.Ok.upT {j p:Nat}(hj:j<n)(hp:p∈C.ring j):IsT n (C.up j p):=(ok.upG j p hj hp).isT (ok.mvT j)
theorem Chn.Ok.upF {j p:Nat}(hj:j<n)(hp:p∈C.ring j):Fix j (C.up j p):=(ok.upG j p hj hp).fix (ok.mvT j) (bH hj) (ok.mvF j)
theorem Chn.Ok.off {j:Nat}{x:List Nat}(hj:j<n)(hx:IsT n x)(hf:Fix j x)(hp:x.getD j 0∈C.ring j):IsT n (beh x (bk n (C.up j (x.getD j 0))))/\Fix (j+1) (beh x (bk n (C.up j (x.getD j 0)))):=by
 have hu:=ok.upT hj hp
 refine⟨hx.beh hu.bk,λy hy=>?_⟩
 rw[beh_get hx (by lia)]
 by_cases e:y=j
 ·subst e
  have h:=zn7 hu hj
  rw[ok.upTo y _ hj hp]at h
  exact h
 ·have hy':y<j:=by lia
  rw[hf y hy']
  exact Fix.bk (bH hj) hu (ok.upF hj hp) y hy'
theorem Chn.Ok.sound:∀(d:Nat) (x:List Nat),d<=n->IsT n x->Fix (n-d) x->C.Sif n d x->Grp n (C.mv (n-d)) x
 | 0,x,_,hx,hf,_=>by
  rw[di]at hf ⊢
  rw[Fix.all hx hf]
  exact .one
 | d+1,x,hd,hx,hf,h=>by
  have hj:n-(d+1)<n:=by lia
  obtain⟨hp,hs⟩:=h
  obtain⟨ht,hf'⟩:=ok.off hj hx hf hp
  have e:n-(d+1)+1=n-d:=by lia
  rw[e]at hf'
  have ih:=Chn.Ok.sound d _ (by lia) ht hf' hs
  rw[←e]at ih
  have g:=Grp.mono (ok.mvT _) (ok.down _) ih
  have r:=Grp.beh (ok.mvT _) g (ok.upG _ _ hj hp)
  rwa [ya5 hx (ok.upT hj hp)]at r
theorem Chn.Ok.parts {j:Nat}(hj:j<n)(sh:C.Shut n j){x:List Nat}(hx:Grp n (C.mv j) x):∃p h,p∈C.ring j/\Grp n (C.mv (j+1)) h/\x=beh h (C.up j p):=by
 have hS:=ok.mvT j
 have hS1:=ok.mvT (j+1)
 induction hx with
 | one=>exact⟨j,_,ok.own j hj,.one,by rw[ok.upOwn j hj,still_beh (IsT.range n)]⟩
 | mul hg hs ih =>
  rename_i a s
  obtain⟨p,h,hp,hh,rfl⟩:=ih
  obtain⟨hq,hg'⟩:=sh p hp s hs
  have hh':=hh.isT hS1
  have hu:=ok.upT hj hp
  have hv:=ok.upT hj hq
  refine⟨_,_,hq,Grp.beh hS1 hh hg',?_⟩
  rw[r6 hh' ((hu.beh (hS s hs)).beh hv.bk) hv,ya5 (hu.beh (hS s hs)) hv,r6 hh' hu (hS s hs)]
 | inv hg hs ih =>
  rename_i a s
  obtain⟨p,h,hp,hh,rfl⟩:=ih
  have hsT:=hS s hs
  obtain⟨q,hq,e⟩:∃q∈C.ring j,s.getD q 0=p:=by
   have hnd:((C.ring j).map λq=>s.getD q 0).Nodup:=bj.mpr (List.Pairwise.imp_of_mem (λha hb hne z=>hne (hsT.step_inj (ok.lt j _ hj ha) (ok.lt j _ hj hb) z)) (ok.nd j hj))
   have hpm:=V6 hnd (λy hy=>by
    obtain⟨q,hq,rfl⟩:=au.mp hy
    exact(sh q hq s hs).1) (by rw[aa];exact ag _)
   exact au.mp (hpm.mem_iff.mpr hp)
  subst e
  obtain⟨_,hg'⟩:=sh q hq s hs
  have hh':=hh.isT hS1
  have hu:=ok.upT hj hp
  have hv:=ok.upT hj hq
  refine⟨q,_,hq,Grp.beh hS1 hh (Grp.bk hS1 hg'),?_⟩
  rw[zy7 (hv.beh hsT) hu.bk,xm6 hu,zy7 hv hsT,r6 hh' (hu.beh (hsT.bk.beh hv.bk)) hv,r6 hu (hsT.bk.beh hv.bk) hv,r6 hsT.bk hv.bk hv,zn6 hv,beh_still hsT.bk,r6 hh' hu hsT.bk]
theorem Chn.Ok.complete:∀(d:Nat) (x:List Nat),d<=n->(∀j,n-d<=j->j<n->C.Shut n j)->Grp n (C.mv (n-d)) x->C.Sif n d x
 | 0,_,_,_,_=>trivial
 | d+1,x,hd,sh,hx=>by
  have hj:n-(d+1)<n:=by lia
  have e:n-(d+1)+1=n-d:=by lia
  obtain⟨p,h,hp,hh,rfl⟩:=ok.parts hj (sh _ (ag _) hj) hx
  have hh':=hh.isT (ok.mvT _)
  have hf:=hh.fix (ok.mvT _) (by lia) (ok.mvF _)
  have hu:=ok.upT hj hp
  have e0:(beh h (C.up (n-(d+1)) p)).getD (n-(d+1)) 0=p:=by
   rw[beh_get hh' hj,hf _ (by lia),ok.upTo _ _ hj hp]
  refine⟨by rw[e0];exact hp,?_⟩
  rw[e0,xe3 hh' hu]
  rw[e]at hh
  exact Chn.Ok.complete d h (by lia) (λi hi=>sh i (by lia)) hh
theorem Chn.Ok.sift {d:Nat}{x:List Nat}(hd:d<=n)(hx:IsT n x)(hf:Fix (n-d) x)(sh:∀j,n-d<=j->j<n->C.Shut n j):C.Sif n d x↔Grp n (C.mv (n-d)) x :=
 ⟨ok.sound d x hd hx hf,ok.complete d x hd sh⟩
theorem Chn.Ok.genF {j:Nat}(hj:j<=n){x:List Nat}(hx:Grp n (C.mv j) x):Fix j x:=hx.fix (ok.mvT j) hj (ok.mvF j)
end
def Indep (n:Nat)(l:List (List Nat)):Prop:=∀i s,l[i]?=some s->¬Grp n (λz=>z∈l.take i) s
theorem Indep.snoc {n:Nat}{l:List (List Nat)}{s:List Nat}(h:Indep n l)(hs:¬Grp n (λz=>z∈l) s):Indep n (l++[s]):=λi z hz hg=>by
 by_cases hi:i<l.length
 ·rw[aI hi]at hz
  rw[bG (bH hi)]at hg
  exact h i z hz hg
 ·have:i=l.length:=by
   have:=(al.mp hz).1
   rw[aq,bB]at this
   lia
  subst this
  rw[aZ (ag _),cq]at hz
  obtain rfl:s=z:=by simpa using hz
  rw[bG (ag _),bn]at hg
  exact hs hg
theorem Indep.init {n:Nat}{l:List (List Nat)}{s:List Nat}(h:Indep n (l++[s])):Indep n l/\¬Grp n (λz=>z∈l) s:=by
 refine⟨λi z hz hg=>?_,λhg=>?_⟩
 ·have hi:=(al.mp hz).1
  refine h i z (by rw[aI hi];exact hz) ?_
  rw[bG (bH hi)]
  exact hg
 ·refine h l.length s (by rw[aZ (ag _),cq];rfl) ?_
  rw[bG (ag _),bn]
  exact hg
theorem zb2 {n:Nat}:∀(k:Nat) (l:List (List Nat)),l.length=k->(∀s∈l,IsT n s)->Indep n l->∃L:List (List Nat),L.Nodup/\(∀x∈L,Grp n (λz=>z∈l) x)/\L.length=2 ^ k
 | 0,l,_,_,_=>⟨[List.range n],by simp,λx hx=>by rw[af.mp hx];exact .one,rfl⟩
 | k+1,l,hl,hT,hI=>by
  have hne:l≠[]:=λe=>by rw[e]at hl;cases hl
  obtain⟨l0,s,rfl⟩:∃l0 s,l=l0++[s]:=⟨l.dropLast,l.getLast hne,(List.dropLast_concat_getLast hne).symm⟩
  rw[aq,bB]at hl
  obtain⟨hI0,hs⟩:=hI.init
  have hT0:∀z∈l0,IsT n z:=λz hz=>hT z (aH _ hz)
  have hsT:IsT n s:=hT s (by simp)
  obtain⟨L,hnd,hG,hLl⟩:=zb2 k l0 (by lia) hT0 hI0
  have up:∀x,Grp n (λz=>z∈l0) x->Grp n (λz=>z∈l0++[s]) x:=λx hx=>Grp.mono (λz hz=>hT z hz) (λz hz=>Grp.of (λz hz=>hT z hz) (aH _ hz)) hx
  refine⟨L++L.map λx=>beh x s,?_,λx hx=>?_,by rw[aq,aa,hLl,fH];lia⟩
  ·refine bu.mpr ⟨hnd,bj.mpr (List.Pairwise.imp_of_mem (λha hb hne z=>hne (J0 ((hG _ ha).isT hT0) ((hG _ hb).isT hT0) hsT z)) hnd),λa ha b hb e=>?_⟩
   obtain⟨c,hc,rfl⟩:=au.mp hb
   subst e
   have hcT:=(hG c hc).isT hT0
   have g:=Grp.beh hT0 (Grp.bk hT0 (hG c hc)) (hG _ ha)
   rw[←r6 hcT.bk hcT hsT,zn6 hcT,still_beh hsT]at g
   exact hs g
  ·rcases aC.mp hx with h|h
   ·exact up x (hG x h)
   ·obtain⟨c,hc,rfl⟩:=au.mp h
    exact .mul (up c (hG c hc)) (by simp)
def num (n:Nat):List Nat->Nat
 | []=>0
 | x::r=>x+n*num n r
theorem xd8 {n:Nat}:∀{l:List Nat},(∀x∈l,x<n)->num n l<n ^ l.length
 | [],_=>by simp[num]
 | x::r,h=>by
  have ih:=xd8 (l:=r) λy hy=>h y (ao _ hy)
  have hx:=h x ax
  rw[num,aD,fH,fI (n ^ r.length) n]
  have:n*(num n r+1)<=n*n ^ r.length:=Nat.mul_le_mul_left n ih
  rw[Nat.mul_add,fh]at this
  lia
theorem yr6 {n:Nat}:∀{l m:List Nat},(∀x∈l,x<n)->(∀x∈m,x<n)->l.length=m.length->num n l=num n m->l=m
 | [],[],_,_,_,_=>rfl
 | x::r,y::q,h1,h2,hl,e=>by
  have hx:=h1 x ax
  have hy:=h2 y ax
  rw[num,num]at e
  have e1:x=y:=by
   have:=congrArg (· % n) e
   simpa[Nat.add_mul_mod_self_left,fA hx,fA hy] using this
  subst e1
  have e2:n*num n r=n*num n q:=by lia
  have e3:=Nat.eq_of_mul_eq_mul_left (by lia) e2
  rw[yr6 (λz hz=>h1 z (ao _ hz)) (λz hz=>h2 z (ao _ hz)) (by simpa using hl) e3]
 | [],_::_,_,_,hl,_=>by cases hl
 | _::_,[],_,_,hl,_=>by cases hl
theorem nodup_below {l:List Nat}{M:Nat}(h:l.Nodup)(hl:∀x∈l,x<M):l.length<=M:=by
 rcases fK l.length M with q|q
 ·exact q
 ·have p:=V6 h (l:=List.range M) (λx hx=>bg.mpr (hl x hx)) (by rw[aN];exact q)
  rw[p.length_eq,aN]
  exact ag _
theorem ye1 {n:Nat}{L:List (List Nat)}(h:L.Nodup)(hT:∀t∈L,IsT n t):L.length<=n ^ n:=by
 have h1:(L.map (num n)).Nodup:=bj.mpr (List.Pairwise.imp_of_mem (λha hb hne z=>hne (yr6 (λx hx=>(hT _ ha).lt hx) (λx hx=>(hT _ hb).lt hx) (by rw[(hT _ ha).length,(hT _ hb).length]) z)) h)
 have h2:=nodup_below (M:=n ^ n) h1 λx hx=>by
  obtain⟨t,ht,rfl⟩:=au.mp hx
  have:=xd8 (n:=n) (l:=t) λy hy=>(hT t ht).lt hy
  rwa [(hT t ht).length]at this
 rwa [aa]at h2
set_option exponentiation.threshold 1000 in
theorem indep_few {n:Nat}(hn:n<=60){l:List (List Nat)}(hT:∀s∈l,IsT n s)(hI:Indep n l):l.length<=354:=by
 obtain⟨L,h1,h2,h3⟩:=zb2 l.length l rfl hT hI
 have h4:=ye1 h1 λt ht=>(h2 t ht).isT hT
 rw[h3]at h4
 have h5:n ^ n<=60 ^ 60:=aW (Nat.pow_le_pow_left hn n) (dN (by decide) hn)
 have h6:(60:Nat) ^ 60<2 ^ 355:=by decide
 rcases eX 354 l.length with q|q
 ·have:=dN (show 0<2 by decide) (show 355<=l.length from q)
  lia
 ·exact q
end TM
namespace TM
def Chn.Good (n:Nat)(C:Chn)(j p:Nat)(s:List Nat):Prop:=s.getD p 0∈C.ring j/\Grp n (C.mv (j+1)) (beh (beh (C.up j p) s) (bk n (C.up j (s.getD p 0))))
structure Chn.MoreP (n:Nat) (C C':Chn) (j q:Nat) (t:List Nat):Prop where
 hj:j<n
 hq:q∉C.ring j
 hqn:q<n
 gt:Grp n (C.mv j) t
 ht:t.getD j 0=q
 emv:C'.mv=C.mv
 er:C'.ring j=C.ring j++[q]
 er':∀i,i≠j->C'.ring i=C.ring i
 eu:∀p,p≠q->C'.up j p=C.up j p
 eq:C'.up j q=t
 eu':∀i,i≠j->C'.up i=C.up i
theorem Chn.MoreP.sub {n:Nat}{C C':Chn}{j q:Nat}{t:List Nat}(m:Chn.MoreP n C C' j q t){i p:Nat}(hp:p∈C.ring i):p∈C'.ring i/\C'.up i p=C.up i p:=by
 by_cases e:i=j
 ·subst e
  exact⟨by rw[m.er];exact aH _ hp,m.eu p λz=>m.hq (z ▸ hp)⟩
 ·exact⟨by rw[m.er' i e];exact hp,by rw[m.eu' i e]⟩
theorem Chn.MoreP.cases {n:Nat}{C C':Chn}{j q:Nat}{t:List Nat}(m:Chn.MoreP n C C' j q t){i p:Nat}(hp:p∈C'.ring i):p∈C.ring i∨(i=j/\p=q):=by
 by_cases e:i=j
 ·subst e
  rw[m.er]at hp
  rcases aC.mp hp with h|h
  ·exact .inl h
  ·exact .inr ⟨rfl,af.mp h⟩
 ·rw[m.er' i e]at hp;exact .inl hp
theorem Chn.MoreP.ok {n:Nat}{C C':Chn}{j q:Nat}{t:List Nat}(m:Chn.MoreP n C C' j q t)(ok:C.Ok n):C'.Ok n where
 mvT:=by rw[m.emv];exact ok.mvT
 mvF:=by rw[m.emv];exact ok.mvF
 down:=by rw[m.emv];exact ok.down
 top:=by rw[m.emv];exact ok.top
 nd i hi:=by
  by_cases e:i=j
  ·subst e
   rw[m.er]
   refine bu.mpr ⟨ok.nd i hi,by simp,λa ha b hb e=>m.hq ?_⟩
   rw[←af.mp hb,←e]
   exact ha
  ·rw[m.er' i e];exact ok.nd i hi
 lt i p hi hp:=by
  rcases m.cases hp with h|⟨_,h⟩
  ·exact ok.lt i p hi h
  ·rw[h];exact m.hqn
 own i hi:=(m.sub (ok.own i hi)).1
 upG i p hi hp:=by
  rw[m.emv]
  rcases m.cases hp with h|⟨h1,h2⟩
  ·rw[(m.sub h).2];exact ok.upG i p hi h
  ·rw[h1,h2,m.eq];exact m.gt
 upTo i p hi hp:=by
  rcases m.cases hp with h|⟨h1,h2⟩
  ·rw[(m.sub h).2];exact ok.upTo i p hi h
  ·rw[h1,h2,m.eq];exact m.ht
 upOwn i hi:=by rw[(m.sub (ok.own i hi)).2];exact ok.upOwn i hi
theorem Chn.MoreP.good {n:Nat}{C C':Chn}{j q:Nat}{t:List Nat}(m:Chn.MoreP n C C' j q t){i p:Nat}{s:List Nat}(hp:p∈C.ring i)(g:C.Good n i p s):C'.Good n i p s:=by
 refine⟨(m.sub g.1).1,?_⟩
 rw[m.emv,(m.sub hp).2,(m.sub g.1).2]
 exact g.2
theorem Chn.MoreP.new {n:Nat}{C C':Chn}{j q:Nat}{t:List Nat}(m:Chn.MoreP n C C' j q t)(ok:C.Ok n){p:Nat}{s:List Nat}(hp:p∈C.ring j)(hs:C.mv j s)(e:t=beh (C.up j p) s):C'.Good n j p s:=by
 have hu:=ok.upT m.hj hp
 have es:s.getD p 0=q:=by
  have h:=m.ht
  rw[e,beh_get hu m.hj,ok.upTo j p m.hj hp]at h
  exact h
 unfold Chn.Good
 rw[es]
 refine⟨by rw[m.er];simp,?_⟩
 rw[m.eq,(m.sub hp).2,e,D6 (hu.beh (ok.mvT j s hs))]
 exact .one
structure Chn.MoreM (n:Nat) (C C':Chn) (i:Nat) (t:List Nat):Prop where
 hi:i<n
 tT:IsT n t
 tF:Fix i t
 dn:∀h,h+1=i->Grp n (C.mv h) t
 emv:∀h s,C'.mv h s↔(C.mv h s∨(h=i/\s=t))
 er:C'.ring=C.ring
 eu:C'.up=C.up
section
variable {n:Nat}{C C':Chn}{i:Nat}{t:List Nat}
theorem Chn.MoreM.mvT (m:Chn.MoreM n C C' i t)(ok:C.Ok n)(h:Nat)(s:List Nat)(hs:C'.mv h s):IsT n s:=by
 rcases (m.emv h s).mp hs with q|⟨_,q⟩
 ·exact ok.mvT h s q
 ·rw[q];exact m.tT
theorem Chn.MoreM.grp (m:Chn.MoreM n C C' i t)(ok:C.Ok n){h:Nat}{s:List Nat}(hs:Grp n (C.mv h) s):Grp n (C'.mv h) s:=Grp.mono (m.mvT ok h) (λz hz=>Grp.of (m.mvT ok h) ((m.emv h z).mpr (.inl hz))) hs
theorem Chn.MoreM.ok (m:Chn.MoreM n C C' i t)(ok:C.Ok n):C'.Ok n where
 mvT:=m.mvT ok
 mvF h s hs:=by
  rcases (m.emv h s).mp hs with q|⟨e,q⟩
  ·exact ok.mvF h s q
  ·rw[q,e];exact m.tF
 down h s hs:=by
  rcases (m.emv _ s).mp hs with q|⟨e,q⟩
  ·exact m.grp ok (ok.down h s q)
  ·rw[q];exact m.grp ok (m.dn h e)
 top h s hn hs:=by
  rcases (m.emv h s).mp hs with q|⟨e,q⟩
  ·exact ok.top h s hn q
  ·have:=m.hi;lia
 nd:=by rw[m.er];exact ok.nd
 lt:=by rw[m.er];exact ok.lt
 own:=by rw[m.er];exact ok.own
 upG h p hh hp:=by
  rw[m.er]at hp
  rw[m.eu]
  exact m.grp ok (ok.upG h p hh hp)
 upTo:=by rw[m.er,m.eu];exact ok.upTo
 upOwn:=by rw[m.eu];exact ok.upOwn
theorem Chn.MoreM.good (m:Chn.MoreM n C C' i t)(ok:C.Ok n){h p:Nat}{s:List Nat}(g:C.Good n h p s):C'.Good n h p s:=by
 unfold Chn.Good
 rw[m.er,m.eu]
 exact⟨g.1,m.grp ok g.2⟩
theorem Chn.MoreM.new {j:Nat}(m:Chn.MoreM n C C' (j+1) t)(ok:C.Ok n){p:Nat}{s:List Nat}(hp:s.getD p 0∈C.ring j)(e:t=beh (beh (C.up j p) s) (bk n (C.up j (s.getD p 0)))):C'.Good n j p s:=by
 unfold Chn.Good
 rw[m.er,m.eu]
 refine⟨hp,?_⟩
 rw[←e]
 exact Grp.of (m.mvT ok _) ((m.emv _ t).mpr (.inr ⟨rfl,rfl⟩))
theorem Chn.Ok.schreier (ok:C.Ok n){j p:Nat}{s:List Nat}(hj:j<n)(hp:p∈C.ring j)(hs:C.mv j s)(hq:s.getD p 0∈C.ring j):Grp n (C.mv j) (beh (beh (C.up j p) s) (bk n (C.up j (s.getD p 0))))/\Fix (j+1) (beh (beh (C.up j p) s) (bk n (C.up j (s.getD p 0)))):=by
 have hS:=ok.mvT j
 have hu:=ok.upT hj hp
 have g:Grp n (C.mv j) (beh (C.up j p) s):=.mul (ok.upG j p hj hp) hs
 refine⟨Grp.beh hS g (Grp.bk hS (ok.upG j _ hj hq)),?_⟩
 have e:(beh (C.up j p) s).getD j 0=s.getD p 0:=by rw[beh_get hu hj,ok.upTo j p hj hp]
 have h:=(ok.off hj (hu.beh (hS s hs)) (g.fix hS (bH hj) (ok.mvF j)) (by rw[e];exact hq)).2
 rwa [e]at h
end
end TM
namespace TM
def Chn.many (n:Nat)(C:Chn):Nat->Nat
 | 0=>1
 | d+1=>(C.ring (n-(d+1))).length*Chn.many n C d
theorem zx0 {α:Type}(f:Nat->List α)(m:Nat):∀(l:List Nat),(∀p∈l,(f p).length=m)->(l.flatMap f).length=l.length*m
 | [],_=>by simp
 | p::l,h=>by
  rw[cP,aq,h p ax,zx0 f m l (λq hq=>h q (ao _ hq)),aD,fF,eY]
theorem zi8 {α:Type}(f:Nat->List α):∀(l:List Nat),l.Nodup->(∀p∈l,(f p).Nodup)->(∀p∈l,∀q∈l,∀x,x∈f p->x∈f q->p=q)->(l.flatMap f).Nodup
 | [],_,_,_=>by simp
 | p::l,hn,h1,h2=>by
  rw[cP]
  refine bu.mpr ⟨h1 p ax,zi8 f l (aK.mp hn).2 (λq hq=>h1 q (ao _ hq)) (λq hq r hr=>h2 q (ao _ hq) r (ao _ hr)),λa ha b hb e=>?_⟩
  subst e
  obtain⟨q,hq,hx⟩:=cH.mp hb
  have:=h2 p ax q (ao _ hq) a ha hx
  exact(aK.mp hn).1 (this ▸ hq)
section
variable {n:Nat}{C:Chn}(ok:C.Ok n)
include ok
theorem Chn.Ok.all:∀(d:Nat),d<=n->(∀j,n-d<=j->j<n->C.Shut n j)->∃L:List (List Nat),L.Nodup/\(∀x,x∈L↔Grp n (C.mv (n-d)) x)/\L.length=C.many n d
 | 0,_,_=>⟨[List.range n],by simp,λx=>⟨λh=>by rw[af.mp h];exact .one,λh=>by
   rw[di]at h
   have hT:=h.isT (ok.mvT n)
   rw[Fix.all hT (ok.genF (ag n) h)]
   exact af.mpr rfl⟩,rfl⟩
 | d+1,hd,sh=>by
  have hj:n-(d+1)<n:=by lia
  have e:n-(d+1)+1=n-d:=by lia
  obtain⟨L,hL,hm,hl⟩:=Chn.Ok.all d (by lia) (λj h1 h2=>sh j (by lia) h2)
  have hfx:∀h,h∈L->IsT n h/\Fix (n-(d+1)+1) h:=λh hh=>by
   have g:=(hm h).mp hh
   rw[e]
   exact⟨g.isT (ok.mvT _),ok.genF (by lia) g⟩
  refine⟨(C.ring (n-(d+1))).flatMap λp=>L.map λh=>beh h (C.up (n-(d+1)) p),?_,λx=>⟨λh=>?_,λh=>?_⟩,?_⟩
  ·refine zi8 _ _ (ok.nd _ hj) (λp hp=>?_) (λp hp q hq x hx hy=>?_)
   ·exact bj.mpr (List.Pairwise.imp_of_mem (λha hb hne z=>hne (J0 (hfx _ ha).1 (hfx _ hb).1 (ok.upT hj hp) z)) hL)
   ·obtain⟨h,hh,rfl⟩:=au.mp hx
    obtain⟨k,hk,e2⟩:=au.mp hy
    have a1:(beh h (C.up (n-(d+1)) p)).getD (n-(d+1)) 0=p:=by
     rw[beh_get (hfx _ hh).1 hj,(hfx _ hh).2 _ (by lia),ok.upTo _ _ hj hp]
    have a2:(beh k (C.up (n-(d+1)) q)).getD (n-(d+1)) 0=q:=by
     rw[beh_get (hfx _ hk).1 hj,(hfx _ hk).2 _ (by lia),ok.upTo _ _ hj hq]
    rw[←a1,←a2,e2]
  ·obtain⟨p,hp,hx⟩:=cH.mp h
   obtain⟨k,hk,rfl⟩:=au.mp hx
   have g:=(hm k).mp hk
   rw[←e]at g
   exact Grp.beh (ok.mvT _) (Grp.mono (ok.mvT _) (ok.down _) g) (ok.upG _ _ hj hp)
  ·obtain⟨p,k,hp,hk,rfl⟩:=ok.parts hj (sh _ (ag _) hj) h
   rw[e]at hk
   exact cH.mpr ⟨p,hp,au.mpr ⟨k,(hm k).mpr hk,rfl⟩⟩
  ·rw[zx0 _ L.length _ (λp _=>aa _),hl]
   rfl
theorem Chn.Ok.ring_iff {j:Nat}(hj:j<n)(sh:C.Shut n j)(p:Nat):p∈C.ring j↔∃x,Grp n (C.mv j) x/\x.getD j 0=p:=by
 refine⟨λh=>⟨_,ok.upG j p hj h,ok.upTo j p hj h⟩,λ⟨x,hx,e⟩=>?_⟩
 obtain⟨q,h,hq,hh,rfl⟩:=ok.parts hj sh hx
 rw[beh_get (hh.isT (ok.mvT _)) hj,ok.genF (fy hj) hh _ (bK _),ok.upTo j q hj hq]at e
 exact e ▸ hq
end
section
variable {n:Nat}{t:List Nat}(hT:IsT n t)
include hT
theorem IsT.pwT_isT (m:Int):IsT n (pwT t m):=by
 refine yn1 (hT.pwT_len m) ?_ λx hx=>?_
 ·refine bj.mpr (List.Pairwise.imp_of_mem (λha hb hne z=>hne ?_) dD)
  rename_i a b
  have ha':a<n:=by rw[←hT.length];exact bg.mp ha
  have hb':b<n:=by rw[←hT.length];exact bg.mp hb
  have z':=congrArg (pw t (-m)) z
  rw[hT.pw_pw _ _ ha',hT.pw_pw _ _ hb',Int.add_right_neg]at z'
  have h0:∀y,y<n->pw t 0 y=y:=λy hy=>by
   unfold pw
   rw[Int.zero_emod]
   rfl
  rw[h0 a ha',h0 b hb']at z'
  exact z'
 ·obtain⟨i,hi,rfl⟩:=au.mp hx
  exact hT.pw_lt m (by rw[←hT.length];exact bg.mp hi)
theorem IsT.pwT_beh (a b:Int):TM.beh (pwT t a) (pwT t b)=pwT t (a+b):=hT.pwT_comp a b
theorem IsT.pwT_bk (m:Int):TM.bk n (pwT t m)=pwT t (-m):=by
 have hA:=hT.pwT_isT m
 have e:=hT.pwT_beh m (-m)
 rw[Int.add_right_neg,←hT.pwT_zero]at e
 have e2:=D6 hA
 exact ye9 hA.bk (hT.pwT_isT _) hA (e2.trans e.symm)
theorem IsT.pw_eq {a b:Int}{x:Nat}(hx:x<n):pw t a x=pw t b x↔a % (per t x:Int)=b % (per t x:Int):=by
 have hp:=hT.per_pos hx
 have na:∀m:Int,0<=m % (per t x:Int)/\m % (per t x:Int)<(per t x:Int):=λm=>⟨cK _ (by lia),dS _ (by lia)⟩
 constructor
 ·intro e
  have ha:=na a
  have hb:=na b
  have:=hT.it_eq_iff hx (i:=(a % (per t x:Int)).toNat) (j:=(b % (per t x:Int)).toNat) (by lia) (by lia) e
  lia
 ·intro e
  unfold pw
  rw[e]
def ord (t:List Nat):Nat:=xq1 ((List.range t.length).map (per t))
end
theorem yg4:∀(l:List Nat) (a:Nat),a ∣ l.foldl Nat.lcm a/\∀x∈l,x ∣ l.foldl Nat.lcm a
 | [],a=>⟨Nat.dvd_refl _,λx hx=>by cases hx⟩
 | y::l,a=>by
  obtain⟨h1,h2⟩:=yg4 l (Nat.lcm a y)
  refine⟨Nat.dvd_trans (Nat.dvd_lcm_left a y) h1,λx hx=>?_⟩
  rcases aw.mp hx with e|e
  ·rw[e];exact Nat.dvd_trans (Nat.dvd_lcm_right a y) h1
  ·exact h2 x e
section
variable {n:Nat}{t:List Nat}(hT:IsT n t)
include hT
theorem IsT.ord_pos:0<ord t:=xc6 λx hx=>by
 obtain⟨y,hy,rfl⟩:=au.mp hx
 exact hT.per_pos (by rw[←hT.length];exact bg.mp hy)
theorem IsT.per_dvd {x:Nat}(hx:x<n):per t x ∣ ord t:=(yg4 _ 1).2 _ (au.mpr ⟨x,by rw[hT.length];exact bg.mpr hx,rfl⟩)
theorem IsT.pwT_mod (m:Int):pwT t (m % (ord t:Int))=pwT t m:=by
 refine hT.eq_pwT (hT.pwT_len _) λx hx=>?_
 rw[hT.pwT_get _ hx]
 congr 1
 rw[hT.pw_eq hx]
 exact Int.emod_emod_of_dvd m (Int.natCast_dvd_natCast.mpr (hT.per_dvd hx))
end
end TM
namespace TM
theorem zq7 {α:Type}[DecidableEq α]:∀{t l:List α},t.Nodup->(∀x∈t,x∈l)->l.length<=t.length->t.Perm l
 | [],l,_,_,h=>by
  have:l=[]:=cM.mp (by simpa using h)
  rw[this]
 | a::t,l,hn,hs,h=>by
  have ha:a∈l:=hs a ax
  have hp:=List.perm_cons_erase ha
  have hn':=aK.mp hn
  have hl:(l.erase a).length<=t.length:=by
   have:=hp.length_eq
   rw[aD]at this h
   lia
  refine List.Perm.trans (List.Perm.cons a (zq7 hn'.2 (λx hx=>?_) hl)) hp.symm
  have hne:x≠a:=λe=>hn'.1 (e ▸ hx)
  exact(cE hne).mpr (hs x (ao _ hx))
theorem grp_closed {n:Nat}{S L:List (List Nat)}(hS:∀s∈S,IsT n s)(hL:L.Nodup)(h1:List.range n∈L)(hG:∀x∈L,Grp n (λz=>z∈S) x)(hc:∀x∈L,∀s∈S,beh x s∈L)(x:List Nat):x∈L↔Grp n (λz=>z∈S) x:=by
 have hT:∀x∈L,IsT n x:=λx hx=>(hG x hx).isT hS
 refine⟨hG x,λh=>?_⟩
 refine Grp.keeps (P:=λx=>x∈L) h1 (λa s ha hs=>hc a ha s hs) (λa s ha hs=>?_) h
 have hn:(L.map λx=>beh x s).Nodup:=bj.mpr (List.Pairwise.imp_of_mem (λha hb hne z=>hne (J0 (hT _ ha) (hT _ hb) (hS s hs) z)) hL)
 have hp:=zq7 hn (l:=L) (λy hy=>by
  obtain⟨b,hb,rfl⟩:=au.mp hy
  exact hc b hb s hs) (by rw[aa];exact ag _)
 obtain⟨b,hb,e⟩:=au.mp (hp.mem_iff.mpr ha)
 rw[←e,xe3 (hT b hb) (hS s hs)]
 exact hb
def Only (n:Nat)(W t:List Nat):Prop:=∀x,x<n->x∉W->t.getD x 0=x
theorem Only.grp {n:Nat}{W:List Nat}{S:List Nat->Prop}(hS:∀s,S s->IsT n s)(hO:∀s,S s->Only n W s){x:List Nat}(h:Grp n S x):Only n W x:=by
 induction h with
 | one=>exact λy hy _=>still_get hy
 | mul hg hs ih=>exact λy hy hw=>by rw[beh_get (hg.isT hS) hy,ih y hy hw,hO _ hs y hy hw]
 | inv hg hs ih =>
  intro y hy hw
  rw[beh_get (hg.isT hS) hy,ih y hy hw]
  have h:=zn7 (hS _ hs) hy
  rwa [hO _ hs y hy hw]at h
theorem Only.stay {n:Nat}{W t:List Nat}(hT:IsT n t)(hW:∀x∈W,x<n)(h:Only n W t){x:Nat}(hx:x∈W):t.getD x 0∈W:=by
 refine Classical.byContradiction λhw=>?_
 have hlt:=hT.step_lt (hW x hx)
 have e:=h _ hlt hw
 have:=hT.step_inj hlt (hW x hx) e
 exact hw (by rw[this];exact hx)
theorem yw9 {l:List Nat}{x y:Nat}(hx:x∈l)(e:l.idxOf x=l.idxOf y):x=y:=by
 have h1:=List.getElem_idxOf (dh hx)
 have hlt:l.idxOf y<l.length:=by rw[←e];exact dh hx
 have h2:=List.getElem_idxOf hlt
 rw[←h1,←h2]
 congr 1
structure Sprd (n:Nat) (W row:List Nat) (k:Nat) (g:List Nat):Prop where
 len:g.length=n
 out:∀x,x<n->x∉W.take k->g[x]?=some x
 at':∀j x,j<k->W[j]?=some x->g[x]?=some (W.getD (row.getD j 0) 0)
theorem Sprd.start {n:Nat}{W row:List Nat}:Sprd n W row 0 (List.range n):=⟨aN,λx hx _=>bh hx,λj x hj=>absurd hj (bX _)⟩
theorem Sprd.step {n k x:Nat}{W row g:List Nat}(hW:W.Nodup)(hlt:∀x∈W,x<n)(h:Sprd n W row k g)(hk:W[k]?=some x):Sprd n W row (k+1) (g.set x (W.getD (row.getD k 0) 0)):=by
 have hx:=hlt x (av hk)
 have hne:∀j y,j<k->W[j]?=some y->y≠x:=λj y hj hy e=>by
  subst e
  have:=(Q8 hW hy).symm.trans (Q8 hW hk)
  lia
 refine⟨by rw[bM];exact h.len,λy hy hn=>?_,λj y hj hy=>?_⟩
 ·rw[bc,hk]at hn
  have h1:y∉W.take k:=λz=>hn (aH _ z)
  have h2:y≠x:=λe=>hn (aJ _ (by rw[e];simp))
  rw[bU (Ne.symm h2)]
  exact h.out y hy h1
 ·by_cases e:j=k
  ·subst e
   obtain rfl:x=y:=Option.some.inj (hk.symm.trans hy)
   rw[cp (by rw[h.len];exact hx)]
  ·rw[bU (Ne.symm (hne j y (by lia) hy))]
   exact h.at' j y (by lia) hy
theorem Sprd.done {n:Nat}{W row g:List Nat}(hW:W.Nodup)(hlt:∀x∈W,x<n)(hr:IsT W.length row)(h:Sprd n W row W.length g):IsT n g/\Only n W g:=by
 have hout:∀x,x<n->x∉W->g[x]?=some x:=λx hx hn=>h.out x hx (by rw[bn];exact hn)
 have wg:∀a,a<W.length->W[a]?=some (W.getD a 0):=λa ha=>by rw[ay,ae ha];rfl
 have wm:∀a,a<W.length->W.getD a 0∈W:=λa ha=>by
  rw[ay,ae ha]
  exact bR ha
 have hin:∀x,x∈W->∃j,j<W.length/\W[j]?=some x/\g[x]?=some (W.getD (row.getD j 0) 0):=λx hx=>by
  obtain⟨j,hj,e⟩:=bv.mp hx
  have e':W[j]?=some x:=by rw[ae hj,e]
  exact⟨j,hj,e',h.at' j x hj e'⟩
 have inj:∀x y v,x<n->y<n->g[x]?=some v->g[y]?=some v->x=y:=λx y v hx hy h1 h2=>by
  by_cases a:x∈W <;> by_cases b:y∈W
  ·obtain⟨i,hi,e1,e2⟩:=hin x a
   obtain⟨j,hj,e3,e4⟩:=hin y b
   rw[h1]at e2
   rw[h2]at e4
   have e:=(Option.some.inj e2).symm.trans (Option.some.inj e4)
   have ri:=hr.step_lt hi
   have rj:=hr.step_lt hj
   have p1:W[row.getD i 0]?=some (W.getD (row.getD i 0) 0):=wg _ ri
   have p2:W[row.getD j 0]?=some (W.getD (row.getD i 0) 0):=by rw[e];exact wg _ rj
   have q:=(Q8 hW p1).symm.trans (Q8 hW p2)
   have ij:=hr.step_inj hi hj q
   rw[ij,e3]at e1
   exact(Option.some.inj e1).symm
  ·obtain⟨i,hi,e1,e2⟩:=hin x a
   rw[hout y hy b]at h2
   rw[h1,←Option.some.inj h2]at e2
   exact absurd (by rw[Option.some.inj e2];exact wm _ (hr.step_lt hi)) b
  ·obtain⟨i,hi,e1,e2⟩:=hin y b
   rw[hout x hx a]at h1
   rw[h2,←Option.some.inj h1]at e2
   exact absurd (by rw[Option.some.inj e2];exact wm _ (hr.step_lt hi)) a
  ·rw[hout x hx a]at h1
   rw[hout y hy b]at h2
   exact(Option.some.inj h1).trans (Option.some.inj h2).symm
 refine⟨yn1 h.len ?_ λv hv=>?_,λx hx hn=>getD_of (hout x hx hn)⟩
 ·refine bN.mpr λi j hi hj hij e=>?_
  have:=inj i j g[i] (by rw[←h.len];exact hi) (by rw[←h.len];exact hj) (ae hi) (by rw[e];exact ae hj)
  lia
 ·obtain⟨x,hx,e⟩:=bv.mp hv
  have hxn:x<n:=by rw[←h.len];exact hx
  have e':g[x]?=some v:=by rw[ae hx,e]
  by_cases a:x∈W
  ·obtain⟨i,hi,e1,e2⟩:=hin x a
   rw[e']at e2
   rw[Option.some.inj e2]
   exact hlt _ (wm _ (hr.step_lt hi))
  ·rw[hout x hxn a]at e'
   rw[←Option.some.inj e']
   exact hxn
end TM
namespace TM
def Chn.Cos (n:Nat)(C:Chn)(j:Nat)(h x:List Nat):Prop:=∃g,Grp n (C.mv j) g/\x=beh g h
theorem xj1 {n:Nat}{h:List Nat}(hT:IsT n h){p:Nat}(hp:p<n):h.idxOf (h.getD p 0)=p:=Q8 hT.nodup (hT.get_step hp)
section
variable {n:Nat}{C:Chn}(ok:C.Ok n)
include ok
theorem Chn.Ok.cos {j:Nat}(hj:j<n)(sh:C.Shut n j){h x:List Nat}(hT:IsT n h)(c:C.Cos n j h x):∃p,p∈C.ring j/\p<n/\x.getD j 0=h.getD p 0/\h.idxOf (x.getD j 0)=p/\IsT n (beh (C.up j p) h)/\C.Cos n (j+1) (beh (C.up j p) h) x:=by
 obtain⟨g,hg,rfl⟩:=c
 obtain⟨p,k,hp,hk,rfl⟩:=ok.parts hj sh hg
 have hkT:=hk.isT (ok.mvT _)
 have hu:=ok.upT hj hp
 have hpn:=ok.lt j p hj hp
 have e:(beh (beh k (C.up j p)) h).getD j 0=h.getD p 0:=by
  rw[beh_get (hkT.beh hu) hj,beh_get hkT hj,ok.genF (fy hj) hk _ (bK _),ok.upTo j p hj hp]
 refine⟨p,hp,hpn,e,?_,hu.beh hT,k,hk,r6 hkT hu hT⟩
 rw[e,xj1 hT hpn]
omit ok in
theorem Chn.Cos.isT {j:Nat}{h x:List Nat}(hS:∀s,C.mv j s->IsT n s)(hT:IsT n h)(c:C.Cos n j h x):IsT n x:=by
 obtain⟨g,hg,rfl⟩:=c
 exact(hg.isT hS).beh hT
theorem Chn.Ok.cos_up {j p:Nat}(hj:j<n)(hp:p∈C.ring j){h x:List Nat}(hT:IsT n h)(c:C.Cos n (j+1) (beh (C.up j p) h) x):C.Cos n j h x:=by
 obtain⟨g,hg,rfl⟩:=c
 have hgT:=hg.isT (ok.mvT _)
 refine⟨beh g (C.up j p),Grp.beh (ok.mvT j) (Grp.mono (ok.mvT j) (ok.down j) hg) (ok.upG j p hj hp),(r6 hgT (ok.upT hj hp) hT).symm⟩
theorem Chn.Ok.cos_ahead {j:Nat}(hj:j<=n){h x:List Nat}(hT:IsT n h)(c:C.Cos n j h x){i:Nat}(hi:i<j):x.getD i 0=h.getD i 0:=by
 obtain⟨g,hg,rfl⟩:=c
 rw[beh_get (hg.isT (ok.mvT _)) (by lia),ok.genF hj hg _ hi]
omit ok in
theorem yp8 {a b u v m:Nat}(hu:u<m)(hv:v<m):(a*m+u=b*m+v->a=b/\u=v)/\(a*m+u<b*m+v->a<b∨(a=b/\u<v)):=by
 have key:∀a b u v:Nat,u<m->v<m->a<b->a*m+u<b*m+v:=λa b u v hu hv h=>by
  have:(a+1)*m<=b*m:=de m h
  rw[eA,dO]at this
  lia
 refine⟨λe=>?_,λe=>?_⟩
 ·rcases dX a b with c|c|c
  ·have:=key a b u v hu hv c;lia
  ·subst c;exact⟨rfl,by lia⟩
  ·have:=key b a v u hv hu c;lia
 ·rcases dX a b with c|c|c
  ·exact .inl c
  ·subst c;exact .inr ⟨rfl,by lia⟩
  ·have:=key b a v u hv hu c;lia
end
end TM
namespace TM
def Chn.LeastL (C:Chn):List Nat->List Nat->List Nat->Prop
 | [],h,u=>u=h
 | j::js,h,u=>∃p,p∈C.ring j/\(∀q,q∈C.ring j->h.getD p 0<=h.getD q 0)/\Chn.LeastL C js (beh (C.up j p) h) u
def Lx (n:Nat)(x y:List Nat):Prop:=∃i,i<n/\(∀q,q<i->x.getD q 0=y.getD q 0)/\x.getD i 0<y.getD i 0
theorem Lx.no {n:Nat}{x y:List Nat}(h:Lx n x y)(h':Lx n y x):False:=by
 obtain⟨i,_,h1,h2⟩:=h
 obtain⟨j,_,k1,k2⟩:=h'
 rcases dX i j with c|c|c
 ·have:=k1 i c
  lia
 ·subst c
  lia
 ·have:=h1 j c
  lia
section
variable {n:Nat}{C:Chn}(ok:C.Ok n)
include ok
theorem Chn.Ok.least:∀(d j:Nat) (h u:List Nat),j+d=n->(∀i,j<=i->i<n->C.Shut n i)->IsT n h->C.LeastL (List.range' j d) h u->C.Cos n j h u/\∀x,C.Cos n j h x->x=u∨Lx n u x
 | 0,j,h,u,e,sh,hT,hu=>by
  have e:j=n:=by lia
  subst e
  have hu:u=h:=hu
  subst hu
  refine⟨⟨List.range j,.one,(still_beh hT).symm⟩,λx hx=>.inl ?_⟩
  have xT:=hx.isT (ok.mvT j) hT
  exact P8 xT hT λi hi=>ok.cos_ahead (ag _) hT hx hi
 | d+1,j,h,u,e,sh,hT,hu=>by
  have hj:j<n:=by lia
  rw[dC]at hu
  obtain⟨p,hp,hmin,hu⟩:=hu
  have hpn:=ok.lt j p hj hp
  have hup:=ok.upT hj hp
  have hT':=hup.beh hT
  obtain⟨c1,c2⟩:=Chn.Ok.least d (j+1) (beh (C.up j p) h) u (by lia) (λi h1 h2=>sh i (by lia) h2) hT' hu
  have cu:=ok.cos_up hj hp hT c1
  have uj:u.getD j 0=h.getD p 0:=by
   rw[ok.cos_ahead (by lia) hT' c1 (bK j),beh_get hup hj,ok.upTo j p hj hp]
  refine⟨cu,λx hx=>?_⟩
  obtain⟨p',hp',hpn',xj,_,_,cx⟩:=ok.cos hj (sh j (ag _) hj) hT hx
  by_cases ep:p'=p
  ·subst ep
   exact c2 x cx
  ·refine .inr ⟨j,hj,λq hq=>?_,?_⟩
   ·rw[ok.cos_ahead (bH hj) hT cu hq,ok.cos_ahead (bH hj) hT hx hq]
   ·rw[uj,xj]
    refine Nat.lt_of_le_of_ne (hmin p' hp') λc=>ep ?_
    exact(hT.step_inj hpn hpn' c).symm
end
def Side (n:Nat)(S:List Nat->Prop)(t u:List Nat):Prop:=∃g,Grp n S g/\u=beh g t
def LeastOf (n:Nat)(S:List Nat->Prop)(t u:List Nat):Prop:=Side n S t u/\∀x,Side n S t x->x=u∨Lx n u x
section
variable {n:Nat}{S:List Nat->Prop}(hS:∀s,S s->IsT n s)
include hS
theorem Side.isT {t u:List Nat}(tT:IsT n t)(h:Side n S t u):IsT n u:=by
 obtain⟨g,hg,rfl⟩:=h
 exact(hg.isT hS).beh tT
omit hS in
theorem Side.own {t:List Nat}(tT:IsT n t):Side n S t t:=⟨List.range n,.one,(still_beh tT).symm⟩
theorem Side.trans {t u v:List Nat}(tT:IsT n t)(h1:Side n S t u)(h2:Side n S u v):Side n S t v:=by
 obtain⟨g,hg,rfl⟩:=h1
 obtain⟨k,hk,rfl⟩:=h2
 exact⟨beh k g,hk.beh hS hg,(r6 (hk.isT hS) (hg.isT hS) tT).symm⟩
theorem Side.symm {t u:List Nat}(tT:IsT n t)(h:Side n S t u):Side n S u t:=by
 obtain⟨g,hg,rfl⟩:=h
 have gT:=hg.isT hS
 refine⟨bk n g,hg.bk hS,?_⟩
 rw[←r6 gT.bk gT tT,zn6 gT,still_beh tT]
theorem LeastOf.uniq {t t' u u':List Nat}(tT:IsT n t)(tT':IsT n t')(s:Side n S t t')(h:LeastOf n S t u)(h':LeastOf n S t' u'):u=u':=by
 have a:Side n S t u':=s.trans hS tT h'.1
 have b:Side n S t' u:=Side.trans hS tT' (s.symm hS tT) h.1
 rcases h.2 _ a with c|c
 ·exact c.symm
 ·rcases h'.2 _ b with c'|c'
  ·exact c'
  ·exact(c.no c').elim
end
end TM
namespace TM
open Classical
section
variable (n:Nat)(G:List Nat->Prop)
noncomputable def gRing (j:Nat):List Nat:=(List.range n).filter λp=>decide (∃x,G x/\Fix j x/\x.getD j 0=p)
noncomputable def gMany:Nat->Nat
 | 0=>1
 | d+1=>(gRing n G (n-(d+1))).length*gMany d
end
section
variable {n:Nat}{C:Chn}{G:List Nat->Prop}(ok:C.Ok n)(sh:∀i,i<n->C.Shut n i)(hG:∀x,Grp n (C.mv 0) x↔G x)
include ok sh hG
theorem Chn.Ok.lev:∀(j:Nat),j<=n->∀x,Grp n (C.mv j) x↔G x/\Fix j x
 | 0,_,x=>⟨λh=>⟨(hG x).mp h,Fix.zero x⟩,λh=>(hG x).mpr h.1⟩
 | j+1,hj,x=>by
  have ih:=Chn.Ok.lev j (by lia) x
  constructor
  ·intro h
   have h1:Grp n (C.mv j) x:=Grp.mono (ok.mvT j) (ok.down j) h
   exact⟨(ih.mp h1).1,ok.genF hj h⟩
  ·rintro⟨h1,h2⟩
   have hx:=ih.mpr ⟨h1,λy hy=>h2 y (by lia)⟩
   obtain⟨p,k,hp,hk,rfl⟩:=ok.parts (by lia) (sh j (by lia)) hx
   have kT:=hk.isT (ok.mvT _)
   have e:=h2 j (bK j)
   rw[beh_get kT (by lia),ok.genF (by lia) hk _ (bK _),ok.upTo j p (by lia) hp]at e
   subst e
   rw[ok.upOwn p (by lia),beh_still kT]
   exact hk
theorem Chn.Ok.ring_g {j:Nat}(hj:j<n):(gRing n G j).Perm (C.ring j):=by
 refine(dr (List.Nodup.sublist fk dD) (ok.nd j hj)).mpr λp=>?_
 rw[dF,bg]
 constructor
 ·rintro⟨_,h⟩
  obtain⟨x,hx,hf,e⟩:=of_decide_eq_true h
  exact(ok.ring_iff hj (sh j hj) p).mpr ⟨x,(ok.lev sh hG j (by lia) x).mpr ⟨hx,hf⟩,e⟩
 ·intro h
  obtain⟨x,hx,e⟩:=(ok.ring_iff hj (sh j hj) p).mp h
  obtain⟨h1,h2⟩:=(ok.lev sh hG j (by lia) x).mp hx
  exact⟨ok.lt j p hj h,decide_eq_true ⟨x,h1,h2,e⟩⟩
theorem Chn.Ok.ring_len {j:Nat}(hj:j<n):(gRing n G j).length=(C.ring j).length:=(ok.ring_g sh hG hj).length_eq
theorem Chn.Ok.many_g:∀d,d<=n->C.many n d=gMany n G d
 | 0,_=>rfl
 | d+1,hd=>by
  rw[Chn.many,gMany,ok.ring_len sh hG (by lia),Chn.Ok.many_g d (by lia)]
end
theorem xc9 {l m:List (List Nat)}(h1:l.Nodup)(h2:∀y∈l,y∈m):l.length<=m.length:=by
 induction l generalizing m with
 | nil=>exact aP _
 | cons a l ih =>
  obtain⟨h3,h4⟩:=aK.mp h1
  have:=ih (m:=m.erase a) h4 λy hy=>(cE (λ(e:y=a)=>h3 (by rw[←e];exact hy))).mpr (h2 y (ao _ hy))
  have ha:=h2 a ax
  rw[bZ ha]at this
  have:=bL ha
  rw[aD]
  lia
end TM
namespace TM
open Classical
structure xw3 (n a b:Nat) (t:List Nat):Prop where
 isT:IsT n t
 to:t.getD a 0=b
 fro:t.getD b 0=a
 out:∀x,x<n->x≠a->x≠b->t.getD x 0=x
def xs7 (n:Nat)(W:List Nat)(S:List Nat->Prop):Prop:=∀a,a∈W->∀b,b∈W->a≠b->∃t,xw3 n a b t/\Grp n S t
section
variable {n:Nat}{W:List Nat}{S:List Nat->Prop}(hS:∀s,S s->IsT n s)(hW:W.Nodup)(hlt:∀x∈W,x<n)
include hS hW hlt
end
def fac:Nat->Nat
 | 0=>1
 | k+1=>(k+1)*fac k
end TM
namespace TM
def cj (n:Nat)(b t:List Nat):List Nat:=beh (beh (bk n b) t) b
def sp (n:Nat)(W row:List Nat):List Nat:=(List.range n).map λx=>if x∈W then W.getD (row.getD (W.idxOf x) 0) 0 else x
section
variable {n:Nat}{W:List Nat}(hW:W.Nodup)(hlt:∀x∈W,x<n)
include hW hlt
end
end TM
namespace TM
end TM
namespace TM
theorem fresh {n:Nat}(l:List Nat)(h:l.length<n):∃z,z<n/\z∉l:=by
 refine Classical.byContradiction λhno=>?_
 have hs:∀x,x∈List.range n->x∈l:=λx hx=>Classical.byContradiction λhx'=>hno ⟨x,bg.mp hx,hx'⟩
 have:=xj5 dD hs
 rw[aN]at this
 lia
def e7:List Nat:=[1,0,2,3,4,5,6]
end TM
namespace TM
structure Nrm (n:Nat) (N:List Nat->Prop):Prop where
 isT:∀x,N x->IsT n x
 two:∀x y,N x->N y->N (beh x y)
 back:∀x,N x->N (bk n x)
 one:N (List.range n)
 turn:∀g x,IsT n g->N x->N (cj n g x)
section
variable {n:Nat}{N:List Nat->Prop}(hN:Nrm n N)
include hN
end
end TM
namespace TM
open Classical
section
variable {n:Nat}{us ts:List (List Nat)}(hU:∀u∈us,IsT n u)(hT:∀t∈ts,IsT n t)
include hU hT
end
section
variable {n:Nat}{us ms ts:List (List Nat)}(hU:∀u∈us,IsT n u)(hT:∀t∈ts,IsT n t)(hM:∀m∈ms,IsT n m)(hMU:∀x,Grp n (λz=>z∈ms) x↔Grp n (λz=>z∈us) x)
include hU hT
include hM hMU
end
theorem indep_log {n k:Nat}{f us LU:List (List Nat)}(hf:∀t∈f,IsT n t)(hi:Indep n f)(hU:∀u∈us,IsT n u)(hin:∀t∈f,Grp n (λz=>z∈us) t)(mU:∀x,x∈LU↔Grp n (λz=>z∈us) x)(hl:LU.length<2 ^ k):f.length<k:=by
 obtain⟨L,hL,hLG,e⟩:=zb2 f.length f rfl hf hi
 have:L.length<=LU.length:=xc9 hL λy hy=>(mU y).mpr (Grp.mono hU hin (hLG y hy))
 rw[e]at this
 refine Nat.lt_of_not_le λh=>?_
 have:=dN (show 0<2 by decide) h
 lia
end TM
namespace TM
open Classical
section
variable {n:Nat}{a b c:List Nat}
end
end TM
namespace TM
open Classical
def Few (n:Nat)(S:List (List Nat))(N:Nat):Prop:=∀L:List (List Nat),L.Nodup->(∀x∈L,Grp n (λz=>z∈S) x)->L.length<=N
section
variable {s:Nat}(hs:0<s)
include hs
end
end TM
namespace TM
end TM
namespace TM
end TM
namespace TM
def yf2:List Nat->List Nat->Nat
 | _,[]=>0
 | W,x::l=>W.idxOf x*fac l.length+yf2 (W.erase x) l
theorem zl7:∀{l W:List Nat},l.Nodup->(∀x∈l,x∈W)->W.Nodup->W.length=l.length->yf2 W l<fac l.length
 | [],_,_,_,_,_=>Nat.zero_lt_one
 | x::l,W,hl,hs,hW,e=>by
  obtain⟨h1,h2⟩:=aK.mp hl
  have hx:=hs x ax
  have ih:=zl7 (W:=W.erase x) h2 (λy hy=>(cE (a:=y) (b:=x) λz=>h1 (z ▸ hy)).mpr (hs y (ao _ hy))) (hW.erase x) (by rw[bZ hx,e];rfl)
  have hi:W.idxOf x<l.length+1:=by rw[←aD,←e];exact dh hx
  have hm:=de (fac l.length) (dY hi)
  show W.idxOf x*fac l.length+yf2 (W.erase x) l<(l.length+1)*fac l.length
  rw[eA,dO]
  lia
theorem yf3:∀{l l' W:List Nat},l.Nodup->l'.Nodup->(∀x∈l,x∈W)->(∀x∈l',x∈W)->W.Nodup->W.length=l.length->l.length=l'.length->yf2 W l=yf2 W l'->l=l'
 | [],[],_,_,_,_,_,_,_,_,_=>rfl
 | x::l,y::l',W,hl,hl',hs,hs',hW,e,e',h=>by
  obtain⟨h1,h2⟩:=aK.mp hl
  obtain⟨h1',h2'⟩:=aK.mp hl'
  have hx:=hs x ax
  have hy:=hs' y ax
  have len:l.length=l'.length:=Nat.succ.inj e'
  have sub:∀z∈l,z∈W.erase x:=λz hz=>(cE (a:=z) (b:=x) λq=>h1 (q ▸ hz)).mpr (hs z (ao _ hz))
  have sub':∀z∈l',z∈W.erase y:=λz hz=>(cE (a:=z) (b:=y) λq=>h1' (q ▸ hz)).mpr (hs' z (ao _ hz))
  have le:(W.erase x).length=l.length:=by rw[bZ hx,e];rfl
  have le':(W.erase y).length=l'.length:=by rw[bZ hy,e,←len];rfl
  have h:W.idxOf x*fac l.length+yf2 (W.erase x) l=W.idxOf y*fac l'.length+yf2 (W.erase y) l':=h
  rw[←len]at h
  obtain⟨i1,i2⟩:=(yp8 (zl7 h2 sub (hW.erase x) le) (by rw[len];exact zl7 h2' sub' (hW.erase y) le')).1 h
  obtain rfl:=yw9 hx i1
  rw[yf3 h2 h2' sub sub' (hW.erase x) le len i2]
theorem few_sym {n:Nat}{W:List Nat}{S:List (List Nat)}(hS:∀s∈S,IsT n s)(hO:∀s∈S,Only n W s)(hW:W.Nodup)(hlt:∀x∈W,x<n):Few n S (fac W.length):=λL hL hG=>by
 have hT:∀t∈L,IsT n t:=λt ht=>(hG t ht).isT hS
 have hO:∀t∈L,Only n W t:=λt ht=>Only.grp hS hO (hG t ht)
 have nd:∀t∈L,(W.map λx=>t.getD x 0).Nodup:=λt ht=>bj.mpr (List.Pairwise.imp_of_mem (λ{a b} ha hb hab e=>hab ((hT t ht).inj ((hT t ht).get_step (hlt a ha)) (e ▸ (hT t ht).get_step (hlt b hb)))) hW)
 have sub:∀t∈L,∀y∈W.map (λx=>t.getD x 0),y∈W:=λt ht y hy=>by
  obtain⟨x,hx,rfl⟩:=au.mp hy
  exact(hO t ht).stay (hT t ht) hlt hx
 have h1:(L.map λt=>yf2 W (W.map λx=>t.getD x 0)).Nodup:=bj.mpr (List.Pairwise.imp_of_mem (λ{t u} ht hu hne z=>hne (by
  have e:=yf3 (nd t ht) (nd u hu) (sub t ht) (sub u hu) hW (by rw[aa]) (by rw[aa,aa]) z
  refine P8 (hT t ht) (hT u hu) λx hx=>?_
  by_cases hw:x∈W
  ·exact List.map_inj_left.mp e x hw
  ·rw[hO t ht x hx hw,hO u hu x hx hw])) hL)
 have h2:=nodup_below (M:=fac W.length) h1 λx hx=>by
  obtain⟨t,ht,rfl⟩:=au.mp hx
  have:=zl7 (nd t ht) (sub t ht) hW (by rw[aa])
  rwa [aa]at this
 rwa [aa]at h2
end TM
namespace TM
inductive Ways (n:Nat) (ts:List (List Nat)) (mv:List Nat->List Nat->List Nat) (o:List Nat):List Nat->List Nat->List Nat->Prop
 | own:Ways n ts mv o o [] (List.range n)
 | step {k w b t:List Nat} {i:Nat}:Ways n ts mv o k w b->ts[i]?=some t->Ways n ts mv o (mv k t) (w++[i]) (beh b t)
def Rch (n:Nat)(ts:List (List Nat))(mv:List Nat->List Nat->List Nat)(o k:List Nat):Prop:=∃w b,Ways n ts mv o k w b
variable {n:Nat}{ts:List (List Nat)}{mv:List Nat->List Nat->List Nat}{o:List Nat}
theorem Rch.own:Rch n ts mv o o:=⟨_,_,.own⟩
theorem Rch.step {k t:List Nat}(h:Rch n ts mv o k)(ht:t∈ts):Rch n ts mv o (mv k t):=by
 obtain⟨w,b,h⟩:=h
 obtain⟨i,hi⟩:=bJ ht
 exact⟨_,_,.step h hi⟩
theorem Rch.in {P:List Nat->Prop}(ho:P o)(hc:∀k t,P k->t∈ts->P (mv k t)){k:List Nat}(h:Rch n ts mv o k):P k:=by
 obtain⟨w,b,h⟩:=h
 induction h with
 | own=>exact ho
 | step _ hi ih=>exact hc _ _ ih (av hi)
theorem Ways.isT (hT:∀t∈ts,IsT n t){k w b:List Nat}(h:Ways n ts mv o k w b):IsT n b:=by
 induction h with
 | own=>exact IsT.range n
 | step _ hi ih=>exact ih.beh (hT _ (av hi))
end TM
namespace TM
def nxC:List (List Nat)->Nat->Nat
 | [],x=>x
 | l::r,x=>if x∈l then(l[(l.idxOf x+1) % l.length]?).getD x else nxC r x
def xx7 (n:Nat)(ls:List (List Nat)):List Nat:=(List.range n).map (nxC ls)
section
variable {n:Nat}{cs ts:List (List Nat)}{o:List Nat}(hn:cs.flatten.Nodup)(hlt:∀x∈cs.flatten,x<n)(h1:∀c∈cs,xx7 n [c]∈ts)
include hn hlt h1
end
end TM
namespace TM
section
variable {n:Nat}{ts:List (List Nat)}{o:List Nat}(hT:∀t∈ts,IsT n t)
include hT
end
section
variable {n:Nat}{ts:List (List Nat)}{o W:List Nat}(hT:∀t∈ts,IsT n t)(hlt:∀x∈W,x<n)(hE:xs7 n W (λz=>z∈ts))
include hT hlt hE
end
end TM
namespace TM
theorem zp4 {n:Nat}{P:List Nat->Prop}(h0:∃x,P x):∀m,m<=n->∃x,P x/\∀y,P y->(∀q,q<m->x.getD q 0=y.getD q 0)∨Lx n x y
 | 0,_=>h0.elim λx hx=>⟨x,hx,λy _=>.inl λq hq=>absurd hq (bX q)⟩
 | m+1,hm=>by
  obtain⟨x,hx,hl⟩:=zp4 h0 m (Nat.le_of_succ_le hm)
  classical
  have low:∀k,(∃y,P y/\(∀q,q<m->x.getD q 0=y.getD q 0)/\y.getD m 0<=k)->∃z,P z/\(∀q,q<m->x.getD q 0=z.getD q 0)/\∀y,P y->(∀q,q<m->x.getD q 0=y.getD q 0)->z.getD m 0<=y.getD m 0:=by
   intro k
   induction k with
   | zero =>
    rintro⟨z,hz,ez,e⟩
    exact⟨z,hz,ez,λy _ _=>by lia⟩
   | succ k ih =>
    rintro⟨z,hz,ez,e⟩
    by_cases c:∃y,P y/\(∀q,q<m->x.getD q 0=y.getD q 0)/\y.getD m 0<=k
    ·exact ih c
    ·refine⟨z,hz,ez,λy hy ey=>?_⟩
     refine cI λlt=>c ⟨y,hy,ey,?_⟩
     lia
  obtain⟨z,hz,ez,lz⟩:=low (x.getD m 0) ⟨x,hx,λ_ _=>rfl,ag _⟩
  refine⟨z,hz,λy hy=>?_⟩
  rcases hl y hy with a|a
  ·rcases cv (lz y hy a) with c|c
   ·refine .inr ⟨m,hm,λq hq=>?_,c⟩
    rw[←ez q hq,a q hq]
   ·refine .inl λq hq=>?_
    rcases cv (dY hq) with d|d
    ·rw[←ez q d,a q d]
    ·rw[d];exact c
  ·obtain⟨i,hi,e,lt⟩:=a
   by_cases c:i<m
   ·refine .inr ⟨i,hi,λq hq=>?_,?_⟩
    ·rw[←ez q (by lia),e q hq]
    ·rw[←ez i c];exact lt
   ·have ey:∀q,q<m->x.getD q 0=y.getD q 0:=λq hq=>e q (by lia)
    rcases cv (lz y hy ey) with d|d
    ·refine .inr ⟨m,hm,λq hq=>?_,d⟩
     rw[←ez q hq,ey q hq]
    ·refine .inl λq hq=>?_
     rcases cv (dY hq) with f|f
     ·rw[←ez q f,ey q f]
     ·rw[f];exact d
section
variable {n:Nat}{S:List Nat->Prop}(hS:∀s,S s->IsT n s)
include hS
theorem LeastOf.ex {t:List Nat}(tT:IsT n t):∃u,LeastOf n S t u:=by
 obtain⟨u,hu,l⟩:=zp4 (n:=n) (P:=Side n S t) ⟨t,Side.own tT⟩ n (ag n)
 refine⟨u,hu,λx hx=>?_⟩
 rcases l x hx with e|e
 ·exact .inl (P8 (hx.isT hS tT) (hu.isT hS tT) λi hi=>(e i hi).symm)
 ·exact .inr e
end
noncomputable def lsd (n:Nat) (S:List Nat->Prop) (t:List Nat):List Nat :=
 open Classical in if h:∃u,LeastOf n S t u then Classical.choose h else t
section
variable {n:Nat}{S:List Nat->Prop}(hS:∀s,S s->IsT n s)
include hS
theorem lsd_of {t:List Nat}(tT:IsT n t):LeastOf n S t (lsd n S t):=by
 have h:=LeastOf.ex hS tT
 unfold lsd
 rw[dif_pos h]
 exact Classical.choose_spec h
theorem lsd_eq {t u:List Nat}(tT:IsT n t)(h:LeastOf n S t u):lsd n S t=u :=
 LeastOf.uniq hS tT tT (Side.own tT) (lsd_of hS tT) h
theorem lsd_isT {t:List Nat}(tT:IsT n t):IsT n (lsd n S t):=(lsd_of hS tT).1.isT hS tT
theorem zd8 {t:List Nat}(tT:IsT n t):Side n S t (lsd n S t):=(lsd_of hS tT).1
theorem lsd_iff {t t':List Nat}(tT:IsT n t)(tT':IsT n t'):lsd n S t=lsd n S t'↔Side n S t t':=by
 constructor
 ·intro e
  have a:=zd8 hS tT
  rw[e]at a
  exact a.trans hS tT ((zd8 hS tT').symm hS tT')
 ·intro s
  exact LeastOf.uniq hS tT tT' s (lsd_of hS tT) (lsd_of hS tT')
theorem Side.beh {t u m:List Nat}(tT:IsT n t)(mT:IsT n m)(h:Side n S t u):Side n S (TM.beh t m) (TM.beh u m):=by
 obtain⟨g,hg,rfl⟩:=h
 exact⟨g,hg,r6 (hg.isT hS) tT mT⟩
theorem lsd_beh {t m:List Nat}(tT:IsT n t)(mT:IsT n m):lsd n S (TM.beh (lsd n S t) m)=lsd n S (TM.beh t m) :=
 (lsd_iff hS ((lsd_isT hS tT).beh mT) (tT.beh mT)).2 (Side.symm hS (tT.beh mT) (Side.beh hS tT mT (zd8 hS tT)))
theorem lsd_lsd {t:List Nat}(tT:IsT n t):lsd n S (lsd n S t)=lsd n S t :=
 (lsd_iff hS (lsd_isT hS tT) tT).2 ((zd8 hS tT).symm hS tT)
end
end TM
namespace TM
theorem Grp.ahead {n:Nat}{S P:List Nat->Prop}(hS:∀s,S s->IsT n s)(h1:P (List.range n))(hm:∀a s,IsT n a->P a->S s->P (TM.beh a s)){a:List Nat}(ha:Grp n S a):P a:=by
 have key:∀{a},Grp n S a->IsT n a/\P a:=λ{a} ha=>by
  induction ha with
  | one=>exact⟨IsT.range n,h1⟩
  | mul hg hs ih=>exact⟨ih.1.beh (hS _ hs),hm _ _ ih.1 ih.2 hs⟩
  | @inv a s hg hs ih =>
   have sT:=hS s hs
   refine⟨ih.1.beh sT.bk,?_⟩
   have all:∀m:Nat,P (TM.beh a (pwT s (m:Int))):=λm=>by
    induction m with
    | zero =>
     rw[show((0:Nat):Int)=0 from rfl,←sT.pwT_zero,beh_still ih.1]
     exact ih.2
    | succ m im =>
     have e:pwT s ((m+1:Nat):Int)=TM.beh (pwT s (m:Int)) s:=by
      conv=>rhs;rhs;rw[sT.pwT_one]
      rw[sT.pwT_beh]
      rfl
     rw[e,←r6 ih.1 (sT.pwT_isT _) sT]
     exact hm _ _ (ih.1.beh (sT.pwT_isT _)) im hs
   have pos:=sT.ord_pos
   have e:TM.bk n s=pwT s ((ord s-1:Nat):Int):=by
    conv=>lhs;rw[sT.pwT_one]
    rw[sT.pwT_bk,←sT.pwT_mod]
    congr 1
    rw[show(-1:Int)=((ord s-1:Nat):Int)+(ord s:Int)*(-1) by lia,Int.add_mul_emod_self_left]
    exact Int.emod_eq_of_lt (by lia) (by lia)
   rw[e]
   exact all _
 exact(key ha).2
def Sd (n:Nat)(ts ps:List (List Nat))(k:List Nat):Prop:=∃g,Grp n (λz=>z∈ts) g/\k=lsd n (λz=>z∈ps) g
section
variable {n:Nat}{us ts ps:List (List Nat)}
end
end TM
namespace TM
theorem zw9 {α β:Type}(f:α->List β)(m:Nat):∀(l:List α),(∀p∈l,(f p).length=m)->(l.flatMap f).length=l.length*m
 | [],_=>by simp
 | p::l,h=>by
  rw[cP,aq,h p ax,zw9 f m l λq hq=>h q (ao _ hq),aD,fF,eY]
theorem zi7 {α β:Type}(f:α->List β):∀(l:List α),l.Nodup->(∀p∈l,(f p).Nodup)->(∀p∈l,∀q∈l,∀x,x∈f p->x∈f q->p=q)->(l.flatMap f).Nodup
 | [],_,_,_=>by simp
 | p::l,h,h1,h2=>by
  obtain⟨hp,hl⟩:=aK.mp h
  rw[cP]
  refine bu.mpr ⟨h1 p ax,zi7 f l hl (λq hq=>h1 q (ao _ hq)) λa ha b hb=>h2 a (ao _ ha) b (ao _ hb),λx hx y hy e=>?_⟩
  obtain⟨q,hq,hy⟩:=cH.mp hy
  subst e
  have:=h2 p ax q (ao _ hq) x hx hy
  exact hp (this ▸ hq)
end TM
namespace TM
section
variable {n:Nat}{ts ps L:List (List Nat)}(ht:∀t∈ts,IsT n t)(hp:∀p∈ps,IsT n p)(hL:∀k,k∈L↔Sd n ts ps k)
include ht hp
include hL
end
end TM
namespace TM
structure Acts (n:Nat) (ok:List Nat->Prop) (mv:List Nat->List Nat->List Nat):Prop where
 okm:∀{l t},ok l->IsT n t->ok (mv l t)
 one:∀{l},ok l->mv l (List.range n)=l
 two:∀{l t u},ok l->IsT n t->IsT n u->mv (mv l t) u=mv l (beh t u)
structure Rng (n:Nat) (us:List (List Nat)) (mv:List Nat->List Nat->List Nat) (o:List Nat) (Ks:List (List Nat)) (br:List Nat->List Nat):Prop where
 nd:Ks.Nodup
 own:o∈Ks
 bo:br o=List.range n
 brG:∀k∈Ks,Grp n (λz=>z∈us) (br k)
 brK:∀k∈Ks,mv o (br k)=k
 cl:∀k∈Ks,∀t∈us,mv k t∈Ks
def Keeps (n:Nat)(us:List (List Nat))(mv:List Nat->List Nat->List Nat)(o g:List Nat):Prop:=Grp n (λz=>z∈us) g/\mv o g=o
def sgen (n:Nat)(mv:List Nat->List Nat->List Nat)(br:List Nat->List Nat)(k t:List Nat):List Nat:=beh (beh (br k) t) (bk n (br (mv k t)))
section
variable {n:Nat}{us:List (List Nat)}{ok:List Nat->Prop}{mv:List Nat->List Nat->List Nat}{o:List Nat}{Ks:List (List Nat)}{br:List Nat->List Nat}(A:Acts n ok mv)(ho:ok o)(hu:∀u∈us,IsT n u)
include A ho
theorem Acts.back {t:List Nat}(tT:IsT n t)(h:mv o t=o):mv o (bk n t)=o:=by
 have:=A.two ho tT tT.bk
 rw[h,D6 tT,A.one ho]at this
 exact this
include hu
theorem keeps_grp {S:List Nat->Prop}(hS:∀s,S s->Keeps n us mv o s){g:List Nat}(h:Grp n S g):Keeps n us mv o g:=by
 have hT:∀s,S s->IsT n s:=λs hs=>(hS s hs).1.isT hu
 refine Grp.keeps (P:=λg=>Keeps n us mv o g) (n:=n) (S:=S) ⟨.one,A.one ho⟩ (λa s ha hs=>?_) (λa s ha hs=>?_) h
 ·exact⟨Grp.beh hu ha.1 (hS s hs).1,by rw[←A.two ho (ha.1.isT hu) (hT s hs),ha.2,(hS s hs).2]⟩
 ·exact⟨Grp.beh hu ha.1 (Grp.bk hu (hS s hs).1),by rw[←A.two ho (ha.1.isT hu) (hT s hs).bk,ha.2,A.back ho (hT s hs) (hS s hs).2]⟩
variable (R:Rng n us mv o Ks br)
include R
theorem Rng.mem {g:List Nat}(hg:Grp n (λz=>z∈us) g):mv o g∈Ks:=by
 refine Grp.ahead (P:=λg=>mv o g∈Ks) hu (by rw[A.one ho];exact R.own) (λa s aT ha hs=>?_) hg
 rw[←A.two ho aT (hu s hs)]
 exact R.cl _ ha s hs
theorem Rng.brT {k:List Nat}(hk:k∈Ks):IsT n (br k):=(R.brG k hk).isT hu
theorem Rng.to {k g:List Nat}(hk:k∈Ks)(gT:IsT n g):mv o (beh (br k) g)=mv k g:=by rw[←A.two ho (R.brT A ho hu hk) gT,R.brK k hk]
theorem Rng.off {k g:List Nat}(hk:k∈Ks)(gT:IsT n g)(h:mv o g=k):mv o (beh g (bk n (br k)))=o:=by
 have bT:=R.brT A ho hu hk
 have:=A.two ho bT bT.bk
 rw[R.brK k hk,D6 bT,A.one ho]at this
 rw[←A.two ho gT bT.bk,h,this]
theorem sgen_keeps {k t:List Nat}(hk:k∈Ks)(ht:t∈us):Keeps n us mv o (sgen n mv br k t):=by
 have hk':=R.cl k hk t ht
 have bT:=R.brT A ho hu hk
 exact⟨Grp.beh hu (Grp.beh hu (R.brG k hk) (Grp.of hu ht)) (Grp.bk hu (R.brG _ hk')),R.off A ho hu hk' (bT.beh (hu t ht)) (R.to A ho hu hk (hu t ht))⟩
theorem sgen_all {S:List Nat->Prop}(hS:∀s,S s->IsT n s)(h:∀k∈Ks,∀t∈us,Grp n S (sgen n mv br k t)){g:List Nat}(hg:Keeps n us mv o g):Grp n S g:=by
 have key:Grp n (λz=>z∈us) g/\Grp n S (beh g (bk n (br (mv o g)))):=by
  refine Grp.ahead (P:=λg=>Grp n (λz=>z∈us) g/\Grp n S (beh g (bk n (br (mv o g))))) hu ⟨.one,?_⟩ (λa s aT ha hs=>⟨Grp.beh hu ha.1 (Grp.of hu hs),?_⟩) hg.1
  ·rw[A.one ho,R.bo,bk_still,still_beh (IsT.range n)]
   exact .one
  ·have hk:=R.mem A ho hu ha.1
   have sT:=hu s hs
   have e:mv o (beh a s)=mv (mv o a) s:=(A.two ho aT sT).symm
   rw[e]
   have bT:=R.brT A ho hu hk
   have bT':=R.brT A ho hu (R.cl _ hk s hs)
   have:=Grp.beh hS ha.2 (h _ hk s hs)
   unfold sgen at this
   rw[←r6 (aT.beh bT.bk) (bT.beh sT) bT'.bk,←r6 (aT.beh bT.bk) bT sT,ya5 aT bT]at this
   exact this
 replace key:=key.2
 rw[hg.2,R.bo,bk_still,beh_still (hg.1.isT hu)]at key
 exact key
theorem keeps_many {L M:List (List Nat)}(nL:L.Nodup)(aL:∀x,x∈L↔Grp n (λz=>z∈us) x)(nM:M.Nodup)(aM:∀x,x∈M↔Keeps n us mv o x):Ks.length*M.length=L.length:=by
 have MT:∀h∈M,IsT n h:=λh hh=>((aM h).mp hh).1.isT hu
 have toK:∀k∈Ks,∀h∈M,mv o (beh h (br k))=k:=λk hk h hh=>by rw[←A.two ho (MT h hh) (R.brT A ho hu hk),((aM h).mp hh).2,R.brK k hk]
 have e:=zw9 (λk=>M.map λh=>beh h (br k)) M.length Ks λk _=>aa _
 rw[←e]
 refine((dr (zi7 _ Ks R.nd (λk hk=>?_) λk hk k' hk' x hx hx'=>?_) nL).mpr λx=>?_).length_eq
 ·exact bj.mpr (List.Pairwise.imp_of_mem (λ{a b} ha hb hne z=>hne (J0 (MT a ha) (MT b hb) (R.brT A ho hu hk) z)) nM)
 ·obtain⟨h,hh,rfl⟩:=au.mp hx
  obtain⟨h',hh',e'⟩:=au.mp hx'
  rw[←toK k hk h hh,←e',toK k' hk' h' hh']
 ·rw[cH,aL x]
  constructor
  ·rintro⟨k,hk,hx⟩
   obtain⟨h,hh,rfl⟩:=au.mp hx
   exact Grp.beh hu ((aM h).mp hh).1 (R.brG k hk)
  ·intro hx
   have xT:=hx.isT hu
   have hk:=R.mem A ho hu hx
   refine⟨_,hk,au.mpr ⟨beh x (bk n (br (mv o x))),(aM _).mpr ⟨Grp.beh hu hx (Grp.bk hu (R.brG _ hk)),R.off A ho hu hk xT rfl⟩,ya5 xT (R.brT A ho hu hk)⟩⟩
end
theorem acts_sides {n:Nat}{ps:List (List Nat)}(hp:∀p∈ps,IsT n p):Acts n (λl=>IsT n l/\lsd n (λz=>z∈ps) l=l) (λl t=>lsd n (λz=>z∈ps) (beh l t)) where
 okm:=λh tT=>⟨lsd_isT hp (h.1.beh tT),lsd_lsd hp (h.1.beh tT)⟩
 one:=λh=>by rw[beh_still h.1,h.2]
 two:=λh tT uT=>by rw[lsd_beh hp (h.1.beh tT) uT,r6 h.1 tT uT]
end TM
namespace TM
open Classical
noncomputable def tk1 (n:Nat) (f:List (List Nat)) (t:List Nat):List (List Nat):=if Grp n (λz=>z∈f) t then f else f++[t]
noncomputable def tkR (n:Nat):List (List Nat)->List (List Nat)->List (List Nat)
 | f,[]=>f
 | f,t::ts=>tkR n (tk1 n f t) ts
noncomputable def kpR (n size:Nat):List (List Nat)->List (List (List Nat))->List (List Nat)
 | f,[]=>f
 | f,gs::r=>kpR n size (if gMany n (Grp n λz=>z∈f) n<size then tkR n f gs else f) r
section
variable {n size:Nat}{f:List (List Nat)}
theorem xm4 (t:List Nat):∃l,tk1 n f t=f++l:=by
 unfold tk1
 split
 ·exact⟨[],(be _).symm⟩
 ·exact⟨[t],rfl⟩
theorem tkR_pre:∀(ts f:List (List Nat)),∃l,tkR n f ts=f++l
 | [],f=>⟨[],(be _).symm⟩
 | t::ts,f=>by
  obtain⟨l,e⟩:=xm4 (n:=n) (f:=f) t
  obtain⟨l',e'⟩:=tkR_pre ts (tk1 n f t)
  exact⟨l++l',by show tkR n (tk1 n f t) ts=_;rw[e',e,bz]⟩
theorem kpR_pre:∀(gs:List (List (List Nat))) (f:List (List Nat)),∃l,kpR n size f gs=f++l
 | [],f=>⟨[],(be _).symm⟩
 | g::gs,f=>by
  obtain⟨l',e'⟩:=kpR_pre gs (if gMany n (Grp n λz=>z∈f) n<size then tkR n f g else f)
  obtain⟨l,e⟩:∃l,(if gMany n (Grp n λz=>z∈f) n<size then tkR n f g else f)=f++l:=by
   split
   ·exact tkR_pre g f
   ·exact⟨[],(be _).symm⟩
  exact⟨l++l',by show kpR n size _ gs=_;rw[e',e,bz]⟩
theorem tkR_app:∀(ts us f:List (List Nat)),tkR n f (ts++us)=tkR n (tkR n f ts) us
 | [],_,_=>rfl
 | t::ts,us,f=>tkR_app ts us (tk1 n f t)
theorem tkR_isT:∀{ts f:List (List Nat)},(∀t∈f,IsT n t)->(∀t∈ts,IsT n t)->∀t∈tkR n f ts,IsT n t
 | [],_,hf,_=>hf
 | s::ts,f,hf,ht=>tkR_isT (ts:=ts) (λt h=>by
  unfold tk1 at h
  split at h
  ·exact hf t h
  ·rcases aC.mp h with z|z
   ·exact hf t z
   ·rw[af.mp z];exact ht s ax) λt h=>ht t (ao _ h)
theorem tkR_snoc (t:List Nat):∀(ts f:List (List Nat)),tkR n f (ts++[t])=tk1 n (tkR n f ts) t
 | [],f=>rfl
 | s::ts,f=>tkR_snoc t ts (tk1 n f s)
theorem kpR_snoc (g:List (List Nat)):∀(gs:List (List (List Nat))) (f:List (List Nat)),kpR n size f (gs++[g])=if gMany n (Grp n λz=>z∈kpR n size f gs) n<size then tkR n (kpR n size f gs) g else kpR n size f gs
 | [],f=>rfl
 | s::gs,f=>kpR_snoc g gs _
structure Tkn (n:Nat) (P:List Nat->Prop) (f:List (List Nat)):Prop where
 p:∀t∈f,P t
 T:∀t∈f,IsT n t
 ind:Indep n f
theorem Tkn.one {P:List Nat->Prop}(h:Tkn n P f){t:List Nat}(tT:IsT n t)(tP:P t):Tkn n P (tk1 n f t)/\Grp n (λz=>z∈tk1 n f t) t/\∀x,Grp n (λz=>z∈f) x->Grp n (λz=>z∈tk1 n f t) x:=by
 unfold tk1
 split
 ·exact⟨h,‹_›,λx hx=>hx⟩
 ·have fT:∀x∈f++[t],IsT n x:=λx hx=>by
   rcases aC.mp hx with z|z
   ·exact h.T x z
   ·rw[af.mp z];exact tT
  refine⟨⟨λx hx=>?_,fT,h.ind.snoc ‹_›⟩,Grp.of fT (by simp),λx hx=>Grp.mono fT (λs hs=>Grp.of fT (aH _ hs)) hx⟩
  rcases aC.mp hx with z|z
  ·exact h.p x z
  ·rw[af.mp z];exact tP
theorem Tkn.run {P:List Nat->Prop}:∀{ts f:List (List Nat)},Tkn n P f->(∀t∈ts,IsT n t/\P t)->Tkn n P (tkR n f ts)/\(∀t∈ts,Grp n (λz=>z∈tkR n f ts) t)/\∀x,Grp n (λz=>z∈f) x->Grp n (λz=>z∈tkR n f ts) x
 | [],f,h,_=>⟨h,λt ht=>(by cases ht),λx hx=>hx⟩
 | t::ts,f,h,ht=>by
  obtain⟨h1,h2,h3⟩:=h.one (ht t ax).1 (ht t ax).2
  obtain⟨h4,h5,h6⟩:=h1.run (ts:=ts) λs hs=>ht s (ao _ hs)
  refine⟨h4,λs hs=>?_,λx hx=>h6 x (h3 x hx)⟩
  rcases aw.mp hs with e|e
  ·rw[e];exact h6 t h2
  ·exact h5 s e
theorem Tkn.step {P:List Nat->Prop}{gs:List (List (List Nat))}{g:List (List Nat)}(h:Tkn n P f)(hg:∀t∈g,IsT n t/\P t)(hj:¬gMany n (Grp n λz=>z∈f) n<size∨∀g∈gs,∀t∈g,Grp n (λz=>z∈f) t) :
  ∀f',f'=(if gMany n (Grp n λz=>z∈f) n<size then tkR n f g else f)->Tkn n P f'/\(¬gMany n (Grp n λz=>z∈f') n<size∨∀g'∈gs++[g],∀t∈g',Grp n (λz=>z∈f') t):=by
 intro f' e
 by_cases c:gMany n (Grp n λz=>z∈f) n<size
 ·rw[if_pos c]at e
  subst e
  obtain⟨h1,h2,h3⟩:=h.run hg
  refine⟨h1,.inr λg' hg' t ht=>?_⟩
  rcases aC.mp hg' with z|z
  ·exact h3 t ((hj.resolve_left λq=>q c) g' z t ht)
  ·rw[af.mp z]at ht
   exact h2 t ht
 ·rw[if_neg c]at e
  subst e
  exact⟨h,.inl c⟩
end
section
variable {n:Nat}{us ms:List (List Nat)}{ok:List Nat->Prop}{mv:List Nat->List Nat->List Nat}{o:List Nat}(A:Acts n ok mv)(ho:ok o)(hu:∀u∈us,IsT n u)
include A ho hu
theorem Ways.fact {k w b:List Nat}(h:Ways n us mv o k w b):Grp n (λz=>z∈us) b/\mv o b=k/\ok k:=by
 induction h with
 | own=>exact⟨.one,A.one ho,ho⟩
 | @step k w b t i _ hi ih =>
  have ht:=av hi
  exact⟨Grp.beh hu ih.1 (Grp.of hu ht),by rw[←A.two ho (ih.1.isT hu) (hu t ht),ih.2.1],A.okm ih.2.2 (hu t ht)⟩
theorem ring_cl {Ks:List (List Nat)}(hk:∀k∈Ks,ok k)(cl:∀k∈Ks,∀t∈us,mv k t∈Ks){g:List Nat}(hg:Grp n (λz=>z∈us) g):∀k∈Ks,mv k g∈Ks:=by
 refine Grp.ahead (P:=λg=>∀k∈Ks,mv k g∈Ks) hu (λk hk'=>by rw[A.one (hk k hk')];exact hk') (λa s aT ha hs k hk'=>?_) hg
 rw[←A.two (hk k hk') aT (hu s hs)]
 exact cl _ (ha k hk') s hs
theorem keeps_full {Ks f LF LU:List (List Nat)}{br:List Nat->List Nat}(R:Rng n us mv o Ks br)(hf:∀t∈f,Keeps n us mv o t)(nF:LF.Nodup)(aF:∀x,x∈LF↔Grp n (λz=>z∈f) x)(nU:LU.Nodup)(aU:∀x,x∈LU↔Grp n (λz=>z∈us) x)(h:LU.length / Ks.length<=LF.length){x:List Nat}(hx:Keeps n us mv o x):Grp n (λz=>z∈f) x:=by
 have nM:(LU.filter λg=>decide (mv o g=o)).Nodup:=nU.sublist (fk ..)
 have aM:∀g,g∈LU.filter (λg=>decide (mv o g=o))↔Keeps n us mv o g:=λg=>by
  rw[dF,aU g]
  exact⟨λh=>⟨h.1,of_decide_eq_true h.2⟩,λh=>⟨h.1,decide_eq_true h.2⟩⟩
 have e:=keeps_many A ho hu R nU aU nM aM
 have hK:0<Ks.length:=bL R.own
 have e2:LU.length / Ks.length=(LU.filter λg=>decide (mv o g=o)).length:=by
  rw[←e,Nat.mul_div_cancel_left _ hK]
 rw[e2]at h
 exact(aF x).mp ((zq7 nF (λy hy=>(aM y).mpr (keeps_grp A ho hu hf ((aF y).mp hy))) h).mem_iff.mpr ((aM x).mpr hx))
end
end TM
namespace Tb
open PySem L2
def tI (t:List Nat):List V:=t.map λ(x:Nat)=>V.int x
theorem v0 (t:List Nat):(tI t).length=t.length:=aa _
theorem ye0 (t:List Nat)(i:Nat):(tI t)[i]?=(t[i]?).map λ(x:Nat)=>V.int x:=ah ..
theorem M6 {t:List Nat}{i:Nat}{x:V}(h:(tI t)[i]?=some x):∃p,t[i]?=some p/\x=V.int p:=by
 rw[ye0]at h
 cases q:t[i]? with
 | none=>rw[q]at h;cases h
 | some p=>rw[q]at h;exact⟨p,rfl,(Option.some.inj h).symm⟩
theorem xn4 {t:List Nat}{i p:Nat}(h:t[i]?=some p):(tI t)[i]?=some (V.int p):=by rw[ye0,h];rfl
theorem zk0 {t:List Nat}{i p:Nat}(h:t[i]?=some p):atI (tI t) ((i:Nat):Int)=some (V.int p):=d0 (xn4 h)
theorem K8 (s t:List Nat):tI (s++t)=tI s++tI t:=aG
theorem yl2:∀(t:List Nat) (i:Nat),(tI t).eraseIdx i=tI (t.eraseIdx i)
 | [],_=>rfl
 | _::_,0=>rfl
 | a::r,i+1=>by
  have ih:=yl2 r i
  show V.int a::(tI r).eraseIdx i=V.int a::tI (r.eraseIdx i)
  rw[ih]
theorem yp0:∀(t:List Nat) (i x:Nat),(tI t).set i (V.int x)=tI (t.set i x)
 | [],_,_=>rfl
 | _::_,0,_=>rfl
 | a::r,i+1,x=>by
  have ih:=yp0 r i x
  show V.int a::(tI r).set i (V.int x)=V.int a::tI (r.set i x)
  rw[ih]
theorem N6 (n:Nat):U5 0 n=tI (List.range n):=by
 unfold U5 tI
 apply bF
 intro x _
 rw[Int.zero_add]
theorem small {n:Nat}(h:n<=1000):n<=fQ:=bH (zy2 h)
theorem zz5 {n i:Nat}(h:i<n):ixN n ((i:Nat):Int)=some i:=by
 unfold ixN
 rw[if_pos (dR i),if_pos (by lia)]
 rfl
theorem xl6 {n i:Nat}(h:i<n):seqIndex? ((i:Nat):Int) n=some i:=(zz6 (zz5 h)).1
theorem y2 {H:Hp}{p:Addr}(h:H p=none)(o:HO):y0 H (upd H p o):=λb u q=>by rw[z5 (z9 q h)];exact q
theorem p5 {H H':Hp}{p:Addr}(s:y0 H H')(h:H p=none)(o:HO):y0 H (upd H' p o):=λb u q=>by rw[z5 (z9 q h)];exact s b u q
def d6 (T U:String):Option Bool:=if (Value.type T==Value.type U)=true then some true else if W.kitMeta U=true then(PySem.fastBuiltinMro T).map (·.contains (Value.type U)) else none
theorem J3 {K:W.Frag}{T U:String}{b:Bool}(h:d6 T U=some b):W.kitOne K (.type T) (.type U)=some b:=h
theorem yn3:d6 "int" "int"=some true:=by decide +kernel
theorem yh2:d6 "int" "bool"=some false:=by decide +kernel
theorem zz8:d6 "bool" "bool"=some true:=by decide +kernel
theorem zz9:d6 "list" "list"=some true:=by decide +kernel
theorem U2 {i j:Int}:decide (V.int i=V.int j)=decide (i=j):=decide_eq_decide.mpr ⟨λz=>by injection z,λz=>by rw[z]⟩
theorem zp3:d6 "tuple" "tuple"=some true:=by decide +kernel
structure Blt (mg:Str->Option Value):Prop where
 len:mg "len"=none
 range:mg "range"=none
 list:mg "list"=none
 tuple:mg "tuple"=none
 isinstance:mg "isinstance"=none
 int:mg "int"=none
 bool:mg "bool"=none
 str:mg "str"=none
 enumerate:mg "enumerate"=none
 sorted:mg "sorted"=none
 sum:mg "sum"=none
 all:mg "all"=none
 set:mg "set"=none
 reversed:mg "reversed"=none
 divmod:mg "divmod"=none
 max:mg "max"=none
 min:mg "min"=none
theorem Z4:ge "len"=some (.builtin "len"):=by decide +kernel
theorem O2:ge "range"=some (.type "range"):=by decide +kernel
theorem M4:ge "list"=some (.type "list"):=by decide +kernel
theorem c5:ge "tuple"=some (.type "tuple"):=by decide +kernel
theorem i5:ge "isinstance"=some (.builtin "isinstance"):=by decide +kernel
theorem xa5:ge "int"=some (.type "int"):=by decide +kernel
theorem zy8:ge "bool"=some (.type "bool"):=by decide +kernel
theorem zf8:ge "sorted"=some (.builtin "sorted"):=by decide +kernel
theorem zn8:ge "all"=some (.builtin "all"):=by decide +kernel
theorem yv5:ge "divmod"=some (.builtin "divmod"):=by decide +kernel
theorem xa6:ge "min"=some (.builtin "min"):=by decide +kernel
def zt5 (mg:Str->Option Value)(x:Str)(v:V):Prop:=∃u,mg x=some u/\o0 v u
theorem zj3 {X:Cx}{x:Str}{v:V}{pos:Pos}(g:zt5 X.mg x v)(hg:Gl X x)(hd:(x==("__debug__":Str))=false:=by decide):PE X (.Name x pos) (tC v):=by
 obtain⟨u,hm,r⟩:=g
 exact yr9 hg hm r hd
def o7 (P:fR)(w:fW)(K:W.Frag)(mg:Str->Option Value)(base:Heap)(k:Nat)(x:Str)(ps:List Str)(sp:Sp):Prop :=
 ∃f fd,u6 P w K mg base CX0 k f fd ps sp/\W.keepIn K (.ref f)=true/\mg x=some (.ref f)/\V5 K fd ps []
structure Def (K:W.Frag) (mg:Str->Option Value) (x:Str) (st:Stmt) (ps:List Str) (f:Addr) (fd:gh):Prop where
 F:Fun K x x st f fd
 b:V5 K fd ps []
 m:mg x=some (.ref f)
theorem Def.known {P:fR}{w:fW}{K:W.Frag}{mg:Str->Option Value}{base:Heap}{x:Str}{st:Stmt}{ps:List Str}{f:Addr}{fd:gh}{k:Nat}{sp:Sp}(D:Def K mg x st ps f fd)(G:u6 P w K mg base CX0 k f fd ps sp):o7 P w K mg base k x ps sp :=
 ⟨f,fd,G,D.F.kp,D.m,D.b⟩
section
variable {X:Cx}{x:Str}{p pos:Pos}{e:Expr}{es:List Expr}{t:TA}{ps:List Str}{sp:Sp}{k j:Nat}
theorem q9 (kn:o7 X.prog X.w X.K X.mg X.base k x ps sp)(hr:Y3 j X.A)(hg:Gl X x)(ha:PA X (e::es) t)(hj:k<=j:=by decide)(hdb:(x==("__debug__":Str))=false:=by decide)
  (he:fU (e::es) X.env=(false,eval e X.env)::fU es X.env:=by rfl) (hpl:(backTo pos (fU es X.env)).any (·.1)=false:=by rfl):PE X (.Call (.Name x p) (e::es) [] pos) (yu6 sp [] E0 t):=by
 obtain⟨f,fd,G,hk,hm,hb⟩:=kn
 exact yr8 G (hr.mono hj) hg hm hk hb .nil zx6 ha hdb he hpl
end
theorem xe4 {t1 u:TS}{D:za9}{σ:St}{H:Hp}(Pv:St->Hp->Prop)(hu:∀σ H,Pv σ H->u D σ H)(h:∀N:St->Hp->Prop,(∀σ H,Pv σ H->N σ H)->t1 { D with nx:=N } σ H):xh4 t1 u D σ H :=
 h (λσ H=>u D σ H) hu
theorem xj6 (z:Int):∃n:Nat,1+z % 60=(n:Int)/\1<=n/\n<=60:=by
 have h1:=cK z (show(60:Int)≠0 by decide)
 have h2:=dS z (show(0:Int)<60 by decide)
 exact⟨(1+z % 60).toNat,by lia,by lia,by lia⟩
theorem yu8 (t:List Nat):tI t=(t.map λ(x:Nat)=>(x:Int)).map V.int:=by
 unfold tI
 rw[bx]
 rfl
def yt6 (K:W.Frag):Sp:=λvs H Q _=>∃(a:Addr) (ns:List Int),vs=[.ref a]/\SqL K H a (ns.map V.int)/\ns.length<=63/\(∀z∈ns,Builtin.Int.intBits z<=2 ^ 20)/\∀H',Q (.bl true) H'
theorem walk {l:W.OpenLaw}{q:fR}{loose:List Str}{XP:(Str->Option Value)->Heap->Prop}{YP:fW->Heap->Prop}{d:DefRec}{K:Params->W.Frag}{k:Nat}{x:Str}(hn:l.most=some 63)(hdf:d.params.defaults=[])(hr:Y3 k callerA)
  (hY:∀(w:fW) (h:Heap),YP w h->(K w.params).In h)
  (F:∀(w:fW) (mg:Str->Option Value) (fa:Addr) (h:Heap),(K w.params).In h->h.Ns mainGlobals mg->mg d.name=some (.ref fa) ->
   ∃fd:gh,(∀(s:fO) (u:Value),BindsTo s fd ⟨[u],[]⟩ [(x,u)])/\∀base:Heap,(K w.params).In base->base.Ns mainGlobals mg->u6 l.prog w (K w.params) mg base CX0 k fa fd [x] (yt6 (K w.params))) :
  W.WalkO q loose XP YP l.row.toRowW d [] (λf vs=>PySem.call f vs) :=
 L2.walk_ofB (n:=63) (k:=k) (x:=x) (CX:=CX0) (sp:=yt6) hn (by decide) hdf hr hY F (λ_ _ a ns hl hb _ hS=>⟨a,ns,rfl,hS,hl,hb,λ_=>rfl⟩) λ_ _ _ _ z=>z
def lnV:TM.Ln->List V
 | .still=>[.str "still"]
 | .told k=>[.str "told",.int k]
 | .behind i j=>[.str "behind",.int i,.int j]
 | .back i=>[.str "back",.int i]
def zn1 (H:Hp)(as:List Addr)(ls:List TM.Ln):Prop:=Paired (λa l=>H a=some (.tup (lnV l))) as ls
def i7 (H:Hp)(as:List Addr)(ts:List (List Nat)):Prop:=Paired (λa t=>H a=some (.tup (tI t))) as ts
theorem zn1.same {H H':Hp}{as:List Addr}{ls:List TM.Ln}(h:zn1 H as ls)(s:y0 H H'):zn1 H' as ls:=Paired.imp' (λ_ _ e=>s _ _ e) h
theorem i7.same {H H':Hp}{as:List Addr}{ls:List (List Nat)}(h:i7 H as ls)(s:y0 H H'):i7 H' as ls:=Paired.imp' (λ_ _ e=>s _ _ e) h
theorem g7 {α β:Type}{F:α->β->Prop}:∀{as:List α} {bs:List β},Paired F as bs->∀(i:Nat) (b:β),bs[i]?=some b->∃a,as[i]?=some a/\F a b
 | _,_,.nil,i,b,h=>by cases i <;> cases h
 | _,_,.cons f _,0,b,h=>by
  cases h
  exact⟨_,rfl,f⟩
 | _,_,.cons _ r,i+1,b,h=>by
  obtain⟨a,ha,f⟩:=g7 r i b (by simpa using h)
  exact⟨a,by simpa using ha,f⟩
theorem u7 {α β:Type}{F:α->β->Prop}:∀{as:List α} {bs:List β},Paired F as bs->∀(i:Nat) (a:α),as[i]?=some a->∃b,bs[i]?=some b/\F a b
 | _,_,.nil,i,a,h=>by cases i <;> cases h
 | _,_,.cons f _,0,a,h=>by
  cases h
  exact⟨_,rfl,f⟩
 | _,_,.cons _ r,i+1,a,h=>by
  obtain⟨b,hb,f⟩:=u7 r i a (by simpa using h)
  exact⟨b,by simpa using hb,f⟩
theorem W4 {as:List Addr}{i:Nat}{y:V}(h:(as.map V.ref)[i]?=some y):∃b,as[i]?=some b/\y=V.ref b:=by
 rw[ah]at h
 cases e:as[i]? with
 | none=>rw[e]at h;cases h
 | some b=>rw[e]at h;exact⟨b,rfl,(Option.some.inj h).symm⟩
end Tb
namespace Tb
open PySem L2
def top (i:Nat):Stmt:=PySem.Challenge.pw_turnbase_k48_sides_act.main.body.getD i (.Pass ⟨0,0,0,0⟩)
abbrev zc5:Stmt:=top 10
abbrev E3:Stmt:=top 11
abbrev P4:Stmt:=top 12
abbrev yc7:Stmt:=top 13
abbrev zr4:Stmt:=top 14
abbrev yo5:Stmt:=top 15
abbrev E4:Stmt:=top 27
abbrev N2:Stmt:=top 17
abbrev B9:Stmt:=top 33
abbrev E2:Stmt:=top 34
abbrev F9:Stmt:=top 35
abbrev F7:Stmt:=top 36
abbrev L7:Stmt:=top 37
abbrev zc3:Stmt:=top 38
abbrev F0:Stmt:=top 39
abbrev N1:Stmt:=top 40
abbrev A1:Stmt:=top 41
abbrev L8:Stmt:=top 42
abbrev zc4:Stmt:=top 43
abbrev zj5:Stmt:=top 44
def o9 (i j:Nat):Stmt:=match top i with | .ClassDef _ _ _ b _ _ _ _ _ _ _=>b.getD j (.Pass ⟨0,0,0,0⟩)|s=>s
abbrev P2:Stmt:=o9 22 0
abbrev zc0:Stmt:=o9 22 1
abbrev U8:Stmt:=o9 22 2
abbrev W8:Stmt:=o9 22 3
abbrev P3:Stmt:=o9 23 0
abbrev R8:Stmt:=o9 23 1
abbrev X3:Stmt:=o9 23 2
abbrev R7:Stmt:=o9 23 3
abbrev R0:Stmt:=o9 24 0
abbrev T0:Stmt:=o9 24 4
abbrev M9:Stmt:=o9 24 5
abbrev Z0:Stmt:=o9 24 3
abbrev O6:Stmt:=o9 24 2
abbrev J8:Stmt:=o9 24 1
abbrev J7:Stmt:=o9 24 8
abbrev R3:Stmt:=o9 28 0
abbrev I0:Stmt:=o9 28 1
abbrev J9:Stmt:=o9 28 3
abbrev B7:Stmt:=o9 28 8
abbrev Z6:Stmt:=o9 24 6
abbrev R1:Stmt:=o9 24 10
abbrev L0:Stmt:=o9 28 10
abbrev U9:Stmt:=o9 24 9
abbrev X9:Stmt:=o9 28 2
abbrev T1:Stmt:=o9 29 0
abbrev L4:Stmt:=o9 29 1
abbrev L1:Stmt:=o9 29 2
abbrev O7:Stmt:=o9 29 3
abbrev n4:Stmt:=o9 31 0
abbrev B8:Stmt:=o9 31 1
abbrev R4:Stmt:=o9 31 2
abbrev R5:Stmt:=o9 31 3
abbrev L5:Stmt:=o9 31 4
abbrev O8:Stmt:=o9 31 5
abbrev zc1:Stmt:=o9 31 6
abbrev zc2:Stmt:=o9 31 7
abbrev O9:Stmt:=o9 31 9
abbrev V4:Stmt:=o9 31 10
abbrev O5:Stmt:=o9 18 0
abbrev zb9:Stmt:=o9 18 3
abbrev R6:Stmt:=o9 19 0
abbrev N0:Stmt:=o9 19 1
abbrev L6:Stmt:=o9 19 2
section
variable {P:fR}{w:fW}{K:W.Frag}{mg:Str->Option Value}{base:Heap}{f:Addr}{fd:gh}
def xp0:PyData->Bool
 | .int _=>true
 | .bool _=>true
 | _=>false
def xj3:PyData->Bool
 | .bool _=>true
 | _=>false
def xp1:PyData->Bool
 | .tuple _=>true
 | _=>false
def isW:PyData->Bool
 | .int _=>true
 | _=>false
theorem xp5:∀d:PyData,d6 (tyD d) "int"=some (xp0 d)
 | .none=>(by decide +kernel:d6 "NoneType" "int"=some false)
 | .bool _=>(by decide +kernel:d6 "bool" "int"=some true)
 | .int _=>(by decide +kernel:d6 "int" "int"=some true)
 | .str _=>(by decide +kernel:d6 "str" "int"=some false)
 | .list _=>(by decide +kernel:d6 "list" "int"=some false)
 | .tuple _=>(by decide +kernel:d6 "tuple" "int"=some false)
 | .dict _=>(by decide +kernel:d6 "dict" "int"=some false)
theorem yr0:∀d:PyData,d6 (tyD d) "bool"=some (xj3 d)
 | .none=>(by decide +kernel:d6 "NoneType" "bool"=some false)
 | .bool _=>(by decide +kernel:d6 "bool" "bool"=some true)
 | .int _=>(by decide +kernel:d6 "int" "bool"=some false)
 | .str _=>(by decide +kernel:d6 "str" "bool"=some false)
 | .list _=>(by decide +kernel:d6 "list" "bool"=some false)
 | .tuple _=>(by decide +kernel:d6 "tuple" "bool"=some false)
 | .dict _=>(by decide +kernel:d6 "dict" "bool"=some false)
theorem xp6:∀d:PyData,d6 (tyD d) "tuple"=some (xp1 d)
 | .none=>(by decide +kernel:d6 "NoneType" "tuple"=some false)
 | .bool _=>(by decide +kernel:d6 "bool" "tuple"=some false)
 | .int _=>(by decide +kernel:d6 "int" "tuple"=some false)
 | .str _=>(by decide +kernel:d6 "str" "tuple"=some false)
 | .list _=>(by decide +kernel:d6 "list" "tuple"=some false)
 | .tuple _=>(by decide +kernel:d6 "tuple" "tuple"=some true)
 | .dict _=>(by decide +kernel:d6 "dict" "tuple"=some false)
theorem scq {N P:List Str}{sc:Scope}(a:sc.kind=.function:=by rfl)(b:sc.isCoroutine=false:=by rfl)(c:sc.isGenerator=false:=by rfl)(d:N.Nodup:=by decide +kernel)(e:N.take P.length=P:=by rfl)(f:∀x∈P,sc.names.lookup x=some .local∨sc.names.lookup x=some .cell:=by decide +kernel)(g:∀y∈sc.names,y.2≠.free:=by decide +kernel):y4 N P sc:=⟨a,b,c,d,e,f,g⟩
theorem yk0:y4 ["thing"] ["thing"] (z8 zc5):=scq
def zt0:Sp:=λvs H Q _=>∃(x:V) (d:PyData),vs=[x]/\Dt H x d/\Q (.bl (isW d)) H
theorem yi6 (D:Def K mg "is_whole" zc5 ["thing"] f fd)(B:Blt mg):u6 P w K mg base CX0 1 f fd ["thing"] zt0:=by
 refine D.F.ok yk0 (λvs H Q E h=>?_) (λcdv A outer s H vs Q E hr h=>?_)
 ·obtain⟨x,d,rfl,_⟩:=h
  rfl
 obtain⟨x,d,rfl,hd,q⟩:=h
 refine⟨_,z6 (y9 (C7 (w8 Z2 rfl B.isinstance i5 (z0 (pv 0) (z0 (M5 (v:=.ty "int") rfl B.int xa5 rfl) z4)))
  (zb7 (xe7 (w8 Z2 rfl B.isinstance i5 (z0 (pv 0) (z0 (M5 (v:=.ty "bool") rfl B.bool zy8 rfl) z4))))))),?_⟩
 refine⟨_,rfl,_,_,_,_,rfl,hd.ty,J3 (xp5 d),_,rfl,?_⟩
 cases d with
 | int i=>exact Z1 ⟨_,rfl,_,_,_,_,rfl,hd.ty,J3 (yr0 _),_,rfl,q⟩
 | bool b=>exact Z1 ⟨_,rfl,_,_,_,_,rfl,hd.ty,J3 (yr0 _),_,rfl,q⟩
 | none=>exact i9 q
 | str _=>exact i9 q
 | list _=>exact i9 q
 | tuple _=>exact i9 q
 | dict _=>exact i9 q
def T6:List PyData->List Int
 | .int i::r=>i::T6 r
 | _::r=>T6 r
 | []=>[]
def yk3 (l:List Int):List Int:=l.mergeSort λa b=>decide (a<=b)
theorem yk4 {l m:List Int}(p:m.Perm l)(h:m.Pairwise (·<=·)):m=yk3 l:=by
 refine List.Perm.eq_of_pairwise (λa b _ _ h1 h2=>Int.le_antisymm h1 h2) h ?_ (p.trans (fj l _).symm)
 exact(List.pairwise_mergeSort (le:=λa b:Int=>decide (a<=b)) (λa b c h1 h2=>decide_eq_true (dH (of_decide_eq_true h1) (of_decide_eq_true h2))) (λa b=>by
  show(decide (a<=b) || decide (b<=a))=true
  rw[Bool.or_eq_true,decide_eq_true_eq,decide_eq_true_eq]
  exact Int.le_total a b) l).imp λh=>of_decide_eq_true h
def zl1 (n:Nat):List Int:=(List.range n).map λ(i:Nat)=>(i:Int)
theorem xr6 (n:Nat):tI (List.range n)=(zl1 n).map V.int:=yu8 _
theorem D9:∀(ms rs:List Int),PyData.eqvAll (ms.map PyData.int) (rs.map PyData.int)=decide (ms=rs)
 | [],[]=>by simp[PyData.eqvAll]
 | [],_::_=>by simp[PyData.eqvAll]
 | _::_,[]=>by simp[PyData.eqvAll]
 | a::as,b::bs=>by
  rw[aR,aR,PyData.eqvAll,D9 as bs]
  by_cases h:a=b
  ·subst h;simp[PyData.eqv]
  ·simp[PyData.eqv,h]
theorem yw3 (ms rs:List Int):PyData.eqv (.list (ms.map PyData.int)) (.list (rs.map PyData.int))=decide (ms=rs):=by rw[PyData.eqv,D9]
theorem yh3:∀ns:List Int,PyData.canLayAll0 (ns.map PyData.int)=true/\PyData.depthAll (ns.map PyData.int)<=1
 | []=>by simp[PyData.canLayAll0,PyData.depthAll]
 | n::r=>by
  obtain⟨h1,h2⟩:=yh3 r
  refine⟨by simp[PyData.canLayAll0,PyData.canLay0,h1],?_⟩
  simp only[aR,PyData.depthAll,PyData.depth]
  lia
theorem zj7 (ns:List Int):PySem.SeqAt.shaped (.list (ns.map PyData.int))=true:=by
 obtain⟨h1,h2⟩:=yh3 ns
 unfold PySem.SeqAt.shaped
 rw[bp]
 refine⟨by simp only[PyData.canLay0];exact h1,decide_eq_true ?_⟩
 simp only[PyData.depth]
 lia
def l5:PyData->Bool
 | .tuple ds=>(decide (1<=ds.length)&&decide (ds.length<=60))&&(ds.all isW&&decide (yk3 (T6 ds)=zl1 ds.length))
 | _=>false
theorem yq9 {H:Hp}:∀{xs:List V} {ds:List PyData},Dts H xs ds->ds.all isW=true->xs=(T6 ds).map V.int/\(T6 ds).length=ds.length
 | _,_,.nil,_=>⟨rfl,rfl⟩
 | _,_,.cons h r,e=>by
  rw[eV,bp]at e
  obtain⟨h1,h2⟩:=yq9 r e.2
  cases h with
  | int i=>exact⟨by rw[h1];rfl,by show(i::T6 _).length=_;rw[aD,h2];rfl⟩
  | non=>cases e.1
  | bl _=>cases e.1
  | str _=>cases e.1
  | lst _ _=>cases e.1
  | tup _ _=>cases e.1
  | dct _=>cases e.1
def yu5:Sp:=λvs H Q _=>∃(x:V) (d:PyData),vs=[x]/\Dt H x d/\(∀ds,d=.tuple ds->ds.length<=100)/\∀H':Hp,y0 H H'->Q (.bl (l5 d)) H'
theorem zv8:y4 ["thing"] ["thing"] (z8 E3):=scq
theorem zv1 (D:Def K mg "is_turning" E3 ["thing"] f fd)(B:Blt mg)(KW:o7 P w K mg base 1 "is_whole" ["thing"] zt0)(GM:zt5 mg "MOST_PLACES" (.int 60)):u6 P w K mg base CX0 2 f fd ["thing"] yu5:=by
 refine D.F.ok zv8 (λvs H Q E h=>?_) (λcdv A outer s H vs Q E hr h=>?_)
 ·obtain⟨x,d,rfl,_⟩:=h
  rfl
 obtain⟨x,d,rfl,hd,hlen,q⟩:=h
 refine⟨_,z7 (l8 (PW.pt (zj4 (X8 (Y5 (w8 Z2 rfl B.isinstance i5 (z0 (pv 0) (z0 (M5 (v:=.ty "tuple") rfl B.tuple c5 rfl) z4))))) (zb8 (X8 (yj4 yr7 yr7 x9 (w8 p0 rfl B.len Z4 (z0 (pv 0) z4)) (zj3 GM rfl)))))) (z6 (y9 U6)) u8)
  (z7 (l8 (X8 (Y5 (w8 (K1 rfl) rfl B.all zn8 (z0 (c7 [] ["place"] rfl (yb9 (pv 0)) (λ_ _ _ _=>q9 KW hr rfl (z0 (pv 0) z4))) z4)))) (z6 (y9 U6)) u8)
  (z6 (y9 (Q3 (yb3 hr.units) (w8 zz1 rfl B.sorted zf8 (z0 (pv 0) z4)) (t9 (M8 rfl) rfl B.list M4 (z0 (t9 T8 rfl B.range O2 (z0 (w8 p0 rfl B.len Z4 (z0 (pv 0) z4)) z4)) z4)) (n1 _))))),?_⟩
 refine⟨_,rfl,_,_,_,_,rfl,hd.ty,J3 (xp6 d),_,rfl,?_⟩
 cases hd with
 | non=>exact Z1 (q H (y0.refl _))
 | bl b=>exact Z1 (q H (y0.refl _))
 | int i=>exact Z1 (q H (y0.refl _))
 | str t=>exact Z1 (q H (y0.refl _))
 | lst _ _=>exact Z1 (q H (y0.refl _))
 | dct _=>exact Z1 (q H (y0.refl _))
 | @tup b xs ds hb hs =>
 have hxl:=hs.length
 have hl100:=hlen ds rfl
 refine i9 ⟨_,rfl,b,_,rfl,.inr (SqT.of hb),_,_,rfl,rfl,_,rfl,?_⟩
 by_cases h1:1<=ds.length
 case neg =>
  rw[decide_eq_false (show ¬(1:Int)<=((xs.length:Nat):Int) by lia)]
  refine i9 ⟨_,rfl,Z1 ?_⟩
  have e:l5 (.tuple ds)=false:=by simp only[l5];rw[decide_eq_false h1];rfl
  exact e ▸ q H (y0.refl _)
 rw[decide_eq_true (show(1:Int)<=((xs.length:Nat):Int) by lia)]
 refine Z1 ⟨_,_,rfl,rfl,_,rfl,?_⟩
 by_cases h2:ds.length<=60
 case neg =>
  rw[decide_eq_false (show ¬((xs.length:Nat):Int)<=(60:Int) by lia)]
  refine Z1 ?_
  have e:l5 (.tuple ds)=false:=by simp only[l5];rw[decide_eq_false h2,eL];rfl
  exact e ▸ q H (y0.refl _)
 rw[decide_eq_true (show((xs.length:Nat):Int)<=(60:Int) by lia)]
 refine i9 ?_
 refine⟨_,rfl,b,rfl,⟨_,SqT.of hb⟩,zd2 (SqT.of hb) ((ds.map isW).map V.bl) (by rw[aa,aa,hxl]) (by rw[hxl];exact small (by lia)) ?_ ?_⟩
 ·intro j H' x hx s' _ _ _ _
  obtain⟨dj,hdj,hxj⟩:=hs.get hx
  refine⟨_,rfl,_,dj,rfl,hxj.same s',y0.refl _,?_⟩
  rw[ah,ah,hdj]
  rfl
 intro nm H4 _ s4 hnm
 refine⟨nm,_,rfl,SqL.of hnm,_,rfl,?_⟩
 have eall:(ds.map isW).all id=ds.all isW:=by rw[fC];rfl
 rw[eall]
 cases hall:ds.all isW with
 | false =>
  have e:l5 (.tuple ds)=false:=by simp only[l5];rw[hall,eJ,eL]
  exact Z1 (e ▸ q H4 s4)
 | true =>
  refine i9 ?_
  obtain⟨ex,el⟩:=yq9 hs hall
  have hb4:=s4 _ _ hb
  refine⟨_,rfl,b,T6 ds,rfl,SqT.of (by rw[←ex];exact hb4),by lia,λl ms hl hp hw=>?_⟩
  have s5:=y2 hl (.lst (ms.map V.int))
  have e5:(upd H4 l (.lst (ms.map V.int))) l=some (.lst (ms.map V.int)):=z3
  generalize upd H4 l (.lst (ms.map V.int))=H5 at s5 e5 ⊢
  refine⟨_,rfl,b,_,rfl,.inr (SqT.of (s5 _ _ hb4)),_,rfl,λp hp'=>⟨p,0,_,rfl,z3,⟨by lia,by lia,by lia,by lia,by lia⟩,λr hr'=>?_⟩⟩
  have s6:y0 H5 (upd (upd H5 p (.rng 0 ((xs.length:Nat):Int))) r (.lst (U5 0 (((xs.length:Nat):Int)-0).toNat))):=(y2 hp' _).trans (y2 hr' _)
  have e6:(upd (upd H5 p (.rng 0 ((xs.length:Nat):Int))) r (.lst (U5 0 (((xs.length:Nat):Int)-0).toNat))) r=some (.lst ((zl1 ds.length).map V.int)):=by
   rw[z3,show(((xs.length:Nat):Int)-0).toNat=ds.length by lia,N6,xr6]
  generalize upd (upd H5 p (.rng 0 ((xs.length:Nat):Int))) r (.lst (U5 0 (((xs.length:Nat):Int)-0).toNat))=H6 at s6 e6 ⊢
  refine⟨.list (ms.map PyData.int),.list ((zl1 ds.length).map PyData.int),.lst (SqL.of (s6 _ _ e5)) (D5.ints _),.lst (SqL.of e6) (D5.ints _),zj7 _,zj7 _,?_⟩
  have e:l5 (.tuple ds)=PyData.eqv (.list (ms.map PyData.int)) (.list ((zl1 ds.length).map PyData.int)):=by
   simp only[l5]
   rw[yw3,hall,decide_eq_true h1,decide_eq_true h2,yk4 hp hw]
   rfl
  rw[←e]
  exact q H6 (s4.trans (s5.trans s6))
def N4:Sp:=λvs H Q _=>∃(x:V) (d:PyData) (n:Nat),vs=[x,.int n]/\Dt H x d/\(∀ds,d=.tuple ds->ds.length<=100)/\∀H':Hp,y0 H H'->Q (.bl (l5 d&&match d with | .tuple ds=>decide (ds.length=n)|_=>false)) H'
theorem zh3:y4 ["thing","many"] ["thing","many"] (z8 P4):=scq
theorem yz0 {d:PyData}(h:l5 d=true):∃ds,d=.tuple ds:=by
 cases d with
 | tuple ds=>exact⟨ds,rfl⟩
 | _=>cases h
theorem zg6 (D:Def K mg "is_turning_of" P4 ["thing","many"] f fd)(B:Blt mg)(KT:o7 P w K mg base 2 "is_turning" ["thing"] yu5):u6 P w K mg base CX0 3 f fd ["thing","many"] N4:=by
 refine D.F.ok zh3 (λvs H Q E h=>?_) (λcdv A outer s H vs Q E hr h=>?_)
 ·obtain⟨x,d,n,rfl,_⟩:=h
  rfl
 obtain⟨x,d,n,rfl,hd,hl,q⟩:=h
 refine⟨_,z6 (y9 (C7 (q9 KT hr rfl (z0 (pv 0) z4)) (zb7 (Q3 zj2 (w8 p0 rfl B.len Z4 (z0 (pv 0) z4)) (pv 1) (n1 _))))),?_⟩
 refine⟨_,rfl,x,d,rfl,hd,hl,λH1 s1=>?_⟩
 cases ht:l5 d with
 | false =>
  have:=q H1 s1
  rw[ht,eJ]at this
  exact⟨_,rfl,i9 this⟩
 | true =>
  obtain⟨ds,rfl⟩:=yz0 ht
  have q':=q H1 s1
  rw[ht,Bool.true_and]at q'
  have hd1:=hd.same s1
  cases hd1 with
  | @tup a xs _ e r =>
   refine⟨_,rfl,Z1 ⟨_,rfl,a,_,rfl,.inr (SqT.of e),_,rfl,rfl,?_⟩⟩
   rw[U2,r.length]
   rw[show decide (((ds.length:Nat):Int)=(n:Int))=decide (ds.length=n) from decide_eq_decide.mpr (by lia)]
   exact q'
def zm7:Sp:=λvs H Q _=>∃n:Nat,vs=[.int n]/\n<=1000/\∀(r:Addr) (H':Hp),H r=none->y0 H H'->H' r=some (.tup (tI (List.range n)))->Q (.ref r) H'
theorem xg0:y4 ["many"] ["many"] (z8 yc7):=scq
theorem xd9 (D:Def K mg "still" yc7 ["many"] f fd)(B:Blt mg):u6 P w K mg base CX0 1 f fd ["many"] zm7:=by
 refine D.F.ok xg0 (λvs H Q E h=>?_) (λcdv A outer s H vs Q E hr h=>?_)
 ·obtain⟨n,rfl,_⟩:=h
  rfl
 obtain⟨n,rfl,hn,q⟩:=h
 refine⟨_,z6 (y9 (t9 (U1 rfl) rfl B.tuple c5 (z0 (t9 T8 rfl B.range O2 (z0 (pv 0) z4)) z4))),?_⟩
 refine⟨_,rfl,_,rfl,λp hp=>⟨p,0,(n:Int),rfl,z3,⟨by lia,by lia,by lia,by lia,by lia⟩,λr hr'=>?_⟩⟩
 rw[show((n:Int)-0).toNat=n by lia,N6]
 have pr:p≠r:=z9 z3 hr'
 have hr0:H r=none:=by
  have:=hr'
  rwa [z5 (Ne.symm pr)]at this
 exact q r _ hr0 (p5 (y2 hp _) hr0 _) z3
def Q9 (K:W.Frag):Sp:=λvs H Q _=>∃(a b:Addr) (one other:List Nat),vs=[.ref a,.ref b]/\SqT K H a (tI one)/\SqT K H b (tI other)/\one.length<=1000/\(∀x∈one,x<other.length) /\
 ∀(r:Addr) (H':Hp),H r=none->y0 H H'->H' r=some (.tup (tI (one.map λx=>other.getD x 0)))->Q (.ref r) H'
theorem yy6:y4 ["one","other"] ["one","other"] (z8 zr4):=scq
theorem yy1 (D:Def K mg "behind" zr4 ["one","other"] f fd)(B:Blt mg):u6 P w K mg base CX0 1 f fd ["one","other"] (Q9 K):=by
 refine D.F.ok yy6 (λvs H Q E h=>?_) (λcdv A outer s H vs Q E hr h=>?_)
 ·obtain⟨a,b,one,other,rfl,_⟩:=h
  rfl
 obtain⟨a,b,one,other,rfl,ha,hb,hl,hlt,q⟩:=h
 refine⟨_,z6 (y9 (t9 h8 rfl B.tuple c5 (z0 (c7 [1] ["place","other"] rfl (yb9 (pv 0)) (λ_ _ _ _=>d9 C1 (pv 1) (pv 0) (λ_ _=>rfl))) z4))),?_⟩
 refine⟨_,rfl,a,rfl,⟨_,ha⟩,zd2 ha (tI (one.map λx=>other.getD x 0)) (by rw[v0,v0,aa]) (by rw[v0];exact small hl) ?_ ?_⟩
 ·intro i H1 x hx s1 _ _ _ _
  obtain⟨p,hp,rfl⟩:=M6 hx
  have hpl:p<other.length:=hlt p (av hp)
  have hg:other[p]?=some other[p]:=ae hpl
  refine⟨_,rfl,_,rfl,b,_,_,_,rfl,rfl,s1.seqT hb,zk0 hg,y0.refl _,?_⟩
  rw[ye0,ah,hp]
  simp[ay,hg]
 ·intro Dl H1 hD s1 hl1
  exact⟨Dl,_,rfl,.inl ⟨SqL.of hl1,λl hl2=>q l _ (s1.free hl2) (p5 s1 (s1.free hl2) _) z3⟩⟩
def yd2 (K:W.Frag):Sp:=λvs H Q _=>∃(a:Addr) (n:Nat) (one:List Nat),vs=[.ref a]/\SqT K H a (tI one)/\TM.IsT n one/\n<=1000 /\
 ∀(r:Addr) (H':Hp) (b:List Nat),H r=none->y0 H H'->TM.Back n one n b->H' r=some (.tup (tI b))->Q (.ref r) H'
theorem zm3:y4 ["one","goes","place","to"] ["one"] (z8 yo5):=scq
theorem xk0 (D:Def K mg "back" yo5 ["one"] f fd)(B:Blt mg):u6 P w K mg base CX0 1 f fd ["one"] (yd2 K):=by
 refine D.F.ok zm3 (λvs H Q E h=>?_) (λcdv A outer s H vs Q E hr h=>?_)
 ·obtain⟨a,n,one,rfl,_⟩:=h
  rfl
 obtain⟨a,n,one,rfl,ha,hT,hn,q⟩:=h
 refine⟨_,z7 (y8 (i:=1) zm3.nd rfl (Or.inl rfl) (t9 P6 rfl B.list M4 (z0 (pv 0) z4)))
  (z7 (X7 PassesOwn.never rfl (yj2 rfl B.enumerate (z0 (pv 0) z4)) (zq8 rfl (W2 (n8 (i:=2) zm3.nd rfl (Or.inl rfl)) (W2 (n8 (i:=3) zm3.nd rfl (Or.inl rfl)) ze7)))
   (z6 (yo1 (pv 2) (xe8 (pv 1) (pv 3) yk1))))
  (z6 (y9 (t9 h8 rfl B.tuple c5 (z0 (pv 1) z4))))),?_⟩
 refine⟨_,rfl,a,tI one,rfl,.inr ha,λg hg=>?_⟩
 have s0:y0 H (upd H g (.lst (tI one))):=y2 hg _
 refine⟨_,rfl,a,rfl,⟨_,s0.seqT ha⟩,zd5 (xs:=tI one) (λi σ H2=>∃(b:List Nat) (v2 v3:Option V),σ=[some (.ref a),some (.ref g),v2,v3]/\y0 H H2/\H2 g=some (.lst (tI b))/\TM.Back n one i b)
  ⟨one,none,none,rfl,s0,z3,TM.Back.start hT.length⟩ (λi σ H2 _ ⟨_,_,_,_,s2,_⟩=>s2.seqT ha) ?_ ?_⟩
 ·rintro i x σ H2 T hx ⟨b,v2,v3,rfl,s2,hg2,bk⟩ hT2
  obtain⟨y,hy,rfl⟩:=M6 hx
  have hTg:g≠T:=z9 hg2 hT2
  have hyn:y<b.length:=by rw[bk.len];exact hT.get_lt hy
  refine⟨T,_,rfl,SqT.of z3,rfl,_,_,rfl,_,_,rfl,rfl,?_⟩
  refine⟨_,rfl,_,rfl,_,rfl,g,tI b,_,y,rfl,rfl,by rw[z5 hTg];exact hg2,by rw[v0];exact zz5 hyn,?_⟩
  refine⟨b.set y i,_,_,rfl,p5 (p5 s2 (s2.free hT2) _) hg _,by rw[z3,yp0],bk.step hT hy⟩
 ·rintro σ H2 ⟨b,v2,v3,rfl,s2,hg2,bk⟩
  rw[v0,hT.length]at bk
  exact⟨_,rfl,g,tI b,rfl,.inl ⟨SqL.of hg2,λl hl=>q l _ b (s2.free hl) (p5 s2 (s2.free hl) _) bk z3⟩⟩
structure p4 (K:W.Frag) (C:Addr) (xs:List Str):Prop where
 cls:Cls K C
 no:∀x∈xs,D3 K C x
def y1 (F:List Addr)(H H':Hp):Prop:=∀b o,b∉F->H b=some o->H' b=some o
theorem y1.refl {F:List Addr}{H:Hp}:y1 F H H:=λ_ _ _ h=>h
theorem y1.trans {F:List Addr}{H H1 H2:Hp}(a:y1 F H H1)(b:y1 F H1 H2):y1 F H H2:=λc o hc h=>b c o hc (a c o hc h)
theorem y0.frame {F:List Addr}{H H':Hp}(s:y0 H H'):y1 F H H':=λb o _ h=>s b o h
theorem y1.upd {F:List Addr}{H H':Hp}(s:y1 F H H'){a:Addr}(ha:a∈F)(o:HO):y1 F H (L2.upd H' a o):=λb u hb h=>by
 rw[z5 (λe=>hb (by rw[e];exact ha))]
 exact s b u hb h
theorem y1.more {F G:List Addr}{H H':Hp}(s:y1 F H H')(h:∀a∈F,a∈G):y1 G H H':=λb o hb e=>s b o (λz=>hb (h b z)) e
def kI (l:List (Nat×Nat)):List (Key×V):=l.map λx=>(Sum.inl (x.1:Int),V.int (x.2:Int))
theorem zb3 (l:List (Nat×Nat)):(kI l).length=l.length:=aa _
def atN {α:Type}(l:List (Nat×α))(k:Nat):Option α:=(l.find? λx=>decide (x.1=k)).map (·.2)
theorem Q6 (l:List (Nat×Nat))(k:Nat):L9 (kI l) (Sum.inl (k:Int))=(atN l k).map λx=>V.int x:=by
 induction l with
 | nil=>rfl
 | cons x r ih =>
  by_cases h:x.1=k
  ·have e:atN (x::r) k=some x.2:=by unfold atN;rw[cQ (by simpa using h)];rfl
   rw[e]
   exact N8 (p:=(Sum.inl (x.1:Int),V.int (x.2:Int))) (by show(Sum.inl (x.1:Int):Key)=Sum.inl (k:Int);rw[h])
  ·have e:atN (x::r) k=atN r k:=by unfold atN;rw[cU (by simpa using h)]
   rw[e,←ih]
   exact T4 (p:=(Sum.inl (x.1:Int),V.int (x.2:Int))) λz=>h (by have:=Sum.inl.inj z;lia)
structure StS where
 mv:List Nat
 to:List (Nat×Nat)
 wt:List (Nat×Nat)
 lk:Nat
structure ChS where
 ln:List TM.Ln
 md:List (List Nat)
 bl:List (Nat×Nat)
 st:List StS
 src:Nat->List Nat
structure StA where
 a:Addr
 m:Addr
 lt:Addr
 bf:Addr
 w:Addr
structure ChA where
 c:Addr
 b:Addr
 ll:Addr
 lm:Addr
 d:Addr
 l:Addr
 st:List StA
def StA.all (s:StA):List Addr:=[s.a,s.m,s.lt,s.bf,s.w]
def ChA.all (A:ChA):List Addr:=[A.c,A.b,A.ll,A.lm,A.d,A.l]++(A.st.map StA.all).flatten
structure T7 (cB:Addr) (H:Hp) (A:ChA) (S:ChS):Prop where
 b:∃dx,H A.b=some (.ins cB dx [("lines",.ref A.ll),("made",.ref A.lm),("back_lines",.ref A.d)])
 ll:∃as,H A.ll=some (.lst (as.map V.ref))/\zn1 H as S.ln
 lm:∃as,H A.lm=some (.lst (as.map V.ref))/\i7 H as S.md
 d:H A.d=some (.dK (kI S.bl))
 len:S.ln.length=S.md.length
theorem i7.upd {H:Hp}{as:List Addr}{ts:List (List Nat)}{a:Addr}{o:HO}(h:i7 H as ts)(ha:∀xs,H a≠some (.tup xs)):i7 (L2.upd H a o) as ts:=Paired.imp' (λb t e=>by
 rw[z5 (λz=>by subst z;exact ha _ e)];exact e) h
theorem zn1.upd {H:Hp}{as:List Addr}{ls:List TM.Ln}{a:Addr}{o:HO}(h:zn1 H as ls)(ha:∀xs,H a≠some (.tup xs)):zn1 (L2.upd H a o) as ls:=Paired.imp' (λb t e=>by
 rw[z5 (λz=>by subst z;exact ha _ e)];exact e) h
def ChS.put (S:ChS)(l:TM.Ln)(t:List Nat):ChS:={ S with ln:=S.ln++[l],md:=S.md++[t] }
def zd1:List Str:=["lines","made","back_lines"]
def yu1 (cB:Addr):Sp:=λvs H Q _=>∃(A:ChA) (S:ChS) (lr tr:Addr) (l:TM.Ln) (t:List Nat),vs=[.ref A.b,.ref lr,.ref tr]/\T7 cB H A S/\A.ll≠A.lm/\H lr=some (.tup (lnV l))/\H tr=some (.tup (tI t))/\S.ln.length<10000000 /\
 ∀H':Hp,y1 [A.ll,A.lm] H H'->T7 cB H' A (S.put l t)->Q (.int (S.ln.length:Int)) H'
theorem yj7:y4 ["self","line","turning"] ["self","line","turning"] (z8 zc0):=scq
theorem V1:10000000<fQ:=by decide
theorem yi1 {cB:Addr}(F:Fun K "put" "Book.put" zc0 f fd)(B:Blt mg)(cb:p4 K cB zd1):u6 P w K mg base CX0 1 f fd ["self","line","turning"] (yu1 cB):=by
 refine F.ok yj7 (λvs H Q E h=>?_) (λcdv Ar outer s H vs Q E hr h=>?_)
 ·obtain⟨A,S,lr,tr,l,t,rfl,_⟩:=h
  rfl
 obtain⟨A,S,lr,tr,l,t,rfl,bk,hne,hl,ht,hlen,q⟩:=h
 obtain⟨⟨dx,hb⟩,⟨las,hll,hln⟩,⟨mas,hlm,hmd⟩,hd,hlen2⟩:=bk
 have hz:=V1
 have nL:=cb.no "lines" (by decide)
 have nM:=cb.no "made" (by decide)
 refine⟨_,z7 (m7 (E7 PySem.F.plainAttrs_list PySem.F.slot_list_append PySem.F.type_list_append Y0 (y3 (pv 0) rfl) (z0 (pv 1) z4)))
  (z7 (m7 (E7 PySem.F.plainAttrs_list PySem.F.slot_list_append PySem.F.type_list_append Y0 (y3 (pv 0) rfl) (z0 (pv 2) z4)))
  (z6 (y9 (c0 yb5 (w8 p0 rfl B.len Z4 (z0 (y3 (pv 0) rfl) z4)) x9)))),?_⟩
 have las_l:las.length=S.ln.length:=Paired.length hln
 have mas_l:mas.length=S.md.length:=Paired.length hmd
 refine⟨_,rfl,A.b,cB,dx,_,_,rfl,hb,cb.cls,nL,rfl,.inl ⟨rfl,_,SqL.of hll⟩,_,rfl,A.ll,_,_,rfl,rfl,hll,by rw[aa];lia,?_⟩
 have b1:A.b≠A.ll:=k9 hb hll (by intro z;cases z)
 have e1:(upd H A.ll (.lst (las.map V.ref++[V.ref lr]))) A.b=some (.ins cB dx [("lines",.ref A.ll),("made",.ref A.lm),("back_lines",.ref A.d)]):=by rw[z5 b1];exact hb
 have e2:(upd H A.ll (.lst (las.map V.ref++[V.ref lr]))) A.lm=some (.lst (mas.map V.ref)):=by rw[z5 (Ne.symm hne)];exact hlm
 refine⟨_,rfl,A.b,cB,dx,_,_,rfl,e1,cb.cls,nM,rfl,.inl ⟨rfl,_,SqL.of e2⟩,_,rfl,A.lm,_,_,rfl,rfl,e2,by rw[aa];lia,?_⟩
 have b2:A.b≠A.lm:=k9 hb hlm (by intro z;cases z)
 have e3:(upd (upd H A.ll (.lst (las.map V.ref++[V.ref lr]))) A.lm (.lst (mas.map V.ref++[V.ref tr]))) A.b=some (.ins cB dx [("lines",.ref A.ll),("made",.ref A.lm),("back_lines",.ref A.d)]):=by rw[z5 b2];exact e1
 have e4:(upd (upd H A.ll (.lst (las.map V.ref++[V.ref lr]))) A.lm (.lst (mas.map V.ref++[V.ref tr]))) A.ll=some (.lst ((las++[lr]).map V.ref)):=by rw[z5 hne,z3,aG];rfl
 refine⟨_,rfl,A.b,cB,dx,_,_,rfl,e3,cb.cls,nL,rfl,A.ll,_,rfl,.inl (SqL.of e4),_,_,rfl,rfl,?_⟩
 have hv:((((las++[lr]).map V.ref).length:Nat):Int)-1=(S.ln.length:Int):=by
  rw[aa,aq,bB,las_l]
  lia
 show Q (.int _) _
 rw[hv]
 have nt1:∀xs,H A.ll≠some (.tup xs):=λxs z=>by rw[hll]at z;cases z
 have nt2:∀xs,(upd H A.ll (.lst (las.map V.ref++[V.ref lr]))) A.lm≠some (.tup xs):=λxs z=>by rw[e2]at z;cases z
 have d1:A.d≠A.ll:=k9 hd hll (by intro z;cases z)
 have d2:A.d≠A.lm:=k9 hd hlm (by intro z;cases z)
 refine q _ (y1.upd (y1.upd y1.refl (by simp) _) (by simp) _) ⟨⟨dx,e3⟩,⟨las++[lr],e4,?_⟩,⟨mas++[tr],by rw[z3,aG];rfl,?_⟩,by rw[z5 d2,z5 d1];exact hd,by show(S.ln++[l]).length=(S.md++[t]).length;rw[aq,aq,hlen2];rfl⟩
 ·refine Paired.snoc ((hln.upd nt1).upd nt2) ?_
  rw[z5 (k9 hl hlm (by intro z;cases z)),z5 (k9 hl hll (by intro z;cases z))]
  exact hl
 ·refine Paired.snoc ((hmd.upd nt1).upd nt2) ?_
  rw[z5 (k9 ht hlm (by intro z;cases z)),z5 (k9 ht hll (by intro z;cases z))]
  exact ht
theorem T7.same {cB:Addr}{H H':Hp}{A:ChA}{S:ChS}(h:T7 cB H A S)(s:y0 H H'):T7 cB H' A S :=
 ⟨h.b.imp λ_ e=>s _ _ e,h.ll.imp λ_ e=>⟨s _ _ e.1,e.2.same s⟩,h.lm.imp λ_ e=>⟨s _ _ e.1,e.2.same s⟩,s _ _ h.d,h.len⟩
def ChS.putB (S:ChS)(i j:Nat):Nat×ChS:=if i=0 then(j,S) else if j=0 then(i,S) else(S.ln.length,S.put (.behind i j) (TM.beh (S.md.getD i []) (S.md.getD j [])))
def xg5 (cB:Addr):Sp:=λvs H Q _=>∃(A:ChA) (S:ChS) (n i j:Nat),vs=[.ref A.b,.int i,.int j]/\T7 cB H A S/\A.ll≠A.lm/\i<S.md.length/\j<S.md.length/\(∀t∈S.md,TM.IsT n t)/\n<=60/\S.ln.length<10000000 /\
 ∀H':Hp,y1 [A.ll,A.lm] H H'->T7 cB H' A (S.putB i j).2->Q (.int ((S.putB i j).1:Int)) H'
theorem zc6:y4 ["self","one","other"] ["self","one","other"] (z8 U8):=scq
theorem W7 {α:Type}{l:List α}{i:Nat}(d:α)(h:i<l.length):l[i]?=some (l.getD i d):=by
 rw[ay,ae h];rfl
theorem zb5 {cB:Addr}(F:Fun K "put_behind" "Book.put_behind" U8 f fd)(B:Blt mg)(cb:p4 K cB zd1)(MP:l4 P w K mg base 1 cB "put" ["self","line","turning"] (yu1 cB))(KB:o7 P w K mg base 1 "behind" ["one","other"] (Q9 K))(GS:zt5 mg "STILL_LINE" (.int 0)):u6 P w K mg base CX0 2 f fd ["self","one","other"] (xg5 cB):=by
 refine F.ok zc6 (λvs H Q E h=>?_) (λcdv Ar outer s H vs Q E hr h=>?_)
 ·obtain⟨A,S,n,i,j,rfl,_⟩:=h
  rfl
 obtain⟨A,S,n,i,j,rfl,bk,hne,hi,hj,hT,hn,hlen,q⟩:=h
 refine⟨_,z7 (l8 (k8 zj2 (pv 1) (zj3 GS rfl) (n1 _)) (z6 (y9 (pv 2))) u8)
  (z7 (l8 (k8 zj2 (pv 2) (zj3 GS rfl) (n1 _)) (z6 (y9 (pv 1))) u8)
  (z6 (y9 (l7 cb.cls MP hr (pv 0) (z0 (J5 (z0 C8 (z0 (pv 1) (z0 (pv 2) z4)))) (z0 (q9 KB hr rfl (z0 (d9 l9 (y3 (pv 0) rfl) (pv 1) (λ_ _=>rfl)) (z0 (d9 l9 (y3 (pv 0) rfl) (pv 2) (λ_ _=>rfl)) z4))) z4)))))),?_⟩
 refine⟨_,rfl,rfl,_,rfl,yx1 (λc=>?_) (λc=>⟨_,rfl,rfl,_,rfl,yx1 (λc2=>?_) (λc2=>?_)⟩)⟩
 ·rw[U2]at c
  have e:i=0:=by have:=of_decide_eq_true c;lia
  have r:=q H y1.refl
  unfold ChS.putB at r
  rw[if_pos e]at r
  exact⟨_,rfl,r bk⟩
 ·rw[U2]at c c2
  have e:¬i=0:=by have:=of_decide_eq_false (cX.mpr c);lia
  have e2:j=0:=by have:=of_decide_eq_true c2;lia
  have r:=q H y1.refl
  unfold ChS.putB at r
  rw[if_neg e,if_pos e2]at r
  exact⟨_,rfl,r bk⟩
 ·rw[U2]at c c2
  have e:¬i=0:=by have:=of_decide_eq_false (cX.mpr c);lia
  have e2:¬j=0:=by have:=of_decide_eq_false (cX.mpr c2);lia
  unfold ChS.putB at q
  rw[if_neg e,if_neg e2]at q
  obtain⟨dx,hb⟩:=bk.b
  obtain⟨mas,hlm,hmd⟩:=bk.lm
  have hz:=V1
  refine⟨_,rfl,A.b,dx,_,rfl,hb,rfl,_,rfl,_,rfl,(by show 3<=fQ;lia),λlr hlr=>?_⟩
  have s1:=y2 hlr (.tup [V.str "behind",V.int i,V.int j])
  have el:(upd H lr (.tup [V.str "behind",V.int i,V.int j])) lr=some (.tup (lnV (.behind i j))):=z3
  generalize upd H lr (.tup [V.str "behind",V.int i,V.int j])=H1 at s1 el ⊢
  have ti:TM.IsT n (S.md.getD i []):=hT _ (av (W7 [] hi))
  have tj:TM.IsT n (S.md.getD j []):=hT _ (av (W7 [] hj))
  obtain⟨ai,hai,hti⟩:=g7 hmd i _ (W7 [] hi)
  obtain⟨aj,haj,htj⟩:=g7 hmd j _ (W7 [] hj)
  have gi:atI (mas.map V.ref) ((i:Nat):Int)=some (V.ref ai):=d0 (by rw[ah,hai];rfl)
  have gj:atI (mas.map V.ref) ((j:Nat):Int)=some (V.ref aj):=d0 (by rw[ah,haj];rfl)
  refine⟨_,rfl,A.b,cB,dx,_,_,rfl,s1 _ _ hb,cb.cls,cb.no "made" (by decide),rfl,_,rfl,A.lm,_,_,_,rfl,rfl,SqL.of (s1 _ _ hlm),gi,_,rfl,A.b,cB,dx,_,_,rfl,s1 _ _ hb,cb.cls,cb.no "made" (by decide),rfl,_,rfl,A.lm,_,_,_,rfl,rfl,SqL.of (s1 _ _ hlm),gj,ai,aj,_,_,rfl,SqT.of (s1 _ _ hti),SqT.of (s1 _ _ htj),by rw[ti.length];lia,λx hx=>?_,λtr H2 htr s2 ht2=>?_⟩
  ·rw[tj.length]
   exact ti.lt hx
  exact⟨A,S,lr,tr,.behind i j,_,rfl,bk.same (s1.trans s2),hne,s2 _ _ el,ht2,hlen,λH3 fr bk3=>q H3 (λb o hb' e=>fr b o hb' ((s1.trans s2) _ _ e)) bk3⟩
def ChS.putK (n:Nat)(S:ChS)(i:Nat):Nat×ChS:=match atN S.bl i with
 | some k=>(k,S)
 | none=>(S.ln.length,{ S.put (.back i) (TM.bk n (S.md.getD i [])) with bl:=S.bl++[(i,S.ln.length)] })
def xg6 (cB:Addr):Sp:=λvs H Q _=>∃(A:ChA) (S:ChS) (n i:Nat),vs=[.ref A.b,.int i]/\T7 cB H A S/\A.ll≠A.lm/\i<S.md.length/\(∀t∈S.md,TM.IsT n t)/\n<=60/\S.ln.length<10000000/\S.bl.length<10000000 /\
 ∀H':Hp,y1 [A.ll,A.lm,A.d] H H'->T7 cB H' A (S.putK n i).2->Q (.int ((S.putK n i).1:Int)) H'
theorem zh0:y4 ["self","one"] ["self","one"] (z8 W8):=scq
theorem ye2 {l:List (Nat×Nat)}{k:Nat}(h:atN l k=none):L9 (kI l) (Sum.inl (k:Int))=none:=by rw[Q6,h];rfl
theorem zr2 {l:List (Nat×Nat)}{k v:Nat}(h:atN l k=none):putK (kI l) (Sum.inl (k:Int)) (V.int v)=kI (l++[(k,v)]):=by
 have e:=ye2 h
 unfold putK
 rw[N7,e]
 show kI l++[(Sum.inl (k:Int),V.int v)]=kI (l++[(k,v)])
 unfold kI
 rw[aG]
 rfl
theorem zn4 {l:List (Nat×Nat)}{k v:Nat}(h:atN l k=none):atN (l++[(k,v)]) k=some v:=by
 have h':l.find? (λx=>decide (x.1=k))=none:=by
  unfold atN at h
  cases e:l.find? (λx=>decide (x.1=k)) with
  | none=>rfl
  | some x=>rw[e]at h;cases h
 unfold atN
 rw[dW,h']
 simp
theorem zg5 {cB:Addr}(F:Fun K "put_back" "Book.put_back" W8 f fd)(B:Blt mg)(cb:p4 K cB zd1)(MP:l4 P w K mg base 1 cB "put" ["self","line","turning"] (yu1 cB))(KB:o7 P w K mg base 1 "back" ["one"] (yd2 K)):u6 P w K mg base CX0 2 f fd ["self","one"] (xg6 cB):=by
 refine F.ok zh0 (λvs H Q E h=>?_) (λcdv Ar outer s H vs Q E hr h=>?_)
 ·obtain⟨A,S,n,i,rfl,_⟩:=h
  rfl
 obtain⟨A,S,n,i,rfl,bk,hne,hi,hT,hn,hlen,hbl,q⟩:=h
 have hu:(Ar.deeper (PyProof.Rows.envOfC "Book.put_back" (z8 W8) s.heap.objs.size f cdv)).units+1<cLine:=by have:=hr.units;lia
 refine⟨_,z7 (l8 (B0 (S9 hu (pv 1) (y3 (pv 0) rfl))) (z6 (J6 hu (y3 (pv 0) rfl) (pv 1) (l7 cb.cls MP hr (pv 0) (z0 (J5 (z0 C8 (z0 (pv 1) z4))) (z0 (q9 KB hr rfl (z0 (d9 l9 (y3 (pv 0) rfl) (pv 1) (λ_ _=>rfl)) z4)) z4))) rfl)) u8)
  (z6 (y9 (Y8 hu (y3 (pv 0) rfl) (pv 1) (λ_ _=>rfl)))),?_⟩
 obtain⟨dx,hb⟩:=bk.b
 obtain⟨mas,hlm,hmd⟩:=bk.lm
 have hz:=V1
 have nB:=cb.no "back_lines" (by decide)
 refine⟨_,rfl,_,rfl,A.b,cB,dx,_,_,rfl,hb,cb.cls,nB,rfl,A.d,_,rfl,Y2.k (k:=Sum.inl (i:Int)) bk.d,_,rfl,?_⟩
 rw[Q6]
 cases ea:atN S.bl i with
 | some k =>
  have e1:S.putK n i=(k,S):=by unfold ChS.putK;rw[ea]
  rw[e1]at q
  refine i9 ⟨_,rfl,A.b,cB,dx,_,_,rfl,hb,cb.cls,nB,rfl,_,rfl,A.d,V.int k,rfl,?_,q H y1.refl bk⟩
  have g:=Y2.k (k:=Sum.inl (i:Int)) bk.d
  rwa [Q6,ea]at g
 | none =>
  have e1:S.putK n i=(S.ln.length,{ S.put (.back i) (TM.bk n (S.md.getD i [])) with bl:=S.bl++[(i,S.ln.length)] }):=by unfold ChS.putK;rw[ea]
  rw[e1]at q
  refine Z1 ?_
  refine⟨_,rfl,A.b,dx,_,rfl,hb,rfl,_,rfl,(by show 2<=fQ;lia),λlr hlr=>?_⟩
  have s1:=y2 hlr (.tup [V.str "back",V.int i])
  have el:(upd H lr (.tup [V.str "back",V.int i])) lr=some (.tup (lnV (.back i))):=z3
  generalize upd H lr (.tup [V.str "back",V.int i])=H1 at s1 el ⊢
  have ti:TM.IsT n (S.md.getD i []):=hT _ (av (W7 [] hi))
  obtain⟨ai,hai,hti⟩:=g7 hmd i _ (W7 [] hi)
  have gi:atI (mas.map V.ref) ((i:Nat):Int)=some (V.ref ai):=d0 (by rw[ah,hai];rfl)
  refine⟨_,rfl,A.b,cB,dx,_,_,rfl,s1 _ _ hb,cb.cls,cb.no "made" (by decide),rfl,_,rfl,A.lm,_,_,_,rfl,rfl,SqL.of (s1 _ _ hlm),gi,ai,n,_,rfl,SqT.of (s1 _ _ hti),ti,by lia,λtr H2 bq htr s2 hbq ht2=>?_⟩
  have ebq:bq=TM.bk n (S.md.getD i []):=hbq.uniq ti (TM.bk_back ti)
  subst ebq
  refine⟨A,S,lr,tr,.back i,_,rfl,bk.same (s1.trans s2),hne,s2 _ _ el,ht2,hlen,λH3 fr bk3=>?_⟩
  obtain⟨dx3,hb3⟩:=bk3.b
  have hd3:H3 A.d=some (.dK (kI S.bl)):=bk3.d
  have kd:(kI S.bl).length<fQ:=by rw[zb3];lia
  refine⟨_,rfl,A.b,cB,dx3,_,_,rfl,hb3,cb.cls,nB,rfl,_,rfl,A.d,_,rfl,zn0.k (k:=Sum.inl (i:Int)) hd3 kd,?_⟩
  rw[zr2 ea]
  have b3:A.b≠A.d:=k9 hb3 hd3 (by intro z;cases z)
  have eb4:(upd H3 A.d (.dK (kI (S.bl++[(i,S.ln.length)])))) A.b=some (.ins cB dx3 [("lines",.ref A.ll),("made",.ref A.lm),("back_lines",.ref A.d)]):=by rw[z5 b3];exact hb3
  refine⟨_,rfl,A.b,cB,dx3,_,_,rfl,eb4,cb.cls,nB,rfl,_,rfl,A.d,V.int (S.ln.length:Int),rfl,?_,?_⟩
  ·have g:=Y2.k (k:=Sum.inl (i:Int)) (kvs:=kI (S.bl++[(i,S.ln.length)])) (H:=upd H3 A.d (.dK (kI (S.bl++[(i,S.ln.length)])))) z3
   rwa [Q6,zn4 ea]at g
  ·obtain⟨las3,hll3,hln3⟩:=bk3.ll
   obtain⟨mas3,hlm3,hmd3⟩:=bk3.lm
   have nt:∀xs,H3 A.d≠some (.tup xs):=λxs z=>by rw[hd3]at z;cases z
   refine q _ ?_ ⟨⟨dx3,eb4⟩,⟨las3,by rw[z5 (k9 hll3 hd3 (by intro z;cases z))];exact hll3,hln3.upd nt⟩,⟨mas3,by rw[z5 (k9 hlm3 hd3 (by intro z;cases z))];exact hlm3,hmd3.upd nt⟩,z3,bk3.len⟩
   exact y1.upd (y1.trans (y0.frame (s1.trans s2)) (fr.more (λa ha=>by simp at ha ⊢;rcases ha with h|h <;> simp[h]))) (by simp) _
theorem K2 {α β:Type}{F G:α->β->Prop}:∀{as:List α} {bs:List β},Paired F as bs->(∀a∈as,∀b,F a b->G a b)->Paired G as bs
 | _,_,.nil,_=>.nil
 | _,_,.cons f r,h=>.cons (h _ ax _ f) (K2 r λa ha b q=>h a (ao _ ha) b q)
theorem yw0 {K:PySem.W.Frag}{a:Addr}{xs:List V}{fr:List Nat}{te:CT TE}{σ:St}{H1:Hp}{Q:Addr->Hp->Prop}{α:Type}(g:α->HO)(ys:List α)(hS:SqL K H1 a xs)(hn:ys.length=xs.length)(hz:xs.length<=fQ)
  (turn:∀(i:Nat) H x y,xs[i]?=some x->ys[i]?=some y->y0 H1 H->∀C₀ s₀ H₀ fp,te C₀ s₀ H₀ fp (some x::fr.map λj=>(σ[j]?).getD none) H λv H4=>y0 H H4/\∃b,v=.ref b/\H b=none/\H4 b=some (g y))
  (fin:∀D H as,H1 D=none->y0 H1 H->H D=some (.lst (as.map V.ref))->Paired (λb y=>H b=some (g y)) as ys->(∀b∈as,H1 b=none)->Q D H) :
  ∀D,H1 D=none->∃W:Nat->Nat->St->Hp->Prop,(∃m,W 0 m (N5 1 fr σ) (upd H1 D (.lst [])))/\∀i m σ' H',W i m σ' H' ->
  ((Itl K a).stop i H'/\Q D H')∨((Itl K a).go i H'/\∀x H2,(Itl K a).yld i H' x H2->∀C₀ s₀ H₀ fp,U4 0 x σ' H2 λσ3 H3=>∃N:VK,te C₀ s₀ H₀ fp σ3 H3 N/\∀y H4,N y H4 ->
   ∃ys m',H4 D=some (.lst ys)/\ys.length<fQ/\m'<m/\W (i+1) m' σ3 (upd H4 D (.lst (ys++[y])))):=by
 intro D hD
 refine⟨λi m σ' H'=>m=xs.length-i/\i<=xs.length/\y0 H1 H'/\(∃as:List Addr,H' D=some (.lst (as.map V.ref))/\Paired (λb y=>H' b=some (g y)) as (ys.take i)/\(∀b∈as,b≠D)/\∀b∈as,H1 b=none)/\∃z,σ'=z::fr.map λj=>(σ[j]?).getD none,
  ⟨xs.length,rfl,aP _,y2 hD _,⟨[],z3,.nil,λ_ h=>(by cases h),λ_ h=>(by cases h)⟩,none,rfl⟩,?_⟩
 rintro i m σ' H' ⟨rfl,hi,sm,⟨as,hl,hP,hne,hnw⟩,z,rfl⟩
 by_cases hlt:i<xs.length
 ·refine .inr ⟨⟨xs,xs[i],sm.seq hS,by simp[hlt]⟩,λx H2 yl C₀ s₀ H₀ fp=>?_⟩
  obtain⟨e,hx⟩:=yl
  subst e
  have hxi:=hx xs (sm.seq hS)
  have hyi:ys[i]?=some ys[i]:=ae (by lia)
  refine⟨_,turn i _ x _ hxi hyi sm C₀ s₀ H₀ fp,λv H4 ⟨s4,b,hv,hb0,hG⟩=>?_⟩
  subst hv
  have hasl:as.length=i:=by rw[Paired.length hP,bI];lia
  have hD4:=s4 _ _ hl
  have hbD:b≠D:=Ne.symm (z9 hl hb0)
  refine⟨as.map V.ref,xs.length-(i+1),hD4,by rw[aa,hasl];lia,by lia,rfl,hlt,λc o e=>?_,⟨as++[b],by rw[z3,aG];rfl,?_,λc hc=>?_,λc hc=>?_⟩,_,rfl⟩
  ·rw[z5 (z9 e hD)]
   exact s4 _ _ (sm _ _ e)
  ·rw[bc,hyi]
   refine Paired.snoc (K2 hP λc hc y e=>by rw[z5 (hne c hc)];exact s4 _ _ e) ?_
   rw[z5 hbD]
   exact hG
  ·rcases aC.mp hc with w|w
   ·exact hne c w
   ·rw[af.mp w];exact hbD
  ·rcases aC.mp hc with w|w
   ·exact hnw c w
   ·rw[af.mp w];exact sm.free hb0
 ·have e:i=xs.length:=by lia
  subst e
  refine .inl ⟨⟨xs,sm.seq hS,ag _⟩,fin D H' as hD sm hl ?_ hnw⟩
  rw[bV (by lia)]at hP
  exact hP
theorem ym7 {J:It}{fr:List Nat}{te:CT TE}{σ:St}{H1:Hp}{Q:Addr->Hp->Prop}{α:Type}(g:α->HO)(ys:List α){n:Nat}(hn:ys.length=n)(hz:n<=fQ)
  (hstop:∀H,y0 H1 H->J.stop n H) (hgo:∀i H,i<n->y0 H1 H->J.go i H)
  (turn:∀(i:Nat) H x H2 y,i<n->y0 H1 H->J.yld i H x H2->ys[i]?=some y->H2=H/\∀C₀ s₀ H₀ fp,te C₀ s₀ H₀ fp (some x::fr.map λj=>(σ[j]?).getD none) H λv H4=>y0 H H4/\∃b,v=.ref b/\H b=none/\H4 b=some (g y))
  (fin:∀D H as,H1 D=none->y0 H1 H->H D=some (.lst (as.map V.ref))->Paired (λb y=>H b=some (g y)) as ys->(∀b∈as,H1 b=none)->(∀b∈as,b≠D)->Q D H) :
  ∀D,H1 D=none->∃W:Nat->Nat->St->Hp->Prop,(∃m,W 0 m (N5 1 fr σ) (upd H1 D (.lst [])))/\∀i m σ' H',W i m σ' H' ->
  (J.stop i H'/\Q D H')∨(J.go i H'/\∀x H2,J.yld i H' x H2->∀C₀ s₀ H₀ fp,U4 0 x σ' H2 λσ3 H3=>∃N:VK,te C₀ s₀ H₀ fp σ3 H3 N/\∀y H4,N y H4 ->
   ∃ys m',H4 D=some (.lst ys)/\ys.length<fQ/\m'<m/\W (i+1) m' σ3 (upd H4 D (.lst (ys++[y])))):=by
 intro D hD
 refine⟨λi m σ' H'=>m=n-i/\i<=n/\y0 H1 H'/\(∃as:List Addr,H' D=some (.lst (as.map V.ref))/\Paired (λb y=>H' b=some (g y)) as (ys.take i)/\(∀b∈as,b≠D)/\∀b∈as,H1 b=none)/\∃z,σ'=z::fr.map λj=>(σ[j]?).getD none,
  ⟨n,rfl,aP _,y2 hD _,⟨[],z3,.nil,λ_ h=>(by cases h),λ_ h=>(by cases h)⟩,none,rfl⟩,?_⟩
 rintro i m σ' H' ⟨rfl,hi,sm,⟨as,hl,hP,hne,hnw⟩,z,rfl⟩
 by_cases hlt:i<n
 ·refine .inr ⟨hgo i H' hlt sm,λx H2 yl C₀ s₀ H₀ fp=>?_⟩
  have hyi:ys[i]?=some ys[i]:=ae (by lia)
  obtain⟨e,tn⟩:=turn i H' x H2 _ hlt sm yl hyi
  subst e
  refine⟨_,tn C₀ s₀ H₀ fp,λv H4 ⟨s4,b,hv,hb0,hG⟩=>?_⟩
  subst hv
  have hasl:as.length=i:=by rw[Paired.length hP,bI];lia
  have hD4:=s4 _ _ hl
  have hbD:b≠D:=Ne.symm (z9 hl hb0)
  refine⟨as.map V.ref,n-(i+1),hD4,by rw[aa,hasl];lia,by lia,rfl,hlt,λc o e=>?_,⟨as++[b],by rw[z3,aG];rfl,?_,λc hc=>?_,λc hc=>?_⟩,_,rfl⟩
  ·rw[z5 (z9 e hD)]
   exact s4 _ _ (sm _ _ e)
  ·rw[bc,hyi]
   refine Paired.snoc (K2 hP λc hc y e=>by rw[z5 (hne c hc)];exact s4 _ _ e) ?_
   rw[z5 hbD]
   exact hG
  ·rcases aC.mp hc with w|w
   ·exact hne c w
   ·rw[af.mp w];exact hbD
  ·rcases aC.mp hc with w|w
   ·exact hnw c w
   ·rw[af.mp w];exact sm.free hb0
 ·have e:i=n:=by lia
  subst e
  refine .inl ⟨hstop H' sm,fin D H' as hD sm hl ?_ hnw hne⟩
  rw[bV (by lia)]at hP
  exact hP
abbrev zn2 (H:Hp) (ws:List Addr) (ps:List (Nat×Nat)):Prop:=Paired (λa (x:Nat×Nat)=>H a=some (.tup [.int (x.1:Int),.int (x.2:Int)])) ws ps
theorem zn2.same {H H':Hp}{ws:List Addr}{ps:List (Nat×Nat)}(h:zn2 H ws ps)(s:y0 H H'):zn2 H' ws ps:=Paired.imp' (λ_ _ e=>s _ _ e) h
theorem zn2.upd {H:Hp}{ws:List Addr}{ps:List (Nat×Nat)}{a:Addr}{o:HO}(h:zn2 H ws ps)(ha:∀xs,H a≠some (.tup xs)):zn2 (L2.upd H a o) ws ps:=Paired.imp' (λb t e=>by
 rw[z5 (λz=>by subst z;exact ha _ e)];exact e) h
theorem O3 {α β:Type}{F:α->β->Prop}:∀{as cs:List α} {bs ds:List β},Paired F as bs->Paired F cs ds->Paired F (as++cs) (bs++ds)
 | _,_,_,_,.nil,q=>q
 | _,_,_,_,.cons f r,q=>.cons f (O3 r q)
def kR (to:List (Nat×Nat))(bs:List Addr):List (Key×V):=(to.zip bs).map λp=>(Sum.inl (p.1.1:Int),V.ref p.2)
structure Z3 (cS:Addr) (n:Nat) (md:List (List Nat)) (H:Hp) (A:StA) (i:Nat) (s:StS):Prop where
 a:∃dx,H A.a=some (.ins cS dx [("place",.int i),("movers",.ref A.m),("line_to",.ref A.lt),("back_from",.ref A.bf),("waiting",.ref A.w),("looked_at",.int (s.lk:Int))])
 m:H A.m=some (.lst (tI s.mv))
 lt:H A.lt=some (.dK (kI s.to))
 bf:∃bs:List Addr,H A.bf=some (.dK (kR s.to bs))/\Paired (λ(x:Nat×Nat) b=>H b=some (.tup (tI (TM.bk n (md.getD x.2 []))))) s.to bs
 w:∃ws:List Addr,H A.w=some (.lst (ws.map V.ref))/\zn2 H ws s.wt
def K7:List Str:=["place","movers","line_to","back_from","waiting","looked_at"]
theorem zy1 {H H':Hp}{d:Addr}{o u:HO}(hd:H d=some u)(s:y0 (upd H d o) H'):y0 H (upd H' d u):=λb v h=>by
 by_cases e:b=d
 ·subst e
  rw[z3,←hd,h]
 ·rw[z5 e]
  exact s _ _ (by rw[z5 e];exact h)
def StS.putM (s:StS)(k:Nat):StS:={ s with mv:=s.mv++[k],wt:=s.wt++s.to.map λx=>(x.1,k) }
def yo7 (cS:Addr):Sp:=λvs H Q _=>∃(A:StA) (n:Nat) (md:List (List Nat)) (i k:Nat) (s:StS),vs=[.ref A.a,.int k]/\Z3 cS n md H A i s/\A.m≠A.w/\s.mv.length<1000000/\s.to.length<=1000000/\s.wt.length<=1000000 /\
 ∀H':Hp,y1 [A.m,A.w] H H'->Z3 cS n md H' A i (s.putM k)->Q .non H'
theorem zf4:y4 ["self","mover"] ["self","mover"] (z8 R8):=scq
theorem ze4 {cS:Addr}(F:Fun K "put_mover" "Step.put_mover" R8 f fd)(B:Blt mg)(cs:p4 K cS K7):u6 P w K mg base CX0 1 f fd ["self","mover"] (yo7 cS):=by
 refine F.ok zf4 (λvs H Q E h=>?_) (λcdv Ar outer s H vs Q E hr h=>?_)
 ·obtain⟨A,n,md,i,k,s,rfl,_⟩:=h
  rfl
 obtain⟨A,n,md,i,k,s,rfl,⟨⟨dx,ha⟩,hm,hlt,⟨bs,hbf,hbs⟩,⟨ws,hw,hws⟩⟩,hne,hml,htl,hwl,q⟩:=h
 have hz:=V1
 have hwsl:ws.length=s.wt.length:=Paired.length hws
 refine⟨_,z7 (m7 (E7 PySem.F.plainAttrs_list PySem.F.slot_list_append PySem.F.type_list_append Y0 (y3 (pv 0) rfl) (z0 (pv 1) z4)))
  (z6 (m7 (E7 PySem.F.plainAttrs_list PySem.F.slot_list_extend PySem.F.type_list_extend zx5 (y3 (pv 0) rfl) (z0 (ys2 (c7 [1] ["place","mover"] rfl (ys3 (y3 (pv 0) rfl)) (λ_ _ _ _=>J5 (z0 (pv 0) (z0 (pv 1) z4))))) z4)))),?_⟩
 refine⟨_,rfl,A.a,cS,dx,_,_,rfl,ha,cs.cls,cs.no "movers" (by decide),rfl,.inl ⟨rfl,_,SqL.of hm⟩,_,rfl,A.m,_,_,rfl,rfl,hm,by rw[v0];lia,?_⟩
 have am:A.a≠A.m:=k9 ha hm (by intro z;cases z)
 have lm:A.lt≠A.m:=k9 hlt hm (by intro z;cases z)
 have bm:A.bf≠A.m:=k9 hbf hm (by intro z;cases z)
 have nt1:∀xs,H A.m≠some (.tup xs):=λxs z=>by rw[hm]at z;cases z
 have ha1:(upd H A.m (.lst (tI s.mv++[V.int k]))) A.a=some (.ins cS dx [("place",.int i),("movers",.ref A.m),("line_to",.ref A.lt),("back_from",.ref A.bf),("waiting",.ref A.w),("looked_at",.int (s.lk:Int))]):=by rw[z5 am];exact ha
 have hm1:(upd H A.m (.lst (tI s.mv++[V.int k]))) A.m=some (.lst (tI (s.mv++[k]))):=by rw[z3,K8];rfl
 have hlt1:(upd H A.m (.lst (tI s.mv++[V.int k]))) A.lt=some (.dK (kI s.to)):=by rw[z5 lm];exact hlt
 have hbf1:(upd H A.m (.lst (tI s.mv++[V.int k]))) A.bf=some (.dK (kR s.to bs)):=by rw[z5 bm];exact hbf
 have hw1:(upd H A.m (.lst (tI s.mv++[V.int k]))) A.w=some (.lst (ws.map V.ref)):=by rw[z5 (Ne.symm hne)];exact hw
 have hws1:=zn2.upd (o:=.lst (tI s.mv++[V.int k])) hws nt1
 have hbs1:Paired (λ(x:Nat×Nat) b=>(upd H A.m (.lst (tI s.mv++[V.int k]))) b=some (.tup (tI (TM.bk n (md.getD x.2 []))))) s.to bs:=Paired.imp' (λx b e=>by rw[z5 (λz=>by subst z;exact nt1 _ e)];exact e) hbs
 have fr1:y1 [A.m,A.w] H (upd H A.m (.lst (tI s.mv++[V.int k]))):=y1.upd y1.refl (by simp) _
 generalize upd H A.m (.lst (tI s.mv++[V.int k]))=H1 at ha1 hm1 hlt1 hbf1 hw1 hws1 hbs1 fr1 ⊢
 refine⟨_,rfl,A.a,cS,dx,_,_,rfl,ha1,cs.cls,cs.no "waiting" (by decide),rfl,.inl ⟨rfl,_,SqL.of hw1⟩,?_⟩
 refine⟨A.lt,kI s.to,hlt1,_,rfl,A.a,cS,dx,_,_,rfl,ha1,cs.cls,cs.no "line_to" (by decide),rfl,A.lt,_,rfl,hlt1,λob=>?_⟩
 refine ym7 (λ(y:Nat×Nat)=>HO.tup [.int (y.1:Int),.int (y.2:Int)]) (s.to.map λx=>(x.1,k)) (n:=(kI s.to).length) (by rw[aa,zb3]) (by rw[zb3];lia) (λH2 s2=>⟨s2 _ _ z3,ag _⟩) (λj H2 hj s2=>⟨s2 _ _ z3,hj⟩) ?_ ?_
 ·rintro j H2 x H3 y hj s2 ⟨rfl,kk,vv,hk,rfl⟩ hy
  refine⟨rfl,λ_ _ _ _=>?_⟩
  rw[ah]at hy
  unfold kI at hk
  rw[ah]at hk
  cases e:s.to[j]? with
  | none=>rw[e]at hk;cases hk
  | some p =>
   rw[e]at hk hy
   cases hk
   cases hy
   exact⟨_,rfl,_,rfl,(by show 2<=fQ;lia),λr hr'=>⟨y2 hr' _,r,rfl,hr',z3⟩⟩
 ·intro Dl H2 as hD s2 hl2 hP hnw hnD
  have s3:=zy1 hlt1 s2
  have hDl:H1 Dl=none:=by
   cases e:H1 Dl with
   | none=>rfl
   | some u=>exact absurd hD (by rw[z5 (λz=>by subst z;rw[z3]at hD;cases hD),e];intro z;cases z)
  have dne:Dl≠A.lt:=λz=>by subst z;rw[hlt1]at hDl;cases hDl
  refine⟨⟨ob,s2 _ _ z3⟩,?_⟩
  have hl3:(upd H2 A.lt (.dK (kI s.to))) Dl=some (.lst (as.map V.ref)):=by rw[z5 dne];exact hl2
  have hP3:zn2 (upd H2 A.lt (.dK (kI s.to))) as (s.to.map λx=>(x.1,k)):=K2 hP λb hb y e=>by
   rw[z5 (λz=>by
    have:=hnw b hb
    rw[z,z3]at this
    cases this)]
   exact e
  generalize upd H2 A.lt (.dK (kI s.to))=H3 at s3 hl3 hP3 ⊢
  refine⟨A.w,Dl,_,_,rfl,rfl,s3 _ _ hw1,hl3,?_,?_⟩
  ·rw[aa,aa,hwsl,Paired.length hP3,aa]
   lia
  ·have wa:A.a≠A.w:=k9 ha1 hw1 (by intro z;cases z)
   have wm:A.m≠A.w:=hne
   have wl:A.lt≠A.w:=k9 hlt1 hw1 (by intro z;cases z)
   have wb:A.bf≠A.w:=k9 hbf1 hw1 (by intro z;cases z)
   have nt3:∀xs,H3 A.w≠some (.tup xs):=λxs z=>by rw[s3 _ _ hw1]at z;cases z
   refine q _ (y1.upd (y1.trans fr1 (y0.frame s3)) (by simp) _) ⟨⟨dx,by rw[z5 wa];exact s3 _ _ ha1⟩,by rw[z5 wm];exact s3 _ _ hm1,by rw[z5 wl];exact s3 _ _ hlt1,⟨bs,by rw[z5 wb];exact s3 _ _ hbf1,?_⟩,⟨ws++as,by rw[z3,aG],?_⟩⟩
   ·exact Paired.imp' (λx b e=>by
     have e':=s3 _ _ e
     rw[z5 (λz=>by subst z;exact nt3 _ e')];exact e') hbs1
   ·exact O3 ((hws1.same s3).upd nt3) (hP3.upd nt3)
def StS.putP (s:StS)(p k:Nat):StS:={ s with to:=s.to++[(p,k)],wt:=s.wt++s.mv.map λm=>(p,m) }
def xg7 (cS:Addr):Sp:=λvs H Q _=>∃(A:StA) (n:Nat) (md:List (List Nat)) (i p k:Nat) (s:StS) (tr:Addr) (t:List Nat),vs=[.ref A.a,.int p,.int k,.ref tr]/\Z3 cS n md H A i s/\H tr=some (.tup (tI t))/\md.getD k []=t/\TM.IsT n t/\n<=60/\atN s.to p=none/\A.m≠A.w/\A.lt≠A.bf/\s.mv.length<1000000/\s.to.length<1000000/\s.wt.length<=1000000 /\
 ∀H':Hp,y1 [A.lt,A.bf,A.w] H H'->Z3 cS n md H' A i (s.putP p k)->Q .non H'
theorem zf5:y4 ["self","place","line","turning"] ["self","place","line","turning"] (z8 X3):=scq
theorem xp4 {to:List (Nat×Nat)}{bs:List Addr}(h:to.length=bs.length):(kR to bs).length=to.length:=by
 unfold kR
 rw[aa,List.length_zip,←h,Nat.min_self]
theorem yv1:∀{to:List (Nat×Nat)} {bs:List Addr},to.length=bs.length->∀{p:Nat},atN to p=none->L9 (kR to bs) (Sum.inl (p:Int))=none
 | [],[],_,p,_=>rfl
 | x::to,b::bs,hl,p,h=>by
  have hx:¬x.1=p:=λe=>by unfold atN at h;rw[cQ (by simpa using e)]at h;cases h
  have h':atN to p=none:=by unfold atN at h ⊢;rwa [cU (by simpa using hx)]at h
  have e:kR (x::to) (b::bs)=(Sum.inl (x.1:Int),V.ref b)::kR to bs:=rfl
  rw[e,T4 (λz=>hx (by have:=Sum.inl.inj z;lia))]
  exact yv1 (by simpa using hl) h'
theorem xk8 {to:List (Nat×Nat)}{bs:List Addr}{p k:Nat}{r:Addr}(hl:to.length=bs.length)(h:atN to p=none):putK (kR to bs) (Sum.inl (p:Int)) (V.ref r)=kR (to++[(p,k)]) (bs++[r]):=by
 have e:=yv1 hl h
 unfold putK
 rw[N7,e]
 show kR to bs++[(Sum.inl (p:Int),V.ref r)]=_
 unfold kR
 rw[List.zip_append hl,aG]
 rfl
theorem yb7 {α β:Type}{F:α->β->Prop}{as:List α}{bs:List β}{a:α}{b:β}(h:Paired F as bs)(f:F a b):Paired F (as++[a]) (bs++[b]):=O3 h (.cons f .nil)
theorem ze5 {cS:Addr}(F:Fun K "put_place" "Step.put_place" X3 f fd)(B:Blt mg)(cs:p4 K cS K7)(KB:o7 P w K mg base 1 "back" ["one"] (yd2 K)):u6 P w K mg base CX0 2 f fd ["self","place","line","turning"] (xg7 cS):=by
 refine F.ok zf5 (λvs H Q E h=>?_) (λcdv Ar outer sh H vs Q E hr h=>?_)
 ·obtain⟨A,n,md,i,p,k,s,tr,t,rfl,_⟩:=h
  rfl
 obtain⟨A,n,md,i,p,k,s,tr,t,rfl,⟨⟨dx,ha⟩,hm,hlt,⟨bs,hbf,hbs⟩,⟨ws,hw,hws⟩⟩,htr,hmd,hT,hn,hp,hne,hne2,hml,htl,hwl,q⟩:=h
 have hz:=V1
 have hwsl:ws.length=s.wt.length:=Paired.length hws
 have hbsl:s.to.length=bs.length:=Paired.length hbs
 have hu:(Ar.deeper (PyProof.Rows.envOfC "Step.put_place" (z8 X3) sh.heap.objs.size f cdv)).units+1<cLine:=by have:=hr.units;lia
 refine⟨_,z7 (J6 hu (y3 (pv 0) rfl) (pv 1) (pv 2) rfl)
  (z7 (J6 hu (y3 (pv 0) rfl) (pv 1) (q9 KB hr rfl (z0 (pv 3) z4)) rfl)
  (z6 (m7 (E7 PySem.F.plainAttrs_list PySem.F.slot_list_extend PySem.F.type_list_extend zx5 (y3 (pv 0) rfl) (z0 (c7 [1] ["mover","place"] rfl (c9 (y3 (pv 0) rfl)) (λ_ _ _ _=>J5 (z0 (pv 1) (z0 (pv 0) z4)))) z4))))),?_⟩
 refine⟨_,rfl,_,rfl,A.a,cS,dx,_,_,rfl,ha,cs.cls,cs.no "line_to" (by decide),rfl,_,rfl,A.lt,_,rfl,zn0.k (k:=Sum.inl (p:Int)) hlt (by rw[zb3];lia),?_⟩
 rw[zr2 hp]
 have k1:∀{b:Addr} {o:HO},H b=some o->o≠.dK (kI s.to)->(upd H A.lt (.dK (kI (s.to++[(p,k)])))) b=some o:=λ{b o} h d=>by rw[z5 (k9 h hlt d)];exact h
 have ha1:=k1 ha (by intro z;cases z)
 have hm1:=k1 hm (by intro z;cases z)
 have htr1:=k1 htr (by intro z;cases z)
 have hw1:=k1 hw (by intro z;cases z)
 have hbf1:(upd H A.lt (.dK (kI (s.to++[(p,k)])))) A.bf=some (.dK (kR s.to bs)):=by rw[z5 (Ne.symm hne2)];exact hbf
 have hlt1:(upd H A.lt (.dK (kI (s.to++[(p,k)])))) A.lt=some (.dK (kI (s.to++[(p,k)]))):=z3
 have hws1:zn2 (upd H A.lt (.dK (kI (s.to++[(p,k)])))) ws s.wt:=Paired.imp' (λx b e=>k1 e (by intro z;cases z)) hws
 have hbs1:Paired (λ(x:Nat×Nat) b=>(upd H A.lt (.dK (kI (s.to++[(p,k)])))) b=some (.tup (tI (TM.bk n (md.getD x.2 []))))) s.to bs:=Paired.imp' (λx b e=>k1 e (by intro z;cases z)) hbs
 have fr1:y1 [A.lt,A.bf,A.w] H (upd H A.lt (.dK (kI (s.to++[(p,k)])))):=y1.upd y1.refl (by simp) _
 clear k1
 generalize upd H A.lt (.dK (kI (s.to++[(p,k)])))=H1 at ha1 hm1 htr1 hw1 hbf1 hlt1 hws1 hbs1 fr1 ⊢
 refine⟨_,rfl,tr,n,t,rfl,SqT.of htr1,hT,by lia,λr H2 b hr2 s2 hb hrr=>?_⟩
 have eb:b=TM.bk n t:=hb.uniq hT (TM.bk_back hT)
 subst eb
 have hbf2:=s2 _ _ hbf1
 refine⟨_,rfl,A.a,cS,dx,_,_,rfl,s2 _ _ ha1,cs.cls,cs.no "back_from" (by decide),rfl,_,rfl,A.bf,_,rfl,zn0.k (k:=Sum.inl (p:Int)) hbf2 (by rw[xp4 hbsl];lia),?_⟩
 rw[xk8 (k:=k) hbsl hp]
 have k2:∀{b:Addr} {o:HO},H1 b=some o->b≠A.bf->(upd H2 A.bf (.dK (kR (s.to++[(p,k)]) (bs++[r])))) b=some o:=λ{b o} h d=>by rw[z5 d];exact s2 _ _ h
 have nbf:∀{b:Addr} {o:HO},H1 b=some o->o≠.dK (kR s.to bs)->b≠A.bf:=λ{b o} h d=>k9 h hbf1 d
 have ha3:=k2 ha1 (nbf ha1 (by intro z;cases z))
 have hm3:=k2 hm1 (nbf hm1 (by intro z;cases z))
 have hw3:=k2 hw1 (nbf hw1 (by intro z;cases z))
 have hlt3:=k2 hlt1 hne2
 have hbf3:(upd H2 A.bf (.dK (kR (s.to++[(p,k)]) (bs++[r])))) A.bf=some (.dK (kR (s.to++[(p,k)]) (bs++[r]))):=z3
 have hws3:zn2 (upd H2 A.bf (.dK (kR (s.to++[(p,k)]) (bs++[r])))) ws s.wt:=Paired.imp' (λx b e=>k2 e (nbf e (by intro z;cases z))) hws1
 have hr3:(upd H2 A.bf (.dK (kR (s.to++[(p,k)]) (bs++[r])))) r=some (.tup (tI (TM.bk n t))):=by rw[z5 (k9 hrr hbf2 (by intro z;cases z))];exact hrr
 have hbs3:Paired (λ(x:Nat×Nat) b=>(upd H2 A.bf (.dK (kR (s.to++[(p,k)]) (bs++[r])))) b=some (.tup (tI (TM.bk n (md.getD x.2 []))))) (s.to++[(p,k)]) (bs++[r]) :=
  yb7 (Paired.imp' (λx b e=>k2 e (nbf e (by intro z;cases z))) hbs1) (by show _=some (HO.tup (tI (TM.bk n (md.getD k []))));rw[hmd];exact hr3)
 have fr3:y1 [A.lt,A.bf,A.w] H (upd H2 A.bf (.dK (kR (s.to++[(p,k)]) (bs++[r])))):=y1.upd (y1.trans fr1 (y0.frame s2)) (by simp) _
 clear k2 nbf
 generalize upd H2 A.bf (.dK (kR (s.to++[(p,k)]) (bs++[r])))=H3 at ha3 hm3 hw3 hlt3 hbf3 hws3 hr3 hbs3 fr3 ⊢
 refine⟨_,rfl,A.a,cS,dx,_,_,rfl,ha3,cs.cls,cs.no "waiting" (by decide),rfl,.inl ⟨rfl,_,SqL.of hw3⟩,?_⟩
 refine⟨_,rfl,A.a,cS,dx,_,_,rfl,ha3,cs.cls,cs.no "movers" (by decide),rfl,A.m,rfl,⟨_,SqL.of hm3⟩,?_⟩
 refine yw0 (λ(y:Nat×Nat)=>HO.tup [.int (y.1:Int),.int (y.2:Int)]) (s.mv.map λm=>(p,m)) (SqL.of hm3) (by rw[aa,v0]) (by rw[v0];lia) ?_ ?_
 ·intro j H4 x y hx hy s4 _ _ _ _
  obtain⟨m,hm',rfl⟩:=M6 hx
  rw[ah,hm']at hy
  cases hy
  exact⟨_,rfl,_,rfl,(by show 2<=fQ;lia),λr' hr'=>⟨y2 hr' _,r',rfl,hr',z3⟩⟩
 ·intro Dl H4 as hD s4 hl4 hP4 hnw
  refine⟨A.w,Dl,_,_,rfl,rfl,s4 _ _ hw3,hl4,?_,?_⟩
  ·rw[aa,aa,hwsl,Paired.length hP4,aa]
   lia
  ·have hw4:=s4 _ _ hw3
   have k4:∀{b:Addr} {o:HO},H4 b=some o->b≠A.w->(upd H4 A.w (.lst (ws.map V.ref++as.map V.ref))) b=some o:=λ{b o} h d=>by rw[z5 d];exact h
   have nw:∀{b:Addr} {o:HO},H4 b=some o->o≠.lst (ws.map V.ref)->b≠A.w:=λ{b o} h d=>k9 h hw4 d
   refine q _ (y1.upd (y1.trans fr3 (y0.frame s4)) (by simp) _) ⟨⟨dx,k4 (s4 _ _ ha3) (nw (s4 _ _ ha3) (by intro z;cases z))⟩,k4 (s4 _ _ hm3) hne,k4 (s4 _ _ hlt3) (nw (s4 _ _ hlt3) (by intro z;cases z)),⟨bs++[r],k4 (s4 _ _ hbf3) (nw (s4 _ _ hbf3) (by intro z;cases z)),Paired.imp' (λx b e=>k4 (s4 _ _ e) (nw (s4 _ _ e) (by intro z;cases z))) hbs3⟩,⟨ws++as,by rw[z3,aG],?_⟩⟩
   exact O3 (Paired.imp' (λx b e=>k4 (s4 _ _ e) (nw (s4 _ _ e) (by intro z;cases z))) hws3) (Paired.imp' (λx b e=>k4 e (nw e (by intro z;cases z))) hP4)
def xg4 (cS:Addr):Sp:=λvs H Q _=>∃(A:StA) (n:Nat) (md:List (List Nat)) (i:Nat) (s:StS),vs=[.ref A.a]/\Z3 cS n md H A i s/\s.lk<=s.wt.length/\s.wt.length<=1000000 /\
 (s.lk=s.wt.length->Q .non H)/\∀(x:Nat×Nat) (r:Addr) (H':Hp),s.wt[s.lk]?=some x->H' r=some (.tup [.int (x.1:Int),.int (x.2:Int)])->y1 [A.a] H H'->Z3 cS n md H' A i { s with lk:=s.lk+1 }->Q (.ref r) H'
theorem zf3:y4 ["self"] ["self"] (z8 R7):=scq
theorem ze3 {cS:Addr}(F:Fun K "next_pair" "Step.next_pair" R7 f fd)(B:Blt mg)(cs:p4 K cS K7):u6 P w K mg base CX0 1 f fd ["self"] (xg4 cS):=by
 refine F.ok zf3 (λvs H Q E h=>?_) (λcdv Ar outer s H vs Q E hr h=>?_)
 ·obtain⟨A,n,md,i,s,rfl,_⟩:=h
  rfl
 obtain⟨A,n,md,i,s,rfl,st,hlk,hwl,q1,q2⟩:=h
 obtain⟨⟨dx,ha⟩,hm,hlt,⟨bs,hbf,hbs⟩,⟨ws,hw,hws⟩⟩:=id st
 have hz:=V1
 have hwsl:ws.length=s.wt.length:=Paired.length hws
 refine⟨_,z7 (l8 (k8 zj2 (y3 (pv 0) rfl) (w8 p0 rfl B.len Z4 (z0 (y3 (pv 0) rfl) z4)) (n1 _)) (z6 (y9 yn9)) u8)
  (z7 (yy3 (pv 0) x9 xj2)
  (z6 (y9 (d9 l9 (y3 (pv 0) rfl) (c0 yb5 (y3 (pv 0) rfl) x9) (λ_ _=>rfl))))),?_⟩
 refine⟨_,rfl,A.a,cS,dx,_,_,rfl,ha,cs.cls,cs.no "looked_at" (by decide),rfl,_,rfl,A.a,cS,dx,_,_,rfl,ha,cs.cls,cs.no "waiting" (by decide),rfl,A.w,_,rfl,.inl (SqL.of hw),rfl,_,rfl,yx1 (λc=>?_) (λc=>?_)⟩
 ·rw[U2,aa,hwsl]at c
  exact q1 (by have:=of_decide_eq_true c;lia)
 ·rw[U2,aa,hwsl]at c
  have hlt':s.lk<s.wt.length:=by have:=of_decide_eq_false (cX.mpr c);lia
  refine⟨_,rfl,A.a,cS,dx,_,_,rfl,ha,cs.cls,cs.no "looked_at" (by decide),rfl,_,_,rfl,rfl,dx,_,ha,(by show 6<1000;decide),?_⟩
  have e1:(upd H A.a (.ins cS dx (Y9 "looked_at" (V.int ((s.lk:Int)+1)) [("place",.int i),("movers",.ref A.m),("line_to",.ref A.lt),("back_from",.ref A.bf),("waiting",.ref A.w),("looked_at",.int (s.lk:Int))]))) A.a=some (.ins cS dx [("place",.int i),("movers",.ref A.m),("line_to",.ref A.lt),("back_from",.ref A.bf),("waiting",.ref A.w),("looked_at",.int ((s.lk+1:Nat):Int))]):=by
   rw[z3,show((s.lk+1:Nat):Int)=(s.lk:Int)+1 by lia]
   rfl
  have fr:y1 [A.a] H (upd H A.a (.ins cS dx (Y9 "looked_at" (V.int ((s.lk:Int)+1)) [("place",.int i),("movers",.ref A.m),("line_to",.ref A.lt),("back_from",.ref A.bf),("waiting",.ref A.w),("looked_at",.int (s.lk:Int))]))):=y1.upd y1.refl (by simp) _
  generalize upd H A.a (.ins cS dx (Y9 "looked_at" (V.int ((s.lk:Int)+1)) [("place",.int i),("movers",.ref A.m),("line_to",.ref A.lt),("back_from",.ref A.bf),("waiting",.ref A.w),("looked_at",.int (s.lk:Int))]))=H1 at e1 fr ⊢
  have k:∀{b:Addr} {o:HO},H b=some o->o≠.ins cS dx [("place",.int i),("movers",.ref A.m),("line_to",.ref A.lt),("back_from",.ref A.bf),("waiting",.ref A.w),("looked_at",.int (s.lk:Int))]->H1 b=some o:=λ{b o} h d=>fr b o (by simpa using k9 h ha d) h
  have hx:s.wt[s.lk]?=some s.wt[s.lk]:=ae hlt'
  obtain⟨r,hr1,hr2⟩:=g7 hws s.lk _ hx
  have hw1:=k hw (by intro z;cases z)
  have gi:atI (ws.map V.ref) ((s.lk:Nat):Int)=some (V.ref r):=d0 (by rw[ah,hr1];rfl)
  refine⟨_,rfl,A.a,cS,dx,_,_,rfl,e1,cs.cls,cs.no "waiting" (by decide),rfl,_,rfl,A.a,cS,dx,_,_,rfl,e1,cs.cls,cs.no "looked_at" (by decide),rfl,_,_,rfl,rfl,A.w,_,_,_,rfl,rfl,SqL.of hw1,?_,q2 _ r H1 hx (k hr2 (by intro z;cases z)) fr ⟨⟨dx,e1⟩,k hm (by intro z;cases z),k hlt (by intro z;cases z),⟨bs,k hbf (by intro z;cases z),Paired.imp' (λx b e=>k e (by intro z;cases z)) hbs⟩,⟨ws,hw1,Paired.imp' (λx b e=>k e (by intro z;cases z)) hws⟩⟩⟩
  rw[show((s.lk+1:Nat):Int)-1=((s.lk:Nat):Int) by lia]
  exact gi
structure u0 (cC cB cS:Addr) (n:Nat) (H:Hp) (A:ChA) (S:ChS):Prop where
 nd:A.all.Nodup
 c:∃dx,H A.c=some (.ins cC dx [("book",.ref A.b),("steps",.ref A.l)])
 bk:T7 cB H A S
 l:H A.l=some (.lst (A.st.map λs=>V.ref s.a))
 len:A.st.length=n/\S.st.length=n
 st:∀i a s,A.st[i]?=some a->S.st[i]?=some s->Z3 cS n S.md H a i s
def Y4:List Str:=["book","steps"]
theorem Z3.same {cS:Addr}{n:Nat}{md:List (List Nat)}{H H':Hp}{A:StA}{i:Nat}{s:StS}(h:Z3 cS n md H A i s)(k:y0 H H'):Z3 cS n md H' A i s :=
 ⟨h.a.imp λ_ e=>k _ _ e,k _ _ h.m,k _ _ h.lt,h.bf.imp λ_ e=>⟨k _ _ e.1,Paired.imp' (λ_ _ z=>k _ _ z) e.2⟩,h.w.imp λ_ e=>⟨k _ _ e.1,e.2.same k⟩⟩
theorem u0.same {cC cB cS:Addr}{n:Nat}{H H':Hp}{A:ChA}{S:ChS}(h:u0 cC cB cS n H A S)(k:y0 H H'):u0 cC cB cS n H' A S :=
 ⟨h.nd,h.c.imp λ_ e=>k _ _ e,h.bk.same k,k _ _ h.l,h.len,λi a s ha hs=>(h.st i a s ha hs).same k⟩
def K5 (n:Nat)(md:List (List Nat)):List StS->Nat->List Nat->List Nat->Option (List Nat)
 | [],_,_,acc=>some acc
 | s::r,j,x,acc=>match atN s.to (x.getD j 0) with
  | none=>none
  | some k=>if x.getD j 0=j then K5 n md r (j+1) x acc else K5 n md r (j+1) (TM.beh x (TM.bk n (md.getD k []))) (acc++[k])
structure ChS.Well (n:Nat) (S:ChS):Prop where
 md:∀t∈S.md,TM.IsT n t
 to:∀s∈S.st,∀x∈s.to,x.1<n/\x.2<S.md.length
 mv:∀s∈S.st,∀k∈s.mv,k<S.md.length
theorem R9 {α:Type}{l:List (Nat×α)}{p:Nat}{k:α}(h:atN l p=some k):(p,k)∈l:=by
 unfold atN at h
 cases e:l.find? (λx=>decide (x.1=p)) with
 | none=>rw[e]at h;cases h
 | some x =>
  rw[e]at h
  have h1:=List.find?_some e
  have h2:=List.mem_of_find?_eq_some e
  have e1:x.1=p:=by simpa using h1
  have e2:x.2=k:=by simpa using h
  rw[←e1,←e2]
  exact h2
theorem ChS.Well.at {n:Nat}{S:ChS}(h:S.Well n){k:Nat}(hk:k<S.md.length):TM.IsT n (S.md.getD k []):=h.md _ (av (W7 [] hk))
theorem E6 {F:Nat×Nat->Addr->Prop}:∀{to:List (Nat×Nat)} {bs:List Addr},Paired F to bs->∀{p k:Nat},atN to p=some k->∃b,L9 (kR to bs) (Sum.inl (p:Int))=some (V.ref b)/\F (p,k) b
 | _,_,.nil,p,k,h=>by cases h
 | x::to,b::bs,.cons f r,p,k,h=>by
  by_cases hx:x.1=p
  ·have e:atN (x::to) p=some x.2:=by unfold atN;rw[cQ (by simpa using hx)];rfl
   rw[e]at h
   have hk:x.2=k:=Option.some.inj h
   refine⟨b,N8 (p:=(Sum.inl (x.1:Int),V.ref b)) (by show(Sum.inl (x.1:Int):Key)=_;rw[hx]),?_⟩
   rw[←hx,←hk]
   exact f
  ·have e:atN (x::to) p=atN to p:=by unfold atN;rw[cU (by simpa using hx)]
   rw[e]at h
   obtain⟨b',h1,h2⟩:=E6 r h
   refine⟨b',?_,h2⟩
   rw[←h1]
   exact T4 (p:=(Sum.inl (x.1:Int),V.ref b)) λz=>hx (by have:=Sum.inl.inj z;lia)
def yo8 (cC cB cS:Addr):Sp:=λvs H Q _=>∃(A:ChA) (S:ChS) (n lv:Nat) (tr:Addr) (x:List Nat),vs=[.ref A.c,.ref tr,.int lv]/\u0 cC cB cS n H A S/\S.Well n/\H tr=some (.tup (tI x))/\TM.IsT n x/\lv<=n/\n<=60 /\
 (K5 n S.md (S.st.drop lv) lv x []=none->∀H':Hp,y0 H H'->Q .non H')/\∀(ls:List Nat) (r:Addr) (H':Hp),K5 n S.md (S.st.drop lv) lv x []=some ls->H r=none->y0 H H'->H' r=some (.lst (tI ls))->Q (.ref r) H'
theorem c4:y4 ["self","turning","level","lines","here","step","to"] ["self","turning","level"] (z8 T0):=scq
theorem yf7 {xs:List V}{k:Nat}(hk:k<=xs.length):za1 xs (some (k:Int)) none=xs.drop k:=by
 unfold za1
 rw[HT.sIx_none,HT.sIx_nat,eD hk,bV (by rw[bE];exact ag _)]
theorem zk4 {cC cB cS:Addr}(F:Fun K "sifted" "Chain.sifted" T0 f fd)(B:Blt mg)(cc:p4 K cC Y4)(cs:p4 K cS K7)(KB:o7 P w K mg base 1 "behind" ["one","other"] (Q9 K)):u6 P w K mg base CX0 2 f fd ["self","turning","level"] (yo8 cC cB cS):=by
 refine F.ok c4 (λvs H Q E h=>?_) (λcdv Ar outer sh H vs Q E hr h=>?_)
 ·obtain⟨A,S,n,lv,tr,x,rfl,_⟩:=h
  rfl
 obtain⟨A,S,n,lv,tr,x,rfl,ch,wl,htr,hx,hlv,hn,q1,q2⟩:=h
 have hz:=V1
 have hu:(Ar.deeper (PyProof.Rows.envOfC "Chain.sifted" (z8 T0) sh.heap.objs.size f cdv)).units+1<cLine:=by have:=hr.units;lia
 obtain⟨dx,hc⟩:=ch.c
 refine⟨_,z7 (y8 (i:=3) c4.nd rfl (Or.inl rfl) (U7 z4))
  (z7 (y8 (i:=4) c4.nd rfl (Or.inl rfl) (pv 1))
  (z7 (X7 PassesOwn.never rfl (c9 (O4 A8 (y3 (pv 0) rfl) (P9 (pv 2)) ze8)) (n8 (i:=5) c4.nd rfl (Or.inl rfl))
   (z7 (y8 (i:=6) c4.nd rfl (Or.inl rfl) (d9 C1 (pv 4) (y3 (pv 5) rfl) (λ_ _=>rfl)))
   (z7 (l8 (B0 (S9 hu (pv 6) (y3 (pv 5) rfl))) (z6 (y9 yn9)) u8)
   (z6 (l8 (k8 yi9 (pv 6) (y3 (pv 5) rfl) (n1 _))
    (z7 (m7 (E7 PySem.F.plainAttrs_list PySem.F.slot_list_append PySem.F.type_list_append Y0 (pv 3) (z0 (Y8 hu (y3 (pv 5) rfl) (pv 6) (λ_ _=>rfl)) z4)))
    (z6 (y8 (i:=4) c4.nd rfl (Or.inl rfl) (q9 KB hr rfl (z0 (pv 4) (z0 (Y8 hu (y3 (pv 5) rfl) (pv 6) (λ_ _=>rfl)) z4)))))) u8)))))
  (z6 (y9 (pv 3))))),?_⟩
 refine⟨(by show 0<=fQ;lia),λl hl=>?_⟩
 have s0:=y2 hl (.lst [])
 have el:(upd H l (.lst [])) l=some (.lst (tI [])):=z3
 generalize upd H l (.lst [])=H1 at s0 el ⊢
 have hstl:(A.st.map λs=>V.ref s.a).length=n:=by rw[aa];exact ch.len.1
 refine⟨_,rfl,_,rfl,A.c,cC,dx,_,_,rfl,s0 _ _ hc,cc.cls,cc.no "steps" (by decide),rfl,_,rfl,_,rfl,A.l,_,rfl,SqL.of (s0 _ _ ch.l),λp hp=>?_⟩
 rw[yf7 (by rw[hstl];exact hlv)]
 have s1:=s0.trans (y2 hp (.lst ((A.st.map λs=>V.ref s.a).drop lv)))
 have ep:(upd H1 p (.lst ((A.st.map λs=>V.ref s.a).drop lv))) p=some (.lst ((A.st.map λs=>V.ref s.a).drop lv)):=z3
 have el1:=y2 hp (.lst ((A.st.map λs=>V.ref s.a).drop lv)) _ _ el
 generalize upd H1 p (.lst ((A.st.map λs=>V.ref s.a).drop lv))=H2 at s1 ep el1 ⊢
 have hpl:p≠l:=λz=>by
  subst z
  rw[el]at hp
  cases hp
 have hplace:∀j,j<n->∃a s,A.st[j]?=some a/\S.st[j]?=some s:=λj hj=>⟨_,_,ae (by rw[ch.len.1];exact hj),ae (by rw[ch.len.2];exact hj)⟩
 refine⟨p,rfl,⟨_,SqL.of ep⟩,W1 (xs:=(A.st.map λs=>V.ref s.a).drop lv) (λi σ Hh=>∃(ls:List Nat) (ha:Addr) (y:List Nat) (v5 v6:Option V),σ=[some (.ref A.c),some (.ref tr),some (.int lv),some (.ref l),some (.ref ha),v5,v6]/\y0 H Hh/\Hh p=some (.lst ((A.st.map λs=>V.ref s.a).drop lv))/\Hh l=some (.lst (tI ls))/\Hh ha=some (.tup (tI y))/\TM.IsT n y/\K5 n S.md (S.st.drop (lv+i)) (lv+i) y ls=K5 n S.md (S.st.drop lv) lv x []/\ls.length<=i)
  ⟨[],tr,x,none,none,rfl,s1,ep,el1,s1 _ _ htr,hx,rfl,ag _⟩ (λi σ Hh _ ⟨_,_,_,_,_,_,_,hpp,_⟩=>SqL.of hpp) ?_ ?_⟩
 ·rintro i v σ Hh hv ⟨ls,ha,y,v5,v6,rfl,ss,hpp,hll,hha,hy,hsf,hls⟩
  rw[dv,ah]at hv
  have hj:lv+i<n:=by
   cases e:A.st[lv+i]? with
   | none=>rw[e]at hv;cases hv
   | some a=>have:=(al.mp e).1;rwa [ch.len.1]at this
  obtain⟨a,s,hA,hs⟩:=hplace (lv+i) hj
  rw[hA]at hv
  cases hv
  have st:=(ch.st _ _ _ hA hs).same ss
  obtain⟨dxs,hsa⟩:=st.a
  obtain⟨bs,hbf,hbs⟩:=st.bf
  have hsm:s∈S.st:=av hs
  have hdrop:S.st.drop (lv+i)=s::S.st.drop (lv+i+1):=by
   have:=dz (l:=S.st) (i:=lv+i) (by rw[ch.len.2];exact hj)
   rw[this]
   congr 1
   exact Option.some.inj ((ae (by rw[ch.len.2];exact hj)).symm.trans hs)
  rw[hdrop,K5]at hsf
  refine⟨_,rfl,_,rfl,a.a,cS,dxs,_,_,rfl,hsa,cs.cls,cs.no "place" (by decide),rfl,ha,_,_,_,rfl,rfl,SqT.of hha,zk0 (hy.get_step hj),?_⟩
  refine⟨_,rfl,_,rfl,a.a,cS,dxs,_,_,rfl,hsa,cs.cls,cs.no "line_to" (by decide),rfl,a.lt,_,rfl,Y2.k (k:=Sum.inl ((y.getD (lv+i) 0:Nat):Int)) st.lt,_,rfl,?_⟩
  rw[Q6]
  cases ea:atN s.to (y.getD (lv+i) 0) with
  | none =>
   rw[ea]at hsf
   refine Z1 ?_
   exact q1 hsf.symm Hh ss
  | some k =>
   rw[ea]at hsf
   dsimp only at hsf
   refine i9 ?_
   have hk:k<S.md.length:=(wl.to s hsm _ (R9 ea)).2
   have hkT:=wl.at hk
   refine⟨_,rfl,_,rfl,a.a,cS,dxs,_,_,rfl,hsa,cs.cls,cs.no "place" (by decide),rfl,rfl,_,rfl,?_⟩
   rw[U2]
   by_cases hto:y.getD (lv+i) 0=lv+i
   ·rw[decide_eq_true (by rw[hto])]
    rw[if_pos hto]at hsf
    exact i9 ⟨ls,ha,y,_,_,rfl,ss,hpp,hll,hha,hy,hsf,by lia⟩
   ·rw[decide_eq_false (by lia)]
    rw[if_neg hto]at hsf
    refine Z1 ?_
    have g1:Y2 Hh a.lt (kV (Sum.inl ((y.getD (lv+i) 0:Nat):Int))) (some (V.int k)):=by
     have g:=Y2.k (k:=Sum.inl ((y.getD (lv+i) 0:Nat):Int)) st.lt
     rwa [Q6,ea]at g
    refine⟨_,rfl,.inl ⟨rfl,_,SqL.of hll⟩,_,rfl,a.a,cS,dxs,_,_,rfl,hsa,cs.cls,cs.no "line_to" (by decide),rfl,_,rfl,a.lt,_,rfl,g1,l,_,_,rfl,rfl,hll,by rw[v0];lia,?_⟩
    have kk:∀{b:Addr} {o:HO},H b=some o->(upd Hh l (.lst (tI ls++[V.int k]))) b=some o:=λ{b o} h=>by rw[z5 (z9 h hl)];exact ss _ _ h
    have ss2:y0 H (upd Hh l (.lst (tI ls++[V.int k]))):=λb o h=>kk h
    have hll2:(upd Hh l (.lst (tI ls++[V.int k]))) l=some (.lst (tI (ls++[k]))):=by rw[z3,K8];rfl
    have hpp2:(upd Hh l (.lst (tI ls++[V.int k]))) p=some (.lst ((A.st.map λs=>V.ref s.a).drop lv)):=by rw[z5 hpl];exact hpp
    have hha2:(upd Hh l (.lst (tI ls++[V.int k]))) ha=some (.tup (tI y)):=by rw[z5 (k9 hha hll (by intro z;cases z))];exact hha
    generalize upd Hh l (.lst (tI ls++[V.int k]))=H4 at ss2 hll2 hpp2 hha2 ⊢
    have st2:=(ch.st _ _ _ hA hs).same ss2
    obtain⟨dxs2,hsa2⟩:=st2.a
    obtain⟨bs2,hbf2,hbs2⟩:=st2.bf
    obtain⟨bb,hv2,hbb⟩:=E6 hbs2 ea
    have g2:Y2 H4 a.bf (kV (Sum.inl ((y.getD (lv+i) 0:Nat):Int))) (some (V.ref bb)):=by
     have g:=Y2.k (k:=Sum.inl ((y.getD (lv+i) 0:Nat):Int)) hbf2
     rwa [hv2]at g
    refine⟨_,rfl,_,rfl,a.a,cS,dxs2,_,_,rfl,hsa2,cs.cls,cs.no "back_from" (by decide),rfl,_,rfl,a.bf,_,rfl,g2,ha,bb,y,_,rfl,SqT.of hha2,SqT.of hbb,by rw[hy.length];lia,λz hz'=>by rw[hkT.bk.length];exact hy.lt hz',λr H5 hr5 s5 hrr=>?_⟩
    exact⟨ls++[k],r,_,_,_,rfl,ss2.trans s5,s5 _ _ hpp2,s5 _ _ hll2,hrr,hy.beh hkT.bk,hsf,by rw[aq,bB];lia⟩
 ·rintro σ Hh ⟨ls,ha,y,v5,v6,rfl,ss,hpp,hll,hha,hy,hsf,hls⟩
  rw[bE,hstl,show lv+(n-lv)=n by lia,cV (by rw[ch.len.2];exact ag _),K5]at hsf
  exact⟨_,rfl,q2 ls l Hh hsf.symm hl ss hll⟩
def zm5 (cC cB cS:Addr):Sp:=λvs H Q _=>∃(A:ChA) (S:ChS) (n lv:Nat) (tr:Addr) (x:List Nat),vs=[.ref A.c,.ref tr,.int lv]/\u0 cC cB cS n H A S/\S.Well n/\H tr=some (.tup (tI x))/\TM.IsT n x/\lv<=n/\n<=60 /\
 ∀H':Hp,y0 H H'->Q (.bl (K5 n S.md (S.st.drop lv) lv x []).isSome) H'
theorem zr5:y4 ["self","turning","level"] ["self","turning","level"] (z8 M9):=scq
theorem zp7 {cC cB cS:Addr}(F:Fun K "holds" "Chain.holds" M9 f fd)(B:Blt mg)(cc:p4 K cC Y4)(MS:l4 P w K mg base 2 cC "sifted" ["self","turning","level"] (yo8 cC cB cS)):u6 P w K mg base CX0 3 f fd ["self","turning","level"] (zm5 cC cB cS):=by
 refine F.ok zr5 (λvs H Q E h=>?_) (λcdv Ar outer sh H vs Q E hr h=>?_)
 ·obtain⟨A,S,n,lv,tr,x,rfl,_⟩:=h
  rfl
 obtain⟨A,S,n,lv,tr,x,rfl,ch,wl,htr,hx,hlv,hn,q⟩:=h
 obtain⟨dx,hc⟩:=ch.c
 refine⟨_,z6 (y9 (Q3 xk3 (l7 cc.cls MS hr (pv 0) (z0 (pv 1) (z0 (pv 2) z4))) yn9 (n1 _))),?_⟩
 refine⟨_,rfl,A.c,dx,_,rfl,hc,rfl,_,rfl,_,rfl,A,S,n,lv,tr,x,rfl,ch,wl,htr,hx,hlv,hn,λe H' s'=>⟨rfl,?_⟩,λls r H' e hr' s' hrr=>⟨rfl,?_⟩⟩
 ·have:=q H' s'
  rw[e]at this
  exact this
 ·have:=q H' s'
  rw[e]at this
  exact this
theorem ChA.head_ne {A:ChA}(h:A.all.Nodup){i:Nat}{a:StA}(ha:A.st[i]?=some a){x y:Addr}(hx:x∈[A.c,A.b,A.ll,A.lm,A.d,A.l])(hy:y∈a.all):x≠y:=by
 unfold ChA.all at h
 exact(bu.mp h).2.2 x hx y (cf.mpr ⟨a.all,au.mpr ⟨a,av ha,rfl⟩,hy⟩)
theorem ChA.step_nd {A:ChA}(h:A.all.Nodup){i:Nat}{a:StA}(ha:A.st[i]?=some a):a.all.Nodup:=by
 unfold ChA.all at h
 exact(List.pairwise_flatten.mp (bu.mp h).2.1).1 a.all (au.mpr ⟨a,av ha,rfl⟩)
theorem ChA.step_ne {A:ChA}(h:A.all.Nodup){i j:Nat}{a b:StA}(ha:A.st[i]?=some a)(hb:A.st[j]?=some b)(hij:i≠j){x y:Addr}(hx:x∈a.all)(hy:y∈b.all):x≠y:=by
 unfold ChA.all at h
 have p:=(List.pairwise_flatten.mp (bu.mp h).2.1).2
 have hai:(A.st.map StA.all)[i]?=some a.all:=by rw[ah,ha];rfl
 have hbj:(A.st.map StA.all)[j]?=some b.all:=by rw[ah,hb];rfl
 obtain⟨li,ei⟩:=al.mp hai
 obtain⟨lj,ej⟩:=al.mp hbj
 rcases Nat.lt_or_gt_of_ne hij with q|q
 ·have r:=bN.mp p i j li lj q
  rw[ei,ej]at r
  exact r x hx y hy
 ·have r:=bN.mp p j i lj li q
  rw[ei,ej]at r
  exact Ne.symm (r y hy x hx)
theorem ChA.head_nd {A:ChA}(h:A.all.Nodup):[A.c,A.b,A.ll,A.lm,A.d,A.l].Nodup:=by
 unfold ChA.all at h
 exact(bu.mp h).1
theorem Z3.frame {cS:Addr}{n:Nat}{md:List (List Nat)}{F:List Addr}{H H':Hp}{a:StA}{i:Nat}{s:StS}(h:Z3 cS n md H a i s)(fr:y1 F H H')(hF:∀x∈F,x∉a.all/\∀xs,H x≠some (.tup xs)):Z3 cS n md H' a i s:=by
 have k:∀{b:Addr} {o:HO},H b=some o->b∈a.all->H' b=some o:=λ{b o} e hb=>fr b o (λz=>(hF b z).1 hb) e
 have kt:∀{b:Addr} {xs:List V},H b=some (.tup xs)->H' b=some (.tup xs):=λ{b xs} e=>fr b _ (λz=>(hF b z).2 xs e) e
 exact⟨h.a.imp λ_ e=>k e (by simp[StA.all]),k h.m (by simp[StA.all]),k h.lt (by simp[StA.all]),h.bf.imp λ_ e=>⟨k e.1 (by simp[StA.all]),Paired.imp' (λ_ _ z=>kt z) e.2⟩,h.w.imp λ_ e=>⟨k e.1 (by simp[StA.all]),Paired.imp' (λ_ _ z=>kt z) e.2⟩⟩
theorem Z3.more {cS:Addr}{n:Nat}{md md':List (List Nat)}{H:Hp}{a:StA}{i:Nat}{s:StS}(h:Z3 cS n md H a i s)(hm:∀x∈s.to,md'.getD x.2 []=md.getD x.2 []):Z3 cS n md' H a i s:=by
 obtain⟨ha,hm',hlt,⟨bs,hbf,hbs⟩,hw⟩:=h
 refine⟨ha,hm',hlt,⟨bs,hbf,?_⟩,hw⟩
 have all:∀{to:List (Nat×Nat)} {bs:List Addr},(∀x∈to,md'.getD x.2 []=md.getD x.2 [])->Paired (λ(x:Nat×Nat) b=>H b=some (.tup (tI (TM.bk n (md.getD x.2 []))))) to bs->Paired (λ(x:Nat×Nat) b=>H b=some (.tup (tI (TM.bk n (md'.getD x.2 []))))) to bs:=by
  intro to bs hx p
  induction p with
  | nil=>exact .nil
  | cons f _ ih=>exact .cons (by rw[hx _ ax];exact f) (ih λx h=>hx x (ao _ h))
 exact all hm hbs
theorem u0.book {cC cB cS:Addr}{n:Nat}{H H':Hp}{A:ChA}{S S':ChS}(h:u0 cC cB cS n H A S)(fr:y1 [A.ll,A.lm,A.d] H H')(bk:T7 cB H' A S')(hst:S'.st=S.st)(hmd:∀s∈S.st,∀x∈s.to,S'.md.getD x.2 []=S.md.getD x.2 []):u0 cC cB cS n H' A S':=by
 obtain⟨las,hll,_⟩:=h.bk.ll
 obtain⟨mas,hlm,_⟩:=h.bk.lm
 have hd:=h.bk.d
 obtain⟨dx,hc⟩:=h.c
 have nd:=ChA.head_nd h.nd
 simp only[aK,aw,aV,not_or,or_false]at nd
 have nt:∀x∈[A.ll,A.lm,A.d],∀xs,H x≠some (.tup xs):=λx hx xs z=>by
  rcases aw.mp hx with e|hx
  ·rw[e,hll]at z;cases z
  ·rcases aw.mp hx with e|hx
   ·rw[e,hlm]at z;cases z
   ·rw[af.mp hx,hd]at z;cases z
 refine⟨h.nd,⟨dx,fr _ _ (λz=>by
   rcases aw.mp z with e|z
   ·exact k9 hc hll (by intro q;cases q) e
   ·rcases aw.mp z with e|z
    ·exact k9 hc hlm (by intro q;cases q) e
    ·exact k9 hc hd (by intro q;cases q) (af.mp z)) hc⟩,bk,fr _ _ ?_ h.l,⟨h.len.1,by rw[hst];exact h.len.2⟩,λi a s ha hs=>?_⟩
 ·intro z
  rcases aw.mp z with e|z
  ·exact nd.2.2.1.2.2 e.symm
  ·rcases aw.mp z with e|z
   ·exact nd.2.2.2.1.2 e.symm
   ·exact nd.2.2.2.2.1 (af.mp z).symm
 ·rw[hst]at hs
  refine((h.st i a s ha hs).more (hmd s (av hs))).frame fr λx hx=>⟨λhy=>?_,nt x hx⟩
  refine ChA.head_ne h.nd ha (x:=x) (y:=x) ?_ hy rfl
  simp at hx ⊢
  rcases hx with e|e|e <;> simp[e]
theorem u0.step {cC cB cS:Addr}{n:Nat}{H H':Hp}{A:ChA}{S:ChS}{F:List Addr}{j:Nat}{aj:StA}{s':StS}(h:u0 cC cB cS n H A S)(ha:A.st[j]?=some aj)(hF:∀x∈F,x∈aj.all/\∀xs,H x≠some (.tup xs))(fr:y1 F H H')(st:Z3 cS n S.md H' aj j s'):u0 cC cB cS n H' A { S with st:=S.st.set j s' }:=by
 have kh:∀{b:Addr} {o:HO},H b=some o->b∈[A.c,A.b,A.ll,A.lm,A.d,A.l]->H' b=some o:=λ{b o} e hb=>fr b o (λz=>ChA.head_ne h.nd ha hb (hF b z).1 rfl) e
 have kt:∀{b:Addr} {xs:List V},H b=some (.tup xs)->H' b=some (.tup xs):=λ{b xs} e=>fr b _ (λz=>(hF b z).2 xs e) e
 obtain⟨dx,hc⟩:=h.c
 refine⟨h.nd,⟨dx,kh hc (by simp)⟩,⟨h.bk.b.imp λ_ e=>kh e (by simp),h.bk.ll.imp λ_ e=>⟨kh e.1 (by simp),Paired.imp' (λ_ _ z=>kt z) e.2⟩,h.bk.lm.imp λ_ e=>⟨kh e.1 (by simp),Paired.imp' (λ_ _ z=>kt z) e.2⟩,kh h.bk.d (by simp),h.bk.len⟩,kh h.l (by simp),⟨h.len.1,by show(S.st.set j s').length=n;rw[bM];exact h.len.2⟩,λi a s hi hs=>?_⟩
 have hs:(S.st.set j s')[i]?=some s:=hs
 by_cases e:i=j
 ·subst e
  rw[ha]at hi
  cases hi
  rw[cp (by rw[h.len.2,←h.len.1];exact(al.mp ha).1)]at hs
  cases hs
  exact st
 ·rw[bU (Ne.symm e)]at hs
  exact(h.st i a s hi hs).frame fr λx hx=>⟨λhy=>ChA.step_ne h.nd hi ha e hy (hF x hx).1 rfl,(hF x hx).2⟩
structure ChS.Fine (n:Nat) (S:ChS):Prop where
 wl:S.Well n
 md0:S.md.getD 0 []=List.range n
 pos:0<S.md.length
 lnl:S.ln.length=S.md.length
def ChS.atS (S:ChS)(j:Nat):StS:=S.st.getD j ⟨[],[],[],0⟩
def ChS.found (n:Nat)(S:ChS)(j p m:Nat):ChS×Bool :=
 let s:=S.atS j
 let k:=(atN s.to p).getD 0
 let t:=TM.beh (S.md.getD k []) (S.md.getD m [])
 match atN s.to (t.getD j 0) with
 | none=>({ (S.putB k m).2 with st:=S.st.set j (s.putP (t.getD j 0) (S.putB k m).1) },false)
 | some k2=>if (K5 n S.md (S.st.drop (j+1)) (j+1) (TM.beh t (TM.bk n (S.md.getD k2 []))) []).isSome then(S,false)
  else
   let S1:=(S.putB k m).2
   let S2:=(S1.putK n k2).2
   let S3:=(S2.putB (S.putB k m).1 (S1.putK n k2).1).2
   ({ S3 with st:=S.st.set (j+1) ((S.atS (j+1)).putM (S2.putB (S.putB k m).1 (S1.putK n k2).1).1) },true)
structure M7 (n:Nat) (S S':ChS) (k:Nat) (t:List Nat):Prop where
 st:S'.st=S.st
 md:∃l,S'.md=S.md++l
 fine:S'.Fine n
 lt:k<S'.md.length
 at':S'.md.getD k []=t
 len:S'.ln.length<=S.ln.length+1
theorem g9 {α:Type}{l m:List α}{i:Nat}{d:α}(h:i<l.length):(l++m).getD i d=l.getD i d:=by
 rw[ay,ay,aI h]
theorem ChS.Fine.put {n:Nat}{S:ChS}(f:S.Fine n){l:TM.Ln}{t:List Nat}(ht:TM.IsT n t):M7 n S (S.put l t) S.ln.length t:=by
 have el:(S.put l t).md=S.md++[t]:=rfl
 refine⟨rfl,⟨[t],rfl⟩,⟨⟨λx hx=>?_,λs hs x hx=>?_,λs hs k hk=>?_⟩,?_,?_,?_⟩,?_,?_,?_⟩
 ·rw[el]at hx
  rcases aC.mp hx with h|h
  ·exact f.wl.md x h
  ·rw[af.mp h];exact ht
 ·have:=f.wl.to s hs x hx
  rw[el,aq]
  exact⟨this.1,by lia⟩
 ·have:=f.wl.mv s hs k hk
  rw[el,aq]
  lia
 ·rw[el,g9 f.pos];exact f.md0
 ·rw[el,aq];have:=f.pos;lia
 ·show(S.ln++[l]).length=(S.md++[t]).length
  rw[aq,aq,f.lnl]
  rfl
 ·rw[el,aq,f.lnl]
  show S.md.length<S.md.length+1
  lia
 ·rw[el,f.lnl,ay,aZ (ag _),cq]
  rfl
 ·show(S.ln++[l]).length<=_
  rw[aq]
  exact ag _
theorem M7.refl {n:Nat}{S:ChS}(f:S.Fine n){k:Nat}(hk:k<S.md.length):M7 n S S k (S.md.getD k []):=⟨rfl,⟨[],(be _).symm⟩,f,hk,rfl,cF _⟩
theorem ChS.Fine.putB {n:Nat}{S:ChS}(f:S.Fine n){i j:Nat}(hi:i<S.md.length)(hj:j<S.md.length):M7 n S (S.putB i j).2 (S.putB i j).1 (TM.beh (S.md.getD i []) (S.md.getD j [])):=by
 have ti:=f.wl.at hi
 have tj:=f.wl.at hj
 unfold ChS.putB
 by_cases e1:i=0
 ·rw[if_pos e1]
  have r:=M7.refl f hj
  rw[e1,f.md0,TM.still_beh tj]
  exact r
 ·rw[if_neg e1]
  by_cases e2:j=0
  ·rw[if_pos e2]
   have r:=M7.refl f hi
   rw[e2,f.md0,TM.beh_still ti]
   exact r
  ·rw[if_neg e2]
   exact f.put (ti.beh tj)
def yz7 (n:Nat)(S:ChS)(i:Nat):TM.Ln->List Nat->Prop
 | .still,t=>t=List.range n
 | .told k,t=>t=S.src k
 | .back a,t=>a<i/\t=TM.bk n (S.md.getD a [])
 | .behind a b,t=>a<i/\b<i/\t=TM.beh (S.md.getD a []) (S.md.getD b [])
def ChS.Mks (n:Nat)(S:ChS):Prop:=∀(i:Nat) (l:TM.Ln) (t:List Nat),S.ln[i]?=some l->S.md[i]?=some t->yz7 n S i l t
theorem yz7.more {n:Nat}{S S':ChS}{i:Nat}{l:TM.Ln}{t:List Nat}(h:yz7 n S i l t)(hi:i<=S.md.length)(hs:S'.src=S.src)(hm:∃m,S'.md=S.md++m):yz7 n S' i l t:=by
 obtain⟨m,hm⟩:=hm
 cases l with
 | still=>exact h
 | told k=>exact h.trans (by rw[hs])
 | back a=>exact⟨h.1,by rw[hm,g9 (aQ h.1 hi)];exact h.2⟩
 | behind a b=>exact⟨h.1,h.2.1,by rw[hm,g9 (aQ h.1 hi),g9 (aQ h.2.1 hi)];exact h.2.2⟩
theorem ChS.Mks.put {n:Nat}{S:ChS}(h:S.Mks n)(f:S.ln.length=S.md.length){l:TM.Ln}{t:List Nat}(hl:yz7 n S S.md.length l t):(S.put l t).Mks n:=by
 intro i l' t' h1 h2
 have h1:(S.ln++[l])[i]?=some l':=h1
 have h2:(S.md++[t])[i]?=some t':=h2
 by_cases c:i<S.md.length
 ·rw[aI (by lia)]at h1
  rw[aI c]at h2
  exact(h i l' t' h1 h2).more (bH c) rfl ⟨[t],rfl⟩
 ·have hi:i<(S.md++[t]).length:=(al.mp h2).1
  rw[aq,bB]at hi
  have e:i=S.md.length:=by lia
  subst e
  rw[aZ (by lia),show S.md.length-S.ln.length=0 by lia]at h1
  rw[aZ (ag _),cq]at h2
  cases h1
  cases h2
  exact hl.more (ag _) rfl ⟨[t],rfl⟩
structure ChS.Backs (n:Nat) (S:ChS):Prop where
 bk:∀i k,atN S.bl i=some k->i<S.md.length/\k<S.md.length/\S.md.getD k []=TM.bk n (S.md.getD i [])
 mks:S.Mks n
theorem ChS.Backs.of {n:Nat}{S S':ChS}(b:S.Backs n)(hl:S'.ln=S.ln)(hm:S'.md=S.md)(hb:S'.bl=S.bl)(hs:S'.src=S.src):S'.Backs n:=by
 refine⟨λi k h=>?_,λi l t h1 h2=>?_⟩
 ·rw[hb]at h
  rw[hm]
  exact b.bk i k h
 ·rw[hl]at h1
  rw[hm]at h2
  exact(b.mks i l t h1 h2).more (bH (al.mp h2).1) hs ⟨[],by rw[hm,be]⟩
theorem ChS.putB_src {S:ChS}(i j:Nat):(S.putB i j).2.src=S.src:=by
 unfold ChS.putB
 by_cases e1:i=0
 ·rw[if_pos e1]
 ·rw[if_neg e1]
  by_cases e2:j=0
  ·rw[if_pos e2]
  ·rw[if_neg e2];rfl
theorem ChS.putK_src {S:ChS}(n i:Nat):(S.putK n i).2.src=S.src:=by
 unfold ChS.putK
 cases e:atN S.bl i with
 | some k=>rfl
 | none=>rfl
theorem ChS.Backs.putB {n:Nat}{S:ChS}(b:S.Backs n)(f:S.ln.length=S.md.length){k m:Nat}(hk:k<S.md.length)(hm:m<S.md.length):(S.putB k m).2.Backs n/\(S.putB k m).2.bl=S.bl:=by
 unfold ChS.putB
 by_cases e1:k=0
 ·rw[if_pos e1];exact⟨b,rfl⟩
 ·rw[if_neg e1]
  by_cases e2:m=0
  ·rw[if_pos e2];exact⟨b,rfl⟩
  ·rw[if_neg e2]
   refine⟨⟨λi' k' h=>?_,b.mks.put f ⟨hk,hm,rfl⟩⟩,rfl⟩
   obtain⟨h1,h2,h3⟩:=b.bk i' k' h
   have hmd':(S.put (.behind k m) (TM.beh (S.md.getD k []) (S.md.getD m []))).md=S.md++[TM.beh (S.md.getD k []) (S.md.getD m [])]:=rfl
   refine⟨by rw[hmd',aq];lia,by rw[hmd',aq];lia,?_⟩
   rw[hmd',g9 h2,g9 h1,h3]
theorem ChS.Fine.putK {n:Nat}{S:ChS}(f:S.Fine n)(b:S.Backs n){i:Nat}(hi:i<S.md.length):M7 n S (S.putK n i).2 (S.putK n i).1 (TM.bk n (S.md.getD i []))/\(S.putK n i).2.Backs n:=by
 unfold ChS.putK
 cases e:atN S.bl i with
 | some k =>
  obtain⟨h1,h2,h3⟩:=b.bk i k e
  rw[←h3]
  exact⟨M7.refl f h2,b⟩
 | none =>
  have m:=f.put (l:=.back i) (f.wl.at hi).bk
  have mks:=b.mks.put f.lnl (l:=.back i) (t:=TM.bk n (S.md.getD i [])) ⟨hi,rfl⟩
  refine⟨⟨m.st,m.md,⟨⟨m.fine.wl.md,m.fine.wl.to,m.fine.wl.mv⟩,m.fine.md0,m.fine.pos,m.fine.lnl⟩,m.lt,m.at',m.len⟩,⟨λi' k' h=>?_,mks⟩⟩
  have h:atN (S.bl++[(i,S.ln.length)]) i'=some k':=h
  have hmd:(S.put (.back i) (TM.bk n (S.md.getD i []))).md=S.md++[TM.bk n (S.md.getD i [])]:=rfl
  show i'<(S.put (.back i) (TM.bk n (S.md.getD i []))).md.length/\k'<(S.put (.back i) (TM.bk n (S.md.getD i []))).md.length/\(S.put (.back i) (TM.bk n (S.md.getD i []))).md.getD k' []=TM.bk n ((S.put (.back i) (TM.bk n (S.md.getD i []))).md.getD i' [])
  by_cases ei:i'=i
  ·subst ei
   rw[zn4 e]at h
   cases h
   refine⟨by rw[hmd,aq];lia,m.lt,?_⟩
   rw[m.at',hmd,g9 hi]
  ·have h':atN S.bl i'=some k':=by
    unfold atN at h ⊢
    rw[dW]at h
    cases q:S.bl.find? (λx=>decide (x.1=i')) with
    | some x=>rw[q]at h;exact h
    | none =>
     rw[q]at h
     simp[Ne.symm ei]at h
   obtain⟨h1,h2,h3⟩:=b.bk i' k' h'
   refine⟨by rw[hmd,aq];lia,by rw[hmd,aq];lia,?_⟩
   rw[hmd,g9 h2,g9 h1,h3]
structure ChS.Few (S:ChS):Prop where
 ln:S.ln.length<9999000
 bl:S.bl.length<9999000
 st:∀s∈S.st,s.mv.length<100000/\s.to.length<=60/\s.wt.length<=900000
def yt1 (cC cB cS:Addr):Sp:=λvs H Q _=>∃(A:ChA) (S:ChS) (n j p m k:Nat),vs=[.ref A.c,.int j,.int p,.int m]/\u0 cC cB cS n H A S/\S.Fine n/\S.Backs n/\S.Few/\n<=60/\j<n/\atN (S.atS j).to p=some k/\m<S.md.length /\
 ∀H':Hp,y1 A.all H H'->u0 cC cB cS n H' A (S.found n j p m).1->Q (.bl (S.found n j p m).2) H'
theorem n6:y4 ["self","level","place","mover","step","line","made","to","ahead"] ["self","level","place","mover"] (z8 Z0):=scq
theorem ChS.atS_of {S:ChS}{j:Nat}{s:StS}(h:S.st[j]?=some s):S.atS j=s:=by unfold ChS.atS;rw[ay,h];rfl
theorem y1.all {A:ChA}{F:List Addr}{H H':Hp}(h:y1 F H H')(hF:∀x∈F,x∈[A.c,A.b,A.ll,A.lm,A.d,A.l]):y1 A.all H H':=h.more λx hx=>by unfold ChA.all;exact aH _ (hF x hx)
theorem y1.allS {A:ChA}{F:List Addr}{H H':Hp}{j:Nat}{a:StA}(h:y1 F H H')(ha:A.st[j]?=some a)(hF:∀x∈F,x∈a.all):y1 A.all H H':=h.more λx hx=>by
 unfold ChA.all
 exact aJ _ (cf.mpr ⟨a.all,au.mpr ⟨a,av ha,rfl⟩,hF x hx⟩)
theorem C5 {cC cB cS:Addr}(F:Fun K "found_mover" "Chain.found_mover" Z0 f fd)(B:Blt mg)(cc:p4 K cC Y4)(cb:p4 K cB zd1)(cs:p4 K cS K7)(KB:o7 P w K mg base 1 "behind" ["one","other"] (Q9 K))
  (MPP:l4 P w K mg base 2 cS "put_place" ["self","place","line","turning"] (xg7 cS)) (MPB:l4 P w K mg base 2 cB "put_behind" ["self","one","other"] (xg5 cB)) (MPK:l4 P w K mg base 2 cB "put_back" ["self","one"] (xg6 cB)) (MPM:l4 P w K mg base 1 cS "put_mover" ["self","mover"] (yo7 cS)) (MH:l4 P w K mg base 3 cC "holds" ["self","turning","level"] (zm5 cC cB cS)):u6 P w K mg base CX0 4 f fd ["self","level","place","mover"] (yt1 cC cB cS):=by
 refine F.ok n6 (λvs H Q E h=>?_) (λcdv Ar outer sh H vs Q E hr h=>?_)
 ·obtain⟨A,S,n,j,p,m,k,rfl,_⟩:=h
  rfl
 obtain⟨A,S,n,j,p,m,k,rfl,ch,fn,bks,few,hn,hj,hp,hm,q⟩:=h
 have hz:=V1
 have hu:(Ar.deeper (PyProof.Rows.envOfC "Chain.found_mover" (z8 Z0) sh.heap.objs.size f cdv)).units+1<cLine:=by have:=hr.units;lia
 refine⟨_,z7 (y8 (i:=4) n6.nd rfl (Or.inl rfl) (d9 l9 (y3 (pv 0) rfl) (pv 1) (λ_ _=>rfl)))
  (z7 (y8 (i:=5) n6.nd rfl (Or.inl rfl) (Y8 hu (y3 (pv 4) rfl) (pv 2) (λ_ _=>rfl)))
  (z7 (y8 (i:=6) n6.nd rfl (Or.inl rfl) (q9 KB hr rfl (z0 (d9 l9 (y3 (y3 (pv 0) rfl) rfl) (pv 5) (λ_ _=>rfl)) (z0 (d9 l9 (y3 (y3 (pv 0) rfl) rfl) (pv 3) (λ_ _=>rfl)) z4))))
  (z7 (y8 (i:=7) n6.nd rfl (Or.inl rfl) (d9 C1 (pv 6) (pv 1) (λ_ _=>rfl)))
  (z7 (l8 (B0 (S9 hu (pv 7) (y3 (pv 4) rfl)))
   (z7 (m7 (l7 cs.cls MPP hr (pv 4) (z0 (pv 7) (z0 (l7 cb.cls MPB hr (y3 (pv 0) rfl) (z0 (pv 5) (z0 (pv 3) z4))) (z0 (pv 6) z4))))) (z6 (y9 U6))) u8)
  (z7 (l8 (Y5 (l7 cc.cls MH hr (pv 0) (z0 (q9 KB hr rfl (z0 (pv 6) (z0 (Y8 hu (y3 (pv 4) rfl) (pv 7) (λ_ _=>rfl)) z4))) (z0 (c0 P1 (pv 1) x9) z4)))) (z6 (y9 U6)) u8)
  (z7 (y8 (i:=8) n6.nd rfl (Or.inl rfl) (l7 cb.cls MPB hr (y3 (pv 0) rfl) (z0 (pv 5) (z0 (pv 3) z4))))
  (z7 (m7 (l7 cs.cls MPM hr (d9 l9 (y3 (pv 0) rfl) (c0 P1 (pv 1) x9) (λ_ _=>rfl)) (z0 (l7 cb.cls MPB hr (y3 (pv 0) rfl) (z0 (pv 8) (z0 (l7 cb.cls MPK hr (y3 (pv 0) rfl) (z0 (Y8 hu (y3 (pv 4) rfl) (pv 7) (λ_ _=>rfl)) z4)) z4))) z4)))
  (z6 (y9 U6))))))))),?_⟩
 obtain⟨dxc,hc⟩:=ch.c
 obtain⟨dxb,hb⟩:=ch.bk.b
 obtain⟨mas,hlm,hmd⟩:=ch.bk.lm
 obtain⟨a,hAj⟩:∃a,A.st[j]?=some a:=⟨_,ae (by rw[ch.len.1];exact hj)⟩
 obtain⟨s,hs⟩:∃s,S.st[j]?=some s:=⟨_,ae (by rw[ch.len.2];exact hj)⟩
 have hsm:s∈S.st:=av hs
 rw[ChS.atS_of hs]at hp
 have st:=ch.st j a s hAj hs
 obtain⟨dxs,hsa⟩:=st.a
 have hk:k<S.md.length:=(fn.wl.to s hsm _ (R9 hp)).2
 have tk:=fn.wl.at hk
 have tm:=fn.wl.at hm
 obtain⟨ak,hak,htk⟩:=g7 hmd k _ (W7 [] hk)
 obtain⟨am,ham,htm⟩:=g7 hmd m _ (W7 [] hm)
 have gk:atI (mas.map V.ref) ((k:Nat):Int)=some (V.ref ak):=d0 (by rw[ah,hak];rfl)
 have gm:atI (mas.map V.ref) ((m:Nat):Int)=some (V.ref am):=d0 (by rw[ah,ham];rfl)
 have ga:atI (A.st.map λs=>V.ref s.a) ((j:Nat):Int)=some (V.ref a.a):=d0 (by rw[ah,hAj];rfl)
 have g1:Y2 H a.lt (kV (Sum.inl (p:Int))) (some (V.int k)):=by
  have g:=Y2.k (k:=Sum.inl (p:Int)) st.lt
  rwa [Q6,hp]at g
 refine⟨_,rfl,A.c,cC,dxc,_,_,rfl,hc,cc.cls,cc.no "steps" (by decide),rfl,_,rfl,A.l,_,_,_,rfl,rfl,SqL.of ch.l,ga,?_⟩
 refine⟨_,rfl,a.a,cS,dxs,_,_,rfl,hsa,cs.cls,cs.no "line_to" (by decide),rfl,_,rfl,a.lt,_,rfl,g1,?_⟩
 refine⟨_,rfl,A.c,cC,dxc,_,_,rfl,hc,cc.cls,cc.no "book" (by decide),rfl,A.b,cB,dxb,_,_,rfl,hb,cb.cls,cb.no "made" (by decide),rfl,_,rfl,A.lm,_,_,_,rfl,rfl,SqL.of hlm,gk,_,rfl,A.c,cC,dxc,_,_,rfl,hc,cc.cls,cc.no "book" (by decide),rfl,A.b,cB,dxb,_,_,rfl,hb,cb.cls,cb.no "made" (by decide),rfl,_,rfl,A.lm,_,_,_,rfl,rfl,SqL.of hlm,gm,ak,am,_,_,rfl,SqT.of htk,SqT.of htm,by rw[tk.length];lia,λx hx=>by rw[tm.length];exact tk.lt hx,λtr H1 htr0 s1 htr=>?_⟩
 have tT:TM.IsT n (TM.beh (S.md.getD k []) (S.md.getD m [])):=tk.beh tm
 have htr:H1 tr=some (.tup (tI (TM.beh (S.md.getD k []) (S.md.getD m [])))):=htr
 obtain⟨R,ef⟩:∃R,R=S.found n j p m:=⟨_,rfl⟩
 rw[←ef]at q
 unfold ChS.found at ef
 simp only[ChS.atS_of hs,hp,cY]at ef
 have mb:=fn.putB hk hm
 have ndh:=ChA.head_nd ch.nd
 simp only[aK,aw,aV,not_or,or_false]at ndh
 have lne:A.ll≠A.lm:=ndh.2.2.1.1
 have nda:=ChA.step_nd ch.nd hAj
 simp only[StA.all,aK,aw,aV,not_or,or_false]at nda
 have mw:a.m≠a.w:=nda.2.1.2.2
 have ltbf:a.lt≠a.bf:=nda.2.2.1.1
 have fw:=few.st s hsm
 have few1:=few.ln
 have few2:=few.bl
 have ch1:=ch.same s1
 generalize htt:TM.beh (S.md.getD k []) (S.md.getD m [])=t at tT htr ef mb
 refine⟨_,rfl,_,rfl,tr,_,_,_,rfl,rfl,SqT.of htr,zk0 (tT.get_step hj),?_⟩
 refine⟨_,rfl,_,rfl,a.a,cS,dxs,_,_,rfl,s1 _ _ hsa,cs.cls,cs.no "line_to" (by decide),rfl,a.lt,_,rfl,Y2.k (k:=Sum.inl ((t.getD j 0:Nat):Int)) (s1 _ _ st.lt),_,rfl,?_⟩
 rw[Q6]
 have mdS:∀(S':ChS),(∃l,S'.md=S.md++l)->∀s∈S.st,∀x∈s.to,S'.md.getD x.2 []=S.md.getD x.2 []:=λS' ⟨l,e⟩ s hs x hx=>by rw[e,g9 (fn.wl.to s hs x hx).2]
 cases ea:atN s.to (t.getD j 0) with
 | none =>
  rw[ea]at ef
  dsimp only at ef
  rw[ef]at q
  refine Z1 ?_
  refine⟨_,rfl,a.a,dxs,_,rfl,s1 _ _ hsa,rfl,_,rfl,_,rfl,A.c,cC,dxc,_,_,rfl,s1 _ _ hc,cc.cls,cc.no "book" (by decide),rfl,A.b,dxb,_,rfl,s1 _ _ hb,rfl,_,rfl,_,rfl,A,S,n,k,m,rfl,ch1.bk,lne,hk,hm,fn.wl.md,hn,by lia,λH2 fr2 bk2=>?_⟩
  have ch2:u0 cC cB cS n H2 A (S.putB k m).2:=ch1.book (fr2.more λx hx=>by simp at hx ⊢;rcases hx with e|e <;> simp[e]) bk2 mb.st (mdS _ mb.md)
  have hs2:(S.putB k m).2.st[j]?=some s:=by rw[mb.st];exact hs
  have st2:=ch2.st j a s hAj hs2
  have htr2:H2 tr=some (.tup (tI t)):=fr2 _ _ (λz=>by
   obtain⟨las,hll1,_⟩:=ch1.bk.ll
   obtain⟨mas1,hlm1,_⟩:=ch1.bk.lm
   rcases aw.mp z with e|z
   ·exact k9 htr hll1 (by intro q;cases q) e
   ·exact k9 htr hlm1 (by intro q;cases q) (af.mp z)) htr
  refine⟨_,rfl,a,n,(S.putB k m).2.md,j,t.getD j 0,(S.putB k m).1,s,tr,t,rfl,st2,htr2,mb.at',tT,hn,ea,mw,ltbf,by lia,by lia,by lia,λH3 fr3 st3=>?_⟩
  have nt:∀x∈[a.lt,a.bf,a.w],x∈a.all/\∀xs,H2 x≠some (.tup xs):=λx hx=>by
   obtain⟨bs2,hbf2,_⟩:=st2.bf
   obtain⟨ws2,hw2,_⟩:=st2.w
   rcases aw.mp hx with e|hx
   ·rw[e];exact⟨by simp[StA.all],λxs z=>by rw[st2.lt]at z;cases z⟩
   ·rcases aw.mp hx with e|hx
    ·rw[e];exact⟨by simp[StA.all],λxs z=>by rw[hbf2]at z;cases z⟩
    ·rw[af.mp hx];exact⟨by simp[StA.all],λxs z=>by rw[hw2]at z;cases z⟩
  have ch3:=ch2.step hAj nt fr3 st3
  rw[mb.st]at ch3
  refine q H3 ?_ ch3
  exact y1.trans (y0.frame s1) (y1.trans (fr2.all λx hx=>by simp at hx ⊢;rcases hx with e|e <;> simp[e]) (fr3.allS hAj λx hx=>(nt x hx).1))
 | some k2 =>
  rw[ea]at ef
  dsimp only at ef
  refine i9 ?_
  have hk2:k2<S.md.length:=(fn.wl.to s hsm _ (R9 ea)).2
  have tk2:=fn.wl.at hk2
  obtain⟨bs1,hbf1,hbs1⟩:=(ch1.st j a s hAj hs).bf
  obtain⟨bb,hv2,hbb⟩:=E6 hbs1 ea
  have g2:Y2 H1 a.bf (kV (Sum.inl ((t.getD j 0:Nat):Int))) (some (V.ref bb)):=by
   have g:=Y2.k (k:=Sum.inl ((t.getD j 0:Nat):Int)) hbf1
   rwa [hv2]at g
  refine⟨_,rfl,A.c,dxc,_,rfl,s1 _ _ hc,rfl,_,rfl,_,rfl,a.a,cS,dxs,_,_,rfl,s1 _ _ hsa,cs.cls,cs.no "back_from" (by decide),rfl,_,rfl,a.bf,_,rfl,g2,tr,bb,t,_,rfl,SqT.of htr,SqT.of hbb,by rw[tT.length];lia,λx hx=>by rw[tk2.bk.length];exact tT.lt hx,λxr H2 hxr0 s2 hxr=>?_⟩
  refine⟨_,rfl,_,_,rfl,rfl,A,S,n,j+1,xr,TM.beh t (TM.bk n (S.md.getD k2 [])),?_,ch1.same s2,fn.wl,hxr,tT.beh tk2.bk,by lia,hn,λH3 s3=>?_⟩
  ·show [V.ref A.c,V.ref xr,V.int ((j:Int)+1)]=_
   rw[show((j+1:Nat):Int)=(j:Int)+1 by lia]
  refine⟨_,rfl,?_⟩
  have ch3:=(ch1.same s2).same s3
  have s03:=s1.trans (s2.trans s3)
  cases hi:(K5 n S.md (S.st.drop (j+1)) (j+1) (TM.beh t (TM.bk n (S.md.getD k2 []))) []).isSome with
  | true =>
   rw[hi,if_pos rfl]at ef
   rw[ef]at q
   exact Z1 (q H3 (y0.frame s03) ch3)
  | false =>
   rw[hi,if_neg (by decide)]at ef
   rw[ef]at q
   refine i9 ?_
   have hj1:j+1<n:=by
    rcases eX (j+1) n with h|h
    ·exact h
    ·rw[cV (by rw[ch.len.2];exact h),K5]at hi
     cases hi
   obtain⟨a1,hA1⟩:∃a,A.st[j+1]?=some a:=⟨_,ae (by rw[ch.len.1];exact hj1)⟩
   obtain⟨s',hs'⟩:∃s,S.st[j+1]?=some s:=⟨_,ae (by rw[ch.len.2];exact hj1)⟩
   rw[ChS.atS_of hs']at q
   have hsm':s'∈S.st:=av hs'
   have fw':=few.st s' hsm'
   have nda1:=ChA.step_nd ch.nd hA1
   simp only[StA.all,aK,aw,aV,not_or,or_false]at nda1
   have bks1:(S.putB k m).2.Backs n:=(bks.putB fn.lnl hk hm).1
   have bl1:(S.putB k m).2.bl=S.bl:=by
    unfold ChS.putB
    by_cases e1:k=0
    ·rw[if_pos e1]
    ·rw[if_neg e1]
     by_cases e2:m=0
     ·rw[if_pos e2]
     ·rw[if_neg e2];rfl
   obtain⟨l1,hl1⟩:=mb.md
   have hk2':k2<(S.putB k m).2.md.length:=by rw[hl1,aq];lia
   obtain⟨mk,bks2⟩:=mb.fine.putK bks1 hk2'
   obtain⟨l2,hl2⟩:=mk.md
   have len1:=mb.len
   have len2:=mk.len
   have ha':(S.putB k m).1<((S.putB k m).2.putK n k2).2.md.length:=by rw[hl2,aq];have:=mb.lt;lia
   have m3:=mk.fine.putB ha' mk.lt
   obtain⟨l3,hl3⟩:=m3.md
   obtain⟨dxc3,hc3⟩:=ch3.c
   obtain⟨dxb3,hb3⟩:=ch3.bk.b
   refine⟨_,rfl,A.c,cC,dxc3,_,_,rfl,hc3,cc.cls,cc.no "book" (by decide),rfl,A.b,dxb3,_,rfl,hb3,rfl,_,rfl,_,rfl,A,S,n,k,m,rfl,ch3.bk,lne,hk,hm,fn.wl.md,hn,by lia,λH4 fr4 bk4=>?_⟩
   have ch4:u0 cC cB cS n H4 A (S.putB k m).2:=ch3.book (fr4.more λx hx=>by simp at hx ⊢;rcases hx with e|e <;> simp[e]) bk4 mb.st (mdS _ mb.md)
   obtain⟨dxc4,hc4⟩:=ch4.c
   obtain⟨dxb4,hb4⟩:=ch4.bk.b
   have st41:=ch4.st (j+1) a1 s' hA1 (by rw[mb.st];exact hs')
   obtain⟨dx41,hsa41⟩:=st41.a
   have st4:=ch4.st j a s hAj (by rw[mb.st];exact hs)
   obtain⟨dx4,hsa4⟩:=st4.a
   have ga1:atI (A.st.map λs=>V.ref s.a) ((j:Int)+1)=some (V.ref a1.a):=by
    rw[show(j:Int)+1=((j+1:Nat):Int) by lia]
    exact d0 (by rw[ah,hA1];rfl)
   have g4:Y2 H4 a.lt (kV (Sum.inl ((t.getD j 0:Nat):Int))) (some (V.int k2)):=by
    have g:=Y2.k (k:=Sum.inl ((t.getD j 0:Nat):Int)) st4.lt
    rwa [Q6,ea]at g
   refine⟨_,rfl,A.c,cC,dxc4,_,_,rfl,hc4,cc.cls,cc.no "steps" (by decide),rfl,_,rfl,_,_,rfl,rfl,A.l,_,_,_,rfl,rfl,SqL.of ch4.l,ga1,a1.a,dx41,_,rfl,hsa41,rfl,?_⟩
   refine⟨_,rfl,A.c,cC,dxc4,_,_,rfl,hc4,cc.cls,cc.no "book" (by decide),rfl,A.b,dxb4,_,rfl,hb4,rfl,_,rfl,_,rfl,A.c,cC,dxc4,_,_,rfl,hc4,cc.cls,cc.no "book" (by decide),rfl,A.b,dxb4,_,rfl,hb4,rfl,_,rfl,a.a,cS,dx4,_,_,rfl,hsa4,cs.cls,cs.no "line_to" (by decide),rfl,_,rfl,a.lt,_,rfl,g4,A,(S.putB k m).2,n,k2,rfl,ch4.bk,lne,hk2',mb.fine.wl.md,hn,by lia,by rw[bl1];lia,λH5 fr5 bk5=>?_⟩
   have ch5:u0 cC cB cS n H5 A ((S.putB k m).2.putK n k2).2:=ch4.book fr5 bk5 mk.st (λs hs x hx=>by rw[hl2,g9 (mb.fine.wl.to s hs x hx).2])
   refine⟨A,((S.putB k m).2.putK n k2).2,n,(S.putB k m).1,((S.putB k m).2.putK n k2).1,rfl,ch5.bk,lne,ha',mk.lt,mk.fine.wl.md,hn,by lia,λH6 fr6 bk6=>?_⟩
   have ch6:u0 cC cB cS n H6 A (((S.putB k m).2.putK n k2).2.putB (S.putB k m).1 ((S.putB k m).2.putK n k2).1).2:=ch5.book (fr6.more λx hx=>by simp at hx ⊢;rcases hx with e|e <;> simp[e]) bk6 m3.st (λs hs x hx=>by rw[hl3,g9 (mk.fine.wl.to s hs x hx).2])
   have e6:(((S.putB k m).2.putK n k2).2.putB (S.putB k m).1 ((S.putB k m).2.putK n k2).1).2.st=S.st:=by rw[m3.st,mk.st,mb.st]
   have st6:=ch6.st (j+1) a1 s' hA1 (by rw[e6];exact hs')
   refine⟨a1,n,_,j+1,(((S.putB k m).2.putK n k2).2.putB (S.putB k m).1 ((S.putB k m).2.putK n k2).1).1,s',rfl,st6,nda1.2.1.2.2,by lia,by lia,by lia,λH7 fr7 st7=>?_⟩
   have nt:∀x∈[a1.m,a1.w],x∈a1.all/\∀xs,H6 x≠some (.tup xs):=λx hx=>by
    obtain⟨ws2,hw2,_⟩:=st6.w
    rcases aw.mp hx with e|hx
    ·rw[e];exact⟨by simp[StA.all],λxs z=>by rw[st6.m]at z;cases z⟩
    ·rw[af.mp hx];exact⟨by simp[StA.all],λxs z=>by rw[hw2]at z;cases z⟩
   have ch7:=ch6.step hA1 nt fr7 st7
   rw[e6]at ch7
   refine q H7 ?_ ch7
   exact y1.trans (y0.frame s03) (y1.trans (fr4.all λx hx=>by simp at hx ⊢;rcases hx with e|e <;> simp[e]) (y1.trans (fr5.all λx hx=>by simp at hx ⊢;rcases hx with e|e|e <;> simp[e]) (y1.trans (fr6.all λx hx=>by simp at hx ⊢;rcases hx with e|e <;> simp[e]) (fr7.allS hA1 λx hx=>(nt x hx).1))))
def ChS.chn (S:ChS):TM.Chn where
 mv j s:=∃k∈(S.atS j).mv,S.md.getD k []=s
 ring j:=(S.atS j).to.map Prod.fst
 up j p:=S.md.getD ((atN (S.atS j).to p).getD 0) []
theorem V9 {l:List (Nat×Nat)}{p:Nat}:atN l p=none↔p∉l.map Prod.fst:=by
 unfold atN
 rw[Option.map_eq_none_iff,List.find?_eq_none]
 constructor
 ·intro h z
  obtain⟨x,hx,e⟩:=au.mp z
  exact h x hx (by simpa using e)
 ·intro h x hx e
  exact h (au.mpr ⟨x,hx,by simpa using e⟩)
theorem zd0 {l:List (Nat×Nat)}{p k:Nat}(h:atN l p=some k):p∈l.map Prod.fst:=au.mpr ⟨_,R9 h,rfl⟩
theorem ChS.chn_up {S:ChS}{j p k:Nat}(h:atN (S.atS j).to p=some k):S.chn.up j p=S.md.getD k []:=by
 show S.md.getD ((atN (S.atS j).to p).getD 0) []=_
 rw[h];rfl
theorem ChS.drop_at {S:ChS}{j:Nat}(h:j<S.st.length):S.st.drop j=S.atS j::S.st.drop (j+1):=by
 rw[dz h,ChS.atS_of (ae h)]
theorem yd0 {n:Nat}{S:ChS}(len:S.st.length=n)(ok:S.chn.Ok n):∀(d:Nat) (x acc:List Nat),d<=n->TM.IsT n x->((K5 n S.md (S.st.drop (n-d)) (n-d) x acc).isSome=true↔S.chn.Sif n d x)
 | 0,x,acc,_,_=>by
  rw[di,cV (by lia),K5]
  exact⟨λ_=>trivial,λ_=>rfl⟩
 | d+1,x,acc,hd,hx=>by
  have hj:n-(d+1)<n:=by lia
  have e:n-(d+1)+1=n-d:=by lia
  rw[ChS.drop_at (by lia),K5,TM.Chn.Sif]
  cases ea:atN (S.atS (n-(d+1))).to (x.getD (n-(d+1)) 0) with
  | none =>
   have hm:x.getD (n-(d+1)) 0∉S.chn.ring (n-(d+1)):=V9.mp ea
   exact⟨λh=>(by cases h),λh=>absurd h.1 hm⟩
  | some k =>
   have hm:x.getD (n-(d+1)) 0∈S.chn.ring (n-(d+1)):=zd0 ea
   have hu:=ok.upT hj hm
   have eu:=ChS.chn_up ea
   dsimp only
   rw[e]
   by_cases ee:x.getD (n-(d+1)) 0=n-(d+1)
   ·rw[if_pos ee]
    have h0:TM.beh x (TM.bk n (S.chn.up (n-(d+1)) (x.getD (n-(d+1)) 0)))=x:=by
     rw[ee,ok.upOwn _ hj,TM.bk_still,TM.beh_still hx]
    rw[h0,yd0 len ok d x acc (by lia) hx]
    exact⟨λh=>⟨hm,h⟩,λh=>h.2⟩
   ·rw[if_neg ee,eu,yd0 len ok d _ _ (by lia) (hx.beh (by rw[eu]at hu;exact hu.bk))]
    exact⟨λh=>⟨hm,h⟩,λh=>h.2⟩
structure ChS.Inv (n:Nat) (S:ChS):Prop where
 fine:S.Fine n
 bks:S.Backs n
 len:S.st.length=n
 ok:S.chn.Ok n
 lk:∀j,(S.atS j).lk<=(S.atS j).wt.length
 wl:∀j,(S.atS j).wt.length=(S.atS j).to.length*(S.atS j).mv.length
 wt:∀j p m,p∈(S.atS j).to.map Prod.fst->m∈(S.atS j).mv->(p,m)∈(S.atS j).wt
 wt':∀j,∀x∈(S.atS j).wt,x.1∈(S.atS j).to.map Prod.fst/\x.2∈(S.atS j).mv
 good:∀j,∀x∈(S.atS j).wt.take (S.atS j).lk,S.chn.Good n j x.1 (S.md.getD x.2 [])
 ind:∀j,TM.Indep n ((S.atS j).mv.map λk=>S.md.getD k [])
def ChS.Done (S:ChS)(j:Nat):Prop:=(S.atS j).lk=(S.atS j).wt.length
theorem ChS.Inv.shut {n:Nat}{S:ChS}(h:S.Inv n){j:Nat}(d:S.Done j):S.chn.Shut n j:=by
 intro p hp s hs
 obtain⟨m,hm,rfl⟩:=hs
 refine h.good j (p,m) ?_
 rw[d,bn]
 exact h.wt j p m hp hm
theorem ChS.Inv.holds {n:Nat}{S:ChS}(h:S.Inv n){j:Nat}(hj:j<=n)(d:∀i,j<=i->i<n->S.Done i){x:List Nat}(hx:TM.IsT n x)(hf:TM.Fix j x):(K5 n S.md (S.st.drop j) j x []).isSome=true↔TM.Grp n (S.chn.mv j) x:=by
 have e:n-(n-j)=j:=by lia
 have h1:=yd0 h.len h.ok (n-j) x [] (by lia) hx
 have h2:=h.ok.sift (d:=n-j) (by lia) hx (by rw[e];exact hf) (λi hi hin=>h.shut (d i (by lia) hin))
 rw[e]at h1 h2
 exact h1.trans h2
theorem ChS.Inv.few {n:Nat}{S:ChS}(hn:n<=60)(h:S.Inv n)(j:Nat):(S.atS j).mv.length<=354:=by
 have q:=TM.indep_few hn (l:=(S.atS j).mv.map λk=>S.md.getD k []) (λs hs=>by
  obtain⟨k,hk,e⟩:=au.mp hs
  exact h.ok.mvT j s ⟨k,hk,e⟩) (h.ind j)
 rwa [aa]at q
theorem ChS.Inv.ring {n:Nat}{S:ChS}(h:S.Inv n){j:Nat}(hj:j<n):(S.atS j).to.length<=n:=by
 have q:=TM.nodup_below (M:=n) (h.ok.nd j hj) λx hx=>h.ok.lt j x hj hx
 have e:(S.chn.ring j).length=(S.atS j).to.length:=aa _
 lia
theorem ChS.atS_set {S S':ChS}{i:Nat}{s':StS}(e:S'.st=S.st.set i s')(hi:i<S.st.length)(h:Nat):S'.atS h=if h=i then s' else S.atS h:=by
 unfold ChS.atS
 rw[e,ay,ay,List.getElem?_set]
 by_cases q:h=i
 ·subst q
  rw[if_pos rfl,if_pos hi,if_pos rfl];rfl
 ·rw[if_neg (Ne.symm q),if_neg q]
theorem ChS.atS_mem {S:ChS}{j:Nat}(h:j<S.st.length):S.atS j∈S.st:=by
 rw[ChS.atS_of (ae h)]
 exact bR h
theorem ChS.atS_out {S:ChS}{j:Nat}(h:¬j<S.st.length):S.atS j=⟨[],[],[],0⟩:=by
 unfold ChS.atS
 rw[ay,aS (by lia)]
 rfl
theorem ChS.Fine.mvlt {n:Nat}{S:ChS}(f:S.Fine n){j k:Nat}(h:k∈(S.atS j).mv):k<S.md.length:=by
 by_cases q:j<S.st.length
 ·exact f.wl.mv _ (ChS.atS_mem q) k h
 ·rw[ChS.atS_out q]at h;cases h
theorem ChS.Fine.tolt {n:Nat}{S:ChS}(f:S.Fine n){j:Nat}{x:Nat×Nat}(h:x∈(S.atS j).to):x.1<n/\x.2<S.md.length:=by
 by_cases q:j<S.st.length
 ·exact f.wl.to _ (ChS.atS_mem q) x h
 ·rw[ChS.atS_out q]at h;cases h
theorem ChS.Fine.set {n:Nat}{S S2:ChS}{k:Nat}{t:List Nat}(m:M7 n S S2 k t){i:Nat}{s':StS}(hto:∀x∈s'.to,x.1<n/\x.2<S2.md.length)(hmv:∀k∈s'.mv,k<S2.md.length):ChS.Fine n { S2 with st:=S.st.set i s' }:=by
 have f:=m.fine
 refine⟨⟨f.wl.md,λs hs=>?_,λs hs=>?_⟩,f.md0,f.pos,f.lnl⟩
 ·rcases eM hs with h|h
  ·exact f.wl.to s (by rw[m.st];exact h)
  ·rw[h];exact hto
 ·rcases eM hs with h|h
  ·exact f.wl.mv s (by rw[m.st];exact h)
  ·rw[h];exact hmv
theorem M7.at_ {n:Nat}{S S2:ChS}{k:Nat}{t:List Nat}(m:M7 n S S2 k t){i:Nat}(h:i<S.md.length):S2.md.getD i []=S.md.getD i []:=by
 obtain⟨l,e⟩:=m.md
 rw[e,g9 h]
theorem M7.lift {n:Nat}{S S2:ChS}{k:Nat}{t:List Nat}(m:M7 n S S2 k t){i:Nat}(h:i<S.md.length):i<S2.md.length:=by
 obtain⟨l,e⟩:=m.md
 rw[e,aq];lia
theorem M7.chn {n:Nat}{S S2 S':ChS}{k:Nat}{t:List Nat}(f:S.Fine n)(m:M7 n S S2 k t)(e:S'.md=S2.md){h:Nat}:((S'.atS h).mv=(S.atS h).mv->S'.chn.mv h=S.chn.mv h)/\((S'.atS h).to=(S.atS h).to->S'.chn.ring h=S.chn.ring h/\S'.chn.up h=S.chn.up h):=by
 refine⟨λq=>?_,λq=>⟨?_,?_⟩⟩
 ·funext s
  show(∃k∈(S'.atS h).mv,S'.md.getD k []=s)=(∃k∈(S.atS h).mv,S.md.getD k []=s)
  rw[q,e]
  refine propext ⟨λ⟨k,hk,z⟩=>⟨k,hk,?_⟩,λ⟨k,hk,z⟩=>⟨k,hk,?_⟩⟩
  ·rw[←m.at_ (f.mvlt hk)];exact z
  ·rw[m.at_ (f.mvlt hk)];exact z
 ·show(S'.atS h).to.map Prod.fst=_
  rw[q];rfl
 ·funext p
  show S'.md.getD ((atN (S'.atS h).to p).getD 0) []=S.md.getD ((atN (S.atS h).to p).getD 0) []
  rw[q,e]
  cases ea:atN (S.atS h).to p with
  | none=>exact m.at_ f.pos
  | some k=>exact m.at_ (f.tolt (R9 ea)).2
def ChS.look (S:ChS)(j:Nat):ChS:={ S with st:=S.st.set j { S.atS j with lk:=(S.atS j).lk+1 } }
theorem ChS.look_at {S:ChS}{j:Nat}(hj:j<S.st.length)(h:Nat):(S.look j).atS h=if h=j then { S.atS j with lk:=(S.atS j).lk+1 } else S.atS h:=ChS.atS_set (S':=S.look j) rfl hj h
theorem ChS.look_mv {S:ChS}{j:Nat}(hj:j<S.st.length)(h:Nat):((S.look j).atS h).mv=(S.atS h).mv/\((S.look j).atS h).to=(S.atS h).to/\((S.look j).atS h).wt=(S.atS h).wt:=by
 rw[ChS.look_at hj]
 by_cases q:h=j
 ·subst q;rw[if_pos rfl];exact⟨rfl,rfl,rfl⟩
 ·rw[if_neg q];exact⟨rfl,rfl,rfl⟩
theorem ChS.look_chn {S:ChS}{j:Nat}(hj:j<S.st.length):(S.look j).chn=S.chn:=by
 have h1:∀h,((S.look j).atS h).mv=(S.atS h).mv:=λh=>(ChS.look_mv hj h).1
 have h2:∀h,((S.look j).atS h).to=(S.atS h).to:=λh=>(ChS.look_mv hj h).2.1
 have h3:(S.look j).md=S.md:=rfl
 unfold ChS.chn
 simp only[h1,h2,h3]
theorem ChS.Inv.look {n:Nat}{S:ChS}(h:S.Inv n){j:Nat}(hj:j<n){x:Nat×Nat}(hx:(S.atS j).wt[(S.atS j).lk]?=some x)(g:S.chn.Good n j x.1 (S.md.getD x.2 [])):(S.look j).Inv n:=by
 have hj':j<S.st.length:=by rw[h.len];exact hj
 have hlt:=(al.mp hx).1
 have e:=λi=>ChS.look_mv (S:=S) hj' i
 have ec:=ChS.look_chn (S:=S) hj'
 refine⟨?_,h.bks.of rfl rfl rfl rfl,by show(S.st.set _ _).length=n;rw[bM];exact h.len,by rw[ec];exact h.ok,λi=>?_,λi=>by rw[(e i).1,(e i).2.1,(e i).2.2];exact h.wl i,λi=>by rw[(e i).1,(e i).2.1,(e i).2.2];exact h.wt i,λi=>by rw[(e i).1,(e i).2.1,(e i).2.2];exact h.wt' i,λi y hy=>?_,λi=>by rw[(e i).1];exact h.ind i⟩
 ·have m:=M7.refl h.fine h.fine.pos
  exact ChS.Fine.set m (λy hy=>h.fine.tolt hy) (λy hy=>h.fine.mvlt hy)
 ·rw[ChS.look_at hj']
  by_cases q:i=j
  ·subst q;rw[if_pos rfl];exact hlt
  ·rw[if_neg q];exact h.lk i
 ·rw[ec]
  show S.chn.Good n i y.1 (S.md.getD y.2 [])
  rw[ChS.look_at hj']at hy
  by_cases q:i=j
  ·subst q
   rw[if_pos rfl]at hy
   have hy:y∈(S.atS i).wt.take ((S.atS i).lk+1):=hy
   rw[bc,hx]at hy
   rcases aC.mp hy with z|z
   ·exact h.good i y z
   ·obtain rfl:y=x:=by simpa using z
    exact g
  ·rw[if_neg q]at hy
   exact h.good i y hy
theorem ym6 {l:List (Nat×Nat)}{p q k:Nat}(h:p≠q):atN (l++[(q,k)]) p=atN l p:=by
 unfold atN
 rw[dW]
 cases e:l.find? (λx=>decide (x.1=p)) with
 | some x=>rfl
 | none=>simp[Ne.symm h]
theorem zd9 {S S2:ChS}{n k:Nat}{t:List Nat}(f:S.Fine n)(m:M7 n S S2 k t)(j:Nat):((S.atS j).mv.map λk=>S2.md.getD k [])=((S.atS j).mv.map λk=>S.md.getD k []):=bF λx hx=>m.at_ (f.mvlt hx)
theorem ChS.Inv.place {n:Nat}{S S2:ChS}{j q k:Nat}{t:List Nat}(h:S.Inv n)(hj:j<n)(m:M7 n S S2 k t)(b:S2.Backs n)(hq:atN (S.atS j).to q=none)(hqn:q<n)(gt:TM.Grp n (S.chn.mv j) t)(ht:t.getD j 0=q) :
  ChS.Inv n { S2 with st:=S.st.set j ((S.atS j).putP q k) }/\TM.Chn.MoreP n S.chn (ChS.chn { S2 with st:=S.st.set j ((S.atS j).putP q k) }) j q t:=by
 obtain⟨S',hS'⟩:∃S',S'=({ S2 with st:=S.st.set j ((S.atS j).putP q k) }:ChS):=⟨_,rfl⟩
 rw[←hS']
 have hst:S'.st=S.st.set j ((S.atS j).putP q k):=by rw[hS']
 have hmd:S'.md=S2.md:=by rw[hS']
 have hj':j<S.st.length:=by rw[h.len];exact hj
 have ea:=λi=>ChS.atS_set hst hj' i
 have emv:∀i,(S'.atS i).mv=(S.atS i).mv:=λi=>by
  rw[ea i]
  by_cases e:i=j
  ·subst e;rw[if_pos rfl];rfl
  ·rw[if_neg e]
 have ej:S'.atS j=(S.atS j).putP q k:=by rw[ea j,if_pos rfl]
 have en:∀i,i≠j->S'.atS i=S.atS i:=λi e=>by rw[ea i,if_neg e]
 have mp:TM.Chn.MoreP n S.chn S'.chn j q t:=by
  refine⟨hj,V9.mp hq,hqn,gt,ht,funext λi=>(m.chn h.fine hmd).1 (emv i),?_,λi e=>((m.chn h.fine hmd).2 (by rw[en i e])).1,λp hp=>?_,?_,λi e=>((m.chn h.fine hmd).2 (by rw[en i e])).2⟩
  ·show(S'.atS j).to.map Prod.fst=(S.atS j).to.map Prod.fst++[q]
   rw[ej]
   show((S.atS j).to++[(q,k)]).map Prod.fst=_
   rw[aG];rfl
  ·show S'.md.getD ((atN (S'.atS j).to p).getD 0) []=S.md.getD ((atN (S.atS j).to p).getD 0) []
   rw[ej]
   show S'.md.getD ((atN ((S.atS j).to++[(q,k)]) p).getD 0) []=_
   rw[ym6 hp,hmd]
   cases e:atN (S.atS j).to p with
   | none=>exact m.at_ h.fine.pos
   | some k'=>exact m.at_ (h.fine.tolt (R9 e)).2
  ·show S'.md.getD ((atN (S'.atS j).to q).getD 0) []=t
   rw[ej]
   show S'.md.getD ((atN ((S.atS j).to++[(q,k)]) q).getD 0) []=t
   rw[zn4 hq,hmd]
   exact m.at'
 refine⟨⟨?_,?_,?_,mp.ok h.ok,λi=>?_,λi=>?_,λi p mm hp hm=>?_,λi x hx=>?_,λi x hx=>?_,λi=>?_⟩,mp⟩
 ·rw[hS']
  refine ChS.Fine.set m (λx hx=>?_) (λx hx=>m.lift (h.fine.mvlt hx))
  rcases aC.mp hx with z|z
  ·exact⟨(h.fine.tolt z).1,m.lift (h.fine.tolt z).2⟩
  ·rw[af.mp z];exact⟨hqn,m.lt⟩
 ·rw[hS'];exact b.of rfl rfl rfl rfl
 ·rw[hst,bM];exact h.len
 ·by_cases e:i=j
  ·subst e
   rw[ej]
   have:=h.lk i
   show(S.atS i).lk<=((S.atS i).wt++_).length
   rw[aq];lia
  ·rw[en i e];exact h.lk i
 ·by_cases e:i=j
  ·subst e
   rw[ej]
   have:=h.wl i
   show((S.atS i).wt++(S.atS i).mv.map λm=>(q,m)).length=((S.atS i).to++[(q,k)]).length*(S.atS i).mv.length
   rw[aq,aa,aq,bB,eA,dO,this]
  ·rw[en i e];exact h.wl i
 ·by_cases e:i=j
  ·subst e
   rw[ej]at hp hm ⊢
   have hp:p∈((S.atS i).to++[(q,k)]).map Prod.fst:=hp
   rw[aG]at hp
   show(p,mm)∈(S.atS i).wt++(S.atS i).mv.map λm=>(q,m)
   rcases aC.mp hp with z|z
   ·exact aH _ (h.wt i p mm z hm)
   ·have z:p=q:=af.mp z
    rw[z]
    exact aJ _ (au.mpr ⟨mm,hm,rfl⟩)
  ·rw[en i e]at hp hm ⊢;exact h.wt i p mm hp hm
 ·by_cases e:i=j
  ·subst e
   rw[ej]at hx ⊢
   have hx:x∈(S.atS i).wt++(S.atS i).mv.map λm=>(q,m):=hx
   show x.1∈((S.atS i).to++[(q,k)]).map Prod.fst/\x.2∈(S.atS i).mv
   rw[aG]
   rcases aC.mp hx with z|z
   ·exact⟨aH _ (h.wt' i x z).1,(h.wt' i x z).2⟩
   ·obtain⟨mm,hm,rfl⟩:=au.mp z
    exact⟨aJ _ (by simp),hm⟩
  ·rw[en i e]at hx ⊢;exact h.wt' i x hx
 ·have hx':x∈(S.atS i).wt.take (S.atS i).lk:=by
   by_cases e:i=j
   ·subst e
    rw[ej]at hx
    have hx:x∈((S.atS i).wt++(S.atS i).mv.map λm=>(q,m)).take (S.atS i).lk:=hx
    rwa [bG (h.lk i)]at hx
   ·rwa [en i e]at hx
  have hw:=h.wt' i x (bS hx')
  have g:=mp.good (i:=i) hw.1 (h.good i x hx')
  rw[hmd,m.at_ (h.fine.mvlt hw.2)]
  exact g
 ·rw[emv i,hmd,zd9 h.fine m]
  exact h.ind i
theorem ChS.Inv.mover {n:Nat}{S S2:ChS}{i k:Nat}{t:List Nat}(h:S.Inv n)(hi:i<n)(m:M7 n S S2 k t)(b:S2.Backs n)(tT:TM.IsT n t)(tF:TM.Fix i t)(dn:∀g,g+1=i->TM.Grp n (S.chn.mv g) t)(ng:¬TM.Grp n (S.chn.mv i) t) :
  ChS.Inv n { S2 with st:=S.st.set i ((S.atS i).putM k) }/\TM.Chn.MoreM n S.chn (ChS.chn { S2 with st:=S.st.set i ((S.atS i).putM k) }) i t:=by
 obtain⟨S',hS'⟩:∃S',S'=({ S2 with st:=S.st.set i ((S.atS i).putM k) }:ChS):=⟨_,rfl⟩
 rw[←hS']
 have hst:S'.st=S.st.set i ((S.atS i).putM k):=by rw[hS']
 have hmd:S'.md=S2.md:=by rw[hS']
 have hi':i<S.st.length:=by rw[h.len];exact hi
 have ea:=λg=>ChS.atS_set hst hi' g
 have eto:∀g,(S'.atS g).to=(S.atS g).to:=λg=>by
  rw[ea g]
  by_cases e:g=i
  ·subst e;rw[if_pos rfl];rfl
  ·rw[if_neg e]
 have ej:S'.atS i=(S.atS i).putM k:=by rw[ea i,if_pos rfl]
 have en:∀g,g≠i->S'.atS g=S.atS g:=λg e=>by rw[ea g,if_neg e]
 have mp:TM.Chn.MoreM n S.chn S'.chn i t:=by
  refine⟨hi,tT,tF,dn,λg s=>?_,funext λg=>((m.chn h.fine hmd).2 (eto g)).1,funext λg=>((m.chn h.fine hmd).2 (eto g)).2⟩
  by_cases e:g=i
  ·subst e
   show(∃k'∈(S'.atS g).mv,S'.md.getD k' []=s)↔((∃k'∈(S.atS g).mv,S.md.getD k' []=s)∨(g=g/\s=t))
   rw[ej,hmd]
   constructor
   ·rintro⟨k',hk,z⟩
    rcases aC.mp hk with y|y
    ·exact .inl ⟨k',y,by rw[←m.at_ (h.fine.mvlt y)];exact z⟩
    ·rw[af.mp y,m.at']at z
     exact .inr ⟨rfl,z.symm⟩
   ·rintro (⟨k',hk,z⟩|⟨_,z⟩)
    ·exact⟨k',aH _ hk,by rw[m.at_ (h.fine.mvlt hk)];exact z⟩
    ·exact⟨k,aJ _ (by simp),by rw[m.at',z]⟩
  ·rw[(m.chn h.fine hmd).1 (by rw[en g e])]
   exact⟨.inl,λz=>z.elim id λy=>absurd y.1 e⟩
 refine⟨⟨?_,?_,?_,mp.ok h.ok,λg=>?_,λg=>?_,λg p mm hp hm=>?_,λg x hx=>?_,λg x hx=>?_,λg=>?_⟩,mp⟩
 ·rw[hS']
  refine ChS.Fine.set m (λx hx=>⟨(h.fine.tolt hx).1,m.lift (h.fine.tolt hx).2⟩) (λx hx=>?_)
  rcases aC.mp hx with z|z
  ·exact m.lift (h.fine.mvlt z)
  ·rw[af.mp z];exact m.lt
 ·rw[hS'];exact b.of rfl rfl rfl rfl
 ·rw[hst,bM];exact h.len
 ·by_cases e:g=i
  ·subst e
   rw[ej]
   have:=h.lk g
   show(S.atS g).lk<=((S.atS g).wt++_).length
   rw[aq];lia
  ·rw[en g e];exact h.lk g
 ·by_cases e:g=i
  ·subst e
   rw[ej]
   have:=h.wl g
   show((S.atS g).wt++(S.atS g).to.map λx=>(x.1,k)).length=(S.atS g).to.length*((S.atS g).mv++[k]).length
   rw[aq,aa,aq,bB,Nat.mul_add,fh,this]
  ·rw[en g e];exact h.wl g
 ·by_cases e:g=i
  ·subst e
   rw[ej]at hp hm ⊢
   have hp:p∈(S.atS g).to.map Prod.fst:=hp
   have hm:mm∈(S.atS g).mv++[k]:=hm
   show(p,mm)∈(S.atS g).wt++(S.atS g).to.map λx=>(x.1,k)
   rcases aC.mp hm with z|z
   ·exact aH _ (h.wt g p mm hp z)
   ·rw[af.mp z]
    obtain⟨y,hy,e⟩:=au.mp hp
    exact aJ _ (au.mpr ⟨y,hy,by rw[e]⟩)
  ·rw[en g e]at hp hm ⊢;exact h.wt g p mm hp hm
 ·by_cases e:g=i
  ·subst e
   rw[ej]at hx ⊢
   have hx:x∈(S.atS g).wt++(S.atS g).to.map λx=>(x.1,k):=hx
   show x.1∈(S.atS g).to.map Prod.fst/\x.2∈(S.atS g).mv++[k]
   rcases aC.mp hx with z|z
   ·exact⟨(h.wt' g x z).1,aH _ (h.wt' g x z).2⟩
   ·obtain⟨y,hy,rfl⟩:=au.mp z
    exact⟨au.mpr ⟨y,hy,rfl⟩,by simp⟩
  ·rw[en g e]at hx ⊢;exact h.wt' g x hx
 ·have hx':x∈(S.atS g).wt.take (S.atS g).lk:=by
   by_cases e:g=i
   ·subst e
    rw[ej]at hx
    have hx:x∈((S.atS g).wt++(S.atS g).to.map λx=>(x.1,k)).take (S.atS g).lk:=hx
    rwa [bG (h.lk g)]at hx
   ·rwa [en g e]at hx
  have hw:=h.wt' g x (bS hx')
  have gd:=mp.good h.ok (h.good g x hx')
  rw[hmd,m.at_ (h.fine.mvlt hw.2)]
  exact gd
 ·by_cases e:g=i
  ·subst e
   rw[ej,hmd]
   show TM.Indep n (((S.atS g).mv++[k]).map λk=>S2.md.getD k [])
   rw[aG,zd9 h.fine m]
   show TM.Indep n (_++[S2.md.getD k []])
   rw[m.at']
   refine(h.ind g).snoc λz=>ng ?_
   refine TM.Grp.mono (h.ok.mvT g) (λs hs=>TM.Grp.of (h.ok.mvT g) ?_) z
   obtain⟨y,hy,e⟩:=au.mp hs
   exact⟨y,hy,e⟩
  ·rw[en g e,hmd,zd9 h.fine m];exact h.ind g
theorem ChS.putK_bl {n:Nat}{S:ChS}(i:Nat):(S.putK n i).2.bl.length<=S.bl.length+1:=by
 unfold ChS.putK
 cases e:atN S.bl i with
 | some k=>exact cF _
 | none =>
  show(S.bl++[_]).length<=_
  rw[aq];exact ag _
theorem ChS.atS_st {S S2:ChS}(e:S2.st=S.st)(j:Nat):S2.atS j=S.atS j:=by unfold ChS.atS;rw[e]
theorem ChS.Inv.grow {n:Nat}{S S2:ChS}{k:Nat}{t:List Nat}(h:S.Inv n)(m:M7 n S S2 k t)(b:S2.Backs n):S2.Inv n/\S2.chn=S.chn:=by
 have ea:=λj=>ChS.atS_st m.st j
 have ec:S2.chn=S.chn:=by
  have h1:S2.chn.mv=S.chn.mv:=funext λj=>(m.chn h.fine rfl).1 (by rw[ea j])
  have h2:S2.chn.ring=S.chn.ring:=funext λj=>((m.chn h.fine rfl).2 (by rw[ea j])).1
  have h3:S2.chn.up=S.chn.up:=funext λj=>((m.chn h.fine rfl).2 (by rw[ea j])).2
  show TM.Chn.mk S2.chn.mv S2.chn.ring S2.chn.up=TM.Chn.mk S.chn.mv S.chn.ring S.chn.up
  rw[h1,h2,h3]
 refine⟨⟨m.fine,b,by rw[m.st];exact h.len,by rw[ec];exact h.ok,λj=>by rw[ea j];exact h.lk j,λj=>by rw[ea j];exact h.wl j,λj=>by rw[ea j];exact h.wt j,λj=>by rw[ea j];exact h.wt' j,λj x hx=>?_,λj=>by rw[ea j,zd9 h.fine m];exact h.ind j⟩,ec⟩
 rw[ea j]at hx
 rw[ec,m.at_ (h.fine.mvlt (h.wt' j x (bS hx)).2)]
 exact h.good j x hx
def ChS.looks (S:ChS):Nat:=(S.st.map StS.lk).sum
theorem zm8 {l:List StS}:∀{j:Nat} {a s:StS},l[j]?=some s->((l.set j a).map StS.lk).sum+s.lk=(l.map StS.lk).sum+a.lk:=by
 induction l with
 | nil=>intro j a s h;cases h
 | cons x r ih =>
  intro j a s h
  cases j with
  | zero =>
   obtain rfl:x=s:=by simpa using h
   simp only[List.set_cons_zero,aR,eQ];lia
  | succ j =>
   have h':r[j]?=some s:=by simpa using h
   have:=ih (a:=a) h'
   simp only[List.set_cons_succ,aR,eQ];lia
theorem ChS.get_at {S:ChS}{j:Nat}(h:j<S.st.length):S.st[j]?=some (S.atS j):=by rw[ChS.atS_of (ae h)];exact ae h
theorem ChS.look_looks {S:ChS}{j:Nat}(h:j<S.st.length):(S.look j).looks=S.looks+1:=by
 have q:=zm8 (a:={ S.atS j with lk:=(S.atS j).lk+1 }) (ChS.get_at h)
 unfold ChS.looks ChS.look
 dsimp only at q ⊢
 lia
structure ChS.Next (n:Nat) (S S':ChS) (j:Nat) (b:Bool):Prop where
 inv:S'.Inv n
 looks:S'.looks=S.looks+1
 done:∀i,j<i->i<n->(b=true->i≠j+1)->S.Done i->S'.Done i
 more:b=true->j+1<n
 mv0:S'.chn.mv 0=S.chn.mv 0
 src:S'.src=S.src
 ln:S'.ln.length<=S.ln.length+3
 bl:S'.bl.length<=S.bl.length+1
theorem ChS.Inv.found {n:Nat}{S:ChS}{j:Nat}{x:Nat×Nat}(h:S.Inv n)(hj:j<n)(hx:(S.atS j).wt[(S.atS j).lk]?=some x)(d:∀i,j<i->i<n->S.Done i):ChS.Next n S ((S.found n j x.1 x.2).1.look j) j (S.found n j x.1 x.2).2:=by
 have hj':j<S.st.length:=by rw[h.len];exact hj
 have hw:=h.wt' j x (av hx)
 have hp:x.1∈S.chn.ring j:=hw.1
 have hs:S.chn.mv j (S.md.getD x.2 []):=⟨x.2,hw.2,rfl⟩
 have hm:=h.fine.mvlt hw.2
 obtain⟨k,hk⟩:∃k,atN (S.atS j).to x.1=some k:=by
  cases e:atN (S.atS j).to x.1 with
  | none=>exact absurd hp (V9.mp e)
  | some k=>exact⟨k,rfl⟩
 have hkl:k<S.md.length:=(h.fine.tolt (R9 hk)).2
 have eu:S.chn.up j x.1=S.md.getD k []:=ChS.chn_up hk
 have hu:=h.ok.upT hj hp
 have hsT:=h.ok.mvT j _ hs
 have mb:=h.fine.putB hkl hm
 obtain⟨b1,bl1⟩:=h.bks.putB h.fine.lnl hkl hm
 have et:(TM.beh (S.md.getD k []) (S.md.getD x.2 [])).getD j 0=(S.md.getD x.2 []).getD x.1 0:=by
  rw[←eu,TM.beh_get hu hj,h.ok.upTo j _ hj hp]
 have gt:TM.Grp n (S.chn.mv j) (TM.beh (S.md.getD k []) (S.md.getD x.2 [])):=by
  rw[←eu]
  exact .mul (h.ok.upG j _ hj hp) hs
 have tT:TM.IsT n (TM.beh (S.md.getD k []) (S.md.getD x.2 [])):=gt.isT (h.ok.mvT j)
 obtain⟨R,ef⟩:∃R,R=S.found n j x.1 x.2:=⟨_,rfl⟩
 rw[←ef]
 unfold ChS.found at ef
 simp only[hk,cY,et]at ef
 cases ea:atN (S.atS j).to ((S.md.getD x.2 []).getD x.1 0) with
 | none =>
  rw[ea]at ef
  dsimp only at ef
  have hqn:(S.md.getD x.2 []).getD x.1 0<n:=hsT.step_lt (h.ok.lt j _ hj hp)
  obtain⟨iv,mp⟩:=h.place hj mb b1 ea hqn gt et
  have g:=mp.new h.ok hp hs (by rw[eu])
  rw[ef]
  dsimp only
  generalize hS':({ (S.putB k x.2).2 with st:=S.st.set j ((S.atS j).putP ((S.md.getD x.2 []).getD x.1 0) (S.putB k x.2).1) }:ChS)=S' at iv mp g
  have hst:S'.st=S.st.set j ((S.atS j).putP ((S.md.getD x.2 []).getD x.1 0) (S.putB k x.2).1):=by rw[←hS']
  have hmd:S'.md=(S.putB k x.2).2.md:=by rw[←hS']
  have at':=λi=>ChS.atS_set hst hj' i
  have ej:S'.atS j=(S.atS j).putP ((S.md.getD x.2 []).getD x.1 0) (S.putB k x.2).1:=by rw[at' j,if_pos rfl]
  have hj2:j<S'.st.length:=by rw[hst,bM];exact hj'
  have hx':(S'.atS j).wt[(S'.atS j).lk]?=some x:=by
   rw[ej]
   show((S.atS j).wt++_)[(S.atS j).lk]?=some x
   rw[aI (al.mp hx).1]
   exact hx
  refine⟨iv.look hj hx' (by rw[hmd,mb.at_ hm];exact g),?_,λi hi hin _ dn=>?_,λz=>(by cases z),?_,(by show S'.src=_;rw[←hS'];exact ChS.putB_src _ _),?_,?_⟩
  ·rw[ChS.look_looks hj2]
   have q:=zm8 (a:=(S.atS j).putP ((S.md.getD x.2 []).getD x.1 0) (S.putB k x.2).1) (ChS.get_at hj')
   have q2:((S.atS j).putP ((S.md.getD x.2 []).getD x.1 0) (S.putB k x.2).1).lk=(S.atS j).lk:=rfl
   unfold ChS.looks
   rw[hst]
   lia
  ·unfold ChS.Done
   rw[ChS.look_at hj2,if_neg (by lia),at' i,if_neg (by lia)]
   exact dn
  ·rw[ChS.look_chn hj2,mp.emv]
  ·show S'.ln.length<=_
   have:=mb.len
   rw[←hS']
   show(S.putB k x.2).2.ln.length<=_
   lia
  ·show S'.bl.length<=_
   rw[←hS']
   show(S.putB k x.2).2.bl.length<=_
   rw[bl1];lia
 | some k2 =>
  rw[ea]at ef
  dsimp only at ef
  have hq:(S.md.getD x.2 []).getD x.1 0∈S.chn.ring j:=zd0 ea
  have eu2:S.chn.up j ((S.md.getD x.2 []).getD x.1 0)=S.md.getD k2 []:=ChS.chn_up ea
  have hk2:k2<S.md.length:=(h.fine.tolt (R9 ea)).2
  obtain⟨sg,sf⟩:=h.ok.schreier hj hp hs hq
  rw[eu,eu2]at sg sf
  have hyT:=sg.isT (h.ok.mvT j)
  have hh:=h.holds (j:=j+1) (by lia) (λi hi hin=>d i (by lia) hin) hyT sf
  cases hi:(K5 n S.md (S.st.drop (j+1)) (j+1) (TM.beh (TM.beh (S.md.getD k []) (S.md.getD x.2 [])) (TM.bk n (S.md.getD k2 []))) []).isSome with
  | true =>
   rw[hi,if_pos rfl]at ef
   rw[ef]
   dsimp only
   have g:S.chn.Good n j x.1 (S.md.getD x.2 []):=⟨hq,by rw[eu,eu2];exact hh.mp hi⟩
   refine⟨h.look hj hx g,ChS.look_looks hj',λi hi hin _ dn=>?_,λz=>(by cases z),?_,rfl,?_,?_⟩
   ·unfold ChS.Done
    rw[ChS.look_at hj',if_neg (by lia)]
    exact dn
   ·rw[ChS.look_chn hj']
   ·exact Nat.le_add_right _ _
   ·exact cF _
  | false =>
   rw[hi,if_neg (by decide)]at ef
   rw[ef]
   dsimp only
   have ng:¬TM.Grp n (S.chn.mv (j+1)) (TM.beh (TM.beh (S.md.getD k []) (S.md.getD x.2 [])) (TM.bk n (S.md.getD k2 []))):=λz=>by
    rw[hh.mpr z]at hi;cases hi
   have hj1:j+1<n:=by
    rcases eX (j+1) n with q|q
    ·exact q
    ·rw[cV (by rw[h.len];exact q),K5]at hi
     cases hi
   obtain⟨mk,b2⟩:=mb.fine.putK b1 (mb.lift hk2)
   have bl2:=ChS.putK_bl (n:=n) (S:=(S.putB k x.2).2) k2
   have m3:=mk.fine.putB (mk.lift mb.lt) mk.lt
   have src3:(((S.putB k x.2).2.putK n k2).2.putB (S.putB k x.2).1 ((S.putB k x.2).2.putK n k2).1).2.src=S.src:=by rw[ChS.putB_src,ChS.putK_src,ChS.putB_src]
   obtain⟨b3,bl3⟩:=b2.putB mk.fine.lnl (mk.lift mb.lt) mk.lt
   obtain⟨iv1,ec1⟩:=h.grow mb b1
   obtain⟨iv2,ec2⟩:=iv1.grow mk b2
   rw[ec1]at ec2
   rw[mk.at_ mb.lt,mb.at',mk.at',mb.at_ hk2]at m3
   generalize hS2:((S.putB k x.2).2.putK n k2).2=S2 at m3 b3 bl3 iv2 ec2 mk bl2 ef src3
   generalize hS3:S2.putB (S.putB k x.2).1 ((S.putB k x.2).2.putK n k2).1=S3 at m3 b3 bl3 ef src3
   have st2:S2.st=S.st:=by rw[mk.st,mb.st]
   have as2:=λi=>ChS.atS_st st2 i
   obtain⟨iv,mp⟩:=iv2.mover hj1 m3 b3 hyT sf (λg hg=>by
    obtain rfl:g=j:=by lia
    rw[ec2];exact sg) (by rw[ec2];exact ng)
   rw[as2,st2]at iv mp
   have g:=mp.new iv2.ok (j:=j) (p:=x.1) (s:=S.md.getD x.2 []) (by rw[ec2];exact hq) (by rw[ec2,eu,eu2])
   generalize hS':({ S3.2 with st:=S.st.set (j+1) ((S.atS (j+1)).putM S3.1) }:ChS)=S' at iv mp g
   have hj1':j+1<S.st.length:=by rw[h.len];exact hj1
   have hst:S'.st=S.st.set (j+1) ((S.atS (j+1)).putM S3.1):=by rw[←hS']
   have hmd:S'.md=S3.2.md:=by rw[←hS']
   have at':=λi=>ChS.atS_set hst hj1' i
   have hj2:j<S'.st.length:=by rw[hst,bM];exact hj'
   have ej:S'.atS j=S.atS j:=by rw[at' j,if_neg (by lia)]
   refine⟨iv.look hj (by rw[ej];exact hx) (by rw[hmd,m3.at_ (mk.lift (mb.lift hm)),mk.at_ (mb.lift hm),mb.at_ hm];exact g),?_,λi hi hin hne dn=>?_,λ_=>hj1,?_,(by show S'.src=_;rw[←hS'];exact src3),?_,?_⟩
   ·rw[ChS.look_looks hj2]
    have q:=zm8 (a:=(S.atS (j+1)).putM S3.1) (ChS.get_at hj1')
    have q2:((S.atS (j+1)).putM S3.1).lk=(S.atS (j+1)).lk:=rfl
    unfold ChS.looks
    rw[hst]
    lia
   ·unfold ChS.Done
    rw[ChS.look_at hj2,if_neg (by lia),at' i,if_neg (hne rfl)]
    exact dn
   ·rw[ChS.look_chn hj2,←ec2]
    funext s
    exact propext ((mp.emv 0 s).trans ⟨λz=>z.elim id λy=>absurd y.1 (by lia),.inl⟩)
   ·show S'.ln.length<=_
    have:=mb.len
    have:=mk.len
    have:=m3.len
    rw[←hS']
    show S3.2.ln.length<=_
    lia
   ·show S'.bl.length<=_
    rw[←hS']
    show S3.2.bl.length<=_
    rw[bl3]
    rw[bl1]at bl2
    exact bl2
theorem ChS.look_putB {S:ChS}(j k m:Nat):(S.look j).putB k m=((S.putB k m).1,(S.putB k m).2.look j):=by
 unfold ChS.putB
 by_cases e1:k=0
 ·rw[if_pos e1,if_pos e1]
 ·rw[if_neg e1,if_neg e1]
  by_cases e2:m=0
  ·rw[if_pos e2,if_pos e2]
  ·rw[if_neg e2,if_neg e2];rfl
theorem ChS.look_putK {S:ChS}(n j k:Nat):(S.look j).putK n k=((S.putK n k).1,(S.putK n k).2.look j):=by
 unfold ChS.putK
 have e:(S.look j).bl=S.bl:=rfl
 rw[e]
 cases q:atN S.bl k with
 | some k'=>rfl
 | none=>rfl
theorem ChS.found_look {n:Nat}{S:ChS}{j:Nat}(hj:j<S.st.length)(p m:Nat):(S.look j).found n j p m=((S.found n j p m).1.look j,(S.found n j p m).2):=by
 have ej:(S.look j).atS j={ S.atS j with lk:=(S.atS j).lk+1 }:=by rw[ChS.look_at hj,if_pos rfl]
 have ej1:(S.look j).atS (j+1)=S.atS (j+1):=by rw[ChS.look_at hj,if_neg (by lia)]
 have emd:(S.look j).md=S.md:=rfl
 have ed:(S.look j).st.drop (j+1)=S.st.drop (j+1):=List.drop_set_of_lt (by lia)
 unfold ChS.found
 simp only[ej,ej1,emd,ed,ChS.look_putB,ChS.look_putK]
 cases ea:atN (S.atS j).to ((TM.beh (S.md.getD ((atN (S.atS j).to p).getD 0) []) (S.md.getD m [])).getD j 0) with
 | none =>
  dsimp only
  refine Prod.ext ?_ rfl
  generalize hX:((atN (S.atS j).to p).getD 0)=k
  generalize hS':({ (S.putB k m).2 with st:=S.st.set j ((S.atS j).putP ((TM.beh (S.md.getD k []) (S.md.getD m [])).getD j 0) (S.putB k m).1) }:ChS)=S'
  have hst:S'.st=S.st.set j ((S.atS j).putP ((TM.beh (S.md.getD k []) (S.md.getD m [])).getD j 0) (S.putB k m).1):=by rw[←hS']
  have e:=ChS.atS_set hst hj j
  rw[if_pos rfl]at e
  show _=({ S' with st:=S'.st.set j { S'.atS j with lk:=(S'.atS j).lk+1 } }:ChS)
  rw[e,hst,List.set_set]
  show({ (S.putB k m).2.look j with st:=(S.st.set j _).set j _ }:ChS)=_
  rw[List.set_set,←hS']
  rfl
 | some k2 =>
  dsimp only
  by_cases hi:(K5 n S.md (S.st.drop (j+1)) (j+1) (TM.beh (TM.beh (S.md.getD ((atN (S.atS j).to p).getD 0) []) (S.md.getD m [])) (TM.bk n (S.md.getD k2 []))) []).isSome=true
  ·rw[if_pos hi,if_pos hi]
  ·rw[if_neg hi,if_neg hi]
   dsimp only
   refine Prod.ext ?_ rfl
   dsimp only
   generalize (((S.putB ((atN (S.atS j).to p).getD 0) m).2.putK n k2).2.putB (S.putB ((atN (S.atS j).to p).getD 0) m).1 ((S.putB ((atN (S.atS j).to p).getD 0) m).2.putK n k2).1)=Y
   show({ Y.2 with st:=(S.st.set j _).set (j+1) _ }:ChS)=({ Y.2 with st:=(S.st.set (j+1) _).set j _ }:ChS)
   rw[List.set_comm _ _ (show j≠j+1 by lia)]
   have e:(({ Y.2 with st:=S.st.set (j+1) ((S.atS (j+1)).putM Y.1) }:ChS)).atS j=S.atS j:=by
    unfold ChS.atS
    rw[ay,bU (by lia),ay]
   rw[e]
theorem xr9 {l:List StS}{b:Nat}(h:∀s∈l,s.lk<=b):(l.map StS.lk).sum<=l.length*b:=by
 induction l with
 | nil=>simp
 | cons x r ih =>
  have h1:=h x ax
  have h2:=ih λs hs=>h s (ao _ hs)
  rw[aR,eQ,aD,eA,dO]
  lia
theorem ChS.Inv.wt_le {n:Nat}{S:ChS}(hn:n<=60)(h:S.Inv n){j:Nat}(hj:j<n):(S.atS j).wt.length<=21240:=by
 rw[h.wl j]
 have h1:=h.ring hj
 have h2:=h.few hn j
 exact aW (Nat.mul_le_mul (aW h1 hn) h2) (by decide)
theorem ChS.mem_at {S:ChS}{s:StS}(h:s∈S.st):∃j,j<S.st.length/\S.atS j=s:=by
 obtain⟨j,hj,e⟩:=bv.mp h
 exact⟨j,hj,by rw[ChS.atS_of (ae hj),e]⟩
theorem ChS.Inv.looks_le {n:Nat}{S:ChS}(hn:n<=60)(h:S.Inv n):S.looks<=1274400:=by
 have q:=xr9 (l:=S.st) (b:=21240) λs hs=>by
  obtain⟨j,hj,rfl⟩:=ChS.mem_at hs
  exact aW (h.lk j) (h.wt_le hn (by rw[←h.len];exact hj))
 unfold ChS.looks
 rw[h.len]at q
 have:n*21240<=60*21240:=de _ hn
 lia
theorem ChS.Inv.few_look {n:Nat}{S:ChS}{c j:Nat}(hn:n<=60)(h:S.Inv n)(hj:j<n)(hc:c<=1000)(b1:S.ln.length<=3*S.looks+c)(b2:S.bl.length<=S.looks+c):(S.look j).Few/\(S.look j).Fine n:=by
 have q:=h.looks_le hn
 have hj':j<S.st.length:=by rw[h.len];exact hj
 refine⟨⟨by show S.ln.length<_;lia,by show S.bl.length<_;lia,λs hs=>?_⟩,ChS.Fine.set (M7.refl h.fine h.fine.pos) (λy hy=>h.fine.tolt hy) (λy hy=>h.fine.mvlt hy)⟩
 obtain⟨i,hi,rfl⟩:=ChS.mem_at hs
 have hi:i<n:=by
  have e:(S.look j).st.length=S.st.length:=bM
  rw[e,h.len]at hi;exact hi
 obtain⟨e1,e2,e3⟩:=ChS.look_mv hj' i
 rw[e1,e2,e3]
 have h1:=h.few hn i
 have h2:=h.ring hi
 have h3:=h.wt_le hn hi
 exact⟨by lia,by lia,by lia⟩
theorem X6 {X:Cx}{C:Addr}{k j:Nat}{m:Str}{ps:List Str}{sp:Sp}{o:Expr}{ta:TE}{apos pos:Pos}{pl:Sem Bool}(c:Cls X.K C)(kn:l4 X.prog X.w X.K X.mg X.base k C m ps sp)(hr:Y3 j X.A)(ho:PE X o ta)(hj:k<=j:=by decide)
  (ht:eval (.Call (.Attribute o m apos) [] [] pos) X.env=(do
   let v ←eval o X.env
   standAt apos.atName
   let (f,first) ←holding [v] (getMethod v m pl)
   callWith pos f first (backTo pos (fU [] X.env)) (backToKw pos (gf [] X.env))):=by rfl):PE X (.Call (.Attribute o m apos) [] [] pos) (yl3 C m sp [] E0 ta xs4):=by
 obtain⟨f,fd,G,hm,hb⟩:=kn
 exact xe6 ho c hm G (hr.mono hj) hb .nil zx6 ht
def yl0 (cC cB cS:Addr):Sp:=λvs H Q _=>∃(A:ChA) (S:ChS) (n c:Nat),vs=[.ref A.c]/\u0 cC cB cS n H A S/\S.Inv n/\0<n/\n<=60/\(∀i,0<i->i<n->S.Done i)/\c<=1000/\S.ln.length<=3*S.looks+c/\S.bl.length<=S.looks+c /\
 ∀(S':ChS) (H':Hp),y1 A.all H H'->u0 cC cB cS n H' A S'->S'.Inv n->(∀i,i<n->S'.Done i)->S'.chn.mv 0=S.chn.mv 0->S'.src=S.src->S'.ln.length<=3*S'.looks+c->S'.bl.length<=S'.looks+c->Q .non H'
theorem Z9:y4 ["self","level","pair"] ["self"] (z8 O6):=scq
theorem zk3 {cC cB cS:Addr}(F:Fun K "settle" "Chain.settle" O6 f fd)(B:Blt mg)(cc:p4 K cC Y4)(cs:p4 K cS K7)(MN:l4 P w K mg base 1 cS "next_pair" ["self"] (xg4 cS))(MF:l4 P w K mg base 4 cC "found_mover" ["self","level","place","mover"] (yt1 cC cB cS)):u6 P w K mg base CX0 5 f fd ["self"] (yl0 cC cB cS):=by
 refine F.ok Z9 (λvs H Q E h=>?_) (λcdv Ar outer sh H vs Q E hr h=>?_)
 ·obtain⟨A,S,n,c,rfl,_⟩:=h
  rfl
 obtain⟨A,S,n,c,rfl,ch0,iv0,hn0,hn,dn0,hc,bl0,bb0,q⟩:=h
 obtain⟨M,hM⟩:∃M:Nat,M=2000000:=⟨_,rfl⟩
 refine⟨_,z7 (y8 (i:=1) Z9.nd rfl (Or.inl rfl) x9)
  (z6 (ze9 PassesOwn.never (k8 xm8 (pv 1) x9 (n1 _))
   (z7 (y8 (i:=2) Z9.nd rfl (Or.inl rfl) (X6 cs.cls MN hr (d9 l9 (y3 (pv 0) rfl) (pv 1) (λ_ _=>rfl))))
   (z6 (l8 (B0 (xq9 (pv 2))) (z6 (yo2 (i:=1) Z9.nd rfl (Or.inl rfl) x9 xo9))
    (z6 (l8 (Y5 (l7 cc.cls MF hr (pv 0) (z0 (pv 1) (z0 (d9 C1 (pv 2) x9 (λ_ _=>rfl)) (z0 (d9 C1 (pv 2) x9 (λ_ _=>rfl)) z4)))))
     (z6 (yo2 (i:=1) Z9.nd rfl (Or.inl rfl) x9 xo7)) u8))))))),?_⟩
 refine⟨λm σ H2=>∃(S2:ChS) (lv:Int) (v2:Option V),σ=[some (.ref A.c),some (.int lv),v2]/\-1<=lv/\lv<n/\m=2*(M-S2.looks)+(lv+1).toNat/\y1 A.all H H2/\u0 cC cB cS n H2 A S2/\S2.Inv n/\(∀i:Nat,lv<i->i<n->S2.Done i)/\(S2.chn.mv 0=S.chn.mv 0/\S2.src=S.src)/\S2.ln.length<=3*S2.looks+c/\S2.bl.length<=S2.looks+c,⟨_,S,0,none,rfl,by lia,by lia,rfl,y1.refl,ch0,iv0,λi hi hin=>dn0 i (by lia) hin,⟨rfl,rfl⟩,bl0,bb0⟩,?_⟩
 rintro m σ H2 ⟨S2,lv,v2,rfl,l1,l2,rfl,fr,ch,iv,dn,e0,b1,b2⟩
 refine⟨_,rfl,_,_,rfl,rfl,_,rfl,?_⟩
 by_cases hlv:0<=lv
 ·rw[decide_eq_true hlv]
  refine Z1 ⟨_,λσ' H' z=>z,?_⟩
  obtain⟨j,rfl⟩:∃j:Nat,lv=(j:Int):=⟨lv.toNat,by lia⟩
  have hj:j<n:=by lia
  have hj':j<S2.st.length:=by rw[iv.len];exact hj
  obtain⟨dxc,hc'⟩:=ch.c
  obtain⟨a,hAj⟩:∃a,A.st[j]?=some a:=⟨_,ae (by rw[ch.len.1];exact hj)⟩
  have hs:=ChS.get_at hj'
  have st:=ch.st j a _ hAj hs
  obtain⟨dxs,hsa⟩:=st.a
  have ga:atI (A.st.map λs=>V.ref s.a) ((j:Nat):Int)=some (V.ref a.a):=d0 (by rw[ah,hAj];rfl)
  have hwl:=iv.wt_le hn hj
  refine⟨_,rfl,A.c,cC,dxc,_,_,rfl,hc',cc.cls,cc.no "steps" (by decide),rfl,_,rfl,A.l,_,_,_,rfl,rfl,SqL.of ch.l,ga,a.a,dxs,_,rfl,hsa,rfl,a,n,S2.md,j,S2.atS j,rfl,st,iv.lk j,by lia,λhd=>?_,λx r H3 hx hr3 fr3 st3=>?_⟩
  ·refine⟨_,rfl,_,rfl,Z1 ?_⟩
   refine⟨_,rfl,_,_,rfl,rfl,?_⟩
   refine⟨_,?_,S2,(j:Int)-1,_,rfl,by lia,by lia,rfl,fr,ch,iv,λi hi hin=>?_,e0,b1,b2⟩
   ·lia
   ·by_cases e:i=j
    ·rw[e];exact hd
    ·exact dn i (by lia) hin
  ·have nt:∀x∈[a.a],x∈a.all/\∀xs,H2 x≠some (.tup xs):=λx hx=>by
    rw[af.mp hx]
    exact⟨by simp[StA.all],λxs z=>by rw[hsa]at z;cases z⟩
   have ch3:u0 cC cB cS n H3 A (S2.look j):=ch.step hAj nt fr3 st3
   obtain⟨few,fin⟩:=iv.few_look hn hj hc b1 b2
   have hw:=iv.wt' j x (av hx)
   have nx:=iv.found hj hx (λi hi hin=>dn i (by lia) hin)
   have fl:=ChS.found_look (n:=n) (S:=S2) hj' x.1 x.2
   obtain⟨k,hk⟩:∃k,atN (S2.atS j).to x.1=some k:=by
    cases e:atN (S2.atS j).to x.1 with
    | none=>exact absurd hw.1 (V9.mp e)
    | some k=>exact⟨k,rfl⟩
   have hm:=iv.fine.mvlt hw.2
   obtain⟨dxc3,hc3⟩:=ch3.c
   have lks:=nx.inv.looks_le hn
   have lke:=nx.looks
   refine⟨_,rfl,_,rfl,i9 ?_⟩
   refine⟨_,rfl,A.c,dxc3,_,rfl,hc3,rfl,_,rfl,_,rfl,r,_,_,_,rfl,rfl,SqT.of hr3,rfl,_,rfl,r,_,_,_,rfl,rfl,SqT.of hr3,rfl,A,S2.look j,n,j,x.1,x.2,k,rfl,ch3,fin,iv.bks.of rfl rfl rfl rfl,few,hn,hj,by rw[(ChS.look_mv hj' j).2.1];exact hk,hm,λH4 fr4 ch4=>?_⟩
   rw[fl]at ch4 ⊢
   have fr':y1 A.all H H4:=fr.trans ((fr3.allS hAj λx hx=>(nt x hx).1).trans fr4)
   have ln':((S2.found n j x.1 x.2).1.look j).ln.length<=3*((S2.found n j x.1 x.2).1.look j).looks+c:=by have:=nx.ln;lia
   have bl':((S2.found n j x.1 x.2).1.look j).bl.length<=((S2.found n j x.1 x.2).1.look j).looks+c:=by have:=nx.bl;lia
   have e0':=And.intro (nx.mv0.trans e0.1) (nx.src.trans e0.2)
   refine⟨_,rfl,?_⟩
   cases hb:(S2.found n j x.1 x.2).2 with
   | true =>
    have hj1:=nx.more hb
    refine Z1 ?_
    refine⟨_,rfl,_,_,rfl,rfl,?_⟩
    refine⟨_,?_,(S2.found n j x.1 x.2).1.look j,(j:Int)+1,_,rfl,by lia,by lia,rfl,fr',ch4,nx.inv,λi hi hin=>nx.done i (by lia) hin (λ_=>by lia) (dn i (by lia) hin),e0',ln',bl'⟩
    lia
   | false =>
    refine i9 ?_
    refine⟨_,?_,(S2.found n j x.1 x.2).1.look j,(j:Int),_,rfl,by lia,by lia,rfl,fr',ch4,nx.inv,λi hi hin=>nx.done i (by lia) hin (λz=>by rw[hb]at z;cases z) (dn i (by lia) hin),e0',ln',bl'⟩
    lia
 ·rw[decide_eq_false hlv]
  refine i9 ?_
  exact q S2 H2 fr ch iv (λi hi=>dn i (by lia) hi) e0.1 e0.2 b1 b2
theorem zo3 {J:It}{fr:List Nat}{te:CT TE}{σ:St}{H1:Hp}{Q:Addr->Hp->Prop}{β:Type}(adr:β->Addr)(foot:β->List Addr)(R:Hp->Nat->β->Prop){n:Nat}(hz:n<=fQ)
  (hR:∀(H H':Hp) (D:Addr) (xs:List V) (i:Nat) (b:β),R H i b->H D=some (.lst xs)->y1 [D] H H'->D∉foot b->R H' i b)
  (hstop:∀H,y0 H1 H->J.stop n H) (hgo:∀i H,i<n->y0 H1 H->J.go i H)
  (turn:∀(i:Nat) H x H2,i<n->y0 H1 H->J.yld i H x H2->H2=H/\∀C₀ s₀ H₀ fp,te C₀ s₀ H₀ fp (some x::fr.map λj=>(σ[j]?).getD none) H λv H4=>y0 H H4/\∃b,v=.ref (adr b)/\R H4 i b/\(foot b).Nodup/\∀a∈foot b,H a=none/\∃o,H4 a=some o)
  (fin:∀D H (bs:List β),H1 D=none->y0 H1 H->H D=some (.lst (bs.map λb=>V.ref (adr b)))->bs.length=n->(∀i b,bs[i]?=some b->R H i b)->(bs.map foot).flatten.Nodup->(∀b∈bs,∀a∈foot b,H1 a=none/\a≠D)->Q D H) :
  ∀D,H1 D=none->∃W:Nat->Nat->St->Hp->Prop,(∃m,W 0 m (N5 1 fr σ) (upd H1 D (.lst [])))/\∀i m σ' H',W i m σ' H' ->
  (J.stop i H'/\Q D H')∨(J.go i H'/\∀x H2,J.yld i H' x H2->∀C₀ s₀ H₀ fp,U4 0 x σ' H2 λσ3 H3=>∃N:VK,te C₀ s₀ H₀ fp σ3 H3 N/\∀y H4,N y H4 ->
   ∃ys m',H4 D=some (.lst ys)/\ys.length<fQ/\m'<m/\W (i+1) m' σ3 (upd H4 D (.lst (ys++[y])))):=by
 intro D hD
 refine⟨λi m σ' H'=>m=n-i/\i<=n/\y0 H1 H'/\(∃bs:List β,H' D=some (.lst (bs.map λb=>V.ref (adr b)))/\bs.length=i/\(∀k b,bs[k]?=some b->R H' k b)/\(bs.map foot).flatten.Nodup/\∀b∈bs,∀a∈foot b,H1 a=none/\a≠D/\∃o,H' a=some o)/\∃z,σ'=z::fr.map λj=>(σ[j]?).getD none,
  ⟨n,rfl,aP _,y2 hD _,⟨[],z3,rfl,λk b h=>(by simp at h),by simp,λb h=>(by cases h)⟩,none,rfl⟩,?_⟩
 rintro i m σ' H' ⟨rfl,hi,sm,⟨bs,hl,hbl,hRs,hnd,hft⟩,z,rfl⟩
 by_cases hlt:i<n
 ·refine .inr ⟨hgo i H' hlt sm,λx H2 yl C₀ s₀ H₀ fp=>?_⟩
  obtain⟨e,tn⟩:=turn i H' x H2 hlt sm yl
  subst e
  refine⟨_,tn C₀ s₀ H₀ fp,λv H4 ⟨s4,b,hv,hRb,hndb,hfb⟩=>?_⟩
  subst hv
  have hD4:=s4 _ _ hl
  have fr4:y1 [D] H4 (upd H4 D (.lst (bs.map (λb=>V.ref (adr b))++[V.ref (adr b)]))):=y1.upd y1.refl (by simp) _
  have hDb:D∉foot b:=λh=>by
   have:=(hfb D h).1
   rw[hl]at this
   cases this
  have hDbs:∀c∈bs,D∉foot c:=λc hc h=>(hft c hc D h).2.1 rfl
  refine⟨_,n-(i+1),hD4,by rw[aa,hbl];lia,by lia,rfl,hlt,λc o e=>?_,⟨bs++[b],by rw[z3,aG];rfl,by rw[aq,hbl];rfl,λk c hk=>?_,?_,λc hc a ha=>?_⟩,_,rfl⟩
  ·rw[z5 (z9 e hD)]
   exact s4 _ _ (sm _ _ e)
  ·by_cases hk':k<bs.length
   ·rw[aI hk']at hk
    have hm:=hDbs c (av hk)
    exact hR H4 _ D _ k c (hR _ H4 D _ k c (hRs k c hk) hl (y0.frame s4) hm) hD4 fr4 hm
   ·have e:k=bs.length:=by
     have:=(al.mp hk).1
     rw[aq,bB]at this
     lia
    subst e
    rw[aZ (ag _),cq]at hk
    obtain rfl:b=c:=by simpa using hk
    rw[hbl]
    exact hR H4 _ D _ i b hRb hD4 fr4 hDb
  ·rw[aG,List.flatten_append]
   refine bu.mpr ⟨hnd,by simpa using hndb,λa ha c hc e=>?_⟩
   subst e
   obtain⟨l,hl1,hl2⟩:=cf.mp ha
   obtain⟨b',hb',rfl⟩:=au.mp hl1
   obtain⟨o,ho⟩:=(hft b' hb' a hl2).2.2
   have hc':a∈foot b:=by simpa using hc
   have:=(hfb a hc').1
   rw[ho]at this
   cases this
  ·rcases aC.mp hc with w|w
   ·obtain⟨h1,h2,o,ho⟩:=hft c w a ha
    exact⟨h1,h2,o,by rw[z5 h2];exact s4 _ _ ho⟩
   ·rw[af.mp w]at ha
    obtain⟨h1,o,ho⟩:=hfb a ha
    have hne:a≠D:=λz=>by
     rw[z,hl]at h1
     cases h1
    exact⟨sm.free h1,hne,o,by rw[z5 hne];exact ho⟩
 ·have e:i=n:=by lia
  subst e
  exact .inl ⟨hstop H' sm,fin D H' bs hD sm hl hbl hRs hnd λb hb a ha=>⟨(hft b hb a ha).1,(hft b hb a ha).2.1⟩⟩
def ChS.new (n:Nat)(sr:Nat->List Nat):ChS:=⟨[.still],[List.range n],[(0,0)],(List.range n).map λi=>⟨[],[(i,0)],[],0⟩,sr⟩
def yt0 (cB:Addr):Sp:=λvs H Q _=>∃(x dx:Addr) (n:Nat),vs=[.ref x,.int n]/\H x=some (.ins cB dx [])/\n<=60 /\
 ∀(ll lm d:Addr) (H':Hp),[ll,lm,d].Nodup->H ll=none->H lm=none->H d=none->y1 [x] H H'->(∀(A:ChA) (sr:Nat->List Nat),A.b=x->A.ll=ll->A.lm=lm->A.d=d->T7 cB H' A (ChS.new n sr))->Q .non H'
theorem zg9:y4 ["self","many"] ["self","many"] (z8 P2):=scq
theorem ya6 {cB:Addr}(F:Fun K "__init__" "Book.__init__" P2 f fd)(B:Blt mg)(cb:p4 K cB zd1)(KS:o7 P w K mg base 1 "still" ["many"] zm7)(GS:zt5 mg "STILL_LINE" (.int 0)):u6 P w K mg base CX0 2 f fd ["self","many"] (yt0 cB):=by
 refine F.ok zg9 (λvs H Q E h=>?_) (λcdv Ar outer s H vs Q E hr h=>?_)
 ·obtain⟨x,dx,n,rfl,_⟩:=h
  rfl
 obtain⟨x,dx,n,rfl,hx,hn,q⟩:=h
 have hz:=V1
 refine⟨_,z7 (i6 (pv 0) (U7 (z0 (J5 (z0 C8 z4)) z4)) rfl)
  (z7 (i6 (pv 0) (U7 (z0 (q9 KS hr rfl (z0 (pv 1) z4)) z4)) rfl)
  (z6 (i6 (pv 0) (yb8 (zr0 (zj3 GS rfl) (zj3 GS rfl) yc1) rfl rfl (dZ _ _) (by decide)) rfl))),?_⟩
 refine⟨(by show 1<=fQ;lia),λlr hlr=>?_⟩
 have s1:=y2 hlr (.tup [V.str "still"])
 have e1:(upd H lr (.tup [V.str "still"])) lr=some (.tup (lnV .still)):=z3
 generalize upd H lr (.tup [V.str "still"])=H1 at s1 e1 ⊢
 refine⟨(by show 1<=fQ;lia),λll hll=>?_⟩
 have s2:=s1.trans (y2 hll (.lst [V.ref lr]))
 have e2:=y2 hll (.lst [V.ref lr]) _ _ e1
 have l2:(upd H1 ll (.lst [V.ref lr])) ll=some (.lst [V.ref lr]):=z3
 have hll0:H ll=none:=s1.free hll
 generalize upd H1 ll (.lst [V.ref lr])=H2 at s2 e2 l2 ⊢
 refine⟨_,rfl,x,cB,dx,[],rfl,s2 _ _ hx,cb.cls,cb.no "lines" (by decide),by decide,?_⟩
 have xlr:lr≠x:=λz=>by subst z;rw[hx]at hlr;cases hlr
 have xll:ll≠x:=λz=>by subst z;rw[hx]at hll0;cases hll0
 have f3:y1 [x] H (upd H2 x (.ins cB dx (Y9 "lines" (V.ref ll) []))):=y1.upd (y0.frame s2) (by simp) _
 have x3:(upd H2 x (.ins cB dx (Y9 "lines" (V.ref ll) []))) x=some (.ins cB dx [("lines",.ref ll)]):=z3
 have e3:(upd H2 x (.ins cB dx (Y9 "lines" (V.ref ll) []))) lr=some (.tup (lnV .still)):=by rw[z5 xlr];exact e2
 have l3:(upd H2 x (.ins cB dx (Y9 "lines" (V.ref ll) []))) ll=some (.lst [V.ref lr]):=by rw[z5 xll];exact l2
 generalize upd H2 x (.ins cB dx (Y9 "lines" (V.ref ll) []))=H3 at f3 x3 e3 l3 ⊢
 refine⟨_,rfl,n,rfl,by lia,λtr H4 htr s4 ht4=>⟨(by show 1<=fQ;lia),λlm hlm=>?_⟩⟩
 have s5:=s4.trans (y2 hlm (.lst [V.ref tr]))
 have t5:=y2 hlm (.lst [V.ref tr]) _ _ ht4
 have m5:(upd H4 lm (.lst [V.ref tr])) lm=some (.lst [V.ref tr]):=z3
 have hlm3:H3 lm=none:=s4.free hlm
 generalize upd H4 lm (.lst [V.ref tr])=H5 at s5 t5 m5 ⊢
 have x5:=s5 _ _ x3
 refine⟨_,rfl,x,cB,dx,_,rfl,x5,cb.cls,cb.no "made" (by decide),by (show 1<1000;decide),?_⟩
 have xtr:tr≠x:=λz=>by subst z;rw[x3]at htr;cases htr
 have xlm:lm≠x:=λz=>by subst z;rw[x3]at hlm3;cases hlm3
 have ml:lm≠ll:=λz=>by subst z;rw[l3]at hlm3;cases hlm3
 have f6:y1 [x] H (upd H5 x (.ins cB dx (Y9 "made" (V.ref lm) [("lines",.ref ll)]))):=y1.upd (f3.trans (y0.frame s5)) (by simp) _
 have x6:(upd H5 x (.ins cB dx (Y9 "made" (V.ref lm) [("lines",.ref ll)]))) x=some (.ins cB dx [("lines",.ref ll),("made",.ref lm)]):=by rw[z3];rfl
 have e6:(upd H5 x (.ins cB dx (Y9 "made" (V.ref lm) [("lines",.ref ll)]))) lr=some (.tup (lnV .still)):=by rw[z5 xlr];exact s5 _ _ e3
 have l6:(upd H5 x (.ins cB dx (Y9 "made" (V.ref lm) [("lines",.ref ll)]))) ll=some (.lst [V.ref lr]):=by rw[z5 xll];exact s5 _ _ l3
 have t6:(upd H5 x (.ins cB dx (Y9 "made" (V.ref lm) [("lines",.ref ll)]))) tr=some (.tup (tI (List.range n))):=by rw[z5 xtr];exact t5
 have m6:(upd H5 x (.ins cB dx (Y9 "made" (V.ref lm) [("lines",.ref ll)]))) lm=some (.lst [V.ref tr]):=by rw[z5 xlm];exact m5
 have nn:H lm=none:=by
  cases e:H lm with
  | none=>rfl
  | some o =>
   have:=f3 lm o (by simpa using xlm) e
   rw[this]at hlm3
   cases hlm3
 generalize upd H5 x (.ins cB dx (Y9 "made" (V.ref lm) [("lines",.ref ll)]))=H6 at f6 x6 e6 l6 t6 m6 ⊢
 refine λd hd=>⟨z3,[(Sum.inl 0,V.int 0)],rfl,by decide,?_⟩
 have s7:y0 H6 (upd (upd H6 d (.dK [])) d (.dK (V3 [] [(Sum.inl 0,V.int 0)]))):=λb o h=>by
  have hb:=z9 h hd
  rw[z5 hb,z5 hb];exact h
 have d7:(upd (upd H6 d (.dK [])) d (.dK (V3 [] [(Sum.inl 0,V.int 0)]))) d=some (.dK (kI [(0,0)])):=by rw[z3];rfl
 generalize upd (upd H6 d (.dK [])) d (.dK (V3 [] [(Sum.inl 0,V.int 0)]))=H7 at s7 d7 ⊢
 refine⟨_,rfl,x,cB,dx,_,rfl,s7 _ _ x6,cb.cls,cb.no "back_lines" (by decide),by (show 2<1000;decide),?_⟩
 have xd:d≠x:=λz=>by subst z;rw[x6]at hd;cases hd
 have dl:d≠ll:=λz=>by subst z;rw[l6]at hd;cases hd
 have dm:d≠lm:=λz=>by subst z;rw[m6]at hd;cases hd
 have nd:H d=none:=by
  cases e:H d with
  | none=>rfl
  | some o =>
   have:=f6 d o (by simpa using xd) e
   rw[this]at hd
   cases hd
 refine q ll lm d _ (by simp;exact⟨⟨Ne.symm ml,Ne.symm dl⟩,Ne.symm dm⟩) hll0 nn nd (y1.upd (f6.trans (y0.frame s7)) (by simp) _) λA sr hAb hAl hAm hAd=>?_
 subst hAb hAl hAm hAd
 refine⟨⟨dx,by rw[z3];rfl⟩,⟨[lr],by rw[z5 xll];exact s7 _ _ l6,.cons ?_ .nil⟩,⟨[tr],by rw[z5 xlm];exact s7 _ _ m6,.cons ?_ .nil⟩,by rw[z5 xd];exact d7,rfl⟩
 ·rw[z5 xlr];exact s7 _ _ e6
 ·rw[z5 xtr];exact s7 _ _ t6
def yu4 (cS:Addr):Sp:=λvs H Q _=>∃(x dx:Addr) (i n:Nat),vs=[.ref x,.int i,.int n]/\H x=some (.ins cS dx [])/\n<=60 /\
 ∀(A:StA) (H':Hp),A.a=x->A.all.Nodup->(∀a∈A.all,a≠x->H a=none)->y1 [x] H H'->Z3 cS n [List.range n] H' A i ⟨[],[(i,0)],[],0⟩->Q .non H'
theorem zh2:y4 ["self","place","many"] ["self","place","many"] (z8 P3):=scq
theorem p6 {H:Hp}{x cS dx:Addr}{fs:List (Str×V)}{f:Str}{v:V}{fs':List (Str×V)}(e:Y9 f v fs=fs'):∃H',upd H x (.ins cS dx (Y9 f v fs))=H'/\y1 [x] H H'/\H' x=some (.ins cS dx fs'):=⟨_,rfl,y1.upd y1.refl (by simp) _,by rw[z3,e]⟩
theorem y1.keep {x b:Addr}{o:HO}{H H':Hp}(fr:y1 [x] H H')(h:H b=some o)(hb:b≠x):H' b=some o:=fr b o (by simpa using hb) h
theorem y1.free {x b:Addr}{H H':Hp}(fr:y1 [x] H H')(h:H' b=none)(hb:b≠x):H b=none:=by
 cases e:H b with
 | none=>rfl
 | some o =>
  rw[fr.keep e hb]at h
  cases h
theorem yb0 {cS:Addr}(F:Fun K "__init__" "Step.__init__" P3 f fd)(B:Blt mg)(cs:p4 K cS K7)(KS:o7 P w K mg base 1 "still" ["many"] zm7)(GS:zt5 mg "STILL_LINE" (.int 0)):u6 P w K mg base CX0 2 f fd ["self","place","many"] (yu4 cS):=by
 refine F.ok zh2 (λvs H Q E h=>?_) (λcdv Ar outer s H vs Q E hr h=>?_)
 ·obtain⟨x,dx,i,n,rfl,_⟩:=h
  rfl
 obtain⟨x,dx,i,n,rfl,hx,hn,q⟩:=h
 have hz:=V1
 refine⟨_,z7 (i6 (pv 0) (pv 1) rfl)
  (z7 (i6 (pv 0) (U7 z4) rfl)
  (z7 (i6 (pv 0) (yb8 (zr0 (pv 1) (zj3 GS rfl) yc1) rfl rfl (dZ _ _) (by decide)) rfl)
  (z7 (i6 (pv 0) (yb8 (zr0 (pv 1) (q9 KS hr rfl (z0 (pv 2) z4)) yc1) rfl rfl (dZ _ _) (by decide)) rfl)
  (z7 (i6 (pv 0) (U7 z4) rfl)
  (z6 (i6 (pv 0) x9 rfl)))))),?_⟩
 refine⟨_,rfl,_,rfl,x,cS,dx,[],rfl,hx,cs.cls,cs.no "place" (by decide),by decide,?_⟩
 obtain⟨H1,g1,f1,x1⟩:=p6 (H:=H) (x:=x) (cS:=cS) (dx:=dx) (f:="place") (v:=V.int i) (fs:=[]) (fs':=[("place",.int i)]) rfl
 rw[g1]
 refine⟨(by show 0<=fQ;lia),λm hm=>?_⟩
 have s2:=y2 hm (.lst [])
 have m2:(upd H1 m (.lst [])) m=some (.lst []):=z3
 generalize upd H1 m (.lst [])=H2 at s2 m2 ⊢
 have xm:m≠x:=λz=>by subst z;rw[x1]at hm;cases hm
 refine⟨_,rfl,x,cS,dx,_,rfl,s2 _ _ x1,cs.cls,cs.no "movers" (by decide),by (show 1<1000;decide),?_⟩
 obtain⟨H3,g3,f3,x3⟩:=p6 (H:=H2) (x:=x) (cS:=cS) (dx:=dx) (f:="movers") (v:=V.ref m) (fs:=[("place",.int i)]) (fs':=[("place",.int i),("movers",.ref m)]) rfl
 rw[g3]
 have F3:y1 [x] H H3:=(f1.trans (y0.frame s2)).trans f3
 have m3:=f3.keep m2 xm
 refine λd hd=>⟨_,rfl,z3,[(Sum.inl (i:Int),V.int 0)],rfl,(by show 1<=15;decide),?_⟩
 have s4:y0 H3 (upd (upd H3 d (.dK [])) d (.dK (V3 [] [(Sum.inl (i:Int),V.int 0)]))):=λb o h=>by
  have hb:=z9 h hd
  rw[z5 hb,z5 hb];exact h
 have d4:(upd (upd H3 d (.dK [])) d (.dK (V3 [] [(Sum.inl (i:Int),V.int 0)]))) d=some (.dK (kI [(i,0)])):=by rw[z3];rfl
 generalize upd (upd H3 d (.dK [])) d (.dK (V3 [] [(Sum.inl (i:Int),V.int 0)]))=H4 at s4 d4 ⊢
 have xd:d≠x:=λz=>by subst z;rw[x3]at hd;cases hd
 have dm:d≠m:=λz=>by subst z;rw[m3]at hd;cases hd
 refine⟨_,rfl,x,cS,dx,_,rfl,s4 _ _ x3,cs.cls,cs.no "line_to" (by decide),by (show 2<1000;decide),?_⟩
 obtain⟨H5,g5,f5,x5⟩:=p6 (H:=H4) (x:=x) (cS:=cS) (dx:=dx) (f:="line_to") (v:=V.ref d) (fs:=[("place",.int i),("movers",.ref m)]) (fs':=[("place",.int i),("movers",.ref m),("line_to",.ref d)]) rfl
 rw[g5]
 have F5:y1 [x] H H5:=(F3.trans (y0.frame s4)).trans f5
 have m5:=f5.keep (s4 _ _ m3) xm
 have d5:=f5.keep d4 xd
 refine λe he=>⟨_,rfl,_,rfl,n,rfl,by lia,λtr H6 htr s6 ht6=>⟨s6 _ _ z3,[(Sum.inl (i:Int),V.ref tr)],rfl,(by show 1<=15;decide),?_⟩⟩
 have s6':y0 H5 H6:=(y2 he _).trans s6
 have te:tr≠e:=λz=>by subst z;rw[z3]at htr;cases htr
 have s7:y0 H5 (upd H6 e (.dK (V3 [] [(Sum.inl (i:Int),V.ref tr)]))):=λb o h=>by
  rw[z5 (z9 h he)];exact s6' _ _ h
 have e7:(upd H6 e (.dK (V3 [] [(Sum.inl (i:Int),V.ref tr)]))) e=some (.dK (kR [(i,0)] [tr])):=by rw[z3];rfl
 have t7:(upd H6 e (.dK (V3 [] [(Sum.inl (i:Int),V.ref tr)]))) tr=some (.tup (tI (List.range n))):=by rw[z5 te];exact ht6
 generalize upd H6 e (.dK (V3 [] [(Sum.inl (i:Int),V.ref tr)]))=H7 at s7 e7 t7 ⊢
 have xe:e≠x:=λz=>by subst z;rw[x5]at he;cases he
 have em:e≠m:=λz=>by subst z;rw[m5]at he;cases he
 have ed:e≠d:=λz=>by subst z;rw[d5]at he;cases he
 have xt:tr≠x:=λz=>by
  subst z
  rw[z5 te,x5]at htr
  cases htr
 refine⟨_,rfl,x,cS,dx,_,rfl,s7 _ _ x5,cs.cls,cs.no "back_from" (by decide),by (show 3<1000;decide),?_⟩
 obtain⟨H8,g8,f8,x8⟩:=p6 (H:=H7) (x:=x) (cS:=cS) (dx:=dx) (f:="back_from") (v:=V.ref e) (fs:=[("place",.int i),("movers",.ref m),("line_to",.ref d)]) (fs':=[("place",.int i),("movers",.ref m),("line_to",.ref d),("back_from",.ref e)]) rfl
 rw[g8]
 have F8:y1 [x] H H8:=(F5.trans (y0.frame s7)).trans f8
 have m8:=f8.keep (s7 _ _ m5) xm
 have d8:=f8.keep (s7 _ _ d5) xd
 have e8:=f8.keep e7 xe
 have t8:=f8.keep t7 xt
 refine⟨(by show 0<=fQ;lia),λwa hw=>?_⟩
 have s9:=y2 hw (.lst [])
 have w9:(upd H8 wa (.lst [])) wa=some (.lst []):=z3
 generalize upd H8 wa (.lst [])=H9 at s9 w9 ⊢
 have xw:wa≠x:=λz=>by subst z;rw[x8]at hw;cases hw
 have wm:wa≠m:=λz=>by subst z;rw[m8]at hw;cases hw
 have wd:wa≠d:=λz=>by subst z;rw[d8]at hw;cases hw
 have we:wa≠e:=λz=>by subst z;rw[e8]at hw;cases hw
 refine⟨_,rfl,x,cS,dx,_,rfl,s9 _ _ x8,cs.cls,cs.no "waiting" (by decide),by (show 4<1000;decide),?_⟩
 obtain⟨H10,g10,f10,x10⟩:=p6 (H:=H9) (x:=x) (cS:=cS) (dx:=dx) (f:="waiting") (v:=V.ref wa) (fs:=[("place",.int i),("movers",.ref m),("line_to",.ref d),("back_from",.ref e)]) (fs':=[("place",.int i),("movers",.ref m),("line_to",.ref d),("back_from",.ref e),("waiting",.ref wa)]) rfl
 rw[g10]
 have F10:y1 [x] H H10:=(F8.trans (y0.frame s9)).trans f10
 refine⟨_,rfl,x,cS,dx,_,rfl,x10,cs.cls,cs.no "looked_at" (by decide),by (show 5<1000;decide),?_⟩
 obtain⟨H11,g11,f11,x11⟩:=p6 (H:=H10) (x:=x) (cS:=cS) (dx:=dx) (f:="looked_at") (v:=V.int 0) (fs:=[("place",.int i),("movers",.ref m),("line_to",.ref d),("back_from",.ref e),("waiting",.ref wa)]) (fs':=[("place",.int i),("movers",.ref m),("line_to",.ref d),("back_from",.ref e),("waiting",.ref wa),("looked_at",.int 0)]) rfl
 rw[g11]
 have F11:y1 [x] H H11:=F10.trans f11
 have k:∀{b:Addr} {o:HO},H8 b=some o->b≠x->H11 b=some o:=λh hb=>f11.keep (f10.keep (s9 _ _ h) hb) hb
 have w11:H11 wa=some (.lst []):=f11.keep (f10.keep w9 xw) xw
 have nd0:H d=none:=F3.free hd xd
 have nm0:H m=none:=f1.free hm xm
 have ne0:H e=none:=F5.free he xe
 have nw0:H wa=none:=F8.free hw xw
 refine q ⟨x,m,d,e,wa⟩ H11 rfl ?_ ?_ F11 ⟨⟨dx,x11⟩,k m8 xm,k d8 xd,⟨[tr],k e8 xe,.cons ?_ .nil⟩,⟨[],w11,.nil⟩⟩
 ·simp only[StA.all,aK,aw,aV,not_or,or_false,bD,not_false_eq_true,dL,and_true]
  exact⟨⟨Ne.symm xm,Ne.symm xd,Ne.symm xe,Ne.symm xw⟩,⟨Ne.symm dm,Ne.symm em,Ne.symm wm⟩,⟨Ne.symm ed,Ne.symm wd⟩,Ne.symm we⟩
 ·intro a ha hax
  simp only[StA.all,aw,aV,or_false,bD]at ha
  rcases ha with h|h|h|h|h
  ·exact absurd h hax
  ·rw[h];exact nm0
  ·rw[h];exact nd0
  ·rw[h];exact ne0
  ·rw[h];exact nw0
 ·show H11 tr=some (.tup (tI (TM.bk n (List.range n))))
  rw[TM.bk_still]
  exact k t8 xt
theorem ChS.new_at {sr:Nat->List Nat}(n j:Nat):(ChS.new n sr).atS j=if j<n then⟨[],[(j,0)],[],0⟩ else⟨[],[],[],0⟩:=by
 unfold ChS.atS ChS.new
 rw[ay,ah]
 by_cases h:j<n
 ·rw[bh h,if_pos h];rfl
 ·rw[aS (by rw[aN];lia),if_neg h];rfl
theorem ChS.new_mv {sr:Nat->List Nat}(n j:Nat):((ChS.new n sr).atS j).mv=[]:=by
 rw[ChS.new_at]
 by_cases h:j<n
 ·rw[if_pos h]
 ·rw[if_neg h]
theorem ChS.new_wt {sr:Nat->List Nat}(n j:Nat):((ChS.new n sr).atS j).wt=[]/\((ChS.new n sr).atS j).lk=0:=by
 rw[ChS.new_at]
 by_cases h:j<n
 ·rw[if_pos h];exact⟨rfl,rfl⟩
 ·rw[if_neg h];exact⟨rfl,rfl⟩
theorem ChS.new_nomv {sr:Nat->List Nat}(n j:Nat)(s:List Nat):¬(ChS.new n sr).chn.mv j s:=λ⟨k,hk,_⟩=>by
 rw[ChS.new_mv]at hk
 cases hk
theorem ChS.new_ring {sr:Nat->List Nat}{n j:Nat}(h:j<n):(ChS.new n sr).chn.ring j=[j]:=by
 show((ChS.new n sr).atS j).to.map Prod.fst=[j]
 rw[ChS.new_at,if_pos h]
 rfl
theorem ChS.new_up {sr:Nat->List Nat}{n j:Nat}(h:j<n)(p:Nat):(ChS.new n sr).chn.up j p=List.range n:=by
 show(ChS.new n sr).md.getD ((atN ((ChS.new n sr).atS j).to p).getD 0) []=_
 have e:(atN ((ChS.new n sr).atS j).to p).getD 0=0:=by
  rw[ChS.new_at,if_pos h]
  unfold atN
  by_cases q:j=p
  ·rw[cQ (by simpa using q)];rfl
  ·rw[cU (by simpa using q)];rfl
 rw[e]
 rfl
theorem ChS.new_inv {sr:Nat->List Nat}(n:Nat):(ChS.new n sr).Inv n where
 fine:=by
  refine⟨⟨λt ht=>?_,λs hs x hx=>?_,λs hs k hk=>?_⟩,rfl,eh,rfl⟩
  ·rw[af.mp ht];exact TM.IsT.range n
  ·obtain⟨i,hi,rfl⟩:=au.mp hs
   rw[af.mp hx]
   exact⟨bg.mp hi,eh⟩
  ·obtain⟨i,hi,rfl⟩:=au.mp hs
   cases hk
 bks:=by
  refine⟨λi k h=>?_,λi l t h1 h2=>?_⟩
  ·have h:atN [(0,0)] i=some k:=h
   have hm:=R9 h
   have e:=af.mp hm
   have e1:i=0:=congrArg Prod.fst e
   have e2:k=0:=congrArg Prod.snd e
   subst e1;subst e2
   refine⟨eh,eh,?_⟩
   show List.range n=TM.bk n (List.range n)
   rw[TM.bk_still]
  ·have h1:[TM.Ln.still][i]?=some l:=h1
   have h2:[List.range n][i]?=some t:=h2
   match i,h1,h2 with
   | 0,h1,h2 =>
    cases h1
    cases h2
    rfl
 len:=by show((List.range n).map _).length=n;rw[aa,aN]
 ok:=by
  refine⟨λj s h=>absurd h (ChS.new_nomv n j s),λj s h=>absurd h (ChS.new_nomv n j s),λj s h=>absurd h (ChS.new_nomv n (j+1) s),λj s _=>ChS.new_nomv n j s,λj h=>?_,λj p h hp=>?_,λj h=>?_,λj p h hp=>?_,λj p h hp=>?_,λj h=>ChS.new_up h j⟩
  ·rw[ChS.new_ring h];simp
  ·rw[ChS.new_ring h]at hp;rw[af.mp hp];exact h
  ·rw[ChS.new_ring h];simp
  ·rw[ChS.new_up h];exact .one
  ·rw[ChS.new_ring h]at hp;rw[ChS.new_up h,TM.still_get h,af.mp hp]
 lk:=λj=>by rw[(ChS.new_wt n j).2];exact aP _
 wl:=λj=>by rw[(ChS.new_wt n j).1,ChS.new_mv];simp
 wt:=λj p m _ hm=>by rw[ChS.new_mv]at hm;cases hm
 wt':=λj x hx=>by rw[(ChS.new_wt n j).1]at hx;cases hx
 good:=λj x hx=>by rw[(ChS.new_wt n j).1,List.take_nil]at hx;cases hx
 ind:=λj=>by
  rw[ChS.new_mv]
  intro i s h
  simp at h
theorem ChS.new_done {sr:Nat->List Nat}(n j:Nat):(ChS.new n sr).Done j:=by
 unfold ChS.Done
 rw[(ChS.new_wt n j).1,(ChS.new_wt n j).2]
 rfl
def zs4 (cC cB cS:Addr):Sp:=λvs H Q _=>∃(x dx:Addr) (n:Nat),vs=[.ref x,.int n]/\H x=some (.ins cC dx [])/\n<=60 /\
 ∀(A:ChA) (H':Hp),A.c=x->(∀a∈A.all,a≠x->H a=none)->y1 [x] H H'->(∀sr:Nat->List Nat,u0 cC cB cS n H' A (ChS.new n sr))->Q .non H'
theorem zf0:y4 ["self","many"] ["self","many"] (z8 R0):=scq
theorem zu0 {cC cB cS:Addr}(F:Fun K "__init__" "Chain.__init__" R0 f fd)(B:Blt mg)(cc:p4 K cC Y4)(KB:zt6 P w K mg base 2 cB "Book" ["self","many"] (yt0 cB))(KT:zt6 P w K mg base 2 cS "Step" ["self","place","many"] (yu4 cS)):u6 P w K mg base CX0 4 f fd ["self","many"] (zs4 cC cB cS):=by
 refine F.ok zf0 (λvs H Q E h=>?_) (λcdv Ar outer s H vs Q E hr h=>?_)
 ·obtain⟨x,dx,n,rfl,_⟩:=h
  rfl
 obtain⟨x,dx,n,rfl,hx,hn,q⟩:=h
 have hz:=V1
 refine⟨_,z7 (i6 (pv 0) (J4 KB hr rfl (z0 (pv 1) z4)) rfl)
  (z6 (i6 (pv 0) (c7 [1] ["place","many"] rfl (A7 rfl B.range (z0 (pv 1) z4)) (λ_ _ _ _=>J4 KT hr rfl (z0 (pv 0) (z0 (pv 1) z4)))) rfl)),?_⟩
 refine⟨_,rfl,λb db hb hdb hne=>⟨b,db,n,rfl,z3,hn,λll lm d H1 hnd hll hlm hd fr bk=>⟨rfl,?_⟩⟩⟩
 have s0:y0 H (upd (upd H db (.own b)) b (.ins cB db [])):=λc o h=>by
  rw[z5 (z9 h hb),z5 (z9 h hdb)];exact h
 have fre:∀{c:Addr},(upd (upd H db (.own b)) b (.ins cB db [])) c=none->H c=none:=λ{c} h=>s0.free h
 have cb:∀{c:Addr},(upd (upd H db (.own b)) b (.ins cB db [])) c=none->c≠b:=λ{c} h z=>by
  rw[z,z3]at h
  cases h
 have s1:y0 H H1:=λc o h=>fr c o (by simpa using z9 h hb) (s0 _ _ h)
 have xb:b≠x:=λz=>by subst z;rw[hx]at hb;cases hb
 refine⟨_,rfl,x,cC,dx,[],rfl,s1 _ _ hx,cc.cls,cc.no "book" (by decide),by decide,?_⟩
 obtain⟨H2,g2,f2,x2⟩:=p6 (H:=H1) (x:=x) (cS:=cC) (dx:=dx) (f:="book") (v:=V.ref b) (fs:=[]) (fs':=[("book",.ref b)]) rfl
 rw[g2]
 have F2:y1 [x] H H2:=(y0.frame s1).trans f2
 have xl:ll≠x:=λz=>by have:=fre hll;rw[z,hx]at this;cases this
 have xm:lm≠x:=λz=>by have:=fre hlm;rw[z,hx]at this;cases this
 have xd:d≠x:=λz=>by have:=fre hd;rw[z,hx]at this;cases this
 obtain⟨A0,hA0⟩:∃A0:ChA,A0=⟨x,b,ll,lm,d,x,[]⟩:=⟨_,rfl⟩
 have bk1:=λsr=>bk A0 sr (by rw[hA0]) (by rw[hA0]) (by rw[hA0]) (by rw[hA0])
 have hA0b:A0.b=b:=by rw[hA0]
 have hA0l:A0.ll=ll:=by rw[hA0]
 have hA0m:A0.lm=lm:=by rw[hA0]
 have hA0d:A0.d=d:=by rw[hA0]
 have keep:∀{H3:Hp},y1 [x] H1 H3->∀sr:Nat->List Nat,T7 cB H3 A0 (ChS.new n sr):=λ{H3} fr3 sr=>by
  obtain⟨⟨dxb,h1⟩,⟨las,h2,h2'⟩,⟨mas,h3,h3'⟩,h4,h5⟩:=id (bk1 sr)
  have hx1:=s1 _ _ hx
  have kt:∀{c:Addr} {xs:List V},H1 c=some (.tup xs)->H3 c=some (.tup xs):=λ{c xs} e=>fr3.keep e (λz=>by subst z;rw[hx1]at e;cases e)
  exact⟨⟨dxb,fr3.keep h1 (by rw[hA0b];exact xb)⟩,⟨las,fr3.keep h2 (by rw[hA0l];exact xl),Paired.imp' (λ_ _ z=>kt z) h2'⟩,⟨mas,fr3.keep h3 (by rw[hA0m];exact xm),Paired.imp' (λ_ _ z=>kt z) h3'⟩,fr3.keep h4 (by rw[hA0d];exact xd),h5⟩
 have bk2:=keep f2 λ_=>[]
 refine⟨_,rfl,(n:Int),rfl,by lia,by lia,?_⟩
 rw[show((n:Int)).toNat=n by lia]
 refine zo3 (J:=Itr 0 n) StA.a StA.all (λH i b=>Z3 cS n [List.range n] H b i ⟨[],[(i,0)],[],0⟩) (n:=n) (by lia) (λH3 H4 D xs i b st hD fr hDb=>st.frame fr λy hy=>?_) (λ_ _=>ag _) (λi _ hi _=>hi) ?_ ?_
 ·rw[af.mp hy]
  exact⟨hDb,λys z=>by rw[hD]at z;cases z⟩
 ·rintro i H3 v H4 hi s3 ⟨rfl,rfl⟩
  refine⟨rfl,λ_ _ _ _=>?_⟩
  rw[show(0:Int)+(i:Int)=(i:Int) by lia]
  refine⟨_,rfl,_,rfl,λy dy hy hdy hyne=>⟨y,dy,i,n,rfl,z3,hn,λA H5 hA nd free fr5 st=>⟨rfl,λc o h=>?_,A,by rw[hA],st,nd,λa ha=>⟨?_,?_⟩⟩⟩⟩
  ·exact fr5 c o (by simpa using z9 h hy) (by rw[z5 (z9 h hy),z5 (z9 h hdy)];exact h)
  ·by_cases e:a=y
   ·rw[e];exact hy
   ·have:=free a ha e
    rw[z5 e]at this
    by_cases e2:a=dy
    ·rw[e2];exact hdy
    ·rwa [z5 e2]at this
  ·obtain⟨⟨dxs,h1⟩,h2,h3,⟨bs,h4,_⟩,⟨ws,h5,_⟩⟩:=st
   simp only[StA.all,aw,aV,or_false,bD]at ha
   rcases ha with e|e|e|e|e <;> rw[e]
   ·exact⟨_,h1⟩
   ·exact⟨_,h2⟩
   ·exact⟨_,h3⟩
   ·exact⟨_,h4⟩
   ·exact⟨_,h5⟩
 ·intro D H3 bs hD s3 hl hbl hst hnd2 hfree
  have hDx:D≠x:=λz=>by subst z;rw[x2]at hD;cases hD
  refine⟨_,rfl,x,cC,dx,_,rfl,s3 _ _ x2,cc.cls,cc.no "steps" (by decide),by (show 1<1000;decide),?_⟩
  obtain⟨H4,g4,f4,x4⟩:=p6 (H:=H3) (x:=x) (cS:=cC) (dx:=dx) (f:="steps") (v:=V.ref D) (fs:=[("book",.ref b)]) (fs':=[("book",.ref b),("steps",.ref D)]) rfl
  rw[g4]
  have F4:y1 [x] H H4:=(F2.trans (y0.frame s3)).trans f4
  have bk4:=keep ((f2.trans (y0.frame s3)).trans f4)
  have hb2:H2 b≠none:=λz=>by
   obtain⟨dxb,h1⟩:=bk2.b
   rw[hA0b,z]at h1
   cases h1
  have hl2:H2 ll≠none:=λz=>by
   obtain⟨las,h1,_⟩:=bk2.ll
   rw[hA0l,z]at h1
   cases h1
  have hm2:H2 lm≠none:=λz=>by
   obtain⟨las,h1,_⟩:=bk2.lm
   rw[hA0m,z]at h1
   cases h1
  have hd2:H2 d≠none:=λz=>by
   have h1:=bk2.d
   rw[hA0d,z]at h1
   cases h1
  have hx2:H2 x≠none:=λz=>by rw[x2]at z;cases z
  refine q ⟨x,b,ll,lm,d,D,bs⟩ H4 rfl ?_ F4 λsr=>⟨?_,⟨dx,x4⟩,?_,f4.keep hl hDx,⟨hbl,?_⟩,λi a s ha hs=>?_⟩
  ·intro a ha hax
   simp only[ChA.all,aC,aw,aV,or_false,bD]at ha
   rcases ha with (e|e|e|e|e|e)|e
   ·exact absurd e hax
   ·rw[e];exact hb
   ·rw[e];exact fre hll
   ·rw[e];exact fre hlm
   ·rw[e];exact fre hd
   ·rw[e];exact F2.free hD hDx
   ·obtain⟨l,hl1,hl2⟩:=cf.mp e
    obtain⟨b',hb',rfl⟩:=au.mp hl1
    exact F2.free (hfree b' hb' a hl2).1 hax
  ·refine bu.mpr ⟨?_,hnd2,λa ha c hc e=>?_⟩
   ·simp only[aK,aw,aV,not_or,or_false,bD,not_false_eq_true,dL,and_true]at hnd ⊢
    refine⟨⟨Ne.symm xb,Ne.symm xl,Ne.symm xm,Ne.symm xd,Ne.symm hDx⟩,⟨Ne.symm (cb hll),Ne.symm (cb hlm),Ne.symm (cb hd),λz=>hb2 (z ▸ hD)⟩,⟨hnd.1.1,hnd.1.2,λz=>hl2 (z ▸ hD)⟩,⟨hnd.2,λz=>hm2 (z ▸ hD)⟩,λz=>hd2 (z ▸ hD)⟩
   ·subst e
    obtain⟨l,hl1,hl3⟩:=cf.mp hc
    obtain⟨b',hb',rfl⟩:=au.mp hl1
    obtain⟨h1,h2⟩:=hfree b' hb' a hl3
    simp only[aw,aV,or_false,bD]at ha
    rcases ha with e|e|e|e|e|e
    ·rw[e]at h1;exact hx2 h1
    ·rw[e]at h1;exact hb2 h1
    ·rw[e]at h1;exact hl2 h1
    ·rw[e]at h1;exact hm2 h1
    ·rw[e]at h1;exact hd2 h1
    ·exact h2 e
  ·obtain⟨h1,h2,h3,h4,h5⟩:=bk4 sr
   rw[hA0b,hA0l,hA0m,hA0d]at h1
   rw[hA0l]at h2
   rw[hA0m]at h3
   rw[hA0d]at h4
   exact⟨h1,h2,h3,h4,h5⟩
  ·show((List.range n).map _).length=n
   rw[aa,aN]
  ·have hi:i<n:=by rw[←hbl];exact(al.mp ha).1
   have hs:((List.range n).map λi=>(⟨[],[(i,0)],[],0⟩:StS))[i]?=some s:=hs
   rw[ah,bh hi]at hs
   cases hs
   have hxa:x∉a.all:=λz=>hx2 (hfree a (av ha) x z).1
   refine(hst i a ha).frame f4 λy hy=>?_
   rw[af.mp hy]
   exact⟨hxa,λxs z=>by rw[s3 _ _ x2]at z;cases z⟩
theorem ym8 {H:Hp}:∀t:List Nat,Dts H (tI t) (t.map λ(x:Nat)=>PyData.int x)
 | []=>.nil
 | x::r=>.cons (.int _) (ym8 r)
theorem zy5 {n:Nat}{t:List Nat}(h:TM.IsT n t)(h1:1<=n)(h60:n<=60):l5 (.tuple (t.map λ(x:Nat)=>PyData.int x))=true:=by
 have hl:=h.length
 have e1:T6 (t.map λ(x:Nat)=>PyData.int x)=t.map λ(x:Nat)=>(x:Int):=by
  clear h hl
  induction t with
  | nil=>rfl
  | cons x r ih =>
   show(x:Int)::T6 (r.map λ(x:Nat)=>PyData.int x)=(x:Int)::r.map λ(x:Nat)=>(x:Int)
   rw[ih]
 have e2:yk3 (t.map λ(x:Nat)=>(x:Int))=zl1 n:=by
  refine(yk4 ?_ ?_).symm
  ·exact(List.Perm.map (λ(x:Nat)=>(x:Int)) (show t.Perm (List.range n) from h)).symm
  ·unfold zl1
   exact bj.mpr ((List.pairwise_lt_range (n:=n)).imp λh=>by lia)
 have e3:(t.map λ(x:Nat)=>PyData.int x).all isW=true:=by
  rw[fC]
  exact ck.mpr λ_ _=>rfl
 show((decide (1<=(t.map λ(x:Nat)=>PyData.int x).length)&&decide ((t.map λ(x:Nat)=>PyData.int x).length<=60))&&((t.map λ(x:Nat)=>PyData.int x).all isW&&decide (yk3 (T6 (t.map λ(x:Nat)=>PyData.int x))=zl1 (t.map λ(x:Nat)=>PyData.int x).length)))=true
 rw[e1,e2,e3,aa,hl,decide_eq_true h1,decide_eq_true h60,decide_eq_true rfl]
 rfl
theorem ChS.Backs.told {n:Nat}{S:ChS}(b:S.Backs n)(f:S.ln.length=S.md.length){k:Nat}{t:List Nat}(h:S.src k=t):(S.put (.told k) t).Backs n:=by
 refine⟨λi k' h=>?_,b.mks.put f (l:=.told k) h.symm⟩
 obtain⟨h1,h2,h3⟩:=b.bk i k' h
 have hmd:(S.put (.told k) t).md=S.md++[t]:=rfl
 refine⟨by rw[hmd,aq];lia,by rw[hmd,aq];lia,?_⟩
 rw[hmd,g9 h2,g9 h1,h3]
structure ChS.Full (S:ChS) (c:Nat):Prop where
 ln:S.ln.length<=3*S.looks+c
 bl:S.bl.length<=S.looks+c
structure ChS.Set (n:Nat) (S:ChS):Prop where
 inv:S.Inv n
 done:∀i,i<n->S.Done i
def yo9 (cC cB cS:Addr):Sp:=λvs H Q _=>∃(A:ChA) (S:ChS) (n c k:Nat) (tr:Addr) (t:List Nat),vs=[.ref A.c,.int k,.ref tr]/\u0 cC cB cS n H A S/\S.Set n/\0<n/\n<=60/\c<1000/\S.Full c/\H tr=some (.tup (tI t))/\TM.IsT n t/\(¬TM.Grp n (S.chn.mv 0) t->S.src k=t) /\
 ∀(b:Bool) (S':ChS) (H':Hp),y1 A.all H H'->u0 cC cB cS n H' A S'->S'.Set n->S'.src=S.src->S'.Full (c+1)->(∀x,TM.Grp n (S'.chn.mv 0) x↔TM.Grp n (λz=>S.chn.mv 0 z∨z=t) x)->(b=false↔TM.Grp n (S.chn.mv 0) t)->Q (.bl b) H'
theorem zv3:y4 ["self","number","maker"] ["self","number","maker"] (z8 J8):=scq
theorem zu2 {cC cB cS:Addr}(F:Fun K "take" "Chain.take" J8 f fd)(B:Blt mg)(cc:p4 K cC Y4)(cb:p4 K cB zd1)(cs:p4 K cS K7)(MP:l4 P w K mg base 1 cB "put" ["self","line","turning"] (yu1 cB))(MPM:l4 P w K mg base 1 cS "put_mover" ["self","mover"] (yo7 cS))
  (MH:l4 P w K mg base 3 cC "holds" ["self","turning","level"] (zm5 cC cB cS)) (MS:l4 P w K mg base 5 cC "settle" ["self"] (yl0 cC cB cS)):u6 P w K mg base CX0 6 f fd ["self","number","maker"] (yo9 cC cB cS):=by
 refine F.ok zv3 (λvs H Q E h=>?_) (λcdv Ar outer sh H vs Q E hr h=>?_)
 ·obtain⟨A,S,n,c,k,tr,t,rfl,_⟩:=h
  rfl
 obtain⟨A,S,n,c,k,tr,t,rfl,ch,st,hn0,hn,hc,full,htr,tT,hsrc,q⟩:=h
 have iv:=st.inv
 have hz:=V1
 obtain⟨dxc,hcc⟩:=ch.c
 refine⟨_,z7 (l8 (Y5 (l7 cc.cls MH hr (pv 0) (z0 (pv 2) (z0 x9 z4)))) (z6 (y9 U6)) u8)
  (z7 (m7 (l7 cs.cls MPM hr (d9 l9 (y3 (pv 0) rfl) x9 (λ_ _=>rfl)) (z0 (l7 cb.cls MP hr (y3 (pv 0) rfl) (z0 (J5 (z0 C8 (z0 (pv 1) z4))) (z0 (pv 2) z4))) z4)))
  (z7 (m7 (X6 cc.cls MS hr (pv 0)))
  (z6 (y9 U6)))),?_⟩
 refine⟨_,rfl,A.c,dxc,_,rfl,hcc,rfl,_,rfl,A,S,n,0,tr,t,rfl,ch,iv.fine.wl,htr,tT,aP _,hn,λH1 s1=>⟨_,rfl,?_⟩⟩
 have hol:=iv.holds (j:=0) (aP _) (λi _ hi=>st.done i hi) tT (TM.Fix.zero t)
 have hS:∀z,S.chn.mv 0 z->TM.IsT n z:=iv.ok.mvT 0
 have hS':∀z,(S.chn.mv 0 z∨z=t)->TM.IsT n z:=λz h=>h.elim (hS z) λe=>by rw[e];exact tT
 cases hb:(K5 n S.md (S.st.drop 0) 0 t []).isSome with
 | true =>
  have hg:=hol.mp hb
  refine Z1 ?_
  refine q false S H1 (y0.frame s1) (ch.same s1) st rfl ⟨by have:=full.ln;lia,by have:=full.bl;lia⟩ (λx=>⟨λh=>TM.Grp.mono hS' (λz hz=>TM.Grp.of hS' (.inl hz)) h,λh=>TM.Grp.mono hS (λz hz=>?_) h⟩) ⟨λ_=>hg,λ_=>rfl⟩
  rcases hz with h|h
  ·exact TM.Grp.of hS h
  ·rw[h];exact hg
 | false =>
  have hg:¬TM.Grp n (S.chn.mv 0) t:=λh=>by rw[hol.mpr h]at hb;cases hb
  refine i9 ?_
  have ch1:=ch.same s1
  obtain⟨dxc1,hc1⟩:=ch1.c
  obtain⟨dxb1,hb1⟩:=ch1.bk.b
  have hn0':0<S.st.length:=by rw[iv.len];exact hn0
  obtain⟨a,hA⟩:∃a,A.st[0]?=some a:=⟨_,ae (by rw[ch.len.1];exact hn0)⟩
  have hs:=ChS.get_at hn0'
  have st1:=ch1.st 0 a _ hA hs
  obtain⟨dxs1,hsa1⟩:=st1.a
  have ga:atI (A.st.map λs=>V.ref s.a) 0=some (V.ref a.a):=d0 (j:=0) (by rw[ah,hA];rfl)
  have ndh:=ChA.head_nd ch.nd
  simp only[aK,aw,aV,not_or,or_false]at ndh
  have lne:A.ll≠A.lm:=ndh.2.2.1.1
  have nda:=ChA.step_nd ch.nd hA
  simp only[StA.all,aK,aw,aV,not_or,or_false]at nda
  have lks:=iv.looks_le hn
  have fl:=full.ln
  have fb:=full.bl
  refine⟨_,rfl,A.c,cC,dxc1,_,_,rfl,hc1,cc.cls,cc.no "steps" (by decide),rfl,A.l,_,_,_,rfl,rfl,SqL.of ch1.l,ga,a.a,dxs1,_,rfl,hsa1,rfl,?_⟩
  refine⟨_,rfl,A.c,cC,dxc1,_,_,rfl,hc1,cc.cls,cc.no "book" (by decide),rfl,A.b,dxb1,_,rfl,hb1,rfl,_,rfl,(by show 2<=fQ;lia),λlr hlr=>?_⟩
  have s2:=y2 hlr (.tup [V.str "told",V.int k])
  have el:(upd H1 lr (.tup [V.str "told",V.int k])) lr=some (.tup (lnV (.told k))):=z3
  generalize upd H1 lr (.tup [V.str "told",V.int k])=H2 at s2 el ⊢
  have ch2:=ch1.same s2
  refine⟨_,rfl,A,S,lr,tr,.told k,t,rfl,ch2.bk,lne,el,s2 _ _ (s1 _ _ htr),by lia,λH3 fr3 bk3=>?_⟩
  have m:=iv.fine.put (l:=.told k) tT
  have ch3:u0 cC cB cS n H3 A (S.put (.told k) t):=ch2.book (fr3.more λx hx=>by simp at hx ⊢;rcases hx with e|e <;> simp[e]) bk3 rfl (λs hs x hx=>m.at_ (iv.fine.wl.to s hs x hx).2)
  have st3:=ch3.st 0 a _ hA hs
  have few:=iv.few hn 0
  have rg:=iv.ring hn0
  have wle:=iv.wt_le hn hn0
  refine⟨a,n,_,0,S.ln.length,S.atS 0,rfl,st3,nda.2.1.2.2,by lia,by lia,by lia,λH4 fr4 st4=>?_⟩
  have nt:∀x∈[a.m,a.w],x∈a.all/\∀xs,H3 x≠some (.tup xs):=λx hx=>by
   obtain⟨ws2,hw2,_⟩:=st3.w
   rcases aw.mp hx with e|hx
   ·rw[e];exact⟨by simp[StA.all],λxs z=>by rw[st3.m]at z;cases z⟩
   ·rw[af.mp hx];exact⟨by simp[StA.all],λxs z=>by rw[hw2]at z;cases z⟩
  have ch4:=ch3.step hA nt fr4 st4
  obtain⟨iv4,mp⟩:=iv.mover hn0 m (iv.bks.told iv.fine.lnl (hsrc hg)) tT (TM.Fix.zero t) (λg hg=>absurd hg (by lia)) hg
  generalize hS4:({ S.put (.told k) t with st:=S.st.set 0 ((S.atS 0).putM S.ln.length) }:ChS)=S4 at iv4 mp
  have ch4':u0 cC cB cS n H4 A S4:=by rw[←hS4];exact ch4
  have hst:S4.st=S.st.set 0 ((S.atS 0).putM S.ln.length):=by rw[←hS4]
  have lk4:S4.looks=S.looks:=by
   have e:=zm8 (a:=(S.atS 0).putM S.ln.length) (ChS.get_at hn0')
   have e2:((S.atS 0).putM S.ln.length).lk=(S.atS 0).lk:=rfl
   unfold ChS.looks
   rw[hst]
   lia
  have ln4:S4.ln.length=S.ln.length+1:=by rw[←hS4];show(S.ln++[_]).length=_;rw[aq];rfl
  have bl4:S4.bl.length=S.bl.length:=by rw[←hS4];rfl
  have fr14:y1 A.all H H4:=(y0.frame (s1.trans s2)).trans ((fr3.all λx hx=>by simp at hx ⊢;rcases hx with e|e <;> simp[e]).trans (fr4.allS hA λx hx=>(nt x hx).1))
  obtain⟨dxc4,hc4⟩:=ch4'.c
  refine⟨_,rfl,A.c,dxc4,_,rfl,hc4,rfl,A,S4,n,c+1,rfl,ch4',iv4,hn0,hn,λi hi hin=>?_,by lia,by lia,by lia,λS5 H5 fr5 ch5 iv5 dn5 e5 src5 b51 b52=>?_⟩
  ·have at':=ChS.atS_set hst hn0' i
   rw[if_neg (by lia)]at at'
   unfold ChS.Done
   rw[at']
   exact st.done i hin
  ·refine q true S5 H5 (fr14.trans fr5) ch5 ⟨iv5,dn5⟩ (src5.trans (by rw[←hS4];rfl)) ⟨b51,b52⟩ (λx=>?_) ⟨λz=>(by cases z),λz=>absurd z hg⟩
   rw[e5]
   have e0:S4.chn.mv 0=λz=>S.chn.mv 0 z∨z=t:=by
    funext z
    exact propext ((mp.emv 0 z).trans ⟨λy=>y.elim .inl λw=>.inr w.2,λy=>y.elim .inl λw=>.inr ⟨rfl,w⟩⟩)
   rw[e0]
def yd8 (cC cB cS:Addr):Sp:=λvs H Q _=>∃(A:ChA) (S:ChS) (n:Nat),vs=[.ref A.c]/\u0 cC cB cS n H A S/\S.Inv n/\n<=60/\Q (.int ((S.chn.many n n:Nat):Int)) H
theorem Q4:y4 ["self","product","step"] ["self"] (z8 J7):=scq
theorem zu1 {cC cB cS:Addr}(F:Fun K "size" "Chain.size" J7 f fd)(B:Blt mg)(cc:p4 K cC Y4)(cs:p4 K cS K7):u6 P w K mg base CX0 1 f fd ["self"] (yd8 cC cB cS):=by
 refine F.ok Q4 (λvs H Q E h=>?_) (λcdv Ar outer sh H vs Q E hr h=>?_)
 ·obtain⟨A,S,n,rfl,_⟩:=h
  rfl
 obtain⟨A,S,n,rfl,ch,iv,hn,q⟩:=h
 obtain⟨dxc,hcc⟩:=ch.c
 refine⟨_,z7 (y8 (i:=1) Q4.nd rfl (Or.inl rfl) x9)
  (z7 (X7 PassesOwn.never rfl (c9 (y3 (pv 0) rfl)) (n8 (i:=2) Q4.nd rfl (Or.inl rfl))
   (z6 (yo2 (i:=1) Q4.nd rfl (Or.inl rfl) (w8 yv6 rfl B.len Z4 (z0 (y3 (pv 2) rfl) z4)) xo8)))
  (z6 (y9 (pv 1)))),?_⟩
 have hstl:(A.st.map λs=>V.ref s.a).length=n:=by rw[aa];exact ch.len.1
 refine⟨_,rfl,A.c,cC,dxc,_,_,rfl,hcc,cc.cls,cc.no "steps" (by decide),rfl,A.l,rfl,⟨_,SqL.of ch.l⟩,W1 (K:=K) (a:=A.l) (xs:=A.st.map λs=>V.ref s.a) (λi σ Hh=>∃(p:Nat) (v2:Option V),σ=[some (.ref A.c),some (.int p),v2]/\Hh=H/\p*S.chn.many n (n-i)=S.chn.many n n)
  ⟨1,none,rfl,rfl,by rw[di,dO]⟩ (λi σ Hh _ ⟨_,_,_,e,_⟩=>by rw[e];exact SqL.of ch.l) ?_ ?_⟩
 ·rintro i v σ Hh hv ⟨p,v2,rfl,rfl,hp⟩
  rw[ah]at hv
  cases hA:A.st[i]? with
  | none=>rw[hA]at hv;cases hv
  | some a =>
   rw[hA]at hv
   cases hv
   have hi:i<n:=by rw[←ch.len.1];exact(al.mp hA).1
   have hs:=ChS.get_at (S:=S) (j:=i) (by rw[iv.len];exact hi)
   have st:=ch.st i a _ hA hs
   obtain⟨dxs,hsa⟩:=st.a
   have rg:=iv.ring hi
   refine⟨_,rfl,_,rfl,a.a,cS,dxs,_,_,rfl,hsa,cs.cls,cs.no "line_to" (by decide),rfl,a.lt,_,rfl,st.lt,?_⟩
   rw[zb3]
   refine⟨_,_,rfl,rfl,.inr ⟨by lia,by lia⟩,p*(S.atS i).to.length,some (V.ref a.a),?_,rfl,?_⟩
   ·rw[fB]
    rfl
   ·have e:n-i=(n-(i+1))+1:=by lia
    rw[e,TM.Chn.many,show n-(n-(i+1)+1)=i by lia]at hp
    have e2:(S.chn.ring i).length=(S.atS i).to.length:=aa _
    rw[e2,←Nat.mul_assoc]at hp
    exact hp
 ·rintro σ Hh ⟨p,v2,rfl,rfl,hp⟩
  rw[hstl,cq,TM.Chn.many,fh]at hp
  refine⟨_,rfl,?_⟩
  rw[hp]
  exact q
theorem u0.keep {cC cB cS:Addr}{n:Nat}{H H':Hp}{A:ChA}{S:ChS}{F:List Addr}(ch:u0 cC cB cS n H A S)(fr:y1 F H H')(hF:∀y∈F,y∉A.all/\∀xs,H y≠some (.tup xs)):u0 cC cB cS n H' A S:=by
 have kA:∀{b:Addr} {o:HO},H b=some o->b∈A.all->H' b=some o:=λ{b o} h hb=>fr b o (λz=>(hF b z).1 hb) h
 have kt:∀{b:Addr} {xs:List V},H b=some (.tup xs)->H' b=some (.tup xs):=λ{b xs} h=>fr b _ (λz=>(hF b z).2 xs h) h
 have hin:∀y∈[A.c,A.b,A.ll,A.lm,A.d,A.l],y∈A.all:=λy hy=>by unfold ChA.all;exact aH _ hy
 obtain⟨dxc,h1⟩:=ch.c
 refine⟨ch.nd,⟨dxc,kA h1 (hin _ (by simp))⟩,⟨ch.bk.b.imp λ_ e=>kA e (hin _ (by simp)),ch.bk.ll.imp λ_ e=>⟨kA e.1 (hin _ (by simp)),Paired.imp' (λ_ _ z=>kt z) e.2⟩,ch.bk.lm.imp λ_ e=>⟨kA e.1 (hin _ (by simp)),Paired.imp' (λ_ _ z=>kt z) e.2⟩,kA ch.bk.d (hin _ (by simp)),ch.bk.len⟩,kA ch.l (hin _ (by simp)),ch.len,λi a s ha hs=>?_⟩
 refine(ch.st i a s ha hs).frame fr λy hy=>⟨λz=>(hF y hy).1 ?_,(hF y hy).2⟩
 unfold ChA.all
 exact aJ _ (cf.mpr ⟨a.all,au.mpr ⟨a,av ha,rfl⟩,z⟩)
def Y6:List Str:=["many","makers","chain"]
structure i3 (cG cC cB cS:Addr) (n:Nat) (H:Hp) (g:Addr) (ts:List (List Nat)) (S:ChS):Prop where
 n0:0<n
 n60:n<=60
 at':∃(dx ma:Addr) (A:ChA) (mas:List Addr),H g=some (.ins cG dx [("many",.int n),("makers",.ref ma),("chain",.ref A.c)])/\H ma=some (.tup (mas.map V.ref))/\i7 H mas ts/\u0 cC cB cS n H A S
 st:S.Set n
 few:ts.length<=200
 tT:∀t∈ts,TM.IsT n t
 grp:∀x,TM.Grp n (S.chn.mv 0) x↔TM.Grp n (λz=>z∈ts) x
 src:S.src=λk=>ts.getD k []
 lnl:S.ln.length<=4000000
theorem i3.same {cG cC cB cS:Addr}{n:Nat}{H H':Hp}{g:Addr}{ts:List (List Nat)}{S:ChS}(h:i3 cG cC cB cS n H g ts S)(s:y0 H H'):i3 cG cC cB cS n H' g ts S:=by
 obtain⟨dx,ma,A,mas,h1,h2,h3,h4⟩:=h.at'
 exact⟨h.n0,h.n60,⟨dx,ma,A,mas,s _ _ h1,s _ _ h2,h3.same s,h4.same s⟩,h.st,h.few,h.tT,h.grp,h.src,h.lnl⟩
theorem yg7 {n:Nat}{S S':List Nat->Prop}{t:List Nat}(hS:∀s,S s->TM.IsT n s)(hS':∀s,S' s->TM.IsT n s)(hT:TM.IsT n t)(h:∀x,TM.Grp n S x↔TM.Grp n S' x)(x:List Nat):TM.Grp n (λz=>S z∨z=t) x↔TM.Grp n (λz=>S' z∨z=t) x:=by
 have key:∀{S S':List Nat->Prop},(∀s,S s->TM.IsT n s)->(∀s,S' s->TM.IsT n s)->(∀x,TM.Grp n S x↔TM.Grp n S' x)->TM.Grp n (λz=>S z∨z=t) x->TM.Grp n (λz=>S' z∨z=t) x:=λ{S S'} hS hS' h g=>by
  have h2:∀s,(S' s∨s=t)->TM.IsT n s:=λs q=>q.elim (hS' s) λe=>by rw[e];exact hT
  refine TM.Grp.mono h2 (λs hs=>?_) g
  rcases hs with q|q
  ·exact TM.Grp.mono h2 (λz hz=>TM.Grp.of h2 (.inl hz)) ((h s).mp (TM.Grp.of hS q))
  ·exact TM.Grp.of h2 (.inr q)
 exact⟨key hS hS' h,key hS' hS λx=>(h x).symm⟩
def yt9:Sp:=λvs H Q _=>∃(la:Addr) (n:Nat) (mas:List Addr) (ts:List (List Nat)),vs=[.int n,.ref la]/\0<n/\n<=60/\H la=some (.lst (mas.map V.ref))/\i7 H mas ts/\ts.length<=200/\(∀t∈ts,TM.IsT n t)/\∀H':Hp,y0 H H'->Q .non H'
theorem zv9:y4 ["many","makers"] ["many","makers"] (z8 E4):=scq
theorem zl6 (n:Nat):(List.replicate n true).all id=true:=by
 induction n with
 | zero=>rfl
 | succ n ih=>rw[List.replicate_succ,eV,ih];rfl
theorem zg8 {H:Hp}{a:Addr}{t:List Nat}(h:H a=some (.tup (tI t))):Dt H (.ref a) (.tuple (t.map λ(x:Nat)=>PyData.int x)):=.tup h (ym8 t)
theorem zt3 {n:Nat}{t:List Nat}(h:TM.IsT n t)(h1:0<n)(h60:n<=60):(l5 (.tuple (t.map λ(x:Nat)=>PyData.int x))&&decide ((t.map λ(x:Nat)=>PyData.int x).length=n))=true:=by
 rw[zy5 h h1 h60,aa,h.length,decide_eq_true rfl]
 rfl
theorem zv2 (D:Def K mg "need_group" E4 ["many","makers"] f fd)(B:Blt mg)(KW:o7 P w K mg base 1 "is_whole" ["thing"] zt0)(KT:o7 P w K mg base 3 "is_turning_of" ["thing","many"] N4)(GM:zt5 mg "MOST_PLACES" (.int 60))(GK:zt5 mg "MOST_MAKERS" (.int 200)):u6 P w K mg base CX0 4 f fd ["many","makers"] yt9:=by
 refine D.F.ok zv9 (λvs H Q E h=>?_) (λcdv A outer s H vs Q E hr h=>?_)
 ·obtain⟨la,n,mas,ts,rfl,_⟩:=h
  rfl
 obtain⟨la,n,mas,ts,rfl,hn0,hn,hla,hts,hfew,hT,q⟩:=h
 have hml:mas.length=ts.length:=Paired.length hts
 refine⟨_,z7 (l8 (PW.pt (zj4 (X8 (Y5 (q9 KW hr rfl (z0 (pv 0) z4)))) (zb8 (X8 (yj4 yr7 yr7 x9 (pv 0) (zj3 GM rfl)))))) (z6 C9) u8)
  (z7 (l8 (PW.pt (zj4 (X8 (Y5 (w8 Z2 rfl B.isinstance i5 (z0 (pv 1) (z0 (M5 (v:=.ty "list") rfl B.list M4 rfl) z4))))) (zb8 (k8 xe5 (w8 p0 rfl B.len Z4 (z0 (pv 1) z4)) (zj3 GK rfl) (n1 _))))) (z6 C9) u8)
  (z6 (l8 (X8 (Y5 (w8 (K1 rfl) rfl B.all zn8 (z0 (c7 [0] ["maker","many"] rfl (c9 (pv 1)) (λ_ _ _ _=>q9 KT hr rfl (z0 (pv 0) (z0 (pv 1) z4)))) z4)))) (z6 C9) u8))),?_⟩
 refine⟨_,rfl,_,.int n,rfl,.int _,_,rfl,i9 ⟨_,rfl,_,_,rfl,rfl,_,rfl,?_⟩⟩
 rw[decide_eq_true (show(1:Int)<=((n:Nat):Int) by lia)]
 refine Z1 ⟨_,_,rfl,rfl,_,rfl,?_⟩
 rw[decide_eq_true (show((n:Nat):Int)<=(60:Int) by lia)]
 refine i9 ⟨_,rfl,_,_,_,_,rfl,K0.lst hla,J3 zz9,_,rfl,i9 ?_⟩
 refine⟨_,rfl,la,_,rfl,.inl (SqL.of hla),_,_,rfl,rfl,_,rfl,?_⟩
 rw[aa,hml,decide_eq_false (show ¬((ts.length:Nat):Int) > (200:Int) by lia)]
 refine i9 ?_
 refine⟨_,rfl,la,rfl,⟨_,SqL.of hla⟩,A5 (SqL.of hla) ((List.replicate mas.length true).map V.bl) (by rw[aa,bP,aa]) (by rw[aa,hml];exact small (by lia)) ?_ ?_⟩
 ·intro i H' x hx s' _ _ _ _
  obtain⟨c,hc,rfl⟩:=W4 hx
  obtain⟨t,ht,hct⟩:=u7 hts i c hc
  have hi:i<mas.length:=(al.mp hc).1
  have htT:=hT t (av ht)
  refine⟨_,rfl,_,rfl,.ref c,_,n,rfl,zg8 (s' _ _ hct),λds hd=>?_,λH4 s4=>⟨s4,?_⟩⟩
  ·cases hd
   rw[aa,htT.length]
   lia
  ·show((List.replicate mas.length true).map V.bl)[i]?=some (V.bl (l5 (.tuple (t.map λ(x:Nat)=>PyData.int x))&&decide ((t.map λ(x:Nat)=>PyData.int x).length=n)))
   rw[zt3 htT hn0 hn,ah,ci,if_pos hi]
   rfl
 ·intro nm H4 _ s4 hnm
  refine⟨nm,_,rfl,SqL.of hnm,_,rfl,?_⟩
  rw[zl6]
  exact i9 (q H4 s4)
def zs5 (cG cC cB cS:Addr):Sp:=λvs H Q _=>∃(x dx la:Addr) (n:Nat) (mas:List Addr) (ts:List (List Nat)),vs=[.ref x,.int n,.ref la]/\H x=some (.ins cG dx [])/\0<n/\n<=60/\H la=some (.lst (mas.map V.ref))/\i7 H mas ts/\ts.length<=200/\(∀t∈ts,TM.IsT n t) /\
 ∀(S:ChS) (H':Hp),y1 [x] H H'->i3 cG cC cB cS n H' x ts S->(∀(y:Addr) (H2:Hp),H y≠none->y≠x->(∀xs,H' y≠some (.tup xs))->y1 [y] H' H2->i3 cG cC cB cS n H2 x ts S)->Q .non H'
theorem T2:y4 ["self","many","makers","number","maker"] ["self","many","makers"] (z8 R3):=scq
theorem zu3 {cG cC cB cS:Addr}(F:Fun K "__init__" "Group.__init__" R3 f fd)(B:Blt mg)(cg:p4 K cG Y6)(cc:p4 K cC Y4)(KN:o7 P w K mg base 4 "need_group" ["many","makers"] yt9)(KC:zt6 P w K mg base 4 cC "Chain" ["self","many"] (zs4 cC cB cS))
  (MT:l4 P w K mg base 6 cC "take" ["self","number","maker"] (yo9 cC cB cS)):u6 P w K mg base CX0 7 f fd ["self","many","makers"] (zs5 cG cC cB cS):=by
 refine F.ok T2 (λvs H Q E h=>?_) (λcdv Ar outer sh H vs Q E hr h=>?_)
 ·obtain⟨x,dx,la,n,mas,ts,rfl,_⟩:=h
  rfl
 obtain⟨x,dx,la,n,mas,ts,rfl,hx,hn0,hn,hla,hts,hfew,hT,q⟩:=h
 have hml:mas.length=ts.length:=Paired.length hts
 refine⟨_,z7 (m7 (q9 KN hr rfl (z0 (pv 1) (z0 (pv 2) z4))))
  (z7 (i6 (pv 0) (pv 1) rfl)
  (z7 (i6 (pv 0) (t9 h8 rfl B.tuple c5 (z0 (pv 2) z4)) rfl)
  (z7 (i6 (pv 0) (J4 KC hr rfl (z0 (pv 1) z4)) rfl)
  (z6 (X7 PassesOwn.never rfl (yj2 rfl B.enumerate (z0 (y3 (pv 0) rfl) z4)) (zq8 rfl (W2 (n8 (i:=3) T2.nd rfl (Or.inl rfl)) (W2 (n8 (i:=4) T2.nd rfl (Or.inl rfl)) ze7)))
   (z6 (m7 (l7 cc.cls MT hr (y3 (pv 0) rfl) (z0 (pv 3) (z0 (pv 4) z4)))))))))),?_⟩
 refine⟨_,rfl,_,rfl,la,n,mas,ts,rfl,hn0,hn,hla,hts,hfew,hT,λH0 s0=>?_⟩
 refine⟨_,rfl,_,rfl,x,cG,dx,[],rfl,s0 _ _ hx,cg.cls,cg.no "many" (by decide),by decide,?_⟩
 obtain⟨H1,g1,f1,x1⟩:=p6 (H:=H0) (x:=x) (cS:=cG) (dx:=dx) (f:="many") (v:=V.int n) (fs:=[]) (fs':=[("many",.int n)]) rfl
 rw[g1]
 have F1:y1 [x] H H1:=(y0.frame s0).trans f1
 have nx:∀{b:Addr} {o:HO},H b=some o->o≠.ins cG dx []->b≠x:=λ{b o} h d z=>by
  subst z
  rw[hx]at h
  exact d (Option.some.inj h).symm
 have hla1:=F1.keep hla (nx hla (by intro z;cases z))
 refine⟨_,rfl,la,_,rfl,.inl ⟨SqL.of hla1,λma hma=>?_⟩⟩
 have s2:=y2 hma (.tup (mas.map V.ref))
 have m2:(upd H1 ma (.tup (mas.map V.ref))) ma=some (.tup (mas.map V.ref)):=z3
 generalize upd H1 ma (.tup (mas.map V.ref))=H2 at s2 m2 ⊢
 have xma:ma≠x:=λz=>by subst z;rw[x1]at hma;cases hma
 refine⟨_,rfl,x,cG,dx,_,rfl,s2 _ _ x1,cg.cls,cg.no "makers" (by decide),by (show 1<1000;decide),?_⟩
 obtain⟨H3,g3,f3,x3⟩:=p6 (H:=H2) (x:=x) (cS:=cG) (dx:=dx) (f:="makers") (v:=V.ref ma) (fs:=[("many",.int n)]) (fs':=[("many",.int n),("makers",.ref ma)]) rfl
 rw[g3]
 have F3:y1 [x] H H3:=(F1.trans (y0.frame s2)).trans f3
 have m3:=f3.keep m2 xma
 refine⟨_,rfl,λc dc hc hdc hne=>⟨c,dc,n,rfl,z3,hn,λA H4 hAc hfree fr4 ch4=>⟨rfl,?_⟩⟩⟩
 have s4:y0 H3 H4:=λb o h=>fr4 b o (by simpa using z9 h hc) (by rw[z5 (z9 h hc),z5 (z9 h hdc)];exact h)
 have hall:∀a∈A.all,H3 a=none:=λa ha=>by
  by_cases e:a=c
  ·rw[e];exact hc
  ·have:=hfree a ha e
   rw[z5 e]at this
   by_cases e2:a=dc
   ·rw[e2];exact hdc
   ·rwa [z5 e2]at this
 subst hAc
 refine⟨_,rfl,x,cG,dx,_,rfl,s4 _ _ x3,cg.cls,cg.no "chain" (by decide),by (show 2<1000;decide),?_⟩
 obtain⟨H5,g5,f5,x5⟩:=p6 (H:=H4) (x:=x) (cS:=cG) (dx:=dx) (f:="chain") (v:=V.ref A.c) (fs:=[("many",.int n),("makers",.ref ma)]) (fs':=[("many",.int n),("makers",.ref ma),("chain",.ref A.c)]) rfl
 rw[g5]
 have F5:y1 [x] H H5:=(F3.trans (y0.frame s4)).trans f5
 have m5:=f5.keep (s4 _ _ m3) xma
 have hts5:i7 H5 mas ts:=Paired.imp' (λb t e=>F5.keep e (nx e (by intro z;cases z))) hts
 have xA:x∉A.all:=λz=>by
  have:=hall x z
  rw[x3]at this
  cases this
 have ch5:u0 cC cB cS n H5 A (ChS.new n (λk=>ts.getD k [])):=(ch4 _).keep f5 λy hy=>by
  rw[af.mp hy]
  exact⟨xA,λxs z=>by rw[s4 _ _ x3]at z;cases z⟩
 have out:∀{b:Addr} {o:HO},H b=some o->b∉A.all:=λ{b o} h hb=>by
  by_cases e:b=x
  ·exact xA (e ▸ hb)
  ·have:=hall b hb
   rw[F3.keep h e]at this
   cases this
 have maA:ma∉A.all:=λz=>by
  have:=hall ma z
  rw[m3]at this
  cases this
 refine⟨_,rfl,x,cG,dx,_,_,rfl,x5,cg.cls,cg.no "makers" (by decide),rfl,ma,rfl,⟨_,SqT.of m5⟩,zd5 (xs:=mas.map V.ref) (λi σ H6=>∃(S:ChS) (v3 v4:Option V),σ=[some (.ref x),some (.int n),some (.ref la),v3,v4]/\y1 A.all H5 H6/\u0 cC cB cS n H6 A S/\S.Set n/\S.Full (1+i)/\i<=ts.length/\(S.src=λk=>ts.getD k [])/\∀y,TM.Grp n (S.chn.mv 0) y↔TM.Grp n (λz=>z∈ts.take i) y)
  ⟨ChS.new n (λk=>ts.getD k []),none,none,rfl,y1.refl,ch5,⟨ChS.new_inv n,λi _=>ChS.new_done n i⟩,⟨by show 1<=_;lia,by show 1<=_;lia⟩,aP _,rfl,λy=>?_⟩ (λi σ H6 _ ⟨_,_,_,_,fr6,_⟩=>SqT.of (fr6 _ _ maA m5)) ?_ ?_⟩
 ·have hno:∀s,(ChS.new n (λk=>ts.getD k [])).chn.mv 0 s↔s∈ts.take 0:=λs=>⟨λh=>absurd h (ChS.new_nomv n 0 s),λh=>by rw[cO]at h;cases h⟩
  rw[show(ChS.new n (λk=>ts.getD k [])).chn.mv 0=λz=>z∈ts.take 0 from funext λs=>propext (hno s)]
 ·rintro i v σ H6 T hv ⟨S,v3,v4,rfl,fr6,ch6,set6,full6,hi6,src6,grp6⟩ hT6
  obtain⟨tr,htr,rfl⟩:=W4 hv
  obtain⟨t,ht,htt⟩:=u7 hts5 i tr htr
  have hiT:i<ts.length:=(al.mp ht).1
  have htT:=hT t (av ht)
  have s7:=y2 hT6 (.tup [V.int ((i:Nat):Int),V.ref tr])
  refine⟨T,_,rfl,SqT.of z3,rfl,_,_,rfl,_,_,rfl,rfl,?_⟩
  generalize upd H6 T (.tup [V.int ((i:Nat):Int),V.ref tr])=H7 at s7 ⊢
  have ch7:=ch6.same s7
  obtain⟨dxc,hcc⟩:=ch7.c
  have x7:=s7 _ _ (fr6 _ _ xA x5)
  have trA:tr∉A.all:=λz=>by
   obtain⟨t0,ht0,htt0⟩:=u7 hts i tr htr
   exact out htt0 z
  have t7:=s7 _ _ (fr6 _ _ trA htt)
  refine⟨_,rfl,x,cG,dx,_,_,rfl,x7,cg.cls,cg.no "chain" (by decide),rfl,A.c,dxc,_,rfl,hcc,rfl,_,rfl,_,rfl,A,S,n,1+i,i,tr,t,rfl,ch7,set6,hn0,hn,by lia,full6,t7,htT,(λ_=>by rw[src6];show ts.getD i []=t;rw[ay,ht];rfl),λb S' H8 fr8 ch8 set8 src8 full8 grp8 _=>?_⟩
  refine⟨S',_,_,rfl,(fr6.trans (y0.frame s7)).trans fr8,ch8,set8,⟨by have:=full8.ln;lia,by have:=full8.bl;lia⟩,hiT,src8.trans src6,λy=>?_⟩
  have hS1:∀s,S.chn.mv 0 s->TM.IsT n s:=set6.inv.ok.mvT 0
  have hS2:∀s,s∈ts.take i->TM.IsT n s:=λs hs=>hT s (bS hs)
  rw[grp8 y,yg7 hS1 hS2 htT grp6 y,bc,ht]
  have e:(λz=>z∈ts.take i++(some t).toList)=λz=>z∈ts.take i∨z=t:=by
   funext z
   simp
  rw[e]
 ·rintro σ H6 ⟨S,v3,v4,rfl,fr6,ch6,set6,full6,hi6,src6,grp6⟩
  have hlnl:S.ln.length<=4000000:=by
   have q1:=full6.ln
   have q2:=set6.inv.looks_le hn
   rw[aa,hml]at q1
   lia
  rw[aa,hml,bn]at grp6
  have x6:=fr6 _ _ xA x5
  have m6:=fr6 _ _ maA m5
  have hts6:i7 H6 mas ts:=K2 hts5 λb hb t e=>fr6 _ _ (λz=>by
   obtain⟨i,hi,e2⟩:=bv.mp hb
   obtain⟨t0,ht0,htt0⟩:=u7 hts i b (by rw[ae hi,e2])
   exact out htt0 z) e
  refine q S H6 (λb o hb h=>fr6 b o (out h) (F5 b o hb h)) ⟨hn0,hn,⟨dx,ma,A,mas,x6,m6,hts6,ch6⟩,set6,hfew,hT,grp6,src6,hlnl⟩ λy H7 hy hyx hyt fr7=>?_
  obtain⟨oy,hoy⟩:∃o,H y=some o:=Option.ne_none_iff_exists'.mp hy
  have kt:∀{b:Addr} {xs:List V},H6 b=some (.tup xs)->H7 b=some (.tup xs):=λ{b xs} h=>fr7.keep h (λz=>hyt xs (z ▸ h))
  exact⟨hn0,hn,⟨dx,ma,A,mas,fr7.keep x6 (Ne.symm hyx),kt m6,Paired.imp' (λ_ _ z=>kt z) hts6,ch6.keep fr7 λz hz=>by
   rw[af.mp hz]
   exact⟨out hoy,hyt⟩⟩,set6,hfew,hT,grp6,src6,hlnl⟩
def yd9 (cG cC cB cS:Addr):Sp:=λvs H Q _=>∃(g:Addr) (n:Nat) (ts:List (List Nat)) (S:ChS),vs=[.ref g]/\i3 cG cC cB cS n H g ts S/\∀(l:Addr) (mas:List Addr) (H':Hp),H l=none->y0 H H'->H' l=some (.lst (mas.map V.ref))->i7 H' mas ts->Q (.ref l) H'
theorem zv5:y4 ["self"] ["self"] (z8 I0):=scq
theorem zu5 {cG cC cB cS:Addr}(F:Fun K "told" "Group.told" I0 f fd)(B:Blt mg)(cg:p4 K cG Y6):u6 P w K mg base CX0 1 f fd ["self"] (yd9 cG cC cB cS):=by
 refine F.ok zv5 (λvs H Q E h=>?_) (λcdv Ar outer sh H vs Q E hr h=>?_)
 ·obtain⟨g,n,ts,S,rfl,_⟩:=h
  rfl
 obtain⟨g,n,ts,S,rfl,ga,q⟩:=h
 obtain⟨dx,ma,A,mas,h1,h2,h3,h4⟩:=ga.at'
 refine⟨_,z6 (y9 (t9 P6 rfl B.list M4 (z0 (y3 (pv 0) rfl) z4))),?_⟩
 refine⟨_,rfl,g,cG,dx,_,_,rfl,h1,cg.cls,cg.no "makers" (by decide),rfl,ma,_,rfl,.inr (SqT.of h2),λl hl=>?_⟩
 have s1:=y2 hl (.lst (mas.map V.ref))
 exact q l mas _ hl s1 z3 (h3.same s1)
def xn3 (cG cC cB cS:Addr):Sp:=λvs H Q _=>∃(g tr:Addr) (n:Nat) (ts:List (List Nat)) (S:ChS) (t:List Nat),vs=[.ref g,.ref tr]/\i3 cG cC cB cS n H g ts S/\H tr=some (.tup (tI t))/\TM.IsT n t/\∀(b:Bool) (H':Hp),y0 H H'->(b=true↔TM.Grp n (λz=>z∈ts) t)->Q (.bl b) H'
theorem yc8:y4 ["self","thing"] ["self","thing"] (z8 B7):=scq
theorem ya7 {cG cC cB cS:Addr}(F:Fun K "has" "Group.has" B7 f fd)(B:Blt mg)(cg:p4 K cG Y6)(cc:p4 K cC Y4)(KT:o7 P w K mg base 3 "is_turning_of" ["thing","many"] N4)(MH:l4 P w K mg base 3 cC "holds" ["self","turning","level"] (zm5 cC cB cS)):u6 P w K mg base CX0 4 f fd ["self","thing"] (xn3 cG cC cB cS):=by
 refine F.ok yc8 (λvs H Q E h=>?_) (λcdv Ar outer sh H vs Q E hr h=>?_)
 ·obtain⟨g,tr,n,ts,S,t,rfl,_⟩:=h
  rfl
 obtain⟨g,tr,n,ts,S,t,rfl,ga,htr,htT,q⟩:=h
 obtain⟨dx,ma,A,mas,h1,h2,h3,h4⟩:=ga.at'
 refine⟨_,z6 (y9 (C7 (q9 KT hr rfl (z0 (pv 1) (z0 (y3 (pv 0) rfl) z4))) (zb7 (l7 cc.cls MH hr (y3 (pv 0) rfl) (z0 (pv 1) (z0 x9 z4)))))),?_⟩
 refine⟨_,rfl,_,rfl,g,cG,dx,_,_,rfl,h1,cg.cls,cg.no "many" (by decide),rfl,.ref tr,_,n,rfl,zg8 htr,λds hd=>?_,λH1 s1=>?_⟩
 ·cases hd
  rw[aa,htT.length]
  have:=ga.n60
  lia
 have h4':=h4.same s1
 obtain⟨dxc,hc⟩:=h4'.c
 have hol:=ga.st.inv.holds (j:=0) (aP _) (λi _ hi=>ga.st.done i hi) htT (TM.Fix.zero t)
 refine⟨(l5 (.tuple (t.map λ(x:Nat)=>PyData.int x))&&decide ((t.map λ(x:Nat)=>PyData.int x).length=n)),rfl,?_⟩
 rw[zt3 htT ga.n0 ga.n60]
 refine Z1 ⟨_,rfl,g,cG,dx,_,_,rfl,s1 _ _ h1,cg.cls,cg.no "chain" (by decide),rfl,A.c,dxc,_,rfl,hc,rfl,_,rfl,A,S,n,0,tr,t,rfl,h4',ga.st.inv.fine.wl,s1 _ _ htr,htT,aP _,ga.n60,λH2 s2=>?_⟩
 exact q _ H2 (s1.trans s2) (hol.trans (ga.grp t))
def yd3 (cG cC cB cS:Addr):Sp:=λvs H Q _=>∃(g:Addr) (n:Nat) (ts:List (List Nat)) (S:ChS),vs=[.ref g]/\i3 cG cC cB cS n H g ts S/\Q (.int ((S.chn.many n n:Nat):Int)) H
theorem zv4:y4 ["self"] ["self"] (z8 J9):=scq
theorem zu4 {cG cC cB cS:Addr}(F:Fun K "size" "Group.size" J9 f fd)(B:Blt mg)(cg:p4 K cG Y6)(cc:p4 K cC Y4)(MS:l4 P w K mg base 1 cC "size" ["self"] (yd8 cC cB cS)):u6 P w K mg base CX0 2 f fd ["self"] (yd3 cG cC cB cS):=by
 refine F.ok zv4 (λvs H Q E h=>?_) (λcdv Ar outer sh H vs Q E hr h=>?_)
 ·obtain⟨g,n,ts,S,rfl,_⟩:=h
  rfl
 obtain⟨g,n,ts,S,rfl,ga,q⟩:=h
 obtain⟨dx,ma,A,mas,h1,h2,h3,h4⟩:=ga.at'
 obtain⟨dxc,hc⟩:=h4.c
 refine⟨_,z6 (y9 (X6 cc.cls MS hr (y3 (pv 0) rfl))),?_⟩
 exact⟨_,rfl,g,cG,dx,_,_,rfl,h1,cg.cls,cg.no "chain" (by decide),rfl,A.c,dxc,_,rfl,hc,rfl,A,S,n,rfl,h4,ga.st.inv,ga.n60,q⟩
def Srt (L:List (List Nat)):Prop:=L.Pairwise λx y=>HT.lexLt (TM.iN y) (TM.iN x)=false
theorem zm1 (t:List Nat):(TM.iN t).map Int.toNat=t:=by
 unfold TM.iN
 rw[bx]
 conv=>rhs;rw[←dM t]
 exact bF λx _=>by simp
theorem yq8 (t:List Nat):(TM.iN t).map V.int=tI t:=by
 unfold TM.iN tI
 rw[bx]
 rfl
theorem zy0 {L:List (List Nat)}{qs:List (List Int)}(h:qs.Perm (L.map TM.iN)):∃M:List (List Nat),M.Perm L/\qs=M.map TM.iN:=by
 refine⟨qs.map λx=>x.map Int.toNat,?_,?_⟩
 ·have h2:=h.map λx:List Int=>x.map Int.toNat
  rw[bx]at h2
  have e:(L.map ((λx:List Int=>x.map Int.toNat) ∘ TM.iN))=L:=by
   conv=>rhs;rw[←dM L]
   exact bF λt _=>zm1 t
  rwa [e]at h2
 ·rw[bx]
  conv=>lhs;rw[←dM qs]
  refine bF λx hx=>?_
  obtain⟨t,_,e⟩:=au.mp (h.mem_iff.mp hx)
  show x=TM.iN (x.map Int.toNat)
  rw[←e,zm1]
theorem xm5 {H:Hp}{as:List Addr}{L:List (List Nat)}(h:i7 H as L):Paired (λa x=>H a=some (.tup (x.map V.int))) as (L.map TM.iN):=by
 induction h with
 | nil=>exact .nil
 | cons f _ ih=>exact .cons (by rw[yq8];exact f) ih
theorem yc4 {H:Hp}:∀{as:List Addr} {L:List (List Nat)},Paired (λa x=>H a=some (.tup (x.map V.int))) as (L.map TM.iN)->i7 H as L
 | [],[],_=>.nil
 | [],_::_,h=>by cases h
 | _::_,[],h=>by cases h
 | a::as,t::L,h=>by
  cases h with
  | cons f r=>exact .cons (by rw[←yq8];exact f) (yc4 r)
theorem xt9 {t:List Nat}{i p:Nat}(h:t[i]?=some p):(TM.iN t)[i]?=some ((p:Nat):Int):=by
 unfold TM.iN
 rw[ah,h]
 rfl
theorem xj0 {t:List Nat}{i:Nat}{z:Int}(h:(TM.iN t)[i]?=some z):∃y:Nat,t[i]?=some y/\z=(y:Int):=by
 unfold TM.iN at h
 rw[ah]at h
 cases e:t[i]? with
 | none=>rw[e]at h;cases h
 | some y=>rw[e]at h;cases h;exact⟨y,rfl,rfl⟩
def zs9 (cC cB cS:Addr):Sp:=λvs H Q _=>∃(A:ChA) (S:ChS) (n j p:Nat) (a:StA),vs=[.ref A.c,.ref a.a,.int p]/\u0 cC cB cS n H A S/\S.Inv n/\j<n/\A.st[j]?=some a/\p∈S.chn.ring j/\∀b,H b=some (.tup (tI (S.chn.up j p)))->Q (.ref b) H
theorem za4:y4 ["self","step","to"] ["self","step","to"] (z8 Z6):=scq
theorem za2 {cC cB cS:Addr}(F:Fun K "turning_to" "Chain.turning_to" Z6 f fd)(B:Blt mg)(cc:p4 K cC Y4)(cb:p4 K cB zd1)(cs:p4 K cS K7):u6 P w K mg base CX0 1 f fd ["self","step","to"] (zs9 cC cB cS):=by
 refine F.ok za4 (λvs H Q E h=>?_) (λcdv Ar outer sh H vs Q E hr h=>?_)
 ·obtain⟨A,S,n,j,p,a,rfl,_⟩:=h
  rfl
 obtain⟨A,S,n,j,p,a,rfl,ch,iv,hj,hA,hp,q⟩:=h
 have hu:(Ar.deeper (PyProof.Rows.envOfC "Chain.turning_to" (z8 Z6) sh.heap.objs.size f cdv)).units+1<cLine:=by have:=hr.units;lia
 refine⟨_,z6 (y9 (d9 l9 (y3 (y3 (pv 0) rfl) rfl) (Y8 hu (y3 (pv 1) rfl) (pv 2) (λ_ _=>rfl)) (λ_ _=>rfl))),?_⟩
 obtain⟨dxc,hc⟩:=ch.c
 obtain⟨dxb,hb⟩:=ch.bk.b
 obtain⟨mas,hlm,hmd⟩:=ch.bk.lm
 have hs:=ChS.get_at (S:=S) (j:=j) (by rw[iv.len];exact hj)
 have st:=ch.st j a _ hA hs
 obtain⟨dxs,hsa⟩:=st.a
 obtain⟨k,hk⟩:∃k,atN (S.atS j).to p=some k:=by
  cases e:atN (S.atS j).to p with
  | some k=>exact⟨k,rfl⟩
  | none=>exact absurd hp (V9.mp e)
 have hkl:k<S.md.length:=(iv.fine.wl.to _ (av hs) _ (R9 hk)).2
 obtain⟨ak,hak,htk⟩:=g7 hmd k _ (W7 [] hkl)
 have gk:atI (mas.map V.ref) ((k:Nat):Int)=some (V.ref ak):=d0 (by rw[ah,hak];rfl)
 have g1:Y2 H a.lt (kV (Sum.inl (p:Int))) (some (V.int k)):=by
  have g:=Y2.k (k:=Sum.inl (p:Int)) st.lt
  rwa [Q6,hk]at g
 refine⟨_,rfl,A.c,cC,dxc,_,_,rfl,hc,cc.cls,cc.no "book" (by decide),rfl,A.b,cB,dxb,_,_,rfl,hb,cb.cls,cb.no "made" (by decide),rfl,_,rfl,a.a,cS,dxs,_,_,rfl,hsa,cs.cls,cs.no "line_to" (by decide),rfl,_,rfl,a.lt,_,rfl,g1,A.lm,_,_,_,rfl,rfl,SqL.of hlm,gk,q ak ?_⟩
 rw[ChS.chn_up hk]
 exact htk
def zh6 (cC cB cS:Addr):Sp:=λvs H Q _=>∃(A:ChA) (S:ChS) (n lv:Nat) (tr:Addr) (t:List Nat),vs=[.ref A.c,.ref tr,.int lv]/\u0 cC cB cS n H A S/\S.Inv n/\n<=60/\lv<=n/\H tr=some (.tup (tI t))/\TM.IsT n t/\∀(r:Addr) (H':Hp) (u:List Nat),y0 H H'->H' r=some (.tup (tI u))->TM.IsT n u->S.chn.LeastL (List.range' lv (n-lv)) t u->Q (.ref r) H'
theorem c8:y4 ["self","turning","level","here","step","best"] ["self","turning","level"] (z8 R1):=scq
theorem ze0 {cC cB cS:Addr}(F:Fun K "least_of" "Chain.least_of" R1 f fd)(B:Blt mg)(cc:p4 K cC Y4)(cs:p4 K cS K7)(MT:l4 P w K mg base 1 cC "turning_to" ["self","step","to"] (zs9 cC cB cS))(KB:o7 P w K mg base 1 "behind" ["one","other"] (Q9 K)):u6 P w K mg base CX0 2 f fd ["self","turning","level"] (zh6 cC cB cS):=by
 refine F.ok c8 (λvs H Q E h=>?_) (λcdv Ar outer sh H vs Q E hr h=>?_)
 ·obtain⟨A,S,n,lv,tr,t,rfl,_⟩:=h
  rfl
 obtain⟨A,S,n,lv,tr,t,rfl,ch,iv,hn,hlv,htr,htT,q⟩:=h
 refine⟨_,z7 (y8 (i:=3) c8.nd rfl (Or.inr rfl) (pv 1))
  (z7 (X7 PassesOwn.never rfl (c9 (O4 A8 (y3 (pv 0) rfl) (P9 (pv 2)) ze8)) (n8 (i:=4) c8.nd rfl (Or.inl rfl))
   (z7 (y8 (i:=5) c8.nd rfl (Or.inl rfl) (w8 (yv7 rfl) rfl B.min xa6 (z0 (ys2 (c7 [3] ["place","here"] rfl (ys3 (y3 (pv 4) rfl)) (λ_ _ _ _=>d9 C1 (pv 1) (pv 0) (λ_ _=>rfl)))) z4)))
   (z6 (l8 (k8 yi9 (d9 C1 (pv 3) (y3 (pv 4) rfl) (λ_ _=>rfl)) (pv 5) (n1 _)) (z6 (y8 (i:=3) c8.nd rfl (Or.inr rfl) (q9 KB hr rfl (z0 (l7 cc.cls MT hr (pv 0) (z0 (pv 4) (z0 (xr0 PySem.F.slot_tuple_index PySem.F.type_tuple_index xd4 (pv 3) (z0 (pv 5) z4)) z4))) (z0 (pv 3) z4))))) u8))))
  (z6 (y9 (pv 3)))),?_⟩
 obtain⟨dxc,hc⟩:=ch.c
 have ok:=iv.ok
 have hstl:(A.st.map λs=>V.ref s.a).length=n:=by rw[aa];exact ch.len.1
 refine⟨_,rfl,_,rfl,A.c,cC,dxc,_,_,rfl,hc,cc.cls,cc.no "steps" (by decide),rfl,_,rfl,_,rfl,A.l,_,rfl,SqL.of ch.l,λl hl=>?_⟩
 rw[yf7 (by rw[hstl];exact hlv)]
 have s1:=y2 hl (.lst ((A.st.map λs=>V.ref s.a).drop lv))
 have e1:(upd H l (.lst ((A.st.map λs=>V.ref s.a).drop lv))) l=some (.lst ((A.st.map λs=>V.ref s.a).drop lv)):=z3
 generalize upd H l (.lst ((A.st.map λs=>V.ref s.a).drop lv))=H1 at s1 e1 ⊢
 refine⟨l,rfl,⟨_,SqL.of e1⟩,W1 (K:=K) (a:=l) (xs:=(A.st.map λs=>V.ref s.a).drop lv) (λi σ Hh=>∃(ha:Addr) (h:List Nat) (v4 v5:Option V),σ=[some (.ref A.c),some (.ref tr),some (.int lv),some (.ref ha),v4,v5]/\y0 H1 Hh/\Hh ha=some (.tup (tI h))/\TM.IsT n h/\∀x,S.chn.LeastL (List.range' (lv+i) (n-lv-i)) h x->S.chn.LeastL (List.range' lv (n-lv)) t x)
  ⟨tr,t,none,none,rfl,y0.refl _,s1 _ _ htr,htT,λx hx=>hx⟩ (λi σ Hh _ ⟨_,_,_,_,_,s,_⟩=>SqL.of (s _ _ e1)) ?_ ?_⟩
 ·rintro i v σ Hh hv ⟨ha,h,v4,v5,rfl,s3,hha,hT,hN⟩
  rw[dv,ah]at hv
  cases hA:A.st[lv+i]? with
  | none=>rw[hA]at hv;cases hv
  | some a =>
   rw[hA]at hv
   cases hv
   have hj:lv+i<n:=by
    have:=(al.mp hA).1
    rw[ch.len.1]at this
    exact this
   generalize ej:lv+i=j at hA hj hN
   have ed:List.range' j (n-lv-i)=j::List.range' (j+1) (n-lv-(i+1)):=by
    rw[show n-lv-i=(n-lv-(i+1))+1 by lia,dC]
   rw[ed]at hN
   have hs:=ChS.get_at (S:=S) (j:=j) (by rw[iv.len];exact hj)
   have ch3:=ch.same (s1.trans s3)
   have st:=ch3.st j a _ hA hs
   obtain⟨dxs,hsa⟩:=st.a
   have rl:(S.chn.ring j).length=(S.atS j).to.length:=aa _
   have rn:(S.atS j).to.length<=n:=iv.ring hj
   have rp:0<(S.chn.ring j).length:=bL (ok.own j hj)
   show U4 4 (V.ref a.a) _ _ _
   refine⟨a.lt,kI (S.atS j).to,st.lt,_,rfl,a.a,cS,dxs,_,_,rfl,hsa,cs.cls,cs.no "line_to" (by decide),rfl,a.lt,_,rfl,st.lt,λob=>?_⟩
   have ltha:ha≠a.lt:=k9 hha st.lt (by intro z;cases z)
   refine yv9 (by rw[z3]) ((S.chn.ring j).map λp=>V.int ((h.getD p 0:Nat):Int)) (by rw[aa,zb3,rl]) (by rw[zb3];exact aW rn (aW hn (by decide))) ?_ ?_
   ·intro u H4 kk vv hkk s4 _ _ _ _
    unfold kI at hkk
    rw[ah]at hkk
    cases e:(S.atS j).to[u]? with
    | none=>rw[e]at hkk;cases hkk
    | some pr =>
     rw[e]at hkk
     cases hkk
     have hmem:pr.1∈S.chn.ring j:=au.mpr ⟨pr,av e,rfl⟩
     refine⟨_,rfl,_,rfl,ha,_,_,_,rfl,rfl,SqT.of (s4 _ _ (by rw[z5 ltha];exact hha)),zk0 (hT.get_step (ok.lt j _ hj hmem)),y0.refl _,?_⟩
     show(((S.atS j).to.map Prod.fst).map λp=>V.int ((h.getD p 0:Nat):Int))[u]?=_
     rw[ah,ah,e]
     rfl
   ·intro Dl H4 hD s4 hl4
    have s5:=zy1 st.lt s4
    have hDl:Dl≠a.lt:=λz=>by subst z;rw[z3]at hD;cases hD
    refine⟨⟨ob,s4 _ _ z3⟩,?_⟩
    have hl5:(upd H4 a.lt (.dK (kI (S.atS j).to))) Dl=some (.lst (((S.chn.ring j).map λp=>((h.getD p 0:Nat):Int)).map V.int)):=by
     rw[z5 hDl,bx]
     exact hl4
    generalize upd H4 a.lt (.dK (kI (S.atS j).to))=H5 at s5 hl5 ⊢
    refine⟨Dl,_,rfl,SqL.of hl5,by rw[aa];exact rp,λM hM hmin=>?_⟩
    obtain⟨p,hp,rfl⟩:=au.mp hM
    have hpn:=ok.lt j p hj hp
    have hmin':∀q,q∈S.chn.ring j->h.getD p 0<=h.getD q 0:=λq hq=>by
     have:=hmin _ (au.mpr ⟨q,hq,rfl⟩)
     lia
    have hha5:=s5 _ _ hha
    have hsa5:=s5 _ _ hsa
    refine⟨_,rfl,_,rfl,a.a,cS,dxs,_,_,rfl,hsa5,cs.cls,cs.no "place" (by decide),rfl,ha,_,_,_,rfl,rfl,SqT.of hha5,zk0 (hT.get_step hj),_,rfl,rfl,_,rfl,?_⟩
    by_cases ep:j=p
    ·subst ep
     rw[U2,decide_eq_true rfl]
     refine i9 ⟨ha,h,_,_,rfl,s3.trans s5,hha5,hT,λx hx=>hN x ⟨j,hp,hmin',?_⟩⟩
     rw[ok.upOwn j hj,TM.still_beh hT]
     rw[←ej]
     exact hx
    ·have hne:¬((h.getD j 0:Nat):Int)=((h.getD p 0:Nat):Int):=λz=>ep (hT.step_inj hj hpn (by lia))
     rw[U2,decide_eq_false hne]
     have ch5:=ch3.same s5
     have hup:=ok.upT hj hp
     refine Z1 ⟨_,rfl,A.c,dxc,_,rfl,s5 _ _ (s3 _ _ (s1 _ _ hc)),rfl,_,rfl,_,rfl,⟨ha,_,rfl,hha5⟩,_,rfl,ha,TM.iN h,((h.getD p 0:Nat):Int),p,rfl,rfl,SqT.of (by rw[yq8];exact hha5),xt9 (hT.get_step hpn),λu hu c=>?_,A,S,n,j,p,a,rfl,ch5,iv,hj,hA,hp,λb hb=>?_⟩
     ·obtain⟨y,hy,e⟩:=xj0 c
      have:=hT.inj hy (show h[p]?=some y by rw[hT.get_step hpn,show h.getD p 0=y by lia])
      lia
     ·refine⟨_,rfl,b,ha,_,_,rfl,SqT.of hb,SqT.of hha5,by rw[hup.length];lia,λx hx=>by rw[hT.length];exact hup.lt hx,λr H7 hr0' s7 hr7=>?_⟩
      refine⟨r,_,_,_,rfl,s3.trans (s5.trans s7),hr7,hup.beh hT,λx hx=>hN x ⟨p,hp,hmin',?_⟩⟩
      rw[show lv+(i+1)=j+1 by lia]at hx
      exact hx
 ·rintro σ Hh ⟨ha,h,v4,v5,rfl,s3,hha,hT,hN⟩
  refine⟨_,rfl,q ha Hh h (s1.trans s3) hha hT (hN h ?_)⟩
  rw[bE,hstl,show n-lv-(n-lv)=0 by lia]
  rfl
theorem i3.least {cG cC cB cS:Addr}{n:Nat}{H:Hp}{g:Addr}{ts:List (List Nat)}{S:ChS}(ga:i3 cG cC cB cS n H g ts S){t u:List Nat}(hT:TM.IsT n t)(h:S.chn.LeastL (List.range' 0 n) t u):TM.LeastOf n (λz=>z∈ts) t u:=by
 obtain⟨⟨g1,hg1,e1⟩,h2⟩:=ga.st.inv.ok.least n 0 t u (fE n) (λi _ hi=>ga.st.inv.shut (ga.st.done i hi)) hT h
 exact⟨⟨g1,(ga.grp g1).mp hg1,e1⟩,λx ⟨g2,hg2,e2⟩=>h2 x ⟨g2,(ga.grp g2).mpr hg2,e2⟩⟩
def yd5 (cG cC cB cS:Addr):Sp:=λvs H Q _=>∃(g tr:Addr) (n:Nat) (ts:List (List Nat)) (S:ChS) (t:List Nat),vs=[.ref g,.ref tr]/\i3 cG cC cB cS n H g ts S/\H tr=some (.tup (tI t))/\TM.IsT n t/\∀(r:Addr) (H':Hp) (u:List Nat),y0 H H'->H' r=some (.tup (tI u))->TM.IsT n u->TM.LeastOf n (λz=>z∈ts) t u->Q (.ref r) H'
theorem zr6:y4 ["self","thing"] ["self","thing"] (z8 L0):=scq
theorem zp8 {cG cC cB cS:Addr}(F:Fun K "least" "Group.least" L0 f fd)(B:Blt mg)(cg:p4 K cG Y6)(cc:p4 K cC Y4)(KT:o7 P w K mg base 3 "is_turning_of" ["thing","many"] N4)(ML:l4 P w K mg base 2 cC "least_of" ["self","turning","level"] (zh6 cC cB cS)):u6 P w K mg base CX0 4 f fd ["self","thing"] (yd5 cG cC cB cS):=by
 refine F.ok zr6 (λvs H Q E h=>?_) (λcdv Ar outer sh H vs Q E hr h=>?_)
 ·obtain⟨g,tr,n,ts,S,t,rfl,_⟩:=h
  rfl
 obtain⟨g,tr,n,ts,S,t,rfl,ga,htr,htT,q⟩:=h
 obtain⟨dx,ma,A,mas,h1,h2,h3,h4⟩:=ga.at'
 refine⟨_,z7 (l8 (X8 (Y5 (q9 KT hr rfl (z0 (pv 1) (z0 (y3 (pv 0) rfl) z4))))) (z6 C9) u8) (z6 (y9 (l7 cc.cls ML hr (y3 (pv 0) rfl) (z0 (pv 1) (z0 x9 z4))))),?_⟩
 refine⟨_,rfl,_,rfl,g,cG,dx,_,_,rfl,h1,cg.cls,cg.no "many" (by decide),rfl,.ref tr,_,n,rfl,zg8 htr,λds hd=>?_,λH1 s1=>⟨_,rfl,?_⟩⟩
 ·cases hd
  rw[aa,htT.length]
  have:=ga.n60
  lia
 have h4':=h4.same s1
 obtain⟨dxc,hc⟩:=h4'.c
 show if (!(l5 (.tuple (t.map λ(x:Nat)=>PyData.int x))&&decide ((t.map λ(x:Nat)=>PyData.int x).length=n)))=true then _ else _
 rw[zt3 htT ga.n0 ga.n60]
 refine i9 ⟨_,rfl,g,cG,dx,_,_,rfl,s1 _ _ h1,cg.cls,cg.no "chain" (by decide),rfl,A.c,dxc,_,rfl,hc,rfl,_,rfl,A,S,n,0,tr,t,rfl,h4',ga.st.inv,ga.n60,aP _,s1 _ _ htr,htT,λr H2 u s2 hr2 uT hu=>?_⟩
 exact q r H2 u (s1.trans s2) hr2 uT (ga.least htT hu)
theorem za7 {H:Hp}{mas:List Addr}{md:List (List Nat)}(h:i7 H mas md):∀(ks:List Nat),(∀k∈ks,k<md.length)->i7 H (ks.map λk=>mas.getD k 0) (ks.map λk=>md.getD k [])
 | [],_=>.nil
 | k::ks,hk=>by
  refine .cons ?_ (za7 h ks λj hj=>hk j (ao _ hj))
  obtain⟨a,ha,hat⟩:=g7 h k _ (W7 [] (hk k ax))
  show H (mas.getD k 0)=some (.tup (tI (md.getD k [])))
  rw[ay,ha]
  exact hat
def yk9 (cC cB cS:Addr):Sp:=λvs H Q _=>∃(A:ChA) (S:ChS) (n lv:Nat),vs=[.ref A.c,.int lv]/\u0 cC cB cS n H A S/\S.Inv n/\n<=60/\lv<n /\
 ∀(l:Addr) (mas:List Addr) (H':Hp),H l=none->y0 H H'->H' l=some (.lst (mas.map V.ref))->i7 H' mas ((S.atS lv).mv.map λk=>S.md.getD k [])->Q (.ref l) H'
theorem zc7:y4 ["self","level"] ["self","level"] (z8 U9):=scq
theorem zb6 {cC cB cS:Addr}(F:Fun K "movers_at" "Chain.movers_at" U9 f fd)(B:Blt mg)(cc:p4 K cC Y4)(cb:p4 K cB zd1)(cs:p4 K cS K7):u6 P w K mg base CX0 1 f fd ["self","level"] (yk9 cC cB cS):=by
 refine F.ok zc7 (λvs H Q E h=>?_) (λcdv Ar outer sh H vs Q E hr h=>?_)
 ·obtain⟨A,S,n,lv,rfl,_⟩:=h
  rfl
 obtain⟨A,S,n,lv,rfl,ch,iv,hn,hlv,q⟩:=h
 obtain⟨dxc,hc⟩:=ch.c
 obtain⟨a,hA⟩:∃a,A.st[lv]?=some a:=⟨_,ae (by rw[ch.len.1];exact hlv)⟩
 have hs:=ChS.get_at (S:=S) (j:=lv) (by rw[iv.len];exact hlv)
 have st:=ch.st lv a _ hA hs
 obtain⟨dxs,hsa⟩:=st.a
 obtain⟨dxb,hb⟩:=ch.bk.b
 obtain⟨mas,hlm,hmd⟩:=ch.bk.lm
 have gi:atI (A.st.map λs=>V.ref s.a) ((lv:Nat):Int)=some (V.ref a.a):=d0 (by rw[ah,hA];rfl)
 have few:=iv.few hn lv
 have hmk:∀k∈(S.atS lv).mv,k<S.md.length:=λk hk=>iv.fine.mvlt hk
 refine⟨_,z6 (y9 (c7 [0] ["line","self"] rfl (c9 (y3 (d9 l9 (y3 (pv 0) rfl) (pv 1) (λ_ _=>rfl)) rfl)) (λ_ _ _ _=>d9 l9 (y3 (y3 (pv 1) rfl) rfl) (pv 0) (λ_ _=>rfl)))),?_⟩
 refine⟨_,rfl,A.c,cC,dxc,_,_,rfl,hc,cc.cls,cc.no "steps" (by decide),rfl,_,rfl,A.l,_,_,_,rfl,rfl,SqL.of ch.l,gi,a.a,cS,dxs,_,_,rfl,hsa,cs.cls,cs.no "movers" (by decide),rfl,a.m,rfl,⟨_,SqL.of st.m⟩,A5 (SqL.of st.m) (((S.atS lv).mv.map λk=>mas.getD k 0).map V.ref) (by rw[aa,aa,v0]) (by rw[v0];exact small (by lia)) ?_ ?_⟩
 ·intro i H' x hx s' _ _ _ _
  obtain⟨k,hk,rfl⟩:=M6 hx
  obtain⟨b,hb1,hb2⟩:=g7 hmd k _ (W7 [] (hmk k (av hk)))
  have gk:atI (mas.map V.ref) ((k:Nat):Int)=some (V.ref b):=d0 (by rw[ah,hb1];rfl)
  refine⟨_,rfl,A.c,cC,dxc,_,_,rfl,s' _ _ hc,cc.cls,cc.no "book" (by decide),rfl,A.b,cB,dxb,_,_,rfl,s' _ _ hb,cb.cls,cb.no "made" (by decide),rfl,_,rfl,A.lm,_,_,_,rfl,rfl,SqL.of (s' _ _ hlm),gk,y0.refl _,?_⟩
  rw[ah,ah,hk]
  show some (V.ref (mas.getD k 0))=some (V.ref b)
  rw[ay,hb1]
  rfl
 ·intro D H' hD s' hl
  exact q D _ H' hD s' hl ((za7 hmd _ hmk).same s')
def ChS.lean0 (S:ChS):List (List Nat):=(S.atS 0).mv.map λk=>S.md.getD k []
def yt7 (cG cC cB cS:Addr):Sp:=λvs H Q _=>∃(g:Addr) (n:Nat) (ts:List (List Nat)) (S:ChS),vs=[.ref g]/\i3 cG cC cB cS n H g ts S/\∀(l:Addr) (mas:List Addr) (H':Hp),H l=none->y0 H H'->H' l=some (.lst (mas.map V.ref))->i7 H' mas S.lean0->S.lean0.length<=354->TM.Indep n S.lean0->(∀u∈S.lean0,TM.IsT n u)->(∀x,TM.Grp n (λz=>z∈S.lean0) x↔TM.Grp n (λz=>z∈ts) x)->Q (.ref l) H'
theorem A3:y4 ["self"] ["self"] (z8 X9):=scq
theorem C6 {cG cC cB cS:Addr}(F:Fun K "lean_makers" "Group.lean_makers" X9 f fd)(B:Blt mg)(cg:p4 K cG Y6)(cc:p4 K cC Y4)(MM:l4 P w K mg base 1 cC "movers_at" ["self","level"] (yk9 cC cB cS)):u6 P w K mg base CX0 2 f fd ["self"] (yt7 cG cC cB cS):=by
 refine F.ok A3 (λvs H Q E h=>?_) (λcdv Ar outer sh H vs Q E hr h=>?_)
 ·obtain⟨g,n,ts,S,rfl,_⟩:=h
  rfl
 obtain⟨g,n,ts,S,rfl,ga,q⟩:=h
 obtain⟨dx,ma,A,mas,h1,h2,h3,h4⟩:=ga.at'
 obtain⟨dxc,hc⟩:=h4.c
 refine⟨_,z6 (y9 (l7 cc.cls MM hr (y3 (pv 0) rfl) (z0 x9 z4))),?_⟩
 refine⟨_,rfl,g,cG,dx,_,_,rfl,h1,cg.cls,cg.no "chain" (by decide),rfl,A.c,dxc,_,rfl,hc,rfl,A,S,n,0,rfl,h4,ga.st.inv,ga.n60,ga.n0,λl mas' H' hl s' hl' hts'=>?_⟩
 have few:=ga.st.inv.few ga.n60 0
 have hmv:∀s,S.chn.mv 0 s↔s∈S.lean0:=λs=>⟨λ⟨k,hk,e⟩=>au.mpr ⟨k,hk,e⟩,λh=>by
  obtain⟨k,hk,e⟩:=au.mp h
  exact⟨k,hk,e⟩⟩
 refine q l mas' H' hl s' hl' hts' (by rw[show S.lean0.length=(S.atS 0).mv.length from aa _];exact few) (ga.st.inv.ind 0) (λu hu=>ga.st.inv.ok.mvT 0 u ((hmv u).mpr hu)) λx=>?_
 rw[←show S.chn.mv 0=λz=>z∈S.lean0 from funext λs=>propext (hmv s)]
 exact ga.grp x
def kT (t:List Nat):List Key:=t.map λ(x:Nat)=>Sum.inl (x:Int)
theorem S6 (t:List Nat):(kT t).map kV=tI t:=by
 unfold kT tI
 rw[bx]
 rfl
theorem zz7:∀{t u:List Nat},kT t=kT u->t=u
 | [],[],_=>rfl
 | x::t,y::u,h=>by
  have h:Sum.inl (x:Int)::kT t=(Sum.inl (y:Int)::kT u:List Key):=h
  obtain⟨h1,h2⟩:=List.cons.inj h
  have h1:=Sum.inl.inj h1
  rw[zz7 h2,show x=y by lia]
 | [],_::_,h=>by cases h
 | _::_,[],h=>by cases h
def kTs (L:List (List Nat)):List (List Key×V):=L.map λt=>(kT t,V.bl true)
theorem A9 (u:List Nat):∀L:List (List Nat),L9 (kTs L) (kT u)=if u∈L then some (V.bl true) else none
 | []=>rfl
 | t::L=>by
  have e:kTs (t::L)=(kT t,V.bl true)::kTs L:=rfl
  rw[e]
  by_cases h:t=u
  ·subst h
   rw[if_pos ax]
   exact N8 (p:=(kT t,V.bl true)) rfl
  ·rw[T4 (p:=(kT t,V.bl true)) λz=>h (zz7 z),A9 u L]
   by_cases h2:u∈L
   ·rw[if_pos h2,if_pos (ao _ h2)]
   ·rw[if_neg h2,if_neg λz=>(aw.mp z).elim (λe=>h e.symm) h2]
theorem zx9 {u:List Nat}{L:List (List Nat)}(h:u∉L):putK (kTs L) (kT u) (V.bl true)=kTs (L++[u]):=by
 have e:=A9 u L
 rw[if_neg h]at e
 unfold putK
 rw[N7,e]
 show kTs L++[(kT u,V.bl true)]=kTs (L++[u])
 unfold kTs
 rw[aG]
 rfl
structure Fnd (n:Nat) (S L:List (List Nat)) (k:Nat):Prop where
 nd:L.Nodup
 one:List.range n∈L
 grp:∀x∈L,TM.Grp n (λz=>z∈S) x
 done:∀i x,i<k->L[i]?=some x->∀s∈S,TM.beh x s∈L
 le:k<=L.length
def V2 (t:List Nat):PyData:=.tuple ((t.map λ(x:Nat)=>(x:Int)).map PyData.int)
theorem X0 {K:W.Frag}{H:Hp}{b:Addr}{t:List Nat}(e:H b=some (.tup (tI t))):RdD K H (.ref b) (V2 t):=.tup (SqT.of (by rw[←yu8];exact e)) (D5.ints _)
theorem yj6 {K:W.Frag}{H:Hp}{as:List Addr}{ts:List (List Nat)}(h:i7 H as ts):D5 K H (as.map V.ref) (ts.map V2):=by
 induction h with
 | nil=>exact .nil
 | cons f _ ih=>exact .cons (X0 f) ih
theorem yg9 (ns:List Int):PyData.canLayAll0 (ns.map PyData.int)=true/\PyData.depthAll (ns.map PyData.int)<=1:=by
 induction ns with
 | nil=>simp[PyData.canLayAll0,PyData.depthAll]
 | cons n r ih =>
  obtain⟨h1,h2⟩:=ih
  refine⟨by simp[PyData.canLayAll0,PyData.canLay0,h1],?_⟩
  simp only[aR,PyData.depthAll,PyData.depth]
  lia
theorem xf6 (ts:List (List Nat)):PyData.canLayAll0 (ts.map V2)=true/\PyData.depthAll (ts.map V2)<=2:=by
 induction ts with
 | nil=>simp[PyData.canLayAll0,PyData.depthAll]
 | cons t r ih =>
  obtain⟨h1,h2⟩:=ih
  obtain⟨h3,h4⟩:=yg9 (t.map λ(x:Nat)=>(x:Int))
  refine⟨by simp only[aR,PyData.canLayAll0,V2,PyData.canLay0,h1,h3];rfl,?_⟩
  simp only[aR,PyData.depthAll,V2,PyData.depth]
  lia
theorem yk2 (ts:List (List Nat)):PyData.eqv (.list (ts.map V2)) (.list (ts.map V2))=true/\PySem.SeqAt.shaped (.list (ts.map V2))=true:=by
 obtain⟨h1,h2⟩:=xf6 ts
 have h3:(PyData.list (ts.map V2)).canLay0=true:=by simp only[PyData.canLay0];exact h1
 refine⟨PySem.SeqAt.eqv_refl _ h3,?_⟩
 unfold PySem.SeqAt.shaped
 rw[bp]
 refine⟨h3,decide_eq_true ?_⟩
 simp only[PyData.depth]
 lia
theorem N3 (t:List Nat):PySem.SeqAt.shaped (V2 t)=true:=by
 obtain⟨h1,h2⟩:=yg9 (t.map λ(x:Nat)=>(x:Int))
 have h3:(V2 t).canLay0=true:=by simp only[V2,PyData.canLay0];exact h1
 unfold PySem.SeqAt.shaped
 rw[bp]
 refine⟨h3,decide_eq_true ?_⟩
 simp only[V2,PyData.depth]
 lia
theorem zo1:∀{t u:List Nat},(t.map λ(x:Nat)=>(x:Int))=(u.map λ(x:Nat)=>(x:Int))->t=u
 | [],[],_=>rfl
 | x::t,y::u,h=>by
  rw[aR,aR]at h
  obtain⟨h1,h2⟩:=List.cons.inj h
  rw[zo1 h2,show x=y by lia]
 | [],_::_,h=>by cases h
 | _::_,[],h=>by cases h
theorem zd4 (t u:List Nat):PyData.eqv (V2 t) (V2 u)=decide (t=u):=by
 unfold V2
 rw[PyData.eqv,D9]
 exact decide_eq_decide.mpr ⟨zo1,λh=>by rw[h]⟩
structure Ent where
 k:List Nat
 wa:Addr
 w:List Nat
 ba:Addr
 b:List Nat
def U3 (g:Ent->V)(es:List Ent):List (List Key×V):=es.map λe=>(kT e.k,g e)
theorem zz3 (g:Ent->V){u:List Nat}:∀{es:List Ent},u∉es.map Ent.k->L9 (U3 g es) (kT u)=none
 | [],_=>rfl
 | e::es,h=>by
  have e1:U3 g (e::es)=(kT e.k,g e)::U3 g es:=rfl
  rw[e1,T4 (p:=(kT e.k,g e)) λz=>h (by rw[←zz7 (show kT e.k=kT u from z)];exact ax)]
  exact zz3 g λz=>h (ao _ z)
theorem P7 (g:Ent->V){e:Ent}:∀{es:List Ent},(es.map Ent.k).Nodup->e∈es->L9 (U3 g es) (kT e.k)=some (g e)
 | d::es,hn,h=>by
  have e1:U3 g (d::es)=(kT d.k,g d)::U3 g es:=rfl
  rw[e1]
  rw[aR,aK]at hn
  by_cases hk:d.k=e.k
  ·rcases aw.mp h with q|q
   ·rw[q]
    exact N8 (p:=(kT d.k,g d)) rfl
   ·exact absurd (hk ▸ au.mpr ⟨e,q,rfl⟩) hn.1
  ·rw[T4 (p:=(kT d.k,g d)) λz=>hk (zz7 z)]
   rcases aw.mp h with q|q
   ·exact absurd (by rw[q]) hk
   ·exact P7 g hn.2 q
theorem yg5 (g:Ent->V){es:List Ent}{e:Ent}(h:e.k∉es.map Ent.k):putK (U3 g es) (kT e.k) (g e)=U3 g (es++[e]):=by
 have e1:=zz3 g h
 unfold putK
 rw[N7,e1]
 show U3 g es++[(kT e.k,g e)]=U3 g (es++[e])
 unfold U3
 rw[aG]
 rfl
structure W5 (H:Hp) (wd bd:Addr) (es:List Ent):Prop where
 w:H wd=some (.dT (U3 (λe=>.ref e.wa) es))
 b:H bd=some (.dT (U3 (λe=>.ref e.ba) es))
 ne:wd≠bd
 at':∀e∈es,H e.wa=some (.tup (tI e.w))/\H e.ba=some (.tup (tI e.b))/\e.w.length<=es.length
 nd:(es.map Ent.k).Nodup
def yc3 (g a o wd bd:Addr):List (Str×V):=[("group",.ref g),("act",.ref a),("own",.ref o),("ways",.ref wd),("bringers",.ref bd)]
def K3:List Str:=["group","act","own","ways","bringers"]
theorem W5.tup {H:Hp}{wd bd tr:Addr}{es:List Ent}{xs:List V}(d:W5 H wd bd es)(h:H tr=some (.tup xs)):tr≠wd/\tr≠bd:=⟨λz=>(by rw[z,d.w]at h;cases h),λz=>(by rw[z,d.b]at h;cases h)⟩
theorem W5.frame {H H':Hp}{wd bd:Addr}{es:List Ent}{F:List Addr}(d:W5 H wd bd es)(fr:y1 F H H')(hw:wd∉F)(hb:bd∉F)(hF:∀y∈F,∀xs,H y≠some (.tup xs)):W5 H' wd bd es :=
 ⟨fr _ _ hw d.w,fr _ _ hb d.b,d.ne,λe he=>⟨fr _ _ (λz=>hF _ z _ (d.at' e he).1) (d.at' e he).1,fr _ _ (λz=>hF _ z _ (d.at' e he).2.1) (d.at' e he).2.1,(d.at' e he).2.2⟩,d.nd⟩
theorem W5.same {H H':Hp}{wd bd:Addr}{es:List Ent}(d:W5 H wd bd es)(s:y0 H H'):W5 H' wd bd es:=d.frame (F:=[]) (y0.frame s) (λz=>by cases z) (λz=>by cases z) λ_ z=>by cases z
theorem O0 {X:Cx}{st:List Stmt}{R:TS->Prop}{t:TS}(h:DSs X st t)(r:R t):∃t,PSs X st t/\R t:=⟨t,h.h,r⟩
theorem o5 {t1 u:TS}{D:za9}{σ:St}{H:Hp}(h:∀N:St->Hp->Prop,(∀σ H,u D σ H->N σ H)->t1 { D with nx:=N } σ H):xh4 t1 u D σ H:=h (λσ H=>u D σ H) λ_ _ h=>h
def yd6 (cR X:Addr):Sp:=λvs H Q E=>∃(x dx g a o wd bd tr wr br:Addr) (es:List Ent) (k w b:List Nat) (most:Nat),vs=[.ref x,.ref tr,.ref wr,.ref br,.int most]/\H x=some (.ins cR dx (yc3 g a o wd bd))/\W5 H wd bd es/\H tr=some (.tup (tI k))/\H wr=some (.tup (tI w))/\H br=some (.tup (tI b))/\k∉es.map Ent.k/\es.length<1000000/\w.length<=es.length+1 /\
 (es.length<most->∀H',y1 [wd,bd] H H'->W5 H' wd bd (es++[⟨k,wr,w,br,b⟩])->Q .non H')/\(most<=es.length->E (.ref X) none H)
theorem zf1:y4 ["self","thing","way","turning","most"] ["self","thing","way","turning","most"] (z8 R5):=scq
theorem ze2 {cR X TE:Addr}(F:Fun K "put_thing" "Ring.put_thing" R5 f fd)(B:Blt mg)(cr:p4 K cR K3)(EA:ye4 K mg TE "TooMany" X):u6 P w K mg base (CX1 P w) 1 f fd ["self","thing","way","turning","most"] (yd6 cR X):=by
 refine F.okX zf1 (λvs H Q E h=>?_) (λcdv A outer s H vs Q E hr h=>?_)
 ·obtain⟨x,dx,g,a,o,wd,bd,tr,wr,br,es,k,w,b,most,rfl,_⟩:=h
  rfl
 obtain⟨x,dx,g,a,o,wd,bd,tr,wr,br,es,k,w,b,most,rfl,hx,d,htr,hwr,hbr,hk,hes,hwl,q,qx⟩:=h
 have hz:=p9
 have hu:=zi9 hr
 refine⟨_,z7 (l8 (k8 xm8 (w8 zi3 rfl B.len Z4 (z0 (y3 (pv 0) rfl) z4)) (pv 4) (n1 _)) (z6 (zr1 EA.m EA.c PySem.F.excBase_ValueError rfl rfl (z0 C8 z4))) u8)
  (z7 (J6 hu (y3 (pv 0) rfl) (pv 1) (pv 2) rfl)
  (z6 (J6 hu (y3 (pv 0) rfl) (pv 1) (pv 3) rfl))),?_⟩
 refine o5 λN hN=>⟨_,rfl,x,cR,dx,_,_,rfl,hx,cr.cls,cr.no "ways" (by decide),rfl,wd,_,rfl,d.w,_,rfl,_,_,rfl,rfl,_,rfl,?_⟩
 rw[show(U3 (λe=>V.ref e.wa) es).length=es.length from aa _]
 by_cases hm:most<=es.length
 ·rw[decide_eq_true (by lia)]
  exact Z1 ⟨by decide,qx hm⟩
 rw[decide_eq_false (by lia)]
 refine i9 (hN _ _ ?_)
 clear hN N
 have hl:∀g:Ent->V,(U3 g es).length<fQ:=λg=>by rw[show(U3 g es).length=es.length from aa _];lia
 have kt:∀{G:Hp},G tr=some (.tup (tI k))->G tr=some (.tup ((kT k).map kV)):=λ{G} h=>by rw[S6];exact h
 obtain⟨tw,tb⟩:=d.tup htr
 obtain⟨ww,wb⟩:=d.tup hwr
 obtain⟨bw,bb⟩:=d.tup hbr
 refine o5 λN hN=>⟨_,rfl,_,rfl,x,cR,dx,_,_,rfl,hx,cr.cls,cr.no "ways" (by decide),rfl,_,rfl,wd,_,rfl,.t d.w (kt htr) (hl _),hN _ _ ?_⟩
 clear hN N
 have xw:x≠wd:=λz=>by rw[z,d.w]at hx;cases hx
 have xb:x≠bd:=λz=>by rw[z,d.b]at hx;cases hx
 have e1:=yg5 (λe=>V.ref e.wa) (es:=es) (e:=⟨k,wr,w,br,b⟩) hk
 have e2:=yg5 (λe=>V.ref e.ba) (es:=es) (e:=⟨k,wr,w,br,b⟩) hk
 dsimp only at e1 e2
 rw[e1]
 have f1:y1 [wd,bd] H (upd H wd (.dT (U3 (λe=>V.ref e.wa) (es++[⟨k,wr,w,br,b⟩])))):=y1.upd y1.refl (by simp) _
 have w1:(upd H wd (.dT (U3 (λe=>V.ref e.wa) (es++[⟨k,wr,w,br,b⟩])))) wd=some (.dT (U3 (λe=>V.ref e.wa) (es++[⟨k,wr,w,br,b⟩]))):=z3
 have b1:(upd H wd (.dT (U3 (λe=>V.ref e.wa) (es++[⟨k,wr,w,br,b⟩])))) bd=some (.dT (U3 (λe=>V.ref e.ba) es)):=by rw[z5 (Ne.symm d.ne)];exact d.b
 generalize upd H wd (.dT (U3 (λe=>V.ref e.wa) (es++[⟨k,wr,w,br,b⟩])))=H1 at f1 w1 b1 ⊢
 have nF:∀{y:Addr},y≠wd->y≠bd->y∉[wd,bd]:=λh1 h2 z=>by simp only[aw,bD,or_false]at z;exact z.elim h1 h2
 refine⟨_,rfl,_,rfl,x,cR,dx,_,_,rfl,f1 _ _ (nF xw xb) hx,cr.cls,cr.no "bringers" (by decide),rfl,_,rfl,bd,_,rfl,.t b1 (kt (f1 _ _ (nF tw tb) htr)) (hl _),?_⟩
 rw[e2]
 have f2:=f1.upd (a:=bd) (by simp) (.dT (U3 (λe=>V.ref e.ba) (es++[⟨k,wr,w,br,b⟩])))
 refine q (by lia) _ f2 ⟨by rw[z5 d.ne];exact w1,z3,d.ne,λe he=>?_,?_⟩
 ·rcases aC.mp he with h|h
  ·obtain⟨p1,p2,p3⟩:=d.at' e h
   obtain⟨t1,t2⟩:=d.tup p1
   obtain⟨t3,t4⟩:=d.tup p2
   exact⟨f2 _ _ (nF t1 t2) p1,f2 _ _ (nF t3 t4) p2,by rw[aq];lia⟩
  ·rw[af.mp h]
   exact⟨f2 _ _ (nF ww wb) hwr,f2 _ _ (nF bw bb) hbr,by rw[aq];exact hwl⟩
 ·rw[aG]
  exact bu.mpr ⟨d.nd,by simp,λu hu' v hv z=>hk (by rw[aR,cn,af]at hv;have hv:v=k:=hv;rw[←hv,←z];exact hu')⟩
structure yl8 (cA:Addr) (n:Nat) (AH:Hp->Addr->Prop) (ok:List Nat->Prop) (mv:List Nat->List Nat->List Nat):Prop where
 ins:∀{H a},AH H a->∃dx fs,H a=some (.ins cA dx fs)/\fs.lookup ("moved":Str)=none/\fs.lookup ("looked":Str)=none/\fs.lookup ("many":Str)=some (.int n)
 same:∀{H H' a},AH H a->y0 H H'->AH H' a
 okm:∀{l t},ok l->TM.IsT n t->ok (mv l t)
def yy9 (n:Nat)(AH:Hp->Addr->Prop)(ok:List Nat->Prop)(mv:List Nat->List Nat->List Nat):Sp:=λvs H Q _=>∃(a lr tr:Addr) (l t:List Nat),vs=[.ref a,.ref lr,.ref tr]/\AH H a/\H lr=some (.tup (tI l))/\ok l/\H tr=some (.tup (tI t))/\TM.IsT n t/\∀(r:Addr) (H':Hp),y0 H H'->H' r=some (.tup (tI (mv l t)))->Q (.ref r) H'
structure c3 (cR cG cC cB cS:Addr) (n:Nat) (AH:Hp->Addr->Prop) (ts:List (List Nat)) (S:ChS) (H0 H:Hp) (x g a o wd bd:Addr) (es:List Ent):Prop where
 x':∃dx,H x=some (.ins cR dx (yc3 g a o wd bd))
 s:y0 H0 H
 w0:H0 wd=none
 b0:H0 bd=none
 ga:i3 cG cC cB cS n H0 g ts S
 ac:AH H0 a
 d:W5 H wd bd es
section
variable {cR cG cC cB cS cA:Addr}{n:Nat}{AH:Hp->Addr->Prop}{ts:List (List Nat)}{S:ChS}{H0 H H':Hp}{x g a o wd bd:Addr}{es es':List Ent}
theorem c3.frame (r:c3 cR cG cC cB cS n AH ts S H0 H x g a o wd bd es)(fr:y1 [wd,bd] H H')(d:W5 H' wd bd es'):c3 cR cG cC cB cS n AH ts S H0 H' x g a o wd bd es':=by
 obtain⟨dx,hx⟩:=r.x'
 have xw:x≠wd:=λz=>by rw[z,r.d.w]at hx;cases hx
 have xb:x≠bd:=λz=>by rw[z,r.d.b]at hx;cases hx
 refine⟨⟨dx,fr _ _ (by simp[xw,xb]) hx⟩,λb u h=>fr b u (λz=>?_) (r.s b u h),r.w0,r.b0,r.ga,r.ac,d⟩
 simp only[aw,bD,or_false]at z
 rcases z with z|z
 ·rw[z,r.w0]at h;cases h
 ·rw[z,r.b0]at h;cases h
theorem c3.same (r:c3 cR cG cC cB cS n AH ts S H0 H x g a o wd bd es)(s:y0 H H'):c3 cR cG cC cB cS n AH ts S H0 H' x g a o wd bd es:=r.frame (y0.frame s) (r.d.same s)
end
theorem xw7 {K:W.Frag}{H:Hp}{a b:Addr}{u:List Nat}{i:Nat}{Q:VK}(ha:H a=some (.tup (tI u)))(hb:H b=some (.tup [V.int i]))(hl:u.length+1<=fQ)(q:∀(r:Addr) (H':Hp),y0 H H'->H' r=some (.tup (tI (u++[i])))->Q (.ref r) H'):xf2 K (.ref a) (.ref b) H Q:=by
 refine⟨a,b,tI u,[V.int i],rfl,rfl,SqT.of ha,SqT.of hb,by rw[v0];exact hl,λe=>?_,λ_ e=>(by cases e),λ_ _ p hp=>q p _ (y2 hp _) (by rw[z3,K8];rfl)⟩
 cases u with
 | nil=>exact q b H (y0.refl H) hb
 | cons _ _=>cases e
def xn9 (n:Nat)(ts:List (List Nat))(mv:List Nat->List Nat->List Nat)(o:List Nat)(most:Nat):Prop:=∃L:List (List Nat),L.Nodup/\(∀k∈L,TM.Rch n ts mv o k)/\most<L.length
def yu0 (cR cG cC cB cS X:Addr)(n:Nat)(AH:Hp->Addr->Prop)(ok:List Nat->Prop)(mv:List Nat->List Nat->List Nat):Sp:=λvs H Q E=>∃(ts:List (List Nat)) (S:ChS) (H0:Hp) (x g a o wd bd el:Addr) (es:List Ent) (eas:List Addr) (eks:List (List Nat)) (ow:List Nat) (most:Nat),
 vs=[.ref x,.ref el,.int most]/\c3 cR cG cC cB cS n AH ts S H0 H x g a o wd bd es/\H el=some (.lst (eas.map V.ref))/\i7 H eas eks/\(∀k∈eks,k∈es.map Ent.k)/\ok ow/\(∀e∈es,TM.Ways n ts mv ow e.k e.w e.b)/\es.length<=most/\most<1000000 /\
 (∀(fl:Addr) (fas:List Addr) (new:List Ent) (H':Hp),y1 [wd,bd] H H'->c3 cR cG cC cB cS n AH ts S H0 H' x g a o wd bd (es++new)->H' fl=some (.lst (fas.map V.ref))->i7 H' fas (new.map Ent.k)->(∀e∈new,TM.Ways n ts mv ow e.k e.w e.b)->(es++new).length<=most->(∀k∈eks,∀t∈ts,mv k t∈(es++new).map Ent.k)->Q (.ref fl) H') /\
 (∀H',y0 H0 H'->xn9 n ts mv ow most->E (.ref X) none H')
theorem i8:y4 ["self","edge","most","found","thing","number","maker","there"] ["self","edge","most"] (z8 R4):=scq
theorem ze1 {cR cG cC cB cS cA X:Addr}{n:Nat}{AH:Hp->Addr->Prop}{ok:List Nat->Prop}{mv:List Nat->List Nat->List Nat}(F:Fun K "next_edge" "Ring.next_edge" R4 f fd)(B:Blt mg)(cr:p4 K cR K3)(cg:p4 K cG Y6)(cl:Cls K cA)(ap:yl8 cA n AH ok mv)
  (MT:l4 P w K mg base 1 cG "told" ["self"] (yd9 cG cC cB cS)) (MM:l4 P w K mg base 5 cA "moved" ["self","thing","t"] (yy9 n AH ok mv)) (MP:zb0 P w K mg base 1 cR "put_thing" ["self","thing","way","turning","most"] (yd6 cR X)) (KB:o7 P w K mg base 1 "behind" ["one","other"] (Q9 K)):u6 P w K mg base (CX1 P w) 6 f fd ["self","edge","most"] (yu0 cR cG cC cB cS X n AH ok mv):=by
 refine F.okX i8 (λvs H Q E h=>?_) (λcdv A outer s H vs Q E hr h=>?_)
 ·obtain⟨ts,S,H0,x,g,a,o,wd,bd,el,es,eas,eks,ow,most,rfl,_⟩:=h
  rfl
 obtain⟨ts,S,H0,x,g,a,o,wd,bd,el,es,eas,eks,ow,most,rfl,ra,hel,hts,hek,hok,hways,hle,hmost,q,qx⟩:=h
 have hz:=p9
 have hu:=zi9 hr
 apply O0
 ·apply y6
  ·exact DS.mk (y8 (i:=3) i8.nd rfl (Or.inl rfl) (U7 z4))
  apply y6
  ·exact DS.mk (X7 PassesOwn.leaving rfl (c9 (pv 1)) (n8 (i:=4) i8.nd rfl (Or.inl rfl))
    (z6 (X7 PassesOwn.leaving rfl (yj1 rfl B.enumerate (z0 (X6 cg.cls MT hr (y3 (pv 0) rfl)) z4)) (zq8 rfl (W2 (n8 (i:=5) i8.nd rfl (Or.inl rfl)) (W2 (n8 (i:=6) i8.nd rfl (Or.inl rfl)) ze7)))
     (z7 (y8 (i:=7) i8.nd rfl (Or.inl rfl) (l7 cl MM hr (y3 (pv 0) rfl) (z0 (pv 4) (z0 (pv 6) z4))))
     (z6 (l8 (B0 (S9 hu (pv 7) (y3 (pv 0) rfl)))
      (z7 (m7 (zx8 cr.cls MP hr (pv 0) (z0 (pv 7) (z0 (c0 yi7 (Y8 hu (y3 (pv 0) rfl) (pv 4) (λ_ _=>rfl)) (J5 (z0 (pv 5) z4))) (z0 (q9 KB hr rfl (z0 (Y8 hu (y3 (pv 0) rfl) (pv 4) (λ_ _=>rfl)) (z0 (pv 6) z4))) (z0 (pv 2) z4))))))
      (z6 (m7 (E7 PySem.F.plainAttrs_list PySem.F.slot_list_append PySem.F.type_list_append Y0 (pv 3) (z0 (pv 7) z4))))) u8))))))
  exact⟨z6 (y9 (pv 3))⟩
 have elw:el≠wd:=λz=>by rw[z,ra.d.w]at hel;cases hel
 have elb:el≠bd:=λz=>by rw[z,ra.d.b]at hel;cases hel
 refine o5 λN hN=>⟨aP _,λfl hfl=>hN _ _ ?_⟩
 clear hN N
 have s1:=y2 hfl (.lst [])
 have e1:(upd H fl (.lst [])) fl=some (.lst []):=z3
 generalize upd H fl (.lst [])=H1 at s1 e1 ⊢
 obtain⟨Iv,eI⟩:∃Iv:List (List Nat)->Hp->Prop,Iv=λCl G=>∃(new:List Ent) (fas:List Addr),y1 [wd,bd] H G/\c3 cR cG cC cB cS n AH ts S H0 G x g a o wd bd (es++new)/\G fl=some (.lst (fas.map V.ref))/\i7 G fas (new.map Ent.k)/\(∀e∈new,TM.Ways n ts mv ow e.k e.w e.b)/\(es++new).length<=most/\∀u∈Cl,u∈(es++new).map Ent.k:=⟨_,rfl⟩
 have i0:Iv [] H1:=by
  rw[eI]
  exact⟨[],[],y0.frame s1,by rw[be];exact ra.same s1,e1,.nil,λe he=>(by cases he),by rw[be];exact hle,λu hu'=>(by cases hu')⟩
 have iS:∀{Cl G G'},Iv Cl G->y0 G G'->Iv Cl G':=λ{Cl G G'} h s'=>by
  rw[eI]at h ⊢
  obtain⟨new,fas,a1,a2,a3,a4,a5,a6,a7⟩:=h
  exact⟨new,fas,a1.trans (y0.frame s'),a2.same s',s' _ _ a3,a4.same s',a5,a6,a7⟩
 have hpl:eas.length=eks.length:=Paired.length hts
 refine o5 λN hN=>⟨_,rfl,el,rfl,⟨_,SqL.of (s1 _ _ hel)⟩,W1 (xs:=eas.map V.ref) (λi σ G=>∃v4 v5 v6 v7,σ=[some (.ref x),some (.ref el),some (.int most),some (.ref fl),v4,v5,v6,v7]/\Iv ((eks.take i).flatMap λk=>ts.map (mv k)) G)
  ⟨none,none,none,none,rfl,by rw[cO];exact i0⟩ (λi σ G _ ⟨_,_,_,_,_,h⟩=>?_) ?_ ?_⟩
 ·rw[eI]at h
  obtain⟨_,_,fr,_⟩:=h
  exact SqL.of (fr _ _ (by simp[elw,elb]) hel)
 ·clear hN
  rintro i y σ G hy ⟨v4,v5,v6,v7,rfl,hI⟩
  obtain⟨ea,hea,rfl⟩:=W4 hy
  obtain⟨k,hk,hHk⟩:=u7 hts i ea hea
  have hkes:=hek k (av hk)
  obtain⟨e0,he0,rfl⟩:=au.mp hkes
  have hw0:=hways e0 he0
  have hok0:ok e0.k:=TM.Rch.in (P:=ok) hok (λl t hl ht=>ap.okm hl (ra.ga.tT t ht)) ⟨_,_,hw0⟩
  have hI':=hI
  rw[eI]at hI'
  obtain⟨new,fas,a1,a2,a3,_⟩:=hI'
  obtain⟨dx,hx⟩:=a2.x'
  have gaG:=a2.ga.same a2.s
  obtain⟨dxg,ma,Ac,mas0,hg,_⟩:=gaG.at'
  refine⟨_,rfl,x,cR,dx,_,_,rfl,hx,cr.cls,cr.no "group" (by decide),rfl,g,dxg,_,rfl,hg,rfl,g,n,ts,S,rfl,gaG,λml mas G3 hml0 s3 hml hmas=>?_⟩
  have hmw:ml≠wd:=λz=>by rw[z,a2.d.w]at hml0;cases hml0
  have hmb:ml≠bd:=λz=>by rw[z,a2.d.b]at hml0;cases hml0
  have hmf:ml≠fl:=λz=>by rw[z,a3]at hml0;cases hml0
  have w3:=s3 _ _ a2.d.w
  have b3:=s3 _ _ a2.d.b
  have f3:=s3 _ _ a3
  have ea3:G3 ea=some (.tup (tI e0.k)):=s3 _ _ (a1 _ _ (by have:=ra.d.tup hHk;simp[this.1,this.2]) hHk)
  have hI3:=iS hI s3
  clear hI a1 a2 a3 hx gaG hg hml0
  have hTm:∀{G:Hp} {c:Addr} {u:List V},y1 [wd,bd,fl] G3 G->G3 c=some (.tup u)->G c=some (.tup u):=λ{G c u} fr h=>fr _ _ (λz=>by
   simp only[aw,bD,or_false]at z
   rcases z with z|z|z
   ·rw[z,w3]at h;cases h
   ·rw[z,b3]at h;cases h
   ·rw[z,f3]at h;cases h) h
  have hml3:mas.length=ts.length:=Paired.length hmas
  refine⟨ml,rfl,⟨_,SqL.of hml⟩,zd5 (xs:=mas.map V.ref) (λj σ G=>∃v5 v6 v7,σ=[some (.ref x),some (.ref el),some (.int most),some (.ref fl),some (.ref ea),v5,v6,v7]/\y1 [wd,bd,fl] G3 G/\Iv (((eks.take i).flatMap λk=>ts.map (mv k))++(ts.take j).map (mv e0.k)) G)
   ⟨v5,v6,v7,rfl,y1.refl,by rw[cO,cn,be];exact hI3⟩ (λj σ G _ ⟨_,_,_,_,fr,_⟩=>SqL.of (fr _ _ (by simp[hmw,hmb,hmf]) hml)) ?_ ?_⟩
  ·rintro j y σ G T hy ⟨v5,v6,v7,rfl,fr,hI⟩ hT
   obtain⟨m,hm,rfl⟩:=W4 hy
   obtain⟨t,ht,hmt⟩:=u7 hmas j m hm
   have tT:=ra.ga.tT t (av ht)
   refine⟨T,_,rfl,SqT.of z3,rfl,_,_,rfl,_,_,rfl,rfl,?_⟩
   have s4:=y2 hT (.tup [V.int ((j:Nat):Int),V.ref m])
   generalize upd G T (.tup [V.int ((j:Nat):Int),V.ref m])=G4 at s4 ⊢
   have ea4:=s4 _ _ (hTm fr ea3)
   have m4:=s4 _ _ (hTm fr hmt)
   have fr4:=fr.trans (y0.frame s4)
   have hI4:=iS hI s4
   clear hI s4 hT
   have hI':=hI4
   rw[eI]at hI'
   obtain⟨new,fas,a1,a2,a3,a4,a5,a6,a7⟩:=hI'
   obtain⟨dx,hx⟩:=a2.x'
   have hA:=ap.same a2.ac a2.s
   obtain⟨dxa,fsa,hains,l1,_⟩:=ap.ins hA
   refine o5 λM hM=>⟨_,rfl,x,cR,dx,_,_,rfl,hx,cr.cls,cr.no "act" (by decide),rfl,a,dxa,fsa,rfl,hains,l1,_,rfl,_,rfl,a,ea,m,e0.k,t,rfl,hA,ea4,hok0,m4,tT,λr G5 s5 hr5=>hM _ _ ?_⟩
   clear hM M hA hains l1
   have ea5:=s5 _ _ ea4
   have m5:=s5 _ _ m4
   have fr5:=fr4.trans (y0.frame s5)
   replace a1:=a1.trans (y0.frame s5)
   replace a2:=a2.same s5
   replace a3:=s5 _ _ a3
   replace a4:=a4.same s5
   replace hx:=s5 _ _ hx
   clear hI4 ea4 m4 fr4 s5
   generalize G5=G5 at *
   have kt:∀{c:Addr} {u:List Nat},G5 c=some (.tup (tI u))->G5 c=some (.tup ((kT u).map kV)):=λ{c u} h=>by rw[S6];exact h
   have more:∀(v5' v6' v7':Option V) (new':List Ent) (fas':List Addr) (G':Hp),y1 [wd,bd,fl] G3 G'->y1 [wd,bd] H G'->c3 cR cG cC cB cS n AH ts S H0 G' x g a o wd bd (es++new')->G' fl=some (.lst (fas'.map V.ref))->i7 G' fas' (new'.map Ent.k)->(∀e∈new',TM.Ways n ts mv ow e.k e.w e.b)->(es++new').length<=most->(∀u∈(es++new).map Ent.k,u∈(es++new').map Ent.k)->mv e0.k t∈(es++new').map Ent.k ->
     ∃v5 v6 v7,[some (.ref x),some (.ref el),some (.int most),some (.ref fl),some (.ref ea),v5',v6',v7']=[some (.ref x),some (.ref el),some (.int most),some (.ref fl),some (.ref ea),v5,v6,v7]/\y1 [wd,bd,fl] G3 G'/\Iv (((eks.take i).flatMap λk=>ts.map (mv k))++(ts.take (j+1)).map (mv e0.k)) G':=by
    intro v5' v6' v7' new' fas' G' b1 b2 b3 b4 b5 b6 b7 b8 b9
    refine⟨_,_,_,rfl,b1,?_⟩
    rw[eI]
    refine⟨new',fas',b2,b3,b4,b5,b6,b7,λu hu'=>?_⟩
    rw[bc,ht,ff,aG,←bz]at hu'
    rcases aC.mp hu' with h|h
    ·exact b8 u (a7 u h)
    ·rw[aR,cn,af]at h
     rw[h]
     exact b9
   by_cases hin:mv e0.k t∈(es++new).map Ent.k
   ·obtain⟨e1,he1,ek1⟩:=au.mp hin
    have hv:=P7 (λe=>V.ref e.wa) a2.d.nd he1
    rw[ek1]at hv
    refine⟨_,rfl,_,rfl,x,cR,dx,_,_,rfl,hx,cr.cls,cr.no "ways" (by decide),rfl,wd,_,rfl,Y2.t a2.d.w (kt hr5),?_⟩
    rw[hv]
    refine⟨_,rfl,i9 ?_⟩
    exact more _ _ _ new fas G5 fr5 a1 a2 a3 a4 a5 a6 (λu h=>h) hin
   ·have hv:=zz3 (λe=>V.ref e.wa) hin
    refine⟨_,rfl,_,rfl,x,cR,dx,_,_,rfl,hx,cr.cls,cr.no "ways" (by decide),rfl,wd,_,rfl,Y2.t a2.d.w (kt hr5),?_⟩
    rw[hv]
    refine⟨_,rfl,Z1 ?_⟩
    have he0':e0∈es++new:=aH _ he0
    obtain⟨p1,p2,p3⟩:=a2.d.at' e0 he0'
    have hv1:=P7 (λe=>V.ref e.wa) a2.d.nd he0'
    have hv2:=P7 (λe=>V.ref e.ba) a2.d.nd he0'
    have hbT:=hw0.isT ra.ga.tT
    have hn60:=ra.ga.n60
    refine o5 λM hM=>⟨_,rfl,x,dx,_,rfl,hx,rfl,_,rfl,_,rfl,x,cR,dx,_,_,rfl,hx,cr.cls,cr.no "ways" (by decide),rfl,_,rfl,wd,_,rfl,hv1 ▸ Y2.t a2.d.w (kt ea5),_,rfl,(by show 1<=fQ;lia),λtp htp=>xw7 (y2 htp _ _ _ p1) z3 (by lia) λwr G6 s6 hwr=>?_⟩
    replace s6:=(y2 htp (.tup [V.int ((j:Nat):Int)])).trans s6
    refine⟨_,rfl,x,cR,dx,_,_,rfl,s6 _ _ hx,cr.cls,cr.no "bringers" (by decide),rfl,_,rfl,bd,_,rfl,hv2 ▸ Y2.t (s6 _ _ a2.d.b) (by rw[S6];exact s6 _ _ ea5),_,rfl,e0.ba,m,e0.b,t,rfl,SqT.of (s6 _ _ p2),SqT.of (s6 _ _ m5),(by rw[hbT.length];lia),(λz hz'=>by rw[tT.length];exact bg.mp ((show e0.b.Perm (List.range n) from hbT).mem_iff.mp hz')),λbr G7 _ s7 hbr=>⟨_,rfl,?_⟩⟩
    have s57:=s6.trans s7
    have hW1:TM.Ways n ts mv ow (mv e0.k t) (e0.w++[j]) (TM.beh e0.b t):=.step hw0 ht
    replace a2:=a2.same s57
    replace a1:=a1.trans (y0.frame s57)
    replace a3:=s57 _ _ a3
    replace a4:=a4.same s57
    replace fr5:=fr5.trans (y0.frame s57)
    replace hr5:=s57 _ _ hr5
    replace hx:=s57 _ _ hx
    refine⟨x,dx,g,a,o,wd,bd,r,wr,br,es++new,mv e0.k t,e0.w++[j],TM.beh e0.b t,most,rfl,hx,a2.d,hr5,s7 _ _ hwr,hbr,hin,by lia,by rw[aq];show e0.w.length+1<=_;lia,λhlt G8 f8 d8=>hM _ _ ?_,λhge=>qx G7 a2.s ⟨mv e0.k t::(es++new).map Ent.k,aK.mpr ⟨hin,a2.d.nd⟩,λu hu'=>?_,by rw[aD,aa];lia⟩⟩
    ·clear hM M
     have flw:fl≠wd:=λz=>by rw[z,a2.d.w]at a3;cases a3
     have flb:fl≠bd:=λz=>by rw[z,a2.d.b]at a3;cases a3
     have r8:=a2.frame f8 d8
     have a38:=f8 _ _ (by simp[flw,flb]) a3
     have hr8:G8 r=some (.tup (tI (mv e0.k t))):=f8 _ _ (by have:=a2.d.tup hr5;simp[this.1,this.2]) hr5
     refine⟨_,rfl,.inl ⟨rfl,_,SqL.of a38⟩,_,rfl,fl,_,_,rfl,rfl,a38,?_,?_⟩
     ·rw[aa]
      have:=Paired.length a4
      rw[aa]at this
      rw[aq]at a6
      lia
     have f9:y1 [fl] G8 (upd G8 fl (.lst (fas.map V.ref++[V.ref r]))):=y1.upd y1.refl (by simp) _
     have hfk:∀y∈[fl],∀us,G8 y≠some (.tup us):=λy hy us z=>by rw[af.mp hy,a38]at z;cases z
     obtain⟨dx8,hx8⟩:=r8.x'
     have xf:x≠fl:=λz=>by rw[z,a38]at hx8;cases hx8
     have hflH:H fl=none:=hfl
     have H0fl:H0 fl=none:=by
      cases e:H0 fl with
      | none=>rfl
      | some u=>rw[ra.s _ _ e]at hfl;cases hfl
     refine more _ _ _ (new++[⟨mv e0.k t,wr,e0.w++[j],br,TM.beh e0.b t⟩]) (fas++[r]) _ ?_ ?_ ?_ ?_ ?_ ?_ ?_ ?_ ?_
     ·exact(fr5.trans (f8.more (by simp))).trans (f9.more (by simp))
     ·exact λb u hb h=>by rw[z5 (z9 h hfl)];exact(a1.trans f8) b u hb h
     ·rw[←bz]
      exact⟨⟨dx8,by rw[z5 xf];exact hx8⟩,λb u h=>by rw[z5 (z9 h H0fl)];exact r8.s b u h,r8.w0,r8.b0,r8.ga,r8.ac,r8.d.frame f9 (by simp[Ne.symm flw]) (by simp[Ne.symm flb]) hfk⟩
     ·rw[z3,aG];rfl
     ·have kp:∀{c:Addr} {u:List V},G7 c=some (.tup u)->(upd G8 fl (.lst (fas.map V.ref++[V.ref r]))) c=some (.tup u):=λ{c u} h=>f9 _ _ (λz=>hfk _ z u (f8 _ _ (by have:=a2.d.tup h;simp[this.1,this.2]) h)) (f8 _ _ (by have:=a2.d.tup h;simp[this.1,this.2]) h)
      rw[aG]
      exact O3 (Paired.imp' (λ_ _ z=>kp z) a4) (.cons (kp hr5) .nil)
     ·intro e he
      rcases aC.mp he with h|h
      ·exact a5 e h
      ·rw[af.mp h];exact hW1
     ·rw[←bz,aq];show _+1<=most;lia
     ·intro u h
      rw[←bz,aG]
      exact aH _ h
     ·rw[←bz,aG]
      exact aJ _ (by simp)
    ·rcases aw.mp hu' with h|h
     ·rw[h];exact⟨_,_,hW1⟩
     ·obtain⟨e,he,rfl⟩:=au.mp h
      rcases aC.mp he with h|h
      ·exact⟨_,_,hways e h⟩
      ·exact⟨_,_,a5 e h⟩
  ·rintro σ G ⟨v5,v6,v7,rfl,fr,hI⟩
   refine⟨_,_,_,_,rfl,?_⟩
   rw[aa,hml3,bn]at hI
   rw[bc,hk,ff,List.flatMap_append,cP,List.flatMap_nil,be]
   exact hI
 ·rintro σ G ⟨v4,v5,v6,v7,rfl,hI⟩
  rw[aa,hpl,bn]at hI
  rw[eI]at hI
  obtain⟨new,fas,a1,a2,a3,a4,a5,a6,a7⟩:=hI
  exact hN _ _ ⟨_,rfl,q fl fas new G a1 a2 a3 a4 a5 a6 λk hk t ht=>a7 _ (cH.mpr ⟨k,hk,au.mpr ⟨t,ht,rfl⟩⟩)⟩
def xg2 (cR cG cC cB cS X:Addr)(n:Nat)(AH:Hp->Addr->Prop)(ok:List Nat->Prop)(mv:List Nat->List Nat->List Nat):Sp:=λvs H Q E=>∃(ts:List (List Nat)) (S:ChS) (H0:Hp) (x g a o wd bd:Addr) (ow:List Nat) (most:Nat),
 vs=[.ref x,.int most]/\c3 cR cG cC cB cS n AH ts S H0 H x g a o wd bd []/\H o=some (.tup (tI ow))/\ok ow/\most<1000000 /\
 (∀(es:List Ent) (H':Hp),y1 [wd,bd] H H'->c3 cR cG cC cB cS n AH ts S H0 H' x g a o wd bd es->(∀e∈es,TM.Ways n ts mv ow e.k e.w e.b)->es.length<=most->(∃e∈es,e.k=ow/\e.b=List.range n)->(∀k∈es.map Ent.k,∀t∈ts,mv k t∈es.map Ent.k)->Q .non H') /\
 (∀H',y0 H0 H'->xn9 n ts mv ow most->E (.ref X) none H')
theorem E5:y4 ["self","most","edge"] ["self","most"] (z8 B8):=scq
theorem ya8 {cR cG cC cB cS X:Addr}{n:Nat}{AH:Hp->Addr->Prop}{ok:List Nat->Prop}{mv:List Nat->List Nat->List Nat}(F:Fun K "fill" "Ring.fill" B8 f fd)(B:Blt mg)(cr:p4 K cR K3)(cg:p4 K cG Y6)
  (MN:zb0 P w K mg base 6 cR "next_edge" ["self","edge","most"] (yu0 cR cG cC cB cS X n AH ok mv)) (MP:zb0 P w K mg base 1 cR "put_thing" ["self","thing","way","turning","most"] (yd6 cR X)) (KS:o7 P w K mg base 1 "still" ["many"] zm7):u6 P w K mg base (CX1 P w) 7 f fd ["self","most"] (xg2 cR cG cC cB cS X n AH ok mv):=by
 refine F.okX E5 (λvs H Q E h=>?_) (λcdv A outer s H vs Q E hr h=>?_)
 ·obtain⟨ts,S,H0,x,g,a,o,wd,bd,ow,most,rfl,_⟩:=h
  rfl
 obtain⟨ts,S,H0,x,g,a,o,wd,bd,ow,most,rfl,ra,ho,hok,hmost,q,qx⟩:=h
 have hz:=p9
 apply O0
 ·apply y6
  ·exact DS.mk (y8 (i:=2) E5.nd rfl (Or.inl rfl) (U7 (z0 (y3 (pv 0) rfl) z4)))
  apply y6
  ·exact DS.mk (m7 (zx8 cr.cls MP hr (pv 0) (z0 (y3 (pv 0) rfl) (z0 (J5 z4) (z0 (q9 KS hr rfl (z0 (y3 (y3 (pv 0) rfl) rfl) z4)) (z0 (pv 1) z4))))))
  exact⟨z6 (ze9 PassesOwn.leaving (k8 xe5 (w8 p0 rfl B.len Z4 (z0 (pv 2) z4)) x9 (n1 _)) (z6 (y8 (i:=2) E5.nd rfl (Or.inl rfl) (zx8 cr.cls MN hr (pv 0) (z0 (pv 2) (z0 (pv 1) z4))))))⟩
 obtain⟨dx,hx⟩:=ra.x'
 refine o5 λN hN=>⟨_,rfl,x,cR,dx,_,_,rfl,hx,cr.cls,cr.no "own" (by decide),rfl,(by show 1<=fQ;lia),λel hel=>hN _ _ ?_⟩
 clear hN N
 have s1:=y2 hel (.lst [V.ref o])
 have e1:(upd H el (.lst [V.ref o])) el=some (.lst [V.ref o]):=z3
 generalize upd H el (.lst [V.ref o])=H1 at s1 e1 ⊢
 have r1:=ra.same s1
 obtain⟨dxg,ma,Ac,mas0,hg,_⟩:=(r1.ga.same r1.s).at'
 refine o5 λN hN=>⟨_,rfl,x,dx,_,rfl,s1 _ _ hx,rfl,_,rfl,x,cR,dx,_,_,rfl,s1 _ _ hx,cr.cls,cr.no "own" (by decide),rfl,aP _,λwr hwr=>?_⟩
 have s2:=y2 hwr (.tup [])
 have e2:(upd H1 wr (.tup [])) wr=some (.tup []):=z3
 generalize upd H1 wr (.tup [])=H2 at s2 e2 ⊢
 refine⟨_,rfl,x,cR,dx,_,_,rfl,s2 _ _ (s1 _ _ hx),cr.cls,cr.no "group" (by decide),rfl,g,cG,dxg,_,_,rfl,s2 _ _ hg,cg.cls,cg.no "many" (by decide),rfl,n,rfl,by have:=ra.ga.n60;lia,λbr H3 _ s3 hbr=>⟨_,rfl,?_⟩⟩
 have s23:=s2.trans s3
 have r3:=r1.same s23
 refine⟨x,dx,g,a,o,wd,bd,o,wr,br,[],ow,[],List.range n,most,rfl,s23 _ _ (s1 _ _ hx),r3.d,s23 _ _ (s1 _ _ ho),s3 _ _ e2,hbr,(λz=>by cases z),by show 0<1000000;decide,aP _,λhlt H4 f4 d4=>hN _ _ ?_,λhge=>qx H3 r3.s ⟨[ow],by simp,λk hk=>by rw[af.mp hk];exact TM.Rch.own,by show most<1;simp at hge;lia⟩⟩
 clear hN N
 have r4:=r3.frame f4 d4
 have F4:y1 [wd,bd] H H4:=(y0.frame (s1.trans s23)).trans f4
 have el4:H4 el=some (.lst [V.ref o]):=f4 _ _ (λz=>by
  simp only[aw,bD,or_false]at z
  rcases z with z|z
  ·rw[z,ra.d.w]at hel;cases hel
  ·rw[z,ra.d.b]at hel;cases hel) (s23 _ _ e1)
 have o4:H4 o=some (.tup (tI ow)):=f4 _ _ (by have:=r3.d.tup (s23 _ _ (s1 _ _ ho));simp[this.1,this.2]) (s23 _ _ (s1 _ _ ho))
 refine⟨λm σ G=>∃(el:Addr) (eas:List Addr) (eks:List (List Nat)) (es:List Ent),σ=[some (.ref x),some (.int most),some (.ref el)]/\y1 [wd,bd] H G/\c3 cR cG cC cB cS n AH ts S H0 G x g a o wd bd es/\G el=some (.lst (eas.map V.ref))/\i7 G eas eks/\(∀k∈eks,k∈es.map Ent.k)/\(∀e∈es,TM.Ways n ts mv ow e.k e.w e.b)/\es.length<=most/\(∃e∈es,e.k=ow/\e.b=List.range n)/\(∀k∈es.map Ent.k,k∈eks∨∀t∈ts,mv k t∈es.map Ent.k)/\m=2*(most-es.length)+(if eks=[] then 0 else 1),⟨_,el,[o],[ow],[⟨ow,wr,[],br,List.range n⟩],rfl,F4,r4,el4,.cons o4 .nil,by simp,λe he=>by rw[af.mp he];exact .own,hlt,⟨_,List.mem_singleton_self _,rfl,rfl⟩,λk hk=>.inl (by simpa using hk),rfl⟩,?_⟩
 rintro m σ G ⟨el,eas,eks,es,rfl,fG,rG,hel,hts,hek,hw,hle,how,hcl,em⟩
 have hlen:eas.length=eks.length:=Paired.length hts
 refine⟨_,rfl,el,_,rfl,.inl (SqL.of hel),_,_,rfl,rfl,_,rfl,?_⟩
 rw[aa]
 by_cases h0:eas.length=0
 ·rw[decide_eq_false (by lia)]
  have hek0:eks=[]:=cM.mp (by lia)
  refine i9 (q es G fG rG hw hle how λk hk=>?_)
  rcases hcl k hk with h|h
  ·rw[hek0]at h;cases h
  ·exact h
 rw[decide_eq_true (by lia)]
 have hek0:eks≠[]:=λz=>by rw[z]at hlen;exact h0 hlen
 rw[if_neg hek0]at em
 obtain⟨dx',hx'⟩:=rG.x'
 refine Z1 ⟨λσ' H'=>∃m',m'<m/\_,λσ' H' h=>h,?_⟩
 refine⟨_,rfl,x,dx',_,rfl,hx',rfl,_,rfl,_,rfl,ts,S,H0,x,g,a,o,wd,bd,el,es,eas,eks,ow,most,rfl,rG,hel,hts,hek,hok,hw,hle,hmost,λfl fas new H' f' r' hfl htf hw' hle' hcl'=>?_,qx⟩
 refine⟨2*(most-(es++new).length)+(if new.map Ent.k=[] then 0 else 1),?_,fl,fas,new.map Ent.k,es++new,rfl,fG.trans f',r',hfl,htf,λk hk=>?_,λe he=>?_,hle',?_,λk hk=>?_,rfl⟩
 ·rw[em,aq]
  rw[aq]at hle'
  by_cases hn:new=[]
  ·rw[hn,cn,if_pos rfl,bW];lia
  ·have:0<new.length:=List.length_pos_iff.mpr hn
   rw[if_neg λz=>hn (List.map_eq_nil_iff.mp z)];lia
 ·rw[aG];exact aJ _ hk
 ·rcases aC.mp he with h|h
  ·exact hw e h
  ·exact hw' e h
 ·obtain⟨e,he,h⟩:=how
  exact⟨e,aH _ he,h⟩
 ·rw[aG]at hk
  rcases aC.mp hk with h|h
  ·refine .inr λt ht=>?_
   rcases hcl k h with h|h
   ·exact hcl' k h t ht
   ·rw[aG];exact aH _ (h t ht)
  ·exact .inl h
def yy8 (AH:Hp->Addr->Prop)(LK:Hp->V->Option (List Nat)->Prop)(X:Addr):Sp:=λvs H Q E=>∃(a:Addr) (v:V) (r:Option (List Nat)),vs=[.ref a,v]/\AH H a/\LK H v r/\(∀l,r=some l->∀(o:Addr) (H':Hp),y0 H H'->H' o=some (.tup (tI l))->Q (.ref o) H')/\(r=none->∀H',y0 H H'->E (.ref X) none H')
structure yz9 (cG cC cB cS:Addr) (n:Nat) (ts:List (List Nat)) (S:ChS) (H0 H:Hp) (x g:Addr):Prop where
 s:y0 H0 H
 x0:H0 x=none
 ga:i3 cG cC cB cS n H0 g ts S
structure zw2 (n:Nat) (ts:List (List Nat)) (mv:List Nat->List Nat->List Nat) (ow:List Nat) (most:Nat) (es:List Ent):Prop where
 w:∀e∈es,TM.Ways n ts mv ow e.k e.w e.b
 le:es.length<=most
 first:∃e∈es,e.k=ow/\e.b=List.range n
 cl:∀k∈es.map Ent.k,∀t∈ts,mv k t∈es.map Ent.k
theorem zw2.own {n:Nat}{ts:List (List Nat)}{mv:List Nat->List Nat->List Nat}{ow:List Nat}{most:Nat}{es:List Ent}(h:zw2 n ts mv ow most es):ow∈es.map Ent.k:=by
 obtain⟨e,he,h1,_⟩:=h.first
 exact au.mpr ⟨e,he,h1⟩
def yu3 (cR cG cC cB cS cA X X1:Addr)(n:Nat)(AH:Hp->Addr->Prop)(LK:Hp->V->Option (List Nat)->Prop)(ok:List Nat->Prop)(mv:List Nat->List Nat->List Nat):Sp:=λvs H Q E=>∃(ts:List (List Nat)) (S:ChS) (H0:Hp) (x dx g a:Addr) (v:V) (most:Nat),
 vs=[.ref x,.ref g,.ref a,v,.int most]/\H x=some (.ins cR dx [])/\yz9 cG cC cB cS n ts S H0 H x g/\most<1000000/\AH H0 a/\∃r,LK H0 v r/\(∀l,r=some l->ok l)/\(r=none->∀H',y0 H0 H'->E (.ref X1) none H') /\
 ∀ow,r=some ow->(∀(o wd bd:Addr) (es:List Ent) (H':Hp),y1 [x] H H'->c3 cR cG cC cB cS n AH ts S H0 H' x g a o wd bd es->H' o=some (.tup (tI ow))->zw2 n ts mv ow most es->Q .non H')/\(∀H',y0 H0 H'->xn9 n ts mv ow most->E (.ref X) none H')
theorem zh1:y4 ["self","group","act","thing","most"] ["self","group","act","thing","most"] (z8 n4):=scq
theorem ya9 {cR cG cC cB cS cA X X1 TE:Addr}{n:Nat}{AH:Hp->Addr->Prop}{LK:Hp->V->Option (List Nat)->Prop}{ok:List Nat->Prop}{mv:List Nat->List Nat->List Nat}{tk:Tok}(F:zy6 K "__init__" "Ring.__init__" n4 f fd #[.int 1000 tk])(B:Blt mg)(cr:p4 K cR K3)(cg:p4 K cG Y6)(ca:p4 K cA ["many"])(ap:yl8 cA n AH ok mv)(lk:∀{H H' v r},LK H v r->y0 H H'->LK H' v r)
  (ML:zb0 P w K mg base 6 cA "looked" ["self","thing"] (yy8 AH LK X1)) (MF:zb0 P w K mg base 7 cR "fill" ["self","most"] (xg2 cR cG cC cB cS X n AH ok mv)) (EA:ye4 K mg TE "NoThing" X1):u6 P w K mg base (CX1 P w) 8 f fd ["self","group","act","thing","most"] (yu3 cR cG cC cB cS cA X X1 n AH LK ok mv):=by
 refine F.okX zh1 (λvs H Q E h=>?_) (λcdv A outer s H vs Q E hr h=>?_)
 ·obtain⟨ts,S,H0,x,dx,g,a,v,most,rfl,_⟩:=h
  rfl
 obtain⟨ts,S,H0,x,dx,g,a,v,most,rfl,hx,ri,hmost,hA,r,hLK,hokr,qn,qs⟩:=h
 have hz:=p9
 apply O0
 ·apply y6
  ·exact DS.mk (l8 (k8 yi9 (y3 (pv 2) rfl) (y3 (pv 1) rfl) (n1 _)) (z6 (zr1 EA.m EA.c PySem.F.excBase_ValueError rfl rfl (z0 C8 z4))) u8)
  apply y6
  ·exact DS.mk (i6 (pv 0) (pv 1) rfl)
  apply y6
  ·exact DS.mk (i6 (pv 0) (pv 2) rfl)
  apply y6
  ·exact DS.mk (i6 (pv 0) (zx8 ca.cls ML hr (pv 2) (z0 (pv 3) z4)) rfl)
  apply y6
  ·exact DS.mk (i6 (pv 0) yj0 rfl)
  apply y6
  ·exact DS.mk (i6 (pv 0) yj0 rfl)
  exact⟨z6 (m7 (zx8 cr.cls MF hr (pv 0) (z0 (pv 4) z4)))⟩
 have gaH:=ri.ga.same ri.s
 obtain⟨dxg,ma,Ac,mas0,hg,_⟩:=gaH.at'
 obtain⟨dxa,fsa,hains,l1,l2,l3⟩:=ap.ins (ap.same hA ri.s)
 have nx:∀{b:Addr} {u:HO},H0 b=some u->b≠x:=λ{b u} h z=>by rw[z,ri.x0]at h;cases h
 refine o5 λN hN=>⟨_,rfl,a,cA,dxa,_,_,rfl,hains,ca.cls,ca.no "many" (by decide),l3,_,rfl,g,cG,dxg,_,_,rfl,hg,cg.cls,cg.no "many" (by decide),rfl,rfl,_,rfl,?_⟩
 show if (!decide (V.int n=V.int n))=true then _ else _
 rw[decide_eq_true rfl]
 refine i9 (hN _ _ ?_)
 clear hN N
 have same0:∀{H':Hp},y1 [x] H H'->y0 H0 H':=λ{H'} fr b u h=>fr b u (by simpa using nx h) (ri.s b u h)
 refine o5 λN hN=>⟨_,rfl,_,rfl,x,cR,dx,[],rfl,hx,cr.cls,cr.no "group" (by decide),by decide,hN _ _ ?_⟩
 clear hN N
 obtain⟨H1,g1,f1,x1⟩:=p6 (H:=H) (x:=x) (cS:=cR) (dx:=dx) (f:="group") (v:=V.ref g) (fs:=[]) (fs':=[("group",.ref g)]) rfl
 rw[g1]
 refine o5 λN hN=>⟨_,rfl,_,rfl,x,cR,dx,_,rfl,x1,cr.cls,cr.no "act" (by decide),by (show 1<1000;decide),hN _ _ ?_⟩
 clear hN N
 obtain⟨H2,g2,f2,x2⟩:=p6 (H:=H1) (x:=x) (cS:=cR) (dx:=dx) (f:="act") (v:=V.ref a) (fs:=[("group",.ref g)]) (fs':=[("group",.ref g),("act",.ref a)]) rfl
 rw[g2]
 have F2:y1 [x] H H2:=f1.trans f2
 have s2:=same0 F2
 obtain⟨dxa2,fsa2,hains2,_,l2',_⟩:=ap.ins (ap.same hA s2)
 refine o5 λN hN=>⟨_,rfl,a,dxa2,fsa2,rfl,hains2,l2',_,rfl,a,v,r,rfl,ap.same hA s2,lk hLK s2,λow hr0 o H3 s3 ho=>?_,λhr0 H3 s3=>qn hr0 H3 (s2.trans s3)⟩
 obtain⟨q,qx⟩:=qs ow hr0
 have hok:=hokr ow hr0
 refine⟨_,rfl,x,cR,dx,_,rfl,s3 _ _ x2,cr.cls,cr.no "own" (by decide),by (show 2<1000;decide),hN _ _ ?_⟩
 clear hN N
 obtain⟨H4,g4,f4,x4⟩:=p6 (H:=H3) (x:=x) (cS:=cR) (dx:=dx) (f:="own") (v:=V.ref o) (fs:=[("group",.ref g),("act",.ref a)]) (fs':=[("group",.ref g),("act",.ref a),("own",.ref o)]) rfl
 rw[g4]
 have F4:y1 [x] H H4:=(F2.trans (y0.frame s3)).trans f4
 have ox:o≠x:=λz=>by rw[z,s3 _ _ x2]at ho;cases ho
 have o4:=f4.keep ho ox
 refine o5 λN hN=>λwd hwd=>?_
 have s5:=y2 hwd (.dT [])
 have w5:(upd H4 wd (.dT [])) wd=some (.dT []):=z3
 generalize upd H4 wd (.dT [])=H5 at s5 w5 ⊢
 have xw:wd≠x:=λz=>by rw[z,x4]at hwd;cases hwd
 refine⟨_,rfl,x,cR,dx,_,rfl,s5 _ _ x4,cr.cls,cr.no "ways" (by decide),by (show 3<1000;decide),hN _ _ ?_⟩
 clear hN N
 obtain⟨H6,g6,f6,x6⟩:=p6 (H:=H5) (x:=x) (cS:=cR) (dx:=dx) (f:="ways") (v:=V.ref wd) (fs:=[("group",.ref g),("act",.ref a),("own",.ref o)]) (fs':=[("group",.ref g),("act",.ref a),("own",.ref o),("ways",.ref wd)]) rfl
 rw[g6]
 have F6:y1 [x] H H6:=(F4.trans (y0.frame s5)).trans f6
 have w6:=f6.keep w5 xw
 have o6:=f6.keep (s5 _ _ o4) ox
 refine o5 λN hN=>λbd hbd=>?_
 have s7:=y2 hbd (.dT [])
 have b7:(upd H6 bd (.dT [])) bd=some (.dT []):=z3
 generalize upd H6 bd (.dT [])=H7 at s7 b7 ⊢
 have xb:bd≠x:=λz=>by rw[z,x6]at hbd;cases hbd
 have wb:wd≠bd:=λz=>by rw[←z,w6]at hbd;cases hbd
 refine⟨_,rfl,x,cR,dx,_,rfl,s7 _ _ x6,cr.cls,cr.no "bringers" (by decide),by (show 4<1000;decide),hN _ _ ?_⟩
 clear hN N
 obtain⟨H8,g8,f8,x8⟩:=p6 (H:=H7) (x:=x) (cS:=cR) (dx:=dx) (f:="bringers") (v:=V.ref bd) (fs:=[("group",.ref g),("act",.ref a),("own",.ref o),("ways",.ref wd)]) (fs':=yc3 g a o wd bd) rfl
 rw[g8]
 have F8:y1 [x] H H8:=(F6.trans (y0.frame s7)).trans f8
 have fresh:∀{y:Addr} {G:Hp},y1 [x] H G->y≠x->G y=none->H0 y=none:=λ{y G} fr hy h=>by
  cases e:H0 y with
  | none=>rfl
  | some u=>rw[fr y u (by simpa using hy) (ri.s _ _ e)]at h;cases h
 have r8:c3 cR cG cC cB cS n AH ts S H0 H8 x g a o wd bd []:=⟨⟨dx,x8⟩,same0 F8,fresh F4 xw hwd,fresh F6 xb hbd,ri.ga,hA,⟨f8.keep (s7 _ _ w6) xw,f8.keep b7 xb,wb,λe he=>(by cases he),by simp⟩⟩
 have o8:=f8.keep (s7 _ _ o6) ox
 refine⟨_,rfl,x,dx,_,rfl,x8,rfl,_,rfl,ts,S,H0,x,g,a,o,wd,bd,ow,most,rfl,r8,o8,hok,hmost,λes H9 f9 r9 hw9 hle9 how9 hcl9=>?_,qx⟩
 refine q o wd bd es H9 (λb u hb h=>?_) r9 (f9 _ _ (by have:=r8.d.tup o8;simp[this.1,this.2]) o8) ⟨hw9,hle9,how9,hcl9⟩
 refine f9 b u (λz=>?_) (F8 b u hb h)
 simp only[aw,bD,or_false]at z
 rcases z with z|z
 ·rw[z]at h
  rw[F4 wd u (by simpa using xw) h]at hwd;cases hwd
 ·rw[z]at h
  rw[F6 bd u (by simpa using xb) h]at hbd;cases hbd
def zs7 (cR cG cC cB cS:Addr)(n:Nat)(AH:Hp->Addr->Prop):Sp:=λvs H Q _=>∃(ts:List (List Nat)) (S:ChS) (H0:Hp) (x g a o wd bd:Addr) (es:List Ent),vs=[.ref x]/\c3 cR cG cC cB cS n AH ts S H0 H x g a o wd bd es/\(∀e∈es,e.k≠[])/\es.length<64 /\
 ∀(l:Addr) (bs:List Addr) (L:List (List Nat)) (H':Hp),H l=none->y0 H H'->H' l=some (.lst (bs.map V.ref))->i7 H' bs L->L.Perm (es.map Ent.k)->Srt L->Q (.ref l) H'
theorem zr8:y4 ["self"] ["self"] (z8 L5):=scq
theorem zq2 {cR cG cC cB cS:Addr}{n:Nat}{AH:Hp->Addr->Prop}(F:Fun K "things" "Ring.things" L5 f fd)(B:Blt mg)(cr:p4 K cR K3):u6 P w K mg base CX0 1 f fd ["self"] (zs7 cR cG cC cB cS n AH):=by
 refine F.ok zr8 (λvs H Q E h=>?_) (λcdv A outer s H vs Q E hr h=>?_)
 ·obtain⟨ts,S,H0,x,g,a,o,wd,bd,es,rfl,_⟩:=h
  rfl
 obtain⟨ts,S,H0,x,g,a,o,wd,bd,es,rfl,ra,hne,hl,q⟩:=h
 obtain⟨dx,hx⟩:=ra.x'
 refine⟨_,z6 (y9 (w8 (zn9 rfl) rfl B.sorted zf8 (z0 (y3 (pv 0) rfl) z4))),?_⟩
 refine⟨_,rfl,x,cR,dx,_,_,rfl,hx,cr.cls,cr.no "ways" (by decide),rfl,wd,_,(es.map Ent.k).map TM.iN,rfl,ra.d.w,?_,λy hy=>?_,by rw[aa,aa];exact hl,λl bs qs hl0 hp hs hb=>?_⟩
 ·unfold U3
  rw[bx,bx,bx]
  refine bF λe _=>?_
  show kT e.k=(TM.iN e.k).map Sum.inl
  unfold kT TM.iN
  rw[bx]
  rfl
 ·obtain⟨k,hk,rfl⟩:=au.mp hy
  obtain⟨e,he,rfl⟩:=au.mp hk
  exact λz=>hne e he (List.map_eq_nil_iff.mp z)
 ·obtain⟨L,hL,rfl⟩:=zy0 hp
  exact q l bs L _ hl0 (y2 hl0 _) z3 ((yc4 hb).same (y2 hl0 _)) hL (bj.mp hs)
theorem xl2 {tk:Tok}(F:zy6 K "__init__" "Ring.__init__" n4 f fd #[.int 1000 tk]):V5 K fd ["self","group","act","thing","most"] []:=λs us X hl=>by
 rw[be]at hl ⊢
 obtain⟨dT,oc,od,kV,doc,pm,an,cdv,ct,osl,rfl,lk,hcd,o,n,lo,hd⟩:=F.ex
 match us,hl with
 | [a,b,c,d,e],_ =>
  refine BindsTo.of_defaults (k:=?k) rfl (X _ _ lo) hd ?h1 ?h2
  case h1=>rfl
  case h2=>rfl
theorem xl1 {tk:Tok}(F:zy6 K "__init__" "Ring.__init__" n4 f fd #[.int 1000 tk]):V5 K fd ["self","group","act","thing","most"] [.int 1000 tk]:=λs us X hl=>by
 rw[aq]at hl
 obtain⟨dT,oc,od,kV,doc,pm,an,cdv,ct,osl,rfl,lk,hcd,o,n,lo,hd⟩:=F.ex
 have hl:us.length=4:=Nat.succ.inj hl
 match us,hl with
 | [a,b,c,d],_ =>
  refine BindsTo.of_defaults (k:=?k) rfl (X _ _ lo) hd ?h1 ?h2
  case h1=>rfl
  case h2=>rfl
theorem xl3 {tk:Tok}(F:zy6 K "__init__" "Ring.__init__" n4 f fd #[.int 1000 tk]):KB1 K fd ["self","group","act","thing","most"] "most":=λs us v X hl=>by
 rw[aq]at hl
 obtain⟨dT,oc,od,kV,doc,pm,an,cdv,ct,osl,rfl,lk,hcd,o,n,lo,hd⟩:=F.ex
 have hl:us.length=4:=Nat.succ.inj hl
 match us,hl with
 | [a,b,c,d],_ =>
  refine BindsTo.of_defaults (k:=?k) rfl (X _ _ lo) hd ?h1 ?h2
  case h1=>rfl
  case h2=>rfl
structure ye6 (P:fR) (w:fW) (K:W.Frag) (mg:Str->Option Value) (base:Heap) (cR:Addr) (sp:Sp):Prop where
 five:xs9 P w K mg base 8 cR "Ring" ["self","group","act","thing","most"] [] sp
 four:xs9 P w K mg base 8 cR "Ring" ["self","group","act","thing","most"] [.int 1000] sp
 kw:xw5 P w K mg base 8 cR "Ring" ["self","group","act","thing","most"] "most" sp
theorem ye6.of {cR:Addr}{sp:Sp}{tk:Tok}(F:zy6 K "__init__" "Ring.__init__" n4 f fd #[.int 1000 tk])(ok:u6 P w K mg base (CX1 P w) 8 f fd ["self","group","act","thing","most"] sp)(mk:Mk K cR f)(m:mg "Ring"=some (.ref cR)):ye6 P w K mg base cR sp :=
 ⟨⟨f,fd,[],ok,mk,m,xl2 F,.nil⟩,⟨f,fd,[.int 1000 tk],ok,mk,m,xl1 F,.cons ⟨tk,rfl⟩ .nil⟩,⟨f,fd,ok,mk,m,xl3 F⟩⟩
def yk8 (K:W.Frag):Sp:=λvs H Q _=>∃(x dx C:Addr) (n:Nat),vs=[.ref x,.int n]/\H x=some (.ins C dx [])/\p4 K C ["many"]/\Q .non (upd H x (.ins C dx [("many",.int n)]))
theorem zl2:y4 ["self","many"] ["self","many"] (z8 O5):=scq
theorem yh9 (F:Fun K "__init__" "Act.__init__" O5 f fd):u6 P w K mg base CX0 1 f fd ["self","many"] (yk8 K):=by
 refine F.ok zl2 (λvs H Q E h=>?_) (λcdv A outer s H vs Q E hr h=>?_)
 ·obtain⟨x,dx,C,n,rfl,_⟩:=h
  rfl
 obtain⟨x,dx,C,n,rfl,hx,hC,q⟩:=h
 refine⟨_,z6 (i6 (pv 0) (pv 1) rfl),?_⟩
 exact⟨_,rfl,_,rfl,x,C,dx,[],rfl,hx,hC.cls,hC.no "many" ax,by decide,q⟩
def dRw (t:List Nat):PyData:=.tuple (t.map λ(x:Nat)=>PyData.int x)
theorem ye8:∀{ds:List PyData},ds.all isW=true->ds=(T6 ds).map PyData.int
 | [],_=>rfl
 | .int i::ds,h=>by
  rw[eV,bp]at h
  show PyData.int i::ds=PyData.int i::(T6 ds).map PyData.int
  rw[←ye8 h.2]
 | .none::_,h=>by cases h
 | .bool _::_,h=>by cases h
 | .str _::_,h=>by cases h
 | .list _::_,h=>by cases h
 | .tuple _::_,h=>by cases h
 | .dict _::_,h=>by cases h
theorem xh7 {n:Nat}{ds:List PyData}(h:l5 (.tuple ds)=true)(hl:ds.length=n):∃t,PyData.tuple ds=dRw t/\TM.IsT n t:=by
 have h:((decide (1<=ds.length)&&decide (ds.length<=60))&&(ds.all isW&&decide (yk3 (T6 ds)=zl1 ds.length)))=true:=h
 rw[bp,bp,bp]at h
 obtain⟨_,hw,hs⟩:=h
 have hs:=of_decide_eq_true hs
 have hp:(T6 ds).Perm (zl1 n):=by
  rw[←hl,←hs]
  exact(fj _ _).symm
 have e:T6 ds=((T6 ds).map Int.toNat).map λ(x:Nat)=>(x:Int):=by
  rw[bx]
  conv=>lhs;rw[←dM (T6 ds)]
  refine bF λx hx=>?_
  obtain⟨y,_,rfl⟩:=au.mp (hp.mem_iff.mp hx)
  rfl
 refine⟨(T6 ds).map Int.toNat,?_,?_⟩
 ·unfold dRw
  congr 1
  conv=>lhs;rw[ye8 hw,e]
  rw[bx]
  rfl
 ·have h2:=hp.map Int.toNat
  have e2:(zl1 n).map Int.toNat=List.range n:=by
   unfold zl1
   rw[bx]
   conv=>rhs;rw[←dM (List.range n)]
   exact bF λx _=>bY x
  rw[e2]at h2
  exact h2
def zm9 (n:Nat)(d:PyData):Bool:=l5 d&&match d with | .tuple ds=>decide (ds.length=n)|_=>false
theorem yp2 {n:Nat}{d:PyData}(h1:1<=n)(hn:n<=60)(h:∃t,d=dRw t/\TM.IsT n t):zm9 n d=true:=by
 obtain⟨t,rfl,tT⟩:=h
 show(l5 (dRw t)&&decide ((t.map λ(x:Nat)=>PyData.int x).length=n))=true
 rw[show l5 (dRw t)=true from zy5 tT h1 hn,aa,tT.length,decide_eq_true rfl]
 rfl
theorem yz1 {n:Nat}{d:PyData}(h:¬∃t,d=dRw t/\TM.IsT n t):zm9 n d=false:=by
 cases d with
 | tuple ds =>
  show(l5 (.tuple ds)&&decide (ds.length=n))=false
  rw[Bool.and_eq_false_iff]
  by_cases h2:l5 (.tuple ds)=true
  ·exact .inr (decide_eq_false λe=>h (xh7 h2 e))
  ·exact .inl (by simpa using h2)
 | _=>rfl
theorem zl4:y4 ["thing","many"] ["thing","many"] (z8 N2):=scq
def zj8 (C:Addr):Sp:=λvs H Q E=>∃(x:V) (d:PyData) (n:Nat),vs=[x,.int n]/\Dt H x d/\(∀ds,d=.tuple ds->ds.length<=100)/\1<=n/\n<=60/\((∃t,d=dRw t/\TM.IsT n t)->∀H',y0 H H'->Q .non H')/\((∀t,d=dRw t->¬TM.IsT n t)->∀H',y0 H H'->E (.ref C) none H')
theorem zl0 (D:Def K mg "need_turning" N2 ["thing","many"] f fd)(B:Blt mg)(KT:o7 P w K mg base 3 "is_turning_of" ["thing","many"] N4){TE C:Addr}(EA:ye4 K mg TE "NoThing" C):ym1 P w K mg base 4 "need_turning" ["thing","many"] (zj8 C):=by
 refine⟨f,fd,?_,D.F.kp,D.m,D.b⟩
 refine D.F.okX zl4 (λvs H Q E h=>?_) (λcdv A outer s H vs Q E hr h=>?_)
 ·obtain⟨x,d,n,rfl,_⟩:=h
  rfl
 obtain⟨x,d,n,rfl,hd,hlen,h1,hn,q,qx⟩:=h
 refine⟨_,z6 (l8 (X8 (Y5 (q9 KT hr rfl (z0 (pv 0) (z0 (pv 1) z4))))) (z6 (zr1 EA.m EA.c PySem.F.excBase_ValueError rfl rfl (z0 C8 z4))) u8),?_⟩
 refine⟨_,rfl,_,rfl,x,d,n,rfl,hd,hlen,λH1 s1=>⟨zm9 n d,rfl,?_⟩⟩
 show if (!zm9 n d)=true then _ else _
 by_cases hT:∃t,d=dRw t/\TM.IsT n t
 ·rw[yp2 h1 hn hT]
  exact i9 (q hT H1 s1)
 ·rw[yz1 hT]
  exact Z1 ⟨by decide,qx (λt e tT=>hT ⟨t,e,tT⟩) H1 s1⟩
def p7 (cD cG cC cB cS:Addr)(n:Nat)(ps:List (List Nat)):Hp->Addr->Prop:=λH a=>∃(dx p:Addr) (S:ChS),H a=some (.ins cD dx [("many",.int n),("part",.ref p)])/\i3 cG cC cB cS n H p ps S
theorem p7.same {cD cG cC cB cS:Addr}{n:Nat}{ps:List (List Nat)}{H H':Hp}{a:Addr}(h:p7 cD cG cC cB cS n ps H a)(s:y0 H H'):p7 cD cG cC cB cS n ps H' a:=by
 obtain⟨dx,p,S,h1,h2⟩:=h
 exact⟨dx,p,S,s _ _ h1,h2.same s⟩
noncomputable def mvS (n:Nat) (ps:List (List Nat)) (l t:List Nat):List Nat:=TM.lsd n (λz=>z∈ps) (TM.beh l t)
def LKS (n:Nat)(ps:List (List Nat)):Hp->V->Option (List Nat)->Prop:=λH v r=>∃d,Dt H v d/\(∀ds,d=.tuple ds->ds.length<=100)/\((∃t,d=dRw t/\TM.IsT n t/\r=some (TM.lsd n (λz=>z∈ps) t))∨(∀t,d=dRw t->¬TM.IsT n t)/\r=none)
theorem LKS.same {n:Nat}{ps:List (List Nat)}{H H':Hp}{v:V}{r:Option (List Nat)}(h:LKS n ps H v r)(s:y0 H H'):LKS n ps H' v r:=by
 obtain⟨d,h1,h2⟩:=h
 exact⟨d,h1.same s,h2⟩
theorem LKS.of {n:Nat}{ps:List (List Nat)}{H:Hp}{a:Addr}{t:List Nat}(h:H a=some (.tup (tI t)))(tT:TM.IsT n t)(hn:n<=60):LKS n ps H (.ref a) (some (TM.lsd n (λz=>z∈ps) t)):=⟨dRw t,zg8 h,λds e=>by cases e;rw[aa,tT.length];lia,.inl ⟨t,rfl,tT,rfl⟩⟩
theorem yg8 {H:Hp}:∀{xs:List V} {t:List Nat},Dts H xs (t.map λ(x:Nat)=>PyData.int x)->xs=tI t
 | _,[],.nil=>rfl
 | _,x::t,.cons h r=>by
  cases h
  rw[yg8 r]
  rfl
theorem xt4 {H:Hp}{v:V}{t:List Nat}(h:Dt H v (dRw t)):∃a,v=.ref a/\H a=some (.tup (tI t)):=by
 unfold dRw at h
 cases h with
 | tup h1 h2 =>
  rw[yg8 h2]at h1
  exact⟨_,rfl,h1⟩
theorem yv3 (cD cG cC cB cS:Addr){n:Nat}{ps:List (List Nat)}(hp:∀t∈ps,TM.IsT n t):yl8 cD n (p7 cD cG cC cB cS n ps) (TM.IsT n) (mvS n ps) :=
 ⟨λ⟨dx,p,S,h,_⟩=>⟨dx,_,h,rfl,rfl,rfl⟩,λh s=>h.same s,λ{l t} h hT=>TM.lsd_isT hp (h.beh hT)⟩
def zs6 (cD cG cC cB cS:Addr):Sp:=λvs H Q _=>∃(x dx p:Addr) (n:Nat) (ps:List (List Nat)) (S:ChS) (H0:Hp),vs=[.ref x,.ref p]/\H x=some (.ins cD dx [])/\y0 H0 H/\H0 x=none/\i3 cG cC cB cS n H0 p ps S/\∀H':Hp,y0 H0 H'->p7 cD cG cC cB cS n ps H' x->Q .non H'
theorem zf2:y4 ["self","part"] ["self","part"] (z8 R6):=scq
theorem zu6 {cA cD cG cC cB cS:Addr}(F:Fun K "__init__" "Sides.__init__" R6 f fd)(cd:p4 K cD ["many","part"])(cg:p4 K cG Y6)(KI:xn6 P w K mg base 1 cA "Act" "__init__" ["self","many"] (yk8 K)):u6 P w K mg base CX0 2 f fd ["self","part"] (zs6 cD cG cC cB cS):=by
 refine F.ok zf2 (λvs H Q E h=>?_) (λcdv A outer s H vs Q E hr h=>?_)
 ·obtain⟨x,dx,p,n,ps,S,H0,rfl,_⟩:=h
  rfl
 obtain⟨x,dx,p,n,ps,S,H0,rfl,hx,s0,x0,ga,q⟩:=h
 have gaH:=ga.same s0
 obtain⟨dxg,ma,Ac,mas0,hg,_⟩:=gaH.at'
 refine⟨_,z7 (m7 (xk4 KI hr rfl (z0 (pv 0) (z0 (y3 (pv 1) rfl) z4)))) (z6 (i6 (pv 0) (pv 1) rfl)),?_⟩
 refine⟨_,rfl,_,rfl,p,cG,dxg,_,_,rfl,hg,cg.cls,cg.no "many" (by decide),rfl,x,dx,cD,n,rfl,hx,⟨cd.cls,λy hy=>cd.no y (by simp at hy;simp[hy])⟩,?_⟩
 have f1:y1 [x] H (upd H x (.ins cD dx [("many",.int n)])):=λb o hb h=>by rw[z5 (by simpa using hb)];exact h
 have x1:(upd H x (.ins cD dx [("many",.int n)])) x=some (.ins cD dx [("many",.int n)]):=z3
 generalize upd H x (.ins cD dx [("many",.int n)])=H1 at f1 x1 ⊢
 refine⟨_,rfl,_,rfl,x,cD,dx,_,rfl,x1,cd.cls,cd.no "part" (by decide),by (show 1<1000;decide),?_⟩
 obtain⟨H2,g2,f2,x2⟩:=p6 (H:=H1) (x:=x) (cS:=cD) (dx:=dx) (f:="part") (v:=V.ref p) (fs:=[("many",.int n)]) (fs':=[("many",.int n),("part",.ref p)]) rfl
 rw[g2]
 have s2:y0 H0 H2:=λb u h=>(f1.trans f2) b u (λz=>by rw[af.mp z,x0]at h;cases h) (s0 b u h)
 exact q H2 s2 ⟨dx,p,S,x2,ga.same s2⟩
theorem zl3:y4 ["self","thing"] ["self","thing"] (z8 N0):=scq
theorem zk8 {cD cG cC cB cS X:Addr}{n:Nat}{ps:List (List Nat)}(F:Fun K "looked" "Sides.looked" N0 f fd)(cd:p4 K cD ["many","part"])(cg:p4 K cG Y6)(KT:ym1 P w K mg base 4 "need_turning" ["thing","many"] (zj8 X))(ML:l4 P w K mg base 4 cG "least" ["self","thing"] (yd5 cG cC cB cS))(hp:∀t∈ps,TM.IsT n t):u6 P w K mg base (CX1 P w) 6 f fd ["self","thing"] (yy8 (p7 cD cG cC cB cS n ps) (LKS n ps) X):=by
 refine F.okX zl3 (λvs H Q E h=>?_) (λcdv A outer s H vs Q E hr h=>?_)
 ·obtain⟨a,v,r,rfl,_⟩:=h
  rfl
 obtain⟨a,v,r,rfl,⟨dx,p,S,ha,ga⟩,⟨d,hd,hl,hr'⟩,q,qx⟩:=h
 refine⟨_,z7 (m7 (xr1 KT hr rfl (z0 (pv 1) (z0 (y3 (pv 0) rfl) z4)))) (z6 (y9 (l7 cg.cls ML hr (y3 (pv 0) rfl) (z0 (pv 1) z4)))),?_⟩
 refine⟨_,rfl,_,rfl,a,cD,dx,_,_,rfl,ha,cd.cls,cd.no "many" (by decide),rfl,v,d,n,rfl,hd,hl,ga.n0,ga.n60,λhy H1 s1=>?_,λhn H1 s1=>?_⟩
 ·rcases hr' with⟨t,rfl,tT,rfl⟩|⟨h1,_⟩
  ·obtain⟨tr,rfl,htr⟩:=xt4 hd
   have ga1:=ga.same s1
   obtain⟨dxg,ma,Ac,mas0,hg,_⟩:=ga1.at'
   refine⟨_,rfl,a,cD,dx,_,_,rfl,s1 _ _ ha,cd.cls,cd.no "part" (by decide),rfl,p,dxg,_,rfl,hg,rfl,_,rfl,p,tr,n,ps,S,t,rfl,ga1,s1 _ _ htr,tT,λo H2 u s2 ho uT hu=>?_⟩
   exact q _ rfl o H2 (s1.trans s2) (by rw[TM.lsd_eq hp tT hu];exact ho)
  ·obtain⟨t,e,tT⟩:=hy
   exact absurd tT (h1 t e)
 ·rcases hr' with⟨t,e,tT,_⟩|⟨_,e⟩
  ·exact absurd tT (hn t e)
  ·exact qx e H1 s1
theorem zr9:y4 ["self","thing","t"] ["self","thing","t"] (z8 L6):=scq
theorem zq3 {cD cG cC cB cS:Addr}{n:Nat}{ps:List (List Nat)}(F:Fun K "moved" "Sides.moved" L6 f fd)(cd:p4 K cD ["many","part"])(cg:p4 K cG Y6)(KB:o7 P w K mg base 1 "behind" ["one","other"] (Q9 K))(ML:l4 P w K mg base 4 cG "least" ["self","thing"] (yd5 cG cC cB cS))(hp:∀t∈ps,TM.IsT n t):u6 P w K mg base CX0 5 f fd ["self","thing","t"] (yy9 n (p7 cD cG cC cB cS n ps) (TM.IsT n) (mvS n ps)):=by
 refine F.ok zr9 (λvs H Q E h=>?_) (λcdv A outer s H vs Q E hr h=>?_)
 ·obtain⟨a,lr,tr,l,t,rfl,_⟩:=h
  rfl
 obtain⟨a,lr,tr,l,t,rfl,⟨dx,p,S,ha,ga⟩,hl,lT,ht,tT,q⟩:=h
 have n60:=ga.n60
 refine⟨_,z6 (y9 (l7 cg.cls ML hr (y3 (pv 0) rfl) (z0 (q9 KB hr rfl (z0 (pv 1) (z0 (pv 2) z4))) z4))),?_⟩
 obtain⟨dxg,ma,Ac,mas0,hg,_⟩:=ga.at'
 refine⟨_,rfl,a,cD,dx,_,_,rfl,ha,cd.cls,cd.no "part" (by decide),rfl,p,dxg,_,rfl,hg,rfl,_,rfl,_,rfl,lr,tr,l,t,rfl,SqT.of hl,SqT.of ht,by rw[lT.length];lia,λx hx=>by rw[tT.length];exact lT.lt hx,λb H1 hb0 s1 hb=>?_⟩
 refine⟨p,b,n,ps,S,_,rfl,ga.same s1,hb,lT.beh tT,λo H2 u s2 ho uT hu=>?_⟩
 refine q o H2 (s1.trans s2) ?_
 show H2 o=some (.tup (tI (TM.lsd n (λz=>z∈ps) (TM.beh l t))))
 rw[TM.lsd_eq hp (lT.beh tT) hu]
 exact ho
def yd4 (n:Nat)(AH:Hp->Addr->Prop)(LK:Hp->V->Option (List Nat)->Prop)(mv:List Nat->List Nat->List Nat)(X:Addr):Sp:=λvs H Q E=>∃(a tr:Addr) (v:V) (t:List Nat) (r:Option (List Nat)),vs=[.ref a,v,.ref tr]/\AH H a/\LK H v r/\H tr=some (.tup (tI t))/\TM.IsT n t/\(∀l,r=some l->∀H',y0 H H'->Q (.bl (decide (mv l t=l))) H')/\(r=none->∀H',y0 H H'->E (.ref X) none H')
theorem zj6:y4 ["self","thing","t","own"] ["self","thing","t"] (z8 zb9):=scq
theorem yi0 {cA X:Addr}{n:Nat}{AH:Hp->Addr->Prop}{LK:Hp->V->Option (List Nat)->Prop}{ok:List Nat->Prop}{mv:List Nat->List Nat->List Nat}(F:Fun K "kept" "Act.kept" zb9 f fd)(cl:Cls K cA)(ap:yl8 cA n AH ok mv)(hok:∀{H v l},LK H v (some l)->ok l)(ML:zb0 P w K mg base 6 cA "looked" ["self","thing"] (yy8 AH LK X))(MM:l4 P w K mg base 5 cA "moved" ["self","thing","t"] (yy9 n AH ok mv)):u6 P w K mg base (CX1 P w) 7 f fd ["self","thing","t"] (yd4 n AH LK mv X):=by
 refine F.okX zj6 (λvs H Q E h=>?_) (λcdv A outer s H vs Q E hr h=>?_)
 ·obtain⟨a,tr,v,t,r,rfl,_⟩:=h
  rfl
 obtain⟨a,tr,v,t,r,rfl,hA,hL,htr,tT,q,qx⟩:=h
 refine⟨_,z7 (y8 (i:=3) zj6.nd rfl (Or.inl rfl) (zx8 cl ML hr (pv 0) (z0 (pv 1) z4))) (z6 (y9 (Q3 (yb3 hr.units) (l7 cl MM hr (pv 0) (z0 (pv 3) (z0 (pv 2) z4))) (pv 3) (n1 _)))),?_⟩
 obtain⟨dx,fs,hains,l1,l2,_⟩:=ap.ins hA
 refine o5 λN hN=>⟨_,rfl,a,dx,fs,rfl,hains,l2,_,rfl,a,v,r,rfl,hA,hL,λl hr' o H1 s1 ho=>hN _ _ ?_,qx⟩
 clear hN N
 subst hr'
 have hA1:=ap.same hA s1
 obtain⟨dx1,fs1,hains1,l3,_⟩:=ap.ins hA1
 refine⟨_,rfl,a,dx1,fs1,rfl,hains1,l3,_,rfl,_,rfl,a,o,tr,l,t,rfl,hA1,ho,hok hL,s1 _ _ htr,tT,λr H2 s2 hr2=>⟨_,rfl,_,_,X0 hr2,X0 (s2 _ _ ho),N3 _,N3 _,?_⟩⟩
 rw[zd4]
 exact q l rfl H2 (s1.trans s2)
def zo9:List Str:=["many","found","chain"]
structure P0 (cW cC cB cS:Addr) (n:Nat) (H:Hp) (x fl:Addr) (A:ChA) (S:ChS) (fas:List Addr):Prop where
 x':∃dx,H x=some (.ins cW dx [("many",.int n),("found",.ref fl),("chain",.ref A.c)])
 fl':H fl=some (.lst (fas.map V.ref))
 ch:u0 cC cB cS n H A S
 xA:x∉A.all
 flA:fl∉A.all
 st:S.Set n
def yt2 (cW cC cB cS:Addr):Sp:=λvs H Q _=>∃(x dx:Addr) (n:Nat),vs=[.ref x,.int n]/\H x=some (.ins cW dx [])/\n<=60 /\
 ∀(fl:Addr) (A:ChA) (H':Hp),H fl=none->(∀a∈A.all,H a=none)->y1 [x] H H'->(∀sr:Nat->List Nat,P0 cW cC cB cS n H' x fl A (ChS.new n sr) [])->Q .non H'
theorem zc8:y4 ["self","many"] ["self","many"] (z8 T1):=scq
theorem zp9 {cW cC cB cS:Addr}(F:Fun K "__init__" "Growth.__init__" T1 f fd)(B:Blt mg)(cw:p4 K cW zo9)(KC:zt6 P w K mg base 4 cC "Chain" ["self","many"] (zs4 cC cB cS)):u6 P w K mg base CX0 6 f fd ["self","many"] (yt2 cW cC cB cS):=by
 refine F.ok zc8 (λvs H Q E h=>?_) (λcdv Ar outer sh H vs Q E hr h=>?_)
 ·obtain⟨x,dx,n,rfl,_⟩:=h
  rfl
 obtain⟨x,dx,n,rfl,hx,hn,q⟩:=h
 refine⟨_,z7 (i6 (pv 0) (pv 1) rfl)
  (z7 (i6 (pv 0) (U7 z4) rfl)
  (z6 (i6 (pv 0) (J4 KC hr rfl (z0 (pv 1) z4)) rfl))),?_⟩
 refine⟨_,rfl,_,rfl,x,cW,dx,[],rfl,hx,cw.cls,cw.no "many" (by decide),by decide,?_⟩
 obtain⟨H1,g1,f1,x1⟩:=p6 (H:=H) (x:=x) (cS:=cW) (dx:=dx) (f:="many") (v:=V.int n) (fs:=[]) (fs':=[("many",.int n)]) rfl
 rw[g1]
 refine⟨(by show 0<=fQ;decide),λfl hfl=>?_⟩
 have s2:=y2 hfl (.lst [])
 have e2:(upd H1 fl (.lst [])) fl=some (.lst []):=z3
 generalize upd H1 fl (.lst [])=H2 at s2 e2 ⊢
 have xfl:fl≠x:=λz=>by subst z;rw[x1]at hfl;cases hfl
 have hfl0:H fl=none:=by
  cases e:H fl with
  | none=>rfl
  | some o=>rw[f1.keep e xfl]at hfl;cases hfl
 refine⟨_,rfl,x,cW,dx,_,rfl,s2 _ _ x1,cw.cls,cw.no "found" (by decide),by (show 1<1000;decide),?_⟩
 obtain⟨H3,g3,f3,x3⟩:=p6 (H:=H2) (x:=x) (cS:=cW) (dx:=dx) (f:="found") (v:=V.ref fl) (fs:=[("many",.int n)]) (fs':=[("many",.int n),("found",.ref fl)]) rfl
 rw[g3]
 have F3:y1 [x] H H3:=(f1.trans (y0.frame s2)).trans f3
 have e3:=f3.keep e2 xfl
 refine⟨_,rfl,λc dc hc hdc hne=>⟨c,dc,n,rfl,z3,hn,λA H4 hAc hfree fr4 ch4=>⟨rfl,?_⟩⟩⟩
 have s4:y0 H3 H4:=λb o h=>fr4 b o (by simpa using z9 h hc) (by rw[z5 (z9 h hc),z5 (z9 h hdc)];exact h)
 have hall:∀a∈A.all,H3 a=none:=λa ha=>by
  by_cases e:a=c
  ·rw[e];exact hc
  ·have:=hfree a ha e
   rw[z5 e]at this
   by_cases e2:a=dc
   ·rw[e2];exact hdc
   ·rwa [z5 e2]at this
 subst hAc
 refine⟨_,rfl,x,cW,dx,_,rfl,s4 _ _ x3,cw.cls,cw.no "chain" (by decide),by (show 2<1000;decide),?_⟩
 obtain⟨H5,g5,f5,x5⟩:=p6 (H:=H4) (x:=x) (cS:=cW) (dx:=dx) (f:="chain") (v:=V.ref A.c) (fs:=[("many",.int n),("found",.ref fl)]) (fs':=[("many",.int n),("found",.ref fl),("chain",.ref A.c)]) rfl
 rw[g5]
 have F5:y1 [x] H H5:=(F3.trans (y0.frame s4)).trans f5
 have xA:x∉A.all:=λz=>by
  have:=hall x z
  rw[x3]at this
  cases this
 have flA:fl∉A.all:=λz=>by
  have:=hall fl z
  rw[e3]at this
  cases this
 have ch5:∀sr:Nat->List Nat,u0 cC cB cS n H5 A (ChS.new n sr):=λsr=>(ch4 sr).keep f5 λy hy=>by
  rw[af.mp hy]
  exact⟨xA,λxs z=>by rw[s4 _ _ x3]at z;cases z⟩
 refine q fl A H5 hfl0 (λa ha=>?_) F5 λsr=>⟨⟨dx,x5⟩,f5.keep (s4 _ _ e3) xfl,ch5 sr,xA,flA,⟨ChS.new_inv n,λi _=>ChS.new_done n i⟩⟩
 cases e:H a with
 | none=>rfl
 | some o =>
  have:=hall a ha
  rw[F3.keep e (λz=>xA (z ▸ ha))]at this
  cases this
def yt4 (cW cC cB cS:Addr):Sp:=λvs H Q _=>∃(x fl tr:Addr) (A:ChA) (S:ChS) (n c:Nat) (fas:List Addr) (t:List Nat),vs=[.ref x,.ref tr]/\P0 cW cC cB cS n H x fl A S fas/\0<n/\n<=60/\c<1000/\S.Full c/\fas.length<1000/\H tr=some (.tup (tI t))/\TM.IsT n t/\tr∉A.all/\(¬TM.Grp n (S.chn.mv 0) t->S.src fas.length=t) /\
 ∀(b:Bool) (S':ChS) (H':Hp),S'.src=S.src->y1 (fl::A.all) H H'->P0 cW cC cB cS n H' x fl A S' (if b then fas++[tr] else fas)->S'.Full (c+1)->(∀x,TM.Grp n (S'.chn.mv 0) x↔TM.Grp n (λz=>S.chn.mv 0 z∨z=t) x)->(b=false↔TM.Grp n (S.chn.mv 0) t)->Q (.bl b) H'
theorem A4:y4 ["self","turning","is_new"] ["self","turning"] (z8 L4):=scq
theorem zq1 {cW cC cB cS:Addr}(F:Fun K "take" "Growth.take" L4 f fd)(B:Blt mg)(cw:p4 K cW zo9)(cc:p4 K cC Y4)(MT:l4 P w K mg base 6 cC "take" ["self","number","maker"] (yo9 cC cB cS)):u6 P w K mg base CX0 7 f fd ["self","turning"] (yt4 cW cC cB cS):=by
 refine F.ok A4 (λvs H Q E h=>?_) (λcdv Ar outer sh H vs Q E hr h=>?_)
 ·obtain⟨x,fl,tr,A,S,n,c,fas,t,rfl,_⟩:=h
  rfl
 obtain⟨x,fl,tr,A,S,n,c,fas,t,rfl,ga,hn0,hn,hc,full,hfl,htr,tT,trA,hsrc,q⟩:=h
 obtain⟨dx,hx⟩:=ga.x'
 obtain⟨dxc,hcc⟩:=ga.ch.c
 refine⟨_,z7 (y8 (i:=2) A4.nd rfl (Or.inl rfl) (l7 cc.cls MT hr (y3 (pv 0) rfl) (z0 (w8 p0 rfl B.len Z4 (z0 (y3 (pv 0) rfl) z4)) (z0 (pv 1) z4))))
  (z7 (l8 (Y5 (pv 2)) (z6 (m7 (E7 PySem.F.plainAttrs_list PySem.F.slot_list_append PySem.F.type_list_append Y0 (y3 (pv 0) rfl) (z0 (pv 1) z4)))) u8)
  (z6 (y9 (pv 2)))),?_⟩
 refine⟨_,rfl,x,cW,dx,_,_,rfl,hx,cw.cls,cw.no "chain" (by decide),rfl,A.c,dxc,_,rfl,hcc,rfl,_,rfl,x,cW,dx,_,_,rfl,hx,cw.cls,cw.no "found" (by decide),rfl,fl,_,rfl,.inl (SqL.of ga.fl'),_,rfl,A,S,n,c,fas.length,tr,t,?_,ga.ch,ga.st,hn0,hn,hc,full,htr,tT,hsrc,λb S' H1 fr1 ch1 st1 src1 full1 grp1 hb=>?_⟩
 ·rw[aa]
  rfl
 dsimp only[U4]
 have x1:=fr1 _ _ ga.xA hx
 have fl1:=fr1 _ _ ga.flA ga.fl'
 have fr1':y1 (fl::A.all) H H1:=fr1.more λy hy=>ao _ hy
 refine xe4 (λσ H2=>σ=[some (.ref x),some (.ref tr),some (.bl b)]/\y1 (fl::A.all) H H2/\P0 cW cC cB cS n H2 x fl A S' (if b then fas++[tr] else fas)) ?_ λN hN=>?_
 ·rintro σ H2 ⟨rfl,fr2,ga2⟩
  exact⟨_,rfl,q b S' H2 src1 fr2 ga2 full1 grp1 hb⟩
 refine⟨_,rfl,_,rfl,?_⟩
 cases b with
 | false =>
  exact i9 (hN _ _ ⟨rfl,fr1',⟨⟨dx,x1⟩,fl1,ch1,ga.xA,ga.flA,st1⟩⟩)
 | true =>
  refine Z1 ⟨_,rfl,x,cW,dx,_,_,rfl,x1,cw.cls,cw.no "found" (by decide),rfl,.inl ⟨rfl,_,SqL.of fl1⟩,_,rfl,fl,_,_,rfl,rfl,fl1,by rw[aa];exact aQ hfl (by decide),hN _ _ ⟨rfl,?_,?_⟩⟩
  ·exact fr1'.trans λy o hy h=>by rw[z5 (λz=>hy (by rw[z];exact ax))];exact h
  ·have nx:x≠fl:=λz=>by rw[z,fl1]at x1;cases x1
   have fr2:y1 [fl] H1 (upd H1 fl (.lst (fas.map V.ref++[V.ref tr]))):=λy o hy h=>by rw[z5 (λz=>hy (by rw[z];exact ax))];exact h
   refine⟨⟨dx,by rw[z5 nx];exact x1⟩,?_,ch1.keep fr2 λy hy=>?_,ga.xA,ga.flA,st1⟩
   ·rw[z3,if_pos rfl,aG]
    rfl
   ·rw[af.mp hy]
    exact⟨ga.flA,λxs z=>by rw[fl1]at z;cases z⟩
def yt3 (cW cC cB cS:Addr):Sp:=λvs H Q _=>∃(x fl:Addr) (A:ChA) (S:ChS) (n:Nat) (fas:List Addr),vs=[.ref x]/\P0 cW cC cB cS n H x fl A S fas/\n<=60/\Q (.int ((S.chn.many n n:Nat):Int)) H
theorem zr7:y4 ["self"] ["self"] (z8 L1):=scq
theorem zq0 {cW cC cB cS:Addr}(F:Fun K "size" "Growth.size" L1 f fd)(B:Blt mg)(cw:p4 K cW zo9)(cc:p4 K cC Y4)(MS:l4 P w K mg base 1 cC "size" ["self"] (yd8 cC cB cS)):u6 P w K mg base CX0 2 f fd ["self"] (yt3 cW cC cB cS):=by
 refine F.ok zr7 (λvs H Q E h=>?_) (λcdv Ar outer sh H vs Q E hr h=>?_)
 ·obtain⟨x,fl,A,S,n,fas,rfl,_⟩:=h
  rfl
 obtain⟨x,fl,A,S,n,fas,rfl,ga,hn,q⟩:=h
 obtain⟨dx,hx⟩:=ga.x'
 obtain⟨dxc,hc⟩:=ga.ch.c
 refine⟨_,z6 (y9 (X6 cc.cls MS hr (y3 (pv 0) rfl))),?_⟩
 exact⟨_,rfl,x,cW,dx,_,_,rfl,hx,cw.cls,cw.no "chain" (by decide),rfl,A.c,dxc,_,rfl,hc,rfl,A,S,n,rfl,ga.ch,ga.st.inv,hn,q⟩
def yt5 (cW cG cC cB cS:Addr):Sp:=λvs H Q _=>∃(x fl:Addr) (A:ChA) (S:ChS) (n:Nat) (fas:List Addr) (us:List (List Nat)),vs=[.ref x]/\P0 cW cC cB cS n H x fl A S fas/\0<n/\n<=60/\i7 H fas us/\us.length<=200/\(∀t∈us,TM.IsT n t)/\(∀x,TM.Grp n (S.chn.mv 0) x↔TM.Grp n (λz=>z∈us) x)/\(S.src=λk=>us.getD k [])/\S.ln.length<=4000000 /\
 ∀(g:Addr) (H':Hp),y0 H H'->i3 cG cC cB cS n H' g us S->Q (.ref g) H'
theorem E8:y4 ["self","group"] ["self"] (z8 O7):=scq
theorem zk5 {cW cG cC cB cS:Addr}(F:Fun K "whole" "Growth.whole" O7 f fd)(B:Blt mg)(cw:p4 K cW zo9)(cg:p4 K cG Y6)(KG:zt6 P w K mg base 7 cG "Group" ["self","many","makers"] (zs5 cG cC cB cS)):u6 P w K mg base CX0 9 f fd ["self"] (yt5 cW cG cC cB cS):=by
 refine F.ok E8 (λvs H Q E h=>?_) (λcdv Ar outer sh H vs Q E hr h=>?_)
 ·obtain⟨x,fl,A,S,n,fas,us,rfl,_⟩:=h
  rfl
 obtain⟨x,fl,A,S,n,fas,us,rfl,ga,h0,hn,hts,hfew,hT,hgrp,hsrc,hlnl,q⟩:=h
 obtain⟨dx,hx⟩:=ga.x'
 refine⟨_,z7 (y8 (i:=1) E8.nd rfl (Or.inl rfl) (J4 KG hr rfl (z0 (y3 (pv 0) rfl) (z0 (U7 z4) z4))))
  (z7 (i6 (pv 1) (t9 h8 rfl B.tuple c5 (z0 (y3 (pv 0) rfl) z4)) rfl)
  (z7 (i6 (pv 1) (y3 (pv 0) rfl) rfl)
  (z6 (y9 (pv 1))))),?_⟩
 refine⟨_,rfl,x,cW,dx,_,_,rfl,hx,cw.cls,cw.no "many" (by decide),rfl,aP _,λl hl=>?_⟩
 have s1:=y2 hl (.lst [])
 have e1:(upd H l (.lst [])) l=some (.lst (([]:List Addr).map V.ref)):=z3
 generalize upd H l (.lst [])=H1 at s1 e1 ⊢
 refine λg dg hg hdg hne=>⟨g,dg,l,n,[],[],rfl,z3,h0,hn,?_,.nil,aP _,λt ht=>(by cases ht),λS0 H2 fr2 ga2 _=>⟨rfl,?_⟩⟩
 ·rw[z5 (z9 e1 hg),z5 (z9 e1 hdg)];exact e1
 have s2:y0 H1 H2:=λb u h=>fr2 b u (by simpa using z9 h hg) (by rw[z5 (z9 h hg),z5 (z9 h hdg)];exact h)
 have s02:=s1.trans s2
 have hg0:H g=none:=s1.free hg
 obtain⟨dx2,ma2,A2,mas2,g2,_⟩:=ga2.at'
 dsimp only[U4]
 refine⟨_,rfl,x,cW,dx,_,_,rfl,s02 _ _ hx,cw.cls,cw.no "found" (by decide),rfl,fl,_,rfl,.inl ⟨SqL.of (s02 _ _ ga.fl'),λtp htp=>?_⟩⟩
 have s3:=s02.trans (y2 htp (.tup (fas.map V.ref)))
 have e3:(upd H2 tp (.tup (fas.map V.ref))) tp=some (.tup (fas.map V.ref)):=z3
 have g3:=(y2 htp (.tup (fas.map V.ref))) _ _ g2
 generalize upd H2 tp (.tup (fas.map V.ref))=H3 at s3 e3 g3 ⊢
 refine⟨_,rfl,g,cG,dx2,_,rfl,g3,cg.cls,cg.no "makers" (by decide),by (show 3<1000;decide),?_⟩
 obtain⟨H4,k4,f4,g4⟩:=p6 (H:=H3) (x:=g) (cS:=cG) (dx:=dx2) (f:="makers") (v:=V.ref tp) (fs:=[("many",.int n),("makers",.ref ma2),("chain",.ref A2.c)]) (fs':=[("many",.int n),("makers",.ref tp),("chain",.ref A2.c)]) rfl
 rw[k4]
 have old:∀{b:Addr} {o:HO},H b=some o->b≠g:=λ{b o} h z=>by rw[z,hg0]at h;cases h
 have s4:y0 H H4:=λb o h=>f4.keep (s3 _ _ h) (old h)
 have e4:=f4.keep e3 (λz=>by rw[z,g3]at e3;cases e3)
 refine⟨_,rfl,x,cW,dx,_,_,rfl,s4 _ _ hx,cw.cls,cw.no "chain" (by decide),rfl,_,rfl,g,cG,dx2,_,rfl,g4,cg.cls,cg.no "chain" (by decide),by (show 3<1000;decide),?_⟩
 obtain⟨H5,k5,f5,g5⟩:=p6 (H:=H4) (x:=g) (cS:=cG) (dx:=dx2) (f:="chain") (v:=V.ref A.c) (fs:=[("many",.int n),("makers",.ref tp),("chain",.ref A2.c)]) (fs':=[("many",.int n),("makers",.ref tp),("chain",.ref A.c)]) rfl
 rw[k5]
 have s5:y0 H H5:=λb o h=>f5.keep (s4 _ _ h) (old h)
 exact⟨_,rfl,q g H5 s5 ⟨h0,hn,⟨dx2,tp,A,fas,g5,f5.keep e4 (λz=>by rw[z,g4]at e4;cases e4),hts.same s5,ga.ch.same s5⟩,ga.st,hfew,hT,hgrp,hsrc,hlnl⟩⟩
def xg3 (AH:Hp->Addr->Prop)(LK:Hp->V->Option (List Nat)->Prop):Sp:=λvs H Q _=>∃(a:Addr) (v:V) (l:List Nat),vs=[.ref a,v]/\AH H a/\LK H v (some l)/\∀(o:Addr) (H':Hp),y0 H H'->H' o=some (.tup (tI l))->Q (.ref o) H'
theorem yx8 {AH:Hp->Addr->Prop}{LK:Hp->V->Option (List Nat)->Prop}{X cA:Addr}{k:Nat}(M:zb0 P w K mg base k cA "looked" ["self","thing"] (yy8 AH LK X)):l4 P w K mg base k cA "looked" ["self","thing"] (xg3 AH LK):=by
 obtain⟨f,fd,F,r⟩:=M
 exact⟨f,fd,F.calm.imp λvs H Q E ⟨a,v,l,e,h1,h2,q⟩=>⟨a,v,some l,e,h1,h2,λl' e' o H' s' ho=>(by cases e';exact q o H' s' ho),λz=>(by cases z)⟩,r⟩
section
variable {cR cG cC cB cS cA:Addr}{n:Nat}{AH:Hp->Addr->Prop}{LK:Hp->V->Option (List Nat)->Prop}{ok:List Nat->Prop}{mv:List Nat->List Nat->List Nat}
def zf6 (cR cG cC cB cS:Addr)(n:Nat)(AH:Hp->Addr->Prop)(LK:Hp->V->Option (List Nat)->Prop):Sp:=λvs H Q _=>∃(ts:List (List Nat)) (S:ChS) (H0:Hp) (x g a o wd bd:Addr) (es:List Ent) (v:V) (l:List Nat),vs=[.ref x,v]/\c3 cR cG cC cB cS n AH ts S H0 H x g a o wd bd es/\LK H v (some l)/\l∈es.map Ent.k/\∀(p:Addr) (H':Hp),y0 H H'->H' p=some (.tup (tI l))->Q (.ref p) H'
theorem E9:y4 ["self","thing","own"] ["self","thing"] (z8 O8):=scq
theorem xi8 (f:Ent->V){es:List Ent}{l:List Nat}(nd:(es.map Ent.k).Nodup)(h:l∈es.map Ent.k):∃e∈es,e.k=l/\L9 (U3 f es) (kT l)=some (f e):=by
 obtain⟨e,he,rfl⟩:=au.mp h
 exact⟨e,he,rfl,P7 f nd he⟩
theorem zk6 (F:Fun K "in_ring" "Ring.in_ring" O8 f fd)(B:Blt mg)(cr:p4 K cR K3)(cl:Cls K cA)(ap:yl8 cA n AH ok mv)(ML:l4 P w K mg base 6 cA "looked" ["self","thing"] (xg3 AH LK)):u6 P w K mg base CX0 7 f fd ["self","thing"] (zf6 cR cG cC cB cS n AH LK):=by
 refine F.ok E9 (λvs H Q E h=>?_) (λcdv A outer s H vs Q E hr h=>?_)
 ·obtain⟨ts,S,H0,x,g,a,o,wd,bd,es,v,l,rfl,_⟩:=h
  rfl
 obtain⟨ts,S,H0,x,g,a,o,wd,bd,es,v,l,rfl,ra,hL,hl,q⟩:=h
 have hu:=zi9 hr
 refine⟨_,z7 (y8 (i:=2) E9.nd rfl (Or.inl rfl) (l7 cl ML hr (y3 (pv 0) rfl) (z0 (pv 1) z4)))
  (z7 (l8 (B0 (S9 hu (pv 2) (y3 (pv 0) rfl))) (z6 C9) u8) (z6 (y9 (pv 2)))),?_⟩
 obtain⟨dx,hx⟩:=ra.x'
 have hA:=ap.same ra.ac ra.s
 obtain⟨dxa,fsa,hains,_,l2,_⟩:=ap.ins hA
 refine o5 λN hN=>⟨_,rfl,x,cR,dx,_,_,rfl,hx,cr.cls,cr.no "act" (by decide),rfl,a,dxa,fsa,rfl,hains,l2,_,rfl,a,v,l,rfl,hA,hL,λp H1 s1 hp=>hN _ _ ?_⟩
 clear hN N
 have ra1:=ra.same s1
 have hpk:H1 p=some (.tup ((kT l).map kV)):=by rw[S6];exact hp
 obtain⟨e,he,_,hv⟩:=xi8 (λe=>V.ref e.wa) ra.d.nd hl
 refine o5 λN hN=>⟨_,rfl,_,rfl,x,cR,dx,_,_,rfl,s1 _ _ hx,cr.cls,cr.no "ways" (by decide),rfl,wd,_,rfl,Y2.t ra1.d.w hpk,_,rfl,?_⟩
 rw[hv]
 exact i9 (hN _ _ ⟨_,rfl,q p H1 s1 hp⟩)
def xg1 (cR cG cC cB cS:Addr)(n:Nat)(AH:Hp->Addr->Prop)(LK:Hp->V->Option (List Nat)->Prop):Sp:=λvs H Q _=>∃(ts:List (List Nat)) (S:ChS) (H0:Hp) (x g a o wd bd:Addr) (es:List Ent) (v:V) (e:Ent),vs=[.ref x,v]/\c3 cR cG cC cB cS n AH ts S H0 H x g a o wd bd es/\LK H v (some e.k)/\e∈es/\∀H':Hp,y0 H H'->Q (.int ((e.w.length:Nat):Int)) H'
theorem yj8:y4 ["self","thing"] ["self","thing"] (z8 zc1):=scq
theorem yi2 (F:Fun K "far" "Ring.far" zc1 f fd)(B:Blt mg)(cr:p4 K cR K3)(MI:l4 P w K mg base 7 cR "in_ring" ["self","thing"] (zf6 cR cG cC cB cS n AH LK)):u6 P w K mg base CX0 8 f fd ["self","thing"] (xg1 cR cG cC cB cS n AH LK):=by
 refine F.ok yj8 (λvs H Q E h=>?_) (λcdv A outer s H vs Q E hr h=>?_)
 ·obtain⟨ts,S,H0,x,g,a,o,wd,bd,es,v,e,rfl,_⟩:=h
  rfl
 obtain⟨ts,S,H0,x,g,a,o,wd,bd,es,v,e,rfl,ra,hL,he,q⟩:=h
 have hu:=zi9 hr
 refine⟨_,z6 (y9 (w8 p0 rfl B.len Z4 (z0 (Y8 hu (y3 (pv 0) rfl) (l7 cr.cls MI hr (pv 0) (z0 (pv 1) z4)) (λ_ _=>rfl)) z4))),?_⟩
 obtain⟨dx,hx⟩:=ra.x'
 refine⟨_,rfl,x,cR,dx,_,_,rfl,hx,cr.cls,cr.no "ways" (by decide),rfl,_,rfl,x,dx,_,rfl,hx,rfl,_,rfl,ts,S,H0,x,g,a,o,wd,bd,es,v,e.k,rfl,ra,hL,au.mpr ⟨e,he,rfl⟩,λp H1 s1 hp=>?_⟩
 have ra1:=ra.same s1
 have hpk:H1 p=some (.tup ((kT e.k).map kV)):=by rw[S6];exact hp
 have hv:=P7 (λe=>V.ref e.wa) ra.d.nd he
 refine⟨wd,_,rfl,(by rw[←hv];exact Y2.t ra1.d.w hpk),e.wa,_,rfl,.inr (SqT.of (ra1.d.at' e he).1),?_⟩
 rw[v0]
 exact q H1 s1
def xg8 (cR cG cC cB cS:Addr)(n:Nat)(AH:Hp->Addr->Prop)(LK:Hp->V->Option (List Nat)->Prop):Sp:=λvs H Q _=>∃(ts:List (List Nat)) (S:ChS) (H0:Hp) (x g a o wd bd:Addr) (es:List Ent) (v:V) (e:Ent),vs=[.ref x,v]/\c3 cR cG cC cB cS n AH ts S H0 H x g a o wd bd es/\LK H v (some e.k)/\e∈es/\∀(l:Addr) (H':Hp),H l=none->y0 H H'->H' l=some (.lst (tI e.w))->Q (.ref l) H'
theorem yj9:y4 ["self","thing"] ["self","thing"] (z8 zc2):=scq
theorem yi3 (F:Fun K "way" "Ring.way" zc2 f fd)(B:Blt mg)(cr:p4 K cR K3)(MI:l4 P w K mg base 7 cR "in_ring" ["self","thing"] (zf6 cR cG cC cB cS n AH LK)):u6 P w K mg base CX0 8 f fd ["self","thing"] (xg8 cR cG cC cB cS n AH LK):=by
 refine F.ok yj9 (λvs H Q E h=>?_) (λcdv A outer s H vs Q E hr h=>?_)
 ·obtain⟨ts,S,H0,x,g,a,o,wd,bd,es,v,e,rfl,_⟩:=h
  rfl
 obtain⟨ts,S,H0,x,g,a,o,wd,bd,es,v,e,rfl,ra,hL,he,q⟩:=h
 have hu:=zi9 hr
 refine⟨_,z6 (y9 (t9 P6 rfl B.list M4 (z0 (Y8 hu (y3 (pv 0) rfl) (l7 cr.cls MI hr (pv 0) (z0 (pv 1) z4)) (λ_ _=>rfl)) z4))),?_⟩
 obtain⟨dx,hx⟩:=ra.x'
 refine⟨_,rfl,x,cR,dx,_,_,rfl,hx,cr.cls,cr.no "ways" (by decide),rfl,_,rfl,x,dx,_,rfl,hx,rfl,_,rfl,ts,S,H0,x,g,a,o,wd,bd,es,v,e.k,rfl,ra,hL,au.mpr ⟨e,he,rfl⟩,λp H1 s1 hp=>?_⟩
 have ra1:=ra.same s1
 have hpk:H1 p=some (.tup ((kT e.k).map kV)):=by rw[S6];exact hp
 have hv:=P7 (λe=>V.ref e.wa) ra.d.nd he
 exact⟨wd,_,rfl,(by rw[←hv];exact Y2.t ra1.d.w hpk),e.wa,_,rfl,.inr (SqT.of (ra1.d.at' e he).1),λl hl=>q l _ (s1.free hl) (s1.trans (y2 hl _)) z3⟩
end
theorem u0.nt {cC cB cS:Addr}{n:Nat}{H:Hp}{A:ChA}{S:ChS}(ch:u0 cC cB cS n H A S){a:Addr}(ha:a∈A.all):∃o,H a=some o/\∀xs,o≠.tup xs:=by
 unfold ChA.all at ha
 rcases aC.mp ha with h|h
 ·obtain⟨dx,hc⟩:=ch.c
  obtain⟨dxb,hb⟩:=ch.bk.b
  obtain⟨as,hll,_⟩:=ch.bk.ll
  obtain⟨as',hlm,_⟩:=ch.bk.lm
  simp only[aw,aV,or_false]at h
  rcases h with rfl|rfl|rfl|rfl|rfl|rfl
  ·exact⟨_,hc,λxs z=>(by cases z)⟩
  ·exact⟨_,hb,λxs z=>(by cases z)⟩
  ·exact⟨_,hll,λxs z=>(by cases z)⟩
  ·exact⟨_,hlm,λxs z=>(by cases z)⟩
  ·exact⟨_,ch.bk.d,λxs z=>(by cases z)⟩
  ·exact⟨_,ch.l,λxs z=>(by cases z)⟩
 ·obtain⟨l,hl,hal⟩:=cf.mp h
  obtain⟨s,hs,rfl⟩:=au.mp hl
  obtain⟨i,hi⟩:=bJ hs
  have hil:i<S.st.length:=by
   have:=(al.mp hi).1
   rw[ch.len.2,←ch.len.1]
   exact this
  have st:=ch.st i s _ hi (ae hil)
  obtain⟨dxa,h1⟩:=st.a
  obtain⟨bs,h2,_⟩:=st.bf
  obtain⟨ws,h3,_⟩:=st.w
  unfold StA.all at hal
  simp only[aw,aV,or_false]at hal
  rcases hal with rfl|rfl|rfl|rfl|rfl
  ·exact⟨_,h1,λxs z=>(by cases z)⟩
  ·exact⟨_,st.m,λxs z=>(by cases z)⟩
  ·exact⟨_,st.lt,λxs z=>(by cases z)⟩
  ·exact⟨_,h2,λxs z=>(by cases z)⟩
  ·exact⟨_,h3,λxs z=>(by cases z)⟩
structure GwS (cW cC cB cS:Addr) (n:Nat) (Hb H:Hp) (gw fl:Addr) (A:ChA) (S1:ChS) (fas:List Addr) (f FIN:List (List Nat)) (c:Nat):Prop where
 s:y0 Hb H
 new:∀b∈fl::A.all,∀o,Hb b≠some o
 ga:P0 cW cC cB cS n H gw fl A S1 fas
 ts:i7 H fas f
 full:S1.Full c
 src:S1.src=λj=>FIN.getD j []
 grp:∀y,TM.Grp n (S1.chn.mv 0) y↔TM.Grp n (λz=>z∈f) y
 le:f.length<=c
section
variable {cW cC cB cS:Addr}{n:Nat}{Hb H H':Hp}{gw fl:Addr}{A:ChA}{S1 S2:ChS}{fas:List Addr}{f FIN:List (List Nat)}{c:Nat}
theorem GwS.same (h:GwS cW cC cB cS n Hb H gw fl A S1 fas f FIN c)(s:y0 H H'):GwS cW cC cB cS n Hb H' gw fl A S1 fas f FIN c:=by
 obtain⟨dx,hx⟩:=h.ga.x'
 exact⟨h.s.trans s,h.new,⟨⟨dx,s _ _ hx⟩,s _ _ h.ga.fl',h.ga.ch.same s,h.ga.xA,h.ga.flA,h.ga.st⟩,h.ts.same s,h.full,h.src,h.grp,h.le⟩
theorem GwS.nt (h:GwS cW cC cB cS n Hb H gw fl A S1 fas f FIN c){b:Addr}{xs:List V}(hb:H b=some (.tup xs)):b∉fl::A.all:=λz=>by
 rcases aw.mp z with e|e
 ·rw[e,h.ga.fl']at hb;cases hb
 ·obtain⟨o,ho,hno⟩:=h.ga.ch.nt e
  rw[ho]at hb
  exact hno xs (Option.some.inj hb)
theorem GwS.took (h:GwS cW cC cB cS n Hb H gw fl A S1 fas f FIN c)(fT:∀t∈f,TM.IsT n t){tr:Addr}{t:List Nat}(htr:H tr=some (.tup (tI t)))(tT:TM.IsT n t){b:Bool}(src:S2.src=S1.src)(fr:y1 (fl::A.all) H H')(ga:P0 cW cC cB cS n H' gw fl A S2 (if b then fas++[tr] else fas))(full:S2.Full (c+1))(grp:∀x,TM.Grp n (S2.chn.mv 0) x↔TM.Grp n (λz=>S1.chn.mv 0 z∨z=t) x)(hb:b=false↔TM.Grp n (S1.chn.mv 0) t) :
  ∃fas',GwS cW cC cB cS n Hb H' gw fl A S2 fas' (TM.tk1 n f t) FIN (c+1):=by
 have ts':i7 H' fas f:=Paired.imp' (λb t e=>fr b _ (h.nt e) e) h.ts
 have s':y0 Hb H':=λb o e=>fr b o (λz=>h.new b z o e) (h.s b o e)
 have g1:∀y,TM.Grp n (S2.chn.mv 0) y↔TM.Grp n (λz=>z∈f∨z=t) y:=λy=>(grp y).trans (yg7 (S:=S1.chn.mv 0) (S':=λz=>z∈f) (h.ga.st.inv.ok.mvT 0) fT tT h.grp y)
 have bT:∀s,s∈f∨s=t->TM.IsT n s:=λs hs=>hs.elim (fT s) λz=>by rw[z];exact tT
 by_cases hg:TM.Grp n (λz=>z∈f) t
 ·have e:b=false:=hb.mpr ((h.grp t).mpr hg)
  subst e
  have e:TM.tk1 n f t=f:=if_pos hg
  rw[e]
  exact⟨fas,s',h.new,ga,ts',full,src.trans h.src,λy=>(g1 y).trans ⟨TM.Grp.mono fT λs hs=>hs.elim (λz=>TM.Grp.of fT z) λz=>by rw[z];exact hg,TM.Grp.mono bT λs hs=>TM.Grp.of bT (.inl hs)⟩,Nat.le_succ_of_le h.le⟩
 ·have e:b=true:=by
   cases b with
   | true=>rfl
   | false=>exact absurd ((h.grp t).mp (hb.mp rfl)) hg
  subst e
  have e:TM.tk1 n f t=f++[t]:=if_neg hg
  rw[e]
  refine⟨fas++[tr],s',h.new,ga,Paired.snoc ts' (fr _ _ (h.nt htr) htr),full,src.trans h.src,λy=>?_,by rw[aq];exact Nat.succ_le_succ h.le⟩
  rw[g1 y,show(λz=>z∈f∨z=t)=λz=>z∈f++[t] from funext λz=>propext (by rw[aC,af])]
theorem GwS.next (h:GwS cW cC cB cS n Hb H gw fl A S1 fas f FIN c){t:List Nat}{l:List (List Nat)}(e:FIN=TM.tk1 n f t++l)(hn:¬TM.Grp n (S1.chn.mv 0) t):S1.src fas.length=t:=by
 have e1:TM.tk1 n f t=f++[t]:=if_neg λz=>hn ((h.grp t).mpr z)
 have e2:fas.length=f.length:=Paired.length h.ts
 rw[h.src,e,e1,e2]
 show((f++[t])++l).getD f.length []=t
 rw[ay,bz,aZ (ag _),cq]
 rfl
end
def D1 (es:List Ent)(k:List Nat):List Nat:=match es with|[]=>[]|e::r=>if e.k=k then e.b else D1 r k
theorem U0:∀{es:List Ent} {e:Ent},(es.map Ent.k).Nodup->e∈es->D1 es e.k=e.b
 | d::es,e,hn,h=>by
  rw[aR,aK]at hn
  unfold D1
  by_cases hk:d.k=e.k
  ·rw[if_pos hk]
   rcases aw.mp h with q|q
   ·rw[q]
   ·exact absurd (hk ▸ au.mpr ⟨e,q,rfl⟩) hn.1
  ·rw[if_neg hk]
   rcases aw.mp h with q|q
   ·exact absurd (by rw[q]) hk
   ·exact U0 hn.2 q
structure KpB (cR cG cC cB cS:Addr) (n:Nat) (AH:Hp->Addr->Prop) (ok:List Nat->Prop) (mv:List Nat->List Nat->List Nat) (Hb:Hp) (x g a o wd bd:Addr) (ts:List (List Nat)) (S:ChS) (es:List Ent):Prop where
 x':∃dx,Hb x=some (.ins cR dx (yc3 g a o wd bd))
 ga:i3 cG cC cB cS n Hb g ts S
 ac:AH Hb a
 b:Hb bd=some (.dT (U3 (λe=>.ref e.ba) es))
 nd:(es.map Ent.k).Nodup
 at':∀e∈es,Hb e.ba=some (.tup (tI e.b))/\TM.IsT n e.b/\ok e.k
 cl:∀e∈es,∀m∈S.lean0,mv e.k m∈es.map Ent.k
abbrev X5 (n:Nat) (mv:List Nat->List Nat->List Nat) (es:List Ent) (S:ChS) (k:List Nat):List (List Nat):=S.lean0.map λm=>TM.sgen n mv (D1 es) k m
def yu2 (cR cW cG cC cB cS:Addr)(n:Nat)(AH:Hp->Addr->Prop)(ok:List Nat->Prop)(mv:List Nat->List Nat->List Nat):Sp:=λvs H Q _=>∃(Hb:Hp) (ts:List (List Nat)) (S:ChS) (x g a o wd bd gw fl kr:Addr) (A:ChA) (S1:ChS) (fas:List Addr) (f FIN l:List (List Nat)) (c:Nat) (es:List Ent) (e:Ent),vs=[.ref x,.ref gw,.ref kr]/\KpB cR cG cC cB cS n AH ok mv Hb x g a o wd bd ts S es/\e∈es/\H kr=some (.tup (tI e.k))/\GwS cW cC cB cS n Hb H gw fl A S1 fas f FIN c/\(∀t∈f,TM.IsT n t)/\c+S.lean0.length<1000/\FIN=TM.tkR n f (X5 n mv es S e.k)++l /\
 ∀(S2:ChS) (fas':List Addr) (H':Hp),GwS cW cC cB cS n Hb H' gw fl A S2 fas' (TM.tkR n f (X5 n mv es S e.k)) FIN (c+S.lean0.length)->Q .non H'
theorem W0:y4 ["self","growth","thing","maker","there"] ["self","growth","thing"] (z8 V4):=scq
theorem za3 {cR cW cG cC cB cS cA:Addr}{n:Nat}{AH:Hp->Addr->Prop}{ok:List Nat->Prop}{mv:List Nat->List Nat->List Nat}(F:Fun K "put_keepers" "Ring.put_keepers" V4 f fd)(B:Blt mg)(cr:p4 K cR K3)(cg:p4 K cG Y6)(cw:p4 K cW zo9)(cl:Cls K cA)(ap:yl8 cA n AH ok mv)(ML:l4 P w K mg base 2 cG "lean_makers" ["self"] (yt7 cG cC cB cS))(MM:l4 P w K mg base 5 cA "moved" ["self","thing","t"] (yy9 n AH ok mv))(MT:l4 P w K mg base 7 cW "take" ["self","turning"] (yt4 cW cC cB cS))(KB:o7 P w K mg base 1 "behind" ["one","other"] (Q9 K))(KK:o7 P w K mg base 1 "back" ["one"] (yd2 K)):u6 P w K mg base CX0 8 f fd ["self","growth","thing"] (yu2 cR cW cG cC cB cS n AH ok mv):=by
 refine F.ok W0 (λvs H Q E h=>?_) (λcdv A outer s H vs Q E hr h=>?_)
 ·obtain⟨Hb,ts,S,x,g,a,o,wd,bd,gw,fl,kr,A',S1,fas,f',FIN,l,c,es,e,rfl,_⟩:=h
  rfl
 obtain⟨Hb,ts,S,x,g,a,o,wd,bd,gw,fl,kr,A',S1,fas,f',FIN,l,c,es,e,rfl,kp,he,hkr,gs,fT,hc,hF,q⟩:=h
 have hu:=zi9 hr
 have hz:=p9
 apply O0
 ·exact⟨z6 (X7 PassesOwn.never rfl (c9 (X6 cg.cls ML hr (y3 (pv 0) rfl))) (n8 (i:=3) W0.nd rfl (Or.inl rfl))
   (z7 (y8 (i:=4) W0.nd rfl (Or.inl rfl) (l7 cl MM hr (y3 (pv 0) rfl) (z0 (pv 2) (z0 (pv 3) z4))))
   (z6 (m7 (l7 cw.cls MT hr (pv 1) (z0 (q9 KB hr rfl (z0 (q9 KB hr rfl (z0 (Y8 hu (y3 (pv 0) rfl) (pv 2) (λ_ _=>rfl)) (z0 (pv 3) z4))) (z0 (q9 KK hr rfl (z0 (Y8 hu (y3 (pv 0) rfl) (pv 4) (λ_ _=>rfl)) z4)) z4))) z4))))))⟩
 obtain⟨dx,hx⟩:=kp.x'
 have gaH:=kp.ga.same gs.s
 have hn0:=kp.ga.n0
 have hn:=kp.ga.n60
 obtain⟨dxg,ma,Ac,mas0,hg,_⟩:=gaH.at'
 obtain⟨eb,ebT,eok⟩:=kp.at' e he
 refine⟨_,rfl,x,cR,dx,_,_,rfl,gs.s _ _ hx,cr.cls,cr.no "group" (by decide),rfl,g,dxg,_,rfl,hg,rfl,g,n,ts,S,rfl,gaH,λml mas H1 hml0 s1 hml hmas _ _ iT _=>?_⟩
 have hml':mas.length=S.lean0.length:=Paired.length hmas
 have hmF:ml∉fl::A'.all:=λz=>by
  rcases aw.mp z with e|e
  ·rw[e,gs.ga.fl']at hml0;cases hml0
  ·obtain⟨o,ho,_⟩:=gs.ga.ch.nt e
   rw[ho]at hml0;cases hml0
 refine⟨ml,rfl,⟨_,SqL.of hml⟩,W1 (xs:=mas.map V.ref) (λj σ G=>∃(S2:ChS) (fas':List Addr) (v3 v4:Option V),σ=[some (.ref x),some (.ref gw),some (.ref kr),v3,v4]/\GwS cW cC cB cS n Hb G gw fl A' S2 fas' (TM.tkR n f' ((S.lean0.take j).map λm=>TM.sgen n mv (D1 es) e.k m)) FIN (c+j)/\G ml=some (.lst (mas.map V.ref))/\i7 G mas S.lean0/\G kr=some (.tup (tI e.k)))
  ⟨S1,fas,none,none,rfl,by rw[cO];exact gs.same s1,hml,hmas,s1 _ _ hkr⟩ (λj σ G _ ⟨_,_,_,_,_,_,h,_⟩=>SqL.of h) ?_ ?_⟩
 ·rintro j y σ G hy ⟨S2,fas',v3,v4,rfl,gG,hmG,tmG,hkG⟩
  obtain⟨mr,hmr,rfl⟩:=W4 hy
  obtain⟨m,hm,hHm⟩:=u7 tmG j mr hmr
  have mm:=av hm
  have mT:=iT m mm
  have hj:j<S.lean0.length:=(al.mp hm).1
  have hA:=ap.same kp.ac gG.s
  obtain⟨dxa,fsa,hains,l1,_⟩:=ap.ins hA
  refine o5 λN hN=>⟨_,rfl,x,cR,dx,_,_,rfl,gG.s _ _ hx,cr.cls,cr.no "act" (by decide),rfl,a,dxa,fsa,rfl,hains,l1,_,rfl,_,rfl,a,kr,mr,e.k,m,rfl,hA,hkG,eok,hHm,mT,λr G2 s2 hr2=>hN _ _ ?_⟩
  clear hN N
  have gG2:=gG.same s2
  have hx2:=gG2.s _ _ hx
  have b2:=gG2.s _ _ kp.b
  obtain⟨e',he',ek'⟩:=au.mp (kp.cl e he m mm)
  obtain⟨eb',ebT',_⟩:=kp.at' e' he'
  have k1:G2 kr=some (.tup ((kT e.k).map kV)):=by rw[S6];exact s2 _ _ hkG
  have k2:G2 r=some (.tup ((kT e'.k).map kV)):=by rw[S6,ek'];exact hr2
  have v1:=P7 (λe=>V.ref e.ba) kp.nd he
  have v2:=P7 (λe=>V.ref e.ba) kp.nd he'
  obtain⟨dxw,hxw⟩:=gG2.ga.x'
  refine⟨_,rfl,gw,dxw,_,rfl,hxw,rfl,_,rfl,x,cR,dx,_,_,rfl,hx2,cr.cls,cr.no "bringers" (by decide),rfl,_,rfl,bd,_,rfl,(by rw[←v1];exact Y2.t b2 k1),_,rfl,e.ba,mr,e.b,m,rfl,SqT.of (gG2.s _ _ eb),SqT.of (s2 _ _ hHm),by rw[ebT.length];lia,λz hz=>by rw[mT.length];exact ebT.lt hz,λp1 G3 _ s3 h3=>?_⟩
  have s23:=s2.trans s3
  refine⟨_,rfl,x,cR,dx,_,_,rfl,s3 _ _ hx2,cr.cls,cr.no "bringers" (by decide),rfl,_,rfl,bd,_,rfl,(by rw[←v2];exact Y2.t (s3 _ _ b2) (s3 _ _ k2)),e'.ba,n,e'.b,rfl,SqT.of ((gG2.same s3).s _ _ eb'),ebT',by lia,λp2 G4 b' _ s4 hbk h4=>?_⟩
  obtain rfl:=(TM.bk_back ebT').uniq ebT' hbk
  have cT:=ebT.beh mT
  refine⟨p1,p2,TM.beh e.b m,TM.bk n e'.b,rfl,SqT.of (s4 _ _ h3),SqT.of h4,by rw[cT.length];lia,λz hz=>by rw[ebT'.bk.length];exact cT.lt hz,λtr G5 _ s5 h5=>?_⟩
  have eg:TM.sgen n mv (D1 es) e.k m=TM.beh (TM.beh e.b m) (TM.bk n e'.b):=by
   unfold TM.sgen
   rw[U0 kp.nd he,←ek',U0 kp.nd he']
  have tT:=cT.beh ebT'.bk
  have s25:=s3.trans (s4.trans s5)
  have g5:=gG2.same s25
  have h5:G5 tr=some (.tup (tI (TM.beh (TM.beh e.b m) (TM.bk n e'.b)))):=h5
  have nx:(S.lean0.take (j+1)).map (λm=>TM.sgen n mv (D1 es) e.k m)=(S.lean0.take j).map (λm=>TM.sgen n mv (D1 es) e.k m)++[TM.beh (TM.beh e.b m) (TM.bk n e'.b)]:=by
   rw[bc,hm,aG]
   show _++[TM.sgen n mv (D1 es) e.k m]=_
   rw[eg]
  have nxr:=TM.tkR_snoc (n:=n) (TM.beh (TM.beh e.b m) (TM.bk n e'.b)) ((S.lean0.take j).map λm=>TM.sgen n mv (D1 es) e.k m) f'
  rw[←nx]at nxr
  obtain⟨l',el'⟩:∃l',FIN=TM.tkR n f' ((S.lean0.take (j+1)).map λm=>TM.sgen n mv (D1 es) e.k m)++l':=by
   have e1:X5 n mv es S e.k=(S.lean0.take (j+1)).map (λm=>TM.sgen n mv (D1 es) e.k m)++(S.lean0.drop (j+1)).map (λm=>TM.sgen n mv (D1 es) e.k m):=by
    rw[←aG,bO]
   obtain⟨l2,e2⟩:=TM.tkR_pre (n:=n) ((S.lean0.drop (j+1)).map λm=>TM.sgen n mv (D1 es) e.k m) (TM.tkR n f' ((S.lean0.take (j+1)).map λm=>TM.sgen n mv (D1 es) e.k m))
   rw[hF,e1,TM.tkR_app,e2,bz]
   exact⟨_,rfl⟩
  rw[nxr]at el'
  have fTj:∀t∈TM.tkR n f' ((S.lean0.take j).map λm=>TM.sgen n mv (D1 es) e.k m),TM.IsT n t:=TM.tkR_isT fT λt ht=>by
   obtain⟨m',hm',rfl⟩:=au.mp ht
   have mm':=bS hm'
   obtain⟨e2,he2,ek2⟩:=au.mp (kp.cl e he m' mm')
   unfold TM.sgen
   rw[U0 kp.nd he,←ek2,U0 kp.nd he2]
   exact(ebT.beh (iT m' mm')).beh (kp.at' e2 he2).2.1.bk
  have fl5:fas'.length<=c+j:=by rw[show fas'.length=_ from Paired.length g5.ts];exact g5.le
  obtain⟨dxw5,hxw5⟩:=g5.ga.x'
  refine⟨gw,fl,tr,A',S2,n,c+j,fas',_,rfl,g5.ga,hn0,hn,by lia,g5.full,by lia,h5,tT,λz=>g5.nt h5 (ao _ z),λhng=>g5.next el' hng,λb S3 G6 src6 fr6 ga6 full6 grp6 hb=>?_⟩
  obtain⟨fas6,g6⟩:=g5.took fTj h5 tT src6 fr6 ga6 full6 grp6 hb
  rw[←nxr]at g6
  have s5':=s2.trans s25
  exact⟨S3,fas6,_,_,rfl,g6,fr6 _ _ hmF (s5' _ _ hmG),Paired.imp' (λb t e=>fr6 b _ (g5.nt e) e) (tmG.same s5'),fr6 _ _ (g5.nt (s5' _ _ hkG)) (s5' _ _ hkG)⟩
 ·rintro σ G ⟨S2,fas',v3,v4,rfl,gG,_,_,_⟩
  rw[aa,hml',bn]at gG
  exact q S2 fas' G gG
theorem zm4 {n:Nat}{S:ChS}(st:S.Set n):∃L:List (List Nat),L.Nodup/\(∀x,x∈L↔TM.Grp n (S.chn.mv 0) x)/\L.length=S.chn.many n n:=by
 have:=st.inv.ok.all n (ag n) λj _ hj=>st.inv.shut (st.done j hj)
 rwa [cq]at this
theorem i3.lean_facts {cG cC cB cS:Addr}{n:Nat}{H:Hp}{g:Addr}{us:List (List Nat)}{S:ChS}(ga:i3 cG cC cB cS n H g us S):(∀u∈S.lean0,TM.IsT n u)/\TM.Indep n S.lean0/\∀x,TM.Grp n (λz=>z∈S.lean0) x↔TM.Grp n (λz=>z∈us) x:=by
 have hmv:∀s,S.chn.mv 0 s↔s∈S.lean0:=λs=>⟨λ⟨k,hk,e⟩=>au.mpr ⟨k,hk,e⟩,λh=>by
  obtain⟨k,hk,e⟩:=au.mp h
  exact⟨k,hk,e⟩⟩
 refine⟨λu hu=>ga.st.inv.ok.mvT 0 u ((hmv u).mpr hu),ga.st.inv.ind 0,λx=>?_⟩
 rw[←show S.chn.mv 0=λz=>z∈S.lean0 from funext λs=>propext (hmv s)]
 exact ga.grp x
theorem P0.put {cW cC cB cS:Addr}{n:Nat}{H:Hp}{x fl b:Addr}{A:ChA}{S:ChS}{fas:List Addr}{u u':HO}(ga:P0 cW cC cB cS n H x fl A S fas)(hb:H b=some u)(hu:∀xs,u≠.tup xs)(hi:∀C dx fs,u≠.ins C dx fs)(hf:b∉fl::A.all):P0 cW cC cB cS n (upd H b u') x fl A S fas:=by
 obtain⟨dx,hx⟩:=ga.x'
 have fr:y1 [b] H (upd H b u'):=y1.upd y1.refl (by simp) _
 refine⟨⟨dx,fr.keep hx λz=>by rw[z,hb]at hx;exact hi _ _ _ (Option.some.inj hx)⟩,fr.keep ga.fl' λz=>hf (by rw[z];exact ax),ga.ch.keep fr λy hy=>?_,ga.xA,ga.flA,ga.st⟩
 rw[af.mp hy]
 exact⟨λz=>hf (ao _ z),λxs z=>by rw[hb]at z;exact hu xs (Option.some.inj z)⟩
theorem yr2 {n sz:Nat}:∀(gs hs:List (List (List Nat))) (f:List (List Nat)),TM.kpR n sz f (gs++hs)=TM.kpR n sz (TM.kpR n sz f gs) hs
 | [],_,_=>rfl
 | g::gs,hs,f=>yr2 gs hs _
def zh5 (cR cG cC cB cS:Addr)(n:Nat)(AH:Hp->Addr->Prop)(ok:List Nat->Prop)(mv:List Nat->List Nat->List Nat):Sp:=λvs H Q _=>∃(ts:List (List Nat)) (S:ChS) (H0:Hp) (x g a o wd bd:Addr) (es:List Ent) (ow:List Nat) (most:Nat) (ok2:List Nat->Prop),vs=[.ref x]/\c3 cR cG cC cB cS n AH ts S H0 H x g a o wd bd es/\zw2 n ts mv ow most es/\TM.Acts n ok2 mv/\(∀l,ok2 l->ok l)/\ok2 ow/\S.chn.many n n<8192/\es.length<=70 /\
 ∀(g':Addr) (us:List (List Nat)) (S':ChS) (H':Hp),y0 H H'->i3 cG cC cB cS n H' g' us S'->(∀y,TM.Grp n (λz=>z∈us) y↔TM.Keeps n ts mv ow y)->Q (.ref g') H'
theorem W9:y4 ["self","growth","size","thing"] ["self"] (z8 O9):=scq
theorem zk7 {cR cW cG cC cB cS cA:Addr}{n:Nat}{AH:Hp->Addr->Prop}{ok:List Nat->Prop}{mv:List Nat->List Nat->List Nat}(F:Fun K "keepers" "Ring.keepers" O9 f fd)(B:Blt mg)(cr:p4 K cR K3)(cg:p4 K cG Y6)(cw:p4 K cW zo9)(ap:yl8 cA n AH ok mv)(KW:zt6 P w K mg base 6 cW "Growth" ["self","many"] (yt2 cW cC cB cS))(MGS:l4 P w K mg base 2 cW "size" ["self"] (yt3 cW cC cB cS))(MGW:l4 P w K mg base 9 cW "whole" ["self"] (yt5 cW cG cC cB cS))(MS:l4 P w K mg base 2 cG "size" ["self"] (yd3 cG cC cB cS))(MP:l4 P w K mg base 8 cR "put_keepers" ["self","growth","thing"] (yu2 cR cW cG cC cB cS n AH ok mv)):u6 P w K mg base CX0 10 f fd ["self"] (zh5 cR cG cC cB cS n AH ok mv):=by
 refine F.ok W9 (λvs H Q E h=>?_) (λcdv Ar outer s H vs Q E hr h=>?_)
 ·obtain⟨ts,S,H0,x,g,a,o,wd,bd,es,ow,most,ok2,rfl,_⟩:=h
  rfl
 obtain⟨ts,S,H0,x,g,a,o,wd,bd,es,ow,most,ok2,rfl,ra,wh,ac,ok12,how,hsz,h70,q⟩:=h
 have hz:=p9
 apply O0
 ·apply y6
  ·exact DS.mk (y8 (i:=1) W9.nd rfl (Or.inl rfl) (J4 KW hr rfl (z0 (y3 (y3 (pv 0) rfl) rfl) z4)))
  apply y6
  ·exact DS.mk (y8 (i:=2) W9.nd rfl (Or.inl rfl) (c0 ze6 (X6 cg.cls MS hr (y3 (pv 0) rfl)) (w8 zi3 rfl B.len Z4 (z0 (y3 (pv 0) rfl) z4))))
  apply y6
  ·exact DS.mk (xk7 (X7 PassesOwn.never rfl (xf0 (y3 (pv 0) rfl)) (n8 (i:=3) W9.nd rfl (Or.inl rfl))
    (z6 (l8 (k8 yi8 (X6 cw.cls MGS hr (pv 1)) (pv 2) (n1 _)) (z6 (m7 (l7 cr.cls MP hr (pv 0) (z0 (pv 1) (z0 (pv 3) z4))))) u8))))
  exact⟨z6 (y9 (X6 cw.cls MGW hr (pv 1)))⟩
 have gg:=ra.ga.same ra.s
 have h0:=gg.n0
 have hn:=gg.n60
 have hU:=gg.tT
 obtain⟨hM,hMi,hMU⟩:=gg.lean_facts
 obtain⟨LU,nLU,mU0,lU⟩:=zm4 gg.st
 have mU:∀y,y∈LU↔TM.Grp n (λz=>z∈ts) y:=λy=>(mU0 y).trans (gg.grp y)
 have hMl:S.lean0.length<13:=TM.indep_log hM hMi hU (λt ht=>(hMU t).mp (TM.Grp.of hM ht)) mU (by rw[lU];exact hsz)
 have way:∀e∈es,TM.Grp n (λz=>z∈ts) e.b/\mv ow e.b=e.k/\ok2 e.k:=λe he=>(wh.w e he).fact ac how hU
 have okK:∀k∈es.map Ent.k,ok2 k:=λk hk=>by
  obtain⟨e,he,rfl⟩:=au.mp hk
  exact(way e he).2.2
 have clK:∀k∈es.map Ent.k,∀m,TM.Grp n (λz=>z∈ts) m->mv k m∈es.map Ent.k:=λk hk m hm=>TM.ring_cl ac how hU okK wh.cl hm k hk
 have nd:=ra.d.nd
 obtain⟨e0,he0,ek0,eb0⟩:=wh.first
 have R:TM.Rng n S.lean0 mv ow (es.map Ent.k) (D1 es):=by
  refine⟨nd,wh.own,by rw[←ek0,U0 nd he0,eb0],λk hk=>?_,λk hk=>?_,λk hk t ht=>clK k hk t ((hMU t).mp (TM.Grp.of hM ht))⟩
  ·obtain⟨e,he,rfl⟩:=au.mp hk
   rw[U0 nd he]
   exact(hMU _).mpr (way e he).1
  ·obtain⟨e,he,rfl⟩:=au.mp hk
   rw[U0 nd he]
   exact(way e he).2.1
 have keq:∀y,TM.Keeps n S.lean0 mv ow y↔TM.Keeps n ts mv ow y:=λy=>and_congr (hMU y) Iff.rfl
 have genK:∀e∈es,∀t∈X5 n mv es S e.k,TM.IsT n t/\TM.Keeps n S.lean0 mv ow t:=λe he t ht=>by
  obtain⟨m,hm,rfl⟩:=au.mp ht
  have:=TM.sgen_keeps ac how hM R (au.mpr ⟨e,he,rfl⟩) hm
  exact⟨this.1.isT hM,this⟩
 obtain⟨dx,hx⟩:=ra.x'
 obtain⟨dxg,ma,Ag,mas,hg1,_⟩:=gg.at'
 refine o5 λN hN=>⟨_,rfl,x,cR,dx,_,_,rfl,hx,cr.cls,cr.no "group" (by decide),rfl,g,cG,dxg,_,_,rfl,hg1,cg.cls,cg.no "many" (by decide),rfl,λgw dgw hgw hdgw hne=>⟨gw,dgw,n,rfl,z3,hn,λfl A H1 hfl0 hall0 fr1 ga1=>⟨rfl,hN _ _ ?_⟩⟩⟩
 clear hN N
 have old:∀{b:Addr} {u:HO},H b=some u->b≠gw/\b≠dgw:=λ{b u} h=>⟨z9 h hgw,z9 h hdgw⟩
 have s1:y0 H H1:=λb u h=>fr1 b u (by simpa using(old h).1) (by rw[z5 (old h).1,z5 (old h).2];exact h)
 have hnew:∀b∈fl::A.all,∀u,H b≠some u:=λb hb u h=>by
  have z:(upd (upd H dgw (.own gw)) gw (.ins cW dgw [])) b=none:=by
   rcases aw.mp hb with e|e
   ·rw[e];exact hfl0
   ·exact hall0 b e
  rw[z5 (old h).1,z5 (old h).2,h]at z
  cases z
 have ra1:=ra.same s1
 have gg1:=gg.same s1
 obtain⟨dxg1,ma1,Ag1,mas1,hg1',_⟩:=gg1.at'
 have ent0:0<es.length:=bL he0
 have lenD:(U3 (λe=>V.ref e.wa) es).length=es.length:=aa _
 refine o5 λN hN=>⟨_,rfl,x,cR,dx,_,_,rfl,s1 _ _ hx,cr.cls,cr.no "group" (by decide),rfl,g,dxg1,_,rfl,hg1',rfl,g,n,ts,S,rfl,gg1,_,rfl,x,cR,dx,_,_,rfl,s1 _ _ hx,cr.cls,cr.no "ways" (by decide),rfl,wd,_,rfl,ra1.d.w,_,_,rfl,rfl,⟨by rw[lenD];lia,by rw[lenD];lia⟩,hN _ _ ?_⟩
 clear hN N
 dsimp only
 rw[lenD,←Int.natCast_ediv]
 obtain⟨sz,esz⟩:∃sz,sz=S.chn.many n n / es.length:=⟨_,rfl⟩
 rw[←esz]
 obtain⟨FIN,hFIN⟩:∃FIN,FIN=TM.kpR n sz [] (es.map λe=>X5 n mv es S e.k):=⟨_,rfl⟩
 have many_f:∀{S1:ChS} {f:List (List Nat)},S1.Set n->(∀y,TM.Grp n (S1.chn.mv 0) y↔TM.Grp n (λz=>z∈f) y)->S1.chn.many n n=TM.gMany n (TM.Grp n λz=>z∈f) n:=λst hg=>st.inv.ok.many_g (λi hi=>st.inv.shut (st.done i hi)) hg n (ag _)
 refine o5 λN hN=>⟨wd,_,ra1.d.w,λob=>?_⟩
 obtain⟨kvs,ekvs⟩:∃kvs,kvs=U3 (λe=>V.ref e.wa) es:=⟨_,rfl⟩
 have hw1:H1 wd=some (.dT kvs):=by rw[ekvs];exact ra1.d.w
 have hwH:H wd=some (.dT kvs):=by rw[ekvs];exact ra.d.w
 rw[←ekvs]
 obtain⟨Hb,eHb⟩:∃Hb,Hb=upd H wd (.frz ob (.dT kvs)):=⟨_,rfl⟩
 have bw:Hb wd=some (.frz ob (.dT kvs)):=by rw[eHb];exact z3
 have bo:∀{b:Addr} {u:HO},b≠wd->H b=some u->Hb b=some u:=λ{b u} hb h=>by rw[eHb,z5 hb];exact h
 have bo':∀{b:Addr} {u:HO},b≠wd->Hb b=some u->H b=some u:=λ{b u} hb h=>by rw[eHb,z5 hb]at h;exact h
 have sb0:y0 H0 Hb:=λb u h=>bo (λz=>by rw[z,ra.w0]at h;cases h) (ra.s _ _ h)
 have kp:KpB cR cG cC cB cS n AH ok mv Hb x g a o wd bd ts S es:=⟨⟨dx,bo (λz=>by rw[z,hwH]at hx;cases hx) hx⟩,ra.ga.same sb0,ap.same ra.ac sb0,bo (Ne.symm ra.d.ne) ra.d.b,nd,λe he=>⟨bo (ra.d.tup (ra.d.at' e he).2.1).1 (ra.d.at' e he).2.1,(way e he).1.isT hU,ok12 _ (way e he).2.2⟩,λe he m hm=>clK _ (au.mpr ⟨e,he,rfl⟩) m ((hMU m).mp (TM.Grp.of hM hm))⟩
 have wF:wd∉fl::A.all:=λz=>hnew wd z _ hwH
 have g0:GwS cW cC cB cS n Hb (upd H1 wd (.frz ob (.dT kvs))) gw fl A (ChS.new n λj=>FIN.getD j []) [] [] FIN 1:=by
  refine⟨λb u h=>?_,λb hb u h=>?_,(ga1 _).put hw1 (λ_ z=>by cases z) (λ_ _ _ z=>by cases z) wF,.nil,⟨by show 1<=_;lia,by show 1<=_;lia⟩,rfl,λy=>?_,aP _⟩
  ·by_cases e:b=wd
   ·rw[e,bw]at h
    rw[e,z3]
    exact h
   ·rw[z5 e]
    exact s1 _ _ (bo' e h)
  ·have e:b≠wd:=λz=>wF (z ▸ hb)
   exact hnew b hb u (bo' e h)
  ·have hno:∀s,(ChS.new n (λj=>FIN.getD j [])).chn.mv 0 s↔s∈([]:List (List Nat)):=λs=>⟨λh=>absurd h (ChS.new_nomv n 0 s),λh=>by cases h⟩
   rw[show(ChS.new n (λj=>FIN.getD j [])).chn.mv 0=λz=>z∈([]:List (List Nat)) from funext λs=>propext (hno s)]
 generalize upd H1 wd (.frz ob (.dT kvs))=G0 at g0 ⊢
 obtain⟨F,hF⟩:∃F:Nat->List (List Nat),F=λi=>TM.kpR n sz [] ((es.take i).map λe=>X5 n mv es S e.k):=⟨_,rfl⟩
 have Fi:∀i,F i=TM.kpR n sz [] ((es.take i).map λe=>X5 n mv es S e.k):=λi=>by rw[hF]
 obtain⟨dx0,hx0⟩:=kp.x'
 refine⟨_,rfl,x,cR,dx0,_,_,rfl,g0.s _ _ hx0,cr.cls,cr.no "ways" (by decide),rfl,wd,ob,kvs,rfl,g0.s _ _ bw,yw5 (kvs:=kvs) (λi σ G=>∃(S1:ChS) (fas:List Addr) (c:Nat) (v3:Option V),σ=[some (.ref x),some (.ref gw),some (.int ((sz:Nat):Int)),v3]/\GwS cW cC cB cS n Hb G gw fl A S1 fas (F i) FIN c/\c<=1+i*12/\TM.Tkn n (TM.Keeps n S.lean0 mv ow) (F i)/\(¬TM.gMany n (TM.Grp n λz=>z∈F i) n<sz∨∀g∈(es.take i).map (λe=>X5 n mv es S e.k),∀t∈g,TM.Grp n (λz=>z∈F i) t))
  ⟨_,[],1,none,rfl,by rw[Fi];exact g0,ag _,by rw[Fi];exact⟨λt h=>(by cases h),λt h=>(by cases h),λi s h=>(by cases h)⟩,.inr λg hg=>(by cases hg)⟩ (λi σ G _ ⟨_,_,_,_,_,gG,_⟩=>gG.s _ _ bw) ?_ ?_⟩
 ·rintro i k v b σ G hk ⟨S1,fas,c,v3,rfl,gG,hc,tk,hj⟩ hb
  rw[ekvs]at hk
  obtain⟨e,he,ee⟩:∃e,es[i]?=some e/\(kT e.k,V.ref e.wa)=(k,v):=by
   unfold U3 at hk
   rw[ah]at hk
   cases h:es[i]? with
   | none=>rw[h]at hk;cases hk
   | some e=>rw[h]at hk;exact⟨e,rfl,Option.some.inj hk⟩
  have mem:=av he
  have hi:i<es.length:=(al.mp he).1
  obtain⟨rfl,rfl⟩:=Prod.mk.inj ee
  have hb':G b=some (.tup (tI e.k)):=by rw[←S6];exact hb
  have nx:(es.take (i+1)).map (λe=>X5 n mv es S e.k)=(es.take i).map (λe=>X5 n mv es S e.k)++[X5 n mv es S e.k]:=by
   rw[bc,he,aG]
   rfl
  have nf:F (i+1)=if TM.gMany n (TM.Grp n λz=>z∈F i) n<sz then TM.tkR n (F i) (X5 n mv es S e.k) else F i:=by rw[Fi,nx,TM.kpR_snoc,←Fi]
  obtain⟨l,el⟩:∃l,FIN=F (i+1)++l:=by
   have e1:es.map (λe=>X5 n mv es S e.k)=(es.take (i+1)).map (λe=>X5 n mv es S e.k)++(es.drop (i+1)).map (λe=>X5 n mv es S e.k):=by
    rw[←aG,bO]
   obtain⟨l2,e2⟩:=TM.kpR_pre (n:=n) (size:=sz) ((es.drop (i+1)).map λe=>X5 n mv es S e.k) (F (i+1))
   exact⟨l2,by rw[←e2,hFIN,e1,yr2,←Fi]⟩
  obtain⟨tk',hj'⟩:=tk.step (genK e mem) hj _ nf
  rw[←nx]at hj'
  have mf:=many_f gG.ga.st gG.grp
  obtain⟨dxw,hxw⟩:=gG.ga.x'
  dsimp only[U4]
  refine⟨_,rfl,gw,dxw,_,rfl,hxw,rfl,gw,fl,A,S1,n,fas,rfl,gG.ga,hn,?_⟩
  refine⟨_,rfl,_,_,rfl,rfl,_,rfl,?_⟩
  show if decide _=true then _ else _
  rw[mf]
  by_cases hlt:TM.gMany n (TM.Grp n λz=>z∈F i) n<sz
  ·rw[decide_eq_true (by exact_mod_cast hlt)]
   refine Z1 ?_
   rw[if_pos hlt]at nf
   have kx:=gG.s _ _ hx0
   have hc2:c+S.lean0.length<1000:=by lia
   refine⟨_,rfl,x,dx0,_,rfl,kx,rfl,_,rfl,_,rfl,Hb,ts,S,x,g,a,o,wd,bd,gw,fl,b,A,S1,fas,F i,FIN,l,c,es,e,rfl,kp,mem,hb',gG,tk.T,hc2,by rw[←nf];exact el,λS2 fas' G' gG'=>?_⟩
   rw[←nf]at gG'
   exact⟨S2,fas',_,_,rfl,gG',by lia,tk',hj'⟩
  ·rw[decide_eq_false (by exact_mod_cast hlt)]
   refine i9 ?_
   rw[if_neg hlt]at nf
   have gG':=gG
   rw[←nf]at gG'
   exact⟨S1,fas,c,_,rfl,gG',by lia,tk',hj'⟩
 ·rintro σ G ⟨S1,fas,c,v3,rfl,gG,hc,tk,hj⟩
  rw[ekvs,lenD]at gG hc tk hj
  have eF:FIN=F es.length:=by rw[Fi,bn];exact hFIN
  have gw':=gG.s _ _ bw
  have sT:y0 H (upd G wd (.dT kvs)):=λb u h=>by
   by_cases e:b=wd
   ·rw[e,z3]
    rw[e,hwH]at h
    exact h
   ·rw[z5 e]
    exact gG.s _ _ (bo e h)
  have wF':wd∉fl::A.all:=wF
  have gaT:P0 cW cC cB cS n (upd G wd (.dT kvs)) gw fl A S1 fas:=gG.ga.put gw' (λ_ z=>by cases z) (λ_ _ _ z=>by cases z) wF'
  have tsT:i7 (upd G wd (.dT kvs)) fas (F es.length):=Paired.imp' (λb t e=>by rw[z5 λz=>by rw[z,gw']at e;cases e];exact e) gG.ts
  have inU:∀t∈F es.length,TM.Grp n (λz=>z∈ts) t:=λt ht=>(hMU t).mp (tk.p t ht).1
  have fl13:(F es.length).length<13:=TM.indep_log tk.T tk.ind hU inU mU (by rw[lU];exact hsz)
  obtain⟨dxw,hxw⟩:=gaT.x'
  have q1:=gG.full.ln
  have q2:=gG.ga.st.inv.looks_le hn
  refine⟨gw',hN _ _ ?_⟩
  clear hN N
  refine⟨_,rfl,gw,dxw,_,rfl,hxw,rfl,gw,fl,A,S1,n,fas,F es.length,rfl,gaT,h0,hn,tsT,by lia,tk.T,gG.grp,by rw[gG.src,eF],by lia,λg' H' s' gg'=>q g' _ S1 H' (sT.trans s') gg' λy=>⟨λhy=>(keq y).mp (TM.keeps_grp ac how hM tk.p hy),λhy=>?_⟩⟩
  have hy':=(keq y).mpr hy
  rcases hj with h|h
  ·obtain⟨LF,nF,mF0,lF⟩:=zm4 gG.ga.st
   have mf:=many_f gG.ga.st gG.grp
   refine TM.keeps_full ac how hM R tk.p nF (λx=>(mF0 x).trans (gG.grp x)) nLU (λx=>(mU x).trans (hMU x).symm) ?_ hy'
   rw[lU,lF,aa,←esz,mf]
   lia
  ·refine TM.sgen_all ac how hM R tk.T (λk hk t ht=>?_) hy'
   obtain⟨e,he,rfl⟩:=au.mp hk
   exact h _ (au.mpr ⟨e,by rw[bn];exact he,rfl⟩) _ (au.mpr ⟨t,ht,rfl⟩)
def xi1 (P:fR)(w:fW)(K:W.Frag)(mg:Str->Option Value)(base:Heap)(k:Nat)(C:Addr)(x:Str)(ps:List Str)(dvs:List V)(sp:Sp):Prop :=
 ∃f fd ds,u6 P w K mg base CX0 k f fd ps sp/\Mk K C f/\mg x=some (.ref C)/\V5 K fd ps ds/\p8 dvs ds
theorem xk6 {X:Cx}{k j:Nat}{C:Addr}{x:Str}{ps:List Str}{dvs:List V}{sp:Sp}{e:Expr}{es:List Expr}{t:TA}{p pos:Pos}(kn:xi1 X.prog X.w X.K X.mg X.base k C x ps dvs sp)(hr:Y3 j X.A)(hg:Gl X x)(ha:PA X (e::es) t)(hj:k+1<=j:=by decide)(hdb:(x==("__debug__":Str))=false:=by decide)
  (he:fU (e::es) X.env=(false,eval e X.env)::fU es X.env:=by rfl) (hpl:(backTo pos (fU es X.env)).any (·.1)=false:=by rfl):PE X (.Call (.Name x p) (e::es) [] pos) (xh3 C sp dvs E0 t):=by
 obtain⟨f,fd,ds,G,hM,hm,hb,hd⟩:=kn
 exact ys0 hM G (hr.mono hj) hg hm hb hd zx6 ha hdb he hpl
def yd7 (cR cG cC cB cS:Addr)(n:Nat)(AH:Hp->Addr->Prop)(LK:Hp->V->Option (List Nat)->Prop)(ok:List Nat->Prop)(mv:List Nat->List Nat->List Nat):Sp:=λvs H Q _=>∃(ts:List (List Nat)) (S:ChS) (H0:Hp) (x dx g a:Addr) (v:V) (most:Nat) (ow:List Nat),
 vs=[.ref x,.ref g,.ref a,v,.int most]/\H x=some (.ins cR dx [])/\yz9 cG cC cB cS n ts S H0 H x g/\most<1000000/\AH H0 a/\LK H0 v (some ow)/\ok ow/\(∀L:List (List Nat),L.Nodup->(∀k∈L,TM.Rch n ts mv ow k)->L.length<=most) /\
 ∀(o wd bd:Addr) (es:List Ent) (H':Hp),y1 [x] H H'->c3 cR cG cC cB cS n AH ts S H0 H' x g a o wd bd es->H' o=some (.tup (tI ow))->zw2 n ts mv ow most es->Q .non H'
theorem yy4 {cR cG cC cB cS cA X X1:Addr}{n:Nat}{AH:Hp->Addr->Prop}{LK:Hp->V->Option (List Nat)->Prop}{ok:List Nat->Prop}{mv:List Nat->List Nat->List Nat}(k:ye6 P w K mg base cR (yu3 cR cG cC cB cS cA X X1 n AH LK ok mv)):xi1 P w K mg base 8 cR "Ring" ["self","group","act","thing","most"] [.int 1000] (yd7 cR cG cC cB cS n AH LK ok mv):=by
 obtain⟨f,fd,ds,F,r⟩:=k.four
 refine⟨f,fd,ds,F.calm.imp λvs H Q E ⟨ts,S,H0,x,dx,g,a,v,most,ow,e,h1,h2,h3,h4,h5,h6,h7,q⟩=>⟨ts,S,H0,x,dx,g,a,v,most,e,h1,h2,h3,h4,some ow,h5,λl hl=>(by cases hl;exact h6),λz=>(by cases z),λow' e'=>?_⟩,r⟩
 cases e'
 refine⟨q,λH' s' ov=>?_⟩
 obtain⟨L,l1,l2,l3⟩:=ov
 exact absurd (h7 L l1 l2) (by lia)
def yk6 (K:W.Frag):Sp:=λvs H Q _=>∃(a:Addr) (ns:List Int) (k:Nat),vs=[.ref a,.int k]/\SqL K H a (ns.map V.int)/\Q (.int (ns.getD k 0)) H
theorem yc9:y4 ["_law_script","_law_k"] ["_law_script","_law_k"] (z8 B9):=scq
theorem yb1 (D:Def K mg "_law_cell" B9 ["_law_script","_law_k"] f fd)(B:Blt mg):u6 P w K mg base CX0 1 f fd ["_law_script","_law_k"] (yk6 K):=by
 refine D.F.ok yc9 (λvs H Q E h=>?_) (λcdv A outer s H vs Q E hr h=>?_)
 ·obtain⟨a,ns,k,rfl,_⟩:=h
  rfl
 obtain⟨a,ns,k,rfl,hS,q⟩:=h
 refine⟨_,z7 (l8 (k8 yi8 (pv 1) (w8 p0 rfl B.len Z4 (z0 (pv 0) z4)) (n1 _)) (z6 (y9 (d9 l9 (pv 0) (pv 1) (λ_ _=>rfl)))) u8) (z6 (y9 x9)),?_⟩
 refine⟨_,rfl,_,rfl,a,_,rfl,.inl hS,_,_,rfl,rfl,_,rfl,?_⟩
 refine yx1 (λc=>?_) (λc=>?_)
 ·have c':(k:Int)<(((ns.map V.int).length:Nat):Int):=of_decide_eq_true c
  rw[aa]at c'
  have hk:k<ns.length:=by lia
  have e:ns.getD k 0=ns[k]:=by rw[ay,ae hk];rfl
  rw[e]at q
  exact⟨_,rfl,_,rfl,a,_,_,_,rfl,rfl,hS,d0 (by rw[ah,ae hk];rfl),q⟩
 ·have c':¬(k:Int)<(((ns.map V.int).length:Nat):Int):=of_decide_eq_false (cX.mpr c)
  rw[aa]at c'
  have e:ns.getD k 0=0:=by rw[ay,aS (by lia)];rfl
  rw[e]at q
  exact q
def yl1:Sp:=λvs H Q _=>∃i:Int,vs=[.int i]/\Q (.bl true) H
theorem zv7:y4 ["_law_found"] ["_law_found"] (z8 E2):=scq
theorem zv0 (D:Def K mg "_law_whole" E2 ["_law_found"] f fd)(B:Blt mg):u6 P w K mg base CX0 1 f fd ["_law_found"] yl1:=by
 refine D.F.ok zv7 (λvs H Q E h=>?_) (λcdv A outer s H vs Q E hr h=>?_)
 ·obtain⟨i,rfl,_⟩:=h
  rfl
 obtain⟨i,rfl,q⟩:=h
 refine⟨_,z6 (y9 (C7 (w8 Z2 rfl B.isinstance i5 (z0 (pv 0) (z0 (M5 (v:=.ty "int") rfl B.int xa5 rfl) z4)))
  (zb7 (xe7 (w8 Z2 rfl B.isinstance i5 (z0 (pv 0) (z0 (M5 (v:=.ty "bool") rfl B.bool zy8 rfl) z4))))))),?_⟩
 refine⟨_,rfl,_,_,_,_,rfl,K0.int i,J3 yn3,_,rfl,Z1 ?_⟩
 exact⟨_,rfl,_,_,_,_,rfl,K0.int i,J3 yh2,_,rfl,q⟩
def yb6 (c:Int)(n:Nat):Nat->Int×List Nat×List Nat
 | 0=>(c,[],List.range n)
 | i+1=>((yb6 c n i).1 / ((n:Int)-(i:Int)),(yb6 c n i).2.1++[(yb6 c n i).2.2.getD ((yb6 c n i).1 % ((n:Int)-(i:Int))).toNat 0],(yb6 c n i).2.2.eraseIdx ((yb6 c n i).1 % ((n:Int)-(i:Int))).toNat)
def xu4 (c:Int)(n:Nat):List Nat:=(yb6 c n n).2.1
def zh7:Sp:=λvs H Q _=>∃(c:Int) (n:Nat),vs=[.int c,.int n]/\n<=100/\∀(r:Addr) (H':Hp) (row:List Nat),H r=none->y0 H H'->TM.IsT n row->row=xu4 c n->H' r=some (.lst (tI row))->Q (.ref r) H'
theorem Y1:y4 ["_law_number","_law_many","_law_left","_law_made","_law_k","_law_at"] ["_law_number","_law_many"] (z8 F9):=scq
theorem zu9 (D:Def K mg "_law_order" F9 ["_law_number","_law_many"] f fd)(B:Blt mg):u6 P w K mg base CX0 1 f fd ["_law_number","_law_many"] zh7:=by
 refine D.F.ok Y1 (λvs H Q E h=>?_) (λcdv A outer s H vs Q E hr h=>?_)
 ·obtain⟨c,n,rfl,_⟩:=h
  rfl
 obtain⟨c,n,rfl,hn,q⟩:=h
 refine⟨_,z7 (y8 (i:=2) Y1.nd rfl (Or.inl rfl) (t9 (M8 rfl) rfl B.list M4 (z0 (t9 T8 rfl B.range O2 (z0 (pv 1) z4)) z4)))
  (z7 (y8 (i:=3) Y1.nd rfl (Or.inl rfl) (U7 z4))
  (z7 (X7 PassesOwn.never rfl (A7 rfl B.range (z0 (pv 1) z4)) (n8 (i:=4) Y1.nd rfl (Or.inl rfl))
   (z7 (yo1 (w8 yf0 rfl B.divmod yv5 (z0 (pv 0) (z0 (c0 yb5 (pv 1) (pv 4)) z4))) (zq8 rfl (W2 (n8 (i:=0) Y1.nd rfl (Or.inl rfl)) (W2 (n8 (i:=5) Y1.nd rfl (Or.inl rfl)) ze7))))
   (z6 (m7 (E7 PySem.F.plainAttrs_list PySem.F.slot_list_append PySem.F.type_list_append Y0 (pv 3) (z0 (E7 PySem.F.plainAttrs_list PySem.F.slot_list_pop PySem.F.type_list_pop xd5 (pv 2) (z0 (pv 5) z4)) z4))))))
  (z6 (y9 (pv 3))))),?_⟩
 refine⟨_,rfl,_,rfl,λp hp=>⟨p,0,(n:Int),rfl,z3,⟨by lia,by lia,by lia,by lia,by lia⟩,λl hl=>?_⟩⟩
 rw[show((n:Int)-0).toNat=n by lia,N6]
 have pl:p≠l:=z9 z3 hl
 have hl0:H l=none:=by
  have:=hl
  rwa [z5 (Ne.symm pl)]at this
 have s1:y0 H (upd (upd H p (.rng 0 (n:Int))) l (.lst (tI (List.range n)))):=p5 (y2 hp _) hl0 _
 have el:(upd (upd H p (.rng 0 (n:Int))) l (.lst (tI (List.range n)))) l=some (.lst (tI (List.range n))):=z3
 generalize upd (upd H p (.rng 0 (n:Int))) l (.lst (tI (List.range n)))=H1 at s1 el ⊢
 refine⟨(by show 0<=fQ;decide),λr hr'=>?_⟩
 have lr:l≠r:=z9 el hr'
 have hr0:H r=none:=s1.free hr'
 refine⟨_,rfl,_,rfl,by lia,by lia,yw6 (n:=((n:Nat):Int).toNat) (λi σ H2=>∃(nu:Int) (row left:List Nat) (v6 v7:Option V),σ=[some (.int nu),some (.int n),some (.ref l),some (.ref r),v6,v7]/\y0 H H2/\H2 l=some (.lst (tI left))/\H2 r=some (.lst (tI row))/\TM.IsT n (row++left)/\left.length+i=n/\yb6 c n i=(nu,row,left))
  ⟨_,[],List.range n,none,none,rfl,s1.trans (y2 hr' _),by rw[z5 lr];exact el,z3,TM.IsT.range n,by rw[aN];rfl,rfl⟩ ?_ ?_⟩
 ·rintro i σ H2 hi ⟨nu,row,left,v6,v7,rfl,s2,hl2,hr2,hT,hlen,hos⟩
  have hi':i<n:=by lia
  have e0:(0:Int)+(i:Int)=((i:Nat):Int):=by lia
  rw[e0]
  have hsz:(0:Int)<(n:Int)-(i:Int):=by lia
  obtain⟨k,ek,hk⟩:∃k:Nat,nu % ((n:Int)-(i:Int))=(k:Int)/\k<left.length:=by
   have h1:=cK nu (show(n:Int)-(i:Int)≠0 by lia)
   have h2:=dS nu hsz
   exact⟨(nu % ((n:Int)-(i:Int))).toNat,by lia,by lia⟩
  have hx:left[k]?=some left[k]:=ae hk
  have hrl:row.length<=n:=by
   have:=hT.length
   rw[aq]at this
   lia
  refine⟨_,rfl,_,rfl,_,rfl,_,_,rfl,rfl,_,_,rfl,⟨hsz,by lia⟩,λtp htp=>?_⟩
  have hlt:l≠tp:=z9 hl2 htp
  have hrt:r≠tp:=z9 hr2 htp
  refine⟨tp,_,rfl,SqT.of z3,rfl,_,_,rfl,_,_,rfl,rfl,?_⟩
  have s3:=s2.trans (y2 htp (.tup [V.int (nu / ((n:Int)-(i:Int))),V.int (nu % ((n:Int)-(i:Int)))]))
  have hl3:(upd H2 tp (.tup [V.int (nu / ((n:Int)-(i:Int))),V.int (nu % ((n:Int)-(i:Int)))])) l=some (.lst (tI left)):=by rw[z5 hlt];exact hl2
  have hr3:(upd H2 tp (.tup [V.int (nu / ((n:Int)-(i:Int))),V.int (nu % ((n:Int)-(i:Int)))])) r=some (.lst (tI row)):=by rw[z5 hrt];exact hr2
  generalize upd H2 tp (.tup [V.int (nu / ((n:Int)-(i:Int))),V.int (nu % ((n:Int)-(i:Int)))])=H3 at s3 hl3 hr3 ⊢
  rw[ek]
  refine⟨_,rfl,.inl ⟨rfl,_,SqL.of hr3⟩,_,rfl,.inl ⟨rfl,_,SqL.of hl3⟩,_,rfl,l,_,_,k,V.int (left[k]:Int),rfl,rfl,hl3,by lia,by lia,by rw[v0];exact xl6 hk,xn4 hx,r,tI row,_,rfl,rfl,?_,?_,?_⟩
  ·rw[z5 (Ne.symm lr)]
   exact hr3
  ·rw[v0]
   exact zy2 (by lia)
  refine⟨_,row++[left[k]],left.eraseIdx k,_,_,rfl,p5 (p5 s3 hl0 _) hr0 _,?_,?_,TM.draw_perm hT hx,?_,?_⟩
  ·rw[z5 lr,z3,yl2]
  ·rw[z3,K8]
   rfl
  ·rw[List.length_eraseIdx_of_lt hk]
   lia
  ·rw[yb6,hos]
   dsimp only
   rw[ek,bY,ay,hx]
   rfl
 ·rintro σ H2 ⟨nu,row,left,v6,v7,rfl,s2,hl2,hr2,hT,hlen,hos⟩
  have e:left=[]:=cM.mp (by lia)
  subst e
  rw[be]at hT
  have hn':((n:Nat):Int).toNat=n:=by lia
  rw[hn']at hos
  exact⟨_,rfl,q r H2 row hr0 s2 hT (by unfold xu4;rw[hos]) hr2⟩
def zy3:Sp:=λvs H Q _=>∃(c:Int) (wa:Addr) (n:Nat) (W:List Nat),vs=[.int c,.ref wa,.int n]/\H wa=some (.lst (tI W))/\W.Nodup/\(∀x∈W,x<n)/\W.length<=60/\n<=60 /\
 ∀(r:Addr) (H':Hp) (t:List Nat),H r=none->y0 H H'->TM.IsT n t->TM.Only n W t->H' r=some (.tup (tI t))->Q (.ref r) H'
theorem Q5:y4 ["_law_cell_here","_law_window","_law_many","_law_made","_law_k","_law_to"] ["_law_cell_here","_law_window","_law_many"] (z8 F7):=scq
theorem zu8 (D:Def K mg "_law_maker" F7 ["_law_cell_here","_law_window","_law_many"] f fd)(B:Blt mg)(KO:o7 P w K mg base 1 "_law_order" ["_law_number","_law_many"] zh7):u6 P w K mg base CX0 2 f fd ["_law_cell_here","_law_window","_law_many"] zy3:=by
 refine D.F.ok Q5 (λvs H Q E h=>?_) (λcdv A outer s H vs Q E hr h=>?_)
 ·obtain⟨c,wa,n,W,rfl,_⟩:=h
  rfl
 obtain⟨c,wa,n,W,rfl,hwa,hW,hlt,hWl,hn,q⟩:=h
 refine⟨_,z7 (y8 (i:=3) Q5.nd rfl (Or.inl rfl) (t9 (M8 rfl) rfl B.list M4 (z0 (t9 T8 rfl B.range O2 (z0 (pv 2) z4)) z4)))
  (z7 (X7 PassesOwn.never rfl (yj1 rfl B.enumerate (z0 (q9 KO hr rfl (z0 (pv 0) (z0 (w8 p0 rfl B.len Z4 (z0 (pv 1) z4)) z4))) z4)) (zq8 rfl (W2 (n8 (i:=4) Q5.nd rfl (Or.inl rfl)) (W2 (n8 (i:=5) Q5.nd rfl (Or.inl rfl)) ze7)))
   (z6 (yo1 (d9 l9 (pv 1) (pv 5) (λ_ _=>rfl)) (xe8 (pv 3) (d9 l9 (pv 1) (pv 4) (λ_ _=>rfl)) yk1))))
  (z6 (y9 (t9 h8 rfl B.tuple c5 (z0 (pv 3) z4))))),?_⟩
 refine⟨_,rfl,_,rfl,λp hp=>⟨p,0,(n:Int),rfl,z3,⟨by lia,by lia,by lia,by lia,by lia⟩,λl hl=>?_⟩⟩
 rw[show((n:Int)-0).toNat=n by lia,N6]
 have pl:p≠l:=z9 z3 hl
 have hl0:H l=none:=by
  have:=hl
  rwa [z5 (Ne.symm pl)]at this
 have s1:y0 H (upd (upd H p (.rng 0 (n:Int))) l (.lst (tI (List.range n)))):=p5 (y2 hp _) hl0 _
 have el:(upd (upd H p (.rng 0 (n:Int))) l (.lst (tI (List.range n)))) l=some (.lst (tI (List.range n))):=z3
 generalize upd (upd H p (.rng 0 (n:Int))) l (.lst (tI (List.range n)))=H1 at s1 el ⊢
 refine⟨_,rfl,_,rfl,wa,_,rfl,.inl (SqL.of (s1 _ _ hwa)),c,(tI W).length,rfl,by rw[v0];lia,λr H2 row hr2 s2 hrow _ hr2'=>?_⟩
 rw[v0]at hrow
 have rl:r≠l:=λz=>by subst z;rw[el]at hr2;cases hr2
 have S2:=s1.trans s2
 refine⟨r,rfl,⟨_,SqL.of hr2'⟩,zd5 (xs:=tI row) (λi σ H3=>∃(g:List Nat) (v4 v5:Option V),σ=[some (.int c),some (.ref wa),some (.int n),some (.ref l),v4,v5]/\y0 H H3/\H3 r=some (.lst (tI row))/\H3 l=some (.lst (tI g))/\TM.Sprd n W row i g)
  ⟨List.range n,none,none,rfl,S2,hr2',s2 _ _ el,TM.Sprd.start⟩ (λi σ H3 _ ⟨_,_,_,_,_,h3,_⟩=>SqL.of h3) ?_ ?_⟩
 ·rintro i x σ H3 T hx ⟨g,v4,v5,rfl,s3,h3,h3l,sp⟩ hT3
  obtain⟨y,hy,rfl⟩:=M6 hx
  have hi:i<W.length:=by rw[←hrow.length];exact(al.mp hy).1
  have hWi:W[i]?=some W[i]:=ae hi
  have hyl:y<W.length:=hrow.get_lt hy
  have hWy:W[y]?=some W[y]:=ae hyl
  have ey:row.getD i 0=y:=TM.getD_of hy
  have ew:W.getD (row.getD i 0) 0=W[y]:=by rw[ey];exact TM.getD_of hWy
  have s4:=y2 hT3 (.tup [V.int ((i:Nat):Int),V.int ((y:Nat):Int)])
  refine⟨T,_,rfl,SqT.of z3,rfl,_,_,rfl,_,_,rfl,rfl,?_⟩
  generalize upd H3 T (.tup [V.int ((i:Nat):Int),V.int ((y:Nat):Int)])=H4 at s4 ⊢
  have w4:=s4 _ _ (s3 _ _ hwa)
  have hgl:W[i]<g.length:=by rw[sp.len];exact hlt _ (bR hi)
  refine⟨_,rfl,_,rfl,wa,_,_,_,rfl,rfl,SqL.of w4,zk0 hWy,_,rfl,_,rfl,_,rfl,wa,_,_,_,rfl,rfl,SqL.of w4,zk0 hWi,l,tI g,_,W[i],rfl,rfl,s4 _ _ h3l,by rw[v0];exact zz5 hgl,?_⟩
  have st:=sp.step hW hlt hWi
  rw[ew]at st
  refine⟨g.set W[i] W[y],_,_,rfl,p5 (s3.trans s4) hl0 _,by rw[z5 rl];exact s4 _ _ h3,by rw[z3,yp0],st⟩
 ·rintro σ H3 ⟨g,v4,v5,rfl,s3,h3,h3l,sp⟩
  rw[v0,hrow.length]at sp
  obtain⟨gT,gO⟩:=sp.done hW hlt hrow
  exact⟨_,rfl,l,_,rfl,.inl ⟨SqL.of h3l,λtp htp=>q tp _ g (s3.free htp) (s3.trans (y2 htp _)) gT gO z3⟩⟩
def O1 (K:W.Frag):Sp:=λvs H Q _=>∃(a b:Addr) (one other:List Nat),vs=[.ref a,.ref b]/\SqT K H a (tI one)/\SqT K H b (tI other)/\one.length<=1000/\(∀x∈one,x<other.length) /\
 ∀(r:Addr) (H':Hp),H r=none->y0 H H'->H' r=some (.tup (tI (one.map λx=>other.getD x 0)))->Q (.ref r) H'
theorem zs0:y4 ["_law_one","_law_other"] ["_law_one","_law_other"] (z8 L7):=scq
theorem zq4 (D:Def K mg "_law_behind" L7 ["_law_one","_law_other"] f fd)(B:Blt mg):u6 P w K mg base CX0 1 f fd ["_law_one","_law_other"] (O1 K):=by
 refine D.F.ok zs0 (λvs H Q E h=>?_) (λcdv A outer s H vs Q E hr h=>?_)
 ·obtain⟨a,b,one,other,rfl,_⟩:=h
  rfl
 obtain⟨a,b,one,other,rfl,ha,hb,hl,hlt,q⟩:=h
 refine⟨_,z6 (y9 (t9 h8 rfl B.tuple c5 (z0 (c7 [1] ["_law_to","_law_other"] rfl (yb9 (pv 0)) (λ_ _ _ _=>d9 C1 (pv 1) (pv 0) (λ_ _=>rfl))) z4))),?_⟩
 refine⟨_,rfl,a,rfl,⟨_,ha⟩,zd2 ha (tI (one.map λx=>other.getD x 0)) (by rw[v0,v0,aa]) (by rw[v0];exact small hl) ?_ ?_⟩
 ·intro i H1 x hx s1 _ _ _ _
  obtain⟨p,hp,rfl⟩:=M6 hx
  have hpl:p<other.length:=hlt p (av hp)
  have hg:other[p]?=some other[p]:=ae hpl
  refine⟨_,rfl,_,rfl,b,_,_,_,rfl,rfl,s1.seqT hb,zk0 hg,y0.refl _,?_⟩
  rw[ye0,ah,hp]
  simp[ay,hg]
 ·intro Dl H1 hD s1 hl1
  exact⟨Dl,_,rfl,.inl ⟨SqL.of hl1,λl hl2=>q l _ (s1.free hl2) (p5 s1 (s1.free hl2) _) z3⟩⟩
theorem zc9 {H:Hp}:∀(bs:List (Addr×List Nat)),(∀b∈bs,H b.1=some (.tup (tI b.2)))->i7 H (bs.map Prod.fst) (bs.map Prod.snd)
 | [],_=>.nil
 | b::bs,h=>.cons (h b ax) (zc9 bs λc hc=>h c (ao _ hc))
theorem zi4 {m:Nat}{fr:List Nat}{te:CT TE}{σ:St}{H1:Hp}{Q:Addr->Hp->Prop}(Pr:List Nat->Prop)(hz:m<=fQ)
  (turn:∀(i:Nat) (H:Hp),i<m->y0 H1 H->∀C₀ s₀ H₀ fp,te C₀ s₀ H₀ fp (some (V.int ((0:Int)+(i:Int)))::fr.map λj=>(σ[j]?).getD none) H λv H4=>y0 H H4/\∃b:Addr×List Nat,v=.ref b.1/\(H4 b.1=some (.tup (tI b.2))/\Pr b.2)/\[b.1].Nodup/\∀a∈[b.1],H a=none/\∃o,H4 a=some o)
  (fin:∀(D:Addr) (H:Hp) (as:List Addr) (us:List (List Nat)),H1 D=none->y0 H1 H->H D=some (.lst (as.map V.ref))->i7 H as us->us.length=m->(∀u∈us,Pr u)->Q D H) :
  ∀D,H1 D=none->∃W:Nat->Nat->St->Hp->Prop,(∃m,W 0 m (N5 1 fr σ) (upd H1 D (.lst [])))/\∀i m' σ' H',W i m' σ' H'->((Itr 0 m).stop i H'/\Q D H')∨((Itr 0 m).go i H'/\∀x H2,(Itr 0 m).yld i H' x H2->∀C₀ s₀ H₀ fp,U4 0 x σ' H2 λσ3 H3=>∃N:VK,te C₀ s₀ H₀ fp σ3 H3 N/\∀y H4,N y H4 ->
   ∃ys m'',H4 D=some (.lst ys)/\ys.length<fQ/\m''<m'/\W (i+1) m'' σ3 (upd H4 D (.lst (ys++[y])))):=by
 refine zo3 (J:=Itr 0 m) (Prod.fst:Addr×List Nat->Addr) (λb=>[b.1]) (λH _ b=>H b.1=some (.tup (tI b.2))/\Pr b.2) (n:=m) hz (λH3 H4 D' xs i b hb hD fr hn'=>⟨fr _ _ (λz=>hn' (by rw[af.mp z];simp)) hb.1,hb.2⟩) (λ_ _=>ag _) (λi _ hi _=>hi) ?_ ?_
 ·rintro i Hx v Hy hi sx ⟨rfl,rfl⟩
  exact⟨rfl,turn i _ hi sx⟩
 ·intro D' H3 bs hD s3 hl3 hbl hR _ _
  have hR':∀b∈bs,H3 b.1=some (.tup (tI b.2))/\Pr b.2:=λb hb=>by
   obtain⟨i,hi,e⟩:=bv.mp hb
   exact hR i b (by rw[ae hi,e])
  refine fin D' H3 (bs.map Prod.fst) (bs.map Prod.snd) hD s3 (by rw[bx];exact hl3) (zc9 bs λb hb=>(hR' b hb).1) (by rw[aa];exact hbl) λu hu=>?_
  obtain⟨b,hb,rfl⟩:=au.mp hu
  exact(hR' b hb).2
def ys9:Sp:=λvs H Q _=>∃(la:Addr) (n:Nat) (mas:List Addr) (S:List (List Nat)),vs=[.ref la,.int n]/\H la=some (.lst (mas.map V.ref))/\i7 H mas S/\(∀s∈S,TM.IsT n s)/\TM.Few n S 24/\0<n/\n<=60 /\
 ∀(l:Addr) (as:List Addr) (L:List (List Nat)) (H':Hp),H l=none->y0 H H'->H' l=some (.lst (as.map V.ref))->i7 H' as L->L.length<=24->L.Nodup->(∀x,x∈L↔TM.Grp n (λz=>z∈S) x)->Q (.ref l) H'
theorem Y7:y4 ["_law_makers","_law_many","_law_found","_law_held","_law_at","_law_maker_here","_law_made"] ["_law_makers","_law_many"] (z8 zc3):=scq
theorem yi4 (D:Def K mg "_law_all" zc3 ["_law_makers","_law_many"] f fd)(B:Blt mg)(KB:o7 P w K mg base 1 "_law_behind" ["_law_one","_law_other"] (O1 K)):u6 P w K mg base CX0 2 f fd ["_law_makers","_law_many"] ys9:=by
 refine D.F.ok Y7 (λvs H Q E h=>?_) (λcdv A outer s H vs Q E hr h=>?_)
 ·obtain⟨la,n,mas,S,rfl,_⟩:=h
  rfl
 obtain⟨la,n,mas,S,rfl,hla,hmas,hS,few,hn0,hn,q⟩:=h
 have hu:=zi9 hr
 refine⟨_,z7 (y8 (i:=2) Y7.nd rfl (Or.inl rfl) (U7 (z0 (t9 (U1 rfl) rfl B.tuple c5 (z0 (t9 T8 rfl B.range O2 (z0 (pv 1) z4)) z4)) z4)))
  (z7 (y8 (i:=3) Y7.nd rfl (Or.inl rfl) (zx7 hu (d9 l9 (pv 2) x9 (λ_ _=>rfl)) U6))
  (z7 (y8 (i:=4) Y7.nd rfl (Or.inl rfl) x9)
  (z7 (ze9 PassesOwn.never (k8 yi8 (pv 4) (w8 p0 rfl B.len Z4 (z0 (pv 2) z4)) (n1 _))
   (z7 (X7 PassesOwn.never rfl (c9 (pv 0)) (n8 (i:=5) Y7.nd rfl (Or.inl rfl))
    (z7 (y8 (i:=6) Y7.nd rfl (Or.inl rfl) (q9 KB hr rfl (z0 (d9 l9 (pv 2) (pv 4) (λ_ _=>rfl)) (z0 (pv 5) z4))))
    (z6 (l8 (B0 (S9 hu (pv 6) (pv 3))) (z7 (J6 hu (pv 3) (pv 6) U6 rfl)
     (z6 (m7 (E7 PySem.F.plainAttrs_list PySem.F.slot_list_append PySem.F.type_list_append Y0 (pv 2) (z0 (pv 6) z4))))) u8))))
   (z6 (y8 (i:=4) Y7.nd rfl (Or.inl rfl) (c0 P1 (pv 4) x9)))))
  (z6 (y9 (pv 2)))))),?_⟩
 refine o5 λN hN=>⟨_,rfl,_,rfl,λp hp=>⟨p,0,(n:Int),rfl,z3,⟨by lia,by lia,by lia,by lia,by lia⟩,λr hr'=>?_⟩⟩
 rw[show((n:Int)-0).toNat=n by lia,N6]
 have pr:p≠r:=z9 z3 hr'
 have hr0:H r=none:=by
  have:=hr'
  rwa [z5 (Ne.symm pr)]at this
 have s1:y0 H (upd (upd H p (.rng 0 (n:Int))) r (.tup (tI (List.range n)))):=p5 (y2 hp _) hr0 _
 have r1:(upd (upd H p (.rng 0 (n:Int))) r (.tup (tI (List.range n)))) r=some (.tup (tI (List.range n))):=z3
 generalize upd (upd H p (.rng 0 (n:Int))) r (.tup (tI (List.range n)))=H1 at s1 r1 ⊢
 refine⟨(by show 1<=fQ;decide),λfl hfl=>hN _ _ ?_⟩
 clear hN N
 have hfl0:H fl=none:=s1.free hfl
 have s2:=y2 hfl (.lst [V.ref r])
 have f2:(upd H1 fl (.lst [V.ref r])) fl=some (.lst ([r].map V.ref)):=z3
 generalize upd H1 fl (.lst [V.ref r])=H2 at s2 f2 ⊢
 refine o5 λN hN=>λhd hhd=>?_
 have hhd0:H hd=none:=s1.free (s2.free hhd)
 have fd:fl≠hd:=z9 f2 hhd
 have rd:r≠hd:=z9 (s2 _ _ r1) hhd
 refine⟨_,rfl,fl,_,_,_,rfl,rfl,SqL.of (by rw[z5 fd];exact f2),rfl,z3,kT (List.range n),r,rfl,by rw[S6,z5 rd];exact s2 _ _ r1,hN _ _ ?_⟩
 clear hN N
 have S3:y0 H (upd (upd H2 hd (.dT [])) hd (.dT [(kT (List.range n),V.bl true)])):=p5 (p5 (s1.trans s2) hhd0 _) hhd0 _
 have d3:(upd (upd H2 hd (.dT [])) hd (.dT [(kT (List.range n),V.bl true)])) hd=some (.dT (kTs [List.range n])):=z3
 have f3:(upd (upd H2 hd (.dT [])) hd (.dT [(kT (List.range n),V.bl true)])) fl=some (.lst ([r].map V.ref)):=by rw[z5 fd,z5 fd];exact f2
 have r3:(upd (upd H2 hd (.dT [])) hd (.dT [(kT (List.range n),V.bl true)])) r=some (.tup (tI (List.range n))):=by rw[z5 rd,z5 rd];exact s2 _ _ r1
 generalize upd (upd H2 hd (.dT [])) hd (.dT [(kT (List.range n),V.bl true)])=H3 at S3 d3 f3 r3 ⊢
 have hsz:25<fQ:=by decide
 refine o5 λN hN=>hN _ _ ?_
 clear hN N
 refine o5 λN hN=>yl6 (λσ H4=>∃(k:Nat) (L:List (List Nat)) (as:List Addr) (v5 v6:Option V),σ=[some (.ref la),some (.int n),some (.ref fl),some (.ref hd),some (.int k),v5,v6]/\y0 H H4/\H4 fl=some (.lst (as.map V.ref))/\i7 H4 as L/\H4 hd=some (.dT (kTs L))/\Fnd n S L k)
  (λ(σ:St) (_:Hp)=>match σ with|[_,_,_,_,some (.int k),_,_]=>25-k.toNat|_=>0)
  ⟨0,[List.range n],[r],none,none,rfl,S3,f3,.cons r3 .nil,d3,by simp,by simp,λx hx=>by rw[af.mp hx];exact .one,λi x hi=>absurd hi (bX _),aP _⟩ ?_ ?_
 ·rintro σ H4 ⟨k,L,as,v5,v6,rfl,s4,f4,t4,d4,fnd⟩
  have hLl:=few L fnd.nd fnd.grp
  have hal:as.length=L.length:=Paired.length t4
  refine⟨_,rfl,_,rfl,fl,_,rfl,.inl (SqL.of f4),_,_,rfl,rfl,_,rfl,?_⟩
  rw[aa,hal]
  by_cases hk:k<L.length
  ·rw[decide_eq_true (show((k:Nat):Int)<((L.length:Nat):Int) by lia)]
   refine Z1 ?_
   have hx:L[k]?=some L[k]:=ae hk
   have hxG:=fnd.grp _ (bR hk)
   have hxT:=hxG.isT hS
   generalize L[k]=x at hx hxG hxT
   refine o5 λM hM=>⟨_,rfl,la,rfl,⟨_,SqL.of (s4 _ _ hla)⟩,W1 (xs:=mas.map V.ref) (λj σ H5=>∃(L':List (List Nat)) (as':List Addr) (v5 v6:Option V),σ=[some (.ref la),some (.int n),some (.ref fl),some (.ref hd),some (.int k),v5,v6]/\y0 H H5/\H5 fl=some (.lst (as'.map V.ref))/\i7 H5 as' L'/\H5 hd=some (.dT (kTs L'))/\L'.Nodup/\(∀y∈L',TM.Grp n (λz=>z∈S) y)/\(∃m,L'=L++m)/\∀s∈S.take j,TM.beh x s∈L')
    ⟨L,as,v5,v6,rfl,s4,f4,t4,d4,fnd.nd,fnd.grp,⟨[],(be _).symm⟩,λs hs=>by rw[cO]at hs;cases hs⟩ (λj σ H5 _ ⟨_,_,_,_,_,s5,_⟩=>SqL.of (s5 _ _ hla)) ?_ ?_⟩
   ·clear hM hN
    rintro j y σ H5 hj ⟨L',as',v5,v6,rfl,s5,f5,t5,d5,nd5,grp5,⟨m5,em5⟩,dn5⟩
    obtain⟨c,hc,rfl⟩:=W4 hj
    obtain⟨t,ht,hct⟩:=u7 hmas j c hc
    have htS:t∈S:=av ht
    have htT:=hS t htS
    have hx5:L'[k]?=some x:=by rw[em5,aI hk];exact hx
    obtain⟨b,hb1,hb2⟩:=g7 t5 k x hx5
    have gb:atI (as'.map V.ref) ((k:Nat):Int)=some (V.ref b):=d0 (by rw[ah,hb1];rfl)
    have zT:=hxT.beh htT
    have hL5:=few L' nd5 grp5
    have hal5:as'.length=L'.length:=Paired.length t5
    refine o5 λM2 hM2=>⟨_,rfl,_,rfl,fl,_,_,_,rfl,rfl,SqL.of f5,gb,_,rfl,b,c,x,t,rfl,SqT.of hb2,SqT.of (s5 _ _ hct),by rw[hxT.length];lia,λz hz=>by rw[htT.length];exact hxT.lt hz,λtp H7 htp s7 e7=>hM2 _ _ ?_⟩
    clear hM2 M2
    have e7:H7 tp=some (.tup (tI (TM.beh x t))):=e7
    have S7:=s5.trans s7
    have d7:=s7 _ _ d5
    have f7:=s7 _ _ f5
    have t7:=t5.same s7
    have e7k:H7 tp=some (.tup ((kT (TM.beh x t)).map kV)):=by rw[S6];exact e7
    have zG:TM.Grp n (λz=>z∈S) (TM.beh x t):=.mul hxG htS
    refine⟨_,rfl,_,rfl,hd,_,rfl,Y2.t d7 e7k,_,rfl,?_⟩
    rw[A9]
    by_cases hz:TM.beh x t∈L'
    ·rw[if_pos hz]
     refine i9 ⟨L',as',_,_,rfl,S7,f7,t7,d7,nd5,grp5,⟨m5,em5⟩,λs hs=>?_⟩
     rw[bc,ht]at hs
     rcases aC.mp hs with h|h
     ·exact dn5 s h
     ·obtain rfl:s=t:=by simpa using h
      exact hz
    ·rw[if_neg hz]
     refine Z1 ?_
     have hkl:(kTs L').length<fQ:=by unfold kTs;rw[aa];lia
     refine o5 λM3 hM3=>⟨_,rfl,_,rfl,hd,_,rfl,zn0.t d7 e7k hkl,hM3 _ _ ?_⟩
     clear hM3 M3
     rw[zx9 hz]
     have fd7:fl≠hd:=fd
     have tph:tp≠hd:=λz=>by subst z;rw[d7]at e7;cases e7
     have ntd:∀xs,H7 hd≠some (.tup xs):=λxs z=>by rw[d7]at z;cases z
     have S8:y0 H (upd H7 hd (.dT (kTs (L'++[TM.beh x t])))):=p5 S7 hhd0 _
     have f8:(upd H7 hd (.dT (kTs (L'++[TM.beh x t])))) fl=some (.lst (as'.map V.ref)):=by rw[z5 fd7];exact f7
     have d8:(upd H7 hd (.dT (kTs (L'++[TM.beh x t])))) hd=some (.dT (kTs (L'++[TM.beh x t]))):=z3
     have t8:=i7.upd (o:=.dT (kTs (L'++[TM.beh x t]))) t7 ntd
     have e8:(upd H7 hd (.dT (kTs (L'++[TM.beh x t])))) tp=some (.tup (tI (TM.beh x t))):=by rw[z5 tph];exact e7
     generalize upd H7 hd (.dT (kTs (L'++[TM.beh x t])))=H8 at S8 f8 d8 t8 e8 ⊢
     refine⟨_,rfl,.inl ⟨rfl,_,SqL.of f8⟩,_,rfl,fl,_,_,rfl,rfl,f8,by rw[aa,hal5];lia,?_⟩
     have ntf:∀xs,H8 fl≠some (.tup xs):=λxs z=>by rw[f8]at z;cases z
     refine⟨L'++[TM.beh x t],as'++[tp],_,_,rfl,p5 S8 hfl0 _,by rw[z3,aG];rfl,Paired.snoc (t8.upd ntf) (by rw[z5 (λz=>by subst z;rw[f8]at e8;cases e8)];exact e8),by rw[z5 (Ne.symm fd)];exact d8,?_,λy hy=>?_,⟨m5++[TM.beh x t],by rw[em5,bz]⟩,λs hs=>?_⟩
     ·refine bu.mpr ⟨nd5,by simp,λa ha c hc e=>hz ?_⟩
      rw[←af.mp hc,←e]
      exact ha
     ·rcases aC.mp hy with h|h
      ·exact grp5 y h
      ·rw[af.mp h];exact zG
     ·rw[bc,ht]at hs
      rcases aC.mp hs with h|h
      ·exact aH _ (dn5 s h)
      ·obtain rfl:s=t:=by simpa using h
       exact aJ _ (by simp)
   ·rintro σ H5 ⟨L',as',v5,v6,rfl,s5,f5,t5,d5,nd5,grp5,⟨m5,em5⟩,dn5⟩
    rw[aa,Paired.length hmas,bn]at dn5
    refine hM _ _ ?_
    clear hM M hN
    have hL5:=few L' nd5 grp5
    refine⟨_,rfl,_,_,rfl,rfl,⟨k+1,L',as',v5,v6,?_,s5,f5,t5,d5,nd5,by rw[em5];exact aH _ fnd.one,grp5,λi y hi hy s hs=>?_,?_⟩,?_⟩
    ·rw[show((k+1:Nat):Int)=(k:Int)+1 by lia]
     rfl
    ·by_cases e:i=k
     ·subst e
      rw[em5,aI hk,hx]at hy
      rw[←Option.some.inj hy]
      exact dn5 s hs
     ·have hi':i<k:=by lia
      rw[em5,aI (by lia)]at hy
      rw[em5]
      exact aH _ (fnd.done i y hi' hy s hs)
    ·rw[em5,aq]
     lia
    ·show 25-((k:Int)+1).toNat<25-((k:Int)).toNat
     lia
  ·rw[decide_eq_false (show ¬((k:Nat):Int)<((L.length:Nat):Int) by lia)]
   refine i9 (hN _ _ ?_)
   clear hN N
   have hle:=fnd.le
   have gAll:=TM.grp_closed hS fnd.nd fnd.one fnd.grp λy hy s hs=>by
    obtain⟨i,hi,e⟩:=bv.mp hy
    exact fnd.done i y (by lia) (by rw[ae hi,e]) s hs
   exact⟨_,rfl,q fl as L H4 hfl0 s4 f4 t4 hLl fnd.nd gAll⟩
 ·rintro σ H4 Q1 Q2 h ⟨a1,e1,a2,e2,a3,a4,e3,sq,b1,b2,e4,e5,k,e6,q1⟩
  exact⟨a1,e1,a2,e2,a3,a4,e3,sq,b1,b2,e4,e5,k,e6,h _ _ q1⟩
theorem xo6 {t u:List Nat}(h:TM.iN t=TM.iN u):t=u:=zo1 h
theorem xd1:∀(x y:List Nat) (i:Nat),i<x.length->i<y.length->(∀q,q<i->x.getD q 0=y.getD q 0)->x.getD i 0<y.getD i 0->HT.lexLt (TM.iN x) (TM.iN y)=true
 | a::x,b::y,0,_,_,_,h=>by
  have h:a<b:=h
  show(if ((a:Nat):Int)=((b:Nat):Int) then _ else decide (((a:Nat):Int)<((b:Nat):Int)))=true
  rw[if_neg (by lia)]
  exact decide_eq_true (by lia)
 | a::x,b::y,i+1,hx,hy,hq,h=>by
  have e:a=b:=hq 0 (Nat.zero_lt_succ _)
  show(if ((a:Nat):Int)=((b:Nat):Int) then HT.lexLt (TM.iN x) (TM.iN y) else _)=true
  rw[if_pos (by lia)]
  exact xd1 x y i (by simpa using hx) (by simpa using hy) (λq hq'=>by have:=hq (q+1) (by lia);simpa using this) (by simpa using h)
theorem xq3 {n:Nat}{x y:List Nat}(xT:TM.IsT n x)(yT:TM.IsT n y)(h:TM.Lx n x y):HT.lexLt (TM.iN x) (TM.iN y)=true:=by
 obtain⟨i,hi,h1,h2⟩:=h
 exact xd1 x y i (by rw[xT.length];exact hi) (by rw[yT.length];exact hi) h1 h2
theorem yx4 {n:Nat}{S:List Nat->Prop}(hS:∀s,S s->TM.IsT n s){t u x:List Nat}(tT:TM.IsT n t)(h:TM.LeastOf n S t u)(hx:TM.Side n S t x):HT.lexLt (TM.iN x) (TM.iN u)=false:=by
 rcases h.2 x hx with e|e
 ·rw[e];exact zm2 _
 ·exact ya1 (xq3 (h.1.isT hS tT) (hx.isT hS tT) e)
theorem yf5 {xa:Addr}{xs:List Addr}{fr:List Nat}{te:CT TE}{σ:St}{H1:Hp}{Q:Addr->Hp->Prop}(Pr:Nat->List Nat->Prop)(hX:H1 xa=some (.lst (xs.map V.ref)))(hz:xs.length<=fQ)
  (turn:∀(i:Nat) (H:Hp) (x:Addr),xs[i]?=some x->y0 H1 H->∀C₀ s₀ H₀ fp,te C₀ s₀ H₀ fp (some (V.ref x)::fr.map λj=>(σ[j]?).getD none) H λv H4=>y0 H H4/\∃b:Addr×List Nat,v=.ref b.1/\(H4 b.1=some (.tup (tI b.2))/\Pr i b.2)/\([]:List Addr).Nodup/\∀a∈([]:List Addr),H a=none/\∃o,H4 a=some o)
  (fin:∀(D:Addr) (H:Hp) (as:List Addr) (us:List (List Nat)),H1 D=none->y0 H1 H->H D=some (.lst (as.map V.ref))->i7 H as us->us.length=xs.length->(∀i u,us[i]?=some u->Pr i u)->Q D H) :
  ∀D,H1 D=none->∃W:Nat->Nat->St->Hp->Prop,(∃m,W 0 m (N5 1 fr σ) (upd H1 D (.lst [])))/\∀i m' σ' H',W i m' σ' H'->((Itl K xa).stop i H'/\Q D H')∨((Itl K xa).go i H'/\∀x H2,(Itl K xa).yld i H' x H2->∀C₀ s₀ H₀ fp,U4 0 x σ' H2 λσ3 H3=>∃N:VK,te C₀ s₀ H₀ fp σ3 H3 N/\∀y H4,N y H4 ->
   ∃ys m'',H4 D=some (.lst ys)/\ys.length<fQ/\m''<m'/\W (i+1) m'' σ3 (upd H4 D (.lst (ys++[y])))):=by
 refine zo3 (J:=Itl K xa) (Prod.fst:Addr×List Nat->Addr) (λ_=>[]) (λH i b=>H b.1=some (.tup (tI b.2))/\Pr i b.2) (n:=xs.length) hz (λH3 H4 D' xs i b hb hD fr _=>⟨fr _ _ (λz=>?_) hb.1,hb.2⟩) (λH s=>⟨_,SqL.of (s _ _ hX),by rw[aa];exact ag _⟩) (λi H hi s=>⟨_,_,SqL.of (s _ _ hX),ae (by rw[aa];exact hi)⟩) ?_ ?_
 ·rw[af.mp z,hD]at hb
  cases hb.1
 ·rintro i Hx v Hy hi sx ⟨rfl,hy⟩
  have:=hy _ (SqL.of (sx _ _ hX))
  obtain⟨x,hx,rfl⟩:=W4 this
  exact⟨rfl,turn i _ x hx sx⟩
 ·intro D' H3 bs hD s3 hl3 hbl hR _ _
  have hR':∀b∈bs,H3 b.1=some (.tup (tI b.2)):=λb hb=>by
   obtain⟨i,hi,e⟩:=bv.mp hb
   exact(hR i b (by rw[ae hi,e])).1
  refine fin D' H3 (bs.map Prod.fst) (bs.map Prod.snd) hD s3 (by rw[bx];exact hl3) (zc9 bs hR') (by rw[aa];exact hbl) λi u hu=>?_
  rw[ah]at hu
  cases e:bs[i]? with
  | none=>rw[e]at hu;cases hu
  | some b=>rw[e]at hu;cases hu;exact(hR i b e).2
def K6:Sp:=λvs H Q _=>∃(ev ta:Addr) (n:Nat) (as:List Addr) (us ts:List (List Nat)) (t:List Nat),vs=[.ref ev,.ref ta]/\H ev=some (.lst (as.map V.ref))/\i7 H as us/\us.length<=24/\(∀u,u∈us↔TM.Grp n (λz=>z∈ts) u)/\(∀s∈ts,TM.IsT n s)/\H ta=some (.tup (tI t))/\TM.IsT n t/\n<=60 /\
 ∀(r:Addr) (H':Hp),y0 H H'->H' r=some (.tup (tI (TM.lsd n (λz=>z∈ts) t)))->Q (.ref r) H'
theorem zv6:y4 ["_law_every","_law_t"] ["_law_every","_law_t"] (z8 F0):=scq
theorem zu7 (D:Def K mg "_law_least" F0 ["_law_every","_law_t"] f fd)(B:Blt mg)(KB:o7 P w K mg base 1 "_law_behind" ["_law_one","_law_other"] (O1 K)):u6 P w K mg base CX0 2 f fd ["_law_every","_law_t"] K6:=by
 refine D.F.ok zv6 (λvs H Q E h=>?_) (λcdv Ar outer sh H vs Q E hr h=>?_)
 ·obtain⟨ev,ta,n,as,us,ts,t,rfl,_⟩:=h
  rfl
 obtain⟨ev,ta,n,as,us,ts,t,rfl,hev,hus,hul,hall,hS,hta,tT,hn,q⟩:=h
 refine⟨_,z6 (y9 (w8 (yv8 rfl hr.units) rfl B.min xa6 (z0 (c7 [1] ["_law_one","_law_t"] rfl (c9 (pv 0)) (λ_ _ _ _=>q9 KB hr rfl (z0 (pv 0) (z0 (pv 1) z4)))) z4))),?_⟩
 have hal:as.length=us.length:=Paired.length hus
 have h0:0<us.length:=bL ((hall (List.range n)).mpr .one)
 have hL:=TM.lsd_of hS tT
 generalize TM.lsd n (λz=>z∈ts) t=u at hL q
 refine⟨_,rfl,ev,rfl,⟨_,SqL.of hev⟩,yf5 (xs:=as) (λi v=>∃w,us[i]?=some w/\v=TM.beh w t) hev (aW (show as.length<=1000 by lia) (by decide)) ?_ ?_⟩
 ·intro i H9 x hx s9 _ _ _ _
  obtain⟨w',hw,hxw⟩:=u7 hus i x hx
  have wT:=((hall w').mp (av hw)).isT hS
  refine⟨_,rfl,_,rfl,x,ta,w',t,rfl,SqT.of (s9 _ _ hxw),SqT.of (s9 _ _ hta),by rw[wT.length];lia,λy hy=>by rw[tT.length];exact wT.lt hy,λz H10 hz0 s10 hz=>⟨s10,(z,TM.beh w' t),rfl,⟨hz,w',hw,rfl⟩,dL,λa ha=>(by cases ha)⟩⟩
 intro lm H9 bs vs' hlm0 s9 hlm hbs hvl hvs
 have hbl:bs.length=vs'.length:=Paired.length hbs
 have inS:∀i v,vs'[i]?=some v->TM.Side n (λz=>z∈ts) t v:=λi v hv=>by
  obtain⟨w',hw,e⟩:=hvs i v hv
  exact⟨w',(hall w').mp (av hw),e⟩
 refine⟨lm,bs,vs'.map TM.iN,rfl,SqL.of hlm,by rw[aa];exact hbl,λi a row ha hrow=>?_,by lia,λi a row ha hrow hleast=>?_⟩
 ·rw[ah]at hrow
  obtain⟨v,hv,hav⟩:=u7 hbs i a ha
  rw[hv]at hrow
  cases hrow
  rw[yq8]
  exact hav
 ·rw[ah]at hrow
  obtain⟨v,hv,hav⟩:=u7 hbs i a ha
  rw[hv]at hrow
  cases hrow
  have ev1:v=u:=by
   refine xo6 (zp6 (yx4 hS tT hL (inS i v hv)) (hleast _ (au.mpr ⟨u,?_,rfl⟩)))
   obtain⟨k,hk,e⟩:=hL.1
   obtain⟨j,hj,ej⟩:=bv.mp ((hall k).mpr hk)
   have hvj:vs'[j]?=some vs'[j]:=ae (by lia)
   obtain⟨w',hw,e'⟩:=hvs j _ hvj
   rw[ae hj,ej]at hw
   cases hw
   rw[e,←e']
   exact bR _
  subst ev1
  exact q _ _ s9 hav
def zj9 (cD cG cC cB cS:Addr):Sp:=λvs H Q _=>∃(a:Addr) (v:V) (n:Nat) (ps:List (List Nat)),vs=[.ref a,v]/\p7 cD cG cC cB cS n ps H a/\(∀t∈ps,TM.IsT n t)/\LKS n ps H v none/\n<=60/\∀H':Hp,y0 H H'->Q (.bl true) H'
theorem V0:y4 ["_law_act","_law_thing","_law_refused_here"] ["_law_act","_law_thing"] (z8 N1):=scq
theorem zk9 {cD cG cC cB cS X TE:Addr}(D:Def K mg "_law_refused" N1 ["_law_act","_law_thing"] f fd)(B:Blt mg)(cd:p4 K cD ["many","part"])(ML:∀(n:Nat) (ps:List (List Nat)),(∀t∈ps,TM.IsT n t)->zb0 P w K mg base 6 cD "looked" ["self","thing"] (yy8 (p7 cD cG cC cB cS n ps) (LKS n ps) X))(MK:∀(n:Nat) (ps:List (List Nat)),(∀t∈ps,TM.IsT n t)->zb0 P w K mg base 7 cD "kept" ["self","thing","t"] (yd4 n (p7 cD cG cC cB cS n ps) (LKS n ps) (mvS n ps) X))(EA:ye4 K mg TE "NoThing" X):u6 P w K mg base CX0 8 f fd ["_law_act","_law_thing"] (zj9 cD cG cC cB cS):=by
 refine D.F.ok V0 (λvs H Q E h=>?_) (λcdv A outer s H vs Q E hr h=>?_)
 ·obtain⟨a,v,n,ps,rfl,_⟩:=h
  rfl
 obtain⟨a,v,n,ps,rfl,hA,hp,hL,hn,q⟩:=h
 have hz:=p9
 apply O0
 ·apply y6
  ·exact DS.mk (y8 (i:=2) V0.nd rfl (Or.inl rfl) x9)
  apply y6
  ·exact DS.mk (ys4 (yj5 (ys5 cd.cls (ML n ps hp) hr (pv 0) (z0 (pv 1) z4)) ys6) (xe9 EA.c EA.c (by simp) rfl EA.m (λea=>z6 (y8 (i:=2) V0.nd rfl (Or.inl rfl) (c0 P1 (pv 2) x9)))) rfl rfl)
  apply y6
  ·exact DS.mk (ys4 (yj5 (ys5 cd.cls (MK n ps hp) hr (pv 0) (z0 (pv 1) (z0 (t9 (U1 rfl) rfl B.tuple c5 (z0 (t9 T8 rfl B.range O2 (z0 (y3 (pv 0) rfl) z4)) z4)) z4))) ys6) (xe9 EA.c EA.c (by simp) rfl EA.m (λea=>z6 (y8 (i:=2) V0.nd rfl (Or.inl rfl) (c0 P1 (pv 2) x9)))) rfl rfl)
  exact DSs.mk (z6 (y9 (Q3 zj2 (pv 2) x9 (n1 _))))
 obtain⟨dx,p,S,ha,ga⟩:=id hA
 refine o5 λN hN=>hN _ _ ?_
 clear hN N
 refine o5 λN hN=>⟨λσ' c a' H'=>c=.ref X/\σ'=[some (.ref a),some v,some (.int 0)]/\y0 H H',?_,?_⟩
 ·exact⟨_,rfl,a,dx,_,rfl,ha,rfl,_,rfl,a,v,none,rfl,hA,hL,λl hl=>(by cases hl),λ_ H' s'=>⟨rfl,rfl,s'⟩⟩
 rintro σ' ea C' H' ⟨eC,rfl,s'⟩ hne
 cases eC
 refine⟨rfl,_,rfl,_,_,rfl,rfl,hN _ _ ?_⟩
 clear hN N
 have s1:y0 H (upd H' ea (yv2 ea X)):=p5 s' (s'.free hne) _
 generalize upd H' ea (yv2 ea X)=H1 at s1 ⊢
 have hA1:=hA.same s1
 have hL1:=hL.same s1
 refine o5 λN hN=>⟨λσ' c a' H'=>c=.ref X/\σ'=[some (.ref a),some v,some (.int (0+1))]/\y0 H H',?_,?_⟩
 ·refine⟨_,rfl,a,dx,_,rfl,s1 _ _ ha,rfl,_,rfl,_,rfl,a,cD,dx,_,_,rfl,s1 _ _ ha,cd.cls,cd.no "many" (by decide),rfl,_,rfl,λp1 hp1=>⟨p1,0,(n:Int),rfl,z3,⟨by lia,by lia,by lia,by lia,by lia⟩,λr hr'=>?_⟩⟩
  rw[show((n:Int)-0).toNat=n by lia,N6]
  have pr:p1≠r:=z9 z3 hr'
  have hr0:H1 r=none:=by
   have:=hr'
   rwa [z5 (Ne.symm pr)]at this
  have s2:y0 H1 (upd (upd H1 p1 (.rng 0 (n:Int))) r (.tup (tI (List.range n)))):=p5 (y2 hp1 _) hr0 _
  have r2:(upd (upd H1 p1 (.rng 0 (n:Int))) r (.tup (tI (List.range n)))) r=some (.tup (tI (List.range n))):=z3
  generalize upd (upd H1 p1 (.rng 0 (n:Int))) r (.tup (tI (List.range n)))=H2 at s2 r2 ⊢
  exact⟨a,r,v,List.range n,none,rfl,hA1.same s2,hL1.same s2,r2,TM.IsT.range n,λl hl=>(by cases hl),λ_ H' s'=>⟨rfl,rfl,s1.trans (s2.trans s')⟩⟩
 rintro σ' ea C' H' ⟨eC,rfl,s'⟩ hne
 cases eC
 refine⟨rfl,_,rfl,_,_,rfl,rfl,hN _ _ ?_⟩
 clear hN N
 exact⟨_,rfl,rfl,q _ (p5 s' (s'.free hne) _)⟩
def zm6 (n:Nat)(AH:Hp->Addr->Prop)(LK:Hp->V->Option (List Nat)->Prop)(mv:List Nat->List Nat->List Nat):Sp:=λvs H Q _=>∃(a tr:Addr) (v:V) (t l:List Nat),vs=[.ref a,v,.ref tr]/\AH H a/\LK H v (some l)/\H tr=some (.tup (tI t))/\TM.IsT n t/\∀H',y0 H H'->Q (.bl (decide (mv l t=l))) H'
theorem yn2 {n:Nat}{AH:Hp->Addr->Prop}{LK:Hp->V->Option (List Nat)->Prop}{mv:List Nat->List Nat->List Nat}{X cA:Addr}{k:Nat}(M:zb0 P w K mg base k cA "kept" ["self","thing","t"] (yd4 n AH LK mv X)):l4 P w K mg base k cA "kept" ["self","thing","t"] (zm6 n AH LK mv):=by
 obtain⟨f,fd,F,r⟩:=M
 exact⟨f,fd,F.calm.imp λvs H Q E ⟨a,tr,v,t,l,e,h1,h2,h3,h4,q⟩=>⟨a,tr,v,t,some l,e,h1,h2,h3,h4,λl' e' H' s'=>(by cases e';exact q H' s'),λz=>(by cases z)⟩,r⟩
theorem yr3 {H:Hp}{as:List Addr}{us:List (List Nat)}(h:i7 H as us)(h0:0<us.length):∃b u,atI (as.map V.ref) (-1)=some (V.ref b)/\u∈us/\H b=some (.tup (tI u)):=by
 have hl:as.length=us.length:=Paired.length h
 have hi:as.length-1<as.length:=by lia
 obtain⟨u,hu,hb⟩:=u7 h (as.length-1) _ (ae hi)
 refine⟨_,u,?_,av hu,hb⟩
 have e:as=as.take (as.length-1)++[as[as.length-1]]:=by
  conv=>lhs;rw[←bO (as.length-1) as]
  rw[dz hi,List.drop_eq_nil_of_le (by lia)]
 conv=>lhs;rw[e,aG]
 exact xa3 _ _
def yk7 (cD cG cC cB cS:Addr):Sp:=λvs H Q _=>∃(a ev oa ta:Addr) (n:Nat) (ps:List (List Nat)) (as:List Addr) (us:List (List Nat)) (o t:List Nat),vs=[.ref a,.ref ev,.ref oa,.ref ta]/\p7 cD cG cC cB cS n ps H a/\(∀t∈ps,TM.IsT n t)/\H ev=some (.lst (as.map V.ref))/\i7 H as us/\us.length<=24/\(∀u,u∈us↔TM.Grp n (λz=>z∈ps) u)/\H oa=some (.tup (tI o))/\TM.IsT n o/\H ta=some (.tup (tI t))/\TM.IsT n t/\n<=60/\∀H':Hp,y0 H H'->Q (.bl true) H'
theorem T3:y4 ["_law_act","_law_every","_law_one","_law_other","_law_due","_law_far","_law_found","_law_kept"] ["_law_act","_law_every","_law_one","_law_other"] (z8 A1):=scq
theorem yb2 {cD cG cC cB cS:Addr}(D:Def K mg "_law_good" A1 ["_law_act","_law_every","_law_one","_law_other"] f fd)(B:Blt mg)(cd:p4 K cD ["many","part"])(ML:∀(n:Nat) (ps:List (List Nat)),(∀t∈ps,TM.IsT n t)->l4 P w K mg base 6 cD "looked" ["self","thing"] (xg3 (p7 cD cG cC cB cS n ps) (LKS n ps)))(MK:∀(n:Nat) (ps:List (List Nat)),(∀t∈ps,TM.IsT n t)->l4 P w K mg base 7 cD "kept" ["self","thing","t"] (zm6 n (p7 cD cG cC cB cS n ps) (LKS n ps) (mvS n ps)))(MM:∀(n:Nat) (ps:List (List Nat)),(∀t∈ps,TM.IsT n t)->l4 P w K mg base 5 cD "moved" ["self","thing","t"] (yy9 n (p7 cD cG cC cB cS n ps) (TM.IsT n) (mvS n ps)))(KL:o7 P w K mg base 2 "_law_least" ["_law_every","_law_t"] K6)(KB:o7 P w K mg base 1 "_law_behind" ["_law_one","_law_other"] (O1 K))(KW:o7 P w K mg base 1 "_law_whole" ["_law_found"] yl1):u6 P w K mg base CX0 8 f fd ["_law_act","_law_every","_law_one","_law_other"] (yk7 cD cG cC cB cS):=by
 refine D.F.ok T3 (λvs H Q E h=>?_) (λcdv A outer s H vs Q E hr h=>?_)
 ·obtain⟨a,ev,oa,ta,n,ps,as,us,o,t,rfl,_⟩:=h
  rfl
 obtain⟨a,ev,oa,ta,n,ps,as,us,o,t,rfl,hA,hp,hev,hus,hul,hall,hoa,oT,hta,tT,hn,q⟩:=h
 have hz:=p9
 apply O0
 ·apply y6
  ·exact DS.mk (y8 (i:=4) T3.nd rfl (Or.inl rfl) (q9 KL hr rfl (z0 (pv 1) (z0 (pv 2) z4))))
  apply y6
  ·exact DS.mk (y8 (i:=5) T3.nd rfl (Or.inl rfl) (q9 KL hr rfl (z0 (pv 1) (z0 (q9 KB hr rfl (z0 (pv 2) (z0 (pv 3) z4))) z4))))
  apply y6
  ·exact DS.mk (y8 (i:=6) T3.nd rfl (Or.inl rfl) (l7 cd.cls (ML n ps hp) hr (pv 0) (z0 (pv 2) z4)))
  apply y6
  ·exact DS.mk (l8 (PW.pt (zj4 (X8 (Y5 (w8 Z2 rfl B.isinstance i5 (z0 (pv 6) (z0 (M5 (v:=.ty "tuple") rfl B.tuple c5 rfl) z4))))) (zj4 (k8 (yb4 hr.units) (pv 6) (pv 4) (n1 _)) (zb8 (X8 (Y5 (w8 (K1 rfl) rfl B.all zn8 (z0 (c7 [] ["_law_to"] rfl (yb9 (pv 6)) (λ_ _ _ _=>q9 KW hr rfl (z0 (pv 0) z4))) z4)))))))) (z6 (y9 U6)) u8)
  apply y6
  ·exact DS.mk (l8 (PW.pt (zj4 (k8 (yb4 hr.units) (l7 cd.cls (ML n ps hp) hr (pv 0) (z0 (q9 KB hr rfl (z0 (d9 l9 (pv 1) (xn1 xh8 x9) (λ_ _=>rfl)) (z0 (pv 2) z4))) z4)) (pv 4) (n1 _)) (zb8 (k8 (yb4 hr.units) (l7 cd.cls (MM n ps hp) hr (pv 0) (z0 (pv 4) (z0 (pv 3) z4))) (pv 5) (n1 _))))) (z6 (y9 U6)) u8)
  apply y6
  ·exact DS.mk (y8 (i:=7) T3.nd rfl (Or.inl rfl) (l7 cd.cls (MK n ps hp) hr (pv 0) (z0 (pv 2) (z0 (pv 3) z4))))
  exact DSs.mk (z6 (y9 (C7 (w8 Z2 rfl B.isinstance i5 (z0 (pv 7) (z0 (M5 (v:=.ty "bool") rfl B.bool zy8 rfl) z4))) (zb7 (Q3 zj2 (pv 7) (Q3 (yb3 hr.units) (pv 4) (pv 5) (n1 _)) (n1 _))))))
 have h0:0<us.length:=bL ((hall (List.range n)).mpr .one)
 obtain⟨due,edue⟩:∃u,u=TM.lsd n (λz=>z∈ps) o:=⟨_,rfl⟩
 obtain⟨far,efar⟩:∃u,u=TM.lsd n (λz=>z∈ps) (TM.beh o t):=⟨_,rfl⟩
 have dT:TM.IsT n due:=by rw[edue];exact TM.lsd_isT hp oT
 have emv:mvS n ps due t=far:=by rw[efar,edue];exact TM.lsd_beh hp oT tT
 refine o5 λN hN=>⟨_,rfl,_,rfl,ev,oa,n,as,us,ps,o,rfl,hev,hus,hul,hall,hp,hoa,oT,hn,λdu H1 s1 hdu=>hN _ _ ?_⟩
 clear hN N
 rw[←edue]at hdu
 refine o5 λN hN=>⟨_,rfl,_,rfl,_,rfl,oa,ta,o,t,rfl,SqT.of (s1 _ _ hoa),SqT.of (s1 _ _ hta),by rw[oT.length];lia,λy hy=>by rw[tT.length];exact oT.lt hy,λz H2 _ s2 hz2=>⟨ev,z,n,as,us,ps,TM.beh o t,rfl,(s1.trans s2) _ _ hev,hus.same (s1.trans s2),hul,hall,hp,hz2,oT.beh tT,hn,λfa H3 s3 hfa=>hN _ _ ?_⟩⟩
 clear hN N
 rw[←efar]at hfa
 have s13:=s1.trans (s2.trans s3)
 obtain⟨dx,p,S,ha,_⟩:=id hA
 refine o5 λN hN=>⟨_,rfl,a,dx,_,rfl,s13 _ _ ha,rfl,_,rfl,a,.ref oa,_,rfl,hA.same s13,LKS.of (s13 _ _ hoa) oT hn,λfo H4 s4 hfo=>hN _ _ ?_⟩
 clear hN N
 rw[←edue]at hfo
 have s14:=s13.trans s4
 have du4:=(s2.trans (s3.trans s4)) _ _ hdu
 have fa4:=s4 _ _ hfa
 refine o5 λN hN=>⟨_,rfl,_,_,_,_,rfl,K0.tup hfo,J3 zp3,_,rfl,i9 ?_⟩
 have sS:=N3 due
 have sR:PyData.eqv (V2 due) (V2 due)=true:=by rw[zd4];exact decide_eq_true rfl
 refine⟨_,rfl,_,rfl,V2 due,V2 due,X0 hfo,X0 du4,sS,sS,_,rfl,?_⟩
 rw[sR]
 refine i9 ⟨_,rfl,fo,rfl,⟨_,SqT.of hfo⟩,zd2 (SqT.of hfo) ((List.replicate n true).map V.bl) (by rw[aa,bP,v0,dT.length]) (by rw[v0,dT.length];exact aW hn (by decide)) ?_ ?_⟩
 ·intro i H2 v hv s2 _ _ _ _
  obtain⟨y,hy,rfl⟩:=M6 hv
  have hi:i<n:=by rw[←dT.length];exact(al.mp hy).1
  refine⟨_,rfl,_,rfl,y0.refl _,?_⟩
  rw[ah,ci,if_pos hi]
  rfl
 intro nm H5 _ s5 hnm
 refine⟨nm,_,rfl,SqL.of hnm,_,rfl,?_⟩
 rw[zl6]
 refine i9 (hN _ _ ?_)
 clear hN N
 have s15:=s14.trans s5
 obtain⟨b,u,hb1,hub,hb2⟩:=yr3 hus h0
 have uG:=(hall u).mp hub
 have uT:=uG.isT hp
 refine o5 λN hN=>⟨_,rfl,a,dx,_,rfl,s15 _ _ ha,rfl,_,rfl,_,rfl,ev,_,_,_,rfl,rfl,SqL.of (s15 _ _ hev),hb1,_,rfl,b,oa,u,o,rfl,SqT.of (s15 _ _ hb2),SqT.of (s15 _ _ hoa),by rw[uT.length];lia,λy hy=>by rw[oT.length];exact uT.lt hy,λz H6 _ s6 hz6=>?_⟩
 have s16:=s15.trans s6
 have hz6:H6 z=some (.tup (tI (TM.beh u o))):=hz6
 refine⟨a,.ref z,_,rfl,hA.same s16,LKS.of hz6 (uT.beh oT) hn,λl2 H7 s7 hl2=>?_⟩
 rw[show TM.lsd n (λz=>z∈ps) (TM.beh u o)=due by rw[edue];exact(TM.lsd_iff hp (uT.beh oT) oT).mpr (TM.Side.symm hp oT ⟨u,uG,rfl⟩)]at hl2
 have s57:=s5.trans (s6.trans s7)
 have s17:=s14.trans s57
 refine⟨_,rfl,V2 due,V2 due,X0 hl2,X0 (s57 _ _ du4),sS,sS,_,rfl,?_⟩
 rw[sR]
 refine i9 ⟨_,rfl,a,dx,_,rfl,s17 _ _ ha,rfl,_,rfl,_,rfl,a,du,ta,due,t,rfl,hA.same s17,s57 _ _ du4,dT,s17 _ _ hta,tT,λm8 H8 s8 hm8=>?_⟩
 rw[emv]at hm8
 have s18:=s17.trans s8
 have s58:=s57.trans s8
 have sS':=N3 far
 have sR':PyData.eqv (V2 far) (V2 far)=true:=by rw[zd4];exact decide_eq_true rfl
 refine⟨_,rfl,V2 far,V2 far,X0 hm8,X0 (s58 _ _ fa4),sS',sS',_,rfl,?_⟩
 rw[sR']
 refine i9 (hN _ _ ?_)
 clear hN N
 refine o5 λN hN=>⟨_,rfl,a,dx,_,rfl,s18 _ _ ha,rfl,_,rfl,_,rfl,a,ta,.ref oa,t,_,rfl,hA.same s18,LKS.of (s18 _ _ hoa) oT hn,s18 _ _ hta,tT,λH9 s9=>hN _ _ ?_⟩
 clear hN N
 rw[←edue,emv]
 refine⟨_,rfl,_,_,_,_,rfl,K0.bl _,J3 zz8,_,rfl,Z1 ⟨_,rfl,_,rfl,_,rfl,V2 due,V2 far,X0 ((s58.trans s9) _ _ du4),X0 ((s58.trans s9) _ _ fa4),sS,sS',?_⟩⟩
 rw[zd4,show decide (far=due)=decide (due=far) from decide_eq_decide.mpr eq_comm]
 refine⟨rfl,?_⟩
 rw[decide_eq_true rfl]
 exact q H9 (s18.trans s9)
structure xw1 (n:Nat) (ts:List (List Nat)) (mv:List Nat->List Nat->List Nat) (ow:List Nat) (L:List (List Nat)) (k:Nat):Prop where
 nd:L.Nodup
 one:ow∈L
 grp:∀x∈L,TM.Rch n ts mv ow x
 done:∀i x,i<k->L[i]?=some x->∀s∈ts,mv x s∈L
 le:k<=L.length
theorem ys7 {n N:Nat}{ts:List (List Nat)}{ok:List Nat->Prop}{mv:List Nat->List Nat->List Nat}{ow:List Nat}(A:TM.Acts n ok mv)(ho:ok ow)(hT:∀t∈ts,TM.IsT n t)(few:TM.Few n ts N):∀L:List (List Nat),L.Nodup->(∀k∈L,TM.Rch n ts mv ow k)->L.length<=N:=by
 intro L nd h
 have key:∀L:List (List Nat),L.Nodup->(∀k∈L,TM.Rch n ts mv ow k)->∃M:List (List Nat),M.map (mv ow)=L/\∀x∈M,TM.Grp n (λz=>z∈ts) x:=by
  intro L
  induction L with
  | nil=>exact λ_ _=>⟨[],rfl,λx hx=>(by cases hx)⟩
  | cons k L ih =>
   intro nd h
   obtain⟨M,e,g⟩:=ih (aK.mp nd).2 λx hx=>h x (ao _ hx)
   obtain⟨w,b,hw⟩:=h k ax
   have hf:=hw.fact A ho hT
   refine⟨b::M,by rw[aR,e,hf.2.1],λx hx=>?_⟩
   rcases aw.mp hx with z|z
   ·rw[z];exact hf.1
   ·exact g x z
 obtain⟨M,e,g⟩:=key L nd h
 have:=few M ((bj.mp (show(M.map (mv ow)).Pairwise (λa b=>a≠b) by rw[e];exact nd)).imp λh z=>h (by rw[z])) g
 rwa [←e,aa]
def zs8:Sp:=λvs H Q _=>∃(ev la fa:Addr) (n:Nat) (as mas:List Addr) (us ps S:List (List Nat)) (ow:List Nat),vs=[.ref ev,.ref la,.ref fa]/\H ev=some (.lst (as.map V.ref))/\i7 H as us/\us.length<=24/\(∀u,u∈us↔TM.Grp n (λz=>z∈ps) u)/\(∀s∈ps,TM.IsT n s)/\H la=some (.lst (mas.map V.ref))/\i7 H mas S/\(∀s∈S,TM.IsT n s)/\TM.Few n S 24/\H fa=some (.tup (tI ow))/\TM.IsT n ow/\TM.lsd n (λz=>z∈ps) ow=ow/\0<n/\n<=60 /\
 ∀(l:Addr) (bs:List Addr) (L:List (List Nat)) (H':Hp),H l=none->y0 H H'->H' l=some (.lst (bs.map V.ref))->i7 H' bs L->L.Nodup->Srt L->(∀x,x∈L↔TM.Rch n S (mvS n ps) ow x)->Q (.ref l) H'
theorem e9:y4 ["_law_every","_law_makers","_law_first","_law_found","_law_held","_law_at","_law_maker_here","_law_made"] ["_law_every","_law_makers","_law_first"] (z8 L8):=scq
theorem zq5 (D:Def K mg "_law_things" L8 ["_law_every","_law_makers","_law_first"] f fd)(B:Blt mg)(KL:o7 P w K mg base 2 "_law_least" ["_law_every","_law_t"] K6)(KB:o7 P w K mg base 1 "_law_behind" ["_law_one","_law_other"] (O1 K)):u6 P w K mg base CX0 3 f fd ["_law_every","_law_makers","_law_first"] zs8:=by
 refine D.F.ok e9 (λvs H Q E h=>?_) (λcdv A outer s H vs Q E hr h=>?_)
 ·obtain⟨ev,la,fa,n,as0,mas,us,ps,S,ow,rfl,_⟩:=h
  rfl
 obtain⟨ev,la,fa,n,as0,mas,us,ps,S,ow,rfl,hev,hus,hul,hall,hp,hla,hmas,hS,few0,hfa,owT,owK,hn0,hn,q⟩:=h
 have hu:=zi9 hr
 have few:=ys7 (TM.acts_sides hp) ⟨owT,owK⟩ hS few0
 have rT:∀{x},TM.Rch n S (mvS n ps) ow x->TM.IsT n x:=λ{x} ⟨w,b,hw⟩=>(hw.fact (TM.acts_sides hp) ⟨owT,owK⟩ hS).2.2.1
 refine⟨_,z7 (y8 (i:=3) e9.nd rfl (Or.inl rfl) (U7 (z0 (pv 2) z4)))
  (z7 (y8 (i:=4) e9.nd rfl (Or.inl rfl) (zx7 hu (pv 2) U6))
  (z7 (y8 (i:=5) e9.nd rfl (Or.inl rfl) x9)
  (z7 (ze9 PassesOwn.never (k8 yi8 (pv 5) (w8 p0 rfl B.len Z4 (z0 (pv 3) z4)) (n1 _))
   (z7 (X7 PassesOwn.never rfl (c9 (pv 1)) (n8 (i:=6) e9.nd rfl (Or.inl rfl))
    (z7 (y8 (i:=7) e9.nd rfl (Or.inl rfl) (q9 KL hr rfl (z0 (pv 0) (z0 (q9 KB hr rfl (z0 (d9 l9 (pv 3) (pv 5) (λ_ _=>rfl)) (z0 (pv 6) z4))) z4))))
    (z6 (l8 (B0 (S9 hu (pv 7) (pv 4))) (z7 (J6 hu (pv 4) (pv 7) U6 rfl)
     (z6 (m7 (E7 PySem.F.plainAttrs_list PySem.F.slot_list_append PySem.F.type_list_append Y0 (pv 3) (z0 (pv 7) z4))))) u8))))
   (z6 (y8 (i:=5) e9.nd rfl (Or.inl rfl) (c0 P1 (pv 5) x9)))))
  (z6 (y9 (w8 zt8 rfl B.sorted zf8 (z0 (pv 3) z4))))))),?_⟩
 refine o5 λN hN=>⟨_,rfl,(by show 1<=fQ;decide),λfl hfl0=>hN _ _ ?_⟩
 clear hN N
 have s2:=y2 hfl0 (.lst [V.ref fa])
 have f2:(upd H fl (.lst [V.ref fa])) fl=some (.lst ([fa].map V.ref)):=z3
 generalize upd H fl (.lst [V.ref fa])=H2 at s2 f2 ⊢
 refine o5 λN hN=>λhd hhd=>?_
 have hhd0:H hd=none:=s2.free hhd
 have fd:fl≠hd:=z9 f2 hhd
 have rd:fa≠hd:=z9 (s2 _ _ hfa) hhd
 refine⟨_,rfl,z3,kT ow,fa,rfl,by rw[S6,z5 rd];exact s2 _ _ hfa,hN _ _ ?_⟩
 clear hN N
 have S3:y0 H (upd (upd H2 hd (.dT [])) hd (.dT [(kT ow,V.bl true)])):=p5 (p5 s2 hhd0 _) hhd0 _
 have d3:(upd (upd H2 hd (.dT [])) hd (.dT [(kT ow,V.bl true)])) hd=some (.dT (kTs [ow])):=z3
 have f3:(upd (upd H2 hd (.dT [])) hd (.dT [(kT ow,V.bl true)])) fl=some (.lst ([fa].map V.ref)):=by rw[z5 fd,z5 fd];exact f2
 have r3:(upd (upd H2 hd (.dT [])) hd (.dT [(kT ow,V.bl true)])) fa=some (.tup (tI ow)):=by rw[z5 rd,z5 rd];exact s2 _ _ hfa
 generalize upd (upd H2 hd (.dT [])) hd (.dT [(kT ow,V.bl true)])=H3 at S3 d3 f3 r3 ⊢
 have hsz:25<fQ:=by decide
 refine o5 λN hN=>hN _ _ ?_
 clear hN N
 refine o5 λN hN=>yl6 (λσ H4=>∃(k:Nat) (L:List (List Nat)) (as:List Addr) (v5 v6:Option V),σ=[some (.ref ev),some (.ref la),some (.ref fa),some (.ref fl),some (.ref hd),some (.int k),v5,v6]/\y0 H H4/\H4 fl=some (.lst (as.map V.ref))/\i7 H4 as L/\H4 hd=some (.dT (kTs L))/\xw1 n S (mvS n ps) ow L k)
  (λ(σ:St) (_:Hp)=>match σ with|[_,_,_,_,_,some (.int k),_,_]=>25-k.toNat|_=>0)
  ⟨0,[ow],[fa],none,none,rfl,S3,f3,.cons r3 .nil,d3,by simp,by simp,λx hx=>by rw[af.mp hx];exact .own,λi x hi=>absurd hi (bX _),aP _⟩ ?_ ?_
 ·rintro σ H4 ⟨k,L,as,v5,v6,rfl,s4,f4,t4,d4,fnd⟩
  have hLl:=few L fnd.nd fnd.grp
  have hal:as.length=L.length:=Paired.length t4
  refine⟨_,rfl,_,rfl,fl,_,rfl,.inl (SqL.of f4),_,_,rfl,rfl,_,rfl,?_⟩
  rw[aa,hal]
  by_cases hk:k<L.length
  ·rw[decide_eq_true (show((k:Nat):Int)<((L.length:Nat):Int) by lia)]
   refine Z1 ?_
   have hx:L[k]?=some L[k]:=ae hk
   have hxG:=fnd.grp _ (bR hk)
   have hxT:=rT hxG
   generalize L[k]=x at hx hxG hxT
   refine o5 λM hM=>⟨_,rfl,la,rfl,⟨_,SqL.of (s4 _ _ hla)⟩,W1 (xs:=mas.map V.ref) (λj σ H5=>∃(L':List (List Nat)) (as':List Addr) (v5 v6:Option V),σ=[some (.ref ev),some (.ref la),some (.ref fa),some (.ref fl),some (.ref hd),some (.int k),v5,v6]/\y0 H H5/\H5 fl=some (.lst (as'.map V.ref))/\i7 H5 as' L'/\H5 hd=some (.dT (kTs L'))/\L'.Nodup/\(∀y∈L',TM.Rch n S (mvS n ps) ow y)/\(∃m,L'=L++m)/\∀s∈S.take j,mvS n ps x s∈L')
    ⟨L,as,v5,v6,rfl,s4,f4,t4,d4,fnd.nd,fnd.grp,⟨[],(be _).symm⟩,λs hs=>by rw[cO]at hs;cases hs⟩ (λj σ H5 _ ⟨_,_,_,_,_,s5,_⟩=>SqL.of (s5 _ _ hla)) ?_ ?_⟩
   ·clear hM hN
    rintro j y σ H5 hj ⟨L',as',v5,v6,rfl,s5,f5,t5,d5,nd5,grp5,⟨m5,em5⟩,dn5⟩
    obtain⟨c,hc,rfl⟩:=W4 hj
    obtain⟨t,ht,hct⟩:=u7 hmas j c hc
    have htS:t∈S:=av ht
    have htT:=hS t htS
    have hx5:L'[k]?=some x:=by rw[em5,aI hk];exact hx
    obtain⟨b,hb1,hb2⟩:=g7 t5 k x hx5
    have gb:atI (as'.map V.ref) ((k:Nat):Int)=some (V.ref b):=d0 (by rw[ah,hb1];rfl)
    have zT:=hxT.beh htT
    have hL5:=few L' nd5 grp5
    have hal5:as'.length=L'.length:=Paired.length t5
    refine o5 λM2 hM2=>⟨_,rfl,_,rfl,_,rfl,fl,_,_,_,rfl,rfl,SqL.of f5,gb,_,rfl,b,c,x,t,rfl,SqT.of hb2,SqT.of (s5 _ _ hct),by rw[hxT.length];lia,λz hz=>by rw[htT.length];exact hxT.lt hz,λtp0 H6 _ s6 e6=>⟨ev,tp0,n,as0,us,ps,_,rfl,(s5.trans s6) _ _ hev,hus.same (s5.trans s6),hul,hall,hp,e6,zT,hn,λtp H7 s67 e7=>hM2 _ _ ?_⟩⟩
    clear hM2 M2
    have s7:=s6.trans s67
    have e7:H7 tp=some (.tup (tI (mvS n ps x t))):=e7
    have S7:=s5.trans s7
    have d7:=s7 _ _ d5
    have f7:=s7 _ _ f5
    have t7:=t5.same s7
    have e7k:H7 tp=some (.tup ((kT (mvS n ps x t)).map kV)):=by rw[S6];exact e7
    have zG:TM.Rch n S (mvS n ps) ow (mvS n ps x t):=hxG.step htS
    refine⟨_,rfl,_,rfl,hd,_,rfl,Y2.t d7 e7k,_,rfl,?_⟩
    rw[A9]
    by_cases hz:mvS n ps x t∈L'
    ·rw[if_pos hz]
     refine i9 ⟨L',as',_,_,rfl,S7,f7,t7,d7,nd5,grp5,⟨m5,em5⟩,λs hs=>?_⟩
     rw[bc,ht]at hs
     rcases aC.mp hs with h|h
     ·exact dn5 s h
     ·obtain rfl:s=t:=by simpa using h
      exact hz
    ·rw[if_neg hz]
     refine Z1 ?_
     have hkl:(kTs L').length<fQ:=by unfold kTs;rw[aa];lia
     refine o5 λM3 hM3=>⟨_,rfl,_,rfl,hd,_,rfl,zn0.t d7 e7k hkl,hM3 _ _ ?_⟩
     clear hM3 M3
     rw[zx9 hz]
     have fd7:fl≠hd:=fd
     have tph:tp≠hd:=λz=>by subst z;rw[d7]at e7;cases e7
     have ntd:∀xs,H7 hd≠some (.tup xs):=λxs z=>by rw[d7]at z;cases z
     have S8:y0 H (upd H7 hd (.dT (kTs (L'++[mvS n ps x t])))):=p5 S7 hhd0 _
     have f8:(upd H7 hd (.dT (kTs (L'++[mvS n ps x t])))) fl=some (.lst (as'.map V.ref)):=by rw[z5 fd7];exact f7
     have d8:(upd H7 hd (.dT (kTs (L'++[mvS n ps x t])))) hd=some (.dT (kTs (L'++[mvS n ps x t]))):=z3
     have t8:=i7.upd (o:=.dT (kTs (L'++[mvS n ps x t]))) t7 ntd
     have e8:(upd H7 hd (.dT (kTs (L'++[mvS n ps x t])))) tp=some (.tup (tI (mvS n ps x t))):=by rw[z5 tph];exact e7
     generalize upd H7 hd (.dT (kTs (L'++[mvS n ps x t])))=H8 at S8 f8 d8 t8 e8 ⊢
     refine⟨_,rfl,.inl ⟨rfl,_,SqL.of f8⟩,_,rfl,fl,_,_,rfl,rfl,f8,by rw[aa,hal5];lia,?_⟩
     have ntf:∀xs,H8 fl≠some (.tup xs):=λxs z=>by rw[f8]at z;cases z
     refine⟨L'++[mvS n ps x t],as'++[tp],_,_,rfl,p5 S8 hfl0 _,by rw[z3,aG];rfl,Paired.snoc (t8.upd ntf) (by rw[z5 (λz=>by subst z;rw[f8]at e8;cases e8)];exact e8),by rw[z5 (Ne.symm fd)];exact d8,?_,λy hy=>?_,⟨m5++[mvS n ps x t],by rw[em5,bz]⟩,λs hs=>?_⟩
     ·refine bu.mpr ⟨nd5,by simp,λa ha c hc e=>hz ?_⟩
      rw[←af.mp hc,←e]
      exact ha
     ·rcases aC.mp hy with h|h
      ·exact grp5 y h
      ·rw[af.mp h];exact zG
     ·rw[bc,ht]at hs
      rcases aC.mp hs with h|h
      ·exact aH _ (dn5 s h)
      ·obtain rfl:s=t:=by simpa using h
       exact aJ _ (by simp)
   ·rintro σ H5 ⟨L',as',v5,v6,rfl,s5,f5,t5,d5,nd5,grp5,⟨m5,em5⟩,dn5⟩
    rw[aa,Paired.length hmas,bn]at dn5
    refine hM _ _ ?_
    clear hM M hN
    have hL5:=few L' nd5 grp5
    refine⟨_,rfl,_,_,rfl,rfl,⟨k+1,L',as',v5,v6,?_,s5,f5,t5,d5,nd5,by rw[em5];exact aH _ fnd.one,grp5,λi y hi hy s hs=>?_,?_⟩,?_⟩
    ·rw[show((k+1:Nat):Int)=(k:Int)+1 by lia]
     rfl
    ·by_cases e:i=k
     ·subst e
      rw[em5,aI hk,hx]at hy
      rw[←Option.some.inj hy]
      exact dn5 s hs
     ·have hi':i<k:=by lia
      rw[em5,aI (by lia)]at hy
      rw[em5]
      exact aH _ (fnd.done i y hi' hy s hs)
    ·rw[em5,aq]
     lia
    ·show 25-((k:Int)+1).toNat<25-((k:Int)).toNat
     lia
  ·rw[decide_eq_false (show ¬((k:Nat):Int)<((L.length:Nat):Int) by lia)]
   refine i9 (hN _ _ ?_)
   clear hN N
   have hle:=fnd.le
   have gAll:∀x,x∈L↔TM.Rch n S (mvS n ps) ow x:=λx=>⟨fnd.grp x,λh=>h.in (P:=λk=>k∈L) fnd.one λy s hy hs=>by
    obtain⟨i,hi,e⟩:=bv.mp hy
    exact fnd.done i y (by lia) (by rw[ae hi,e]) s hs⟩
   refine⟨_,rfl,fl,as,L.map TM.iN,rfl,SqL.of f4,xm5 t4,λx hx=>?_,by rw[aa];lia,λl bs qs hl0 hq1 hq2 hq3=>?_⟩
   ·obtain⟨y,hy,rfl⟩:=au.mp hx
    intro e
    have hl:=(rT (fnd.grp y hy)).length
    have:y.length=0:=by rw[show y.length=(TM.iN y).length by unfold TM.iN;rw[aa],e];rfl
    lia
   ·obtain⟨M,hM,rfl⟩:=zy0 hq1
    have sl:=y2 hl0 (.lst (bs.map V.ref))
    refine q l bs M _ (s4.free hl0) (s4.trans sl) z3 ((yc4 hq3).same sl) (hM.nodup_iff.mpr fnd.nd) (bj.mp hq2) λx=>?_
    rw[hM.mem_iff]
    exact gAll x
 ·rintro σ H4 Q1 Q2 h ⟨a1,e1,a2,e2,a3,a4,e3,sq,b1,b2,e4,e5,k,e6,q1⟩
  exact⟨a1,e1,a2,e2,a3,a4,e3,sq,b1,b2,e4,e5,k,e6,h _ _ q1⟩
def wkS (ts:List (List Nat))(mv:List Nat->List Nat->List Nat)(ow:List Nat)(w:List Nat):List Nat:=w.foldl (λk i=>mv k (ts.getD i [])) ow
theorem yl7 (ts:List (List Nat))(mv:List Nat->List Nat->List Nat)(ow w:List Nat)(i:Nat):wkS ts mv ow (w++[i])=mv (wkS ts mv ow w) (ts.getD i []):=by
 unfold wkS
 rw[List.foldl_append]
 rfl
theorem xs6 {n:Nat}{ts:List (List Nat)}{mv:List Nat->List Nat->List Nat}{ow k w b:List Nat}(h:TM.Ways n ts mv ow k w b):wkS ts mv ow w=k/\∀i∈w,i<ts.length:=by
 induction h with
 | own=>exact⟨rfl,λi hi=>(by cases hi)⟩
 | @step k w b t i _ hi ih =>
  refine⟨?_,λj hj=>?_⟩
  ·rw[yl7,ih.1,ay,hi]
   rfl
  ·rcases aC.mp hj with z|z
   ·exact ih.2 j z
   ·rw[af.mp z]
    exact(al.mp hi).1
def yt8 (cR cD cG cC cB cS:Addr):Sp:=λvs H Q _=>∃(ts:List (List Nat)) (S:ChS) (H0:Hp) (x g a r wd bd:Addr) (es:List Ent) (most:Nat) (ev ml oa ta:Addr) (n:Nat) (ps:List (List Nat)) (as mas:List Addr) (us:List (List Nat)) (o:List Nat) (e:Ent),vs=[.ref x,.ref ev,.ref ml,.ref oa,.ref ta]/\c3 cR cG cC cB cS n (p7 cD cG cC cB cS n ps) ts S H0 H x g a r wd bd es/\zw2 n ts (mvS n ps) (TM.lsd n (λz=>z∈ps) o) most es/\(∀t∈ps,TM.IsT n t)/\H ev=some (.lst (as.map V.ref))/\i7 H as us/\us.length<=24/\(∀u,u∈us↔TM.Grp n (λz=>z∈ps) u)/\H ml=some (.lst (mas.map V.ref))/\i7 H mas ts/\H oa=some (.tup (tI o))/\TM.IsT n o/\H ta=some (.tup (tI e.k))/\e∈es/\n<=60/\∀H':Hp,y0 H H'->Q (.bl true) H'
theorem V7:y4 ["_law_ring","_law_every","_law_movers","_law_one","_law_thing","_law_here","_law_told","_law_way","_law_k"] ["_law_ring","_law_every","_law_movers","_law_one","_law_thing"] (z8 zc4):=scq
theorem yi5 {cR cD cG cC cB cS:Addr}(D:Def K mg "_law_led" zc4 ["_law_ring","_law_every","_law_movers","_law_one","_law_thing"] f fd)(B:Blt mg)(cr:p4 K cR K3)(MW:∀(n:Nat) (ps:List (List Nat)),(∀t∈ps,TM.IsT n t)->l4 P w K mg base 8 cR "way" ["self","thing"] (xg8 cR cG cC cB cS n (p7 cD cG cC cB cS n ps) (LKS n ps)))(MF:∀(n:Nat) (ps:List (List Nat)),(∀t∈ps,TM.IsT n t)->l4 P w K mg base 8 cR "far" ["self","thing"] (xg1 cR cG cC cB cS n (p7 cD cG cC cB cS n ps) (LKS n ps)))(KL:o7 P w K mg base 2 "_law_least" ["_law_every","_law_t"] K6)(KB:o7 P w K mg base 1 "_law_behind" ["_law_one","_law_other"] (O1 K)):u6 P w K mg base CX0 9 f fd ["_law_ring","_law_every","_law_movers","_law_one","_law_thing"] (yt8 cR cD cG cC cB cS):=by
 refine D.F.ok V7 (λvs H Q E h=>?_) (λcdv A outer s H vs Q E hr h=>?_)
 ·obtain⟨ts,S,H0,x,g,a,r,wd,bd,es,most,ev,ml,oa,ta,n,ps,as,mas,us,o,e,rfl,_⟩:=h
  rfl
 obtain⟨ts,S,H0,x,g,a,r,wd,bd,es,most,ev,ml,oa,ta,n,ps,as,mas,us,o,e,rfl,ra,wh,hp,hev,hus,hul,hall,hml,hmas,hoa,oT,hta,he,hn,q⟩:=h
 have hz:=p9
 apply O0
 ·apply y6
  ·exact DS.mk (y8 (i:=5) V7.nd rfl (Or.inl rfl) (q9 KL hr rfl (z0 (pv 1) (z0 (pv 3) z4))))
  apply y6
  ·exact DS.mk (y8 (i:=6) V7.nd rfl (Or.inl rfl) (q9 KB hr rfl (z0 (d9 l9 (pv 1) (xn1 xh8 x9) (λ_ _=>rfl)) (z0 (pv 4) z4))))
  apply y6
  ·exact DS.mk (y8 (i:=7) V7.nd rfl (Or.inl rfl) (l7 cr.cls (MW n ps hp) hr (pv 0) (z0 (pv 6) z4)))
  apply y6
  ·exact DS.mk (X7 PassesOwn.never rfl (c9 (pv 7)) (n8 (i:=8) V7.nd rfl (Or.inl rfl))
    (z6 (y8 (i:=5) V7.nd rfl (Or.inl rfl) (q9 KL hr rfl (z0 (pv 1) (z0 (q9 KB hr rfl (z0 (pv 5) (z0 (d9 l9 (pv 2) (pv 8) (λ_ _=>rfl)) z4))) z4))))))
  exact DSs.mk (z6 (y9 (C7 (Q3 (yb3 hr.units) (pv 5) (pv 4) (n1 _)) (C7 (Q3 zj2 (l7 cr.cls (MF n ps hp) hr (pv 0) (z0 (pv 6) z4)) (w8 p0 rfl B.len Z4 (z0 (pv 7) z4)) (n1 _)) (zb7 (Q3 zj2 (l7 cr.cls (MF n ps hp) hr (pv 0) (z0 (pv 4) z4)) (w8 p0 rfl B.len Z4 (z0 (pv 7) z4)) (n1 _)))))))
 have h0:0<us.length:=bL ((hall (List.range n)).mpr .one)
 have tT:=ra.ga.tT
 have owT:TM.IsT n (TM.lsd n (λz=>z∈ps) o):=TM.lsd_isT hp oT
 have owK:TM.lsd n (λz=>z∈ps) (TM.lsd n (λz=>z∈ps) o)=TM.lsd n (λz=>z∈ps) o:=TM.lsd_lsd hp oT
 obtain⟨ow,eow⟩:∃u,u=TM.lsd n (λz=>z∈ps) o:=⟨_,rfl⟩
 rw[←eow]at wh owT owK
 obtain⟨ew,hw⟩:=xs6 (wh.w e he)
 obtain⟨eT,eK⟩:=((wh.w e he).fact (TM.acts_sides hp) ⟨owT,owK⟩ tT).2.2
 have wl:=(ra.d.at' e he).2.2
 refine o5 λN hN=>⟨_,rfl,_,rfl,ev,oa,n,as,us,ps,o,rfl,hev,hus,hul,hall,hp,hoa,oT,hn,λh1 H1 s1 hh1=>hN _ _ ?_⟩
 clear hN N
 rw[←eow]at hh1
 obtain⟨b,u,hb1,hub,hb2⟩:=yr3 hus h0
 have uG:=(hall u).mp hub
 have uT:=uG.isT hp
 refine o5 λN hN=>⟨_,rfl,_,rfl,ev,_,_,_,rfl,rfl,SqL.of (s1 _ _ hev),hb1,_,rfl,b,ta,u,e.k,rfl,SqT.of (s1 _ _ hb2),SqT.of (s1 _ _ hta),by rw[uT.length];lia,λy hy=>by rw[eT.length];exact uT.lt hy,λtl H2 _ s2 ht2=>hN _ _ ?_⟩
 clear hN N
 have ht2:H2 tl=some (.tup (tI (TM.beh u e.k))):=ht2
 have s12:=s1.trans s2
 have el:TM.lsd n (λz=>z∈ps) (TM.beh u e.k)=e.k:=by
  rw[(TM.lsd_iff hp (uT.beh eT) eT).mpr (TM.Side.symm hp eT ⟨u,uG,rfl⟩),eK]
 have lk2:LKS n ps H2 (.ref tl) (some e.k):=by
  have:=LKS.of (ps:=ps) ht2 (uT.beh eT) hn
  rwa [el]at this
 obtain⟨dx,hx⟩:=ra.x'
 refine o5 λN hN=>⟨_,rfl,x,dx,_,rfl,s12 _ _ hx,rfl,_,rfl,ts,S,H0,x,g,a,r,wd,bd,es,.ref tl,e,rfl,ra.same s12,lk2,he,λwy H3 _ s3 hwy=>hN _ _ ?_⟩
 clear hN N
 have s13:=s12.trans s3
 refine o5 λN hN=>⟨_,rfl,wy,rfl,⟨_,SqL.of hwy⟩,W1 (xs:=tI e.w) (λj σ G=>∃(hj:Addr) (v8:Option V),σ=[some (.ref x),some (.ref ev),some (.ref ml),some (.ref oa),some (.ref ta),some (.ref hj),some (.ref tl),some (.ref wy),v8]/\y0 H3 G/\G hj=some (.tup (tI (wkS ts (mvS n ps) ow (e.w.take j))))/\TM.IsT n (wkS ts (mvS n ps) ow (e.w.take j)))
  ⟨h1,none,rfl,y0.refl _,(s2.trans s3) _ _ hh1,owT⟩ (λj σ G _ ⟨_,_,_,s,_⟩=>SqL.of (s _ _ hwy)) ?_ ?_⟩
 ·clear hN
  rintro j y σ G hy ⟨hj,v8,rfl,sG,hhj,jT⟩
  obtain⟨i,hi,rfl⟩:=M6 hy
  have hil:=hw i (av hi)
  have hti:ts[i]?=some ts[i]:=ae hil
  have tiT:=tT _ (bR hil)
  obtain⟨c,hc1,hc2⟩:=g7 hmas i _ hti
  have gc:atI (mas.map V.ref) ((i:Nat):Int)=some (V.ref c):=d0 (by rw[ah,hc1];rfl)
  have s0G:=s13.trans sG
  have nx:wkS ts (mvS n ps) ow (e.w.take (j+1))=mvS n ps (wkS ts (mvS n ps) ow (e.w.take j)) ts[i]:=by
   rw[bc,hi]
   show wkS ts (mvS n ps) ow (e.w.take j++[i])=_
   rw[yl7,ay,hti]
   rfl
  refine⟨_,rfl,_,rfl,_,rfl,_,rfl,ml,_,_,_,rfl,rfl,SqL.of (s0G _ _ hml),gc,hj,c,_,ts[i],rfl,SqT.of hhj,SqT.of (s0G _ _ hc2),by rw[jT.length];lia,λy hy=>by rw[tiT.length];exact jT.lt hy,λz G2 _ s2' hz2=>⟨ev,z,n,as,us,ps,_,rfl,(s0G.trans s2') _ _ hev,hus.same (s0G.trans s2'),hul,hall,hp,hz2,jT.beh tiT,hn,λhk G3 s3' hhk=>⟨hk,_,rfl,sG.trans (s2'.trans s3'),by rw[nx];exact hhk,by rw[nx];exact TM.lsd_isT hp (jT.beh tiT)⟩⟩⟩
 rintro σ G ⟨hj,v8,rfl,sG,hhj,jT⟩
 rw[v0,bn,ew]at hhj
 refine hN _ _ ?_
 clear hN N
 have s0G:=s13.trans sG
 have s3G:=s3.trans sG
 have sS:=N3 e.k
 refine⟨_,rfl,_,rfl,V2 e.k,V2 e.k,X0 hhj,X0 (s0G _ _ hta),sS,sS,?_⟩
 rw[zd4,decide_eq_true rfl]
 refine⟨_,rfl,Z1 ⟨_,rfl,x,dx,_,rfl,s0G _ _ hx,rfl,_,rfl,ts,S,H0,x,g,a,r,wd,bd,es,.ref tl,e,rfl,ra.same s0G,lk2.same s3G,he,λG1 sg1=>?_⟩⟩
 have w1:=(sG.trans sg1) _ _ hwy
 have s01:=s0G.trans sg1
 have lkT:LKS n ps G1 (.ref ta) (some e.k):=by
  have:=LKS.of (ps:=ps) (s01 _ _ hta) eT hn
  rwa [eK]at this
 refine⟨_,rfl,wy,_,rfl,.inl (SqL.of w1),rfl,_,rfl,?_⟩
 rw[v0,decide_eq_true rfl]
 refine Z1 ⟨_,rfl,x,dx,_,rfl,s01 _ _ hx,rfl,_,rfl,ts,S,H0,x,g,a,r,wd,bd,es,.ref ta,e,rfl,ra.same s01,lkT,he,λG2 sg2=>⟨_,rfl,wy,_,rfl,.inl (SqL.of (sg2 _ _ w1)),rfl,?_⟩⟩
 rw[v0,decide_eq_true rfl]
 exact q G2 (s01.trans sg2)
theorem yr1 {H:Hp}{x dx b cG:Addr}{o:HO}(hx:H x=none)(hd:H dx=none)(h:H b=some o):(upd (upd H dx (.own x)) x (.ins cG dx [])) b=some o:=by
 rw[z5 (z9 h hx),z5 (z9 h hd)]
 exact h
theorem tsU {H:Hp}{x dx cG:Addr}{as:List Addr}{ts:List (List Nat)}(hx:H x=none)(hd:H dx=none)(h:i7 H as ts):i7 (upd (upd H dx (.own x)) x (.ins cG dx [])) as ts:=Paired.imp' (λb z e=>yr1 hx hd e) h
theorem xf9 {H H':Hp}{x dx cG:Addr}(hx:H x=none)(hd:H dx=none)(fr:y1 [x] (upd (upd H dx (.own x)) x (.ins cG dx [])) H'):y0 H H':=λb u h=>fr b u (by simpa using z9 h hx) (yr1 hx hd h)
theorem LKS.ok {n:Nat}{ps:List (List Nat)}(hp:∀t∈ps,TM.IsT n t){H:Hp}{v:V}{l:List Nat}(h:LKS n ps H v (some l)):TM.IsT n l:=by
 obtain⟨d,_,_,⟨t,_,tT,e⟩|⟨_,e⟩⟩:=h
 ·rw[Option.some.inj e]
  exact TM.lsd_isT hp tT
 ·cases e
theorem xh0 {L M:List (List Nat)}(h:Srt L)(h':Srt M)(p:L.Perm M):L=M :=
 List.Perm.eq_of_pairwise (λa b _ _ h1 h2=>by
  have e:=zp6 h2 h1
  rw[←zm1 a,←zm1 b,e]) h h' p
theorem xi7 {X:Cx}{st:List Stmt}{ι:Type}{t:ι->TS}(h:∀i,DSs X st (t i)):DSs X st (λD σ H=>∃i,t i D σ H):=DSs.mk λpins s σ H D I ⟨i,hi⟩=>(h i).h pins s σ H D I hi
structure Prt where
 n:Nat
 ps:List (List Nat)
 hp:∀t∈ps,TM.IsT n t
theorem xb0 (ns:List Int)(lo hi:Option Int):∃ms:List Int,za1 (ns.map V.int) lo hi=ms.map V.int/\ms.length<=ns.length:=by
 refine⟨(ns.drop (HT.sIx (ns.map V.int).length 0 lo)).take (HT.sIx (ns.map V.int).length (ns.map V.int).length hi-HT.sIx (ns.map V.int).length 0 lo),?_,?_⟩
 ·unfold za1
  rw[dQ,eR]
 ·rw[bI,bE]
  lia
theorem yf8 (row:List Nat)(k:Nat):za1 (tI row) none (some (k:Int))=tI (row.take k):=by
 unfold za1
 rw[HT.sIx_none,HT.sIx_nat,List.drop_zero,di]
 unfold tI
 rw[dQ]
 by_cases h:k<=(row.map λ(x:Nat)=>V.int x).length
 ·rw[eD h]
 ·rw[Nat.min_eq_right (by lia),bn,bV (by lia)]
theorem xt5:∀k,k<5->TM.fac k<=24:=by decide
theorem xb1 {n f:Nat}{row:List Nat}(hT:TM.IsT n row)(h1:1<=f):∃W:List Nat,za1 (tI row) (some ((f:Int)-1)) (some ((f:Int)+2))=tI W/\W.Nodup/\(∀x∈W,x<n)/\W.length<=3:=by
 have e1:(f:Int)-1=((f-1:Nat):Int):=by lia
 have e2:(f:Int)+2=((f+2:Nat):Int):=by lia
 refine⟨(row.drop (min (f-1) row.length)).take (min (f+2) row.length-min (f-1) row.length),?_,hT.nodup.sublist ((dU _ _).trans (List.drop_sublist _ _)),λx hx=>hT.lt (List.mem_of_mem_drop (bS hx)),?_⟩
 ·rw[e1,e2]
  unfold za1
  rw[HT.sIx_nat,HT.sIx_nat,v0]
  unfold tI
  rw[dQ,eR]
 ·rw[bI,bE]
  lia
theorem yr4 {n:Nat}{ps:List (List Nat)}{H:Hp}{a:Addr}{xs:List V}{ds:List PyData}(h:H a=some (.lst xs))(hd:Dts H xs ds):LKS n ps H (.ref a) none:=⟨.list ds,.lst h hd,λ_ e=>(by cases e),.inr ⟨λt e=>(by unfold dRw at e;cases e),rfl⟩⟩
theorem yr5 {n:Nat}{ps:List (List Nat)}{H:Hp}{a:Addr}{t:List Nat}(h:H a=some (.tup (tI t)))(hl:t.length≠n)(h1:t.length<=100):LKS n ps H (.ref a) none:=by
 refine⟨dRw t,zg8 h,λds e=>?_,.inr ⟨λt' e tT=>hl ?_,rfl⟩⟩
 ·unfold dRw at e
  cases e
  rw[aa]
  exact h1
 ·unfold dRw at e
  have:=congrArg List.length (PyData.tuple.inj e)
  rw[aa,aa,tT.length]at this
  exact this
theorem xi5 {row:List Nat}:za1 (tI row) (some 1) none=tI (row.drop 1):=by
 unfold za1
 rw[HT.sIx_none,show(some (1:Int))=some ((1:Nat):Int) from rfl,HT.sIx_nat,v0]
 unfold tI
 rw[←eR]
 by_cases h:1<=row.length
 ·rw[eD h,←dQ,bV (by rw[bE];exact ag _)]
 ·obtain rfl:row=[]:=List.eq_nil_of_length_eq_zero (by lia)
  rfl
theorem Z7:y4 ["_law_script","_law_many","_law_strewn","_law_first","_law_makers","_law_every","_law_act","_law_cell_here","_law_one","_law_other","_law_bad","_law_lead","_law_movers","_law_group","_law_ring","_law_keepers"] ["_law_script"] (z8 zj5):=scq
theorem xq6 {cA cD cR cG cC cB cS:Addr}(D:Def K mg "law" zj5 ["_law_script"] f fd)(B:Blt mg)(cg:p4 K cG Y6)(cd:p4 K cD ["many","part"])(cr:p4 K cR K3)(gA:mg "Act"=some (.ref cA))(ask:xn8 K cD)(up:PySem.W.kitOne K (.ref cD) (.ref cA)=some true)(KG:zt6 P w K mg base 7 cG "Group" ["self","many","makers"] (zs5 cG cC cB cS))(KSd:zt6 P w K mg base 2 cD "Sides" ["self","part"] (zs6 cD cG cC cB cS))(RC:∀i:Prt,xi1 P w K mg base 8 cR "Ring" ["self","group","act","thing","most"] [.int 1000] (yd7 cR cG cC cB cS i.n (p7 cD cG cC cB cS i.n i.ps) (LKS i.n i.ps) (TM.IsT i.n) (mvS i.n i.ps)))
  (MTh:∀i:Prt,l4 P w K mg base 1 cR "things" ["self"] (zs7 cR cG cC cB cS i.n (p7 cD cG cC cB cS i.n i.ps))) (MKp:∀i:Prt,l4 P w K mg base 10 cR "keepers" ["self"] (zh5 cR cG cC cB cS i.n (p7 cD cG cC cB cS i.n i.ps) (TM.IsT i.n) (mvS i.n i.ps))) (MK:∀i:Prt,l4 P w K mg base 7 cD "kept" ["self","thing","t"] (zm6 i.n (p7 cD cG cC cB cS i.n i.ps) (LKS i.n i.ps) (mvS i.n i.ps)))
  (MH:l4 P w K mg base 4 cG "has" ["self","thing"] (xn3 cG cC cB cS)) (MS:l4 P w K mg base 2 cG "size" ["self"] (yd3 cG cC cB cS)) (MT:l4 P w K mg base 1 cG "told" ["self"] (yd9 cG cC cB cS)) (KC:o7 P w K mg base 1 "_law_cell" ["_law_script","_law_k"] (yk6 K)) (KO:o7 P w K mg base 1 "_law_order" ["_law_number","_law_many"] zh7) (KM:o7 P w K mg base 2 "_law_maker" ["_law_cell_here","_law_window","_law_many"] zy3) (KA:o7 P w K mg base 2 "_law_all" ["_law_makers","_law_many"] ys9)
  (KL:o7 P w K mg base 2 "_law_least" ["_law_every","_law_t"] K6) (KGd:o7 P w K mg base 8 "_law_good" ["_law_act","_law_every","_law_one","_law_other"] (yk7 cD cG cC cB cS)) (KF:o7 P w K mg base 8 "_law_refused" ["_law_act","_law_thing"] (zj9 cD cG cC cB cS)) (KT:o7 P w K mg base 3 "_law_things" ["_law_every","_law_makers","_law_first"] zs8) (KLd:o7 P w K mg base 9 "_law_led" ["_law_ring","_law_every","_law_movers","_law_one","_law_thing"] (yt8 cR cD cG cC cB cS)):u6 P w K mg base CX0 11 f fd ["_law_script"] (yt6 K):=by
 refine D.F.ok Z7 (λvs H Q E h=>?_) (λcdv A outer s H vs Q E hr h=>?_)
 ·obtain⟨a,ns,rfl,_⟩:=h
  rfl
 obtain⟨sa,ns,rfl,hS,h63,hbits,q⟩:=h
 have hz:=p9
 apply O0
 ·apply y6
  ·exact DS.mk (y8 (i:=1) Z7.nd rfl (Or.inr rfl) (c0 P1 x9 (c0 zg7 (q9 KC hr rfl (z0 (pv 0) (z0 x9 z4))) x9)))
  apply y6
  ·exact DS.mk (y8 (i:=2) Z7.nd rfl (Or.inr rfl) (q9 KO hr rfl (z0 (q9 KC hr rfl (z0 (pv 0) (z0 x9 z4))) (z0 (pv 1) z4))))
  apply y6
  ·exact DS.mk (y8 (i:=3) Z7.nd rfl (Or.inr rfl) (c0 P1 x9 (c0 zg7 (q9 KC hr rfl (z0 (pv 0) (z0 x9 z4))) x9)))
  apply y6
  ·exact DS.mk (l8 (k8 yi8 (pv 1) x9 (n1 _)) (z6 (y8 (i:=3) Z7.nd rfl (Or.inr rfl) (c0 P1 x9 (c0 zg7 (q9 KC hr rfl (z0 (pv 0) (z0 x9 z4))) x9)))) u8)
  apply y6
  ·exact DS.mk (yj3 (i:=4) [1,2,3,0] ["_law_k","_law_many","_law_strewn","_law_first","_law_script"] Z7.nd rfl rfl rfl (A7 rfl B.range (z0 (c0 zg7 (c0 ze6 (q9 KC hr rfl (z0 (pv 0) (z0 x9 z4))) x9) x9) z4)) (λ_ _ _ _=>q9 KM hr rfl (z0 (q9 KC hr rfl (z0 (pv 4) (z0 (c0 P1 x9 (pv 0)) z4))) (z0 (O4 A8 (pv 2) ze8 (P9 (pv 3))) (z0 (pv 1) z4)))))
  apply y6
  ·exact DS.mk (y8 (i:=5) Z7.nd rfl (Or.inr rfl) (q9 KA hr rfl (z0 (pv 4) (z0 (pv 1) z4))))
  apply y6
  ·exact DS.mk (y8 (i:=6) Z7.nd rfl (Or.inr rfl) (J4 KSd hr rfl (z0 (J4 KG hr rfl (z0 (pv 1) (z0 (pv 4) z4))) z4)))
  apply y6
  ·exact DS.mk (l8 (PW.pt (zj4 (k8 yi9 (y3 (pv 6) rfl) (pv 1) (n1 _)) (zb8 (X8 (Y5 (w8 zy9 rfl B.isinstance i5 (z0 (pv 6) (z0 (yr9 (v:=.ref cA) rfl gA rfl) z4)))))))) (z6 (y9 U6)) u8)
  apply y6
  ·exact DS.mk (X7 PassesOwn.never rfl (c9 (O4 A8 (pv 0) (P9 x9) (P9 x9))) (n8 (i:=7) Z7.nd rfl (Or.inl rfl))
    (z7 (y8 (i:=8) Z7.nd rfl (Or.inr rfl) (t9 h8 rfl B.tuple c5 (z0 (q9 KO hr rfl (z0 (pv 7) (z0 (pv 1) z4))) z4)))
    (z7 (y8 (i:=9) Z7.nd rfl (Or.inl rfl) (pv 8))
    (z7 (l8 (k8 xe5 (c0 zg7 (c0 ze6 (pv 7) x9) x9) x9 (n1 _)) (z6 (y8 (i:=9) Z7.nd rfl (Or.inl rfl) (q9 KM hr rfl (z0 (c0 ze6 (pv 7) x9) (z0 (O4 A8 (pv 2) ze8 (P9 (pv 3))) (z0 (pv 1) z4)))))) u8)
    (z7 (l8 (PW.pt (zj4 (X8 (Y5 (q9 KGd hr rfl (z0 (pv 6) (z0 (pv 5) (z0 (pv 8) (z0 (pv 9) z4))))))) (zb8 (X8 (Y5 (q9 KGd hr rfl (z0 (pv 6) (z0 (pv 5) (z0 (t9 (U1 rfl) rfl B.tuple c5 (z0 (t9 T8 rfl B.range O2 (z0 (pv 1) z4)) z4)) (z0 (pv 9) z4)))))))))) (z6 (y9 U6)) u8)
    (z6 (X7 PassesOwn.never rfl (c9 (U7 (z0 (t9 P6 rfl B.list M4 (z0 (pv 8) z4)) (z0 (c0 yi7 (pv 8) (J5 (z0 (pv 1) z4))) (z0 (O4 xr8 (pv 8) (P9 x9) ze8) (z0 (pv 1) (z0 C8 (z0 (U7 (z0 (pv 8) z4)) z4)))))))) (n8 (i:=10) Z7.nd rfl (Or.inl rfl))
     (z6 (l8 (X8 (Y5 (q9 KF hr rfl (z0 (pv 6) (z0 (pv 10) z4))))) (z6 (y9 U6)) u8)))))))))
  apply xi7
  intro i
  apply y6
  ·exact DS.mk (y8 (i:=11) Z7.nd rfl (Or.inr rfl) (O4 A8 (pv 2) (P9 (c0 yb5 (pv 3) x9)) (P9 (c0 P1 (pv 3) x9))))
  apply y6
  ·exact DS.mk (y8 (i:=12) Z7.nd rfl (Or.inr rfl) (c7 [11,1,0] ["_law_k","_law_lead","_law_many","_law_script"] rfl (A7 rfl B.range (z0 (c0 zg7 (c0 ze6 (q9 KC hr rfl (z0 (pv 0) (z0 x9 z4))) x9) x9) z4)) (λ_ _ _ _=>q9 KM hr rfl (z0 (q9 KC hr rfl (z0 (pv 3) (z0 (c0 P1 x9 (pv 0)) z4))) (z0 (pv 1) (z0 (pv 2) z4))))))
  apply y6
  ·exact DS.mk (y8 (i:=8) Z7.nd rfl (Or.inr rfl) (t9 h8 rfl B.tuple c5 (z0 (pv 2) z4)))
  apply y6
  ·exact DS.mk (y8 (i:=13) Z7.nd rfl (Or.inr rfl) (J4 KG hr rfl (z0 (pv 1) (z0 (pv 12) z4))))
  apply y6
  ·exact DS.mk (y8 (i:=14) Z7.nd rfl (Or.inr rfl) (xk6 (RC i) hr rfl (z0 (pv 13) (z0 (pv 6) (z0 (pv 8) z4)))))
  apply y6
  ·exact DS.mk (l8 (k8 (yb4 hr.units) (X6 cr.cls (MTh i) hr (pv 14)) (q9 KT hr rfl (z0 (pv 5) (z0 (pv 12) (z0 (q9 KL hr rfl (z0 (pv 5) (z0 (pv 8) z4))) z4)))) (n1 _)) (z6 (y9 U6)) u8)
  apply y6
  ·exact DS.mk (y8 (i:=15) Z7.nd rfl (Or.inl rfl) (X6 cr.cls (MKp i) hr (pv 14)))
  apply y6
  ·exact DS.mk (l8 (k8 yi9 (c0 xq8 (X6 cg.cls MS hr (pv 15)) (w8 p0 rfl B.len Z4 (z0 (X6 cr.cls (MTh i) hr (pv 14)) z4))) (X6 cg.cls MS hr (pv 13)) (n1 _)) (z6 (y9 U6)) u8)
  apply y6
  ·exact DS.mk (l8 (X8 (Y5 (w8 (K1 rfl) rfl B.all zn8 (z0 (c7 [13,6,8] ["_law_t","_law_group","_law_act","_law_one"] rfl (c9 (X6 cg.cls MT hr (pv 15))) (λ_ _ _ _=>C7 (l7 cg.cls MH hr (pv 1) (z0 (pv 0) z4)) (zb7 (l7 cd.cls (MK i) hr (pv 2) (z0 (pv 3) (z0 (pv 0) z4)))))) z4)))) (z6 (y9 U6)) u8)
  exact DSs.mk (z6 (y9 (w8 (K1 rfl) rfl B.all zn8 (z0 (c7 [14,5,12,8] ["_law_thing","_law_ring","_law_every","_law_movers","_law_one"] rfl (c9 (X6 cr.cls (MTh i) hr (pv 14))) (λ_ _ _ _=>q9 KLd hr rfl (z0 (pv 1) (z0 (pv 2) (z0 (pv 3) (z0 (pv 4) (z0 (pv 0) z4))))))) z4))))
 obtain⟨n,en,hn1,hn⟩:=xj6 (ns.getD 0 0)
 refine o5 λN hN=>⟨_,rfl,sa,ns,0,rfl,hS,_,_,rfl,rfl,(by show(0:Int)<60;decide),_,_,rfl,rfl,hN _ _ ?_⟩
 clear hN N
 dsimp only
 rw[en]
 refine o5 λN hN=>⟨_,rfl,sa,ns,1,rfl,hS,_,rfl,_,n,rfl,by lia,λst H1 row _ s1 hT _ hst=>hN _ _ ?_⟩
 clear hN N
 have hS1:=s1.seq hS
 have w1:∀k,(row.take k).Nodup:=λk=>hT.nodup.sublist (dU _ _)
 have w2:∀k,∀x∈row.take k,x<n:=λk x hx=>hT.lt (bS hx)
 have w3:∀k,(row.take k).length<=k:=λk=>by rw[bI];lia
 obtain⟨c,ec⟩:∃c,c=ns.getD 2 0:=⟨_,rfl⟩
 obtain⟨f0,ef0,hf0,hf0'⟩:∃f0:Nat,1+c % 3=(f0:Int)/\f0<=4/\1<=f0:=⟨(1+c % 3).toNat,by lia,by lia,by lia⟩
 obtain⟨f1,ef1,hf1,hf1'⟩:∃f1:Nat,1+c % 4=(f1:Int)/\f1<=4/\1<=f1:=⟨(1+c % 4).toNat,by lia,by lia,by lia⟩
 refine o5 λN hN=>⟨_,rfl,sa,ns,2,rfl,hS1,_,_,rfl,rfl,(by show(0:Int)<3;decide),_,_,rfl,rfl,hN _ _ ?_⟩
 clear hN N
 dsimp only
 rw[←ec,ef0]
 refine o5 λN hN=>?_
 have key:∀fi:Nat,fi<=4->1<=fi->N [some (.ref sa),some (.int n),some (.ref st),some (.int fi),none,none,none,none,none,none,none,none,none,none,none,none] H1:=by
  intro fi hfi hfi'
  refine hN _ _ ?_
  clear hN N ef0 hf0 hf0' ef1 hf1 hf1' f0 f1
  refine o5 λN hN=>⟨_,rfl,sa,ns,2,rfl,hS1,_,_,rfl,rfl,⟨by decide,by decide⟩,_,_,rfl,rfl,(by show(0:Int)<3;decide),_,rfl,(by show -(2 ^ 62)<=ns.getD 2 0 / 12 % 3;lia),(by show ns.getD 2 0 / 12 % 3<2 ^ 62;lia),zi4 (m:=(ns.getD 2 0 / 12 % 3).toNat) (λt=>TM.IsT n t/\TM.Only n (row.take fi) t) (by lia) ?_ ?_⟩
  ·intro i G hi sG _ _ _ _
   rw[show(0:Int)+(i:Int)=(i:Int) by lia]
   refine⟨_,rfl,_,rfl,_,_,rfl,rfl,sa,ns,3+i,?_,sG.seq hS1,_,rfl,_,rfl,_,rfl,st,_,rfl,SqL.of (sG _ _ hst),λwa hwa=>?_⟩
   ·rw[show((3+i:Nat):Int)=3+(i:Int) by lia]
    rfl
   rw[yf8]
   have s5:=y2 hwa (.lst (tI (row.take fi)))
   exact⟨_,rfl,_,wa,n,row.take fi,rfl,z3,w1 fi,w2 fi,by have:=w3 fi;lia,hn,λr G5 t hr0 s6 tT tO hr5=>⟨s5.trans s6,(r,t),rfl,⟨hr5,tT,tO⟩,by simp,λb hb=>by rw[af.mp hb];exact⟨s5.free hr0,_,hr5⟩⟩⟩
  intro mk H2 as ps hmk0 s2 hmk hps hpl hP
  refine hN _ _ ?_
  clear hN N
  have hp:∀t∈ps,TM.IsT n t:=λt ht=>(hP t ht).1
  have few:TM.Few n ps 24:=λL h1 h2=>aW (TM.few_sym hp (λt ht=>(hP t ht).2) (w1 fi) (w2 fi) L h1 h2) (xt5 _ (by have:=w3 fi;lia))
  refine o5 λN hN=>⟨_,rfl,_,rfl,mk,n,as,ps,rfl,hmk,hps,hp,few,by lia,hn,λev eas us H3 _ s3 hev hus hul _ hall=>hN _ _ ?_⟩
  clear hN N
  refine o5 λN hN=>⟨_,rfl,_,rfl,λp dp hp0 hdp _=>⟨p,dp,mk,n,as,ps,rfl,z3,by lia,hn,yr1 hp0 hdp (s3 _ _ hmk),tsU hp0 hdp (hps.same s3),by lia,hp,λS H4 fr4 gp _=>⟨rfl,λa da ha0 hda _=>⟨a,da,p,n,ps,S,H4,rfl,z3,p5 (y2 hda _) ha0 _,ha0,gp,λH5 s5 hA=>⟨rfl,hN _ _ ?_⟩⟩⟩⟩⟩
  clear hN N
  have s4:=xf9 hp0 hdp fr4
  have s15:=s2.trans (s3.trans (s4.trans s5))
  obtain⟨da',p',S',ha,_⟩:=id hA
  refine o5 λN hN=>⟨_,rfl,a,cD,da',_,_,rfl,ha,cd.cls,cd.no "many" (by decide),rfl,_,rfl,rfl,_,rfl,?_⟩
  rw[decide_eq_true rfl]
  refine i9 ⟨_,rfl,a,cD,cA,da',_,true,rfl,ha,ask,up,_,rfl,i9 (hN _ _ ?_)⟩
  clear hN N
  have ev5:=(s4.trans s5) _ _ hev
  have us5:=hus.same (s4.trans s5)
  have st5:=s15 _ _ hst
  obtain⟨ms,ems,_⟩:=xb0 ns (some 5) (some 11)
  refine o5 λN hN=>⟨_,rfl,_,rfl,_,rfl,sa,_,rfl,s15.seq hS1,λsl hsl=>?_⟩
  rw[ems]
  have s6:=y2 hsl (.lst (ms.map V.int))
  have e6:(upd H5 sl (.lst (ms.map V.int))) sl=some (.lst (ms.map V.int)):=z3
  generalize upd H5 sl (.lst (ms.map V.int))=H6 at s6 e6 ⊢
  refine⟨sl,rfl,⟨_,SqL.of e6⟩,W1 (xs:=ms.map V.int) (λj σ G=>∃v7 v8 v9 v10:Option V,σ=[some (.ref sa),some (.int n),some (.ref st),some (.int fi),some (.ref mk),some (.ref ev),some (.ref a),v7,v8,v9,v10,none,none,none,none,none]/\y0 H6 G)
   ⟨none,none,none,none,rfl,y0.refl _⟩ (λj σ G _ ⟨_,_,_,_,_,sG⟩=>SqL.of (sG _ _ e6)) ?_ ?_⟩
  ·clear hN
   rintro j y σ G hy ⟨v7,v8,v9,v10,rfl,sG⟩
   rw[ah]at hy
   obtain⟨z,_,rfl⟩:=dB.mp hy
   have s0:=s6.trans sG
   refine o5 λM hM=>⟨_,rfl,_,rfl,z,n,rfl,by lia,λol G1 o _ s1' oT _ hol=>⟨ol,_,rfl,.inl ⟨SqL.of hol,λoa hoa=>hM _ _ ?_⟩⟩⟩
   clear hM M
   have s2':=y2 hoa (.tup (tI o))
   have o2:(upd G1 oa (.tup (tI o))) oa=some (.tup (tI o)):=z3
   generalize upd G1 oa (.tup (tI o))=G2 at s2' o2 ⊢
   have s02:=s0.trans (s1'.trans s2')
   refine o5 λM hM=>⟨_,rfl,hM _ _ ?_⟩
   clear hM M
   refine o5 λM hM=>?_
   have fin2:∀(ta:Addr) (t:List Nat) (G3:Hp),y0 G2 G3->G3 ta=some (.tup (tI t))->TM.IsT n t->M [some (.ref sa),some (.int n),some (.ref st),some (.int fi),some (.ref mk),some (.ref ev),some (.ref a),some (.int z),some (.ref oa),some (.ref ta),v10,none,none,none,none,none] G3:=by
    intro ta t G3 s3' ht tT
    refine hM _ _ ?_
    clear hM M
    have s03:=s02.trans s3'
    have o3:=s3' _ _ o2
    refine o5 λM hM=>⟨_,rfl,_,rfl,_,rfl,_,rfl,a,ev,oa,ta,n,ps,eas,us,o,t,rfl,hA.same s03,hp,s03 _ _ ev5,us5.same s03,hul,hall,o3,oT,ht,tT,hn,λG4 s4'=>⟨_,rfl,i9 ⟨_,rfl,_,rfl,_,rfl,_,rfl,λp1 hp1=>⟨p1,0,(n:Int),rfl,z3,⟨by lia,by lia,by lia,by lia,by lia⟩,λr hr'=>?_⟩⟩⟩⟩
    rw[show((n:Int)-0).toNat=n by lia,N6]
    have pr:p1≠r:=z9 z3 hr'
    have hr0:G4 r=none:=by
     have:=hr'
     rwa [z5 (Ne.symm pr)]at this
    have s5':y0 G4 (upd (upd G4 p1 (.rng 0 (n:Int))) r (.tup (tI (List.range n)))):=p5 (y2 hp1 _) hr0 _
    have r5:(upd (upd G4 p1 (.rng 0 (n:Int))) r (.tup (tI (List.range n)))) r=some (.tup (tI (List.range n))):=z3
    generalize upd (upd G4 p1 (.rng 0 (n:Int))) r (.tup (tI (List.range n)))=G5 at s5' r5 ⊢
    have s35:=s4'.trans s5'
    have s05:=s03.trans s35
    refine⟨_,rfl,a,ev,r,ta,n,ps,eas,us,List.range n,t,rfl,hA.same s05,hp,s05 _ _ ev5,us5.same s05,hul,hall,r5,TM.IsT.range n,s35 _ _ ht,tT,hn,λG6 s6'=>⟨_,rfl,i9 (hM _ _ ?_)⟩⟩
    clear hM M
    have s06:=s05.trans s6'
    have o6:=(s35.trans s6') _ _ o3
    have on:o.length=n:=oT.length
    refine⟨_,rfl,oa,_,rfl,.inr (SqT.of o6),λb1 hb1=>?_⟩
    have t1:=y2 hb1 (.lst (tI o))
    have q1:(upd G6 b1 (.lst (tI o))) b1=some (.lst (tI o)):=z3
    generalize upd G6 b1 (.lst (tI o))=B1 at t1 q1 ⊢
    refine⟨_,rfl,_,rfl,(by show 1<=fQ;lia),λtp htp=>?_⟩
    have t2:=y2 htp (.tup [V.int n])
    have q2:(upd B1 tp (.tup [V.int n])) tp=some (.tup [V.int n]):=z3
    generalize upd B1 tp (.tup [V.int n])=B2 at t2 q2 ⊢
    refine⟨oa,tp,_,_,rfl,rfl,SqT.of (t2 _ _ (t1 _ _ o6)),SqT.of q2,(by rw[v0,on];show n+1<=fQ;lia),λh=>absurd (congrArg List.length h) (by rw[v0,on];show ¬n=0;lia),λ_ h=>absurd h (by simp),λ_ _ b2 hb2=>?_⟩
    rw[show tI o++[V.int n]=tI (o++[n]) by rw[K8];rfl]
    have t3:=y2 hb2 (.tup (tI (o++[n])))
    have q3:(upd B2 b2 (.tup (tI (o++[n])))) b2=some (.tup (tI (o++[n]))):=z3
    generalize upd B2 b2 (.tup (tI (o++[n])))=B3 at t3 q3 ⊢
    have t13:=t1.trans (t2.trans t3)
    refine⟨_,rfl,_,rfl,oa,_,rfl,SqT.of (t13 _ _ o6),(by rw[v0,on,show(some (1:Int))=some ((1:Nat):Int) from rfl,HT.sIx_nat];lia),λb3 hb3=>?_⟩
    rw[xi5]
    have t4:=y2 hb3 (.tup (tI (o.drop 1)))
    have q4:(upd B3 b3 (.tup (tI (o.drop 1)))) b3=some (.tup (tI (o.drop 1))):=z3
    generalize upd B3 b3 (.tup (tI (o.drop 1)))=B4 at t4 q4 ⊢
    refine⟨_,rfl,_,rfl,(by show 1<=fQ;lia),λb6 hb6=>?_⟩
    have t5:=y2 hb6 (.lst [V.ref oa])
    have q5:(upd B4 b6 (.lst [V.ref oa])) b6=some (.lst [V.ref oa]):=z3
    generalize upd B4 b6 (.lst [V.ref oa])=B5 at t5 q5 ⊢
    have t45:=t4.trans t5
    have t15:=t13.trans t45
    have bads:∀v∈[V.ref b1,V.ref b2,V.ref b3,V.int n,V.str "0",V.ref b6],LKS n ps B5 v none:=by
     intro v hv
     simp only[aw,aV,or_false]at hv
     rcases hv with rfl|rfl|rfl|rfl|rfl|rfl
     ·exact yr4 ((t2.trans (t3.trans t45)) _ _ q1) (ym8 o)
     ·exact yr5 (t45 _ _ q3) (by rw[aq,on];show n+1≠n;lia) (by rw[aq,on];show n+1<=100;lia)
     ·exact yr5 (t5 _ _ q4) (by rw[bE,on];lia) (by rw[bE,on];lia)
     ·exact⟨_,.int _,λ_ e=>(by cases e),.inr ⟨λt e=>(by unfold dRw at e;cases e),rfl⟩⟩
     ·exact⟨_,.str _,λ_ e=>(by cases e),.inr ⟨λt e=>(by unfold dRw at e;cases e),rfl⟩⟩
     ·exact yr4 q5 (.cons (zg8 (t15 _ _ o6)) .nil)
    refine⟨(by show 6<=fQ;lia),λbl hbl=>?_⟩
    have t6:=y2 hbl (.lst [V.ref b1,V.ref b2,V.ref b3,V.int n,V.str "0",V.ref b6])
    have q6:(upd B5 bl (.lst [V.ref b1,V.ref b2,V.ref b3,V.int n,V.str "0",V.ref b6])) bl=some (.lst [V.ref b1,V.ref b2,V.ref b3,V.int n,V.str "0",V.ref b6]):=z3
    generalize upd B5 bl (.lst [V.ref b1,V.ref b2,V.ref b3,V.int n,V.str "0",V.ref b6])=B6 at t6 q6 ⊢
    have s0B:=s06.trans (t15.trans t6)
    refine⟨bl,rfl,⟨_,SqL.of q6⟩,W1 (xs:=[V.ref b1,V.ref b2,V.ref b3,V.int n,V.str "0",V.ref b6]) (λj σ X=>∃v10:Option V,σ=[some (.ref sa),some (.int n),some (.ref st),some (.int fi),some (.ref mk),some (.ref ev),some (.ref a),some (.int z),some (.ref oa),some (.ref ta),v10,none,none,none,none,none]/\y0 B6 X)
     ⟨v10,rfl,y0.refl _⟩ (λj σ X _ ⟨_,_,sX⟩=>SqL.of (sX _ _ q6)) ?_ ?_⟩
    ·rintro j v σ X hv ⟨w10,rfl,sX⟩
     exact⟨_,rfl,_,rfl,a,v,n,ps,rfl,hA.same (s0B.trans sX),hp,(bads v (av hv)).same (t6.trans sX),hn,λX2 sX2=>⟨_,rfl,i9 ⟨_,rfl,sX.trans sX2⟩⟩⟩
    ·rintro σ X ⟨w10,rfl,sX⟩
     exact⟨_,_,_,_,rfl,sG.trans (s1'.trans (s2'.trans (s3'.trans (s35.trans (s6'.trans (t15.trans (t6.trans sX)))))))⟩
   refine⟨_,rfl,_,_,rfl,rfl,⟨by decide,by decide⟩,_,_,rfl,rfl,(by show(0:Int)<3;decide),_,_,rfl,rfl,_,rfl,yx1 (λ_=>?_) (λ_=>fin2 oa o G2 (y0.refl _) o2 oT)⟩
   refine⟨_,rfl,_,_,rfl,rfl,⟨by decide,by decide⟩,_,rfl,_,rfl,_,rfl,st,_,rfl,SqL.of (s02 _ _ st5),λwa hwa=>?_⟩
   rw[yf8]
   have s3':=y2 hwa (.lst (tI (row.take fi)))
   exact⟨_,rfl,_,wa,n,row.take fi,rfl,z3,w1 fi,w2 fi,by have:=w3 fi;lia,hn,λr G5 t _ s4' tT _ hr5=>fin2 r t G5 (s3'.trans s4') hr5 tT⟩
  rintro σ H7 ⟨v7,v8,v9,v10,rfl,s7⟩
  refine hN _ _ ?_
  clear hN N
  have s57:=s6.trans s7
  have s17:=s15.trans s57
  refine⟨⟨n,ps,hp⟩,?_⟩
  obtain⟨W,eW,Wn,Wl,W3⟩:=xb1 hT hfi'
  refine o5 λN hN=>⟨_,rfl,_,rfl,_,_,rfl,rfl,_,rfl,_,rfl,_,_,rfl,rfl,_,rfl,st,_,rfl,SqL.of (s57 _ _ st5),λla hla=>hN _ _ ?_⟩
  clear hN N
  dsimp only
  rw[eW]
  have s8:=y2 hla (.lst (tI W))
  have e8:(upd H7 la (.lst (tI W))) la=some (.lst (tI W)):=z3
  generalize upd H7 la (.lst (tI W))=H8 at s8 e8 ⊢
  have s18:=s17.trans s8
  refine o5 λN hN=>⟨_,rfl,sa,ns,2,rfl,s18.seq hS1,_,_,rfl,rfl,⟨by decide,by decide⟩,_,_,rfl,rfl,(by show(0:Int)<3;decide),_,rfl,(by show -(2 ^ 62)<=ns.getD 2 0 / 36 % 3;lia),(by show ns.getD 2 0 / 36 % 3<2 ^ 62;lia),zi4 (m:=(ns.getD 2 0 / 36 % 3).toNat) (λt=>TM.IsT n t/\TM.Only n W t) (by lia) ?_ ?_⟩
  ·intro i G hi sG _ _ _ _
   rw[show(0:Int)+(i:Int)=(i:Int) by lia]
   refine⟨_,rfl,_,rfl,_,_,rfl,rfl,sa,ns,5+i,?_,(s18.trans sG).seq hS1,_,rfl,_,rfl,_,la,n,W,rfl,sG _ _ e8,Wn,Wl,by lia,hn,λr G5 t hr0 s6 tT tO hr5=>⟨s6,(r,t),rfl,⟨hr5,tT,tO⟩,by simp,λb hb=>by rw[af.mp hb];exact⟨hr0,_,hr5⟩⟩⟩
   rw[show((5+i:Nat):Int)=5+(i:Int) by lia]
   rfl
  intro ml H9 mas ts hml0 s9 hml hts htl hP'
  refine hN _ _ ?_
  clear hN N
  have hT':∀t∈ts,TM.IsT n t:=λt ht=>(hP' t ht).1
  have fewM:TM.Few n ts 24:=λL h1 h2=>aW (TM.few_sym hT' (λt ht=>(hP' t ht).2) Wn Wl L h1 h2) (xt5 _ (by lia))
  have s59:=s57.trans (s8.trans s9)
  refine o5 λN hN=>⟨_,rfl,st,_,rfl,.inl ⟨SqL.of (s59 _ _ st5),λoa hoa=>hN _ _ ?_⟩⟩
  clear hN N
  have s10:=y2 hoa (.tup (tI row))
  have o10:(upd H9 oa (.tup (tI row))) oa=some (.tup (tI row)):=z3
  generalize upd H9 oa (.tup (tI row))=H10 at s10 o10 ⊢
  refine o5 λN hN=>⟨_,rfl,_,rfl,λg dg hg hdg _=>⟨g,dg,ml,n,mas,ts,rfl,z3,by lia,hn,yr1 hg hdg (s10 _ _ hml),tsU hg hdg (hts.same s10),by lia,hT',λS2 H11 fr11 ga _=>⟨rfl,hN _ _ ?_⟩⟩⟩
  clear hN N
  have s11:=xf9 hg hdg fr11
  have s911:=s10.trans s11
  have s511:=s59.trans s911
  have o11:=s11 _ _ o10
  have owT:TM.IsT n (TM.lsd n (λz=>z∈ps) row):=TM.lsd_isT hp hT
  have owK:TM.lsd n (λz=>z∈ps) (TM.lsd n (λz=>z∈ps) row)=TM.lsd n (λz=>z∈ps) row:=TM.lsd_lsd hp hT
  have lk11:LKS n ps H11 (.ref oa) (some (TM.lsd n (λz=>z∈ps) row)):=LKS.of o11 hT hn
  have few':=ys7 (TM.acts_sides hp) ⟨owT,owK⟩ hT' fewM
  refine o5 λN hN=>⟨_,rfl,_,rfl,_,rfl,λx dx hx hdx hne=>⟨ts,S2,H11,x,dx,g,a,.ref oa,1000,_,rfl,z3,⟨p5 (y2 hdx _) hx _,hx,ga⟩,by decide,hA.same s511,lk11,owT,λL h1 h2=>aW (few' L h1 h2) (by decide),λo wd bd es H12 fr12 ra ho wh=>⟨rfl,hN _ _ ?_⟩⟩⟩
  clear hN N
  have s12:=xf9 hx hdx fr12
  obtain⟨ow,eow⟩:∃u,u=TM.lsd n (λz=>z∈ps) row:=⟨_,rfl⟩
  rw[←eow]at owT owK wh few' lk11
  have nd:=ra.d.nd
  have eF:∀e∈es,TM.Grp n (λz=>z∈ts) e.b/\mvS n ps ow e.b=e.k/\(TM.IsT n e.k/\TM.lsd n (λz=>z∈ps) e.k=e.k):=λe he=>(wh.w e he).fact (TM.acts_sides hp) ⟨owT,owK⟩ hT'
  have rch:∀k,k∈es.map Ent.k↔TM.Rch n ts (mvS n ps) ow k:=λk=>⟨λhk=>by
   obtain⟨e,he,rfl⟩:=au.mp hk
   exact⟨_,_,wh.w e he⟩,λhk=>TM.Rch.in (P:=λk=>k∈es.map Ent.k) wh.own (λk t hk ht=>wh.cl k hk t ht) hk⟩
  have elen:es.length<=24:=by
   have:=few' (es.map Ent.k) nd λk hk=>(rch k).mp hk
   rwa [aa]at this
  have ene:∀e∈es,e.k≠[]:=λe he z=>by
   have:=(eF e he).2.2.1.length
   rw[z]at this
   have:0=n:=this
   lia
  obtain⟨dx',hx'⟩:=ra.x'
  have s912:=s911.trans s12
  have s512:=s511.trans s12
  have ev12:=s512 _ _ ev5
  have us12:=us5.same s512
  have ml12:=s912 _ _ hml
  have ts12:=hts.same s912
  have oa12:=s12 _ _ o11
  have ga12:=ga.same s12
  have hA12:=hA.same s512
  have lk12:=lk11.same s12
  refine o5 λN hN=>⟨_,rfl,x,dx',_,rfl,hx',rfl,ts,S2,H11,x,g,a,o,wd,bd,es,rfl,ra,ene,by lia,λl bs L G1 _ sg1 hl hbs hperm hsrt=>⟨_,rfl,_,rfl,_,rfl,_,rfl,ev,oa,n,eas,us,ps,row,rfl,sg1 _ _ ev12,us12.same sg1,hul,hall,hp,sg1 _ _ oa12,hT,hn,λr G2 sg2 hr2=>⟨ev,ml,r,n,eas,mas,us,ps,ts,ow,rfl,(sg1.trans sg2) _ _ ev12,us12.same (sg1.trans sg2),hul,hall,hp,(sg1.trans sg2) _ _ ml12,ts12.same (sg1.trans sg2),hT',fewM,(by rw[eow];exact hr2),owT,owK,by lia,hn,λl2 bs2 L2 G3 _ sg3 hl2 hbs2 nd2 srt2 mem2=>?_⟩⟩⟩
  obtain rfl:L=L2:=xh0 hsrt srt2 (hperm.trans ((dr nd nd2).mpr λk=>(rch k).trans (mem2 k).symm))
  obtain⟨lE,lS⟩:=yk2 L
  refine⟨_,_,.lst (SqL.of ((sg2.trans sg3) _ _ hl)) (yj6 (hbs.same (sg2.trans sg3))),.lst (SqL.of hl2) (yj6 hbs2),lS,lS,_,rfl,?_⟩
  rw[lE]
  refine i9 (hN _ _ ?_)
  clear hN N
  have u3:=sg1.trans (sg2.trans sg3)
  obtain⟨LU,nLU,mU0,lU⟩:=zm4 ga.st
  have mU:∀y,y∈LU↔TM.Grp n (λz=>z∈ts) y:=λy=>(mU0 y).trans (ga.grp y)
  have hsz:LU.length<=24:=fewM LU nLU λy hy=>(mU y).mp hy
  refine o5 λN hN=>⟨_,rfl,x,dx',_,rfl,u3 _ _ hx',rfl,ts,S2,H11,x,g,a,o,wd,bd,es,ow,1000,_,rfl,ra.same u3,wh,TM.acts_sides hp,λl h=>h.1,⟨owT,owK⟩,by rw[←lU];lia,by lia,λkg ks Sk G4 sg4 gk hk=>hN _ _ ?_⟩
  clear hN N
  have u4:=u3.trans sg4
  obtain⟨dk,_,_,_,hkg,_⟩:=gk.at'
  obtain⟨dg',_,_,_,hg',_⟩:=ga12.at'
  obtain⟨LM,nLM,mM0,lM⟩:=zm4 gk.st
  have mM:∀y,y∈LM↔TM.Keeps n ts (mvS n ps) ow y:=λy=>((mM0 y).trans (gk.grp y)).trans (hk y)
  obtain⟨e0,he0,ek0,eb0⟩:=wh.first
  have R:TM.Rng n ts (mvS n ps) ow (es.map Ent.k) (D1 es):=by
   refine⟨nd,wh.own,by rw[←ek0,U0 nd he0,eb0],λk hk=>?_,λk hk=>?_,wh.cl⟩
   ·obtain⟨e,he,rfl⟩:=au.mp hk
    rw[U0 nd he]
    exact(eF e he).1
   ·obtain⟨e,he,rfl⟩:=au.mp hk
    rw[U0 nd he]
    exact(eF e he).2.1
  have sizes:Sk.chn.many n n*es.length=S2.chn.many n n:=by
   rw[←lU,←lM,←TM.keeps_many (TM.acts_sides hp) ⟨owT,owK⟩ hT' R nLU mU nLM mM,aa,fI]
  refine o5 λN hN=>⟨_,rfl,kg,dk,_,rfl,hkg,rfl,kg,n,ks,Sk,rfl,gk,_,rfl,x,dx',_,rfl,u4 _ _ hx',rfl,ts,S2,H11,x,g,a,o,wd,bd,es,rfl,ra.same u4,ene,by lia,λl' bs' L' G5 _ sg5 hl' hbs' hperm' _=>⟨l',_,rfl,.inl (SqL.of hl'),_,_,rfl,rfl,?_,_,rfl,g,dg',_,rfl,(u4.trans sg5) _ _ hg',rfl,g,n,ts,S2,rfl,ga12.same (u4.trans sg5),?_⟩⟩
  ·refine .inr ⟨by lia,?_⟩
   rw[aa,show bs'.length=L'.length from Paired.length hbs',hperm'.length_eq,aa]
   lia
  have ll':L'.length=es.length:=by rw[hperm'.length_eq,aa]
  have bl':bs'.length=L'.length:=Paired.length hbs'
  dsimp only
  rw[aa,bl',ll',show((Sk.chn.many n n:Nat):Int)*((es.length:Nat):Int)=((S2.chn.many n n:Nat):Int) by rw[←sizes];exact(fB _ _).symm]
  refine⟨rfl,_,rfl,?_⟩
  rw[decide_eq_true rfl]
  refine i9 (hN _ _ ?_)
  clear hN N
  have u5:=u4.trans sg5
  have oneBl:∀{k i:Nat},i<k->((List.replicate k true).map V.bl)[i]?=some (V.bl true):=λ{k i} hi=>by
   rw[ah,ci,if_pos hi]
   rfl
  obtain⟨da2,p2,S3,ha2,_⟩:=id hA12
  refine o5 λN hN=>⟨_,rfl,kg,dk,_,rfl,sg5 _ _ hkg,rfl,kg,n,ks,Sk,rfl,gk.same sg5,λtl tas G6 _ sg6 htl htas=>⟨tl,rfl,⟨_,SqL.of htl⟩,A5 (SqL.of htl) ((List.replicate tas.length true).map V.bl) (by rw[aa,aa,bP]) (by rw[aa,show tas.length=ks.length from Paired.length htas];have:=gk.few;lia) ?_ ?_⟩⟩
  ·clear hN
   intro i G y hy sG _ _ _ _
   obtain⟨tr,htr,rfl⟩:=W4 hy
   obtain⟨t,ht,hHt⟩:=u7 htas i tr htr
   have hi:i<tas.length:=(al.mp htr).1
   have tm:=av ht
   have tT:=gk.tT t tm
   have tK:=(hk t).mp (TM.Grp.of gk.tT tm)
   have uG:=u5.trans (sg6.trans sG)
   refine⟨_,rfl,g,dg',_,rfl,uG _ _ hg',rfl,_,rfl,g,tr,n,ts,S2,t,rfl,ga12.same uG,sG _ _ hHt,tT,λb G7 sg7 hb=>?_⟩
   rw[hb.mpr tK.1]
   refine⟨_,rfl,Z1 ⟨_,rfl,a,da2,_,rfl,(uG.trans sg7) _ _ ha2,rfl,_,rfl,_,rfl,a,tr,.ref oa,t,ow,rfl,hA12.same (uG.trans sg7),lk12.same (uG.trans sg7),(sG.trans sg7) _ _ hHt,tT,λG8 sg8=>⟨sg7.trans sg8,?_⟩⟩⟩
   rw[decide_eq_true tK.2]
   exact oneBl hi
  intro nm G9 _ sg9 hnm
  refine⟨nm,_,rfl,SqL.of hnm,_,rfl,?_⟩
  rw[zl6]
  refine i9 (hN _ _ ?_)
  clear hN N
  have u9:=u5.trans (sg6.trans sg9)
  refine⟨_,rfl,x,dx',_,rfl,u9 _ _ hx',rfl,ts,S2,H11,x,g,a,o,wd,bd,es,rfl,ra.same u9,ene,by lia,λl3 bs3 L3 G10 _ sg10 hl3 hbs3 hperm3 _=>⟨l3,rfl,⟨_,SqL.of hl3⟩,A5 (SqL.of hl3) ((List.replicate bs3.length true).map V.bl) (by rw[aa,aa,bP]) (by rw[aa,show bs3.length=L3.length from Paired.length hbs3,hperm3.length_eq,aa];lia) ?_ ?_⟩⟩
  ·intro i G y hy sG _ _ _ _
   obtain⟨tr,htr,rfl⟩:=W4 hy
   obtain⟨k,hk3,hHk⟩:=u7 hbs3 i tr htr
   have hi:i<bs3.length:=(al.mp htr).1
   obtain⟨e,he,rfl⟩:=au.mp (hperm3.mem_iff.mp (av hk3))
   have uG:=u9.trans (sg10.trans sG)
   exact⟨_,rfl,_,rfl,_,rfl,_,rfl,_,rfl,ts,S2,H11,x,g,a,o,wd,bd,es,1000,ev,ml,oa,tr,n,ps,eas,mas,us,row,e,rfl,ra.same uG,(by rw[←eow];exact wh),hp,uG _ _ ev12,us12.same uG,hul,hall,uG _ _ ml12,ts12.same uG,uG _ _ oa12,hT,sG _ _ hHk,he,hn,λG11 sg11=>⟨sg11,oneBl hi⟩⟩
  intro nm2 G12 _ sg12 hnm2
  refine⟨nm2,_,rfl,SqL.of hnm2,?_⟩
  rw[zl6]
  exact q _
 refine⟨_,rfl,_,_,rfl,rfl,_,rfl,yx1 (λ_=>?_) (λ_=>key f0 hf0 hf0')⟩
 refine⟨_,rfl,sa,ns,2,rfl,hS1,_,_,rfl,rfl,(by show(0:Int)<4;decide),_,_,rfl,rfl,?_⟩
 dsimp only
 rw[←ec,ef1]
 exact key f1 hf1 hf1'
end
def DI (K:W.Frag)(x:Str)(st:Stmt):Prop:=∃f fd,Fun K x x st f fd/\W.nsIn K mainGlobals x=some (some (.ref f))
def MI (K:W.Frag)(c:Addr)(m q:Str)(st:Stmt):Prop:=∃f fd,Fun K m q st f fd/\W.findIn K (.ref c) m=some (some (.ref f))/\W.isFn K (.ref f)=true
def xq5 (K:W.Frag)(c:Addr)(f:Str):Bool:=match W.findIn K (.ref c) f with|some none=>true|_=>false
def BA (x q:Str)(st:Stmt)(ps:List Str):Prop:=∀(kV doc pm:Value) (an:Option Addr) (cdv ct:Value) (us:List Value),us.length=ps.length->bindArgs (W.fnOf x q (W6 st) (Z5 st) (z8 st) .none kV doc pm an cdv ct) ⟨us,[]⟩=pure (ps.zip us)
structure CI (K:W.Frag) (c:Addr) (x:Str) (fs:List Str):Prop where
 n:W.nsIn K mainGlobals x=some (some (.ref c))
 cc:Cls K c
 ma:W.makesIn K c=true
 kp:W.keepIn K (.ref c)=true
 no:fs.all (xq5 K c)=true
structure EI (K:W.Frag) (x:Str) (C:Addr) (tl:List Value):Prop where
 n:W.nsIn K mainGlobals x=some (some (.ref C))
 c:zk1 K C tl "ValueError.__new__"
structure EO (K:W.Frag) (x:Str) (C TE:Addr):Prop where
 e:EI K x C (.ref TE::bmV)
 i:W.isIn K (.ref C) TE=true
structure ZZ (P:fR) (w:fW) (K:W.Frag) (mg:Str->Option Value) (base:Heap):Prop where
 mg:∀{x:Str} {v:Value},W.nsIn K mainGlobals x=some (some v)->mg x=some v
section
variable {P:fR}{w:fW}{K:W.Frag}{mg:Str->Option Value}{base:Heap}{x m q:Str}{st:Stmt}{ps fs:List Str}{k:Nat}{sp:Sp}{c C TE:Addr}{tl:List Value}
section
variable {f:Addr}{oc:Value}{od an:Option Addr}{sl:Array (Option Value)}{kV dc pm cd ct:Value}
theorem DI.of (a:W.nsIn K mainGlobals x=some (some (.ref f)))(l:K.lookup f=some ⟨oc,od,.func (W.fnOf x x (W6 st) (Z5 st) (z8 st) .none kV dc pm an cd ct),sl⟩)(h:W.codeIn K cd x=true)(k:W.keepIn K (.ref f)=true):DI K x st:=⟨f,_,zo6 l h k,a⟩
theorem MI.of (a:W.findIn K (.ref c) m=some (some (.ref f)))(l:K.lookup f=some ⟨oc,od,.func (W.fnOf m q (W6 st) (Z5 st) (z8 st) .none kV dc pm an cd ct),sl⟩)(h:W.codeIn K cd q=true)(k:W.keepIn K (.ref f)=true)(i:W.isFn K (.ref f)=true):MI K c m q st:=⟨f,_,zo6 l h k,a,i⟩
end
theorem CI.of (a:W.nsIn K mainGlobals x=some (some (.ref c)))(pg:W.plainGet K c Str.empty=true)(hd:W.hasDictIn K c=true)(po:W.plainOver K c=true)(sa:W.findIn K (.ref c) "__setattr__"=some (some (.builtin "object.__setattr__")))(mk:W.makesIn K c=true)(kp:W.keepIn K (.ref c)=true)(no:fs.all (xq5 K c)=true):CI K c x fs:=⟨a,⟨pg,hd,po,sa⟩,mk,kp,no⟩
theorem CI.f (I:CI K c x fs):p4 K c fs:=⟨I.cc,λf hf=>by
 have h:=ck.mp I.no f hf
 unfold xq5 at h
 split at h
 ·assumption
 ·cases h⟩
theorem EI.of {nm qn:Str}{N:Addr}{bs:List Value}{hdct:Bool}{sn:List Str}{sub:List Value}{ab:Bool}{col:Option Bool}{dd:Option Addr}{k0 k1 k2 k3 k5:Option Value}{oN:Obj}(a:W.nsIn K mainGlobals x=some (some (.ref C)))
  (l:K.lookup C=some (excClassObj nm qn C N bs tl hdct sn sub ab col dd k0 k1 k2 k3 k5 "ValueError.__new__")) (n:K.lookup N=some oN) (o:W.nsOkIn K N=true) (i:W.nsIn K N "__init__"=some none) (t:W.tailIn K bmV tl=true):EI K x C tl:=⟨a,zk1.mk' l n o i t⟩
theorem EO.at (I:EO K x C TE)(Z:ZZ P w K mg base):ye4 K mg TE x C:=⟨Z.mg I.e.n,I.e.c,I.i⟩
theorem DI.kn (I:DI K x st)(Z:ZZ P w K mg base)(G:∀{f fd},Def K mg x st ps f fd->u6 P w K mg base CX0 k f fd ps sp)
  (h:BA x x st ps:=by trivial):o7 P w K mg base k x ps sp:=by
 obtain⟨f,fd,F,a⟩:=I
 exact Def.known ⟨F,F.binds h,Z.mg a⟩ (G ⟨F,F.binds h,Z.mg a⟩)
theorem DI.kx {R:Prop}(I:DI K x st)(Z:ZZ P w K mg base)(G:∀{f fd},Def K mg x st ps f fd->R)
  (h:BA x x st ps:=by trivial):R:=by
 obtain⟨f,fd,F,a⟩:=I
 exact G ⟨F,F.binds h,Z.mg a⟩
theorem MI.kn (I:MI K c m q st)(Z:ZZ P w K mg base)(G:∀{f fd},Fun K m q st f fd->u6 P w K mg base CX0 k f fd ps sp)
  (h:BA m q st ps:=by trivial):l4 P w K mg base k c m ps sp:=by
 obtain⟨f,fd,F,a,i⟩:=I
 exact⟨f,fd,G F,⟨a,i,F.kp⟩,F.binds h⟩
theorem MI.kx (I:MI K c m q st)(Z:ZZ P w K mg base)(G:∀{f fd},Fun K m q st f fd->u6 P w K mg base (CX1 P w) k f fd ps sp)
  (h:BA m q st ps:=by trivial):zb0 P w K mg base k c m ps sp:=by
 obtain⟨f,fd,F,a,i⟩:=I
 exact⟨f,fd,G F,⟨a,i,F.kp⟩,F.binds h⟩
theorem MI.mak (I:MI K c "__init__" q st)(Z:ZZ P w K mg base)(N:CI K c x fs)(G:∀{f fd},Fun K "__init__" q st f fd->u6 P w K mg base CX0 k f fd ps sp)
  (h:BA "__init__" q st ps:=by trivial):zt6 P w K mg base k c x ps sp:=by
 obtain⟨f,fd,F,a,i⟩:=I
 exact⟨f,fd,G F,⟨N.ma,a,i,N.kp⟩,Z.mg N.n,F.binds h⟩
end
def MID (K:W.Frag)(c:Addr)(m q:Str)(st:Stmt)(items:Array Value):Prop:=∃f fd,zy6 K m q st f fd items/\W.findIn K (.ref c) m=some (some (.ref f))/\W.isFn K (.ref f)=true
section
variable {K:W.Frag}{c:Addr}{m q:Str}{st:Stmt}{f dT:Addr}{oc:Value}{od an:Option Addr}{sl:Array (Option Value)}{kV dc pm cd ct:Value}{o:Obj}{items:Array Value}{n:Nat}
theorem MID.of (a:W.findIn K (.ref c) m=some (some (.ref f)))(l:K.lookup f=some ⟨oc,od,.func (W.fnOf m q (W6 st) (Z5 st) (z8 st) (.ref dT) kV dc pm an cd ct),sl⟩)(h:W.codeIn K cd q=true)(k:W.keepIn K (.ref f)=true)(i:W.isFn K (.ref f)=true)(lt:K.lookup dT=some o)(hd:o.data=.seq items n):MID K c m q st items :=
 ⟨f,_,⟨⟨dT,oc,od,kV,dc,pm,an,cd,ct,sl,rfl,l,h,o,n,lt,hd⟩,k⟩,a,i⟩
end
theorem MID.rk {P:fR}{w:fW}{K:W.Frag}{mg:Str->Option Value}{base:Heap}{c:Addr}{fs:List Str}{tk:Tok}{sp:Sp}(I:MID K c "__init__" "Ring.__init__" n4 #[.int 1000 tk])(Z:ZZ P w K mg base)(N:CI K c "Ring" fs)(G:∀{f fd},zy6 K "__init__" "Ring.__init__" n4 f fd #[.int 1000 tk]->u6 P w K mg base (CX1 P w) 8 f fd ["self","group","act","thing","most"] sp):ye6 P w K mg base c sp:=by
 obtain⟨f,fd,F,a,i⟩:=I
 exact ye6.of F (G F) ⟨N.ma,a,i,N.kp⟩ (Z.mg N.n)
def AM (K:W.Frag)(C:Addr)(x m q:Str)(st:Stmt):Prop:=∃f fd,Fun K m q st f fd/\W.nsIn K mainGlobals x=some (some (.ref C))/\W.readsIn K C (.type "type")=true/\W.specialIn K (.ref C) "__getattribute__"=some (some (.builtin "type.__getattribute__"))/\W.findCls K (.ref C) (.type "type") m=some (.val (.ref f))
section
variable {K:W.Frag}{C:Addr}{x m q:Str}{st:Stmt}{f dT:Addr}{oc:Value}{od an:Option Addr}{sl:Array (Option Value)}{kV dc pm cd ct:Value}{o:Obj}{items:Array Value}{n:Nat}
theorem AM.of (a:W.nsIn K mainGlobals x=some (some (.ref C)))(fc:W.findCls K (.ref C) (.type "type") m=some (.val (.ref f)))(l:K.lookup f=some ⟨oc,od,.func (W.fnOf m q (W6 st) (Z5 st) (z8 st) .none kV dc pm an cd ct),sl⟩)(h:W.codeIn K cd q=true)(k:W.keepIn K (.ref f)=true)(r:W.readsIn K C (.type "type")=true)(s:W.specialIn K (.ref C) "__getattribute__"=some (some (.builtin "type.__getattribute__"))):AM K C x m q st:=⟨f,_,zo6 l h k,a,r,s,fc⟩
theorem AM.cm {P:fR}{w:fW}{mg:Str->Option Value}{base:Heap}{k:Nat}{ps:List Str}{sp:Sp}(I:AM K C x m q st)(Z:ZZ P w K mg base)(G:∀{f fd},Fun K m q st f fd->u6 P w K mg base CX0 k f fd ps sp)
  (h:BA m q st ps:=by trivial):xn6 P w K mg base k C x m ps sp:=by
 obtain⟨f,fd,F,a,r,s,fc⟩:=I
 exact⟨f,fd,_,G F,F.kp,Z.mg a,F.binds h,r,s,fc,rfl⟩
end
def MF (K:W.Frag)(f:Addr)(oc:Value)(od:Option Addr)(sl:Array (Option Value))(kV dc pm:Value)(an:Option Addr)(cd ct:Value)(m q:Str)(st:Stmt):Prop:=K.lookup f=some ⟨oc,od,.func (W.fnOf m q (W6 st) (Z5 st) (z8 st) .none kV dc pm an cd ct),sl⟩
theorem all_mk {l:W.OpenLaw}{w:fW}{K:W.Frag}{h:Heap}{mg:Str->Option Value}{fa fL:Addr}(X:K.In h)(G:h.Ns mainGlobals mg)(hfa:mg "law"=some (.ref fa))
  (a0:DI K "is_whole" zc5) (a1:DI K "is_turning" E3) (a2:DI K "is_turning_of" P4) (a3:DI K "still" yc7) (a4:DI K "behind" zr4) (a5:DI K "back" yo5) (a6:DI K "need_group" E4) (a7:DI K "need_turning" N2) (a8:DI K "_law_cell" B9) (a9:DI K "_law_whole" E2) (a10:DI K "_law_order" F9) (a11:DI K "_law_maker" F7) (a12:DI K "_law_behind" L7) (a13:DI K "_law_all" zc3) (a14:DI K "_law_least" F0) (a15:DI K "_law_refused" N1) (a16:DI K "_law_good" A1) (a17:DI K "_law_things" L8) (a18:DI K "_law_led" zc4)
  {od an:Option Addr} {sl:Array (Option Value)} {oc kV dc pm cd ct:Value} (aL:W.nsIn K mainGlobals "law"=some (some (.ref fL))) (lL:MF K fL oc od sl kV dc pm an cd ct "law" "law" zj5) (cL:W.codeIn K cd "law"=true) (kL:W.keepIn K (.ref fL)=true)
  {tk0 tk1 tk2:Tok} (gc0:W.nsIn K mainGlobals "MOST_PLACES"=some (some (.int 60 tk0))) (gc1:W.nsIn K mainGlobals "MOST_MAKERS"=some (some (.int 200 tk1))) (gc2:W.nsIn K mainGlobals "STILL_LINE"=some (some (.int 0 tk2)))
  {cBook:Addr} (nBook:CI K cBook "Book" zd1) {cStep:Addr} (nStep:CI K cStep "Step" K7) {cChain:Addr} (nChain:CI K cChain "Chain" Y4) {cGroup:Addr} (nGroup:CI K cGroup "Group" Y6) {cGrowth:Addr} (nGrowth:CI K cGrowth "Growth" zo9) (iBookinit:MI K cBook "__init__" "Book.__init__" P2) (iBookput:MI K cBook "put" "Book.put" zc0) (iBookput_behind:MI K cBook "put_behind" "Book.put_behind" U8) (iBookput_back:MI K cBook "put_back" "Book.put_back" W8) (iStepinit:MI K cStep "__init__" "Step.__init__" P3) (iStepput_mover:MI K cStep "put_mover" "Step.put_mover" R8) (iStepput_place:MI K cStep "put_place" "Step.put_place" X3) (iStepnext_pair:MI K cStep "next_pair" "Step.next_pair" R7) (iChaininit:MI K cChain "__init__" "Chain.__init__" R0) (iChainsifted:MI K cChain "sifted" "Chain.sifted" T0) (iChainholds:MI K cChain "holds" "Chain.holds" M9) (iChainfound_mover:MI K cChain "found_mover" "Chain.found_mover" Z0) (iChainsettle:MI K cChain "settle" "Chain.settle" O6) (iChaintake:MI K cChain "take" "Chain.take" J8) (iChainsize:MI K cChain "size" "Chain.size" J7) (iGroupinit:MI K cGroup "__init__" "Group.__init__" R3) (iGrouptold:MI K cGroup "told" "Group.told" I0) (iGroupsize:MI K cGroup "size" "Group.size" J9) (iGrouphas:MI K cGroup "has" "Group.has" B7) (iChainturning_to:MI K cChain "turning_to" "Chain.turning_to" Z6) (iChainleast_of:MI K cChain "least_of" "Chain.least_of" R1) (iGroupleast:MI K cGroup "least" "Group.least" L0) (iChainmovers_at:MI K cChain "movers_at" "Chain.movers_at" U9) (iGrouplean_makers:MI K cGroup "lean_makers" "Group.lean_makers" X9) (iGrowthinit:MI K cGrowth "__init__" "Growth.__init__" T1) (iGrowthtake:MI K cGrowth "take" "Growth.take" L4) (iGrowthsize:MI K cGrowth "size" "Growth.size" L1) (iGrowthwhole:MI K cGrowth "whole" "Growth.whole" O7) {cRing:Addr} (nRing:CI K cRing "Ring" K3) {cSides:Addr} (nSides:CI K cSides "Sides" ["many","part"]) (iRingfill:MI K cRing "fill" "Ring.fill" B8) (iRingnext_edge:MI K cRing "next_edge" "Ring.next_edge" R4) (iRingput_thing:MI K cRing "put_thing" "Ring.put_thing" R5) (iRingthings:MI K cRing "things" "Ring.things" L5) (iRingin_ring:MI K cRing "in_ring" "Ring.in_ring" O8) (iRingfar:MI K cRing "far" "Ring.far" zc1) (iRingway:MI K cRing "way" "Ring.way" zc2) (iRingput_keepers:MI K cRing "put_keepers" "Ring.put_keepers" V4) (iRingkeepers:MI K cRing "keepers" "Ring.keepers" O9) (iSidesinit:MI K cSides "__init__" "Sides.__init__" R6) (iSideslooked:MI K cSides "looked" "Sides.looked" N0) (iSidesmoved:MI K cSides "moved" "Sides.moved" L6) (iSideskept:MI K cSides "kept" "Act.kept" zb9) {tkR:Tok} (iRinginit:MID K cRing "__init__" "Ring.__init__" n4 #[.int 1000 tkR]) {cAct:Addr} (nAct:W.nsIn K mainGlobals "Act"=some (some (.ref cAct))) (iActinit:AM K cAct "Act" "__init__" "Act.__init__" O5) (uA:W.kitOne K (.ref cSides) (.ref cAct)=some true) (caG:W.findIn K (.ref cSides) "__class__"=some (some (.builtin "object.__class__"))) (cgI:W.specialIn K (.builtin "object.__class__") "__get__"=some (some (.builtin "getset_descriptor.__get__"))) (ckI:W.takesIn K (.builtin "object.__class__")=some true) (cmG:W.mroIn K cSides (.type "object")=some true) {xC0:Addr} (xe0:EI K "TurnError" xC0 bmV) {xC1:Addr} (xe1:EO K "NoThing" xC1 xC0) {xC2:Addr} (xe2:EO K "TooMany" xC2 xC0) (xp2:(xC1==xC2)=false) (xq2:(xC0==xC2)=false) (xv:W.nsIn K mainGlobals "ValueError"=some none)
  (zz:(["len","range","list","tuple","isinstance","int","bool","str","enumerate","sorted","sum","all","set","reversed","divmod","max","min"]:List Str).all (λx=>match W.nsIn K mainGlobals x with|some none=>true|_=>false)=true) :
  ∃fd:gh,(∀(s:fO) (v:Value),BindsTo s fd ⟨[v],[]⟩ [("_law_script",v)])/\∀base:Heap,K.In base->base.Ns mainGlobals mg->u6 l.prog w K mg base CX0 11 fa fd ["_law_script"] (yt6 K):=by
 cases hfa.symm.trans (W.mg_of X G aL)
 have bi:∀x∈(["len","range","list","tuple","isinstance","int","bool","str","enumerate","sorted","sum","all","set","reversed","divmod","max","min"]:List Str),mg x=none:=λx hx=>W.mg_none_of X G (by have h:=ck.mp zz x hx;split at h <;> first|assumption|cases h)
 have B:Blt mg:=by constructor <;> exact bi _ (by simp)
 have j25:zt5 mg "MOST_PLACES" (.int 60):=⟨_,W.mg_of X G gc0,⟨_,rfl⟩⟩
 have j52:zt5 mg "MOST_MAKERS" (.int 200):=⟨_,W.mg_of X G gc1,⟨_,rfl⟩⟩
 have j16:zt5 mg "STILL_LINE" (.int 0):=⟨_,W.mg_of X G gc2,⟨_,rfl⟩⟩
 refine⟨W.fnOf "law" "law" (W6 zj5) (Z5 zj5) (z8 zj5) .none kV dc pm an cd ct,λs v=>.of_eq rfl,λbase _ _=>?_⟩
 have Z:ZZ l.prog w K mg base:=⟨λa=>W.mg_of X G a⟩
 have j77:xn7 K mg xC0:=⟨Z.mg xe0.n,xe0.c,W.mg_none_of X G xv⟩
 have j13:=xe1.at Z
 have j35:=xe2.at Z
 have j5:=nBook.f
 have j4:=nStep.f
 have j0:=nChain.f
 have j1:=nGroup.f
 have j7:=nGrowth.f
 have j3:=nRing.f
 have j2:=nSides.f
 have j73:=Z.mg nAct
 have j63:=uA
 have j36:xn8 K cSides:=⟨j2.cls,caG,cgI,ckI,cmG⟩
 have j34:=a0.kn Z λD=>yi6 D B
 have j74:=a1.kn Z λD=>zv1 D B j34 j25
 have j12:=a2.kn Z λD=>zg6 D B j74
 have j18:=a3.kn Z λD=>xd9 D B
 have j6:=a4.kn Z λD=>yy1 D B
 have j17:=a5.kn Z λD=>xk0 D B
 have j75:=a6.kn Z λD=>zv2 D B j34 j12 j25 j52
 have j57:=iBookinit.mak Z nBook λF=>ya6 F B j5 j18 j16
 have j14:=iBookput.kn Z λF=>yi1 F B j5
 have j38:=iBookput_behind.kn Z λF=>zb5 F B j5 j14 j6 j16
 have j37:=iBookput_back.kn Z λF=>zg5 F B j5 j14 j17
 have j60:=iStepinit.mak Z nStep λF=>yb0 F B j4 j18 j16
 have j27:=iStepput_mover.kn Z λF=>ze4 F B j4
 have j54:=iStepput_place.kn Z λF=>ze5 F B j4 j17
 have j53:=iStepnext_pair.kn Z λF=>ze3 F B j4
 have j28:=iChaininit.mak Z nChain λF=>zu0 F B j0 j57 j60
 have j43:=iChainsifted.kn (sp:=yo8 cChain cBook cStep) Z λF=>zk4 F B j0 j4 j6
 have j15:=iChainholds.kn Z λF=>zp7 F B j0 j43
 have j39:=iChainfound_mover.kn Z λF=>C5 F B j0 j5 j4 j6 j54 j38 j37 j27 j15
 have j42:=iChainsettle.kn Z λF=>zk3 F B j0 j4 j53 j39
 have j20:=iChaintake.kn Z λF=>zu2 F B j0 j5 j4 j14 j27 j15 j42
 have j19:=iChainsize.kn (sp:=yd8 cChain cBook cStep) Z λF=>zu1 F B j0 j4
 have j29:=iGroupinit.mak Z nGroup λF=>zu3 F B j1 j0 j75 j28 j20
 have j23:=iGrouptold.kn (sp:=yd9 cGroup cChain cBook cStep) Z λF=>zu5 F B j1
 have j22:=iGroupsize.kn Z λF=>zu4 F B j1 j0 j19
 have j46:=iGrouphas.kn Z λF=>ya7 F B j1 j0 j12 j15
 have j44:=iChainturning_to.kn (sp:=zs9 cChain cBook cStep) Z λF=>za2 F B j0 j5 j4
 have j40:=iChainleast_of.kn (sp:=zh6 cChain cBook cStep) Z λF=>ze0 F B j0 j4 j44 j6
 have j21:=iGroupleast.kn Z λF=>zp8 F B j1 j0 j12 j40
 have j41:=iChainmovers_at.kn Z λF=>zb6 F B j0 j5 j4
 have j47:=iGrouplean_makers.kn Z λF=>C6 F B j1 j0 j41
 have j58:=iGrowthinit.mak Z nGrowth λF=>zp9 F B j7 j28
 have j49:=iGrowthtake.kn Z λF=>zq1 F B j7 j0 j20
 have j48:=iGrowthsize.kn Z λF=>zq0 F B j7 j0 j19
 have j50:=iGrowthwhole.kn Z λF=>zk5 F B j7 j1 j29
 have j76:=a7.kx Z λD=>zl0 D B j12 j13
 have j26:=iRingput_thing.kx (sp:=yd6 cRing xC2) Z λF=>ze2 F B j3 j35
 have j59:=iSidesinit.mak (sp:=zs6 cSides cGroup cChain cBook cStep) Z nSides λF=>zu6 F j2 j1 (iActinit.cm Z λF=>yh9 F)
 have j72:p4 K cSides ["many"]:=⟨j2.cls,λy hy=>j2.no y (by simp at hy;simp[hy])⟩
 have j10:∀n ps,(∀t∈ps,TM.IsT n t)->l4 l.prog w K mg base 5 cSides "moved" ["self","thing","t"] (yy9 n (p7 cSides cGroup cChain cBook cStep n ps) (TM.IsT n) (mvS n ps)):=λn ps hp=>iSidesmoved.kn Z λF=>zq3 F j2 j1 j6 j21 hp
 have j9:∀n ps,(∀t∈ps,TM.IsT n t)->zb0 l.prog w K mg base 6 cSides "looked" ["self","thing"] (yy8 (p7 cSides cGroup cChain cBook cStep n ps) (LKS n ps) xC1):=λn ps hp=>iSideslooked.kx Z λF=>zk8 F j2 j1 j76 j21 hp
 have j31:∀n ps,(∀t∈ps,TM.IsT n t)->zb0 l.prog w K mg base 7 cSides "kept" ["self","thing","t"] (yd4 n (p7 cSides cGroup cChain cBook cStep n ps) (LKS n ps) (mvS n ps) xC1):=λn ps hp=>iSideskept.kx Z λF=>yi0 F j2.cls (yv3 cSides cGroup cChain cBook cStep hp) (λh=>LKS.ok hp h) (j9 n ps hp) (j10 n ps hp)
 have j32:=λn ps hp=>yx8 (j9 n ps hp)
 have j30:=λn ps hp=>yn2 (j31 n ps hp)
 have j62:∀i:Prt,l4 l.prog w K mg base 7 cSides "kept" ["self","thing","t"] (zm6 i.n (p7 cSides cGroup cChain cBook cStep i.n i.ps) (LKS i.n i.ps) (mvS i.n i.ps)):=λi=>j30 i.n i.ps i.hp
 have j61:∀i:Prt,xi1 l.prog w K mg base 8 cRing "Ring" ["self","group","act","thing","most"] [.int 1000] (yd7 cRing cGroup cChain cBook cStep i.n (p7 cSides cGroup cChain cBook cStep i.n i.ps) (LKS i.n i.ps) (TM.IsT i.n) (mvS i.n i.ps)):=λ⟨n,ps,hp⟩=>yy4 (cA:=cSides) (X:=xC2) (X1:=xC1) (iRinginit.rk Z nRing λF=>ya9 (LK:=LKS n ps) F B j3 j1 j72 (yv3 cSides cGroup cChain cBook cStep hp) (λh s=>LKS.same h s) (j9 n ps hp) (iRingfill.kx Z λF=>ya8 F B j3 j1 (iRingnext_edge.kx Z λF=>ze1 F B j3 j1 j2.cls (yv3 cSides cGroup cChain cBook cStep hp) j23 (j10 n ps hp) j26 j6) j26 j18) j13)
 have j55:∀i:Prt,l4 l.prog w K mg base 1 cRing "things" ["self"] (zs7 cRing cGroup cChain cBook cStep i.n (p7 cSides cGroup cChain cBook cStep i.n i.ps)):=λi=>iRingthings.kn Z λF=>zq2 F B j3
 have j24:∀n ps,(∀t∈ps,TM.IsT n t)->l4 l.prog w K mg base 7 cRing "in_ring" ["self","thing"] (zf6 cRing cGroup cChain cBook cStep n (p7 cSides cGroup cChain cBook cStep n ps) (LKS n ps)):=λn ps hp=>iRingin_ring.kn Z λF=>zk6 F B j3 j2.cls (yv3 cSides cGroup cChain cBook cStep hp) (j32 n ps hp)
 have j45:∀n ps,(∀t∈ps,TM.IsT n t)->l4 l.prog w K mg base 8 cRing "far" ["self","thing"] (xg1 cRing cGroup cChain cBook cStep n (p7 cSides cGroup cChain cBook cStep n ps) (LKS n ps)):=λn ps hp=>iRingfar.kn Z λF=>yi2 F B j3 (j24 n ps hp)
 have j56:∀n ps,(∀t∈ps,TM.IsT n t)->l4 l.prog w K mg base 8 cRing "way" ["self","thing"] (xg8 cRing cGroup cChain cBook cStep n (p7 cSides cGroup cChain cBook cStep n ps) (LKS n ps)):=λn ps hp=>iRingway.kn Z λF=>yi3 F B j3 (j24 n ps hp)
 have j51:∀i:Prt,l4 l.prog w K mg base 10 cRing "keepers" ["self"] (zh5 cRing cGroup cChain cBook cStep i.n (p7 cSides cGroup cChain cBook cStep i.n i.ps) (TM.IsT i.n) (mvS i.n i.ps)):=λ⟨n,ps,hp⟩=>iRingkeepers.kn Z λF=>zk7 F B j3 j1 j7 (yv3 cSides cGroup cChain cBook cStep hp) j58 j48 j50 j22 (iRingput_keepers.kn Z λF=>za3 F B j3 j1 j7 j2.cls (yv3 cSides cGroup cChain cBook cStep hp) j47 (j10 n ps hp) j49 j6 j17)
 have j65:=a8.kn Z λD=>yb1 D B
 have j71:=a9.kn Z λD=>zv0 D B
 have j33:=a10.kn Z λD=>zu9 D B
 have j68:=a11.kn Z λD=>zu8 D B j33
 have j8:=a12.kn Z λD=>zq4 D B
 have j64:=a13.kn Z λD=>yi4 D B j8
 have j11:=a14.kn Z λD=>zu7 D B j8
 have j69:=a15.kn Z λD=>zk9 D B j2 j9 j31 j13
 have j66:=a16.kn Z λD=>yb2 D B j2 j32 j30 j10 j11 j8 j71
 have j70:=a17.kn Z λD=>zq5 D B j11 j8
 have j67:=a18.kn Z λD=>yi5 D B j3 j56 j45 j11 j8
 exact xq6 ⟨zo6 (st:=zj5) lL cL kL,(zo6 (st:=zj5) lL cL kL).binds (ps:=["_law_script"]) λ_ _ _ _ _ _ us hl=>match us,hl with|[_],_=>rfl,W.mg_of X G aL⟩ B j1 j2 j3 j73 j36 j63 j29 j59 j61 j55 j51 j62 j46 j22 j23 j65 j33 j68 j64 j11 j66 j69 j70 j67
end Tb
open PySem PySem.W PyProof.Rows
set_option maxRecDepth 100000 in
set_option maxHeartbeats 0 in
theorem PySem.Challenge.cw_turnbase_k48_sides_act_holds : PySem.Challenge.rw_turnbase_k48_sides_act.Holds := by
 refine Tb.early.2 Tb.early2 Tb.early3 Tb.early4 Tb.early5 ?_
 refine Tb.walk (l := PySem.Challenge.rw_turnbase_k48_sides_act) (k := 11) (x := "_law_script") rfl rfl ⟨rfl, by decide, by decide⟩ (fun w h Y => PySem.W.kIn_of Y) ?F
 case F =>
  intro w mg fa h KX G hmg
  refine' Tb.all_mk KX G hmg ?a0 ?a1 ?a2 ?a3 ?a4 ?a5 ?a6 ?a7 ?a8 ?a9 ?a10 ?a11 ?a12 ?a13 ?a14 ?a15 ?a16 ?a17 ?a18 ?aL ?lL ?cL ?kL ?gc0 ?gc1 ?gc2 ?nBook ?nStep ?nChain ?nGroup ?nGrowth ?iBookinit ?iBookput ?iBookput_behind ?iBookput_back ?iStepinit ?iStepput_mover ?iStepput_place ?iStepnext_pair ?iChaininit ?iChainsifted ?iChainholds ?iChainfound_mover ?iChainsettle ?iChaintake ?iChainsize ?iGroupinit ?iGrouptold ?iGroupsize ?iGrouphas ?iChainturning_to ?iChainleast_of ?iGroupleast ?iChainmovers_at ?iGrouplean_makers ?iGrowthinit ?iGrowthtake ?iGrowthsize ?iGrowthwhole ?nRing ?nSides ?iRingfill ?iRingnext_edge ?iRingput_thing ?iRingthings ?iRingin_ring ?iRingfar ?iRingway ?iRingput_keepers ?iRingkeepers ?iSidesinit ?iSideslooked ?iSidesmoved ?iSideskept ?iRinginit ?nAct ?iActinit ?uA ?caG ?cgI ?ckI ?cmG ?xe0 ?xe1 ?xe2 ?xp2 ?xq2 ?xv ?zz
  (case a0 | a1 | a2 | a3 | a4 | a5 | a6 | a7 | a8 | a9 | a10 | a11 | a12 | a13 | a14 | a15 | a16 | a17 | a18 => refine' Tb.DI.of ?x1 ?x2 ?x3 ?x4; (case x1 | x2 | x3 | x4 => first | k_is | kernel_rfl | (unfold Tb.MF; k_is)))
  (case nBook | nStep | nChain | nGroup | nGrowth | nRing | nSides => refine' Tb.CI.of ?x1 ?x2 ?x3 ?x4 ?x5 ?x6 ?x7 ?x8; (case x1 | x2 | x3 | x4 | x5 | x6 | x7 | x8 => first | k_is | kernel_rfl | (unfold Tb.MF; k_is)))
  (case iBookinit | iBookput | iBookput_behind | iBookput_back | iStepinit | iStepput_mover | iStepput_place | iStepnext_pair | iChaininit | iChainsifted | iChainholds | iChainfound_mover | iChainsettle | iChaintake | iChainsize | iGroupinit | iGrouptold | iGroupsize | iGrouphas | iChainturning_to | iChainleast_of | iGroupleast | iChainmovers_at | iGrouplean_makers | iGrowthinit | iGrowthtake | iGrowthsize | iGrowthwhole | iRingfill | iRingnext_edge | iRingput_thing | iRingthings | iRingin_ring | iRingfar | iRingway | iRingput_keepers | iRingkeepers | iSidesinit | iSideslooked | iSidesmoved | iSideskept => refine' Tb.MI.of ?x1 ?x2 ?x3 ?x4 ?x5; (case x1 | x2 | x3 | x4 | x5 => first | k_is | kernel_rfl | (unfold Tb.MF; k_is)))
  (case iRinginit => refine' Tb.MID.of ?x1 ?x2 ?x3 ?x4 ?x5 ?x6 ?x7; (case x1 | x2 | x3 | x4 | x5 | x6 => first | k_is | kernel_rfl | (unfold Tb.MF; k_is)); (case x7 => exact rfl))
  (case iActinit => refine' Tb.AM.of ?x1 ?x2 ?x3 ?x4 ?x5 ?x6 ?x7; (case x1 | x2 | x3 | x4 | x5 | x6 | x7 => first | k_is | kernel_rfl | (unfold Tb.MF; k_is)))
  (case xe0 => refine' Tb.EI.of ?x1 ?x2 ?x3 ?x4 ?x5 ?x6; (case x1 | x2 | x3 | x4 | x5 | x6 => first | k_is | kernel_rfl | (unfold Tb.MF; k_is)))
  (case xe1 | xe2 => refine' ⟨Tb.EI.of ?x1 ?x2 ?x3 ?x4 ?x5 ?x6, ?x7⟩; (case x1 | x2 | x3 | x4 | x5 | x6 | x7 => first | k_is | kernel_rfl | (unfold Tb.MF; k_is)))
  (case aL | lL | cL | kL | gc0 | gc1 | gc2 | nAct | uA | caG | cgI | ckI | cmG | xv | zz => first | k_is | kernel_rfl | (unfold Tb.MF; k_is))
  (case xp2 | xq2 => decide)

