import PyProof.Rows.All
import KE.KIsAll
import KE.KLam
import KE.KSortTup
import KE.LcSums
import OpenK.KEqL
import KE.KItem
import Lean
import PySem.Challenge.RW_turnbase_k66_whole_rings_and_mirrors
open Array renaming length_toList → cA, getElem?_toList → dP, append_assoc → dZ
open Bool renaming false_ne_true → aJ, eq_false_iff → bJ, and_eq_true → bR, false_eq_true → cE, eq_iff_iff → cP, false_and → dC, and_false → dD
open Int renaming emod_nonneg → aY, natCast_mul → br, emod_lt_of_pos → bv, toNat_of_nonneg → bB, one_mul → bO, natCast_add → bW, toNat_natCast → cn, natCast_emod → cN, fmod_eq_emod_of_nonneg → dH, fdiv_eq_ediv_of_nonneg → dI, natCast_ediv → eG, zero_add → eP
open List renaming length_map → aa, getElem?_eq_getElem → ac, mem_singleton → ae, length_append → af, getElem?_map → ag, mem_map → ah, getD_eq_getElem?_getD → ao, getElem?_eq_some_iff → ap, mem_cons → au, mem_cons_of_mem → av, mem_of_getElem? → aw, mem_cons_self → ax, length_range → az, size_toArray → aA, mem_append → aB, mem_append_right → aD, mem_append_left → aE, map_append → aF, mem_range → aG, mem_nil_iff → aH, getElem?_append_left → aI, nodup_cons → aK, getElem?_range → aM, getElem?_append_right → aN, getElem?_eq_none → aP, length_cons → aQ, length_singleton → aR, map_cons → aT, mem_filterMap → aU, take_append_of_le_length → aZ, pairwise_map → ba, nodup_append → bc, length_set → bd, take_length → bg, lookup_cons → bh, length_take → bj, getElem?_set_ne → bn, all_eq_true → bo, append_nil → bp, pairwise_iff_getElem → bu, getElem?_of_mem → bz, map_congr_left → bA, getElem?_set_self → bC, nodup_range → bE, mem_flatten → bF, take_add_one → bG, mem_of_mem_take → bH, mem_iff_getElem → bI, getElem?_take_of_lt → bK, take_of_length_le → bL, ext_getElem? → bM, not_mem_nil → bP, mem_flatMap → bQ, find?_cons → bV, nodup_nil → bZ, map_map → ca, flatMap_cons → cf, find?_cons_of_pos → ci, find?_cons_of_neg → ck, drop_of_length_le → cm, take_append_drop → cq, length_replicate → cr, length_drop → cu, of_mem_zip → cz, filterMap_cons → cD, take_sublist → cF, append_assoc → cH, getElem_mem → cK, getElem?_replicate → cM, length_nil → cO, dropLast_concat → cU, getElem?_drop → cV, map_nil → cY, find?_append → cZ, eraseIdxIfInBounds_toArray → di, cons_ne_nil → dk, range_succ → du, mem_filter → dv, dropLast_concat_getLast → dz, perm_ext_iff_of_nodup → dB, mem_or_eq_of_mem_set → dF, drop_eq_getElem_cons → dG, sum_cons → dJ, length_erase_of_mem → dL, any_cons → dM, length_eq_zero_iff → dN, getElem?_cons_succ → dO, mem_map_of_mem → dY, find?_eq_none → eo, getElem_inj → eE, take_zero → eI, map_take → eJ, map_drop → eK, all_cons → eL, all_map → eN
open Nat renaming le_refl → aq, lt_of_lt_of_le → aO, ne_of_lt → aS, zero_le → aV, lt_irrefl → aW, le_trans → aX, gcd_comm → be, le_of_lt → bx, sub_self → bD, pow_le_pow_right → bN, pow_succ → bS, lt_succ_self → bT, le_of_not_lt → bU, lt_of_le_of_lt → bX, one_mul → cx, le_succ → cy, mul_one → cI, mul_assoc → cJ, not_lt_zero → cQ, not_lt → cX, sub_zero → de, le_of_eq → df, mod_eq_of_lt → dq, one_pos → dr, mul_le_mul → dE, ne_of_gt → dQ, lt_or_ge → dR, le_total → dS, add_comm → dU, mul_le_mul_right → dX, mod_lt → eB, eq_zero_or_pos → eC, lt_succ_of_lt → eD, le_add_right → eF, le_of_dvd → eM, succ_mul → eO, add_mul → eQ
open Option renaming map_eq_some_iff → bY, getD_some → cp, isSome_iff_exists → dA, isSome_map → dW, getD_none → eh, map_some → eA
open PyProof.Rows renaming seqObj → fm
open PySem renaming wpAny_bind → eR, Shared → eS, wpAny_pure → eT, sizeLine → eU, Program → eV, wpAny → eW, starEach → eX, model → eY, World → eZ, Around → fc, wpAny_holding → ff, wpAny_mono → fg, bootBuiltins → fh, keywordEach → fj, FuncData → fk
open PySem.Heap renaming get?_push_of_some → ar, lt_size → ay, get?_push_size → aC, size_push → cR
set_option Elab.async false
set_option linter.all false
set_option compiler.extract_closed false
set_option genSizeOf false
local macro_rules | `(tactic| trivial) => `(tactic| (intro _ _ _ _ _ _ us hl; rcases us with _ | ⟨_, _ | ⟨_, _ | ⟨_, _ | ⟨_, _ | ⟨_, _ | ⟨_, _⟩⟩⟩⟩⟩⟩ <;> first | rfl | simp at hl))
namespace Tb
open PySem PySem.W
def yo4 (st:SharedT->Thread->Option (SharedT×Thread))(ok thr:Thread->Bool):Nat->SharedT->Thread->Option SharedT
 | 0,_,_=>none
 | n+1,s,t=>match thr t with
  | true=>some s
  | false=>match ok t with
   | false=>none
   | true=>match st s t with
    | some (s',t')=>yo4 st ok thr n s' t'
    | none=>none
theorem yc8 {tb:String->Option Builtin}{p:eV}{w:eZ}{n₀:Nat}{ann:Option Value}:∀{n:Nat} {s r:SharedT} {t:Thread},yo4 (stepT (denote tb) p w) (stepOk n₀ ann) through n s t=some r->topRun tb p w n₀ ann n s.abs t=some r.abs
 | 0,_,_,_,h=>by cases h
 | n+1,s,r,t,h=>by
  unfold yo4 at h
  unfold topRun
  cases ht:through t with
  | true=>rw[ht]at h;cases h;rfl
  | false =>
   rw[ht]at h
   cases hk:stepOk n₀ ann t with
   | false=>rw[hk]at h;cases h
   | true =>
    rw[hk]at h
    cases hs:stepT (denote tb) p w s t with
    | none=>rw[hs]at h;cases h
    | some q =>
     obtain⟨s₂,t₂⟩:=q
     rw[hs]at h
     rw[stepT_spec hs]
     exact yc8 h
def za0:List Obj->Nat->BT->Option BT
 | [],_,T=>some T
 | o::r,k,T=>match ((T.ins k o).get k).isSome with
  | true=>za0 r (k+1) (T.ins k o)
  | false=>none
theorem zi9 {life:Life}:∀{l:List Obj} {k:Nat} {T T':BT},za0 l k T=some T'->(absHeap T' (k+l.length) life).objs=(absHeap T k life).objs++l.toArray
 | [],k,T,T',h=>by
  cases h
  simp
 | o::r,k,T,T',h=>by
  unfold za0 at h
  cases hs:((T.ins k o).get k).isSome with
  | false=>rw[hs]at h;cases h
  | true =>
   rw[hs]at h
   have ih:=zi9 (life:=life) h
   rw[absHeap_ins hs]at ih
   rw[aQ,show k+(r.length+1)=k+1+r.length by lia,ih]
   show((absHeap T k life).objs.push o)++r.toArray=_
   simp
theorem zv8 {h:Heap}{T:BT}(e:za0 h.objs.toList 0 .nil=some T):absHeap T h.objs.size h.life=h:=by
 have q:=zi9 (life:=h.life) e
 rw[Nat.zero_add,cA]at q
 have q0:(absHeap BT.nil 0 h.life).objs=#[]:=by
  apply Array.ext_getElem?
  intro i
  rw[absHeap_at]
  simp
 rw[q0]at q
 have:(absHeap T h.objs.size h.life).objs=h.objs:=by rw[q];simp
 show Heap.mk _ _=h
 rw[show h=Heap.mk h.objs h.life from rfl]
 exact congrArg (Heap.mk · h.life) this
def yk1 (fo:Option eS)(st:SharedT->Thread->Option (SharedT×Thread))(ok:Nat->Option Value->Thread->Bool)(p:eV)(N:Nat):Option (eS×SharedT) :=
 match fo with
 | none=>none
 | some s₀=>match za0 s₀.heap.objs.toList 0 .nil with
  | none=>none
  | some T=>match yo4 st (ok s₀.heap.objs.size (s₀.heap.nsMap mainGlobals "__annotations__")) through N ⟨T,s₀.heap.objs.size,s₀.heap.life,s₀.gens,s₀.drawn,s₀.toks,s₀.os⟩ (topStub p) with
   | none=>none
   | some s₁=>some (s₀,s₁)
def ye2 {β:Type}:Nat->List β->List β
 | 0,_=>[]
 | _+1,[]=>[]
 | n+1,x::l=>x::ye2 n l
def zs9 {β:Type}:Nat->List β->List β
 | 0,l=>l
 | _+1,[]=>[]
 | n+1,_::l=>zs9 n l
theorem zv7 {β:Type}:∀(n:Nat) (l:List β),ye2 n l=l.take n
 | 0,_=>rfl
 | _+1,[]=>rfl
 | n+1,x::l=>congrArg (x :: ·) (zv7 n l)
theorem E2 {β:Type}:∀(n:Nat) (l:List β),zs9 n l=l.drop n
 | 0,_=>rfl
 | _+1,[]=>rfl
 | n+1,_::l=>E2 n l
theorem leftC {p q:eV}{loose:List Str}{Xt:eS->Bool}{β:Type}{Yf:eS->List β}{Ya:eZ->List β}{N:Nat}{g0:Bool}(n:Nat)(e:opening p=plainProg p.main.scope.names)(hN:Nat.ble 600 N=true)(f:∀s,fenceModules? p s=some s)
  (hA:∀w os,(yk1 (some ⟨boot_heap w.params,Array.mk [],boot_drawn,boot_toks,os⟩) (stepT (denote treeTable) p w) stepOk p N).map (λr=>(r.1.heap.isNs mainGlobals&&r.1.gens.size==0,staticsOk (importedModules p.main.body) r.1.heap r.2.abs.heap&&namesBound p r.2.abs.heap&&gensDone r.2.abs&&laidKept r.1.heap r.2.abs.heap,openSeen q loose (importedModules p.main.body) Xt g0 r.2.abs))=some (true,true,openGood q loose))
  (hB:∀w os,(yk1 (some ⟨boot_heap w.params,Array.mk [],boot_drawn,boot_toks,os⟩) (stepT (denote treeTable) p w) stepOk p N).map (λr=>(Yf r.2.abs).take n)=some (ye2 n (Ya w)))
  (hC:∀w os,(yk1 (some ⟨boot_heap w.params,Array.mk [],boot_drawn,boot_toks,os⟩) (stepT (denote treeTable) p w) stepOk p N).map (λr=>((Yf r.2.abs).drop n).take n)=some (ye2 n (zs9 n (Ya w))))
  (hD:∀w os,(yk1 (some ⟨boot_heap w.params,Array.mk [],boot_drawn,boot_toks,os⟩) (stepT (denote treeTable) p w) stepOk p N).map (λr=>((Yf r.2.abs).drop n).drop n)=some (zs9 n (zs9 n (Ya w)))):LeftO p q loose Xt Yf Ya N g0:=λw=>by
 obtain⟨s₀,hs,hv⟩:=bY.mp (boot_open e hN f w)
 have es:(⟨boot_heap w.params,Array.mk [],boot_drawn,boot_toks,s₀.os⟩:eS)=s₀:=by
  obtain⟨h1,h2⟩:=Prod.mk.inj hv
  obtain⟨h2,h3⟩:=Prod.mk.inj h2
  obtain⟨h3,h4⟩:=Prod.mk.inj h3
  rw[←h1,←h2,←h3,←h4]
 have a:=hA w s₀.os
 have b:=hB w s₀.os
 have c:=hC w s₀.os
 have d:=hD w s₀.os
 rw[es]at a b c d
 clear es hv
 unfold openEnds
 rw[hs]
 unfold yk1 at a b c d
 dsimp only at a b c d
 cases ht:za0 s₀.heap.objs.toList 0 .nil with
 | none=>rw[ht]at a;cases a
 | some T =>
  rw[ht]at a b c d
  dsimp only at a b c d
  cases hr:yo4 (stepT (denote treeTable) p w) (stepOk s₀.heap.objs.size (s₀.heap.nsMap mainGlobals "__annotations__")) through N ⟨T,s₀.heap.objs.size,s₀.heap.life,s₀.gens,s₀.drawn,s₀.toks,s₀.os⟩ (topStub p) with
  | none=>rw[hr]at a;cases a
  | some s₁ =>
   rw[hr]at a b c d
   have a:=Option.some.inj a
   have b:=Option.some.inj b
   have c:=Option.some.inj c
   have d:=Option.some.inj d
   dsimp only at a b c d
   rw[zv7]at b c
   rw[E2]at c
   rw[E2,E2]at d
   have c':(Yf s₁.abs).drop n=(Ya w).drop n:=by rw[←cq n ((Yf s₁.abs).drop n),c,d,cq]
   have b':Yf s₁.abs=Ya w:=by rw[←cq n (Yf s₁.abs),b,c',cq]
   have e1:=(Prod.mk.inj a).1
   have e2:=(Prod.mk.inj (Prod.mk.inj a).2).1
   have e3:=(Prod.mk.inj (Prod.mk.inj a).2).2
   have r:=yc8 hr
   have ab:(SharedT.mk T s₀.heap.objs.size s₀.heap.life s₀.gens s₀.drawn s₀.toks s₀.os).abs=s₀:=by
    show Shared.mk (absHeap T s₀.heap.objs.size s₀.heap.life) s₀.gens s₀.drawn s₀.toks s₀.os=s₀
    rw[zv8 ht]
   rw[ab]at r
   show Option.map _ (topFrom treeTable p w N s₀)=_
   unfold topFrom
   rw[e1]
   dsimp only
   rw[r]
   show Option.map _ (match staticsOk (importedModules p.main.body) s₀.heap s₁.abs.heap&&namesBound p s₁.abs.heap&&gensDone s₁.abs&&laidKept s₀.heap s₁.abs.heap with|true=>some s₁.abs|false=>none)=_
   rw[e2]
   exact congrArg some (Prod.ext e3 b')
end Tb
section
open PySem PySem.W PyProof.Rows
namespace Tb
def seenQ:eV:=view PySem.Challenge.pw_turnbase_k66_whole_rings_and_mirrors [0,2,3,4,6,7,8,9,10,11,12,13,15,16,17,18,20,21,22,23,25,26,28,29,30,31,32,33,34,35,37,38,39,40,41,42,43,44]
end Tb
local macro_rules | `(tactic| o_head $H:term)=>`(tactic| refine W.holds_open (q:=Tb.seenQ) (loose:=[]) (Xt:=λs=>xlAt Tb.seenQ [] s&&recOk (RowW.records (OpenRow.toRowW PySem.Challenge.rw_turnbase_k66_whole_rings_and_mirrors.row)) s) (XP:=XL Tb.seenQ []) (Yf:=Hook.obs $H) (Ya:=Hook.val $H) (YP:=Hook.says $H) (N:=7546) ?hl (Hook.of $H) (Hook.keeps $H) (λs e=>xl_of s (Bool.and_eq_true_iff.mp e).1) XL.keeps (by rfl) (by rfl) (by rfl) (λs e=>recFacts_of (Bool.and_eq_true_iff.mp e).2) (by rfl) (by assumption) (by decide +kernel) ⟨rfl,rfl,rfl,rfl,rfl,by decide +kernel⟩ ?hw ?hc)
set_option maxRecDepth 100000 in
set_option maxHeartbeats 0 in
def Tb.early:PSigma (λT:Prop×Prop×Prop×Prop×Prop=>T.1->T.2.1->T.2.2.1->T.2.2.2.1->T.2.2.2.2->PySem.Challenge.rw_turnbase_k66_whole_rings_and_mirrors.Holds):=by
 refine⟨(∀w os,(?A:eZ->OsState->Prop) w os,∀w os,(?B:eZ->OsState->Prop) w os,∀w os,(?C:eZ->OsState->Prop) w os,∀w os,(?D:eZ->OsState->Prop) w os,?T),λha hb hc hd he=>?m⟩
 (case m =>
  w_on;refine W.holds_law (by kernel_rfl) λsaid=>?_;k_head
  (case hl =>
  refine Tb.leftC (β:=Option Obj) 190 (by kernel_rfl) (by decide) (λs=>by kernel_rfl) ?_ ?_ ?_ ?_ <;> intro w os <;> (try unfold Tb.seenQ) <;> (repeat (first|rw[PySem.W.Fast.te10274390034422433532]|rw[PySem.W.Fast.te14289696077712309145]|rw[PySem.W.Fast.te10156331382660048174]|rw[PySem.W.Fast.te6613529449190102663]|rw[PySem.W.Fast.te11892475500146522536]|rw[PySem.W.Fast.te4187177175401517315]|rw[PySem.W.Fast.te14364793385576792824]|rw[PySem.W.Fast.te1435165496053646825]|rw[PySem.W.Fast.te5923862056798008813]))
  ·exact ha w os
  ·exact hb w os
  ·exact hc w os
  ·exact hd w os)
  (case hw=>w_witness2)
  k_fill
  exact he)
set_option maxRecDepth 100000 in
set_option maxHeartbeats 0 in
theorem Tb.early2:Tb.early.1.1:=by
 refine λw os=>?_
 kernel_rfl
set_option maxRecDepth 100000 in
set_option maxHeartbeats 0 in
theorem Tb.early3:Tb.early.1.2.1:=by
 refine λw os=>?_
 kernel_rfl
set_option maxRecDepth 100000 in
set_option maxHeartbeats 0 in
theorem Tb.early4:Tb.early.1.2.2.1:=by
 refine λw os=>?_
 kernel_rfl
set_option maxRecDepth 100000 in
set_option maxHeartbeats 0 in
theorem Tb.early5:Tb.early.1.2.2.2.1:=by
 refine λw os=>?_
 kernel_rfl
end
set_option Elab.async false
set_option linter.all false
set_option maxRecDepth 100000
namespace L2
open PySem PySem.Spec PyProof.Rows
abbrev Key:=Sum Int Str
def zf6 : Key -> Value -> Bool
  | .inl k,v=>Value.isInt k v
  | .inr x,v=>Value.isStrOf x v
def xe6 (w : eZ) : Key -> Int
  | .inl k=>hashInt k
  | .inr x=>hashStr w x
theorem o0 : ∀{k : Key} {v : Value}, zf6 k v = true -> (∃i t, k = Sum.inl i /\ v = Value.int i t)∨(∃x t, k = Sum.inr x /\ v = Value.str x t)
  | .inl i,v,h=>by
    obtain⟨t,e⟩:=Value.isInt_shape (k:=i) (v:=v) h
    exact .inl ⟨i,t,rfl,e⟩
  | .inr x,v,h=>by
    obtain⟨t,e⟩:=Value.isStrOf_shape (x:=x) (v:=v) h
    exact .inr ⟨x,t,rfl,e⟩
theorem yg0 (i:Int)(t:Tok):zf6 (.inl i) (.int i t)=true:=by simp[zf6,Value.isInt]
theorem yg1 (x:Str)(t:Tok):zf6 (.inr x) (.str x t)=true:=by simp[zf6,Value.isStrOf]
theorem yw9 (a b:Int):decide ((Sum.inl a:Key)=Sum.inl b)=(a==b):=by
  by_cases e:a=b
  . subst e;simp
  . have h : ¬(Sum.inl a : Key) = Sum.inl b := λq => e (Sum.inl.inj q)
    rw[decide_eq_false h]
    exact(beq_eq_false_iff_ne.mpr e).symm
theorem yx2 (a b:Str):decide ((Sum.inr a:Key)=Sum.inr b)=decide (a=b):=by
  by_cases e:a=b
  . subst e;simp
  . have h : ¬(Sum.inr a : Key) = Sum.inr b := λq => e (Sum.inr.inj q)
    rw[decide_eq_false h,decide_eq_false e]
theorem yx0 (a:Int)(b:Str):decide ((Sum.inl a:Key)=Sum.inr b)=false:=decide_eq_false (λq=>nomatch q)
theorem yx1 (a:Str)(b:Int):decide ((Sum.inr a:Key)=Sum.inl b)=false:=decide_eq_false (λq=>nomatch q)
def l5 (prog:eV)(w:eZ):PySem.KeyKind prog w Key where
  is:=zf6
  hash:=xe6 w
  inj:=λv a b ha hb=>by
    rcases o0 ha with⟨i,t,rfl,rfl⟩|⟨x,t,rfl,rfl⟩
    . rcases o0 hb with⟨j, u, rfl, e⟩|⟨y, u, rfl, e⟩
      . injection e with e1 _;rw[e1]
      . exact nomatch e
    . rcases o0 hb with⟨j, u, rfl, e⟩|⟨y, u, rfl, e⟩
      . exact nomatch e
      . injection e with e1 _;rw[e1]
  byValue:=λk v h=>by
    rcases o0 h with⟨i,t,rfl,rfl⟩|⟨x,t,rfl,rfl⟩ <;> rfl
  pyHash:=λhv h=>by
    rcases o0 hv with⟨i,t,rfl,rfl⟩|⟨x,t,rfl,rfl⟩
    . exact wpAny_pyHash_int h
    . exact wpAny_pyHash_str h
  eqBool:=λhu hv h=>by
    rcases o0 hu with⟨i,t,rfl,rfl⟩|⟨x,t,rfl,rfl⟩
    . rcases o0 hv with⟨j, u, rfl, rfl⟩|⟨y, u, rfl, rfl⟩
      . rw[yw9]at h;exact wpAny_eqBool_int h
      . rw[yx0]at h;exact SeqAt.EqAt.int_str i t y u _ _ _ _ h
    . rcases o0 hv with⟨j, u, rfl, rfl⟩|⟨y, u, rfl, rfl⟩
      . rw[yx1]at h;exact SeqAt.EqAt.str_int x t j u _ _ _ _ h
      . rw[yx2]at h;exact wpAny_eqBool_str h
  «strs»:=λk x t v h=>by
    rcases o0 h with⟨i,u,rfl,e⟩|⟨y,u,rfl,e⟩
    . exact nomatch e
    . injection e with e1 _
      subst e1
      cases v <;> rfl
theorem zt4 (prog:eV)(w:eZ)(i:Int)(t:Tok):(l5 prog w).is (.inl i) (.int i t)=true:=yg0 i t
theorem zt5 (prog:eV)(w:eZ)(x:Str)(t:Tok):(l5 prog w).is (.inr x) (.str x t)=true:=yg1 x t
inductive V where
  | non|bl (b:Bool)|int (i:Int)|str (x:Str)|byt (b:Array UInt8)|flt (b:UInt64)|ref (a:Addr)|ty (n:String)
  deriving DecidableEq
def u0 : V -> Value -> Prop
  | .non,u=>u=Value.none
  | .bl b,u=>u=Value.bool b
  | .int i,u=>∃t,u=Value.int i t
  | .str x,u=>∃t,u=Value.str x t
  | .byt b,u=>∃t,u=Value.bytes b t
  | .flt b,u=>∃t,u=Value.float b t
  | .ref a,u=>u=Value.ref a
  | .ty n,u=>u=Value.type n
abbrev v9:List V->List Value->Prop:=Paired u0
theorem v9.length {xs:List V}{us:List Value}(r:v9 xs us):xs.length=us.length:=Paired.length r
theorem v9.get : ∀{xs : List V} {us : List Value} {i : Nat} {x : V}, v9 xs us -> xs[i]? = some x -> ∃u, us[i]? = some u /\ u0 x u
  | _,_,_,_,.nil,e=>by simp at e
  | _,_,0,_,.cons r _,e=>by simp at e;subst e;exact⟨_,rfl,r⟩
  | _,_,i+1,x,.cons _ t,e=>by
    obtain⟨u,h1,h2⟩:=v9.get (i:=i) (x:=x) t (by simpa using e)
    exact⟨u,by simpa using h1,h2⟩
theorem v9.set {x : V}{u : Value}(r : u0 x u) : ∀{xs : List V} {us : List Value} (i : Nat), v9 xs us -> v9 (xs.set i x) (us.set i u)
  | _,_,_,.nil=>.nil
  | _,_,0,.cons _ t=>.cons r t
  | _,_,i+1,.cons q t=>.cons q (v9.set r i t)
theorem v9.append : ∀{xs ys : List V} {us ws : List Value}, v9 xs us -> v9 ys ws -> v9 (xs ++ ys) (us ++ ws)
  | _,_,_,_,.nil,s=>s
  | _,_,_,_,.cons r t,s=>.cons r (v9.append t s)
theorem v9.take : ∀{xs : List V} {us : List Value} (n : Nat), v9 xs us -> v9 (xs.take n) (us.take n)
  | _,_,0,_=>.nil
  | _,_,_+1,.nil=>.nil
  | _,_,n+1,.cons r t=>.cons r (v9.take n t)
theorem v9.drop : ∀{xs : List V} {us : List Value} (n : Nat), v9 xs us -> v9 (xs.drop n) (us.drop n)
  | _,_,0,r=>r
  | _,_,_+1,.nil=>.nil
  | _,_,n+1,.cons _ t=>v9.drop n t
def K2 : Option V -> Option Value -> Prop
  | some v,some u=>u0 v u
  | none,none=>True
  | _,_=>False
def KV {κ:Type}:List (κ×V)->List (κ×Value)->Prop:=Paired λ(p:κ×V) (q:κ×Value)=>p.1=q.1/\u0 p.2 q.2
def kV : Key -> V
  | .inl i=>.int i
  | .inr x=>.str x
inductive HO where
  | lst (xs:List V)
  | tup (xs:List V)
  | dK (kvs:List (Key×V))|dT (kvs:List (List Key×V))
  | set (S:Int->Bool) (n:Nat)
  | ins (C dx:Addr) (fs:List (Str×V))
  | own (x:Addr)
  | xd (fs:List (Str×V))
  | met (f x:Addr)
  | rng (lo hi:Int)
  | frz (o:Obj) (u:HO)
  | tbl (ps:Array Value)
  | ext (φ:Heap->Prop)
abbrev Hp:=Addr->Option HO
def upd (H:Hp)(a:Addr)(o:HO):Hp:=λb=>if b=a then some o else H b
theorem z3 {H:Hp}{a:Addr}{o:HO}:upd H a o a=some o:=by unfold upd;rw[if_pos rfl]
theorem z5 {H:Hp}{a b:Addr}{o:HO}(h:b≠a):upd H a o b=H b:=by unfold upd;rw[if_neg h]
theorem o3 {H:Hp}{a b:Addr}{o u:HO}(h:H a=some o)(h':H b=some u)(d:o≠u):a≠b:=by
  intro e;subst e;rw[h]at h';exact d (Option.some.inj h')
theorem y0 {H:Hp}{a b:Addr}{o:HO}(h:H a=some o)(h':H b=none):a≠b:=by
  intro e;subst e;rw[h]at h';cases h'
def zr8 (h:Heap)(a:Addr)(items:Array Value):Prop:=∃o,h.get? a=some o/\o.cls=.type "tuple"/\∃n,o.data=.seq items n/\o.dict=none
theorem zr8.new (h:Heap)(items:Array Value):zr8 (h.push { cls:=.type "tuple",data:=.seq items }) h.objs.size items:=⟨_,aC _ rfl,rfl,_,rfl,rfl⟩
theorem zr8.is {h:Heap}{a:Addr}{items:Array Value}(x:zr8 h a items):IsTup h a items:=let ⟨o,h1,h2,n,h3,_⟩:=x;⟨o,h1,h2,n,h3⟩
section
variable (P:eV)(w:eZ)
def p9 (H : Hp)(h : Heap)(a : Addr) : HO -> Prop
  | .lst xs=>xs.length<=eU/\∃(its:List Value) (n:Nat),v9 xs its/\h.get? a=some { cls:=.type "list",data:=.seq its.toArray n }
  | .tup xs=>xs.length<=eU/\∃its:List Value,v9 xs its/\zr8 h a its.toArray
  | .dK kvs=>kvs.length<=eU/\(a==sysModules)=false/\∃vs,KV kvs vs/\h.DictOf (l5 P w) a vs
  | .dT kvs=>kvs.length<=eU/\(a==sysModules)=false/\∃xs:List (List Key×Addr×Value),
      Paired (λ(p:List Key×V) (q:List Key×Addr×Value)=>p.1=q.1/\H q.2.1=some (.tup (p.1.map kV))/\u0 p.2 q.2.2) kvs xs /\
      ∃o es ep,h.get? a=some o/\o.ExactDict/\o.data=.dict es ep/\es.toList=xs.map (entryOfKey (tupleKind (l5 P w)))/\(xs.map (·.1)).Nodup
  | .set S n=>h.SetOf (intKind P w) a S n
  | .ins C dx fs=>H dx=some (.own a)/\fs.length<=1000/\dx≠a/\h.get? a=some (W.instObj C dx) /\
      ∃mA,h.Ns1 dx mA/\(∀f,K2 (fs.lookup f) (mA f))/\PySem.Within mA (fs.map (·.1))
  | .own _=>∃o,h.get? a=some o
  | .xd fs=>∃mA,h.Ns1 a mA/\∀f,K2 (fs.lookup f) (mA f)
  | .rng lo hi=>∃t u v,h.get? a=some { cls:=.type "range",data:=.fields #[.int lo t,.int hi u,.int 1 v] }
  | .frz o u=>h.get? a=some o/\p9 H h a u
  | .tbl ps=>h.get? a=some { cls:=.none,data:=.fields ps }
  | .met f x=>h.get? a=some (W.methodObj (.ref f) (.ref x))
  | .ext φ=>φ h/\(∃o,h.get? a=some o)/\∀h1 h2:Heap,φ h1->(∀o,h1.get? a=some o->h2.get? a=some o)->φ h2
def HOk (H:Hp)(h:Heap):Prop:=∀a o,H a=some o->p9 P w H h a o
end
section
variable {P:eV}{w:eZ}{H H':Hp}{h h':Heap}{a:Addr}{o:HO}
theorem p9.lt (x:p9 P w H h a o):a<h.objs.size:=by
  cases o with
  | lst xs=>obtain⟨_,_,_,_,e⟩:=x;exact ay e
  | tup xs=>obtain⟨_,_,_,p⟩:=x;exact p.is.lt
  | dK kvs=>obtain⟨_,_,_,_,o,_,_,e,_⟩:=x;exact ay e
  | dT kvs=>obtain⟨_,_,_,_,o,_,_,e,_⟩:=x;exact ay e
  | set S n=>obtain⟨o,_,_,_,e,_⟩:=x;exact ay e
  | ins C dx fs=>obtain⟨_,_,_,e,_⟩:=x;exact ay e
  | own y=>obtain⟨_,e⟩:=x;exact ay e
  | xd fs=>obtain⟨_,⟨_,_,_,e,_⟩,_⟩:=x;exact ay e
  | rng lo hi=>obtain⟨_,_,_,e⟩:=x;exact ay e
  | frz ob u=>obtain⟨e,_⟩:=x;exact ay e
  | tbl ps=>exact ay (show h.get? a=some _ from x)
  | met f y=>exact ay (show h.get? a=some _ from x)
  | ext φ=>obtain⟨_,⟨_,e⟩,_⟩:=x;exact ay e
theorem Paired.mapP {α β : Type}{F G : α -> β -> Prop} : ∀{l₁ : List α} {l₂ : List β}, Paired F l₁ l₂ -> (∀a b, F a b -> G a b) -> Paired G l₁ l₂
  | _,_,.nil,_=>.nil
  | _,_,.cons r t,f=>.cons (f _ _ r) (Paired.mapP t f)
theorem Paired.imp' {α β:Type}{F G:α->β->Prop}(f:∀a b,F a b->G a b){l₁:List α}{l₂:List β}(r:Paired F l₁ l₂):Paired G l₁ l₂:=Paired.mapP r f
theorem p9.stay (x : p9 P w H h a o)(k : ∀b u, (b = a∨H b = some (.own a)) -> h.get? b = some u -> h'.get? b = some u)
    (ho:∀b,H b=some (.own a)->H' b=some (.own a)) (ht:∀b xs,H b=some (.tup xs)->H' b=some (.tup xs)):p9 P w H' h' a o:=by
  induction o with
  | lst xs=>obtain⟨z,its,n,r,e⟩:=x;exact⟨z,its,n,r,k _ _ (.inl rfl) e⟩
  | tup xs=>obtain⟨z,its,r,ob,e,c⟩:=x;exact⟨z,its,r,ob,k _ _ (.inl rfl) e,c⟩
  | dK kvs=>obtain⟨z,y,vs,r,ob,es,ep,e,c⟩:=x;exact⟨z,y,vs,r,ob,es,ep,k _ _ (.inl rfl) e,c⟩
  | dT kvs =>
    obtain⟨z,y,xs,r,ob,es,ep,e,c⟩:=x
    exact⟨z,y,xs,Paired.mapP r λp q z=>⟨z.1,ht _ _ z.2.1,z.2.2⟩,ob,es,ep,k _ _ (.inl rfl) e,c⟩
  | set S n=>obtain⟨ob,es,ep,t,e,c⟩:=x;exact⟨ob,es,ep,t,k _ _ (.inl rfl) e,c⟩
  | ins C dx fs =>
    obtain⟨d,z,ne,e,mA,⟨od,es,ep,e2,c⟩,r⟩:=x
    exact⟨ho _ d,z,ne,k _ _ (.inl rfl) e,mA,⟨od,es,ep,k _ _ (.inr d) e2,c⟩,r⟩
  | own y=>obtain⟨ob,e⟩:=x;exact⟨ob,k _ _ (.inl rfl) e⟩
  | xd fs=>obtain⟨mA,⟨od,es,ep,e,c⟩,r⟩:=x;exact⟨mA,⟨od,es,ep,k _ _ (.inl rfl) e,c⟩,r⟩
  | rng lo hi=>obtain⟨t,u,v,e⟩:=x;exact⟨t,u,v,k _ _ (.inl rfl) e⟩
  | frz ob u ih=>obtain⟨e,q⟩:=x;exact⟨k _ _ (.inl rfl) e,ih q⟩
  | tbl ps =>
    have e:h.get? a=some { cls:=.none,data:=.fields ps }:=x
    show h'.get? a=some { cls:=.none,data:=.fields ps }
    exact k a _ (.inl rfl) e
  | met f y =>
    have e:h.get? a=some (W.methodObj (.ref f) (.ref y)):=x
    show h'.get? a=some (W.methodObj (.ref f) (.ref y))
    exact k a _ (.inl rfl) e
  | ext φ=>obtain⟨p,⟨o,e⟩,st⟩:=x;exact⟨st _ _ p λo q=>k _ _ (.inl rfl) q,⟨o,k _ _ (.inl rfl) e⟩,st⟩
theorem HOk.lt (x:HOk P w H h)(e:H a=some o):a<h.objs.size:=(x a o e).lt
theorem HOk.fresh (x:HOk P w H h)(e:h.objs.size<=a):H a=none:=by
  cases q:H a with
  | none=>rfl
  | some u=>exact absurd (aO (x.lt q) e) (aW _)
theorem HOk.kept (x:HOk P w H h)(k:∀b u,h.get? b=some u->h'.get? b=some u):HOk P w H h':=λa o e =>
  (x a o e).stay (λb u _ q=>k b u q) (λ_ q=>q) λ_ _ q=>q
theorem HOk.laid (x:HOk P w H h)(k:∀b u,h.get? b=some u->h'.get? b=some u)(hp:h.objs.size<=a)(new:p9 P w (upd H a o) h' a o):HOk P w (upd H a o) h':=λb u e=>by
  have hn:=x.fresh hp
  by_cases hb:b=a
  . subst hb;rw[z3]at e;cases e;exact new
  . rw[z5 hb]at e
    exact(x b u e).stay (λc v _ q=>k c v q) (λc q=>by rw[z5 (y0 q hn)];exact q) λc xs q=>by rw[z5 (y0 q hn)];exact q
end
def Rd (H:Hp)(a:Addr)(u:HO):Prop:=H a=some u∨∃o,H a=some (.frz o u)
theorem Rd.ok {P:eV}{w:eZ}{H:Hp}{h:Heap}{a:Addr}{u:HO}(r:Rd H a u)(x:HOk P w H h):p9 P w H h a u:=by
  rcases r with r|⟨o,r⟩
  . exact x a u r
  . obtain⟨_, q⟩ := x a _ r
    exact q
def Mut : Option HO -> Prop
  | some (.lst _)=>True
  | some (.dK _)=>True
  | some (.dT _)=>True
  | some (.set _ _)=>True
  | some (.ins _ _ _)=>True
  | some (.ext _)=>True
  | _=>False
section
variable {P:eV}{w:eZ}{H:Hp}{h h':Heap}{x e:Addr}{o':HO}
theorem HOk.write (ok : HOk P w H h)(mu : Mut (H x))(he : e = x∨H e = some (.own x))(k : ∀b u, b ≠ e -> h.get? b = some u -> h'.get? b = some u)(heo : ∃u, h'.get? e = some u)
    (new:p9 P w (upd H x o') h' x o'):HOk P w (upd H x o') h':=λb u q=>by
  have nown:∀c y,H c=some (.own y)->c≠x:=λc y r z=>by subst z;rw[r]at mu;exact mu
  have ntup:∀c xs,H c=some (.tup xs)->c≠x:=λc xs r z=>by subst z;rw[r]at mu;exact mu
  by_cases hb:b=x
  . subst hb;rw[z3]at q;cases q;exact new
  . rw[z5 hb]at q
    by_cases hbe:b=e
    . have q':H b=some (.own x):=by
        rcases he with z|z
        . exact absurd (hbe.trans z) hb
        . rw[hbe];exact z
      rw[q]at q';cases q'
      obtain⟨v,hv⟩:=heo
      exact⟨v,by rw[hbe];exact hv⟩
    . refine(ok b u q).stay (λc v hc r => k c v ?_ r) (λc r => by rw[z5 (nown c b r)]; exact r) λc xs r => by rw[z5 (ntup c xs r)]; exact r
      rcases hc with rfl|hc
      . exact hbe
      . rintro rfl
        rcases he with z|z
        . exact nown c b hc z
        . rw[hc]at z;cases z;exact hb rfl
end
structure Un (fs ex:List Addr) (H H':Hp) (h h':Heap):Prop where
  keep:∀b o,h.get? b=some o->H b=none->b∉fs->b∉ex->h'.get? b=some o
  slot:∀b o,h.get? b=some o->H b=none->b∈fs->b∉ex->∃sl,h'.get? b=some { o with slots:=sl }
  free:∀b o,h.get? b=some o->H b=none->b∉ex->H' b=none
  there:∀b o,h.get? b=some o->b∉ex->∃o',h'.get? b=some o'
  tups:∀b xs,H b=some (.tup xs)->H' b=some (.tup xs)
  frzs:∀b o u,H b=some (.frz o u)->H' b=some (.frz o u)
  tbls:∀b ps,H b=some (.tbl ps)->∃more,H' b=some (.tbl (ps++more))
section
variable {fs fs' ex ex':List Addr}{H H1 H2:Hp}{h h1 h2 h':Heap}{a x e:Addr}{o:HO}
theorem Un.any (u:Un fs ex H H1 h h1){b:Addr}{ob:Obj}(q:h.get? b=some ob)(n:H b=none)(hx:b∉ex):∃sl,h1.get? b=some { ob with slots:=sl }:=by
  by_cases hb:b∈fs
  . exact u.slot b ob q n hb hx
  . exact⟨ob.slots,u.keep b ob q n hb hx⟩
theorem Un.kept (k:∀b u,h.get? b=some u->h'.get? b=some u):Un fs ex H H h h' :=
  ⟨λb ob q _ _ _=>k b ob q,λb ob q _ _ _=>⟨ob.slots,k b ob q⟩,λ_ _ _ n _=>n,λb ob q _=>⟨ob,k b ob q⟩,λ_ _ q=>q,λ_ _ _ q=>q,λ_ ps q=>⟨#[],by rw[q];simp⟩⟩
theorem Un.refl:Un fs ex H H h h:=Un.kept λ_ _ q=>q
theorem Un.laid (k:∀b u,h.get? b=some u->h'.get? b=some u)(hp:h.objs.size<=a)(hn:H a=none):Un fs ex H (upd H a o) h h' where
  keep:=λb u q _ _ _=>k b u q
  slot:=λb u q _ _ _=>⟨u.slots,k b u q⟩
  free:=λb u q n _=>by rw[z5 (aS (aO (ay q) hp))];exact n
  there:=λb u q _=>⟨u,k b u q⟩
  tups:=λb xs q=>by rw[z5 (y0 q hn)];exact q
  frzs:=λb u xs q=>by rw[z5 (y0 q hn)];exact q
  tbls:=λb ps q=>⟨#[],by rw[z5 (y0 q hn),q];simp⟩
theorem Un.write (mu:Mut (H x))(he:e=x∨H e=some (.own x))(k:∀b u,b≠e->h.get? b=some u->h'.get? b=some u)(heo:∃u,h'.get? e=some u):Un fs ex H (upd H x o) h h':=by
  have hx:∀b,H b=none->b≠x:=λb n z=>by subst z;rw[n]at mu;exact mu
  have hb:∀b,H b=none->b≠e:=λb n z=>by
    subst z
    rcases he with r|r
    . exact hx b n r
    . rw[n]at r;cases r
  have hm:∀b u,H b=some u->¬Mut (some u)->b≠x:=λb u q nm z=>by subst z;rw[q]at mu;exact nm mu
  refine⟨λb u q n _ _=>k b u (hb b n) q,λb u q n _ _=>⟨u.slots,k b u (hb b n) q⟩,λb u q n _=>by rw[z5 (hx b n)];exact n,λb u q _=>?_,
    λb xs q=>by rw[z5 (hm b _ q λz=>z)];exact q,λb u xs q=>by rw[z5 (hm b _ q λz=>z)];exact q,λb ps q=>⟨#[],by rw[z5 (hm b _ q λz=>z),q];simp⟩⟩
  by_cases hbe:b=e
  . subst hbe;exact heo
  . exact⟨u,k b u hbe q⟩
end
def trk (h:Heap)(H:Hp):List Addr:=(List.range h.objs.size).filter λa=>(H a).isSome
def zb6 (h:Heap)(H:Hp):Heap:=W.hideAll h (trk h H)
theorem zm1 (h:Heap)(H:Hp):(zb6 h H).objs.size=h.objs.size:=W.hideAll_size _ _
theorem zf4 {h:Heap}{H:Hp}{b:Addr}{o:Obj}(e:h.get? b=some o)(n:H b=none):(zb6 h H).get? b=some o :=
  W.hideAll_get _ e λhm=>by
    have q:(H b).isSome=true:=(dv.mp hm).2
    rw[n]at q;simp at q
theorem yc1 {h:Heap}{H:Hp}{b:Addr}{o:Obj}(e:(zb6 h H).get? b=some o):h.get? b=some o/\H b=none:=by
  have e':h.get? b=some o:=W.of_hideAll (trk h H) e
  refine⟨e',?_⟩
  cases q:H b with
  | none=>rfl
  | some x =>
    have hm:b∈trk h H:=dv.mpr ⟨aG.mpr (ay e'),by simp[q]⟩
    have z:(zb6 h H).get? b=none:=W.hideAll_none (trk h H) hm
    rw[z]at e;cases e
def yq6 (g h:Heap)(L:Addr):List (Addr×Obj):=(List.range h.objs.size).filterMap λa=>if a=L∨(g.get? a).isSome=true then none else(h.get? a).map λo=>(a,o)
def J9 (g h:Heap)(L d:Addr):List (Addr×Obj):=(yq6 g h L).filter λp=>decide (p.1≠d)
structure Mod (K:W.Frag) (mg:Str->Option Value) (base:Heap):Prop where
  kin:K.In base
  glob:base.Ns mainGlobals mg
  blt:∃mb,base.Ns builtinsNs mb/\∀x:Str,x≠"__name__"->mb x=fh x
  nolimit:base.NoLimit
structure Cx where
  prog:eV
  w:eZ
  K:W.Frag
  mg:Str->Option Value
  base:Heap
  A:fc
  N:List Str
  s₀:eS
  H₀:Hp
  env:Env
  outer:List Env
  stack:List Env
  ex:List Addr
  fn:Str->Bool
  calm:Bool
  pn:List (Addr×Obj)
  xe:Value->eS->Prop
def frs (l:List Env):List Addr:=l.filterMap (·.frame)
abbrev Cx.fs (X:Cx):List Addr:=frs X.outer
def Vis (sc:Scope)(x:Str):Prop:=sc.names.lookup x=some .local∨sc.names.lookup x=some .cell∨sc.names.lookup x=some .free
def Loc (sc:Scope)(x:Str):Prop:=sc.names.lookup x=some .local∨sc.names.lookup x=some .cell
def xd6 (env:Env)(h:Heap)(m:Str->Option Value)(x:Str)(u:Value):Prop :=
  (env.kindOf x=some .local/\m x=some u)∨((env.kindOf x=some .cell∨env.kindOf x=some .free)/\∃c,env.cells.lookup x=some c/\h.IsCell c (some u))
structure Cx.Ok (X:Cx):Prop where
  mod:Mod X.K X.mg X.base
  kind:X.env.scope.kind=.function
  glob:X.env.globals=mainGlobals
  blt:X.env.builtins=builtinsNs
  above:X.s₀.heap.objs.size<=X.env.locals
  inj:∀x y c,X.env.cells.lookup x=some c->X.env.cells.lookup y=some c->x=y
  has:∀x,(X.env.kindOf x=some .cell∨X.env.kindOf x=some .free)->∃c,X.env.cells.lookup x=some c
  cab:∀x c,X.fn x=true->X.env.cells.lookup x=some c->X.s₀.heap.objs.size<=c
  hd:X.calm=true->X.A.handled=none
  frames:X.A.frames=some X.stack
  stk:X.stack=X.outer∨(X.stack=X.env::X.outer/\X.env.frame=some X.env.locals)
  exf:∀b∈X.ex,b≠X.env.locals/\∀x c,X.env.cells.lookup x=some c->c≠b
  bs:∀b o,X.base.get? b=some o->X.s₀.heap.get? b=some o/\X.H₀ b=none
  bsz:X.base.objs.size<=X.s₀.heap.objs.size
  noex:∀b o,X.base.get? b=some o->b∉X.ex
  exfs:∀b∈X.ex,b∉X.fs
  funs:X.s₀.heap.FunFrames X.base X.outer
  frf:∀b∈X.fs,X.H₀ b=none
structure Inv (X:Cx) (pins:List (Addr×Obj)) (σ:List (Option V)) (H:Hp) (s:eS):Prop where
  ok:X.Ok
  os:s.os=X.s₀.os
  bare:AllBare s.gens
  base:Un X.fs X.ex X.H₀ H X.s₀.heap s.heap
  loc:∃m,s.heap.Ns X.env.locals m/\∀(i:Nat) (x:Str) (v:V),X.N[i]?=some x->σ[i]?=some (some v)->Vis X.env.scope x->∃u,u0 v u/\xd6 X.env s.heap m x u
  cell:∀x c,X.env.cells.lookup x=some c->∃v,s.heap.IsCell c v
  free:H X.env.locals=none
  freeC:∀x c,X.env.cells.lookup x=some c->H c=none
  pin:∀p∈X.pn++pins,s.heap.get? p.1=some p.2/\H p.1=none/\p.1≠X.env.locals/\p.1∉X.fs/\∀v,p.2.data≠.cell v
  hok:HOk X.prog X.w H s.heap
  len:σ.length=X.N.length
section
variable {X:Cx}{pins:List (Addr×Obj)}{σ:List (Option V)}{H H':Hp}{s:eS}{h':Heap}
theorem Cx.Ok.nofr (ok:X.Ok){b:Addr}{o:Obj}(e:X.base.get? b=some o):b∉X.fs:=λhb=>by
  have:=(ok.funs.mem hb).1
  rw[e]at this;cases this
theorem Inv.bs (I:Inv X pins σ H s):∀b o,X.base.get? b=some o->s.heap.get? b=some o/\H b=none:=λb o e =>
  ⟨I.base.keep b o (I.ok.bs b o e).1 (I.ok.bs b o e).2 (I.ok.nofr e) (I.ok.noex b o e),I.base.free b o (I.ok.bs b o e).1 (I.ok.bs b o e).2 (I.ok.noex b o e)⟩
theorem Inv.bk (I:Inv X pins σ H s):∀b o,X.base.get? b=some o->s.heap.get? b=some o:=λb o e=>(I.bs b o e).1
theorem Inv.mod (I:Inv X pins σ H s):Mod X.K X.mg X.base:=I.ok.mod
theorem Inv.kIn (I:Inv X pins σ H s):X.K.In s.heap:=I.ok.mod.kin.keeps I.bk
theorem Inv.fr (I:Inv X pins σ H s):∃m,Fr X.base X.env.locals s.heap m :=
  let ⟨m,hn,_⟩:=I.loc
  ⟨m,hn,I.bk,aX I.ok.bsz I.ok.above⟩
theorem Inv.lt (I:Inv X pins σ H s):X.env.locals<s.heap.objs.size:=let ⟨_,hn,_⟩:=I.loc;hn.lt
theorem Inv.sz (I:Inv X pins σ H s):X.s₀.heap.objs.size<=s.heap.objs.size:=aX I.ok.above (bx I.lt)
theorem Inv.nofs (I:Inv X pins σ H s){a:Addr}(h:s.heap.objs.size<=a):a∉X.fs:=λhb=>by
  obtain⟨_,o,ho,_⟩:=I.ok.funs.mem hb
  exact absurd (aO (ay ho) (aX I.sz h)) (aW _)
theorem Inv.cne (I:Inv X pins σ H s):∀x c,X.env.cells.lookup x=some c->c≠X.env.locals:=λx c e z=>by
  obtain⟨v,o,ho,hd⟩:=I.cell x c e
  obtain⟨m,⟨o',es,ep,ho',hd',_⟩,_⟩:=I.loc
  rw[z,ho']at ho;cases ho;rw[hd']at hd;cases hd
theorem Inv.funs (I:Inv X pins σ H s):s.heap.FunFrames X.base X.outer:=by
  have all:∀(l:List Env),(∀b∈frs l,b∈X.fs)->X.s₀.heap.FunFrames X.base l->s.heap.FunFrames X.base l:=by
    intro l
    induction l with
    | nil=>intro _ _;trivial
    | cons env r ih =>
      intro hs hl
      obtain⟨hk,⟨L,o,hf,hn,ho,hd⟩,hr⟩:=hl
      have hL:L∈X.fs:=hs L (by unfold frs;rw[cD,hf];exact ax)
      obtain⟨sl,e⟩:=I.base.slot L o ho (I.ok.frf L hL) hL λz=>I.ok.exfs L z hL
      exact⟨hk,⟨L,_,hf,hn,e,hd⟩,ih (λb hb=>hs b (by unfold frs;rw[cD,hf];exact av _ hb)) hr⟩
  exact all X.outer (λ_ hb=>hb) I.ok.funs
theorem Inv.stack (I:Inv X pins σ H s):s.heap.FunFrames X.base X.stack:=by
  rcases I.ok.stk with e|⟨e,hf⟩
  . rw[e];exact I.funs
  . rw[e]
    obtain⟨m,hn,_⟩:=I.loc
    refine .cons (by rw[I.ok.kind];decide) hf hn ?_ I.funs
    exact Heap.get?_none_of_le (aX I.ok.bsz I.ok.above)
theorem Inv.stkSub (I:Inv X pins σ H s):∀b∈frs X.stack,b∈X.env.locals::X.fs:=λb hb=>by
  rcases I.ok.stk with e|⟨e,hf⟩
  . rw[e]at hb;exact av _ hb
  . rw[e]at hb
    unfold frs at hb
    rw[cD,hf]at hb
    exact hb
theorem Inv.stkFree (I:Inv X pins σ H s):∀b∈frs X.stack,H b=none:=λb hb=>by
  rcases au.mp (I.stkSub b hb) with e|hb
  . rw[e];exact I.free
  . obtain⟨_, o, ho, _⟩ := I.ok.funs.mem hb
    exact I.base.free b o ho (I.ok.frf b hb) λz=>I.ok.exfs b z hb
theorem Inv.step {g' : Array GenState}{t' : Nat}{d' : Drawn}{ch : List Addr}(I : Inv X pins σ H s)
    (hch:∀b∈ch,(b∈X.ex∨X.s₀.heap.objs.size<=b)/\b≠X.env.locals/\(∀x c,X.env.cells.lookup x=some c->c≠b)/\∀p∈X.pn++pins,p.1≠b)
    (keep:∀b o,b≠X.env.locals->b∉X.fs->b∉ch->s.heap.get? b=some o->H b=none->h'.get? b=some o)
    (slot:∀b o,b≠X.env.locals->b∈X.fs->b∉ch->s.heap.get? b=some o->H b=none->∃sl,h'.get? b=some { o with slots:=sl }) (free:∀b o,b∉ch->s.heap.get? b=some o->H b=none->H' b=none)
    (there:∀b o,b∉ch->s.heap.get? b=some o->∃o',h'.get? b=some o')
    (tups:∀b xs,H b=some (.tup xs)->H' b=some (.tup xs)) (frzs:∀b o u,H b=some (.frz o u)->H' b=some (.frz o u)) (tbls:∀b ps,H b=some (.tbl ps)->∃more,H' b=some (.tbl (ps++more)))
    (ns:∀m,s.heap.Ns X.env.locals m->h'.Ns X.env.locals m) (hok:HOk X.prog X.w H' h') (hg:AllBare g') :
    Inv X pins σ H' { s with heap:=h',gens:=g',drawn:=d',toks:=t' }:=by
  have neL:∀b o,X.s₀.heap.get? b=some o->b≠X.env.locals:=λb o e=>aS (aO (ay e) I.ok.above)
  have neC:∀b o,X.s₀.heap.get? b=some o->b∉X.ex->b∉ch:=λb o e hx hb=>by
    rcases (hch b hb).1 with z|z
    . exact hx z
    . exact absurd (aO (ay e) z) (aW _)
  have cellK:∀x c,X.env.cells.lookup x=some c->∀v,s.heap.IsCell c v->h'.IsCell c v:=λx c e v ⟨o,ho,hd⟩=>by
    have nch:c∉ch:=λz=>(hch c z).2.2.1 x c e rfl
    by_cases hc:c∈X.fs
    . obtain⟨sl, q⟩ := slot c o (I.cne x c e) hc nch ho (I.freeC x c e)
      exact⟨_,q,hd⟩
    . exact⟨o,keep c o (I.cne x c e) hc nch ho (I.freeC x c e),hd⟩
  refine⟨I.ok,I.os,hg,⟨λb o e n hb hx=>?_,λb o e n hb hx=>?_,λb o e n hx=>?_,λb o e hx=>?_,λb xs e=>tups b xs (I.base.tups b xs e),λb o xs e=>frzs b o xs (I.base.frzs b o xs e),λb ps e=>?_⟩,?_,λx c e=>?_,?_,λx c e=>?_,λp hp=>?_,hok,I.len⟩
  . exact keep b o (neL b o e) hb (neC b o e hx) (I.base.keep b o e n hb hx) (I.base.free b o e n hx)
  . obtain⟨sl, e1⟩ := I.base.slot b o e n hb hx
    obtain⟨sl',e2⟩:=slot b _ (neL b o e) hb (neC b o e hx) e1 (I.base.free b o e n hx)
    exact⟨sl',e2⟩
  . obtain⟨o', e1⟩ := I.base.there b o e hx
    exact free b o' (neC b o e hx) e1 (I.base.free b o e n hx)
  . obtain⟨o', e1⟩ := I.base.there b o e hx
    exact there b o' (neC b o e hx) e1
  . obtain⟨m1, e1⟩ := I.base.tbls b ps e
    obtain⟨m2,e2⟩:=tbls b _ e1
    exact⟨m1++m2,by rw[e2,dZ]⟩
  . obtain⟨m, hn, hl⟩ := I.loc
    refine⟨m,ns m hn,λi x v e1 e2 e3=>?_⟩
    obtain⟨u,r,l⟩:=hl i x v e1 e2 e3
    refine⟨u,r,?_⟩
    rcases l with l|⟨k,c,e,z⟩
    . exact .inl l
    . exact .inr ⟨k,c,e,cellK x c e _ z⟩
  . obtain⟨v, z⟩ := I.cell x c e
    exact⟨v,cellK x c e v z⟩
  . obtain⟨m, ⟨o, _, _, ho, _⟩, _⟩ := I.loc
    exact free _ o (λz=>(hch _ z).2.1 rfl) ho I.free
  . obtain⟨v, o, ho, hd⟩ := I.cell x c e
    exact free c o (λz=>(hch c z).2.2.1 x c e rfl) ho (I.freeC x c e)
  . obtain⟨e, n, ne, nf, d⟩ := I.pin p hp
    have nch:p.1∉ch:=λz=>(hch p.1 z).2.2.2 p hp rfl
    exact⟨keep p.1 p.2 ne nf nch e n,free p.1 p.2 nch e n,ne,nf,d⟩
theorem Inv.un {t':Nat}(I:Inv X pins σ H s)(u:Un X.fs [] H H' s.heap h')(hok:HOk X.prog X.w H' h'):Inv X pins σ H' { s with heap:=h',toks:=t' }:=by
  obtain⟨m,⟨o,es,ep,ho,r⟩,_⟩:=id I.loc
  obtain⟨sl,hL⟩:=u.any ho I.free (by simp)
  exact I.step (g':=s.gens) (d':=s.drawn) (ch:=[]) (λ_ z=>nomatch z) (λb o _ hb _ e n=>u.keep b o e n hb (by simp)) (λb o _ hb _ e n=>u.slot b o e n hb (by simp)) (λb o _ e n=>u.free b o e n (by simp)) (λb o _ e=>u.there b o e (by simp)) u.tups u.frzs u.tbls (λm' hm=>by
    obtain⟨o',es',ep',ho',r'⟩:=hm
    rw[ho]at ho';cases ho'
    exact⟨_,es',ep',hL,r'⟩) hok I.bare
theorem Inv.call {g' : Array GenState}{t' : Nat}{d' : Drawn}{ch : List Addr}(I : Inv X pins σ H s)(u : Un (frs X.stack) ch H H' s.heap h')(hok : HOk X.prog X.w H' h')(hg : AllBare g')
    (hch:∀b∈ch,(b∈X.ex∨X.s₀.heap.objs.size<=b)/\b≠X.env.locals/\(∀x c,X.env.cells.lookup x=some c->c≠b)/\∀p∈X.pn++pins,p.1≠b) :
    Inv X pins σ H' { s with heap:=h',gens:=g',drawn:=d',toks:=t' }:=by
  obtain⟨m,⟨o,es,ep,ho,r⟩,_⟩:=id I.loc
  obtain⟨sl,hL⟩:=u.any ho I.free λz=>(hch _ z).2.1 rfl
  exact I.step (ch:=ch) hch (λb o hL hb hc e n=>u.keep b o e n (λz=>(au.mp (I.stkSub b z)).elim hL hb) hc) (λb o _ _ hc e n=>u.any e n hc) (λb o hc e n=>u.free b o e n hc) (λb o hc e=>u.there b o e hc) u.tups u.frzs u.tbls (λm' hm=>by
    obtain⟨o',es',ep',ho',r'⟩:=hm
    rw[ho]at ho';cases ho'
    exact⟨_,es',ep',hL,r'⟩) hok hg
theorem Inv.turned {t' : Nat}{it : Addr}(I : Inv X pins σ H s)(k : ∀b o, b ≠ it -> s.heap.get? b = some o -> h'.get? b = some o)(hn : H it = none)(hL : it ≠ X.env.locals)
    (h1:it∈X.ex∨X.s₀.heap.objs.size<=it) (h2:∀x c,X.env.cells.lookup x=some c->c≠it) (h3:∀p∈X.pn++pins,p.1≠it):Inv X pins σ H { s with heap:=h',toks:=t' }:=by
  have nit:∀b u,H b=some u->b≠it:=λb u e z=>by rw[z,hn]at e;cases e
  refine I.step (g' := s.gens) (d' := s.drawn) (ch := [it]) (λb hb => ?_) (λb o _ _ hc e _ => k b o (λz => hc (by simp[z])) e) (λb o _ _ hc e _ => ⟨o.slots, k b o (λz => hc (by simp[z])) e⟩) (λ_ _ _ _ n => n)
    (λb o hc e=>⟨o,k b o (λz=>hc (by simp[z])) e⟩) (λ_ _ e=>e) (λ_ _ _ e=>e) (λb ps e=>⟨#[],by rw[e];simp⟩) (λm hm=>?_) (λb u e=>?_) I.bare
  . have e : b = it := by simpa using hb
    subst e
    exact⟨h1,hL,h2,h3⟩
  . obtain⟨o, es, ep, ho, r⟩ := hm
    exact⟨o,es,ep,k _ o (Ne.symm hL) ho,r⟩
  . refine(I.hok b u e).stay (λc v hc q => k c v ?_ q) (λ_ q => q) λ_ _ q => q
    rcases hc with z|z
    . rw[z];exact nit b u e
    . exact nit c _ z
theorem Inv.tok (I:Inv X pins σ H s)(t:Nat):Inv X pins σ H { s with toks:=t }:=I.un (h':=s.heap) (t':=t) Un.refl I.hok
theorem Inv.kept {t':Nat}(I:Inv X pins σ H s)(k:∀b u,s.heap.get? b=some u->h'.get? b=some u):Inv X pins σ H { s with heap:=h',toks:=t' }:=I.un (Un.kept k) (I.hok.kept k)
theorem Inv.laid {a : Addr}{o : HO}{t' : Nat}(I : Inv X pins σ H s)(k : ∀b u, s.heap.get? b = some u -> h'.get? b = some u)(hp : s.heap.objs.size <= a)(new : p9 X.prog X.w (upd H a o) h' a o) :
    Inv X pins σ (upd H a o) { s with heap:=h',toks:=t' }:=I.un (Un.laid k hp (I.hok.fresh hp)) (I.hok.laid k hp new)
theorem Inv.write {x e : Addr}{o : HO}{t' : Nat}(I : Inv X pins σ H s)(mu : Mut (H x))(he : e = x∨H e = some (.own x))(k : ∀b u, b ≠ e -> s.heap.get? b = some u -> h'.get? b = some u)(heo : ∃u, h'.get? e = some u)
    (new:p9 X.prog X.w (upd H x o) h' x o):Inv X pins σ (upd H x o) { s with heap:=h',toks:=t' }:=I.un (Un.write mu he k heo) (I.hok.write mu he k heo new)
theorem Inv.pins_of {pins':List (Addr×Obj)}(I:Inv X pins σ H s)(h:∀p∈pins',s.heap.get? p.1=some p.2/\H p.1=none/\p.1≠X.env.locals/\p.1∉X.fs/\∀v,p.2.data≠.cell v):Inv X pins' σ H s :=
  ⟨I.ok,I.os,I.bare,I.base,I.loc,I.cell,I.free,I.freeC,λp hp=>(aB.mp hp).elim (λz=>I.pin p (aE _ z)) (h p),I.hok,I.len⟩
theorem zt9 {N:List Str}(hN:N.Nodup){i j:Nat}{x:Str}(a:N[i]?=some x)(b:N[j]?=some x):i=j:=by
  obtain⟨h1,e1⟩:=ap.mp a
  obtain⟨h2,e2⟩:=ap.mp b
  exact(eE hN).mp (e1.trans e2.symm)
theorem yh9 {M : Model}{A : fc}{E : Value -> eS -> Prop}{i : Nat}{x : Str}{v : V}{u : Value}{Q : Unit -> eS -> Prop}(I : Inv X pins σ H s)(hN : X.N.Nodup)(hi : X.N[i]? = some x)(hx : Loc X.env.scope x)(r : u0 v u)
    (h:∀s',Inv X pins (σ.set i (some v)) H s'->(∃a,Heap.SameBut a s.heap s'.heap/\(a=X.env.locals∨X.env.cells.lookup x=some a))->Q () s') (hf:X.fn x=true∨X.env.scope.names.lookup x=some .local:=by first|exact .inl rfl|exact .inr rfl|assumption):eW M A (storeName X.env x u) Q E s:=by
  obtain⟨m,hn,hl⟩:=id I.loc
  have hcls:(X.env.scope.kind == .class || (X.env.scope.kind == .module&&X.env.locals != X.env.globals))=false:=by rw[I.ok.kind];rfl
  have hiσ:i<σ.length:=by rw[I.len];exact(ap.mp hi).1
  have cne:=I.cne
  have tracked:∀{a:Addr} {h':Heap},(∃o,s.heap.get? a=some o/\H a=none)->Heap.SameBut a s.heap h'->HOk X.prog X.w H h':=λ{a h'} ha hs b ob e=>by
    obtain⟨_,_,hfree⟩:=ha
    refine(I.hok b ob e).stay (λc w' hc q=>(hs.2 c ?_).trans q) (λ_ q=>q) λ_ _ q=>q
    rintro rfl
    rcases hc with rfl|hc
    . rw[hfree]at e;cases e
    . rw[hfree]at hc;cases hc
  rcases hx with hk|hk
  . refine wpAny_storeName_local hk hn (λh' hn' hs => ?_) hcls
    obtain⟨oL,_,_,hoL,_⟩:=id hn
    refine h _ ⟨I.ok,I.os,I.bare,⟨λb o e n hb hx=>?_,λb o e n hb hx=>?_,I.base.free,λb o e hx=>?_,I.base.tups,I.base.frzs,I.base.tbls⟩,⟨_,hn',λj y v' e1 e2 e3=>?_⟩,λy c e=>?_,I.free,I.freeC,λp hp=>?_,tracked ⟨oL,hoL,I.free⟩ hs,by simpa using I.len⟩ ⟨_,hs,.inl rfl⟩
    . exact(hs.2 b (aS (aO (ay e) I.ok.above))).trans (I.base.keep b o e n hb hx)
    . obtain⟨sl, e1⟩ := I.base.slot b o e n hb hx
      exact⟨sl,(hs.2 b (aS (aO (ay e) I.ok.above))).trans e1⟩
    . obtain⟨o', e1⟩ := I.base.there b o e hx
      exact⟨o',(hs.2 b (aS (aO (ay e) I.ok.above))).trans e1⟩
    . by_cases hj : j = i
      . subst hj
        rw[hi]at e1;cases e1
        rw[bC hiσ]at e2
        cases e2
        exact⟨u,r,.inl ⟨hk,by simp⟩⟩
      . rw[bn (Ne.symm hj)]at e2
        obtain⟨u',r',q⟩:=hl j y v' e1 e2 e3
        refine⟨u',r',?_⟩
        rcases q with⟨k,e⟩|⟨k,c,e,z⟩
        . refine .inl ⟨k, ?_⟩
          have:y≠x:=λe=>hj (zt9 hN e1 (e ▸ hi))
          simp[this,e]
        . exact .inr ⟨k,c,e,z.sameBut hs (cne y c e)⟩
    . obtain⟨w', z⟩ := I.cell y c e
      exact⟨w',z.sameBut hs (cne y c e)⟩
    . obtain⟨e, n, ne, nf, d⟩ := I.pin p hp
      exact⟨(hs.2 p.1 ne).trans e,n,ne,nf,d⟩
  . have hfn:X.fn x=true:=by
      rcases hf with z|z
      . exact z
      . rw[z]at hk;cases hk
    obtain⟨c,hc⟩:=I.ok.has x (.inl hk)
    obtain⟨w',z⟩:=I.cell x c hc
    refine wpAny_storeName_cell I.ok.kind hk hc z (λh' hc' hs=>?_)
    obtain⟨oc,hoc,hocd⟩:=id z
    refine h { s with heap:=h' } ⟨I.ok,I.os,I.bare,⟨λb o e n hb hx=>?_,λb o e n hb hx=>?_,I.base.free,λb o e hx=>?_,I.base.tups,I.base.frzs,I.base.tbls⟩,⟨m,hn.sameBut hs (Ne.symm (cne x c hc)),λj y v' e1 e2 e3=>?_⟩,λy c' e=>?_,I.free,I.freeC,λp hp=>?_,tracked ⟨oc,hoc,I.freeC x c hc⟩ hs,by simpa using I.len⟩ ⟨c,hs,.inr hc⟩
    . exact(hs.2 b (aS (aO (ay e) (I.ok.cab x c hfn hc)))).trans (I.base.keep b o e n hb hx)
    . obtain⟨sl, e1⟩ := I.base.slot b o e n hb hx
      exact⟨sl,(hs.2 b (aS (aO (ay e) (I.ok.cab x c hfn hc)))).trans e1⟩
    . obtain⟨o', e1⟩ := I.base.there b o e hx
      exact⟨o',(hs.2 b (aS (aO (ay e) (I.ok.cab x c hfn hc)))).trans e1⟩
    . by_cases hj : j = i
      . subst hj
        rw[hi]at e1;cases e1
        rw[bC hiσ]at e2
        cases e2
        exact⟨u,r,.inr ⟨.inl hk,c,hc,hc'⟩⟩
      . rw[bn (Ne.symm hj)]at e2
        obtain⟨u',r',q⟩:=hl j y v' e1 e2 e3
        refine⟨u',r',?_⟩
        rcases q with q|⟨k,c',e,z'⟩
        . exact .inl q
        . refine .inr ⟨k, c', e, z'.sameBut hs ?_⟩
          rintro rfl
          exact hj (zt9 hN e1 (I.ok.inj _ _ _ e hc ▸ hi))
    . by_cases hcc : c' = c
      . subst hcc;exact⟨_,hc'⟩
      . obtain⟨w2, z2⟩ := I.cell y c' e
        exact⟨w2,z2.sameBut hs hcc⟩
    . obtain⟨e, n, ne, nf, d⟩ := I.pin p hp
      refine⟨(hs.2 p.1 ?_).trans e,n,ne,nf,d⟩
      intro q
      rw[q,hoc]at e
      have q':oc=p.2:=Option.some.inj e
      exact d w' (by rw[←q'];exact hocd)
theorem L0 {M : Model}{A : fc}{E : Value -> eS -> Prop}{i : Nat}{x : Str}{v : V}{u : Value}{Q : Unit -> eS -> Prop}(I : Inv X pins σ H s)(hN : X.N.Nodup)(hi : X.N[i]? = some x)(hx : Loc X.env.scope x)(r : u0 v u)
    (h:∀s',Inv X pins (σ.set i (some v)) H s'->Q () s') (hf:X.fn x=true∨X.env.scope.names.lookup x=some .local:=by first|exact .inl rfl|exact .inr rfl|assumption):eW M A (storeName X.env x u) Q E s :=
  yh9 I hN hi hx r (λs' I' _=>h s' I') hf
theorem Inv.call' {s' : eS}{ch : List Addr}(I : Inv X pins σ H s)(ho : s'.os = s.os)(u : Un (frs X.stack) ch H H' s.heap s'.heap)(hok : HOk X.prog X.w H' s'.heap)(hg : AllBare s'.gens)
    (hch:∀b∈ch,(b∈X.ex∨X.s₀.heap.objs.size<=b)/\b≠X.env.locals/\(∀x c,X.env.cells.lookup x=some c->c≠b)/\∀p∈X.pn++pins,p.1≠b):Inv X pins σ H' s':=by
  obtain⟨h',g',d',t',o'⟩:=s'
  have e:o'=s.os:=ho
  subst e
  exact I.call (g':=g') (t':=t') (d':=d') u hok hg hch
end
abbrev XK:=Value->Option Addr->Hp->Prop
abbrev St:=List (Option V)
abbrev VK:=V->Hp->Prop
abbrev TE:=St->Hp->VK->Prop
abbrev TT:=St->Hp->(Bool->Hp->Prop)->Prop
abbrev TA:=St->Hp->(List V->Hp->Prop)->Prop
structure zn3 where
  nx:St->Hp->Prop
  rt:VK
  bk:St->Hp->Prop:=λ_ _=>False
  ct:St->Hp->Prop:=λ_ _=>False
abbrev TS:=zn3->St->Hp->Prop
def EP (X:Cx)(pins:List (Addr×Obj))(σ:St)(Q:VK)(u:Value)(s':eS):Prop:=∃v H',Inv X pins σ H' s'/\u0 v u/\Q v H'
def TP (X:Cx)(pins:List (Addr×Obj))(σ:St)(Q:Bool->Hp->Prop)(b:Bool)(s':eS):Prop:=∃H',Inv X pins σ H' s'/\Q b H'
def AP (X:Cx)(pins:List (Addr×Obj))(σ:St)(Q:List V->Hp->Prop)(us:List Value)(s':eS):Prop:=∃vs H',Inv X pins σ H' s'/\v9 vs us/\Q vs H'
def SP (X:Cx)(pins:List (Addr×Obj))(D:zn3)(f:Flow)(s':eS):Prop :=
  match f with
  | .next=>∃σ' H',Inv X pins σ' H' s'/\D.nx σ' H'
  | .brk=>∃σ' H',Inv X pins σ' H' s'/\D.bk σ' H'
  | .cont=>∃σ' H',Inv X pins σ' H' s'/\D.ct σ' H'
  | .ret u=>∃v σ' H',Inv X pins σ' H' s'/\u0 v u/\D.rt v H'
def PE (X:Cx)(e:Expr)(t:TE):Prop :=
  ∀(pins:List (Addr×Obj)) (s:eS) (σ:St) (H:Hp) (Q:VK),Inv X pins σ H s->t σ H Q->eW (eY X.prog X.w) X.A (eval e X.env) (EP X pins σ Q) X.xe s
def PT (X:Cx)(e:Expr)(t:TT):Prop :=
  ∀(pins:List (Addr×Obj)) (s:eS) (σ:St) (H:Hp) (Q:Bool->Hp->Prop),Inv X pins σ H s->t σ H Q->eW (eY X.prog X.w) X.A (isTrue e X.env (eval e X.env)) (TP X pins σ Q) X.xe s
def PW (X:Cx)(e:Expr)(t:TT):Prop :=
  ∀(whole:Sem Value) (pins:List (Addr×Obj)) (s:eS) (σ:St) (H:Hp) (Q:Bool->Hp->Prop),Inv X pins σ H s->t σ H Q->eW (eY X.prog X.w) X.A (isTrue e X.env whole) (TP X pins σ Q) X.xe s
theorem PW.pt {X:Cx}{e:Expr}{t:TT}(h:PW X e t):PT X e t:=h _
def PA (X:Cx)(es:List Expr)(t:TA):Prop :=
  ∀(pos:Pos) (pins:List (Addr×Obj)) (s:eS) (σ:St) (H:Hp) (Q:List V->Hp->Prop),Inv X pins σ H s->t σ H Q->eW (eY X.prog X.w) X.A (spliced (backTo pos (eX es X.env))) (AP X pins σ Q) X.xe s
def PS (X:Cx)(st:Stmt)(t:TS):Prop :=
  ∀(pins:List (Addr×Obj)) (s:eS) (σ:St) (H:Hp) (D:zn3),Inv X pins σ H s->t D σ H->eW (eY X.prog X.w) X.A (exec st X.env) (SP X pins D) X.xe s
def PSs (X:Cx)(st:List Stmt)(t:TS):Prop :=
  ∀(pins:List (Addr×Obj)) (s:eS) (σ:St) (H:Hp) (D:zn3),Inv X pins σ H s->t D σ H->eW (eY X.prog X.w) X.A (execs st X.env) (SP X pins D) X.xe s
theorem thn {α:Type}{t:Sem α}{Q Q':α->eS->Prop}{M:Model}{A:fc}{E:Value->eS->Prop}{s:eS}(h:eW M A t Q E s)(hQ:∀a s,Q a s->Q' a s):eW M A t Q' E s:=fg h hQ λ_ _ x=>x
section
variable {X:Cx}
def xd4 (i:Nat):TE:=λσ H Q=>∃v,σ[i]?=some (some v)/\Q v H
def tC (v:V):TE:=λ_ H Q=>Q v H
theorem yn7 {i:Nat}{x:Str}{pos:Pos}(hN:X.N[i]?=some x)(hv:Vis X.env.scope x)(hd:(x==("__debug__":Str))=false:=by decide)(hcd:(x==("__classdict__":Str))=false:=by decide):PE X (.Name x pos) (xd4 i):=by
  intro pins s σ H Q I h
  obtain⟨v,e,h⟩:=h
  obtain⟨m,hn,hl⟩:=I.loc
  obtain⟨u,r,l⟩:=hl i x v hN e hv
  have fin:EP X pins σ Q u s:=⟨v,H,I,r,h⟩
  rcases l with⟨hk,hm⟩|⟨hk,c,hc,hcell⟩
  . exact wpAny_Name (wpAny_loadName_local I.ok.kind hk hn hm fin) hd
  . rcases hk with hk|hk
    . exact wpAny_Name (wpAny_loadName_cell I.ok.kind hk hc hcell fin) hd
    . exact wpAny_Name (wpAny_loadName_free I.ok.kind hk hc hcell fin hcd) hd
theorem z9 {i j pos}:PE X (.Constant (.int i) j pos) (tC (.int i)):=λ_ _ _ H _ I h=>wpAny_Constant_int ⟨.int i,H,I.tok _,⟨_,rfl⟩,h⟩
theorem V0 {b j pos}:PE X (.Constant (.bool b) j pos) (tC (.bl b)):=λ_ _ _ H _ I h=>Constant_bool ⟨.bl b,H,I,rfl,h⟩
theorem zy0 {j pos}:PE X (.Constant .none j pos) (tC .non):=λ_ _ _ H _ I h=>Constant_none ⟨.non,H,I,rfl,h⟩
theorem zg8 {x j pos}:PE X (.Constant (.str x) j pos) (tC (.str x)):=λ_ _ _ H _ I h=>Calls.Constant_str ⟨.str x,H,I.tok _,⟨_,rfl⟩,h⟩
def Gl (X:Cx)(x:Str):Prop:=X.env.kindOf x=some .globalImplicit
theorem E5 {E : Value -> eS -> Prop}{pins : List (Addr×Obj)}{s : eS}{σ : St}{H : Hp}{x : Str}{u : Value}{pos : Pos}{Q : Value -> eS -> Prop}(I : Inv X pins σ H s)(hg : Gl X x)(hm : X.mg x = some u)(h : Q u s)
    (hd:(x==("__debug__":Str))=false:=by decide):eW (eY X.prog X.w) X.A (eval (.Name x pos) X.env) Q E s :=
  Calls.Name_function_global I.ok.kind hg (Calls.loadGlobal_global (by rw[I.ok.glob];exact I.mod.glob.keeps I.bk) hm h) hd
theorem zf7 {E : Value -> eS -> Prop}{pins : List (Addr×Obj)}{s : eS}{σ : St}{H : Hp}{x : Str}{u : Value}{pos : Pos}{Q : Value -> eS -> Prop}(I : Inv X pins σ H s)(hg : Gl X x)(hm : X.mg x = none)(hv : fh x = some u)(h : Q u s)
    (hn:x≠"__name__":=by decide) (hd:(x==("__debug__":Str))=false:=by decide):eW (eY X.prog X.w) X.A (eval (.Name x pos) X.env) Q E s:=by
  obtain⟨mb,h1,h2⟩:=I.mod.blt
  exact Calls.Name_function_global I.ok.kind hg (Calls.loadGlobal_builtin (by rw[I.ok.glob];exact I.mod.glob.keeps I.bk) hm (by rw[I.ok.blt];exact h1.keeps I.bk) ((h2 x hn).trans hv) h) hd
theorem ys5 {x:Str}{v:V}{u:Value}{pos:Pos}(hg:Gl X x)(hm:X.mg x=some u)(r:u0 v u)(hd:(x==("__debug__":Str))=false:=by decide):PE X (.Name x pos) (tC v) :=
  λ_ _ _ H _ I h=>E5 I hg hm ⟨v,H,I,r,h⟩ hd
theorem Q2 {x:Str}{v:V}{u:Value}{pos:Pos}(hg:Gl X x)(hm:X.mg x=none)(hv:fh x=some u)(r:u0 v u)(hn:x≠"__name__":=by decide)(hd:(x==("__debug__":Str))=false:=by decide):PE X (.Name x pos) (tC v) :=
  λ_ _ _ H _ I h=>zf7 I hg hm hv ⟨v,H,I,r,h⟩ hn hd
variable {a b:Expr}{ta tb:TE}{pos:Pos}
def PC (X:Cx)(op:CmpOp)(a b:Expr)(t:TE):Prop :=
  ∀(pins:List (Addr×Obj)) (s:eS) (σ:St) (H:Hp) (Q:VK),Inv X pins σ H s->t σ H Q ->
    eW (eY X.prog X.w) X.A (eval a X.env) (λv s₁=>eW (eY X.prog X.w) X.A (eval b X.env) (λu s₂=>eW (eY X.prog X.w) X.A (compareOp op v u) (EP X pins σ Q) X.xe s₂) X.xe s₁) X.xe s
theorem ym4 (b:Expr){op:CmpOp}(h:op≠.In)(h2:op≠.NotIn):behindInMarks op b=false:=by
  have e1:(op==CmpOp.In)=false:=by cases op <;> first|rfl|exact absurd rfl h
  have e2:(op==CmpOp.NotIn)=false:=by cases op <;> first|rfl|exact absurd rfl h2
  cases b <;> simp[behindInMarks,e1,e2]
def xf8 (ta:TE):TE:=λσ H Q=>ta σ H λx H1=>Q (.bl (decide (x=.non))) H1
theorem u0.none_iff {x:V}{v:Value}(r:u0 x v):(v==Value.none)=decide (x=.non):=by
  cases x with
  | non=>cases r;rfl
  | bl _=>cases r;rfl
  | int _=>obtain⟨t,rfl⟩:=r;rfl
  | str _=>obtain⟨t,rfl⟩:=r;rfl
  | byt _=>obtain⟨t,rfl⟩:=r;rfl
  | flt _=>obtain⟨t,rfl⟩:=r;rfl
  | ref _=>cases r;rfl
  | ty _=>cases r;rfl
theorem yy3 {j pos'}(ha:PE X a ta):PC X .Is a (.Constant .none j pos') (xf8 ta):=by
  intro pins s σ H Q I h
  refine thn (ha pins s σ H _ I h) λv s1 ⟨x,H1,I1,r1,q1⟩=>?_
  exact Constant_none (is_none_gen ⟨.bl _,H1,I1,by rw[r1.none_iff];rfl,q1⟩)
def tB (t:TE):TT:=λσ H Q=>t σ H λx H1=>∃c,x=.bl c/\Q c H1
theorem zq0 {op:CmpOp}{t:TE}(h:PC X op a b t)(h1:behindInMarks op b=false:=by first|exact ym4 _ (by decide) (by decide)|rfl):PT X (.Compare a [op] [b] pos) (tB t):=by
  intro pins s σ H Q I hw
  refine wpAny_isTrue_Compare1 (thn (h pins s σ H _ I hw) λv s1 h1=>thn h1 λu s2 h2=>thn h2 λc s3 ⟨x,H1,I1,r1,q1⟩=>?_) h1
  obtain⟨d,rfl,q⟩:=q1
  cases r1
  exact wpAny_truthy_bool ⟨H1,I1,q⟩
theorem Z9 {e:Expr}{t:TE}(h:PE X e t)(he:∀whole,isTrue e X.env whole=(do let v ←whole;standAt e.pos;holding [v] (truthy v)):=by intro _;rfl):PT X e (tB t):=by
  intro pins s σ H Q I hw
  refine isTrue_plain (thn (h pins s σ H _ I hw) λv s1 ⟨x,H1,I1,r1,q1⟩=>?_) (he _)
  obtain⟨d,rfl,q⟩:=q1
  cases r1
  exact wpAny_truthy_bool ⟨H1,I1,q⟩
variable {tA tB':TT}{J9:List Expr}
def xf3 (t u:TT):TT:=λσ H Q=>t σ H λc H1=>if c=true then u σ H1 Q else Q false H1
def tOr (t u:TT):TT:=λσ H Q=>t σ H λc H1=>if c=true then Q true H1 else u σ H1 Q
def xg0 (t:TT):TT:=λσ H Q=>t σ H λc H1=>Q (!c) H1
theorem yt2 (ha:PT X a tA):PW X (.BoolOp .And [a] pos) tA:=by
  intro wh pins s σ H Q I h
  refine isTrue_and (thn (ha pins s σ H Q I h) λc s1 e=>?_)
  cases c with
  | true=>exact isTrue_and_nil e
  | false=>exact e
theorem zh5 (ha:PT X a tA):PW X (.BoolOp .Or [a] pos) tA:=by
  intro wh pins s σ H Q I h
  refine isTrue_or (thn (ha pins s σ H Q I h) λc s1 e=>?_)
  cases c with
  | false=>exact isTrue_or_nil e
  | true=>exact e
theorem yy8 (ha:PT X a tA)(hb:PW X (.BoolOp .And (b::J9) pos) tB'):PW X (.BoolOp .And (a::b::J9) pos) (xf3 tA tB'):=by
  intro wh pins s σ H Q I h
  refine isTrue_and (thn (ha pins s σ H _ I h) λc s1 ⟨H1,I1,q1⟩=>?_)
  cases c with
  | true=>exact hb wh pins s1 σ H1 Q I1 q1
  | false=>exact⟨H1,I1,q1⟩
theorem zu5 (ha:PT X a tA)(hb:PW X (.BoolOp .Or (b::J9) pos) tB'):PW X (.BoolOp .Or (a::b::J9) pos) (tOr tA tB'):=by
  intro wh pins s σ H Q I h
  refine isTrue_or (thn (ha pins s σ H _ I h) λc s1 ⟨H1,I1,q1⟩=>?_)
  cases c with
  | true=>exact⟨H1,I1,q1⟩
  | false=>exact hb wh pins s1 σ H1 Q I1 q1
theorem T2 (ha:PT X a tA):PT X (.UnaryOp .Not a pos) (xg0 tA):=by
  intro pins s σ H Q I h
  exact isTrue_not (ha pins s σ H (λc H1=>Q (!c) H1) I h)
def xc3 (ta tb:TE):TE:=λσ H Q=>ta σ H λx H1=>∃c,x=.bl c/\if c=true then tb σ H1 Q else Q (.bl false) H1
def xg1 (ta tb:TE):TE:=λσ H Q=>ta σ H λx H1=>∃c,x=.bl c/\if c=true then Q (.bl true) H1 else tb σ H1 Q
def xd1 (ta:TE):TE:=λσ H Q=>ta σ H λx H1=>∃c,x=.bl c/\Q (.bl (!c)) H1
theorem M2 {op}{t:TE}(h:PE X a t):PE X (.BoolOp op [a] pos) t:=λpins s σ H Q I hw=>BoolOp_one (h pins s σ H Q I hw)
theorem M1 (ha:PE X a ta)(hb:PE X (.BoolOp .And (b::J9) pos) tb):PE X (.BoolOp .And (a::b::J9) pos) (xc3 ta tb):=by
  intro pins s σ H Q I h
  refine BoolOp_and (thn (ha pins s σ H _ I h) λv s1 ⟨x,H1,I1,r1,q1⟩=>?_)
  obtain⟨c,rfl,q1⟩:=q1
  cases r1
  refine wpAny_truthy_bool ?_
  cases c with
  | true=>exact hb pins s1 σ H1 Q I1 q1
  | false=>exact⟨.bl false,H1,I1,rfl,q1⟩
theorem xb8 (ha:PE X a ta)(hb:PE X (.BoolOp .Or (b::J9) pos) tb):PE X (.BoolOp .Or (a::b::J9) pos) (xg1 ta tb):=by
  intro pins s σ H Q I h
  refine BoolOp_or (thn (ha pins s σ H _ I h) λv s1 ⟨x,H1,I1,r1,q1⟩=>?_)
  obtain⟨c,rfl,q1⟩:=q1
  cases r1
  refine wpAny_truthy_bool ?_
  cases c with
  | false=>exact hb pins s1 σ H1 Q I1 q1
  | true=>exact⟨.bl true,H1,I1,rfl,q1⟩
theorem yy6 (ha:PE X a ta):PE X (.UnaryOp .Not a pos) (xd1 ta):=by
  intro pins s σ H Q I h
  refine UnaryOp_ (thn (ha pins s σ H _ I h) λv s1 ⟨x,H1,I1,r1,q1⟩=>?_)
  obtain⟨c,rfl,q1⟩:=q1
  cases r1
  exact not_of (wpAny_truthy_bool ⟨.bl (!c),H1,I1,rfl,q1⟩)
end
def SqL (K:W.Frag)(H:Hp)(a:Addr)(xs:List V):Prop :=
  Rd H a (.lst xs) ∨
    ∃(o:Obj) (its:Array Value) (n:Nat),K.lookup a=some o/\o.cls=.type "list"/\o.dict=none/\o.data=.seq its n/\its.size<=eU/\v9 xs its.toList
def SqT (K:W.Frag)(H:Hp)(a:Addr)(xs:List V):Prop :=
  Rd H a (.tup xs) ∨
    ∃(o:Obj) (its:Array Value) (n:Nat),K.lookup a=some o/\o.cls=.type "tuple"/\o.data=.seq its n/\its.size<=eU/\v9 xs its.toList
def xd8 : Value -> Option V
  | .none=>some .non
  | .bool b=>some (.bl b)
  | .int i _=>some (.int i)
  | .str x _=>some (.str x)
  | .bytes b _=>some (.byt b)
  | .float b _=>some (.flt b)
  | .ref a=>some (.ref a)
  | .type n=>some (.ty n)
  | _=>none
theorem u0.abs {x:V}{u:Value}(r:u0 x u):xd8 u=some x:=by
  cases x with
  | non=>cases r;rfl
  | bl _=>cases r;rfl
  | int _=>obtain⟨t,rfl⟩:=r;rfl
  | str _=>obtain⟨t,rfl⟩:=r;rfl
  | byt _=>obtain⟨t,rfl⟩:=r;rfl
  | flt _=>obtain⟨t,rfl⟩:=r;rfl
  | ref _=>cases r;rfl
  | ty _=>cases r;rfl
theorem u0.inj {x y:V}{u:Value}(r:u0 x u)(q:u0 y u):x=y:=Option.some.inj (r.abs.symm.trans q.abs)
theorem v9.inj : ∀{xs ys : List V} {us : List Value}, v9 xs us -> v9 ys us -> xs = ys
  | _,_,_,.nil,.nil=>rfl
  | _,_,_,.cons r t,.cons r' t'=>by rw[r.inj r',v9.inj t t']
section
variable {X:Cx}{pins:List (Addr×Obj)}{σ:St}{H:Hp}{s:eS}{a:Addr}{xs ys:List V}
theorem SqL.of {K:W.Frag}(h:H a=some (.lst xs)):SqL K H a xs:=.inl (.inl h)
theorem SqT.of {K:W.Frag}(h:H a=some (.tup xs)):SqT K H a xs:=.inl (.inl h)
theorem Inv.list (I:Inv X pins σ H s)(h:SqL X.K H a xs):∃its:List Value,v9 xs its/\PlainL s.heap a its.toArray/\xs.length<=eU:=by
  rcases h with h|⟨o,its,n,hk,hc,hd,hs,hz,r⟩
  . obtain⟨z, its, n, r, e⟩ := h.ok I.hok
    exact⟨its,r,⟨_,n,e,rfl,rfl,rfl⟩,z⟩
  . refine⟨its.toList, r, ⟨o, n, I.kIn a o hk, hc, hd, by simpa using hs⟩, ?_⟩
    have e:=r.length
    simp only[cA]at e
    lia
theorem Inv.tuple (I:Inv X pins σ H s)(h:SqT X.K H a xs):∃its:List Value,v9 xs its/\IsTup s.heap a its.toArray/\xs.length<=eU:=by
  rcases h with h|⟨o,its,n,hk,hc,hs,hz,r⟩
  . obtain⟨z, its, r, p⟩ := h.ok I.hok
    exact⟨its,r,p.is,z⟩
  . refine⟨its.toList, r, ⟨o, I.kIn a o hk, hc, n, by simpa using hs⟩, ?_⟩
    have e:=r.length
    simp only[cA]at e
    lia
theorem Inv.list_inj (I:Inv X pins σ H s)(h:SqL X.K H a xs)(h':SqL X.K H a ys):xs=ys:=by
  obtain⟨its,r,⟨o,n,e,_,_,d⟩,_⟩:=I.list h
  obtain⟨its',r',⟨o',n',e',_,_,d'⟩,_⟩:=I.list h'
  rw[e]at e';cases e'
  rw[d]at d'
  injection d' with d1 _
  have:its=its':=by simpa using congrArg Array.toList d1
  subst this
  exact r.inj r'
theorem Inv.tuple_inj (I:Inv X pins σ H s)(h:SqT X.K H a xs)(h':SqT X.K H a ys):xs=ys:=by
  obtain⟨its,r,⟨o,e,_,n,d⟩,_⟩:=I.tuple h
  obtain⟨its',r',⟨o',e',_,n',d'⟩,_⟩:=I.tuple h'
  rw[e]at e';cases e'
  rw[d]at d'
  injection d' with d1 _
  have:its=its':=by simpa using congrArg Array.toList d1
  subst this
  exact r.inj r'
end
abbrev Cx.wish (X:Cx) (E:Value->eS->Prop):Cx:={ X with xe:=E }
abbrev Cx.nox (X:Cx):Cx:=X.wish λ_ _=>False
theorem Cx.Ok.wish {X:Cx}(ok:X.Ok)(E:Value->eS->Prop):(X.wish E).Ok :=
  ⟨ok.mod,ok.kind,ok.glob,ok.blt,ok.above,ok.inj,ok.has,ok.cab,ok.hd,ok.frames,ok.stk,ok.exf,ok.bs,ok.bsz,ok.noex,ok.exfs,ok.funs,ok.frf⟩
theorem Cx.Ok.unwish {X:Cx}{E:Value->eS->Prop}(ok:(X.wish E).Ok):X.Ok :=
  ⟨ok.mod,ok.kind,ok.glob,ok.blt,ok.above,ok.inj,ok.has,ok.cab,ok.hd,ok.frames,ok.stk,ok.exf,ok.bs,ok.bsz,ok.noex,ok.exfs,ok.funs,ok.frf⟩
section
variable {X:Cx}{pins:List (Addr×Obj)}{σ:St}{H:Hp}{s:eS}{E:Value->eS->Prop}
theorem Inv.wish (I:Inv X pins σ H s)(E:Value->eS->Prop):Inv (X.wish E) pins σ H s:=⟨I.ok.wish E,I.os,I.bare,I.base,I.loc,I.cell,I.free,I.freeC,I.pin,I.hok,I.len⟩
theorem Inv.unwish (I:Inv (X.wish E) pins σ H s):Inv X pins σ H s:=⟨I.ok.unwish,I.os,I.bare,I.base,I.loc,I.cell,I.free,I.freeC,I.pin,I.hok,I.len⟩
theorem SP.unwish {D:zn3}{f:Flow}{s':eS}(h:SP (X.wish E) pins D f s'):SP X pins D f s':=by
  cases f with
  | next=>obtain⟨σ',H',I,q⟩:=h;exact⟨σ',H',I.unwish,q⟩
  | brk=>obtain⟨σ',H',I,q⟩:=h;exact⟨σ',H',I.unwish,q⟩
  | cont=>obtain⟨σ',H',I,q⟩:=h;exact⟨σ',H',I.unwish,q⟩
  | ret u=>obtain⟨v,σ',H',I,r,q⟩:=h;exact⟨v,σ',H',I.unwish,r,q⟩
theorem PSs.nox {st:List Stmt}{t:TS}(h:PSs X.nox st t):PSs X st t:=λpins s σ H D I hw =>
  fg (h pins s σ H D (I.wish _) hw) (λ_ _ q=>q.unwish) λ_ _ z=>False.elim z
end
section
variable {X:Cx}{st:Stmt}{J9:List Stmt}{t u:TS}{e:Expr}{te:TE}{pos:Pos}
def xd0:TS:=λD σ H=>D.nx σ H
def yz8 (t u:TS):TS:=λD σ H=>t { D with nx:=u D } σ H
theorem u6:PSs X [] xd0:=λ_ _ σ H _ I h=>wpAny_execs_nil ⟨σ,H,I,h⟩
theorem z6 (h1:PS X st t)(h2:PSs X J9 u):PSs X (st::J9) (yz8 t u):=by
  intro pins s σ H D I h
  refine wpAny_execs_cons (thn (h1 pins s σ H { D with nx:=u D } I h) λf s1 q=>?_)
  cases f with
  | next =>
    obtain⟨σ',H',I',q⟩:=q
    exact h2 pins s1 σ' H' D I' q
  | ret v=>exact q
  | brk=>exact q
  | cont=>exact q
theorem z7 (h1:PS X st t):PSs X [st] t:=by
  intro pins s σ H D I h
  refine wpAny_execs_cons (thn (h1 pins s σ H D I h) λf s1 q=>?_)
  cases f with
  | next=>exact wpAny_execs_nil q
  | ret v=>exact q
  | brk=>exact q
  | cont=>exact q
theorem Inv.quiet {pins:List (Addr×Obj)}{σ:St}{H:Hp}{s:eS}(I:Inv X pins σ H s):interactive X.env=false:=by simp[interactive,I.ok.kind]
def xc8 (te:TE):TS:=λD σ H=>te σ H λ_ H1=>D.nx σ H1
theorem p5 (he:PE X e te)(hs:swapsWith e none pos.line X.env=pure false:=by rfl):PS X (.Expr e pos) (xc8 te):=by
  intro pins s σ H D I h
  exact wpAny_Expr_any (thn (he pins s σ H _ I h) λv s1 ⟨x,H1,I1,r1,q1⟩=>⟨σ,H1,I1,q1⟩) I.quiet hs
def xg3 (te:TE):TS:=λD σ H=>te σ H D.rt
theorem y9 (he:PE X e te):PS X (.Return (some e) pos) (xg3 te):=by
  intro pins s σ H D I h
  exact wpAny_Return_some (thn (he pins s σ H _ I h) λv s1 ⟨x,H1,I1,r1,q1⟩=>⟨x,σ,H1,I1,r1,q1⟩)
def xf7 (c:TT)(t u:TS):TS:=λD σ H=>c σ H λb H1=>if b=true then t D σ H1 else u D σ H1
theorem n6 {c:Expr}{a b:List Stmt}{tc:TT}(hc:PT X c tc)(ha:PSs X a t)(hb:PSs X b u):PS X (.If c a b pos) (xf7 tc t u):=by
  intro pins s σ H D I h
  refine wpAny_If (thn (hc pins s σ H _ I h) λd s1 ⟨H1,I1,q1⟩=>?_)
  cases d with
  | true=>exact ha pins s1 σ H1 D I1 q1
  | false=>exact hb pins s1 σ H1 D I1 q1
def yz6:TS:=λ_ _ _=>False
theorem zh3:PS X st yz6:=λ_ _ _ _ _ _ h=>h.elim
end
abbrev TG:=V->St->Hp->(St->Hp->Prop)->Prop
abbrev TGs:=List V->St->Hp->(St->Hp->Prop)->Prop
def PG (X:Cx)(target:Expr)(t:TG):Prop :=
  ∀(pins:List (Addr×Obj)) (s:eS) (σ:St) (H:Hp) (v:V) (u:Value) (Q:St->Hp->Prop),Inv X pins σ H s->u0 v u->t v σ H Q ->
    eW (eY X.prog X.w) X.A (assign target X.env u) (λ_ s'=>∃σ' H',Inv X pins σ' H' s'/\Q σ' H') X.xe s
def PGs (X:Cx)(ts:List Expr)(t:TGs):Prop :=
  ∀(pins:List (Addr×Obj)) (s:eS) (σ:St) (H:Hp) (vs:List V) (us:List Value) (Q:St->Hp->Prop),Inv X pins σ H s->v9 vs us->t vs σ H Q ->
    eW (eY X.prog X.w) X.A (assignInOrder ((assignEach ts X.env).map (·.2)) us) (λ_ s'=>∃σ' H',Inv X pins σ' H' s'/\Q σ' H') X.xe s
abbrev yv5:=V->V->V->Hp->(Hp->Prop)->Prop
def xa3 (X:Cx)(t:yv5):Prop :=
  ∀(pins:List (Addr×Obj)) (s:eS) (σ:St) (H:Hp) (o i v:V) (ov iv u:Value) (Q:Hp->Prop),Inv X pins σ H s->u0 o ov->u0 i iv->u0 v u->t o i v H Q ->
    eW (eY X.prog X.w) X.A (setItem ov iv u) (λ_ s'=>∃H',Inv X pins σ H' s'/\Q H') X.xe s
abbrev TIp:=V->V->Hp->VK->Prop
def PIp (X:Cx)(op:Operator)(t:TIp):Prop :=
  ∀(pins:List (Addr×Obj)) (s:eS) (σ:St) (H:Hp) (x y:V) (v u:Value) (Q:VK),Inv X pins σ H s->u0 x v->u0 y u->t x y H Q ->
    eW (eY X.prog X.w) X.A (inplaceOp op v u) (EP X pins σ Q) X.xe s
section
variable {X:Cx}{pos:Pos}
def u9 (i:Nat):TG:=λv σ H Q=>Q (σ.set i (some v)) H
theorem k8 {i:Nat}{x:Str}(hN:X.N.Nodup)(hi:X.N[i]?=some x)(hx:Loc X.env.scope x)(hf:X.fn x=true∨X.env.scope.names.lookup x=some .local:=by first|exact .inl rfl|exact .inr rfl|assumption):PG X (.Name x pos) (u9 i):=by
  intro pins s σ H v u Q I r h
  exact wpAny_assign_Name (L0 I hN hi hx r (λs' I'=>⟨_,H,I',h⟩) hf)
def xe2:TGs:=λvs σ H Q=>vs=[]/\Q σ H
def xb0 (t:TG)(u:TGs):TGs:=λvs σ H Q=>∃v r,vs=v::r/\t v σ H λσ' H'=>u r σ' H' Q
theorem zc7:PGs X [] xe2:=by
  intro pins s σ H vs us Q I r h
  obtain⟨e,h⟩:=h
  subst e
  cases r
  exact assignInOrder_nil ⟨σ,H,I,h⟩
theorem W4 {e : Expr}{es : List Expr}{t : TG}{u : TGs}(h1 : PG X e t)(h2 : PGs X es u)
    (hs:(assignEach (e::es) X.env).map (·.2)=assign e X.env::(assignEach es X.env).map (·.2):=by rfl):PGs X (e::es) (xb0 t u):=by
  intro pins s σ H vs us Q I r h
  obtain⟨v,vr,e1,h⟩:=h
  subst e1
  cases r with
  | cons r rr =>
    rw[hs]
    refine assignInOrder_cons (thn (h1 pins s σ H _ _ _ I r h) λ_ s1 ⟨σ1,H1,I1,q1⟩=>?_)
    exact h2 pins s1 σ1 H1 _ _ Q I1 rr q1
def xe4 (K:W.Frag)(n:Nat)(t:TGs):TG:=λv σ H Q=>∃a xs,v=.ref a/\SqT K H a xs/\xs.length=n/\t xs σ H Q
theorem zp6 {es : List Expr}{k : Nat}{t : TGs}{n : Nat}(hc : X.calm = true)(h : PGs X es t)
    (hn:(assignEach es X.env).length=n:=by rfl) (hst:(assignEach es X.env).findIdx? (·.1)=none:=by rfl):PG X (.Tuple es k pos) (xe4 X.K n t):=by
  intro pins s σ H v u Q I r hw
  obtain⟨a,xs,e1,hq,hl,hw⟩:=hw
  subst e1
  cases r
  obtain⟨its,rv,ht,hz⟩:=I.tuple hq
  refine assign_Tuple_tuple (I.ok.hd hc) ht (by simp[hn,←hl,rv.length]) hst λh' hx=>?_
  have I1:Inv X pins σ H { s with heap:=h' }:=I.kept (t':=s.toks) λb o e=>hx b o (aS (ay e)) e
  exact h pins _ σ H xs _ Q I1 (by simpa using rv) hw
def xe3 (to ti:TE)(t:yv5):TG:=λv σ H Q=>to σ H λo H1=>ti σ H1 λi H2=>t o i v H2 λH3=>Q σ H3
theorem zy1 {o i : Expr}{to ti : TE}{t : yv5}(ho : PE X o to)(hi : PE X i ti)(hs : xa3 X t)
    (ha : ∀v, assign (.Subscript o i pos) X.env v = (do
      let ov ←holding [v] (eval o X.env)
      let iv ←holding [v,ov] (eval i X.env)
      standAt pos
      holding [v,ov,iv] (setItem ov iv v)
      release [v,ov,iv] []):=by intro _;rfl):PG X (.Subscript o i pos) (xe3 to ti t):=by
  intro pins s σ H v u Q I r h
  rw[ha]
  refine eR (ff (thn (ho pins s σ H _ I h) λov s1 ⟨x,H1,I1,r1,q1⟩=>?_))
  refine eR (ff (thn (hi pins s1 σ H1 _ I1 q1) λiv s2 ⟨y,H2,I2,r2,q2⟩=>?_))
  refine eR (wpAny_standAt (eR (ff (thn (hs pins s2 σ H2 x y v ov iv u _ I2 r1 r2 r q2) λ_ s3 ⟨H3,I3,q3⟩=>?_))))
  exact wpAny_release ⟨σ,H3,I3,q3⟩
def xc4 (te:TE)(g:TG):TS:=λD σ H=>te σ H λx H1=>g x σ H1 D.nx
theorem zp8 {tg e : Expr}{te : TE}{g : TG}(he : PE X e te)(hg : PG X tg g)(hs : swapsWithSole [tg] e pos.line X.env = pure false := by rfl)(hw : swappedStores [tg] e X.env = pure none := by rfl)
    (h1:(assignEach [tg] X.env).map (·.2)=[assign tg X.env]:=by rfl):PS X (.Assign [tg] e pos) (xc4 te g):=by
  intro pins s σ H D I h
  refine wpAny_Assign_stores (thn (he pins s σ H _ I h) λv s1 ⟨x,H1,I1,r1,q1⟩=>?_) hs hw
  rw[h1]
  exact thn (hg pins s1 σ H1 x v _ I1 r1 q1) λ_ s2 q=>q
theorem x9 {i : Nat}{x : Str}{e : Expr}{te : TE}{pos' : Pos}(hN : X.N.Nodup)(hi : X.N[i]? = some x)(hx : Loc X.env.scope x)(he : PE X e te)(hs : swapsWith e (some (.Name x pos')) pos.line X.env = pure false := by rfl)(hf : X.fn x = true∨X.env.scope.names.lookup x = some .local := by first|exact .inl rfl|exact .inr rfl|assumption) :
    PS X (.Assign [.Name x pos'] e pos) (xc4 te (u9 i)):=by
  intro pins s σ H D I h
  refine wpAny_Assign_Name (thn (he pins s σ H _ I h) λv s1 ⟨y,H1,I1,r1,q1⟩=>?_) hs
  exact L0 I1 hN hi hx r1 (λs2 I2=>⟨_,H1,I2,q1⟩) hf
def xg2 (i j:Nat)(ta:TA):TS:=λD σ H=>ta σ H λvs H1=>∃v w,vs=[v,w]/\D.nx ((σ.set i (some v)).set j (some w)) H1
theorem yy7 {i j : Nat}{x y : Str}{a b : Expr}{ta : TA}{px py pt : Pos}{kt k2 pt2}(hc : X.calm = true)(hN : X.N.Nodup)(hi : X.N[i]? = some x)(hj : X.N[j]? = some y)(hij : i ≠ j)
    (hx:X.env.scope.names.lookup x=some .local) (hy:X.env.scope.names.lookup y=some .local) (ha:PA X [a,b] ta)
    (hw:swappedStores [.Tuple [.Name x px,.Name y py] kt pt] (.Tuple [a,b] k2 pt2) X.env=pure (some [x,y]))
    (hs:swapsWithSole [.Tuple [.Name x px,.Name y py] kt pt] (.Tuple [a,b] k2 pt2) pos.line X.env=pure false:=by rfl) :
    PS X (.Assign [.Tuple [.Name x px,.Name y py] kt pt] (.Tuple [a,b] k2 pt2) pos) (xg2 i j ta):=by
  intro pins s σ H D I h
  rw[exec_Assign_arm]
  refine eR (wpAny_standAt ?_)
  rw[hs]
  refine eR (eT ?_)
  rw[if_neg (by decide)]
  refine eR (Tuple_ (thn (ha _ pins s σ H _ I h) λus s1 ⟨vs,H1,I1,r1,q1⟩=>?_))
  obtain⟨v,w,e1,q1⟩:=q1
  subst e1
  obtain⟨u1,u2,rfl,rv,rw'⟩:∃u1 u2,us=[u1,u2]/\u0 v u1/\u0 w u2:=by
    cases r1 with
    | cons p q =>
      cases q with
      | cons p' q' =>
        cases q'
        exact⟨_,_,rfl,p,p'⟩
  refine wpAny_newObj_type ?_ (by show 2<=eU;decide)
  have I2:Inv X pins σ H1 { s1 with heap:=s1.heap.push { cls:=.type "tuple",data:=.seq [u1,u2].toArray } }:=I1.kept (t':=s1.toks) λb o e=>ar _ e
  rw[hw]
  refine eR (eT ?_)
  show eW (eY X.prog X.w) X.A (do rule "assign.swapped-stores";let items ←unpackItems (.ref s1.heap.objs.size) 2 none;assignInOrder [λv=>bindName X.env y v,λv=>bindName X.env x v] items.reverse;pure Flow.next) _ _ _
  refine eR (wpAny_rule (eR (unpackItems_tuple (items:=#[u1,u2]) (I.ok.hd hc) (IsTup.new s1.heap _) λh' hx'=>?_)))
  have I3:=I2.kept (h':=h') (t':=s1.toks) λb o e=>hx' b o (aS (ay e)) e
  show eW _ _ (assignInOrder [λv=>bindName X.env y v,λv=>bindName X.env x v] [u2,u1] >>= λ_=>pure Flow.next) _ _ _
  refine eR (assignInOrder_cons (wpAny_bindName (L0 I3 hN hj (.inl hy) rw' (λs2 I4=>?_) (.inr hy))))
  refine assignInOrder_cons (wpAny_bindName (L0 I4 hN hi (.inl hx) rv (λs3 I5=>assignInOrder_nil (eT ?_)) (.inr hx)))
  rw[List.set_comm _ _ (Ne.symm hij)]at I5
  exact⟨_,H1,I5,q1⟩
def xf4 (i:Nat)(te:TE)(ti:TIp):TS:=λD σ H=>∃x,σ[i]?=some (some x)/\te σ H λy H1=>ti x y H1 λz H2=>D.nx (σ.set i (some z)) H2
theorem zy2 {i : Nat}{x : Str}{e : Expr}{te : TE}{op : Operator}{ti : TIp}{pos' : Pos}(hN : X.N.Nodup)(hi : X.N[i]? = some x)(hx : Loc X.env.scope x)(he : PE X e te)(ho : PIp X op ti)(hf : X.fn x = true∨X.env.scope.names.lookup x = some .local := by first|exact .inl rfl|exact .inr rfl|assumption) :
    PS X (.AugAssign (.Name x pos') op e pos) (xf4 i te ti):=by
  intro pins s σ H D I h
  obtain⟨v,e1,h⟩:=h
  obtain⟨m,hn,hl⟩:=I.loc
  have vis:Vis X.env.scope x:=by rcases hx with k|k;exact .inl k;exact .inr (.inl k)
  obtain⟨u,r,l⟩:=hl i x v hi e1 vis
  refine wpAny_AugAssign_Name ?_
  have go:eW (eY X.prog X.w) X.A (eval e X.env) (λw s₂=>eW (eY X.prog X.w) X.A (inplaceOp op u w) (λr s₃=>eW (eY X.prog X.w) X.A (storeName X.env x r) (λ_=>SP X pins D .next) X.xe s₃) X.xe s₂) X.xe s:=by
    refine thn (he pins s σ H _ I h) λw s1 ⟨y,H1,I1,r1,q1⟩=>?_
    refine thn (ho pins s1 σ H1 v y u w _ I1 r r1 q1) λz s2 ⟨zv,H2,I2,r2,q2⟩=>?_
    exact L0 I2 hN hi hx r2 (λs3 I3=>⟨_,H2,I3,q2⟩) hf
  rcases l with⟨hk,hm⟩|⟨hk,c,hc,hcell⟩
  . exact wpAny_loadName_local I.ok.kind hk hn hm go
  . rcases hk with hk|hk
    . exact wpAny_loadName_cell I.ok.kind hk hc hcell go
    . rcases hx with k|k
      . have : X.env.scope.names.lookup x = some .free := hk
        rw[k]at this;cases this
      . have : X.env.scope.names.lookup x = some .free := hk
        rw[k]at this;cases this
def ipI (f:Int->Int->Int):TIp:=λx y H Q=>∃i j,x=.int i/\y=.int j/\Q (.int (f i j)) H
theorem yw0:PIp X .Add (ipI λi j=>i+j):=by
  intro pins s σ H x y v u Q I r1 r2 h
  obtain⟨i,j,e1,e2,q⟩:=h
  subst e1;subst e2
  obtain⟨t,rfl⟩:=r1
  obtain⟨t',rfl⟩:=r2
  exact iadd_int ⟨.int _,H,I.tok _,⟨_,rfl⟩,q⟩
theorem yw2:PIp X .Sub (ipI λi j=>i-j):=by
  intro pins s σ H x y v u Q I r1 r2 h
  obtain⟨i,j,e1,e2,q⟩:=h
  subst e1;subst e2
  obtain⟨t,rfl⟩:=r1
  obtain⟨t',rfl⟩:=r2
  exact isub_int ⟨.int _,H,I.tok _,⟨_,rfl⟩,q⟩
end
section
variable {X:Cx}{pos:Pos}
def yz9 (c:TT)(tb:TS):TS:=λD σ H=>∃W:Nat->St->Hp->Prop,(∃m,W m σ H)/\∀m σ H,W m σ H ->
  c σ H λb H1=>if b=true then ∃N:St->Hp->Prop,(∀σ' H',N σ' H'->∃m',m'<m/\W m' σ' H')/\tb { D with nx:=N,ct:=N,bk:=D.nx } σ H1 else D.nx σ H1
theorem S7 {c:Expr}{body:List Stmt}{tc:TT}{tb:TS}(hp:PassesOwn (eY X.prog X.w) X.A X.env X.xe)(hc:PT X c tc)(hb:PSs X body tb):PS X (.While c body [] pos) (yz9 tc tb):=by
  intro pins s σ H D I h
  obtain⟨W,⟨m0,w0⟩,turn⟩:=h
  refine wpAny_While (codeAny_whileLoop (λn s'=>∃σ' H',Inv X pins σ' H' s'/\W n σ' H') ?_ m0 ⟨σ,H,I,w0⟩)
  rintro n s1 ⟨σ1,H1,I1,w1⟩
  refine wpAny_passesOwn hp (thn (hc pins s1 σ1 H1 _ I1 (turn n σ1 H1 w1)) λb s2 ⟨H2,I2,q2⟩=>?_)
  cases b with
  | true =>
    obtain⟨N,hN,q2⟩:=q2
    rw[if_pos rfl]
    refine wpAny_passesOwn hp (thn (hb pins s2 σ1 H2 _ I2 q2) λf s3 q3=>?_)
    cases f with
    | next =>
      obtain⟨σ3,H3,I3,n3⟩:=q3
      obtain⟨m',hm,w3⟩:=hN σ3 H3 n3
      exact⟨m',hm,σ3,H3,I3,w3⟩
    | cont =>
      obtain⟨σ3,H3,I3,n3⟩:=q3
      obtain⟨m',hm,w3⟩:=hN σ3 H3 n3
      exact⟨m',hm,σ3,H3,I3,w3⟩
    | brk=>exact q3
    | ret v=>exact q3
  | false =>
    rw[if_neg aJ]
    exact wpAny_execs_nil ⟨σ1,H2,I2,q2⟩
end
structure It where
  go:Nat->Hp->Prop
  yld:Nat->Hp->V->Hp->Prop
  stop:Nat->Hp->Prop
def G8 (X:Cx)(pins:List (Addr×Obj))(H:Hp)(b:Addr):Prop :=
  H b=none/\b≠X.env.locals/\b∉X.fs/\(b∈X.ex∨X.s₀.heap.objs.size<=b)/\(∀x c,X.env.cells.lookup x=some c->c≠b)/\∀p∈X.pn++pins,p.1≠b
theorem Inv.fpOk {X:Cx}{pins:List (Addr×Obj)}{σ:St}{H H':Hp}{s:eS}{b:Addr}(I:Inv X pins σ H s)(hb:s.heap.objs.size<=b)(hn:H' b=none):G8 X pins H' b:=by
  refine⟨hn,dQ (aO I.lt hb),I.nofs hb,.inr (aX I.sz hb),λx c e z=>?_,λp hp z=>?_⟩
  . obtain⟨v, q⟩ := I.cell x c e
    exact absurd (aO q.lt (by rw[z];exact hb)) (aW _)
  . exact absurd (aO (ay (I.pin p hp).1) (by rw[z];exact hb)) (aW _)
structure ye4 (P:eV) (w:eZ) (K:W.Frag) (tg:Expr) (J:It) (fp:List Addr) (it:Addr) (tn:Nat->Heap->Prop):Prop where
  mem:it∈fp
  obj:∀i h,tn i h->∀b∈fp,∃o,h.get? b=some o/\∀v,o.data≠.cell v
  keep:∀i h h',tn i h->(∀b∈fp,∀o,h.get? b=some o->h'.get? b=some o)->tn i h'
  item:∀(X:Cx),X.prog=P->X.w=w->X.K=K->X.calm=true->∀(i:Nat) (pins:List (Addr×Obj)) (s:eS) (σ:St) (H:Hp) (E:Value->eS->Prop),Inv X pins σ H s->(∀b∈fp,G8 X pins H b)->tn i s.heap->J.go i H ->
    eW (eY P w) X.A (pyNext (.ref it)) (λr s1=>∃u,r=some u /\
      eW (eY P w) X.A (letOwnedTupleGo tg (.ref it) u) (λ_ s2=>∃x H',Inv X pins σ H' s2/\u0 x u/\J.yld i H x H'/\tn (i+1) s2.heap/\∀b∈fp,H' b=none) E s1) E s
  done:∀(X:Cx),X.prog=P->X.w=w->X.K=K->X.calm=true->∀(i:Nat) (pins:List (Addr×Obj)) (s:eS) (σ:St) (H:Hp) (E:Value->eS->Prop),Inv X pins σ H s->(∀b∈fp,G8 X pins H b)->tn i s.heap->J.stop i H ->
    eW (eY P w) X.A (pyNext (.ref it)) (λr s1=>r=none/\Inv X pins σ H s1) E s
  self:∀(A:fc) (i:Nat) (s:eS) (Q:Value->eS->Prop) (E:Value->eS->Prop),tn i s.heap->Q (.ref it) s->eW (eY P w) A (pyIter (.ref it)) Q E s
abbrev TI:=St->Hp->(It->Hp->Prop)->Prop
def PIE (X:Cx)(pins:List (Addr×Obj))(σ:St)(tg:Expr)(R:It->Hp->Prop)(itv:Value)(s2:eS):Prop :=
  ∃(it:Addr) (fp:List Addr) (tn:Nat->Heap->Prop) (J:It) (H':Hp),itv=.ref it/\Inv X pins σ H' s2/\ye4 X.prog X.w X.K tg J fp it tn/\tn 0 s2.heap/\(∀b∈fp,G8 X pins H' b)/\R J H'
def PI (X:Cx)(tg iter:Expr)(wi:TI):Prop :=
  ∀(pins:List (Addr×Obj)) (s:eS) (σ:St) (H:Hp) (R:It->Hp->Prop),Inv X pins σ H s->wi σ H R ->
    eW (eY X.prog X.w) X.A (eval iter X.env) (λv s1=>eW (eY X.prog X.w) X.A (pyIter v) (PIE X pins σ tg R) X.xe s1) X.xe s
theorem yb3 {M : Model}{A : fc}{E : Value -> eS -> Prop}{s : eS}{tg : Expr}{it : Addr}{u : Value}{o : Obj}{n : String}{vs : Array Value}{Q : Unit -> eS -> Prop}(ho : s.heap.get? it = some o)(hc : o.cls = .type n)(hd : o.data = .fields vs)
    (hn:["enumerate","zip","dict_itemiterator","dict_reverseitemiterator","odict_iterator","itertools.zip_longest","itertools.pairwise"].contains n=false) (hQ:Q () s):eW M A (letOwnedTupleGo tg (.ref it) u) Q E s:=by
  unfold letOwnedTupleGo
  cases tg <;> first
    | exact eT hQ
    | (cases u <;> first
        | exact eT hQ
        | (refine eR (wpAny_load ho ?_)
           rw[hc,hd]
           show eW M A (if (["enumerate","zip","dict_itemiterator","dict_reverseitemiterator","odict_iterator","itertools.zip_longest","itertools.pairwise"].contains n&&vs[0]?==some (rawInt _))=true then _ else _) Q E s
           rw[if_neg (by intro h;rw[hn,dC]at h;cases h)]
           exact eT hQ))
def Itl (K:W.Frag)(a:Addr):It :=
  ⟨λi H=>∃xs x,SqL K H a xs/\xs[i]?=some x,λi H x H'=>H'=H/\∀xs,SqL K H a xs->xs[i]?=some x,λi H=>∃xs,SqL K H a xs/\xs.length<=i⟩
def Itt (K:W.Frag)(a:Addr):It :=
  ⟨λi H=>∃xs x,SqT K H a xs/\xs[i]?=some x,λi H x H'=>H'=H/\∀xs,SqT K H a xs->xs[i]?=some x,λi H=>∃xs,SqT K H a xs/\xs.length<=i⟩
def Itr (lo:Int)(n:Nat):It:=⟨λi _=>i<n,λi H x H'=>H'=H/\x=.int (lo+i),λi _=>n<=i⟩
theorem yi3 {P:eV}{w:eZ}{K:W.Frag}{tg:Expr}(a it:Addr):ye4 P w K tg (Itl K a) [it] it (λi h=>h.IsListIter it a i) where
  mem:=by simp
  obj:=λi h st b hb=>by
    have e:b=it:=by simpa using hb
    subst e
    obtain⟨o,e,c,d⟩:=st
    exact⟨o,e,λv z=>by rw[d]at z;cases z⟩
  keep:=λi h h' st k=>st.at λo e=>k it (by simp) o e
  item:=by
    intro X hP hw hK hc i pins s σ H E I hf st hg
    subst hP hw hK
    obtain⟨xs,x,hq,hx⟩:=hg
    obtain⟨its,rv,p,hz⟩:=I.list hq
    obtain⟨u,hu,ru⟩:=rv.get hx
    obtain⟨f0,f1,f2,f3,f4,f5⟩:=hf it (by simp)
    refine wpAny_pyNext_list_item st p.isList (x:=u) (by simpa using hu) λh' st' sb=>?_
    have I1:Inv X pins σ H { s with heap:=h' }:=I.turned (t':=s.toks) (λb o hb e=>(sb.2 b hb).trans e) f0 f1 f3 f4 f5
    obtain⟨o,e,c,d⟩:=id st'
    exact⟨u,rfl,yb3 (s:={ s with heap:=h' }) e c d (by decide) ⟨x,H,I1,ru,⟨rfl,λys hy=>by rw[I.list_inj hy hq];exact hx⟩,st',λb hb=>(hf b hb).1⟩⟩
  done:=by
    intro X hP hw hK hc i pins s σ H E I hf st hg
    subst hP hw hK
    obtain⟨xs,hq,hx⟩:=hg
    obtain⟨its,rv,p,hz⟩:=I.list hq
    obtain⟨f0,f1,f2,f3,f4,f5⟩:=hf it (by simp)
    have hl:=rv.length
    exact wpAny_pyNext_list_end (I.ok.hd hc) st p.isList (by simp;lia) λh' eb=>⟨rfl,I.turned (t':=s.toks) (λb o hb e=>eb b o hb e) f0 f1 f3 f4 f5⟩
  self:=λ_ _ _ _ _ st h=>wpAny_pyIter_listiter st h
theorem ya0 {P:eV}{w:eZ}{K:W.Frag}{tg:Expr}(a it:Addr):ye4 P w K tg (Itt K a) [it] it (λi h=>h.IsTupleIter it a i) where
  mem:=by simp
  obj:=λi h st b hb=>by
    have e:b=it:=by simpa using hb
    subst e
    obtain⟨o,e,c,d⟩:=st
    exact⟨o,e,λv z=>by rw[d]at z;cases z⟩
  keep:=λi h h' st k=>st.at λo e=>k it (by simp) o e
  item:=by
    intro X hP hw hK hc i pins s σ H E I hf st hg
    subst hP hw hK
    obtain⟨xs,x,hq,hx⟩:=hg
    obtain⟨its,rv,p,hz⟩:=I.tuple hq
    obtain⟨u,hu,ru⟩:=rv.get hx
    obtain⟨f0,f1,f2,f3,f4,f5⟩:=hf it (by simp)
    refine wpAny_pyNext_tuple_item st (show s.heap.IsTuple a its.toArray from p) (x:=u) (by simpa using hu) λh' st' sb=>?_
    have I1:Inv X pins σ H { s with heap:=h' }:=I.turned (t':=s.toks) (λb o hb e=>(sb.2 b hb).trans e) f0 f1 f3 f4 f5
    obtain⟨o,e,c,d⟩:=id st'
    exact⟨u,rfl,yb3 (s:={ s with heap:=h' }) e c d (by decide) ⟨x,H,I1,ru,⟨rfl,λys hy=>by rw[I.tuple_inj hy hq];exact hx⟩,st',λb hb=>(hf b hb).1⟩⟩
  done:=by
    intro X hP hw hK hc i pins s σ H E I hf st hg
    subst hP hw hK
    obtain⟨xs,hq,hx⟩:=hg
    obtain⟨its,rv,p,hz⟩:=I.tuple hq
    obtain⟨f0,f1,f2,f3,f4,f5⟩:=hf it (by simp)
    have hl:=rv.length
    exact wpAny_pyNext_tuple_end (I.ok.hd hc) st (show s.heap.IsTuple a its.toArray from p) (by simp;lia) λh' eb=>⟨rfl,I.turned (t':=s.toks) (λb o hb e=>eb b o hb e) f0 f1 f3 f4 f5⟩
  self:=λ_ _ _ _ _ st h=>wpAny_pyIter_tupleiter st h
theorem zz9 {P:eV}{w:eZ}{K:PySem.W.Frag}{tg:Expr}(it:Addr)(lo:Int)(n:Nat):ye4 P w K tg (Itr lo n) [it] it (λi h=>IsRangeIter h it (lo+(i:Nat)*1) ((n:Int)-(i:Nat)) 1) where
  mem:=by simp
  obj:=λi h st b hb=>by
    have e:b=it:=by simpa using hb
    subst e
    exact⟨_,st,λv z=>by
      have z':Data.fields _=Data.cell v:=z
      cases z'⟩
  keep:=λi h h' st k=>k it (by simp) _ st
  item:=by
    intro X hP hw hK hc i pins s σ H E I hf st hg
    subst hP hw hK
    obtain⟨f0,f1,f2,f3,f4,f5⟩:=hf it (by simp)
    have W:=Walks.range (prog:=X.prog) (w:=X.w) (I.ok.hd hc) it lo 1 n
    refine W.item i s _ _ hg st λv h' tk hv st' kk=>?_
    obtain⟨t,rfl⟩:=hv
    have I1:Inv X pins σ H { s with heap:=h',toks:=tk }:=I.turned (λb o hb e=>kk b o (by simpa using hb) e) f0 f1 f3 f4 f5
    refine⟨_,rfl,yb3 (s:={ s with heap:=h',toks:=tk }) (n:="range_iterator") st' rfl rfl (by decide) ⟨.int (lo+i),H,I1,⟨t,?_⟩,⟨rfl,rfl⟩,st',λb hb=>(hf b hb).1⟩⟩
    rw[Int.mul_one]
  done:=by
    intro X hP hw hK hc i pins s σ H E I hf st hg
    subst hP hw hK
    obtain⟨f0,f1,f2,f3,f4,f5⟩:=hf it (by simp)
    exact wpAny_pyNext_range_end (I.ok.hd hc) st (by have:n<=i:=hg;lia) λh' eb=>⟨rfl,I.turned (t':=s.toks) (λb o hb e=>eb b o hb e) f0 f1 f3 f4 f5⟩
  self:=λ_ _ _ _ _ st h=>wpAny_pyIter_rangeiter st h
section
variable {X:Cx}{tg:Expr}
def xb2 (K:W.Frag)(tl:TE):TI:=λσ H R=>tl σ H λx H1=>∃a,x=.ref a/\(∃xs,SqL K H1 a xs)/\R (Itl K a) H1
def xe5 (K:W.Frag)(tl:TE):TI:=λσ H R=>tl σ H λx H1=>∃a,x=.ref a/\(∃xs,SqT K H1 a xs)/\R (Itt K a) H1
theorem d6 {l:Expr}{tl:TE}(hl:PE X l tl):PI X tg l (xb2 X.K tl):=by
  intro pins s σ H R I h
  refine thn (hl pins s σ H _ I h) λv s1 ⟨x,H1,I1,r1,q1⟩=>?_
  obtain⟨a,e,⟨xs,hq⟩,q⟩:=q1
  subst e
  cases r1
  obtain⟨its,rv,p,hz⟩:=I1.list hq
  refine wpAny_pyIter_list p.isList ?_
  refine⟨s1.heap.objs.size,[s1.heap.objs.size],_,_,H1,rfl,I1.kept (t':=s1.toks) λb o e=>ar _ e,yi3 a _,⟨_,aC _ rfl,rfl,rfl⟩,λb hb=>?_,q⟩
  have e:b=s1.heap.objs.size:=by simpa using hb
  subst e
  exact I1.fpOk (aq _) (I1.hok.fresh (aq _))
theorem yn9 {l:Expr}{tl:TE}(hl:PE X l tl):PI X tg l (xe5 X.K tl):=by
  intro pins s σ H R I h
  refine thn (hl pins s σ H _ I h) λv s1 ⟨x,H1,I1,r1,q1⟩=>?_
  obtain⟨a,e,⟨xs,hq⟩,q⟩:=q1
  subst e
  cases r1
  obtain⟨its,rv,p,hz⟩:=I1.tuple hq
  refine wpAny_pyIter_tuple (show s1.heap.IsTuple a its.toArray from p) ?_
  refine⟨s1.heap.objs.size,[s1.heap.objs.size],_,_,H1,rfl,I1.kept (t':=s1.toks) λb o e=>ar _ e,ya0 a _,⟨_,aC _ rfl,rfl,rfl⟩,λb hb=>?_,q⟩
  have e:b=s1.heap.objs.size:=by simpa using hb
  subst e
  exact I1.fpOk (aq _) (I1.hok.fresh (aq _))
theorem yo1 {pins : List (Addr×Obj)}{σ : St}{H : Hp}{s : eS}{R : It -> Hp -> Prop}{E : Value -> eS -> Prop}{lo hi : Int}{t u v : Tok}{tk : Nat}(I : Inv X pins σ H s)(h1 : -(2 ^ 62) <= lo)(h2 : lo<2 ^ 62)(h3 : -(2 ^ 62) <= hi)(h4 : hi<2 ^ 62)
    (q:R (Itr lo (hi-lo).toNat) H):eW (eY X.prog X.w) X.A (pyIter (.ref s.heap.objs.size)) (PIE X pins σ tg R) E { s with heap:=s.heap.push { cls:=.type "range",data:=.fields #[.int lo t,.int hi u,.int 1 v] },toks:=tk }:=by
  refine wpAny_pyIter_range (IsRange.new ..) (small_one h1 h2 h3 h4) ?_
  have I1:Inv X pins σ H { s with heap:=s.heap.push { cls:=.type "range",data:=.fields #[.int lo t,.int hi u,.int 1 v] },toks:=tk }:=I.kept λb o e=>ar _ e
  refine⟨(s.heap.push { cls:=.type "range",data:=.fields #[.int lo t,.int hi u,.int 1 v] }).objs.size,[(s.heap.push { cls:=.type "range",data:=.fields #[.int lo t,.int hi u,.int 1 v] }).objs.size],_,_,H,rfl,
    I1.kept (t':=tk) λb o e=>ar _ e,zz9 _ lo (hi-lo).toNat,?_,λb hb=>?_,q⟩
  . have e1 : lo+((0 : Nat) : Int)*1 = lo := by simp
    have e2:(((hi-lo).toNat:Nat):Int)-((0:Nat):Int)=Builtin.Range.rangeSize lo hi 1:=by rw[rangeSize_one];split <;> lia
    show IsRangeIter _ _ (lo+((0:Nat):Int)*1) ((((hi-lo).toNat:Nat):Int)-((0:Nat):Int)) 1
    rw[e1,e2]
    exact aC _ rfl
  . have e : b = (s.heap.push { cls := .type "range", data := .fields #[.int lo t, .int hi u, .int 1 v] }).objs.size := by simpa using hb
    subst e
    exact I1.fpOk (aq _) (I1.hok.fresh (aq _))
def xb3 (ta:TA):TI:=λσ H R=>ta σ H λvs H1=>∃j:Int,vs=[.int j]/\-(2 ^ 62)<=j/\j<2 ^ 62/\R (Itr 0 j.toNat) H1
theorem B7 {a:Expr}{ta:TA}{p pos:Pos}(hg:Gl X "range")(hm:X.mg "range"=none)(ha:PA X [a] ta)(hs:eX [a] X.env=[(false,eval a X.env)]:=by rfl):PI X tg (.Call (.Name "range" p) [a] [] pos) (xb3 ta):=by
  intro pins s σ H R I h
  refine Call_ (zf7 I hg hm boot_range (PyProof.Rows.callWith_type1 (thn (ha pos pins s σ H _ I h) λus s1 ⟨vs,H1,I1,r1,q1⟩=>?_) hs rfl))
  obtain⟨j,e,q1,q2,q⟩:=q1
  subst e
  cases r1 with
  | cons r rr =>
    cases rr
    obtain⟨t,rfl⟩:=r
    exact call_range_1 (yo1 I1 (by lia) (by lia) q1 q2 (by simpa using q))
def xc9 (wi:TI)(g:TG)(tb:TS):TS:=λD σ H=>wi σ H λJ H1=>∃W:Nat->Nat->St->Hp->Prop,(∃m,W 0 m σ H1)/\∀i m σ H,W i m σ H ->
  (J.stop i H/\D.nx σ H)∨(J.go i H/\∃N:St->Hp->Prop,(∀σ' H',N σ' H'->∃m',m'<m/\W (i+1) m' σ' H')/\∀x H',J.yld i H x H'->g x σ H' λσ2 H2=>tb { D with nx:=N,ct:=N,bk:=D.nx } σ2 H2)
def zh1 (fp:List Addr)(h:Heap):List (Addr×Obj):=fp.filterMap λb=>(h.get? b).map λo=>(b,o)
theorem V9 {fp:List Addr}{h:Heap}{b:Addr}{o:Obj}(hb:b∈fp)(e:h.get? b=some o):(b,o)∈zh1 fp h:=aU.mpr ⟨b,hb,by rw[e];rfl⟩
theorem yg7 {fp:List Addr}{h:Heap}{p:Addr×Obj}(hp:p∈zh1 fp h):p.1∈fp/\h.get? p.1=some p.2:=by
  obtain⟨b,hb,e⟩:=aU.mp hp
  cases q:h.get? b with
  | none=>rw[q]at e;cases e
  | some o =>
    rw[q]at e
    have e':(b,o)=p:=Option.some.inj e
    subst e'
    exact⟨hb,q⟩
theorem Inv.pinned {pins:List (Addr×Obj)}{σ:St}{H:Hp}{s:eS}{fp:List Addr}(I:Inv X pins σ H s)(hf:∀b∈fp,G8 X pins H b)(ho:∀b∈fp,∃o,s.heap.get? b=some o/\∀v,o.data≠.cell v):Inv X (pins++zh1 fp s.heap) σ H s :=
  I.pins_of λp hp=>(aB.mp hp).elim (λz=>I.pin p (aD _ z)) λz=>by
    obtain⟨hb,e⟩:=yg7 z
    obtain⟨f0,f1,f2,_⟩:=hf p.1 hb
    obtain⟨o,e',d⟩:=ho p.1 hb
    rw[e]at e';cases e'
    exact⟨e,f0,f1,f2,d⟩
theorem Inv.unpinned {pins pl:List (Addr×Obj)}{σ:St}{H:Hp}{s:eS}(I:Inv X (pins++pl) σ H s):Inv X pins σ H s:=I.pins_of λp hp=>I.pin p (aD _ (aE _ hp))
theorem Q3 {iter : Expr}{body : List Stmt}{wi : TI}{g : TG}{tb : TS}{pos : Pos}(hp : PassesOwn (eY X.prog X.w) X.A X.env X.xe)(hc : X.calm = true)(hi : PI X tg iter wi)(hg : PG X tg g)(hb : PSs X body tb)
    (hs:∀x,foldedSetIterable iter X.env x=pure x:=by intro _;rfl):PS X (.For tg iter body [] pos) (xc9 wi g tb):=by
  intro pins s σ H D I h
  refine wpAny_For (thn (hi pins s σ H _ I h) λv s1 h1=>thn h1 λitv s2 h2=>?_) hs
  obtain⟨it,fp,tn,J,H2,e,I2,T,st2,f2,W,⟨m0,w0⟩,turn⟩:=h2
  subst e
  have stat:∀{H':Hp},(∀b∈fp,H' b=none)->∀b∈fp,G8 X pins H' b:=λhn b hb=>⟨hn b hb,(f2 b hb).2⟩
  refine codeAny_forLoop_any (λn s'=>∃i σ' H',Inv X pins σ' H' s'/\tn i s'.heap/\(∀b∈fp,H' b=none)/\W i n σ' H') ?_ m0 ⟨0,σ,H2,I2,st2,λb hb=>(f2 b hb).1,w0⟩
  rintro n s3 ⟨i,σ3,H3,I3,st3,fr3,w3⟩
  rcases turn i n σ3 H3 w3 with⟨stop,qn⟩|⟨go,N,hN,step⟩
  . refine wpAny_passesOwn hp (thn (T.done X rfl rfl rfl hc i pins s3 σ3 H3 X.xe I3 (stat fr3) st3 stop) λr s4 ⟨hr, I4⟩ => ?_)
    subst hr
    exact wpAny_execs_nil ⟨σ3,H3,I4,qn⟩
  . refine wpAny_passesOwn hp (thn (T.item X rfl rfl rfl hc i pins s3 σ3 H3 X.xe I3 (stat fr3) st3 go) λr s4 ⟨u, hr, h4⟩ => ?_)
    subst hr
    refine wpAny_passesOwn hp (thn h4 λ_ s5 ⟨x,H5,I5,r5,y5,st5,fr5⟩=>?_)
    have I5':=I5.pinned (stat fr5) (T.obj _ _ st5)
    refine wpAny_passesOwn hp (thn (hg _ s5 σ3 H5 x u _ I5' r5 (step x H5 y5)) λ_ s6 ⟨σ6,H6,I6,q6⟩=>?_)
    refine wpAny_passesOwn hp (thn (hb _ s6 σ6 H6 _ I6 q6) λf s7 q7=>?_)
    have again:∀{σ7:St} {H7:Hp},Inv X (pins++zh1 fp s5.heap) σ7 H7 s7->N σ7 H7->∃m,m<n/\∃i σ' H',Inv X pins σ' H' s7/\tn i s7.heap/\(∀b∈fp,H' b=none)/\W i m σ' H':=λ{σ7 H7} I7 n7=>by
      obtain⟨m',hm,w7⟩:=hN σ7 H7 n7
      refine⟨m',hm,i+1,σ7,H7,I7.unpinned,T.keep _ _ _ st5 λb hb o e=>(I7.pin (b,o) (aD _ (aD _ (V9 hb e)))).1,λb hb=>?_,w7⟩
      obtain⟨o,e,d⟩:=T.obj _ _ st5 b hb
      exact(I7.pin (b,o) (aD _ (aD _ (V9 hb e)))).2.1
    cases f with
    | next=>obtain⟨σ7,H7,I7,n7⟩:=q7;exact again I7 n7
    | cont=>obtain⟨σ7,H7,I7,n7⟩:=q7;exact again I7 n7
    | brk=>obtain⟨σ7,H7,I7,q7⟩:=q7;exact⟨σ7,H7,I7.unpinned,q7⟩
    | ret v=>obtain⟨x7,σ7,H7,I7,r7,q7⟩:=q7;exact⟨x7,σ7,H7,I7.unpinned,r7,q7⟩
end
theorem O6 {K : PySem.W.Frag}{a : Addr}{xs : List V}{g : TG}{tb : TS}{D : zn3}{σ : St}{H : Hp}(Pv : Nat -> St -> Hp -> Prop)(h0 : Pv 0 σ H)(hl : ∀i σ H, i <= xs.length -> Pv i σ H -> SqL K H a xs)
    (hs:∀i x σ H,xs[i]?=some x->Pv i σ H->g x σ H λσ2 H2=>tb { D with nx:=Pv (i+1),ct:=Pv (i+1),bk:=D.nx } σ2 H2) (hd:∀σ H,Pv xs.length σ H->D.nx σ H) :
    ∃W:Nat->Nat->St->Hp->Prop,(∃m,W 0 m σ H)/\∀i m σ H,W i m σ H ->
      ((Itl K a).stop i H/\D.nx σ H)∨((Itl K a).go i H/\∃N:St->Hp->Prop,(∀σ' H',N σ' H'->∃m',m'<m/\W (i+1) m' σ' H')/\∀x H',(Itl K a).yld i H x H'->g x σ H' λσ2 H2=>tb { D with nx:=N,ct:=N,bk:=D.nx } σ2 H2):=by
  refine⟨λi m σ H=>m=xs.length-i/\i<=xs.length/\Pv i σ H,⟨xs.length,by simp,aV _,h0⟩,?_⟩
  rintro i m σ H ⟨rfl,hi,p⟩
  have q:=hl i σ H hi p
  by_cases hlt:i<xs.length
  . refine .inr ⟨⟨xs, xs[i], q, by simp[hlt]⟩, Pv (i+1), λσ' H' p' => ⟨xs.length-(i+1), by lia, rfl, hlt, p'⟩, λx H' y => ?_⟩
    obtain⟨e,y⟩:=y
    subst e
    exact hs i x σ _ (y xs q) p
  . have e : i = xs.length := by lia
    subst e
    exact .inl ⟨⟨xs,q,aq _⟩,hd σ H p⟩
theorem zl9 {lo : Int}{n : Nat}{g : TG}{tb : TS}{D : zn3}{σ : St}{H : Hp}(Pv : Nat -> St -> Hp -> Prop)(h0 : Pv 0 σ H)
    (hs:∀i σ H,i<n->Pv i σ H->g (.int (lo+i)) σ H λσ2 H2=>tb { D with nx:=Pv (i+1),ct:=Pv (i+1),bk:=D.nx } σ2 H2) (hd:∀σ H,Pv n σ H->D.nx σ H) :
    ∃W:Nat->Nat->St->Hp->Prop,(∃m,W 0 m σ H)/\∀i m σ H,W i m σ H ->
      ((Itr lo n).stop i H/\D.nx σ H)∨((Itr lo n).go i H/\∃N:St->Hp->Prop,(∀σ' H',N σ' H'->∃m',m'<m/\W (i+1) m' σ' H')/\∀x H',(Itr lo n).yld i H x H'->g x σ H' λσ2 H2=>tb { D with nx:=N,ct:=N,bk:=D.nx } σ2 H2):=by
  refine⟨λi m σ H=>m=n-i/\i<=n/\Pv i σ H,⟨n,by simp,aV _,h0⟩,?_⟩
  rintro i m σ H ⟨rfl,hi,p⟩
  by_cases hlt:i<n
  . refine .inr ⟨hlt, Pv (i+1), λσ' H' p' => ⟨n-(i+1), by lia, rfl, hlt, p'⟩, λx H' y => ?_⟩
    obtain⟨e,y⟩:=y
    subst e y
    exact hs i σ _ hlt p
  . have e : i = n := by lia
    subst e
    exact .inl ⟨aq _,hd σ H p⟩
abbrev R2:=V->V->Hp->VK->Prop
def OpR (X:Cx)(f:Value->Value->Sem Value)(r:R2):Prop :=
  ∀(pins:List (Addr×Obj)) (s:eS) (σ:St) (H:Hp) (x y:V) (v u:Value) (Q:VK),Inv X pins σ H s->u0 x v->u0 y u->r x y H Q ->
    eW (eY X.prog X.w) X.A (f v u) (EP X pins σ Q) X.xe s
def UnR (X:Cx)(f:Value->Sem Value)(r:V->Hp->VK->Prop):Prop :=
  ∀(pins:List (Addr×Obj)) (s:eS) (σ:St) (H:Hp) (x:V) (v:Value) (Q:VK),Inv X pins σ H s->u0 x v->r x H Q ->
    eW (eY X.prog X.w) X.A (f v) (EP X pins σ Q) X.xe s
def U7 (X:Cx)(f:Value)(r:List V->Hp->VK->Prop):Prop :=
  ∀(pins:List (Addr×Obj)) (s:eS) (σ:St) (H:Hp) (xs:List V) (us:List Value) (Q:VK),Inv X pins σ H s->v9 xs us->r xs H Q ->
    eW (eY X.prog X.w) X.A (call f us) (EP X pins σ Q) X.xe s
def tOp (r:R2)(ta tb:TE):TE:=λσ H Q=>ta σ H λx H1=>tb σ H1 λy H2=>r x y H2 Q
def tUn (r:V->Hp->VK->Prop)(ta:TE):TE:=λσ H Q=>ta σ H λx H1=>r x H1 Q
def rI (C:Int->Int->Prop)(g:Int->Int->V):R2:=λx y H Q=>∃i j,x=.int i/\y=.int j/\C i j/\Q (g i j) H
def rI0 (g:Int->Int->V):R2:=λx y H Q=>∃i j,x=.int i/\y=.int j/\Q (g i j) H
def rU (g:Int->V):V->Hp->VK->Prop:=λx H Q=>∃i,x=.int i/\Q (g i) H
section
variable {X:Cx}{a b c:Expr}{ta tb tc:TE}{pos:Pos}
theorem yv6 (ha : PE X a ta)(hb : PE X b tb){pins : List (Addr×Obj)}{s : eS}{σ : St}{H : Hp}{R : V -> V -> Hp -> Prop}(I : Inv X pins σ H s)
    (h:ta σ H λx H1=>tb σ H1 λy H2=>R x y H2) {Q:Value->eS->Prop} {f:Value->Value->Sem Value}
    (hf:∀v u s2 x y H2,Inv X pins σ H2 s2->u0 x v->u0 y u->R x y H2->eW (eY X.prog X.w) X.A (f v u) Q X.xe s2) :
    eW (eY X.prog X.w) X.A (eval a X.env) (λv s₁=>eW (eY X.prog X.w) X.A (eval b X.env) (λu s₂=>eW (eY X.prog X.w) X.A (f v u) Q X.xe s₂) X.xe s₁) X.xe s:=by
  refine thn (ha pins s σ H _ I h) λv s1 ⟨x,H1,I1,r1,q1⟩=>?_
  refine thn (hb pins s1 σ H1 _ I1 q1) λu s2 ⟨y,H2,I2,r2,q2⟩=>?_
  exact hf v u s2 x y H2 I2 r1 r2 q2
theorem w8 {op:Operator}{r:R2}(ho:OpR X (binaryOp op) r)(ha:PE X a ta)(hb:PE X b tb):PE X (.BinOp a op b pos) (tOp r ta tb):=by
  intro pins s σ H Q I h
  exact wpAny_BinOp (yv6 ha hb I h λv u s2 x y H2 I2 rx ry q=>ho pins s2 σ H2 x y v u Q I2 rx ry q)
theorem zg9 {op:UnaryOp}{r:V->Hp->VK->Prop}(ho:UnR X (unaryOp op) r)(ha:PE X a ta):PE X (.UnaryOp op a pos) (tUn r ta):=by
  intro pins s σ H Q I h
  exact UnaryOp_ (thn (ha pins s σ H _ I h) λv s1 ⟨x,H1,I1,r1,q1⟩=>ho pins s1 σ H1 x v Q I1 r1 q1)
theorem opI {f : Value -> Value -> Sem Value}{C : Int -> Int -> Prop}{g : Int -> Int -> Int}
    (rule:∀(i j:Int) (t u:Tok) (s:eS) (Q:Value->eS->Prop) (E:Value->eS->Prop),C i j->Q (.int (g i j) s.toks) { s with toks:=s.toks+1 }->eW (eY X.prog X.w) X.A (f (.int i t) (.int j u)) Q E s) :
    OpR X f (rI C λi j=>.int (g i j)):=by
  intro pins s σ H x y v u Q I rx ry h
  obtain⟨i,j,rfl,rfl,hc,q⟩:=h
  obtain⟨t,rfl⟩:=rx
  obtain⟨t',rfl⟩:=ry
  exact rule i j t t' s _ _ hc ⟨.int (g i j),H,I.tok _,⟨_,rfl⟩,q⟩
theorem yy0 {f : Value -> Value -> Sem Value}{g : Int -> Int -> Int}
    (rule:∀(i j:Int) (t u:Tok) (s:eS) (Q:Value->eS->Prop) (E:Value->eS->Prop),Q (.int (g i j) s.toks) { s with toks:=s.toks+1 }->eW (eY X.prog X.w) X.A (f (.int i t) (.int j u)) Q E s) :
    OpR X f (rI0 λi j=>.int (g i j)):=by
  intro pins s σ H x y v u Q I rx ry h
  obtain⟨i,j,rfl,rfl,q⟩:=h
  obtain⟨t,rfl⟩:=rx
  obtain⟨t',rfl⟩:=ry
  exact rule i j t t' s _ _ ⟨.int (g i j),H,I.tok _,⟨_,rfl⟩,q⟩
theorem ys2 {f : Value -> Value -> Sem Value}{g : Int -> Int -> Bool}
    (rule:∀(i j:Int) (t u:Tok) (s:eS) (Q:Value->eS->Prop) (E:Value->eS->Prop),Q (.bool (g i j)) s->eW (eY X.prog X.w) X.A (f (.int i t) (.int j u)) Q E s) :
    OpR X f (rI0 λi j=>.bl (g i j)):=by
  intro pins s σ H x y v u Q I rx ry h
  obtain⟨i,j,rfl,rfl,q⟩:=h
  obtain⟨t,rfl⟩:=rx
  obtain⟨t',rfl⟩:=ry
  exact rule i j t t' s _ _ ⟨.bl (g i j),H,I,rfl,q⟩
def xa0 (i j:Int):Prop:=0<j/\j<1073741824
def yq4 (i j:Int):Prop:=0<=j/\j<=1000000/\i.natAbs<2 ^ 64
def yq3 (i j:Int):Prop:=(-(2 ^ 64)<i/\i<2 ^ 64)∨(-(2 ^ 64)<j/\j<2 ^ 64)
theorem yq3.ok {i j:Int}(h:yq3 i j):IntMulOk i j:=by
  rcases h with⟨h1,h2⟩|⟨h1,h2⟩
  . exact .of_left (intBits_le_64 h1 h2)
  . exact .of_right (intBits_le_64 h1 h2)
theorem Q1:OpR X (binaryOp .Add) (rI0 λi j=>.int (i+j)):=yy0 λ_ _ _ _ _ _ _ q=>add_int q
theorem zg7:OpR X (binaryOp .Sub) (rI0 λi j=>.int (i-j)):=yy0 λ_ _ _ _ _ _ _ q=>sub_int q
theorem B4:OpR X (binaryOp .Mult) (rI yq3 λi j=>.int (i*j)):=opI λ_ _ _ _ _ _ _ hc q=>mul_int q hc.ok
theorem X8:OpR X (binaryOp .FloorDiv) (rI xa0 λi j=>.int (i / j)):=opI λi j _ _ _ _ _ hc q=>by
  have h1:(0:Int)<j:=hc.1
  have h2:j<1073741824:=hc.2
  exact floordiv_int (by lia) (by rw[dI i (by lia)];exact q) (.inl (PyProof.noPylong_small (by lia)))
theorem p8:OpR X (binaryOp .Mod) (rI (λ_ j=>0<j) λi j=>.int (i % j)):=opI λi j _ _ _ _ _ hc q=>by
  have h1:(0:Int)<j:=hc
  exact mod_int' (by lia) (by rw[dH i (by lia)];exact q)
theorem J7:OpR X (binaryOp .Pow) (rI yq4 λi j=>.int (i ^ j.toNat)):=opI λ_ _ _ _ _ _ _ hc q=>pow_int_small hc.1 hc.2.1 hc.2.2 q
theorem yr4:OpR X (inplaceOp .Add) (rI0 λi j=>.int (i+j)):=yy0 λ_ _ _ _ _ _ _ q=>iadd_int q
theorem unI {f : Value -> Sem Value}{g : Int -> Int}
    (rule:∀(i:Int) (t:Tok) (s:eS) (Q:Value->eS->Prop) (E:Value->eS->Prop),Q (.int (g i) s.toks) { s with toks:=s.toks+1 }->eW (eY X.prog X.w) X.A (f (.int i t)) Q E s) :
    UnR X f (rU λi=>.int (g i)):=by
  intro pins s σ H x v Q I rx h
  obtain⟨i,rfl,q⟩:=h
  obtain⟨t,rfl⟩:=rx
  exact rule i t s _ _ ⟨.int (g i),H,I.tok _,⟨_,rfl⟩,q⟩
theorem G7:UnR X (unaryOp .USub) (rU λi=>.int (-i)):=unI λ_ _ _ _ _ q=>neg_int q
end
def xc2 : V -> V -> Bool
  | .non,.non=>true | .non,.int _=>true | .int _,.non=>true | .non,.bl _=>true | .bl _,.non=>true | .non,.str _=>true | .str _,.non=>true
  | .int _,.int _=>true | .bl _,.bl _=>true | .str _,.str _=>true | .byt _,.byt _=>true
  | .int _,.str _=>true | .str _,.int _=>true | .bl _,.str _=>true | .str _,.bl _=>true
  | _,_=>false
def rEq:R2:=λx y H Q=>xc2 x y=true/\Q (.bl (decide (x=y))) H
def rNe:R2:=λx y H Q=>xc2 x y=true/\Q (.bl (!decide (x=y))) H
theorem ya6 {i j:Int}:decide (V.int i=V.int j)=(i==j):=by
  rw[cP]
  simp
theorem yj6 {i j:Bool}:decide (V.bl i=V.bl j)=(i==j):=by
  rw[cP]
  simp
theorem ya7 {i j:Str}:decide (V.str i=V.str j)=(i==j):=by
  rw[cP]
  simp
theorem ya5 {i j:Array UInt8}:decide (V.byt i=V.byt j)=(i.toList==j.toList):=by
  rw[cP]
  cases i
  cases j
  simp
section
variable {X:Cx}{a b c:Expr}{ta tb tc:TE}{pos:Pos}
theorem u8 {pins:List (Addr×Obj)}{σ:St}{H:Hp}{s:eS}{Q:VK}{k k':Bool}(I:Inv X pins σ H s)(q:Q (.bl k) H)(e:k=k'):EP X pins σ Q (.bool k') s:=by
  subst e
  exact⟨.bl k,H,I,rfl,q⟩
theorem W2:OpR X (compareOp .Eq) rEq:=by
  intro pins s σ H x y v u Q I rx ry h
  obtain⟨hs,q⟩:=h
  cases x with
  | non =>
    cases rx
    cases y with
    | non=>cases ry;exact PySem.EqNone.eq_none_none (u8 I q (by simp))
    | bl j=>cases ry;exact PySem.EqNone.eq_none_bool (u8 I q (by simp))
    | int j=>obtain⟨t',rfl⟩:=ry;exact PySem.EqNone.eq_none_int (u8 I q (by simp))
    | str j=>obtain⟨t',rfl⟩:=ry;exact PySem.EqNone.eq_none_str (u8 I q (by simp))
    | _=>exact absurd (show false=true from hs) aJ
  | bl i =>
    cases rx
    cases y with
    | non=>cases ry;exact PySem.EqNone.eq_bool_none (u8 I q (by simp))
    | bl j=>cases ry;exact eq_bool (u8 I q yj6)
    | str j=>obtain⟨t',rfl⟩:=ry;exact PySem.EqMixed.eq_bool_str (u8 I q (by simp))
    | _=>exact absurd (show false=true from hs) aJ
  | int i =>
    obtain⟨t,rfl⟩:=rx
    cases y with
    | non=>cases ry;exact PySem.EqNone.eq_int_none (u8 I q (by simp))
    | int j=>obtain⟨t',rfl⟩:=ry;exact eq_int (u8 I q ya6)
    | str j=>obtain⟨t',rfl⟩:=ry;exact PySem.EqMixed.eq_int_str (u8 I q (by simp))
    | _=>exact absurd (show false=true from hs) aJ
  | str i =>
    obtain⟨t,rfl⟩:=rx
    cases y with
    | non=>cases ry;exact PySem.EqNone.eq_str_none (u8 I q (by simp))
    | bl j=>cases ry;exact PySem.EqMixed.eq_str_bool (u8 I q (by simp))
    | int j=>obtain⟨t',rfl⟩:=ry;exact PySem.EqMixed.eq_str_int (u8 I q (by simp))
    | str j=>obtain⟨t',rfl⟩:=ry;exact eq_str (u8 I q ya7)
    | _=>exact absurd (show false=true from hs) aJ
  | byt i =>
    obtain⟨t,rfl⟩:=rx
    cases y with
    | byt j=>obtain⟨t',rfl⟩:=ry;exact W.eq_bytes (u8 I q ya5)
    | _=>exact absurd (show false=true from hs) aJ
  | _=>cases y <;> exact absurd (show false=true from hs) aJ
theorem zg6:OpR X (compareOp .NotEq) rNe:=by
  intro pins s σ H x y v u Q I rx ry h
  obtain⟨hs,q⟩:=h
  cases x with
  | non =>
    cases rx
    cases y with
    | non=>cases ry;exact PySem.EqNone.ne_none_none (u8 I q (by simp))
    | bl j=>cases ry;exact PySem.EqNone.ne_none_bool (u8 I q (by simp))
    | int j=>obtain⟨t',rfl⟩:=ry;exact PySem.EqNone.ne_none_int (u8 I q (by simp))
    | str j=>obtain⟨t',rfl⟩:=ry;exact PySem.EqNone.ne_none_str (u8 I q (by simp))
    | _=>exact absurd (show false=true from hs) aJ
  | bl i =>
    cases rx
    cases y with
    | non=>cases ry;exact PySem.EqNone.ne_bool_none (u8 I q (by simp))
    | bl j=>cases ry;exact ne_bool (u8 I q (congrArg not yj6))
    | str j=>obtain⟨t',rfl⟩:=ry;exact PySem.EqMixed.ne_bool_str (u8 I q (by simp))
    | _=>exact absurd (show false=true from hs) aJ
  | int i =>
    obtain⟨t,rfl⟩:=rx
    cases y with
    | non=>cases ry;exact PySem.EqNone.ne_int_none (u8 I q (by simp))
    | int j=>obtain⟨t',rfl⟩:=ry;exact ne_int (u8 I q (congrArg not ya6))
    | str j=>obtain⟨t',rfl⟩:=ry;exact PySem.EqMixed.ne_int_str (u8 I q (by simp))
    | _=>exact absurd (show false=true from hs) aJ
  | str i =>
    obtain⟨t,rfl⟩:=rx
    cases y with
    | non=>cases ry;exact PySem.EqNone.ne_str_none (u8 I q (by simp))
    | bl j=>cases ry;exact PySem.EqMixed.ne_str_bool (u8 I q (by simp))
    | int j=>obtain⟨t',rfl⟩:=ry;exact PySem.EqMixed.ne_str_int (u8 I q (by simp))
    | str j=>obtain⟨t',rfl⟩:=ry;exact ne_str (u8 I q (congrArg not ya7))
    | _=>exact absurd (show false=true from hs) aJ
  | byt i =>
    obtain⟨t,rfl⟩:=rx
    cases y with
    | byt j=>obtain⟨t',rfl⟩:=ry;exact W.ne_bytes (u8 I q (congrArg not ya5))
    | _=>exact absurd (show false=true from hs) aJ
  | _=>cases y <;> exact absurd (show false=true from hs) aJ
theorem yn3:OpR X (compareOp .Lt) (rI0 λi j=>.bl (decide (i<j))):=ys2 λ_ _ _ _ _ _ _ q=>lt_int q
theorem yc2:OpR X (compareOp .LtE) (rI0 λi j=>.bl (decide (i<=j))):=ys2 λ_ _ _ _ _ _ _ q=>le_int q
theorem yn1:OpR X (compareOp .Gt) (rI0 λi j=>.bl (decide (j<i))):=ys2 λ_ _ _ _ _ _ _ q=>gt_int q
theorem xb6:OpR X (compareOp .GtE) (rI0 λi j=>.bl (decide (j<=i))):=ys2 λ_ _ _ _ _ _ _ q=>ge_int q
theorem ys3:OpR X (compareOp .IsNot) (λx y H Q=>y=.non/\Q (.bl (!decide (x=.non))) H):=by
  intro pins s σ H x y v u Q I rx ry h
  obtain⟨rfl,q⟩:=h
  cases ry
  refine isnot_none_gen (u8 I q ?_)
  cases x <;> first
    | (cases rx;rfl)
    | (obtain⟨t,rfl⟩:=rx;rfl)
theorem u3 (b:Expr){op:CmpOp}(h:op≠.In:=by decide)(h2:op≠.NotIn:=by decide):behindInMarks op b=false:=by
  have e1:(op==CmpOp.In)=false:=by cases op <;> first|rfl|exact absurd rfl h
  have e2:(op==CmpOp.NotIn)=false:=by cases op <;> first|rfl|exact absurd rfl h2
  cases b <;> simp[behindInMarks,e1,e2]
theorem l7 {op:CmpOp}{r:R2}(ho:OpR X (compareOp op) r)(ha:PE X a ta)(hb:PE X b tb)(hm:behindInMarks op b=false):PE X (.Compare a [op] [b] pos) (tOp r ta tb):=by
  intro pins s σ H Q I h
  exact wpAny_Compare1 (yv6 ha hb I h λv u s2 x y H2 I2 rx ry q=>ho pins s2 σ H2 x y v u Q I2 rx ry q) hm
def yv2 (t:TE):TT:=λσ H Q=>t σ H λx H'=>∃k,x=.bl k/\Q k H'
theorem p6 {op:CmpOp}{r:R2}(ho:OpR X (compareOp op) r)(ha:PE X a ta)(hb:PE X b tb)(hm:behindInMarks op b=false):PT X (.Compare a [op] [b] pos) (yv2 (tOp r ta tb)):=by
  intro pins s σ H Q I h
  refine wpAny_isTrue_Compare1 (thn (ha pins s σ H _ I h) λv s1 ⟨x,H1,I1,r1,q1⟩=>thn (hb pins s1 σ H1 _ I1 q1) λu s2 ⟨y,H2,I2,r2,q2⟩ =>
    thn (ho pins s2 σ H2 x y v u _ I2 r1 r2 q2) λc s3 ⟨z,H3,I3,r3,k,e,q3⟩=>?_) hm
  subst e
  cases r3
  exact wpAny_truthy_bool ⟨H3,I3,q3⟩
def yz5 (r r':R2)(ta tb tc:TE):TE:=λσ H Q=>ta σ H λx H1=>tb σ H1 λy H2=>r x y H2 λz H3=>∃k,z=.bl k /\
  (if k=true then tc σ H3 λw' H4=>r' y w' H4 Q else Q (.bl false) H3)
theorem zu4 {op op' : CmpOp}{r r' : R2}(ho : OpR X (compareOp op) r)(ho' : OpR X (compareOp op') r')(ha : PE X a ta)(hb : PE X b tb)(hc : PE X c tc)
    (hm:lastMarks [op,op'] [b,c]=false:=by with_unfolding_all rfl):PT X (.Compare a [op,op'] [b,c] pos) (yv2 (yz5 r r' ta tb tc)):=by
  intro pins s σ H Q I h
  refine isTrue_chain (thn (ha pins s σ H _ I h) λv s1 ⟨x,H1,I1,r1,q1⟩=>test_link (thn (hb pins s1 σ H1 _ I1 q1) λu s2 ⟨y,H2,I2,r2,q2⟩ =>
    thn (ho pins s2 σ H2 x y v u _ I2 r1 r2 q2) λd s3 ⟨z,H3,I3,r3,k,e,q3⟩=>?_)) hm
  subst e
  cases r3
  refine wpAny_truthy_bool ?_
  cases k with
  | false =>
    obtain⟨k',e',q'⟩:=q3
    cases e'
    exact ite_ff ⟨H3,I3,q'⟩
  | true =>
    refine ite_tt (test_last (thn (hc pins s3 σ H3 _ I3 q3) λw' s4 ⟨z',H4,I4,r4,q4⟩=>thn (ho' pins s4 σ H4 y z' u w' _ I4 r2 r4 q4) λd' s5 ⟨z2,H5,I5,r5,k2,e2,q5⟩=>?_))
    subst e2
    cases r5
    exact wpAny_truthy_bool ⟨H5,I5,q5⟩
theorem zo7:(eU:Nat)<2 ^ 63:=by rw[sizeLine_eq];decide
theorem C1 {x:V}{us:List Value}(r:v9 [x] us):∃u,us=[u]/\u0 x u:=by
  cases r with
  | cons r1 r2=>cases r2;exact⟨_,rfl,r1⟩
theorem yq2 {x y:V}{us:List Value}(r:v9 [x,y] us):∃u w',us=[u,w']/\u0 x u/\u0 y w':=by
  cases r with
  | cons r1 r2 =>
    cases r2 with
    | cons r3 r4=>cases r4;exact⟨_,_,rfl,r1,r3⟩
theorem ye9 (hc:X.calm=true):U7 X (.builtin "min") (λxs H Q=>∃i j,xs=[.int i,.int j]/\Q (.int (if j<i then j else i)) H):=by
  intro pins s σ H xs us Q I r h
  obtain⟨i,j,rfl,q⟩:=h
  obtain⟨u,w',rfl,⟨t,rfl⟩,⟨t',rfl⟩⟩:=yq2 r
  refine min_two_ints (I.ok.hd hc) λh' tk k=>⟨_,H,I.kept k,?_,q⟩
  by_cases hj:j<i
  . rw[if_pos hj,if_pos hj];exact⟨_,rfl⟩
  . rw[if_neg hj,if_neg hj];exact⟨_,rfl⟩
theorem zs0:U7 X (.builtin "divmod") (λxs H Q=>∃i j,xs=[.int i,.int j]/\xa0 i j/\∀p,H p=none->Q (.ref p) (upd H p (.tup [.int (i / j),.int (i % j)]))):=by
  intro pins s σ H xs us Q I r h
  obtain⟨i,j,rfl,⟨h1,h2⟩,q⟩:=h
  obtain⟨u,w',rfl,⟨t,rfl⟩,⟨t',rfl⟩⟩:=yq2 r
  refine divmod_int (by lia) ?_ (.inl (PyProof.noPylong_small (by lia)))
  rw[dI i (by lia),dH i (by lia)]
  have hn:H s.heap.objs.size=none:=I.hok.fresh (aq _)
  refine⟨.ref s.heap.objs.size,_,?_,rfl,q _ hn⟩
  refine I.laid (λb o e=>ar _ e) (aq _) ⟨by simp only[aQ,cO];rw[sizeLine_eq];decide,[.int (i / j) s.toks,.int (i % j) (s.toks+1)],.cons ⟨_,rfl⟩ (.cons ⟨_,rfl⟩ .nil),?_⟩
  exact⟨_,aC s.heap rfl,rfl,0,rfl,rfl⟩
end
structure zw2 (h:Heap) (x dx C:Addr) (mA:Str->Option Value):Prop where
  obj:h.get? x=some (W.instObj C dx)
  ns:h.Ns1 dx mA
  ne:dx≠x
theorem yg6 {h:Heap}{dx:Addr}{mA:Str->Option Value}(n:h.Ns1 dx mA):∃od,h.get? dx=some od/\∀name,W.lookIn name od=some (mA name):=by
  obtain⟨o,es,ep,ho,hd,hk,_,hm⟩:=n
  refine⟨o,ho,λname=>?_⟩
  have e:=hm name
  unfold nsFind findBy at e
  rw[←Array.find?_toList]at e
  unfold W.lookIn
  rw[hd]
  dsimp only
  split
  . rename_i y q
    rw[q]at e
    exact congrArg some e
  . rename_i q
    rw[q]at e
    have a:es.toList.any (·.refKey)=false:=by
      rw[List.any_eq_false]
      intro y hy
      obtain⟨z,t,hkey⟩:=hk y (Array.mem_toList_iff.mp hy)
      simp[DictEntry.refKey,hkey]
    have a':¬es.toList.any (·.refKey)=true:=by rw[a];exact aJ
    rw[if_neg a']
    exact congrArg some e
theorem zw2.look {h:Heap}{x dx C:Addr}{mA:Str->Option Value}(I:zw2 h x dx C mA):∃od,W.InstAt h x (W.instObj C dx) C (some od)/\∀name,W.lookIn name od=some (mA name) :=
  let ⟨od,ho,hl⟩:=yg6 I.ns
  ⟨od,⟨I.obj,rfl,rfl,ho⟩,hl⟩
section
variable {prog:eV}{w:eZ}{A:fc}{E:Value->eS->Prop}{s:eS}{K:W.Frag}{x dx C f:Addr}{mA:Str->Option Value}{name:Str}{v:Value}
theorem yr2 {expr : Bool}{Q : Value -> eS -> Prop}(X : K.In s.heap)(I : zw2 s.heap x dx C mA)(hg : W.plainGet K C name = true)(hh : W.hasDictIn K C = true)
    (ha:W.findIn K (.ref C) name=some none) (hv:mA name=some v) (hv':W.handedIn v=true) (h:Q v { s with toks:=s.toks+1 }) :
    eW (eY prog w) A (getAttr (.ref x) name expr) Q E s:=by
  obtain⟨od,J,hl⟩:=I.look
  exact W.get_value X J (W.plainGet_of hg).1 (W.findObj_own hh ha rfl (by rw[hl,hv])) hv' h
theorem yk6 {pl : Sem Bool}{Q : Value×List Value -> eS -> Prop}(X : K.In s.heap)(I : zw2 s.heap x dx C mA)(hg : W.plainGet K C name = true)
    (hf:W.findIn K (.ref C) name=some (some (.ref f))) (ht:W.isFn K (.ref f)=true) (hv:mA name=none) (h:Q (.ref f,[.ref x]) s) :
    eW (eY prog w) A (getMethod (.ref x) name pl) Q E s:=by
  obtain⟨od,J,hl⟩:=I.look
  exact W.method_fn X J (W.plainGet_of hg).1 (W.plainGet_of hg).2 hf (beq_iff_eq.mp ht) (by show(W.lookIn name od).map (·.isSome)=some false;rw[hl,hv];rfl) h
theorem yt7 {ns : List Str}{Q : Unit -> eS -> Prop}(X : K.In s.heap)(I : zw2 s.heap x dx C mA)
    (hs:W.findIn K (.ref C) "__setattr__"=some (some (.builtin "object.__setattr__"))) (hp:W.plainOver K C=true) (ht:W.takerIn K C name=some none) (hh:W.hasDictIn K C=true)
    (hw:PySem.Within mA ns) (hsz:ns.length<=eU)
    (h:∀h',zw2 h' x dx C (λy=>if y=name then some v else mA y)->Heap.SameBut dx s.heap h'->Q () { s with heap:=h',toks:=s.toks+2 }) :
    eW (eY prog w) A (setAttr (.ref x) name v) Q E s:=by
  obtain⟨od,J,hl⟩:=I.look
  refine W.set_plain X J hs (W.osa_open (s:={ s with toks:=s.toks+1 }) (r:=none) X J hp ht λb=>?_)
  obtain⟨cd,hc,hd'⟩:=W.any_some hh
  have hx:s.heap.get? x=some ⟨.ref C,some dx,.plain,#[]⟩:=I.obj
  refine eR (eT (eR (eR (wpAny_loadPart hx (eR (W.Looks.here (s:={ s with toks:=s.toks+1 }) (W.looks_clsIn X hc) ?_))))))
  rw[hd']
  refine eT (a:=some dx) (eR (eT (eR ?_)))
  refine wpAny_nsSet1 (s:={ s with toks:=s.toks+1 }) I.ns λh' hn2 hs2=>?_
  obtain⟨oD,esD,epD,hoD,hdD,hcD⟩:=hn2.count (PySem.Within.cons name v hw)
  refine eR (wpAny_lookBehind hoD (by rw[hdD];exact pastItsLine_dict (aX hcD (by rw[aQ];lia))) ?_)
  exact eT (h _ ⟨(hs2.2 _ (Ne.symm I.ne)).trans I.obj,hn2,I.ne⟩ hs2)
theorem yl5 {R : Result -> eS -> Prop}{vs : List Value}{kw : List (Str×Value)}(X : K.In s.heap)(hm : W.makesIn K C = true)
    (hi:W.findIn K (.ref C) "__init__"=some (some (.ref f))) (hf:W.typeIn K (.ref f)=some (.type "function"))
    (h : codeAny (eY prog w) (A.under (.builtin "type.__call__" ⟨.ref C::vs, kw⟩)) (.call (.ref f) ⟨.ref (s.heap.objs.size+1)::vs, kw⟩) (W.InitBack (s.heap.objs.size+1) R)
      { s with heap:=(s.heap.push W.emptyDict).push (W.instObj C s.heap.objs.size) }) :
    codeAny (eY prog w) A (.call (.ref C) ⟨vs,kw⟩) R s:=by
  obtain⟨hh,g,d,t,os⟩:=s
  exact W.make_core (W.makes_of X hm) (W.looks_findIn X hi) (λself=>W.bind_fn X self hf) (.inl rfl) h
end
def c5 (f : Str)(v : V) : List (Str×V) -> List (Str×V)
  | []=>[(f,v)]
  | (g,x)::r=>if g=f then(g,v)::r else(g,x)::c5 f v r
theorem za8 (f g : Str)(v : V) : ∀fs : List (Str×V), (c5 f v fs).lookup g = if g = f then some v else fs.lookup g
  | []=>by
    show List.lookup g [(f,v)]=_
    by_cases h:g=f
    . have hb : (g==f) = true := beq_iff_eq.mpr h
      simp only[List.lookup,hb,if_pos h]
    . have hb : (g==f) = false := beq_eq_false_iff_ne.mpr h
      simp only[List.lookup,hb,if_neg h]
  | (k,x)::r=>by
    have ih:=za8 f g v r
    rw[show c5 f v ((k,x)::r)=(if k=f then(k,v)::r else(k,x)::c5 f v r) from rfl]
    by_cases hk:k=f
    . rw[if_pos hk]
      by_cases h:g=k
      . have hb : (g==k) = true := beq_iff_eq.mpr h
        simp only[List.lookup,hb,if_pos (h.trans hk)]
      . have hb : (g==k) = false := beq_eq_false_iff_ne.mpr h
        simp only[List.lookup,hb,if_neg (λe:g=f=>h (e.trans hk.symm))]
    . rw[if_neg hk]
      by_cases h:g=k
      . have hb : (g==k) = true := beq_iff_eq.mpr h
        simp only[List.lookup,hb,if_neg (λe:g=f=>hk (h.symm.trans e))]
      . have hb : (g==k) = false := beq_eq_false_iff_ne.mpr h
        simp only[List.lookup,hb]
        exact ih
theorem B1 (f : Str)(v : V) : ∀fs : List (Str×V), f ∈ (c5 f v fs).map (·.1) /\ ∀g, g ∈ fs.map (·.1) -> g ∈ (c5 f v fs).map (·.1)
  | []=>⟨by simp[c5],λg h=>by simp at h⟩
  | (k,x)::r=>by
    obtain⟨i1,i2⟩:=B1 f v r
    rw[show c5 f v ((k,x)::r)=(if k=f then(k,v)::r else(k,x)::c5 f v r) from rfl]
    by_cases hk:k=f
    . rw[if_pos hk]
      subst hk
      exact⟨by simp,λg h=>by simpa using h⟩
    . rw[if_neg hk]
      refine⟨?_,λg h=>?_⟩
      . rw[aT]
        exact av _ i1
      . rw[aT]at h ⊢
        rcases au.mp h with e|e
        . exact au.mpr (.inl e)
        . exact av _ (i2 g e)
theorem za7 (f : Str)(v : V) : ∀fs : List (Str×V), (c5 f v fs).length <= fs.length+1
  | []=>by simp[c5]
  | (k,x)::r=>by
    have ih:=za7 f v r
    rw[show c5 f v ((k,x)::r)=(if k=f then(k,v)::r else(k,x)::c5 f v r) from rfl]
    by_cases hk:k=f
    . rw[if_pos hk,aQ,aQ];lia
    . rw[if_neg hk,aQ,aQ];lia
theorem K2.some_of {v:V}{o:Option Value}(r:K2 (some v) o):∃u,o=some u/\u0 v u:=by
  cases o with
  | none=>exact(show False from r).elim
  | some u=>exact⟨u,rfl,r⟩
theorem K2.none_of {o:Option Value}(r:K2 none o):o=none:=by
  cases o with
  | none=>rfl
  | some u=>exact(show False from r).elim
theorem yf6 {v:V}{u:Value}(r:u0 v u):W.handedIn u=true:=by
  cases v with
  | non=>cases (show u=Value.none from r);rfl
  | bl b=>cases (show u=Value.bool b from r);rfl
  | int i=>obtain⟨t,e⟩:=(show ∃t,u=Value.int i t from r);cases e;rfl
  | str x=>obtain⟨t,e⟩:=(show ∃t,u=Value.str x t from r);cases e;rfl
  | byt b=>obtain⟨t,e⟩:=(show ∃t,u=Value.bytes b t from r);cases e;rfl
  | flt b=>obtain⟨t,e⟩:=(show ∃t,u=Value.float b t from r);cases e;rfl
  | ref a=>cases (show u=Value.ref a from r);rfl
  | ty n=>cases (show u=Value.type n from r);rfl
section
variable {P:eV}{w:eZ}{H H':Hp}{h h':Heap}{a C dx:Addr}{fs fs':List (Str×V)}
theorem E4 (hok:HOk P w H h)(e:H a=some (.ins C dx fs)):∃mA,zw2 h a dx C mA/\(∀f,K2 (fs.lookup f) (mA f))/\PySem.Within mA (fs.map (·.1))/\fs.length<=1000/\H dx=some (.own a):=by
  obtain⟨d,z,ne,ob,mA,n,r,q⟩:=(show p9 P w H h a (.ins C dx fs) from hok a _ e)
  exact⟨mA,⟨ob,n,ne⟩,r,q,z,d⟩
end
structure Cls (K:W.Frag) (C:Addr):Prop where
  pg:W.plainGet K C Str.empty=true
  hd:W.hasDictIn K C=true
  po:W.plainOver K C=true
  sa:W.findIn K (.ref C) "__setattr__"=some (some (.builtin "object.__setattr__"))
theorem Cls.get {K:W.Frag}{C:Addr}(c:Cls K C)(f:Str):W.plainGet K C f=true:=c.pg
def O1 (K:W.Frag)(C:Addr)(f:Str):Prop:=W.findIn K (.ref C) f=some none
theorem O1.taker {K:W.Frag}{C:Addr}{f:Str}(n:O1 K C f):W.takerIn K C f=some none:=by
  unfold W.takerIn
  rw[show W.findIn K (.ref C) f=some none from n]
  rfl
structure yi7 (K:W.Frag) (C:Addr) (m:Str) (f:Addr):Prop where
  at_:W.findIn K (.ref C) m=some (some (.ref f))
  fn:W.isFn K (.ref f)=true
  kp:W.keepIn K (.ref f)=true
section
variable {X:Cx}{pins:List (Addr×Obj)}{σ:St}{H:Hp}{s:eS}{a C dx:Addr}{fs:List (Str×V)}{f:Str}{v:V}{A:fc}{E:Value->eS->Prop}
theorem zf1 {b : Bool}{Q : Value -> eS -> Prop}(I : Inv X pins σ H s)(e : H a = some (.ins C dx fs))(c : Cls X.K C)(n : O1 X.K C f)(l : fs.lookup f = some v)
    (h:∀u s',Inv X pins σ H s'->u0 v u->Q u s'):eW (eY X.prog X.w) A (getAttr (.ref a) f b) Q E s:=by
  obtain⟨mA,O,r,_,_,_⟩:=E4 I.hok e
  obtain⟨u,hu,ru⟩:=K2.some_of (v:=v) (o:=mA f) (by rw[←l];exact r f)
  exact yr2 I.kIn O (c.get f) c.hd n hu (yf6 ru) (h u _ (I.tok _) ru)
theorem zf2 {m : Str}{g : Addr}{pl : Sem Bool}{Q : Value×List Value -> eS -> Prop}(I : Inv X pins σ H s)(e : H a = some (.ins C dx fs))(c : Cls X.K C)(k : yi7 X.K C m g)(l : fs.lookup m = none)
    (h:Q (.ref g,[.ref a]) s):eW (eY X.prog X.w) A (getMethod (.ref a) m pl) Q E s:=by
  obtain⟨mA,O,r,_,_,_⟩:=E4 I.hok e
  have hn:mA m=none:=K2.none_of (by rw[←l];exact r m)
  exact yk6 I.kIn O (c.get m) k.at_ k.fn hn h
theorem zi2 {y : V}{u : Value}{Q : Unit -> eS -> Prop}(I : Inv X pins σ H s)(e : H a = some (.ins C dx fs))(c : Cls X.K C)(n : O1 X.K C f)(hl : fs.length<1000)(ry : u0 y u)
    (h:∀s',Inv X pins σ (upd H a (.ins C dx (c5 f y fs))) s'->Q () s'):eW (eY X.prog X.w) A (setAttr (.ref a) f u) Q E s:=by
  obtain⟨mA,O,r,wi,_,ho⟩:=E4 I.hok e
  have hz:(fs.map (·.1)).length<=eU:=by rw[aa,sizeLine_eq];lia
  refine yt7 I.kIn O c.sa c.po n.taker c.hd wi hz λh' O' sb=>h _ ?_
  have hd:∃o,h'.get? dx=some o:=let ⟨o,_,_,e',_⟩:=O'.ns;⟨o,e'⟩
  refine I.write (x:=a) (e:=dx) (by rw[e];exact True.intro) (.inr ho) (λb q hb z=>(sb.2 b hb).trans z) hd ?_
  refine⟨by rw[z5 O.ne];exact ho,?_,O.ne,O'.obj,_,O'.ns,λg=>?_,λg hg=>?_⟩
  . have:=za7 f y fs;lia
  . show K2 ((c5 f y fs).lookup g) (if g = f then some u else mA g)
    rw[za8]
    by_cases q:g=f
    . rw[if_pos q,if_pos q];exact ry
    . rw[if_neg q,if_neg q];exact r g
  . by_cases q : g = f
    . rw[q];exact(B1 f y fs).1
    . refine(B1 f y fs).2 g (wi g λz => hg ?_)
      show(if g=f then some u else mA g)=none
      rw[if_neg q];exact z
theorem Inv.made (I : Inv X pins σ H s) : Inv X pins σ (upd (upd H s.heap.objs.size (.own (s.heap.objs.size+1))) (s.heap.objs.size+1) (.ins C s.heap.objs.size []))
    { s with heap:=(s.heap.push W.emptyDict).push (W.instObj C s.heap.objs.size) }:=by
  have e1:(s.heap.push W.emptyDict).get? s.heap.objs.size=some W.emptyDict:=aC s.heap rfl
  have e2:((s.heap.push W.emptyDict).push (W.instObj C s.heap.objs.size)).get? (s.heap.objs.size+1)=some (W.instObj C s.heap.objs.size):=by
    have:=aC (s.heap.push W.emptyDict) (o:=W.instObj C s.heap.objs.size) rfl
    rwa [cR]at this
  have e3:(s.heap.push W.emptyDict).Ns s.heap.objs.size (λ_=>none):=⟨W.emptyDict,#[],_,e1,rfl,(λe he=>absurd he (by simp)),λ_=>rfl⟩
  have I1:=I.laid (a:=s.heap.objs.size) (o:=.own (s.heap.objs.size+1)) (h':=s.heap.push W.emptyDict) (t':=s.toks) (λb u q=>ar _ q) (aq _) ⟨_,e1⟩
  refine I1.laid (a:=s.heap.objs.size+1) (o:=.ins C s.heap.objs.size []) (t':=s.toks) (λb u q=>ar _ q) (df (cR _ _)) ?_
  have ne:s.heap.objs.size≠s.heap.objs.size+1:=aS (bT _)
  refine⟨by rw[z5 ne,z3],aV _,ne,e2,λ_=>none,(Heap.Ns1.of_empty e3).at λo q=>ar _ q,λ_=>True.intro,λy hy=>absurd rfl hy⟩
theorem yq8 {prog : eV}{w : eZ}{env : Env}{e : Expr}{f : Str}{pos : Pos}{s : eS}{Q : Value -> eS -> Prop}(hb : attributeBase e f env (eval e env) = eval e env)
    (h:eW (eY prog w) A (eval e env) (λo s₁=>eW (eY prog w) A (getAttr o f true) Q E s₁) E s):eW (eY prog w) A (eval (.Attribute e f pos) env) Q E s :=
  Attribute_any_ h (by rw[arm_eval_Attribute,hb])
end
def xf6 (K:W.Frag)(ta:TE)(f:Str):TE:=λσ H Q=>ta σ H λx H1=>∃a C dx fs v,x=.ref a/\H1 a=some (.ins C dx fs)/\Cls K C/\O1 K C f/\fs.lookup f=some v/\Q v H1
def xf2 (K:W.Frag)(ta tv:TE)(f:Str):TS:=λD σ H=>tv σ H λy H1=>ta σ H1 λx H2=>∃a C dx fs,x=.ref a/\H2 a=some (.ins C dx fs)/\Cls K C/\O1 K C f/\fs.length<1000 /\
  D.nx σ (upd H2 a (.ins C dx (c5 f y fs)))
def xd5 (X:Cx)(op:Operator)(rd:V->V->Hp->VK->Prop):Prop :=
  ∀(pins:List (Addr×Obj)) (s:eS) (σ:St) (H:Hp) (x y:V) (u v:Value) (Q:VK),Inv X pins σ H s->u0 x u->u0 y v->rd x y H Q->eW (eY X.prog X.w) X.A (inplaceOp op u v) (EP X pins σ Q) X.xe s
def yt5 (K:W.Frag)(ta tv:TE)(rd:V->V->Hp->VK->Prop)(f:Str):TS:=λD σ H=>ta σ H λx H1=>∃a C dx fs v,x=.ref a/\H1 a=some (.ins C dx fs)/\Cls K C/\O1 K C f/\fs.lookup f=some v /\
  tv σ H1 λy H2=>rd v y H2 λz H3=>∃dx' fs',H3 a=some (.ins C dx' fs')/\fs'.length<1000/\D.nx σ (upd H3 a (.ins C dx' (c5 f z fs')))
section
variable {X:Cx}{o e value:Expr}{f:Str}{pos pos' tpos:Pos}{ta tv:TE}
theorem y6 (he:PE X e ta)(hb:attributeBase e f X.env (eval e X.env)=eval e X.env):PE X (.Attribute e f pos) (xf6 X.K ta f):=by
  intro pins s σ H Q I h
  refine yq8 hb (thn (he pins s σ H _ I h) λu s1 ⟨x,H1,I1,rx,a,C,dx,fs,v,ex,ea,c,n,l,q⟩=>?_)
  subst ex
  obtain rfl:u=Value.ref a:=rx
  exact zf1 I1 ea c n l λu' s2 I2 ru=>⟨v,H1,I2,ru,q⟩
theorem i8 (ha:PE X o ta)(hv:PE X value tv)(hs:swapsWith value (some (.Attribute o f pos')) pos.line X.env=pure false):PS X (.Assign [.Attribute o f pos'] value pos) (xf2 X.K ta tv f):=by
  intro pins s σ H D I h
  refine plainObj_wpAny_Assign_Attribute (thn (hv pins s σ H _ I h) λu s1 ⟨y,H1,I1,ry,q⟩=>thn (ha pins s1 σ H1 _ I1 q) λov s2 ⟨x,H2,I2,rx,a,C,dx,fs,ex,ea,c,n,l,q2⟩=>?_) hs
  subst ex
  obtain rfl:ov=Value.ref a:=rx
  exact zi2 I2 ea c n l ry λs3 I3=>⟨σ,_,I3,q2⟩
theorem yh3 {op:Operator}{rd:V->V->Hp->VK->Prop}(ha:PE X o ta)(hv:PE X value tv)(hop:xd5 X op rd):PS X (.AugAssign (.Attribute o f tpos) op value pos) (yt5 X.K ta tv rd f):=by
  intro pins s σ H D I h
  refine wpAny_AugAssign_AttributeAny (thn (ha pins s σ H _ I h) λov s1 ⟨x,H1,I1,rx,a,C,dx,fs,v,ex,ea,c,n,l,q⟩=>?_)
  subst ex
  obtain rfl:ov=Value.ref a:=rx
  refine zf1 I1 ea c n l λu s2 I2 ru=>thn (hv pins s2 σ H1 _ I2 q) λw3 s3 ⟨y,H2,I3,ry,q3⟩=>thn (hop pins s3 σ H2 v y u w3 _ I3 ru ry q3) λw4 s4 ⟨z,H3,I4,rz,dx',fs',ea',l',q4⟩=>?_
  exact zi2 I4 ea' c n l' rz λs5 I5=>⟨σ,_,I5,q4⟩
end
section
variable {X:Cx}{pins:List (Addr×Obj)}{σ:St}{H:Hp}{s:eS}{A:fc}{E:Value->eS->Prop}{Q:Value->eS->Prop}{c:Value}{b:Bool}
inductive P9 (K:W.Frag) (H:Hp):V->Value->Prop where
  | non:P9 K H .non (.type "NoneType")
  | bl (x:Bool):P9 K H (.bl x) (.type "bool")
  | int (i:Int):P9 K H (.int i) (.type "int")
  | str (x:Str):P9 K H (.str x) (.type "str")
  | flt (x:UInt64):P9 K H (.flt x) (.type "float")
  | lst {a:Addr} {xs:List V} (e:H a=some (.lst xs)):P9 K H (.ref a) (.type "list")
  | frz {a:Addr} {o:Obj} {xs:List V} (e:H a=some (.frz o (.lst xs))):P9 K H (.ref a) (.type "list")
  | tup {a:Addr} {xs:List V} (e:H a=some (.tup xs)):P9 K H (.ref a) (.type "tuple")
  | dK {a:Addr} {kvs:List (Key×V)} (e:H a=some (.dK kvs)):P9 K H (.ref a) (.type "dict")
  | dT {a:Addr} {kvs:List (List Key×V)} (e:H a=some (.dT kvs)):P9 K H (.ref a) (.type "dict")
  | ins {a C dx : Addr} {fs : List (Str×V)} (e : H a = some (.ins C dx fs)) (cl : Cls K C) (ha : W.findIn K (.ref C) "__class__" = some (some (.builtin "object.__class__")))
      (hn:W.specialIn K (.builtin "object.__class__") "__get__"=some (some (.builtin "getset_descriptor.__get__"))) (htk:W.takesIn K (.builtin "object.__class__")=some true)
      (hm:W.mroIn K C (.type "object")=some true):P9 K H (.ref a) (.ref C)
theorem yf8 {x : V}{u t : Value}(I : Inv X pins σ H s)(rx : u0 x u)(ty : P9 X.K H x t)(e : W.kitOne X.K t c = some b)(h : ∀tk, Q (.bool b) { s with toks := tk }) :
    eW (eY X.prog X.w) A (call (.builtin "isinstance") [u,c]) Q E s:=by
  cases ty with
  | non=>cases (show u=Value.none from rx);exact W.kia_one W.kitx_none I.kIn True.intro e (λz=>nomatch z) h
  | bl y=>cases (show u=Value.bool y from rx);exact W.kia_one W.kitx_bool I.kIn True.intro e (λz=>nomatch z) h
  | int i=>obtain⟨t,q⟩:=(show ∃t,u=Value.int i t from rx);cases q;exact W.kia_one W.kitx_int I.kIn True.intro e (λz=>nomatch z) h
  | str y=>obtain⟨t,q⟩:=(show ∃t,u=Value.str y t from rx);cases q;exact W.kia_one W.kitx_str I.kIn True.intro e (λz=>nomatch z) h
  | flt y=>obtain⟨t,q⟩:=(show ∃t,u=Value.float y t from rx);cases q;exact W.kia_one W.kitx_float I.kIn True.intro e (λz=>nomatch z) h
  | @lst a xs ea =>
    cases (show u=Value.ref a from rx)
    obtain⟨_,_,n,_,h1⟩:=(show p9 X.prog X.w H s.heap a (.lst xs) from I.hok a _ ea)
    exact W.kia_one W.kitx_list I.kIn ⟨_,h1,rfl⟩ e (λz=>nomatch z) h
  | @frz a ob xs ea =>
    cases (show u=Value.ref a from rx)
    obtain⟨_,_,_,n,_,h1⟩:=(show p9 X.prog X.w H s.heap a (.frz ob (.lst xs)) from I.hok a _ ea)
    exact W.kia_one W.kitx_list I.kIn ⟨_,h1,rfl⟩ e (λz=>nomatch z) h
  | @tup a xs ea =>
    cases (show u=Value.ref a from rx)
    obtain⟨_,_,_,p⟩:=(show p9 X.prog X.w H s.heap a (.tup xs) from I.hok a _ ea)
    obtain⟨o,h1,h2,_⟩:=p
    exact W.kia_one W.kitx_tuple I.kIn ⟨o,h1,h2⟩ e (λz=>nomatch z) h
  | @dK a kvs ea =>
    cases (show u=Value.ref a from rx)
    obtain⟨_,_,vs,_,p⟩:=(show p9 X.prog X.w H s.heap a (.dK kvs) from I.hok a _ ea)
    obtain⟨o,es,ep,h1,h2,_⟩:=p
    exact W.kia_one W.kitx_dict I.kIn ⟨o,h1,h2.1⟩ e (λz=>nomatch z) h
  | @dT a kvs ea =>
    cases (show u=Value.ref a from rx)
    obtain⟨_,_,xs,_,o,es,ep,h1,h2,_⟩:=(show p9 X.prog X.w H s.heap a (.dT kvs) from I.hok a _ ea)
    exact W.kia_one W.kitx_dict I.kIn ⟨o,h1,h2.1⟩ e (λz=>nomatch z) h
  | @ins a C dx fs ea cl ha hn htk hm =>
    cases (show u=Value.ref a from rx)
    obtain⟨mA,O,_⟩:=E4 I.hok ea
    obtain⟨od,J,_⟩:=O.look
    exact W.kia_one (W.kitx_own (cl.get _) cl.hd ha hn htk hm) I.kIn J e (λz=>nomatch z) h
end
structure c4 (k:Nat) (A:fc):Prop where
  hd:A.handled=none
  dp:A.depth+3*k+5<recursionLimit
  un:A.units+16*k+200<cLine
theorem c4.mono {j k:Nat}{A:fc}(r:c4 k A)(h:j<=k):c4 j A:=⟨r.hd,by have:=r.dp;lia,by have:=r.un;lia⟩
theorem c4.deeper {k:Nat}{A:fc}(r:c4 (k+1) A)(env:Env):c4 k (A.deeper env) :=
  ⟨r.hd,by have:=r.dp;show A.depth+1+3*k+5<_;lia,by have:=r.un;show A.units+3+16*k+200<_;lia⟩
theorem zx1 {A:fc}{C:Addr}{us:List Value}{kw:List (Str×Value)}:(A.under (.builtin "type.__call__" ⟨.ref C::us,kw⟩)).depth=A.depth+1:=by
  first|rfl|simp[Around.under,Code.weight,Code.isCreation,Code.isGuard,Code.isCaller,Code.frames,Code.isFrame,guardIds]
theorem zx2 {A:fc}{C:Addr}{us:List Value}{kw:List (Str×Value)}:(A.under (.builtin "type.__call__" ⟨.ref C::us,kw⟩)).units=A.units+1:=by
  first|rfl|simp[Around.under,Code.cUnits,Code.frames,Code.isFrame]
theorem c4.make {k:Nat}{A:fc}(r:c4 (k+1) A)(C:Addr)(us:List Value)(kw:List (Str×Value)):c4 k (A.under (.builtin "type.__call__" ⟨.ref C::us,kw⟩)) :=
  ⟨r.hd,by have:=r.dp;rw[zx1];lia,by have:=r.un;rw[zx2];lia⟩
theorem c4.depth {k:Nat}{A:fc}(r:c4 k A):A.depth<recursionLimit:=by have:=r.dp;lia
theorem c4.units {k:Nat}{A:fc}(r:c4 k A):A.units+64<cLine:=by have:=r.un;lia
def yz7:TA:=λ_ H Q=>Q [] H
def xc5 (ta:TE)(tr:TA):TA:=λσ H Q=>ta σ H λx H1=>tr σ H1 λxs H2=>Q (x::xs) H2
section
variable {X:Cx}{e:Expr}{es:List Expr}{te:TE}{t:TA}{pos:Pos}
theorem z4:PA X [] yz7:=λ_ _ _ _ H Q I h=>Calls.spliced_nil ⟨[],H,I,.nil,h⟩
theorem z0 (ha:PE X e te)(hr:PA X es t)(hs:eX (e::es) X.env=(false,eval e X.env)::eX es X.env:=by rfl):PA X (e::es) (xc5 te t):=by
  intro pos pins s σ H Q I h
  rw[hs]
  show eW _ _ (spliced ((false,eval e X.env)::backTo pos (eX es X.env))) _ _ s
  refine Calls.spliced_cons (thn (ha pins s σ H _ I h) λu s1 ⟨x,H1,I1,r1,q1⟩=>?_)
  exact thn (hr pos pins s1 σ H1 _ I1 q1) λus s2 ⟨xs,H2,I2,r2,q2⟩=>⟨x::xs,H2,I2,.cons r1 r2,q2⟩
def xg4 (t:TA):TE:=λσ H Q=>t σ H λxs H1=>xs.length<=eU/\∀p,H1 p=none->Q (.ref p) (upd H1 p (.tup xs))
def xf9 (t:TA):TE:=λσ H Q=>t σ H λxs H1=>xs.length<=eU/\∀p,H1 p=none->Q (.ref p) (upd H1 p (.lst xs))
theorem B6 {x1}(h:PA X es t):PE X (.Tuple es x1 pos) (xg4 t):=by
  intro pins s σ H Q I hq
  refine wpAny_Tuple_spliced (thn (h pos pins s σ H _ I hq) λus s1 ⟨xs,H1,I1,r,z,q⟩=>⟨by rw[←r.length];exact z,?_⟩)
  have hf:H1 s1.heap.objs.size=none:=I1.hok.fresh (aq _)
  refine⟨.ref s1.heap.objs.size,upd H1 s1.heap.objs.size (.tup xs),I1.laid (t':=s1.toks) (λb u e=>ar _ e) (aq _) ?_,rfl,q _ hf⟩
  exact⟨z,us,r,⟨_,aC _ rfl,rfl,_,rfl,rfl⟩⟩
theorem c9 (h:PA X es t):PE X (.List es pos) (xf9 t):=by
  intro pins s σ H Q I hq
  refine wpAny_List_spliced (thn (h pos pins s σ H _ I hq) λus s1 ⟨xs,H1,I1,r,z,q⟩=>⟨by rw[←r.length];exact z,?_⟩)
  have hf:H1 s1.heap.objs.size=none:=I1.hok.fresh (aq _)
  refine⟨.ref s1.heap.objs.size,upd H1 s1.heap.objs.size (.lst xs),I1.laid (t':=s1.toks) (λb u e=>ar _ e) (aq _) ?_,rfl,q _ hf⟩
  exact⟨z,us,0,r,aC _ rfl⟩
end
abbrev Sp:=List V->Hp->VK->XK->Prop
abbrev CXT:=List Env->Hp->eS->XK->Value->eS->Prop
structure zr7 (P:eV) (w:eZ) (K:W.Frag) (mg:Str->Option Value) (base:Heap) (A:fc) (outer:List Env) (s:eS) (H:Hp):Prop where
  frames:A.frames=some outer
  mod:Mod K mg base
  bs:∀b o,base.get? b=some o->s.heap.get? b=some o/\H b=none
  bsz:base.objs.size<=s.heap.objs.size
  funs:s.heap.FunFrames base outer
  frf:∀b∈frs outer,H b=none
  hok:HOk P w H s.heap
  bare:AllBare s.gens
def CE (outer:List Env)(P:eV)(w:eZ)(H:Hp)(s:eS)(Q:VK)(u:Value)(s':eS):Prop :=
  ∃v H',s'.os=s.os/\AllBare s'.gens/\Un (frs outer) [] H H' s.heap s'.heap/\HOk P w H' s'.heap/\u0 v u/\Q v H'
def CR (CX:CXT)(outer:List Env)(P:eV)(w:eZ)(H:Hp)(s:eS)(Q:VK)(E:XK)(r:Result)(s':eS):Prop :=
  match r with
  | .ok (.ret u)=>CE outer P w H s Q u s'
  | .ok _=>False
  | .error e=>CX outer H s E e s'
structure v1 (P:eV) (w:eZ) (K:W.Frag) (mg:Str->Option Value) (base:Heap) (CX:CXT) (k:Nat) (f:Addr) (fd:fk) (ps:List Str) (sp:Sp):Prop where
  len:∀vs H Q E,sp vs H Q E->vs.length=ps.length
  run:∀(A:fc) (outer:List Env) (s:eS) (H:Hp) (args:Args) (us:List Value) (vs:List V) (Q:VK) (E:XK),c4 k A->zr7 P w K mg base A outer s H->BindsTo s fd args (ps.zip us)->v9 vs us->sp vs H Q E ->
    codeAny (eY P w) A (.call (.ref f) args) (CR CX outer P w H s Q E) s
theorem v1.imp {P : eV}{w : eZ}{K : W.Frag}{mg : Str -> Option Value}{base : Heap}{CX : CXT}{k : Nat}{f : Addr}{fd : fk}{ps : List Str}{sp sp' : Sp}(F : v1 P w K mg base CX k f fd ps sp)
    (h:∀vs H Q E,sp' vs H Q E->sp vs H Q E):v1 P w K mg base CX k f fd ps sp' :=
  ⟨λvs H Q E q=>F.len vs H Q E (h _ _ _ _ q),λA outer s H args us vs Q E hr he hb hv hs=>F.run A outer s H args us vs Q E hr he hb hv (h _ _ _ _ hs)⟩
theorem zr7.make {P : eV}{w : eZ}{K : W.Frag}{mg : Str -> Option Value}{base : Heap}{A : fc}{outer : List Env}{s : eS}{H : Hp}(e : zr7 P w K mg base A outer s H)(C : Addr)(us : List Value)(kw : List (Str×Value)) :
    zr7 P w K mg base (A.under (.builtin "type.__call__" ⟨.ref C::us,kw⟩)) outer s H:=⟨by first|exact e.frames|(simpa[Around.under,Code.envs,Code.isFrame,pushEnvs] using e.frames),e.mod,e.bs,e.bsz,e.funs,e.frf,e.hok,e.bare⟩
section
variable {X:Cx}{pins:List (Addr×Obj)}{σ:St}{H:Hp}{s s':eS}
theorem Inv.env0 (I:Inv X pins σ H s):zr7 X.prog X.w X.K X.mg X.base X.A X.stack s H :=
  ⟨I.ok.frames,I.ok.mod,I.bs,aX I.ok.bsz I.sz,I.stack,I.stkFree,I.hok,I.bare⟩
theorem Inv.after {Q:VK}{u:Value}(I:Inv X pins σ H s)(h:CE X.stack X.prog X.w H s Q u s'):EP X pins σ Q u s':=by
  obtain⟨v,H',os,bare,un,hok,r,q⟩:=h
  obtain⟨hh,g,d,t,os'⟩:=s'
  obtain rfl:os'=s.os:=os
  exact⟨v,H',I.call (h':=hh) (g':=g) (d':=d) (t':=t) (ch:=[]) un hok bare (λb z=>absurd z (by simp)),r,q⟩
end
def yp7 (sp:Sp)(dvs:List V)(E:XK)(t:TA):TE:=λσ H Q=>t σ H λvs H1=>sp (vs++dvs) H1 Q E
def ye1 (C:Addr)(m:Str)(sp:Sp)(dvs:List V)(E:XK)(ta:TE)(t:TA):TE:=λσ H Q=>ta σ H λx H1=>∃a dx fs,x=.ref a/\H1 a=some (.ins C dx fs)/\fs.lookup m=none /\
  t σ H1 λvs H2=>sp (x::(vs++dvs)) H2 Q E
def yv1 (C:Addr)(sp:Sp)(dvs:List V)(E:XK)(t:TA):TE:=λσ H Q=>t σ H λvs H1=>∀x dx,H1 x=none->H1 dx=none->dx≠x ->
  sp (.ref x::(vs++dvs)) (upd (upd H1 dx (.own x)) x (.ins C dx [])) (λv H2=>v=.non/\Q (.ref x) H2) E
def Y6 (K:W.Frag)(fd:fk)(ps:List Str)(ds:List Value):Prop :=
  ∀(s:eS) (us:List Value),K.In s.heap->(us++ds).length=ps.length->BindsTo s fd ⟨us,[]⟩ (ps.zip (us++ds))
theorem Y6.all {K:W.Frag}{fd:fk}{ps:List Str}(h:∀us:List Value,us.length=ps.length->bindArgs fd ⟨us,[]⟩=pure (ps.zip us)):Y6 K fd ps []:=λs us _ hl=>by
  rw[bp]at hl ⊢
  exact .of_eq (h us hl)
def O2 (CX:CXT)(X:Cx)(E:XK):Prop:=∀(pins:List (Addr×Obj)) (σ:St) (H:Hp) (s:eS) (e:Value) (s':eS),Inv X pins σ H s->CX X.stack H s E e s'->X.xe e s'
section
variable {X:Cx}{CX:CXT}{k:Nat}{f C:Addr}{fd:fk}{ps:List Str}{sp:Sp}{dvs:List V}{ds:List Value}{E:XK}{x m:Str}{p pos apos:Pos}{e o:Expr}{es:List Expr}{ta:TE}{t:TA}
theorem zq1 {pins : List (Addr×Obj)}{σ : St}{H : Hp}{s : eS}{Q : VK}{us : List Value}{vs : List V}(F : v1 X.prog X.w X.K X.mg X.base CX k f fd ps sp)(hr : c4 k X.A)(hb : Y6 X.K fd ps ds)(hd : v9 dvs ds)(hx : O2 CX X E)
    (I:Inv X pins σ H s) (r:v9 vs us) (h:sp (vs++dvs) H Q E):eW (eY X.prog X.w) X.A (call (.ref f) us) (EP X pins σ Q) X.xe s:=by
  have r2:v9 (vs++dvs) (us++ds):=r.append hd
  have hl:(us++ds).length=ps.length:=by rw[←r2.length];exact F.len _ _ _ _ h
  refine wpAny_call (codeAny_mono (F.run X.A X.stack s H ⟨us,[]⟩ (us++ds) (vs++dvs) Q E hr I.env0 (hb s us I.kIn hl) r2 h) λr s' hq=>?_)
  cases r with
  | error e=>exact hx pins σ H s e s' I hq
  | ok fl =>
    cases fl with
    | ret u=>exact I.after hq
    | next=>exact False.elim hq
    | brk=>exact False.elim hq
    | cont=>exact False.elim hq
theorem yc4 (F : v1 X.prog X.w X.K X.mg X.base CX k f fd ps sp)(hr : c4 k X.A)(hg : Gl X x)(hm : X.mg x = some (.ref f))(hk : W.keepIn X.K (.ref f) = true)(hb : Y6 X.K fd ps ds)(hd : v9 dvs ds)(hx : O2 CX X E)
    (ha:PA X (e::es) t) (hdb:(x==("__debug__":Str))=false:=by decide) (he:eX (e::es) X.env=(false,eval e X.env)::eX es X.env:=by rfl) (hpl:(backTo pos (eX es X.env)).any (·.1)=false:=by rfl) :
    PE X (.Call (.Name x p) (e::es) [] pos) (yp7 sp dvs E t):=by
  intro pins s σ H Q I h
  refine wpAny_Call_Name_kw (E5 I hg hm ?_ hdb)
  refine W.callWith_K (h₀:=X.base) I.ok.mod.kin hk (thn (ha pos pins s σ H _ I h) λus s1 ⟨vs,H1,I1,r,q⟩=>⟨I1.kIn,?_⟩) he hpl
  exact zq1 F hr hb hd hx I1 r q
theorem ys7 {pl : Sem Bool}(he : PE X o ta)(c : Cls X.K C)(hm : yi7 X.K C m f)(F : v1 X.prog X.w X.K X.mg X.base CX k f fd ps sp)(hr : c4 k X.A)(hb : Y6 X.K fd ps ds)(hd : v9 dvs ds)(hx : O2 CX X E)(ha : PA X (e::es) t)
    (hst:eX (e::es) X.env=(false,eval e X.env)::eX es X.env:=by rfl) (hpl:(backTo pos (eX es X.env)).any (·.1)=false:=by rfl)
    (ht : eval (.Call (.Attribute o m apos) (e::es) [] pos) X.env = (do
      let ov ←eval o X.env
      standAt apos.atName
      let (f,first) ←holding [ov] (getMethod ov m pl)
      callWith pos f first (backTo pos (eX (e::es) X.env)) (backToKw pos (fj [] X.env))):=by rfl) :
    PE X (.Call (.Attribute o m apos) (e::es) [] pos) (ye1 C m sp dvs E ta t):=by
  intro pins s σ H Q I h
  refine W.methodCall_KW (pl:=pl) (thn (he pins s σ H _ I h) λu s1 ⟨x,H1,I1,rx,a,dx,fs,ex,ea,l,q⟩=>?_) ht
  subst ex
  obtain rfl:u=Value.ref a:=rx
  refine zf2 I1 ea c hm l ?_
  refine W.callWith_K (first:=[.ref a]) (h₀:=X.base) I.ok.mod.kin hm.kp (thn (ha pos pins s1 σ H1 _ I1 q) λus s2 ⟨vs,H2,I2,r,q2⟩=>⟨I2.kIn,?_⟩) hst hpl
  exact zq1 (us:=.ref a::us) (vs:=.ref a::vs) F hr hb hd hx I2 (.cons rfl r) q2
theorem yn6 {pl : Sem Bool}(he : PE X o ta)(c : Cls X.K C)(hm : yi7 X.K C m f)(F : v1 X.prog X.w X.K X.mg X.base CX k f fd ps sp)(hr : c4 k X.A)(hb : Y6 X.K fd ps ds)(hd : v9 dvs ds)(hx : O2 CX X E)
    (ht : eval (.Call (.Attribute o m apos) [] [] pos) X.env = (do
      let ov ←eval o X.env
      standAt apos.atName
      let (f,first) ←holding [ov] (getMethod ov m pl)
      callWith pos f first (backTo pos (eX [] X.env)) (backToKw pos (fj [] X.env))):=by rfl) :
    PE X (.Call (.Attribute o m apos) [] [] pos) (ye1 C m sp dvs E ta yz7):=by
  intro pins s σ H Q I h
  refine W.methodCall_KW (pl:=pl) (thn (he pins s σ H _ I h) λu s1 ⟨x,H1,I1,rx,a,dx,fs,ex,ea,l,q⟩=>?_) ht
  subst ex
  obtain rfl:u=Value.ref a:=rx
  refine zf2 I1 ea c hm l ?_
  exact W.callWith_K0 (first:=[.ref a]) I1.kIn hm.kp (zq1 (us:=[.ref a]) (vs:=[.ref a]) F hr hb hd hx I1 (.cons rfl .nil) q)
structure Mk (K:W.Frag) (C f:Addr):Prop where
  makes:W.makesIn K C=true
  init:W.findIn K (.ref C) "__init__"=some (some (.ref f))
  fn:W.isFn K (.ref f)=true
  kp:W.keepIn K (.ref C)=true
theorem yo5 {pins : List (Addr×Obj)}{σ : St}{H : Hp}{s : eS}{Q : VK}{us : List Value}{vs : List V}(M : Mk X.K C f)(F : v1 X.prog X.w X.K X.mg X.base CX k f fd ps sp)(hr : c4 (k+1) X.A)(hb : Y6 X.K fd ps ds)(hd : v9 dvs ds)
    (hx:O2 CX X E) (I:Inv X pins σ H s) (r:v9 vs us)
    (h:∀x dx,H x=none->H dx=none->dx≠x->sp (.ref x::(vs++dvs)) (upd (upd H dx (.own x)) x (.ins C dx [])) (λv H2=>v=.non/\Q (.ref x) H2) E) :
    eW (eY X.prog X.w) X.A (call (.ref C) us) (EP X pins σ Q) X.xe s:=by
  have hq:=h (s.heap.objs.size+1) s.heap.objs.size (I.hok.fresh (cy _)) (I.hok.fresh (aq _)) (aS (bT _))
  have I2:=Inv.made (C:=C) I
  have r2:v9 (V.ref (s.heap.objs.size+1)::(vs++dvs)) (Value.ref (s.heap.objs.size+1)::(us++ds)):=.cons rfl (r.append hd)
  have hl:(Value.ref (s.heap.objs.size+1)::us++ds).length=ps.length:=by
    have e:=r2.length
    rw[F.len _ _ _ _ hq]at e
    exact e.symm
  refine wpAny_call (yl5 (f := f) I.kIn M.makes M.init (beq_iff_eq.mp M.fn) (codeAny_mono (F.run _ X.stack _ _ ⟨Value.ref (s.heap.objs.size+1)::us, []⟩ (Value.ref (s.heap.objs.size+1)::(us ++ ds)) _ _ E (hr.make C us [])
    (I2.env0.make C us []) (hb _ (Value.ref (s.heap.objs.size+1)::us) I2.kIn hl) r2 hq) λr s' hq'=>?_))
  cases r with
  | error e=>exact hx pins σ _ _ e s' I2 hq'
  | ok fl =>
    cases fl with
    | ret u =>
      obtain⟨v,H',I3,rv,ev,q3⟩:=I2.after hq'
      subst ev
      exact⟨rv,⟨V.ref (s.heap.objs.size+1),H',I3,rfl,q3⟩⟩
    | next=>exact False.elim hq'
    | brk=>exact False.elim hq'
    | cont=>exact False.elim hq'
theorem ys6 (M : Mk X.K C f)(F : v1 X.prog X.w X.K X.mg X.base CX k f fd ps sp)(hr : c4 (k+1) X.A)(hg : Gl X x)(hm : X.mg x = some (.ref C))(hb : Y6 X.K fd ps ds)(hd : v9 dvs ds)(hx : O2 CX X E)
    (ha:PA X (e::es) t) (hdb:(x==("__debug__":Str))=false:=by decide) (he:eX (e::es) X.env=(false,eval e X.env)::eX es X.env:=by rfl) (hpl:(backTo pos (eX es X.env)).any (·.1)=false:=by rfl) :
    PE X (.Call (.Name x p) (e::es) [] pos) (yv1 C sp dvs E t):=by
  intro pins s σ H Q I h
  refine wpAny_Call_Name_kw (E5 I hg hm ?_ hdb)
  refine W.callWith_K (h₀:=X.base) I.ok.mod.kin M.kp (thn (ha pos pins s σ H _ I h) λus s1 ⟨vs,H1,I1,r,q⟩=>⟨I1.kIn,?_⟩) he hpl
  exact yo5 M F hr hb hd hx I1 r q
end
section
variable {X:Cx}{CX:CXT}{k:Nat}{f C:Addr}{fd:fk}{ps ks:List Str}{sp:Sp}{E:XK}{x m:Str}{p pos apos kpos:Pos}{e o:Expr}{es:List Expr}{kws:List Keyword}{te ta:TE}{t tk:TA}{nm:Option Str}
variable {g:List Value->List Value->List Value}{gV:List V->List V->List V}
end
structure y4 (N P:List Str) (sc:Scope):Prop where
  kind:sc.kind=.function
  co:sc.isCoroutine=false
  gen:sc.isGenerator=false
  nd:N.Nodup
  pre:N.take P.length=P
  par:∀x∈P,sc.names.lookup x=some .local∨sc.names.lookup x=some .cell
  nofree:∀y∈sc.names,y.2≠.free
theorem zl3 {kindOf : Str -> Option NameKind}{x : Str} : ∀{binds : List (Str×Value)} {m : Str -> Option Value}, (∀v, (x, v) ∉ binds) -> bindL kindOf binds m x = m x
  | [],_,_=>rfl
  | (n,v)::r,m,h=>by
    unfold bindL
    rw[zl3 λw hw=>h w (av _ hw)]
    split
    . have : x ≠ n := by rintro rfl; exact h v ax
      simp[this]
    . rfl
theorem zl1 {kindOf : Str -> Option NameKind}{x : Str} : ∀{binds : List (Str×Value)} {m : Str -> Option Value}, (∀v, (x, v) ∉ binds) -> bindC kindOf binds m x = m x
  | [],_,_=>rfl
  | (n,v)::r,m,h=>by
    unfold bindC
    rw[zl1 λw hw=>h w (av _ hw)]
    split
    . rfl
    . have : x ≠ n := by rintro rfl; exact h v ax
      simp[this]
theorem zl2 {kindOf:Str->Option NameKind}{x:Str}{v:Value}:∀{P:List Str} {vs:List Value} {i:Nat} {m:Str->Option Value},P.Nodup->P[i]?=some x->vs[i]?=some v->kindOf x=some .local ->
    bindL kindOf (P.zip vs) m x=some v
  | [],_,_,_,_,h,_,_=>by simp at h
  | _::_,[],_,_,_,_,h,_=>by simp at h
  | p::P,w::vs,0,m,nd,h1,h2,hk=>by
    simp at h1 h2;subst h1;subst h2
    show bindL kindOf ((p,w)::P.zip vs) m p=_
    unfold bindL
    rw[zl3 λv hv=>(aK.mp nd).1 (cz hv).1,if_pos hk]
    simp
  | p::P,w::vs,i+1,m,nd,h1,h2,hk=>by
    show bindL kindOf ((p,w)::P.zip vs) m x=_
    unfold bindL
    exact zl2 (i:=i) (aK.mp nd).2 (by simpa using h1) (by simpa using h2) hk
theorem zl0 {kindOf:Str->Option NameKind}{x:Str}{v:Value}:∀{P:List Str} {vs:List Value} {i:Nat} {m:Str->Option Value},P.Nodup->P[i]?=some x->vs[i]?=some v->kindOf x≠some .local ->
    bindC kindOf (P.zip vs) m x=some v
  | [],_,_,_,_,h,_,_=>by simp at h
  | _::_,[],_,_,_,_,h,_=>by simp at h
  | p::P,w::vs,0,m,nd,h1,h2,hk=>by
    simp at h1 h2;subst h1;subst h2
    show bindC kindOf ((p,w)::P.zip vs) m p=_
    unfold bindC
    rw[zl1 λv hv=>(aK.mp nd).1 (cz hv).1,if_neg hk]
    simp
  | p::P,w::vs,i+1,m,nd,h1,h2,hk=>by
    show bindC kindOf ((p,w)::P.zip vs) m x=_
    unfold bindC
    exact zl0 (i:=i) (aK.mp nd).2 (by simpa using h1) (by simpa using h2) hk
def start (N:List Str)(vs:List V):St:=vs.map some++List.replicate (N.length-vs.length) none
def V4 (CX:CXT)(P:eV)(w:eZ)(K:W.Frag)(mg:Str->Option Value)(base:Heap)(N:List Str)(qual:Str)(scope:Scope)(f:Addr)(cd:Value)(A:fc)(outer:List Env)(s:eS)(H:Hp)(E:XK):Cx where
  prog:=P
  w:=w
  K:=K
  mg:=mg
  base:=base
  A:=A.deeper (envOfC qual scope s.heap.objs.size f cd)
  N:=N
  s₀:=s
  H₀:=H
  env:=envOfC qual scope s.heap.objs.size f cd
  outer:=outer
  stack:=envOfC qual scope s.heap.objs.size f cd::outer
  ex:=[]
  calm:=true
  fn:=λ_=>true
  pn:=[]
  xe:=λe s'=>eW (eY P w) (A.deeper (envOfC qual scope s.heap.objs.size f cd)) (leaving (envOfC qual scope s.heap.objs.size f cd) e) (λ_ s''=>CX outer H s E e s'') (λe' s''=>CX outer H s E e' s'') s'
theorem zs1 {sc:Scope}{n:Nat}{x:Str}(h:sc.names.lookup x=some .cell):∃c,(cellsFrom n sc.names []).lookup x=some c:=by
  have q:=W.cellsFrom_some sc.names n [] (.inl h)
  exact dA.mp q
theorem yf7 {CX : CXT}{P : eV}{w : eZ}{K : W.Frag}{mg : Str -> Option Value}{base : Heap}{N ps : List Str}{qual : Str}{scope : Scope}{f : Addr}{cd : Value}{A : fc}{outer : List Env}{s s1 : eS}{H : Hp}{E : XK}{us : List Value}{vs : List V}
    (S:y4 N ps scope) (hd:A.handled=none) (e0:zr7 P w K mg base A outer s H) (hl:vs.length=ps.length) (r:v9 vs us)
    (x:InCallC s s.heap.objs.size (bindL (envOfC qual scope s.heap.objs.size f cd).kindOf (ps.zip us) λ_=>none) (cellsFrom (s.heap.objs.size+1) scope.names []) (bindC (envOfC qual scope s.heap.objs.size f cd).kindOf (ps.zip us) λ_=>none) s1) :
    Inv (V4 CX P w K mg base N qual scope f cd A outer s H E) [] (start N vs) H s1:=by
  have hpl:ps.length<=N.length:=by have:=congrArg List.length S.pre;rw[bj]at this;lia
  obtain⟨h1,tk,rfl,hk⟩:=x.done
  have noA:∀b:Addr,b∉(V4 CX P w K mg base N qual scope f cd A outer s H E).ex:=λb z=>absurd (show b∈([]:List Addr) from z) (by simp)
  refine⟨⟨e0.mod,S.kind,rfl,rfl,aq _,λy z c h1 h2=>?_,λy hy=>?_,λy c _ h=>?_,λ_=>hd,Around.frames_deeper e0.frames,.inr ⟨rfl,rfl⟩,λb z=>absurd z (noA b),e0.bs,e0.bsz,λb _ _=>noA b,λb z=>absurd z (noA b),e0.funs,e0.frf⟩,
    rfl,e0.bare,Un.kept hk,⟨_,x.toInCall.ns,λi y v h1 h2 h3=>?_⟩,λy c h=>⟨_,x.cell y c h⟩,e0.hok.fresh (aq _),λy c h=>?_,λp hp=>absurd (show p∈([]:List (Addr×Obj)) from hp) (by simp),e0.hok.kept hk,?_⟩
  . exact name_of_addr x.apart (PySem.mem_of_lookup h1) (PySem.mem_of_lookup h2)
  . have hy : scope.names.lookup y = some .cell∨scope.names.lookup y = some .free := hy
    rcases hy with hy|hy
    . exact zs1 hy
    . exact absurd rfl (S.nofree _ (PySem.mem_of_lookup hy))
  . exact bx (x.above y c (PySem.mem_of_lookup h))
  . have hi:i<vs.length:=by
      unfold start at h2
      by_cases hi:i<vs.length
      . exact hi
      . rw[aN (by simpa using hi)]at h2
        rw[cM]at h2
        split at h2 <;> cases h2
    have ha:vs[i]?=some v:=by
      unfold start at h2
      rw[aI (by simpa using hi),ag]at h2
      cases e:vs[i]? with
      | none=>rw[e]at h2;cases h2
      | some a=>rw[e]at h2;cases h2;rfl
    obtain⟨u,hu,rv⟩:=r.get ha
    have hp:ps[i]?=some y:=by
      rw[←S.pre,bK (by lia)];exact h1
    have ndP:ps.Nodup:=by rw[←S.pre];exact S.nd.sublist (cF _ _)
    refine⟨u,rv,?_⟩
    rcases S.par y (aw hp) with k|k
    . exact .inl ⟨k,zl2 ndP hp hu k⟩
    . obtain⟨c, e⟩ := zs1 (n := s.heap.objs.size+1) k
      refine .inr ⟨.inl k,c,e,?_⟩
      have q:=x.cell y c e
      rw[zl0 ndP hp hu (by show scope.names.lookup y≠_;rw[k];decide)]at q
      exact q
  . exact e0.hok.fresh (bx (x.above y c (PySem.mem_of_lookup h)))
  . unfold start
    show _=N.length
    rw[af,aa,cr]
    lia
theorem yk3 {CX : CXT}{P : eV}{w : eZ}{K : W.Frag}{mg : Str -> Option Value}{base : Heap}{k : Nat}{f : Addr}{name qual : Str}{params : Arguments}{body : List Stmt}{scope : Scope}{dV kV doc pm cdv ct oc : Value}{an od : Option Addr}
    {osl:Array (Option Value)} {N ps:List Str} {sp:Sp} (lk:K.lookup f=some ⟨oc,od,.func (W.fnOf name qual params body scope dV kV doc pm an cdv ct),osl⟩) (hcd:W.codeIn K cdv qual=true) (S:y4 N ps scope)
    (len:∀vs H Q E,sp vs H Q E->vs.length=ps.length)
    (hbody:∀(A:fc) (outer:List Env) (s:eS) (H:Hp) (vs:List V) (Q:VK) (E:XK),c4 k (A.deeper (envOfC qual scope s.heap.objs.size f cdv))->sp vs H Q E ->
      ∃t,PSs (V4 CX P w K mg base N qual scope f cdv A outer s H E) body t/\t { nx:=λ_ H'=>Q .non H',rt:=Q } (start N vs) H) :
    v1 P w K mg base CX (k+1) f (W.fnOf name qual params body scope dV kV doc pm an cdv ct) ps sp:=by
  refine⟨len,λA outer s H args us vs Q E hr e0 hb r hsp=>?_⟩
  have hl:=len _ _ _ _ hsp
  have KX:K.In s.heap:=e0.mod.kin.keeps λb o e=>(e0.bs b o e).1
  have lim:s.heap.NoLimit:=e0.mod.nolimit.keeps λb o e=>(e0.bs b o e).1
  have hkind:∀y∈ps.zip us,scope.names.lookup y.1=some .local∨(scope.names.lookup y.1=some .cell/\((cellsFrom (s.heap.objs.size+1) scope.names []).lookup y.1).isSome=true):=λ⟨n,v⟩ hy=>by
    rcases S.par n (cz hy).1 with q|q
    . exact .inl q
    . exact .inr ⟨q,W.cellsFrom_some _ _ _ (.inl q)⟩
  refine codeAny_call_function hr.depth (KX _ _ lk) rfl S.co S.gen rfl (W.codeRec_of KX hcd) (hb _ _ _ _ ?_)
  refine wpAny_newFunctionEnv_cells S.kind hkind λenv he s1 x=>?_
  subst he
  refine⟨lim.keeps x.toInCall.keep,codeAny_func ?_⟩
  obtain⟨t,ht,hq⟩:=hbody A outer s H vs Q E (hr.deeper _) hsp
  have I:Inv (V4 CX P w K mg base N qual scope f cdv A outer s H E) [] (start N vs) H s1:=yf7 S hr.hd e0 hl r x
  refine fg (ht [] s1 (start N vs) H _ I hq) (λfl s' hs=>?_) λe s' hs=>hs
  have fin:∀{σ':St} {H':Hp} {v:V} {u:Value},Inv (V4 CX P w K mg base N qual scope f cdv A outer s H E) [] σ' H' s'->u0 v u->Q v H'->CE outer P w H s Q u s' :=
    λ{σ' H' v u} J rv q=>⟨v,H',J.os,J.bare,J.base,J.hok,rv,q⟩
  cases fl with
  | ret u =>
    obtain⟨v,σ',H',J,rv,q⟩:=hs
    exact fin J rv q
  | next =>
    obtain⟨σ',H',J,q⟩:=hs
    exact fin (v:=V.non) (u:=Value.none) J rfl q
  | brk =>
    obtain⟨_,_,_,q⟩:=hs
    exact False.elim q
  | cont =>
    obtain⟨_,_,_,q⟩:=hs
    exact False.elim q
section
variable {X:Cx}{x:Str}{p pos:Pos}{e:Expr}{es:List Expr}{t:TA}{id T:String}{r:List V->Hp->VK->Prop}
def tCB (r:List V->Hp->VK->Prop)(t:TA):TE:=λσ H Q=>t σ H λvs H1=>r vs H1 Q
theorem v8 (hc : U7 X (.builtin id) r)(hg : Gl X x)(hm : X.mg x = none)(hv : fh x = some (.builtin id))(ha : PA X (e::es) t)(hn : x ≠ "__name__" := by decide)(hdb : (x==("__debug__" : Str)) = false := by decide)
    (he:eX (e::es) X.env=(false,eval e X.env)::eX es X.env:=by rfl) (hpl:(backTo pos (eX es X.env)).any (·.1)=false:=by rfl):PE X (.Call (.Name x p) (e::es) [] pos) (tCB r t):=by
  intro pins s σ H Q I h
  refine wpAny_Call_Name_kw (zf7 I hg hm hv ?_ hn hdb)
  exact PyProof.Rows.callWith_builtin1 (thn (ha pos pins s σ H _ I h) λus s1 ⟨vs,H1,I1,r1,q1⟩=>hc pins s1 σ H1 vs us Q I1 r1 q1) he hpl
theorem u5 (hc : U7 X (.type T) r)(hg : Gl X x)(hm : X.mg x = none)(hv : fh x = some (.type T))(ha : PA X (e::es) t)(hn : x ≠ "__name__" := by decide)(hdb : (x==("__debug__" : Str)) = false := by decide)
    (he:eX (e::es) X.env=(false,eval e X.env)::eX es X.env:=by rfl) (hpl:(backTo pos (eX es X.env)).any (·.1)=false:=by rfl):PE X (.Call (.Name x p) (e::es) [] pos) (tCB r t):=by
  intro pins s σ H Q I h
  refine wpAny_Call_Name_kw (zf7 I hg hm hv ?_ hn hdb)
  exact PyProof.Rows.callWith_type1 (thn (ha pos pins s σ H _ I h) λus s1 ⟨vs,H1,I1,r1,q1⟩=>hc pins s1 σ H1 vs us Q I1 r1 q1) he hpl
end
end L2
namespace HT
open PySem PyProof.Rows
section
open PySem.SeqAt
open PySem.AutoSeq1 (wpAny_loadPart')
open PySem.MeetsSeq PySem.MeetsSeq2 PySem.MeetsSeq3
end
section
variable {prog:eV}{w:eZ}{A:fc}{E:Value->eS->Prop}{s:eS}
def sIx (n d : Nat) : Option Int -> Nat
  | none=>d
  | some v=>if v<0 then(v+(n:Int)).toNat else min v.toNat n
theorem sIx_none (n d:Nat):sIx n d none=d:=rfl
theorem sIx_nat (n d k:Nat):sIx n d (some (k:Int))=min k n:=by
  show(if (k:Int)<0 then((k:Int)+(n:Int)).toNat else min (k:Int).toNat n)=min k n
  rw[if_neg (by lia),cn]
end
end HT
namespace L2
open PySem PySem.Spec PyProof.Rows
abbrev TO:=St->Hp->(Option Int->Hp->Prop)->Prop
def PO (X:Cx)(e:Option Expr)(t:TO):Prop :=
  ∀(pins:List (Addr×Obj)) (s:eS) (σ:St) (H:Hp) (Q:Option Int->Hp->Prop),Inv X pins σ H s->t σ H Q ->
    eW (eY X.prog X.w) X.A (evalPart e X.env) (λu s'=>∃o H',Inv X pins σ H' s'/\IsPart u o/\Q o H') X.xe s
def yu0:TO:=λ_ H Q=>Q none H
def xd2 (t:TE):TO:=λσ H Q=>t σ H λx H1=>∃i,x=.int i/\Q (some i) H1
theorem J3 {ns:List Int}:∀{us:List Value},v9 (ns.map V.int) us->IntsAre us ns:=by
  induction ns with
  | nil=>intro us r;rw[cY]at r;cases r;exact .nil
  | cons n ns ih =>
    intro us r
    rw[aT]at r
    cases r with
    | cons r1 r2 =>
      obtain⟨t,e⟩:=r1
      subst e
      exact .cons n t (ih r2)
section
variable {X:Cx}{e:Expr}{te:TE}{lo hi:Option Expr}{tl th:TO}{pos p2:Pos}
theorem yc6:PO X none yu0:=by
  intro pins s σ H Q I h
  rw[evalPart_none]
  exact eT ⟨none,H,I,.none,h⟩
theorem L7 (h:PE X e te):PO X (some e) (xd2 te):=by
  intro pins s σ H Q I hw
  rw[evalPart_some]
  refine thn (h pins s σ H _ I hw) λu s1 ⟨x,H1,I1,r1,q1⟩=>?_
  obtain⟨i,rfl,q⟩:=q1
  obtain⟨t,rfl⟩:=r1
  exact⟨some i,H1,I1,.int i t,q⟩
def SlR (X:Cx)(r:V->Option Int->Option Int->Hp->VK->Prop):Prop :=
  ∀(pins:List (Addr×Obj)) (s:eS) (σ:St) (H:Hp) (x:V) (v vl vu:Value) (lo hi:Option Int) (sl:Addr) (Q:VK),Inv X pins σ H s->u0 x v->s.heap.IsSliceOf sl vl vu .none->IsPart vl lo->IsPart vu hi->r x lo hi H Q ->
    ∃T id,typeLookup (.type T) "__getitem__"=pure (some (.builtin id))/\s.TypeIs v T/\eW (eY X.prog X.w) X.A (getItem v (.ref sl)) (EP X pins σ Q) X.xe s
def tSl (r:V->Option Int->Option Int->Hp->VK->Prop)(te:TE)(tl th:TO):TE:=λσ H Q=>te σ H λx H1=>tl σ H1 λl H2=>th σ H2 λu H3=>r x l u H3 Q
theorem D1 {r:V->Option Int->Option Int->Hp->VK->Prop}(hr:SlR X r)(he:PE X e te)(hl:PO X lo tl)(hu:PO X hi th):PE X (.Subscript e (.Slice lo hi none p2) pos) (tSl r te tl th):=by
  intro pins s σ H Q I h
  refine Subscript_ (thn (he pins s σ H _ I h) λv s1 ⟨x,H1,I1,r1,q1⟩=>?_)
  refine wpAny_Slice (thn (hl pins s1 σ H1 _ I1 q1) λvl s2 ⟨l,H2,I2,pl,q2⟩=>thn (hu pins s2 σ H2 _ I2 q2) λvu s3 ⟨u,H3,I3,pu,q3⟩=>?_)
  rw[evalPart_none]
  refine eT ?_
  have I4:Inv X pins σ H3 { s3 with heap:=s3.heap.push { cls:=.type "slice",data:=.fields #[vl,vu,.none] } }:=I3.kept (t':=s3.toks) λb ob q=>ar _ q
  obtain⟨T,id,hT,ht,hg⟩:=hr pins { s3 with heap:=s3.heap.push { cls:=.type "slice",data:=.fields #[vl,vu,.none] } } σ H3 x v vl vu l u s3.heap.objs.size Q I4 r1 (Heap.IsSliceOf.new ..) pl pu q3
  show eW (eY X.prog X.w) X.A (subscriptTail e (.Slice lo hi none p2) v (.ref s3.heap.objs.size)) (EP X pins σ Q) X.xe { s3 with heap:=s3.heap.push { cls:=.type "slice",data:=.fields #[vl,vu,.none] } }
  exact tail_any (ops:=[.ref s3.heap.objs.size,v]) ht hT hg (by with_unfolding_all rfl)
def zb5 (xs:List V)(lo hi:Option Int):List V:=(xs.drop (HT.sIx xs.length 0 lo)).take (HT.sIx xs.length xs.length hi-HT.sIx xs.length 0 lo)
theorem zs5 (xs:List V)(lo hi:Option Int):(zb5 xs lo hi).length<=xs.length:=by
  unfold zb5
  rw[bj,cu]
  lia
end
def ixN (n:Nat)(i:Int):Option Nat:=if 0<=i then(if i<n then some i.toNat else none) else if -(n:Int)<=i then some (i+n).toNat else none
def atI {α:Type}(xs:List α)(i:Int):Option α:=(ixN xs.length i).bind λj=>xs[j]?
theorem zo2 {n:Nat}{i:Int}{j:Nat}(h:ixN n i=some j):seqIndex? i n=some j/\j<n/\-(n:Int)<=i/\i<n:=by
  unfold ixN at h
  by_cases h0:0<=i
  . rw[if_pos h0]at h
    by_cases h1:i<n
    . rw[if_pos h1]at h
      have e:i.toNat=j:=Option.some.inj h
      exact⟨by rw[seqIndex_of h0 h1,e],by lia,by lia,h1⟩
    . rw[if_neg h1]at h;cases h
  . rw[if_neg h0]at h
    by_cases h1:-(n:Int)<=i
    . rw[if_pos h1]at h
      have e:(i+n).toNat=j:=Option.some.inj h
      exact⟨by rw[seqIndex_neg (by lia) h1,e],by lia,h1,by lia⟩
    . rw[if_neg h1]at h;cases h
theorem ya2 {α:Type}{xs:List α}{i:Int}{v:α}(h:atI xs i=some v):∃j,seqIndex? i xs.length=some j/\xs[j]?=some v/\j<xs.length/\-(xs.length:Int)<=i/\i<xs.length:=by
  unfold atI at h
  cases e:ixN xs.length i with
  | none=>rw[e]at h;cases h
  | some j =>
    rw[e]at h
    obtain⟨h1,h2,h3,h4⟩:=zo2 e
    exact⟨j,h1,h,h2,h3,h4⟩
theorem m7 {α:Type}{xs:List α}{j:Nat}{v:α}(h:xs[j]?=some v):atI xs (j:Int)=some v:=by
  have hj:j<xs.length:=(ap.mp h).1
  have e:ixN xs.length (j:Int)=some j:=by
    unfold ixN
    rw[if_pos (by lia),if_pos (by lia)];simp
  unfold atI;rw[e];exact h
theorem F0 {α:Type}(xs:List α)(v:α):atI (xs++[v]) (-1)=some v:=by
  have hl:(xs++[v]).length=xs.length+1:=by simp
  have e:ixN (xs++[v]).length (-1)=some xs.length:=by
    unfold ixN
    rw[hl,if_neg (by decide),if_pos (by lia)]
    congr 1
    lia
  unfold atI
  rw[e]
  show(xs++[v])[xs.length]?=some v
  simp
def yq5 (b:Expr):Prop:=∀o i,subscripted b false o i=operate [o,i] (getItem o i)
def IxR (X:Cx)(r:R2):Prop :=
  ∀(value slice:Expr) (pins:List (Addr×Obj)) (s:eS) (σ:St) (H:Hp) (x y:V) (v u:Value) (Q:VK),Inv X pins σ H s->u0 x v->u0 y u->r x y H Q ->
    subscripted slice false v u=operate [v,u] (getItem v u)->eW (eY X.prog X.w) X.A (subscriptTail value slice v u) (EP X pins σ Q) X.xe s
def MtR (X:Cx)(id:String)(r:V->List V->Hp->VK->Prop):Prop :=
  ∀(pins:List (Addr×Obj)) (s:eS) (σ:St) (H:Hp) (x:V) (xs:List V) (v:Value) (us:List Value) (Q:VK),Inv X pins σ H s->u0 x v->v9 xs us->r x xs H Q ->
    eW (eY X.prog X.w) X.A (call (.builtin id) (v::us)) (EP X pins σ Q) X.xe s
section
variable {X:Cx}{a b:Expr}{ta tb:TE}{pos:Pos}
theorem o4 {r:R2}(hr:IxR X r)(ha:PE X a ta)(hb:PE X b tb)(hs:yq5 b):PE X (.Subscript a b pos) (tOp r ta tb):=by
  intro pins s σ H Q I h
  exact Subscript_ (yv6 ha hb I h λv u s2 x y H2 I2 rx ry q=>hr a b pins s2 σ H2 x y v u Q I2 rx ry q (hs _ _))
def xe8 (K:W.Frag):R2:=λx y H Q=>∃p xs i v,x=.ref p/\y=.int i/\SqL K H p xs/\atI xs i=some v/\Q v H
def xe9 (K:W.Frag):R2:=λx y H Q=>∃p xs i v,x=.ref p/\y=.int i/\SqT K H p xs/\atI xs i=some v/\Q v H
theorem t9:IxR X (xe8 X.K):=by
  intro value slice pins s σ H x y v u Q I rx ry h hs
  obtain⟨p,xs,i,z,rfl,rfl,hq,he,q⟩:=h
  cases rx
  obtain⟨t,rfl⟩:=ry
  obtain⟨its,r,pl,hz⟩:=I.list hq
  obtain⟨j,h1,h2,h3,h4,h5⟩:=ya2 he
  obtain⟨w,ew,rw'⟩:=r.get h2
  have hl:=r.length
  have hn:=zo7
  have fin:EP X pins σ Q w s:=⟨z,H,I,rw',q⟩
  by_cases h0:0<=i
  . have hj:i.toNat=j:=by
      rw[seqIndex_of h0 h5]at h1
      exact Option.some.inj h1
    exact item_listR pl.isList h0 (by lia) (by rw[hj];simpa using ew) fin hs
  . have hj:(i+(its.toArray.size:Int)).toNat=j:=by
      rw[seqIndex_neg (by lia) h4]at h1
      rw[aA,←hl]
      exact Option.some.inj h1
    exact subscriptTail_builtinR (x := w) pl.isList.typeIs slot_list_getitem.lookup
      (wpAny_getItem_list_neg (Q:=λr s'=>r=w/\EP X pins σ Q r s') pl.isList (by lia) (by rw[aA] <;> lia) (by lia) (by rw[hj];simpa using ew) ⟨rfl,fin⟩) hs
theorem R8:IxR X (xe9 X.K):=by
  intro value slice pins s σ H x y v u Q I rx ry h hs
  obtain⟨p,xs,i,z,rfl,rfl,hq,he,q⟩:=h
  cases rx
  obtain⟨t,rfl⟩:=ry
  obtain⟨its,r,pl,hz⟩:=I.tuple hq
  obtain⟨j,h1,h2,h3,h4,h5⟩:=ya2 he
  obtain⟨w,ew,rw'⟩:=r.get h2
  have hl:=r.length
  have hn:=zo7
  have fin:EP X pins σ Q w s:=⟨z,H,I,rw',q⟩
  exact subscriptTail_builtinR (x := w) pl.typeIs slot_tuple_getitem.lookup
    (getItem_tuple (j:=j) (Q:=λr s'=>r=w/\EP X pins σ Q r s') pl (by lia) (by lia) (by rw[aA,←hl];exact h1) (by simpa using ew) ⟨rfl,fin⟩) hs
theorem zx3 (its:List Value)(n j:Nat)(u:Value):Obj.mapSeq (·.setIfInBounds j u) { cls:=.type "list",data:=.seq its.toArray n }={ cls:=.type "list",data:=.seq (its.set j u).toArray n }:=by
  simp[Obj.mapSeq]
theorem Inv.lst {pins : List (Addr×Obj)}{σ : St}{H : Hp}{s : eS}{p : Addr}{xs : List V}(I : Inv X pins σ H s)(h : H p = some (.lst xs)) :
    ∃(its:List Value) (n:Nat),v9 xs its/\s.heap.get? p=some { cls:=.type "list",data:=.seq its.toArray n }/\xs.length<=eU:=by
  obtain⟨z,its,n,r,e⟩:=I.hok p _ h
  exact⟨its,n,r,e,z⟩
theorem Inv.lstUpd {pins : List (Addr×Obj)}{σ : St}{H : Hp}{s : eS}{p : Addr}{xs ys : List V}{its its' : List Value}{n n' : Nat}{f : Obj -> Obj}(I : Inv X pins σ H s)(h : H p = some (.lst xs))
    (ho:s.heap.get? p=some { cls:=.type "list",data:=.seq its.toArray n }) (hf:f { cls:=.type "list",data:=.seq its.toArray n }={ cls:=.type "list",data:=.seq its'.toArray n' }) (r:v9 ys its') (hz:ys.length<=eU) (t:Nat) :
    Inv X pins σ (upd H p (.lst ys)) { s with heap:=s.heap.update p f,toks:=t }:=by
  have e:(s.heap.update p f).get? p=some { cls:=.type "list",data:=.seq its'.toArray n' }:=by
    rw[Heap.get?_update_self f ho (by rw[hf] <;> rfl),hf]
  refine I.write (x:=p) (e:=p) (by rw[h];trivial) (.inl rfl) (λb u hb q=>(Heap.get?_update_other _ _ (Ne.symm hb)).trans q) ⟨_,e⟩ ?_
  exact⟨hz,its',n',r,e⟩
def xb9:V->V->V->Hp->(Hp->Prop)->Prop:=λo i v H Q=>∃p xs k j,o=.ref p/\i=.int k/\H p=some (.lst xs)/\ixN xs.length k=some j/\Q (upd H p (.lst (xs.set j v)))
theorem zi1:xa3 X xb9:=by
  intro pins s σ H o i v ov iv u Q I ro ri rv h
  obtain⟨p,xs,k,j,rfl,rfl,hp,hj,q⟩:=h
  cases ro
  obtain⟨t,rfl⟩:=ri
  obtain⟨its,n,r,ho,hz⟩:=I.lst hp
  obtain⟨h1,h2,h3,h4⟩:=zo2 hj
  have hl:=r.length
  have hn:=zo7
  have I':Inv X pins σ (upd H p (.lst (xs.set j v))) { s with heap:=s.heap.update p (Obj.mapSeq (·.setIfInBounds j u)) } :=
    I.lstUpd hp ho (zx3 its n j u) (r.set rv j) (by rw[bd];exact hz) s.toks
  by_cases h0:0<=k
  . have hk:k.toNat=j:=by
      rw[seqIndex_of h0 h4]at h1
      exact Option.some.inj h1
    exact W.ki_setAt ho h0 (by lia) (by rw[aA,←hl];exact h4) (by rw[hk];exact⟨_,I',q⟩)
  . have hk:(k+(its.toArray.size:Int)).toNat=j:=by
      rw[seqIndex_neg (by lia) h3]at h1
      rw[aA,←hl]
      exact Option.some.inj h1
    exact W.ki_setBack ho (by lia) (by rw[aA,←hl];exact h3) (by lia) (by rw[hk];exact⟨_,I',q⟩)
theorem zq7 (lo hi:Option Int)(n:Nat):(sliceBounds lo hi none n).1=((HT.sIx n 0 lo:Nat):Int)/\(sliceBounds lo hi none n).2.1=((HT.sIx n n hi:Nat):Int)/\(sliceBounds lo hi none n).2.2=1:=by
  refine⟨?_,?_,rfl⟩
  . cases lo with
    | none=>simp[sliceBounds,HT.sIx]
    | some i =>
      simp only[sliceBounds,HT.sIx,eh,show(1:Int) > 0 by decide,if_true]
      by_cases h:i<0
      . simp only[h,if_true] <;> lia
      . simp only[h,if_false] <;> lia
  . cases hi with
    | none=>simp[sliceBounds,HT.sIx]
    | some i =>
      simp only[sliceBounds,HT.sIx,eh,show(1:Int) > 0 by decide,if_true]
      by_cases h:i<0
      . simp only[h,if_true] <;> lia
      . simp only[h,if_false] <;> lia
theorem zk9 (its:List Value)(lo hi:Option Int):slicePick its.toArray lo hi none=((its.drop (HT.sIx its.length 0 lo)).take (HT.sIx its.length its.length hi-HT.sIx its.length 0 lo)).toArray:=by
  obtain⟨h1,h2,h3⟩:=zq7 lo hi its.toArray.size
  unfold slicePick
  rw[h1,h2,h3]
  simp only[sliceRange_one,pick_run,aA] <;> rfl
def xf1 (K:W.Frag):V->Option Int->Option Int->Hp->VK->Prop:=λx lo hi H Q=>∃a xs,x=.ref a/\SqL K H a xs/\∀p,H p=none->Q (.ref p) (upd H p (.lst (zb5 xs lo hi)))
theorem zd0:SlR X (xf1 X.K):=by
  intro pins s σ H x v vl vu lo hi sl Q I rx hs pl pu h
  obtain⟨a,xs,rfl,hx,q⟩:=h
  cases rx
  obtain⟨its,r,ht,hz⟩:=I.list hx
  have hlen:=r.length
  refine⟨"list",_,slot_list_getitem.lookup,ht.isList.typeIs,?_⟩
  refine wpAny_getItem_list_slice ht.isList hs pl pu .none (by simp) ?_ (by rw[aA] <;> lia)
  rw[zk9,←hlen]
  refine⟨.ref s.heap.objs.size,_,I.laid (t':=s.toks) (o:=.lst (zb5 xs lo hi)) (λb ob q=>ar _ q) (aq _) ?_,rfl,q _ (I.hok.fresh (aq _))⟩
  exact⟨aX (zs5 xs lo hi) hz,_,0,(r.drop (HT.sIx xs.length 0 lo)).take (HT.sIx xs.length xs.length hi-HT.sIx xs.length 0 lo),aC _ rfl⟩
theorem u7:U7 X (.builtin "len") (λxs H Q=>∃p ys,xs=[.ref p]/\(SqL X.K H p ys∨SqT X.K H p ys)/\Q (.int ys.length) H):=by
  intro pins s σ H xs us Q I r h
  obtain⟨p,ys,rfl,hq,q⟩:=h
  obtain⟨u,rfl,rx⟩:=C1 r
  cases rx
  have hn:=zo7
  rcases hq with hq|hq
  . obtain⟨its, r', pl, hz⟩ := I.list hq
    have hlen:=r'.length
    exact Calls.call_len_list pl.isList (by simp only[aA] <;> lia) ⟨.int ys.length,H,I.tok _,⟨s.toks+1,by rw[aA,hlen]⟩,q⟩
  . obtain⟨its, r', pl, hz⟩ := I.tuple hq
    have hlen:=r'.length
    exact len_tuple pl (by simp only[aA] <;> lia) ⟨.int ys.length,H,I.tok _,⟨s.toks+1,by rw[aA,hlen]⟩,q⟩
theorem V3:U7 X (.type "list") (λxs H Q=>∃p ys,xs=[.ref p]/\(SqL X.K H p ys∨SqT X.K H p ys)/\∀l,H l=none->Q (.ref l) (upd H l (.lst ys))):=by
  intro pins s σ H xs us Q I r h
  obtain⟨p,ys,rfl,hq,q⟩:=h
  obtain⟨u,rfl,rx⟩:=C1 r
  cases rx
  have fin:∀(its:List Value),v9 ys its->ys.length<=eU->∀(h':Heap) (c':Nat),(∀b o',s.heap.get? b=some o'->h'.get? b=some o') ->
      h'.get? s.heap.objs.size=some { cls:=.type "list",dict:=none,data:=.seq its.toArray c',slots:=#[] }->EP X pins σ Q (.ref s.heap.objs.size) { s with heap:=h' }:=λits r' hz h' c' kp e =>
    ⟨.ref s.heap.objs.size,_,I.laid (t':=s.toks) kp (aq _) (show p9 X.prog X.w _ h' _ (.lst ys) from⟨hz,its,c',r',e⟩),rfl,q _ (I.hok.fresh (aq _))⟩
  rcases hq with hq|hq
  . obtain⟨its, r', pl, hz⟩ := I.list hq
    have hlen:=r'.length
    obtain⟨o,ho,hc,n,hd⟩:=pl.isList
    exact call_list_seq p (.inl rfl) ho hc hd (λh' c' kp e=>fin its r' hz h' c' kp e) (by simp only[aA] <;> lia)
  . obtain⟨its, r', pl, hz⟩ := I.tuple hq
    have hlen:=r'.length
    obtain⟨o,ho,hc,n,hd⟩:=pl
    exact call_list_seq p (.inr rfl) ho hc hd (λh' c' kp e=>fin its r' hz h' c' kp e) (by simp only[aA] <;> lia)
theorem n5:U7 X (.type "tuple") (λxs H Q=>∃p ys,xs=[.ref p]/\((SqL X.K H p ys/\∀l,H l=none->Q (.ref l) (upd H l (.tup ys)))∨(SqT X.K H p ys/\Q (.ref p) H))):=by
  intro pins s σ H xs us Q I r h
  obtain⟨p,ys,rfl,h⟩:=h
  obtain⟨u,rfl,rx⟩:=C1 r
  cases rx
  rcases h with⟨hq,q⟩|⟨hq,q⟩
  . obtain⟨its, r', pl, hz⟩ := I.list hq
    have hlen:=r'.length
    refine call_tuple_list pl.isList (λh' kp=>?_) (by simp only[aA] <;> lia)
    have I1:Inv X pins σ H { s with heap:=h' }:=I.kept (t':=s.toks) kp
    have I2:Inv X pins σ (upd H h'.objs.size (.tup ys)) { s with heap:=h'.push { cls:=.type "tuple",data:=.seq its.toArray } } :=
      I1.laid (t':=s.toks) (λb o e=>ar _ e) (aq _) (show p9 X.prog X.w _ _ _ (.tup ys) from⟨hz,its,r',zr8.new _ _⟩)
    exact⟨.ref h'.objs.size,_,I2,rfl,q _ (I1.hok.fresh (aq _))⟩
  . obtain⟨its, r', pl, hz⟩ := I.tuple hq
    exact call_tuple_same pl ⟨.ref p,H,I,rfl,q⟩
def tyV (K:W.Frag)(T:String)(x:V)(H:Hp):Prop:=match x with
  | .str _=>T="str"
  | .int _=>T="int"
  | .ref p => (T = "list" /\ ∃xs, SqL K H p xs)∨(T = "tuple" /\ ∃o, K.lookup p = some o /\ o.cls = .type "tuple" /\ o.dict = none) ∨
      (T="dict"/\((∃kvs,H p=some (.dK kvs))∨∃kvs,H p=some (.dT kvs)))∨(T="set"/\∃S n,H p=some (.set S n))
  | _=>False
theorem yq1 {pins : List (Addr×Obj)}{σ : St}{H : Hp}{s : eS}{T : String}{x : V}{v : Value}(I : Inv X pins σ H s)(r : u0 x v)(ty : tyV X.K T x H) :
    s.TypeIs v T/\∀a,v=.ref a->∃ob,s.heap.get? a=some ob/\ob.dict=none:=by
  cases x with
  | str z =>
    obtain⟨t,rfl⟩:=r
    cases (show T="str" from ty)
    exact⟨typeIs_str s z t,λ_ e=>nomatch e⟩
  | int i =>
    obtain⟨t,rfl⟩:=r
    cases (show T="int" from ty)
    exact⟨typeIs_int s i t,λ_ e=>nomatch e⟩
  | ref p =>
    cases r
    rcases ty with⟨rfl,xs,hq⟩|⟨rfl,o,hk,hc,hd⟩|⟨rfl,hk⟩|⟨rfl,S,n,hk⟩
    . obtain⟨its, _, pl, _⟩ := I.list hq
      refine⟨pl.isList.typeIs,λa e=>?_⟩
      cases e
      obtain⟨o,n,e,c,hd,_⟩:=pl
      exact⟨o,e,hd⟩
    . refine⟨⟨o, I.kIn p o hk, hc⟩, λa e => ?_⟩
      cases e
      exact⟨o,I.kIn _ o hk,hd⟩
    . have z:∃o,s.heap.get? p=some o/\o.ExactDict:=by
        rcases hk with⟨kvs,hk⟩|⟨kvs,hk⟩
        . obtain⟨_, _, _, _, o, _, _, e, ex, _⟩ := I.hok p _ hk
          exact⟨o,e,ex⟩
        . obtain⟨_, _, _, _, o, _, _, e, ex, _⟩ := I.hok p _ hk
          exact⟨o,e,ex⟩
      obtain⟨o,e,ex⟩:=z
      refine⟨⟨o,e,ex.1⟩,λa e2=>?_⟩
      cases e2
      exact⟨o,e,ex.2.1⟩
    . obtain⟨o, _, _, _, e, ex, _⟩ := I.hok p _ hk
      refine⟨⟨o,e,ex.1⟩,λa e2=>?_⟩
      cases e2
      exact⟨o,e,ex.2.1⟩
  | _=>exact False.elim ty
def xf5 (K:W.Frag)(T:String)(r:V->List V->Hp->VK->Prop)(to:TE):TE:=λσ H Q=>to σ H λx H1=>tyV K T x H1/\r x [] H1 Q
def tBM (K:W.Frag)(T:String)(r:V->List V->Hp->VK->Prop)(to:TE)(t:TA):TE:=λσ H Q=>to σ H λx H1=>tyV K T x H1/\t σ H1 λxs H2=>r x xs H2 Q
variable {o e:Expr}{es:List Expr}{to:TE}{t:TA}{name:Str}{apos cpos:Pos}{T id:String}{r:V->List V->Hp->VK->Prop}
theorem yy4 (pa : PlainAttrs T)(slot : Slot T name id)(hty : typeOf (.builtin id) = pure (.type "method_descriptor"))(hm : MtR X id r)(ho : PE X o to)
    (hbase:attributeBase o name X.env (eval o X.env)=eval o X.env:=by rfl) (hline:(apos.endLine==cpos.line)=true:=by rfl):PE X (.Call (.Attribute o name apos) [] [] cpos) (xf5 X.K T r to):=by
  intro pins s σ H Q I h
  refine wpAny_Call_method0_late hbase hline (thn (ho pins s σ H _ I h) λv s1 ⟨x,H1,I1,r1,ty,q1⟩=>?_)
  obtain⟨h1,h2⟩:=yq1 I1 r1 ty
  exact⟨T,id,pa,slot,hty,h1,h2,Calls.callWith_builtin rfl (PySem.evalArgs_none (hm pins s1 σ H1 x [] v [] Q I1 r1 .nil q1))⟩
theorem U8 (pa : PlainAttrs T)(slot : Slot T name id)(hty : typeOf (.builtin id) = pure (.type "method_descriptor"))(hm : MtR X id r)(ho : PE X o to)(ha : PA X (e::es) t)
    (hbase:attributeBase o name X.env (eval o X.env)=eval o X.env:=by rfl)
    (hfew : ((backTo cpos (eX (e::es) X.env)).all (λx => !x.1)&&(backToKw cpos (fj [] X.env)).all (λx => x.1.isSome)
      && decide ((e::es).length+([]:List Keyword).length+(if ([]:List Keyword).isEmpty then 0 else 1)<30))=true:=by rfl)
    (hline:(apos.endLine==cpos.line)=true:=by rfl) (hs:eX (e::es) X.env=(false,eval e X.env)::eX es X.env:=by rfl) (hplain:(backTo cpos (eX es X.env)).any (·.1)=false:=by rfl) :
    PE X (.Call (.Attribute o name apos) (e::es) [] cpos) (tBM X.K T r to t):=by
  intro pins s σ H Q I h
  refine wpAny_Call_method_late hbase hfew hline rfl (thn (ho pins s σ H _ I h) λv s1 ⟨x,H1,I1,r1,ty,q1⟩=>?_)
  obtain⟨h1,h2⟩:=yq1 I1 r1 ty
  refine⟨T,id,pa,slot,hty,h1,h2,?_⟩
  have hA:=ha cpos pins s1 σ H1 _ I1 q1
  rw[hs]at hA ⊢
  refine Calls.callWith_builtin (by show(false || (backTo cpos (eX es X.env)).any (·.1))=false;rw[hplain] <;> rfl) (Calls.evalArgs_plain ?_)
  exact thn hA λus s2 ⟨vs,H2,I2,r2,q2⟩=>hm pins s2 σ H2 x vs v us Q I2 r1 r2 q2
end
def MtM (X:Cx)(id:String)(r:V->List V->Hp->VK->Prop):Prop :=
  ∀(pins:List (Addr×Obj)) (s:eS) (σ:St) (H:Hp) (x:V) (xs:List V) (v:Value) (us:List Value) (Q:VK),Inv X pins σ H s->u0 x v->v9 xs us->r x xs H Q ->
    eW (eY X.prog X.w) X.A (call (.builtin id) (v::us)) (EP X pins σ Q) X.xe s
theorem v9.one : ∀{x : V} {us : List Value}, v9 [x] us -> ∃u, us = [u] /\ u0 x u
  | _,_,.cons r .nil=>⟨_,rfl,r⟩
theorem v9.zero : ∀{us : List Value}, v9 [] us -> us = []
  | _,.nil=>rfl
theorem v9.dropLast {xs:List V}{us:List Value}(h:v9 xs us):v9 xs.dropLast us.dropLast:=by
  induction h with
  | nil=>exact .nil
  | cons r t ih =>
    cases t with
    | nil=>exact .nil
    | cons q t'=>exact .cons r ih
theorem v9.eraseIdx : ∀{xs : List V} {us : List Value} (i : Nat), v9 xs us -> v9 (xs.eraseIdx i) (us.eraseIdx i)
  | _,_,_,.nil=>.nil
  | _,_,0,.cons _ t=>t
  | _,_,i+1,.cons r t=>.cons r (v9.eraseIdx i t)
theorem zw8 {α:Type}(l:List α):l.eraseIdx (l.length-1)=l.dropLast:=by
  induction l with
  | nil=>rfl
  | cons a r ih =>
    cases r with
    | nil=>rfl
    | cons b r =>
      have e:(a::b::r).length-1=((b::r).length-1)+1:=by
        have h1:(a::b::r).length=r.length+2:=rfl
        have h2:(b::r).length=r.length+1:=rfl
        lia
      rw[e,List.eraseIdx_cons_succ,ih]
      all_goals rfl
theorem zm3 {α : Type} : ∀(l : List α) (i : Nat), (l.eraseIdx i).length <= l.length
  | [],_=>aq _
  | _::_,0=>cy _
  | _::r,i+1=>Nat.succ_le_succ (zm3 r i)
section
variable {X:Cx}{pins:List (Addr×Obj)}{σ:St}{H:Hp}{s:eS}{l b:Addr}{xs ys zs:List V}
theorem Inv.lset {its its' : List Value}{n : Nat}{f : Array Value -> Array Value}{t' : Nat}(I : Inv X pins σ H s)(hH : H l = some (.lst xs))
    (e:s.heap.get? l=some { cls:=.type "list",data:=.seq its.toArray n }) (hf:f its.toArray=its'.toArray) (hv:v9 ys its') (hz:ys.length<=eU) :
    Inv X pins σ (upd H l (.lst ys)) { s with heap:=s.heap.update l (Obj.mapSeq f),toks:=t' }:=by
  have q:=PySem.IsL.update e f
  rw[hf]at q
  refine I.write (x:=l) (e:=l) (by rw[hH];exact trivial) (.inl rfl) (λb' u hb hu=>(Heap.get?_update_other s.heap (Obj.mapSeq f) (Ne.symm hb)).trans hu) ⟨_,q⟩ ?_
  exact⟨hz,its',_,hv,q⟩
theorem Inv.lnew {its : List Value}{t' : Nat}(I : Inv X pins σ H s)(hv : v9 ys its)(hz : ys.length <= eU) :
    Inv X pins σ (upd H s.heap.objs.size (.lst ys)) { s with heap:=s.heap.push { cls:=.type "list",data:=.seq its.toArray },toks:=t' } :=
  I.laid (λ_ _ q=>ar _ q) (aq _) ⟨hz,its,0,hv,aC _ rfl⟩
theorem Inv.fresh (I:Inv X pins σ H s):H s.heap.objs.size=none:=I.hok.fresh (aq _)
theorem Inv.lstM (I:Inv X pins σ H s)(hH:H l=some (.lst xs)):xs.length<=eU/\∃(its:List Value) (n:Nat),v9 xs its/\xs.length=its.length/\s.heap.get? l=some { cls:=.type "list",data:=.seq its.toArray n }:=by
  obtain⟨z,its,n,r,e⟩:=I.hok l _ hH
  exact⟨z,its,n,r,r.length,e⟩
theorem ym5 {n:Nat}(h:n<=eU):Builtin.List.listTooLong n=false:=by
  unfold Builtin.List.listTooLong
  exact decide_eq_false (by lia)
end
section
variable {X:Cx}
def yt3:V->List V->Hp->VK->Prop:=λx vs H Q=>∃l xs y,x=.ref l/\vs=[y]/\H l=some (.lst xs)/\xs.length<eU/\Q .non (upd H l (.lst (xs++[y])))
theorem d0:MtM X "list.append" yt3:=by
  intro pins s σ H x vs v us Q I rx rv h
  obtain⟨l,xs,y,rfl,rfl,hH,hz,q⟩:=h
  cases rx
  obtain⟨u,rfl,ru⟩:=rv.one
  obtain⟨z,its,n,r,hl,e⟩:=I.lstM hH
  refine call_meets F.slot_list_append ⟨_,e,rfl⟩ F.entry_list_append (F.args_list_append_2 _ _) (PySem.list_append l its.toArray n u (by rw[aA];lia)) ⟨e,?_⟩
  refine⟨.non,_,I.lset (its':=its++[u]) hH e (by simp) (r.append (.cons ru .nil)) ?_,rfl,q⟩
  rw[af,aR]
  lia
def yt4:V->List V->Hp->VK->Prop:=λx vs H Q=>∃l b xs zs,x=.ref l/\vs=[.ref b]/\H l=some (.lst xs)/\H b=some (.lst zs)/\xs.length+zs.length<=eU/\Q .non (upd H l (.lst (xs++zs)))
theorem L5:MtM X "list.extend" yt4:=by
  intro pins s σ H x vs v us Q I rx rv h
  obtain⟨l,b,xs,zs,rfl,rfl,hH,hB,hz,q⟩:=h
  cases rx
  obtain⟨u,rfl,ru⟩:=rv.one
  cases ru
  obtain⟨z,its,n,r,hl,e⟩:=I.lstM hH
  obtain⟨z2,its2,n2,r2,hl2,e2⟩:=I.lstM hB
  have hsz:its.toArray.size+its2.toArray.size<=eU:=by rw[aA,aA];lia
  have hlong:¬(!its.toArray.isEmpty&&Builtin.List.listTooLong (its.toArray.size+its2.toArray.size))=true:=by
    rw[ym5 hsz,dD]
    exact aJ
  refine call_meets F.slot_list_extend ⟨_, e, rfl⟩ F.entry_list_extend (F.args_list_extend_2 _ _)
    (AutoSeq1.list_extend_list_list_0 l its.toArray n b its2.toArray n2 hlong (by rw[aA];lia) (by lia)) ⟨e,e2,?_⟩
  refine⟨.non,_,I.lset (its':=its++its2) hH e (by simp) (r.append r2) ?_,rfl,q⟩
  rw[af]
  lia
def xf0:V->List V->Hp->VK->Prop:=λx vs H Q=>∃l xs y,x=.ref l/\vs=[]/\H l=some (.lst xs)/\xs[xs.length-1]?=some y/\Q y (upd H l (.lst xs.dropLast))
theorem yx5:MtM X "list.pop" xf0:=by
  intro pins s σ H x vs v us Q I rx rv h
  obtain⟨l,xs,y,rfl,rfl,hH,hy,q⟩:=h
  cases rx
  have hus:=rv.zero
  subst hus
  obtain⟨z,its,n,r,hl,e⟩:=I.lstM hH
  obtain⟨u,hu,ru⟩:=r.get hy
  have hy':its.toArray[its.toArray.size-1]?=some u:=by
    show its.toArray[its.length-1]?=some u
    rw[←dP,←hl]
    exact hu
  refine call_meets F.slot_list_pop ⟨_,e,rfl⟩ F.entry_list_pop (F.args_list_pop_1 _) (MeetsSeq.list_pop_last l its.toArray n u hy' (by rw[aA];lia)) ⟨e,?_⟩
  refine⟨y,_,I.lset (its':=its.dropLast) hH e ?_ r.dropLast ?_,ru,q⟩
  . show its.toArray.eraseIdxIfInBounds (its.toArray.size-1) = its.dropLast.toArray
    rw[aA,di,zw8]
  . rw[List.length_dropLast]
    lia
def yy9:V->List V->Hp->VK->Prop:=λx vs H Q=>∃l xs i k y,x=.ref l/\vs=[.int i]/\H l=some (.lst xs)/\-(2 ^ 63)<=i/\i<2 ^ 63/\seqIndex? i xs.length=some k/\xs[k]?=some y/\Q y (upd H l (.lst (xs.eraseIdx k)))
theorem yl7:MtM X "list.pop" yy9:=by
  intro pins s σ H x vs v us Q I rx rv h
  obtain⟨l,xs,i,k,y,rfl,rfl,hH,h1,h2,hk,hy,q⟩:=h
  cases rx
  obtain⟨u,rfl,ru⟩:=rv.one
  obtain⟨t,rfl⟩:=ru
  obtain⟨z,its,n,r,hl,e⟩:=I.lstM hH
  obtain⟨w,hw,rw'⟩:=r.get hy
  refine call_meets F.slot_list_pop ⟨_, e, rfl⟩ F.entry_list_pop (F.args_list_pop_2 _ _)
    (MeetsSeq.list_pop_at l its.toArray n i t k w (fitsIndex_both h1 h2) (by rw[aA,←hl];exact hk) (by rw[←dP];exact hw) (by rw[aA];lia)) ⟨e,?_⟩
  refine⟨y,_,I.lset (its':=its.eraseIdx k) hH e ?_ (r.eraseIdx k) ?_,rw',q⟩
  . show its.toArray.eraseIdxIfInBounds k = (its.eraseIdx k).toArray
    rw[di]
  . have := zm3 xs k
    lia
def xe7:R2:=λx y H Q=>∃l b xs zs,x=.ref l/\y=.ref b/\H l=some (.lst xs)/\H b=some (.lst zs)/\xs.length+zs.length<=eU/\∀p,H p=none->Q (.ref p) (upd H p (.lst (xs++zs)))
theorem yy1:OpR X (binaryOp .Add) xe7:=by
  intro pins s σ H x y v u Q I rx ry h
  obtain⟨l,b,xs,zs,rfl,rfl,hH,hB,hz,q⟩:=h
  cases rx
  cases ry
  obtain⟨z,its,n,r,hl,e⟩:=I.lstM hH
  obtain⟨z2,its2,n2,r2,hl2,e2⟩:=I.lstM hB
  refine PySem.P.add_list e e2 ?_ (by rw[aA,aA];lia)
  have ea:its.toArray++its2.toArray=(its++its2).toArray:=by simp
  rw[ea]
  exact⟨.ref _,_,I.lnew (t':=s.toks) (r.append r2) (by rw[af];lia),rfl,q _ I.fresh⟩
end
section
variable {prog:eV}{w:eZ}{A:fc}{E:Value->eS->Prop}{s:eS}
end
section
variable {X:Cx}
end
section
variable {κ:Type}[DecidableEq κ]
def K3 (kvs:List (κ×V))(k:κ):Option V:=(kvs.find? λkv=>decide (kv.1=k)).map (·.2)
def putK (kvs:List (κ×V))(k:κ)(v:V):List (κ×V) :=
  if (kvs.any λkv=>decide (kv.1=k))=true then kvs.map (λkv=>if kv.1=k then(kv.1,v) else kv) else kvs++[(k,v)]
theorem L3 {p:κ×V}{r:List (κ×V)}{k:κ}(e:p.1=k):K3 (p::r) k=some p.2:=by simp[K3,bV,e]
theorem R4 {p:κ×V}{r:List (κ×V)}{k:κ}(e:¬p.1=k):K3 (p::r) k=K3 r k:=by simp[K3,bV,e]
theorem L1 (k : κ) : ∀kvs : List (κ×V), (kvs.any λkv => decide (kv.1 = k)) = (K3 kvs k).isSome
  | []=>rfl
  | p::r=>by
    rw[dM]
    by_cases e:p.1=k
    . simp only[L3 e,decide_eq_true e,Bool.true_or,Option.isSome_some]
    . rw[R4 e,decide_eq_false e,Bool.false_or];exact L1 k r
theorem O8 (kvs:List (κ×V))(k:κ)(v:V):(putK kvs k v).length<=kvs.length+1:=by
  unfold putK
  split
  . rw[aa];lia
  . rw[af,aQ,cO];lia
theorem zh4 {kvs:List (κ×V)}{k:κ}(v:V)(h:K3 kvs k=none):putK kvs k v=kvs++[(k,v)]:=by
  unfold putK
  rw[L1,h]
  exact if_neg (by decide)
theorem K2.isSome_eq {o:Option V}{u:Option Value}(r:K2 o u):o.isSome=u.isSome:=by
  cases o with
  | none=>cases u with
    | none=>rfl
    | some _=>exact(show False from r).elim
  | some _=>cases u with
    | none=>exact(show False from r).elim
    | some _=>rfl
theorem KV.val {kvs:List (κ×V)}{vs:List (κ×Value)}(r:KV kvs vs)(k:κ):K2 (K3 kvs k) (valueAt vs k):=by
  unfold KV at r
  induction r with
  | nil=>exact True.intro
  | @cons p q ps qs h t ih =>
    obtain⟨h1,h2⟩:=h
    by_cases e:p.1=k
    . have e' : q.1 = k := h1.symm.trans e
      have b:valueAt (q::qs) k=some q.2:=by simp[valueAt,bV,e']
      rw[L3 e,b];exact h2
    . have e' : ¬q.1 = k := λz => e (h1.trans z)
      have b:valueAt (q::qs) k=valueAt qs k:=by simp[valueAt,bV,e']
      rw[R4 e,b];exact ih
theorem KV.any {kvs:List (κ×V)}{vs:List (κ×Value)}(r:KV kvs vs)(k:κ):(kvs.any λkv=>decide (kv.1=k))=vs.any λkv=>decide (kv.1=k):=by
  unfold KV at r
  induction r with
  | nil=>rfl
  | cons h t ih=>rw[dM,dM,ih,h.1]
theorem KV.repl {kvs : List (κ×V)}{vs : List (κ×Value)}(r : KV kvs vs)(k : κ){y : V}{u : Value}(ry : u0 y u) :
    KV (kvs.map λkv=>if kv.1=k then(kv.1,y) else kv) (vs.map λkv=>if kv.1=k then(kv.1,u) else kv):=by
  unfold KV at r ⊢
  induction r with
  | nil=>exact .nil
  | @cons p q ps qs h t ih =>
    rw[aT,aT]
    refine .cons ?_ ih
    obtain⟨h1,h2⟩:=h
    by_cases e:p.1=k
    . rw[if_pos e,if_pos (h1.symm.trans e)];exact⟨h1,ry⟩
    . rw[if_neg e,if_neg (λz=>e (h1.trans z))];exact⟨h1,h2⟩
theorem KV.put {kvs:List (κ×V)}{vs:List (κ×Value)}(r:KV kvs vs)(k:κ){y:V}{u:Value}(ry:u0 y u):KV (putK kvs k y) (stored vs k u):=by
  unfold putK stored
  rw[r.any k]
  by_cases e:(vs.any λkv=>decide (kv.1=k))=true
  . rw[if_pos e,if_pos e];exact r.repl k ry
  . rw[if_neg e,if_neg e];exact Paired.snoc r ⟨rfl,ry⟩
theorem KV.length {kvs:List (κ×V)}{vs:List (κ×Value)}(r:KV kvs vs):kvs.length=vs.length:=Paired.length r
end
theorem zt1 {P:eV}{w:eZ}{k:Key}{u:Value}(r:u0 (kV k) u):(l5 P w).is k u=true:=by
  cases k with
  | inl i=>obtain⟨t,e⟩:=(show ∃t,u=Value.int i t from r);subst e;exact zt4 P w i t
  | inr x=>obtain⟨t,e⟩:=(show ∃t,u=Value.str x t from r);subst e;exact zt5 P w x t
theorem zm2 {P : eV}{w : eZ} : ∀{ks : List Key} {us : List Value}, v9 (ks.map kV) us -> ItemsAre (l5 P w) ks us
  | [],_,r=>by rw[cY]at r;cases r;exact .nil
  | k::ks,_,r=>by
    rw[aT]at r
    cases r with
    | cons h t=>exact .cons (zt1 h) (zm2 t)
abbrev KT (H:Hp):List (List Key×V)->List (List Key×Addr×Value)->Prop:=Paired λp q=>p.1=q.1/\H q.2.1=some (.tup (p.1.map kV))/\u0 p.2 q.2.2
theorem KT.val {H:Hp}{kvs:List (List Key×V)}{xs:List (List Key×Addr×Value)}(r:KT H kvs xs)(k:List Key):K2 (K3 kvs k) ((atKey xs k).map (·.2)):=by
  induction r with
  | nil=>exact True.intro
  | @cons p q ps qs h t ih =>
    obtain⟨h1,_,h2⟩:=h
    by_cases e:p.1=k
    . have e' : q.1 = k := h1.symm.trans e
      have b:atKey (q::qs) k=some q.2:=by simp[atKey,bV,e']
      rw[L3 e,b];exact h2
    . have e' : ¬q.1 = k := λz => e (h1.trans z)
      have b:atKey (q::qs) k=atKey qs k:=by simp[atKey,bV,e']
      rw[R4 e,b];exact ih
theorem KT.repl {H : Hp}{kvs : List (List Key×V)}{xs : List (List Key×Addr×Value)}(r : KT H kvs xs)(k : List Key){y : V}{u : Value}(ry : u0 y u) :
    KT H (kvs.map λkv=>if kv.1=k then(kv.1,y) else kv) (xs.map (putAt k u)):=by
  induction r with
  | nil=>exact .nil
  | @cons p q ps qs h t ih =>
    rw[aT,aT]
    refine .cons ?_ ih
    obtain⟨h1,h2,h3⟩:=h
    unfold putAt
    by_cases e:p.1=k
    . rw[if_pos e,if_pos (h1.symm.trans e)];exact⟨h1,h2,ry⟩
    . rw[if_neg e,if_neg (λz=>e (h1.trans z))];exact⟨h1,h2,h3⟩
theorem KT.put {H : Hp}{kvs : List (List Key×V)}{xs : List (List Key×Addr×Value)}(r : KT H kvs xs)(k : List Key){b : Addr}{y : V}{u : Value}(hb : H b = some (.tup (k.map kV)))(ry : u0 y u) :
    KT H (putK kvs k y) (storedH xs k b u):=by
  have e:(kvs.any λkv=>decide (kv.1=k))=(atKey xs k).isSome:=by
    rw[L1,(r.val k).isSome_eq,dW]
  unfold putK storedH
  rw[e]
  by_cases q:(atKey xs k).isSome=true
  . rw[if_pos q,if_pos q];exact r.repl k ry
  . rw[if_neg q,if_neg q];exact Paired.snoc r ⟨rfl,hb,ry⟩
theorem KT.keeps {H H':Hp}{kvs:List (List Key×V)}{xs:List (List Key×Addr×Value)}(r:KT H kvs xs)(ht:∀b ys,H b=some (.tup ys)->H' b=some (.tup ys)):KT H' kvs xs :=
  Paired.mapP r λ_ _ z=>⟨z.1,ht _ _ z.2.1,z.2.2⟩
section
variable {P:eV}{w:eZ}{H:Hp}{h:Heap}{a:Addr}
theorem yu8 {u:HO}(ok:HOk P w H h)(e:Rd H a u):p9 P w H h a u:=e.ok ok
theorem zs8 {kvs:List (Key×V)}(ok:HOk P w H h)(e:Rd H a (.dK kvs)):kvs.length<=eU/\(a==sysModules)=false/\∃vs,KV kvs vs/\h.DictOf (l5 P w) a vs :=
  show p9 P w H h a (.dK kvs) from yu8 ok e
theorem yj9 {kvs:List (Key×V)}(ok:HOk P w H h)(e:H a=some (.dK kvs)):kvs.length<=eU/\(a==sysModules)=false/\∃vs,KV kvs vs/\h.DictOf (l5 P w) a vs:=zs8 ok (.inl e)
theorem zo4 {ks:List Key}(ok:HOk P w H h)(e:H a=some (.tup (ks.map kV))):(tupleKind (l5 P w)).is h ks a:=by
  obtain⟨_,its,r,o,h1,h2,n,h3⟩:=(show p9 P w H h a (.tup (ks.map kV)) from ok a _ e)
  exact⟨o,its.toArray,n,h1,h2,h3.1,by simpa using zm2 r⟩
theorem yb0 {kvs:List (List Key×V)}(ok:HOk P w H h)(e:Rd H a (.dT kvs)):kvs.length<=eU/\(a==sysModules)=false /\
    ∃xs,KT H kvs xs/\h.DictOfH (tupleKind (l5 P w)) a xs:=by
  obtain⟨z,y,xs,r,o,es,ep,h1,h2,h3,h4,h5⟩:=(show p9 P w H h a (.dT kvs) from yu8 ok e)
  refine⟨z,y,xs,r,o,es,ep,h1,h2,h3,h4,λx hx=>?_,h5⟩
  have all:∀{l:List (List Key×V)} {m:List (List Key×Addr×Value)},KT H l m->∀x∈m,(tupleKind (l5 P w)).is h x.1 x.2.1:=by
    intro l m q
    induction q with
    | nil=>intro x hx;exact nomatch hx
    | @cons p q ps qs hq t ih =>
      intro x hx
      rcases au.mp hx with e|hx
      . subst e
        exact zo4 ok (by rw[←hq.1];exact hq.2.1)
      . exact ih x hx
  exact all r x hx
theorem xa9 {kvs:List (List Key×V)}(ok:HOk P w H h)(e:H a=some (.dT kvs)):kvs.length<=eU/\(a==sysModules)=false /\
    ∃xs,KT H kvs xs/\h.DictOfH (tupleKind (l5 P w)) a xs:=yb0 ok (.inl e)
end
def U6 (H:Hp)(a:Addr)(y:V)(r:Option V):Prop :=
  (∃kvs k,Rd H a (.dK kvs)/\y=kV k/\r=K3 kvs k)∨∃kvs k b,Rd H a (.dT kvs)/\y=.ref b/\H b=some (.tup (k.map kV))/\r=K3 kvs k
def zw1 (H:Hp)(a:Addr)(y v:V)(H':Hp):Prop :=
  (∃kvs k,H a=some (.dK kvs)/\y=kV k/\kvs.length<eU/\H'=upd H a (.dK (putK kvs k v))) ∨
  ∃kvs k b,H a=some (.dT kvs)/\y=.ref b/\H b=some (.tup (k.map kV))/\kvs.length<eU/\H'=upd H a (.dT (putK kvs k v))
theorem U6.k {H:Hp}{a:Addr}{kvs:List (Key×V)}{k:Key}(e:H a=some (.dK kvs)):U6 H a (kV k) (K3 kvs k):=.inl ⟨kvs,k,.inl e,rfl,rfl⟩
theorem zw1.k {H:Hp}{a:Addr}{kvs:List (Key×V)}{k:Key}{v:V}(e:H a=some (.dK kvs))(hl:kvs.length<eU):zw1 H a (kV k) v (upd H a (.dK (putK kvs k v))):=.inl ⟨kvs,k,e,rfl,hl,rfl⟩
section
variable {X:Cx}{pins:List (Addr×Obj)}{σ:St}{H:Hp}{s:eS}{a:Addr}{y v:V}{u r:Value}{o:Option V}{A:fc}{E:Value->eS->Prop}
theorem Inv.big (I:Inv X pins σ H s):sysModules<s.heap.objs.size:=by
  have h:mainGlobals<s.heap.objs.size:=(I.mod.glob.keeps I.bk).lt
  exact Nat.lt_trans (by decide) h
theorem yf2 {Q : Value -> eS -> Prop}(hu : A.units+1<cLine)(I : Inv X pins σ H s)(g : U6 H a y (some v))(ry : u0 y u)(h : ∀w' s', Inv X pins σ H s' -> u0 v w' -> Q w' s') :
    eW (eY X.prog X.w) A (getItem (.ref a) u) Q E s:=by
  rcases g with⟨kvs,k,e,ey,l⟩|⟨kvs,k,b,e,ey,eb,l⟩
  . subst ey
    obtain⟨z,hd,vs,rel,dd⟩:=zs8 I.hok e
    obtain⟨w',hw,rw'⟩:=K2.some_of (v:=v) (o:=valueAt vs k) (by rw[l];exact rel.val k)
    exact wpAny_getItem_of (zt1 ry) dd.mapOf hw (h w' _ (I.tok _) rw')
  . subst ey
    cases (show u=Value.ref b from ry)
    obtain⟨z,hd,xs,rel,dd⟩:=yb0 I.hok e
    obtain⟨w',hw,rw'⟩:=K2.some_of (v:=v) (o:=(atKey xs k).map (·.2)) (by rw[l];exact rel.val k)
    obtain⟨p,hp,hp2⟩:=bY.mp hw
    refine wpAny_getItem_heap (tupleKind_room_in1 hu) (zo4 I.hok eb) dd hp ?_
    rw[hp2]
    exact h w' _ (I.tok _) rw'
theorem yq9 {Q : Value -> eS -> Prop}(hu : A.units+1<cLine)(I : Inv X pins σ H s)(g : U6 H a y o)(ry : u0 y u)(h : ∀s', Inv X pins σ H s' -> Q (.bool (!o.isSome)) s') :
    eW (eY X.prog X.w) A (compareOp .NotIn u (.ref a)) Q E s:=by
  rcases g with⟨kvs,k,e,ey,l⟩|⟨kvs,k,b,e,ey,eb,l⟩
  . subst ey
    obtain⟨z,hd,vs,rel,dd⟩:=zs8 I.hok e
    refine wpAny_notIn_of (zt1 ry) hd dd.mapOf ?_
    rw[←(rel.val k).isSome_eq,←l]
    exact h _ (I.tok _)
  . subst ey
    cases (show u=Value.ref b from ry)
    obtain⟨z,hd,xs,rel,dd⟩:=yb0 I.hok e
    refine wpAny_notIn_heap (tupleKind_room_in1 hu) (zo4 I.hok eb) hd dd ?_
    have q:=(rel.val k).isSome_eq
    rw[dW]at q
    rw[←q,←l]
    exact h _ (I.tok _)
theorem zo0 {h' : Heap}{t' : Nat}{ob : HO}(I : Inv X pins σ H s)(mu : Mut (H a))(hs : Heap.SameBut a s.heap h')(he : ∃q, h'.get? a = some q)(new : p9 X.prog X.w (upd H a ob) h' a ob) :
    Inv X pins σ (upd H a ob) { s with heap:=h',toks:=t' } :=
  I.write (x:=a) (e:=a) mu (.inl rfl) (λb q hb z=>(hs.2 b hb).trans z) he new
theorem yj8 {P : eV}{w : eZ}{H' : Hp}{h' : Heap}{kvs : List (Key×V)}{vs : List (Key×Value)}(z : kvs.length <= eU)(hd : (a==sysModules) = false)(rel : KV kvs vs)(dd : h'.DictOf (l5 P w) a vs) :
    p9 P w H' h' a (.dK kvs):=⟨z,hd,vs,rel,dd⟩
theorem yf3 {H' : Hp}{Q : Unit -> eS -> Prop}(hu : A.units+1<cLine)(I : Inv X pins σ H s)(g : zw1 H a y v H')(ry : u0 y u)(rv : u0 v r)(h : ∀s', Inv X pins σ H' s' -> Q () s') :
    eW (eY X.prog X.w) A (setItem (.ref a) u r) Q E s:=by
  rcases g with⟨kvs,k,e,ey,l,eH⟩|⟨kvs,k,b,e,ey,eb,l,eH⟩
  . subst ey eH
    obtain⟨z,hd,vs,rel,dd⟩:=yj9 I.hok e
    have hz:vs.length<=eU:=by rw[←rel.length];exact z
    have hl:(putK kvs k v).length<=eU:=by have:=O8 kvs k v;lia
    refine wpAny_setItem_pairs (hsz:=hz) (zt1 ry) dd λh' dd' hs=>h _ ?_
    have he:∃q,h'.get? a=some q:=let ⟨q,_,_,hq,_⟩:=dd';⟨q,hq⟩
    exact zo0 I (by rw[e];exact True.intro) hs he (yj8 hl hd (rel.put k rv) dd')
  . subst ey eH
    cases (show u=Value.ref b from ry)
    obtain⟨z,hd,xs,rel,dd⟩:=xa9 I.hok e
    have hz:xs.length<=eU:=by rw[←Paired.length rel];exact z
    have hl:(putK kvs k v).length<=eU:=by have:=O8 kvs k v;lia
    refine wpAny_setItem_heap (hsz:=hz) (tupleKind_room_in1 hu) (zo4 I.hok eb) dd λh' dd' hs=>h _ ?_
    obtain⟨q,es,ep,hq,h2,h3,h4,_,h5⟩:=dd'
    refine zo0 I (by rw[e];exact True.intro) hs ⟨q,hq⟩ ⟨hl,hd,_,(rel.put k eb rv).keeps λc ys ec=>?_,q,es,ep,hq,h2,h3,h4,h5⟩
    rw[z5 (o3 ec e (λz=>nomatch z))]
    exact ec
end
section
variable {X:Cx}{pins:List (Addr×Obj)}{σ:St}{H:Hp}{s:eS}{a:Addr}{kvs:List (Key×V)}{k:Key}{u:Value}{A:fc}{E:Value->eS->Prop}
theorem xa7 {Q:Value->eS->Prop}(I:Inv X pins σ H s)(e:Rd H a (.dK kvs))(h:∀t s',Inv X pins σ H s'->Q (.int kvs.length t) s'):eW (eY X.prog X.w) A (call (.builtin "len") [.ref a]) Q E s:=by
  obtain⟨z,hd,vs,rel,dd⟩:=zs8 I.hok e
  refine call_len_dict hd dd (by rw[←rel.length];rw[sizeLine_eq]at z;lia) ?_
  rw[←rel.length]
  exact h _ _ (I.tok _)
end
def xa1 (i:Expr):Prop:=∀ov iv,subscripted i false ov iv=operate [ov,iv] (getItem ov iv)
theorem yt8 {prog : eV}{w : eZ}{A : fc}{E : Value -> eS -> Prop}{s : eS}{env : Env}{value slice : Expr}{pos : Pos}{T id : String}{Q : Value -> eS -> Prop}
    (hl:typeLookup (.type T) "__getitem__"=pure (some (.builtin id))) (hs:xa1 slice)
    (h:eW (eY prog w) A (eval value env) (λo s₁=>eW (eY prog w) A (eval slice env) (λi s₂=>s₂.TypeIs o T/\eW (eY prog w) A (getItem o i) Q E s₂) E s₁) E s) :
    eW (eY prog w) A (eval (.Subscript value slice pos) env) Q E s:=by
  refine Subscript_ (fg h (λo s₁ h₁=>fg h₁ (λi s₂ h₂=>?_) λ_ _ x=>x) λ_ _ x=>x)
  obtain⟨hT,h₂⟩:=h₂
  unfold subscriptTail
  refine eR ?_
  rw[getitemInPython_of_ne hT.not_modules]
  refine eR (wpAny_specialOf hT hl ?_)
  have fin:eW (eY prog w) A (subscripted slice false o i) (λr s₃=>eW (eY prog w) A (letTemporaryGo value o r >>= λ_=>pure r) Q E s₃) E s₂:=by
    rw[hs o i]
    exact wpAny_operating (fg h₂ (λr s₃ h₃=>eR (wpAny_letTemporaryGo (eT h₃))) λ_ _ x=>x)
  first
    | exact eT (eR fin)
    | exact eR (eT (eR fin))
    | exact eR fin
theorem zs7 {X:Cx}{pins:List (Addr×Obj)}{σ:St}{H:Hp}{s:eS}{a:Addr}{y:V}{o:Option V}(I:Inv X pins σ H s)(g:U6 H a y o):s.TypeIs (.ref a) "dict":=by
  rcases g with⟨kvs,k,e,_,_⟩|⟨kvs,k,b,e,_,_,_⟩
  . obtain⟨_, _, vs, _, dd⟩ := zs8 I.hok e
    exact dd.typeIs
  . obtain⟨_, _, xs, _, dd⟩ := yb0 I.hok e
    exact dd.typeIs
def xc6 (td ty:TE):TE:=λσ H Q=>td σ H λx H1=>ty σ H1 λy H2=>∃a v,x=.ref a/\U6 H2 a y (some v)/\Q v H2
def yt9 (ty td:TE):TE:=λσ H Q=>ty σ H λy H1=>td σ H1 λx H2=>∃a o,x=.ref a/\U6 H2 a y o/\Q (.bl (!o.isSome)) H2
def xc0 (td ty tv:TE):TS:=λD σ H=>tv σ H λv H1=>td σ H1 λx H2=>ty σ H2 λy H3=>∃a H4,x=.ref a/\zw1 H3 a y v H4/\D.nx σ H4
section
variable {X:Cx}{o i e value:Expr}{pos pos' tpos:Pos}{td ty tv:TE}
theorem L6 (hu:X.A.units+1<cLine)(ho:PE X o td)(hi:PE X i ty)(hs:xa1 i):PE X (.Subscript o i pos) (xc6 td ty):=by
  intro pins s σ H Q I h
  refine yt8 PySem.F.slot_dict_getitem.lookup hs (thn (ho pins s σ H _ I h) λu s1 ⟨x,H1,I1,rx,q1⟩=>thn (hi pins s1 σ H1 _ I1 q1) λiv s2 ⟨y,H2,I2,ry,a,v,ex,g,q2⟩=>?_)
  subst ex
  obtain rfl:u=Value.ref a:=rx
  exact⟨zs7 I2 g,yf2 hu I2 g ry λw' s3 I3 rw'=>⟨v,H2,I3,rw',q2⟩⟩
theorem B5 (hu:X.A.units+1<cLine)(hi:PE X i ty)(ho:PE X o td):PC X .NotIn i o (yt9 ty td):=by
  intro pins s σ H Q I h
  refine thn (hi pins s σ H _ I h) λiv s1 ⟨y,H1,I1,ry,q1⟩=>thn (ho pins s1 σ H1 _ I1 q1) λu s2 ⟨x,H2,I2,rx,a,ov,ex,g,q2⟩=>?_
  subst ex
  obtain rfl:u=Value.ref a:=rx
  exact yq9 hu I2 g ry λs3 I3=>⟨.bl (!ov.isSome),H2,I3,rfl,q2⟩
theorem zp9 (hu : X.A.units+1<cLine)(ho : PE X o td)(hi : PE X i ty)(hv : PE X value tv)(hs : swapsWith value (some (.Subscript o i pos')) pos.line X.env = pure false) :
    PS X (.Assign [.Subscript o i pos'] value pos) (xc0 td ty tv):=by
  intro pins s σ H D I h
  refine wpAny_Assign_Subscript (thn (hv pins s σ H _ I h) λr s1 ⟨v,H1,I1,rv,q1⟩=>thn (ho pins s1 σ H1 _ I1 q1) λu s2 ⟨x,H2,I2,rx,q2⟩=>thn (hi pins s2 σ H2 _ I2 q2) λiv s3 ⟨y,H3,I3,ry,a,H4,ex,g,q3⟩=>?_) hs
  subst ex
  obtain rfl:u=Value.ref a:=rx
  exact yf3 hu I3 g ry rv λs4 I4=>⟨σ,H4,I4,q3⟩
end
theorem yj7 {P:eV}{w:eZ}{H:Hp}(h:Heap)(hb:sysModules<h.objs.size):p9 P w H (h.push { cls:=.type "dict",data:=.dict #[] }) h.objs.size (.dK []) :=
  ⟨aV _,beq_eq_false_iff_ne.mpr (Ne.symm (aS hb)),[],.nil,Heap.DictOf.new h⟩
section
variable {X:Cx}{pos:Pos}
end
def zz6 : List (TE×TE) -> St -> Hp -> (List (V×V) -> Hp -> Prop) -> Prop
  | [],_,H,Q=>Q [] H
  | (tk,tv)::r,σ,H,Q=>tk σ H λx H1=>tv σ H1 λy H2=>zz6 r σ H2 λps H3=>Q ((x,y)::ps) H3
abbrev VV:List (V×V)->List (Value×Value)->Prop:=Paired λp q=>u0 p.1 q.1/\u0 p.2 q.2
def PPs (X:Cx)(pos:Pos)(keys:List (Option Expr))(values:List Expr)(trs:List (TE×TE)):Prop :=
  ∀(pins:List (Addr×Obj)) (s:eS) (σ:St) (H:Hp) (Q:List (V×V)->Hp->Prop),Inv X pins σ H s->zz6 trs σ H Q ->
    eW (eY X.prog X.w) X.A (evalPairs (pairTrees keys values X.env pos)) (λvs s'=>∃ps H',Inv X pins σ H' s'/\VV ps vs/\Q ps H') X.xe s
theorem zp7 {X:Cx}{pos:Pos}:PPs X pos [] [] []:=λpins s σ H Q I h=>pairTrees_nil_walk ⟨[],H,I,.nil,h⟩
theorem zh2 {X : Cx}{pos : Pos}{k v : Expr}{ks : List (Option Expr)}{vs : List Expr}{tk tv : TE}{trs : List (TE×TE)}(hk : PE X k tk)(hv : PE X v tv)(hr : PPs X pos ks vs trs) :
    PPs X pos (some k::ks) (v::vs) ((tk,tv)::trs):=λpins s σ H Q I h =>
  pairTrees_cons_walk (thn (hk pins s σ H _ I h) λu s1 ⟨x,H1,I1,rx,q1⟩=>thn (hv pins s1 σ H1 _ I1 q1) λw2 s2 ⟨y,H2,I2,ry,q2⟩ =>
    thn (hr pins s2 σ H2 _ I2 q2) λws s3 ⟨ps,H3,I3,rel,q3⟩=>⟨(x,y)::ps,H3,I3,.cons ⟨rx,ry⟩ rel,q3⟩)
def Z3 (kvs more:List (Key×V)):List (Key×V):=more.foldl (λacc kv=>putK acc kv.1 kv.2) kvs
theorem KV.merge:∀{more:List (Key×V)} {rs:List (Key×Value)} {kvs:List (Key×V)} {vs:List (Key×Value)},KV more rs->KV kvs vs->KV (Z3 kvs more) (merged vs rs):=by
  intro more rs kvs vs r
  unfold KV at r
  induction r generalizing kvs vs with
  | nil=>intro q;exact q
  | @cons p q ps qs h t ih =>
    intro r0
    have e:KV (putK kvs p.1 p.2) (stored vs q.1 q.2):=by
      have:=r0.put p.1 h.2
      rw[←h.1];exact this
    exact ih e
theorem K6 : ∀(more kvs : List (Key×V)), (Z3 kvs more).length <= kvs.length+more.length
  | [],kvs=>by show kvs.length<=kvs.length+0;lia
  | p::r,kvs=>by
    have h1:=K6 r (putK kvs p.1 p.2)
    have h2:=O8 kvs p.1 p.2
    show(Z3 (putK kvs p.1 p.2) r).length<=_
    rw[aQ];lia
theorem ze4 {P : eV}{w : eZ} : ∀{kvs : List (Key×V)} {ws : List (Value×Value)}, VV (kvs.map λkv => (kV kv.1, kv.2)) ws -> ∃rs, Carries (l5 P w) ws rs /\ KV kvs rs
  | [],_,r=>by rw[cY]at r;cases r;exact⟨[],True.intro,.nil⟩
  | p::kvs,_,r=>by
    rw[aT]at r
    cases r with
    | @cons a b as bs h t =>
      obtain⟨rs,c,q⟩:=ze4 (P:=P) (w:=w) t
      obtain⟨b1,b2⟩:=b
      exact⟨(p.1,b2)::rs,⟨zt1 h.1,rfl,c⟩,.cons ⟨rfl,h.2⟩ q⟩
def xc7 (trs:List (TE×TE)):TE:=λσ H Q=>∀p,H p=none->zz6 trs σ (upd H p (.dK [])) λps H2=>H2 p=some (.dK [])/\∃kvs:List (Key×V),ps=kvs.map (λkv=>(kV kv.1,kv.2))/\kvs.length<=15/\Q (.ref p) (upd H2 p (.dK (Z3 [] kvs)))
theorem zp5 {X : Cx}{pos : Pos}{keys : List (Option Expr)}{values : List Expr}{trs : List (TE×TE)}(h : PPs X pos keys values trs)(hall : keys.all (·.isSome) = true)(hl : keys.length = values.length)(h0 : keys ≠ [])
    (h15:keys.length<=15):PE X (.Dict keys values pos) (xc7 trs):=by
  intro pins s σ H Q I q
  have hn:=I.hok.fresh (aq s.heap.objs.size)
  have I1:=I.laid (a:=s.heap.objs.size) (o:=.dK []) (h':=s.heap.push { cls:=.type "dict",data:=.dict #[] }) (t':=s.toks) (λ_ _ q=>ar _ q) (aq _) (yj7 s.heap I.big)
  refine wpAny_Dict_walk (knd:=l5 X.prog X.w) hall hl h0 h15 (thn (h pins _ σ _ _ I1 (q _ hn)) λws s2 ⟨ps,H2,I2,rel,e,kvs,ep,lk,q2⟩=>?_)
  subst ep
  obtain⟨rs,c,rk⟩:=ze4 (P:=X.prog) (w:=X.w) rel
  obtain⟨z,hd,vs0,r0,dd⟩:=yj9 I2.hok e
  cases r0
  refine⟨rs,c,dd,λh' dd' hs=>⟨.ref s.heap.objs.size,_,?_,rfl,q2⟩⟩
  have hz:(Z3 [] kvs).length<=eU:=by
    have h1:=K6 kvs []
    rw[cO]at h1
    rw[sizeLine_eq];lia
  have he:∃q,h'.get? s.heap.objs.size=some q:=let ⟨q,_,_,hq,_⟩:=dd';⟨q,hq⟩
  exact zo0 I2 (by rw[e];exact True.intro) hs he (yj8 hz hd (rk.merge .nil) dd')
section
variable {X:Cx}{pins:List (Addr×Obj)}{σ:St}{H:Hp}{s:eS}{a:Addr}{y d:V}{u r:Value}{o:Option V}{A:fc}{E:Value->eS->Prop}
end
section
variable {X:Cx}{o e f:Expr}{apos cpos:Pos}{td ty tx:TE}
end
section
variable {X:Cx}{pins:List (Addr×Obj)}{σ:St}{H:Hp}{s:eS}{a:Addr}{kvs:List (Key×V)}{A:fc}{E:Value->eS->Prop}
end
section
variable {X:Cx}{pins:List (Addr×Obj)}{σ:St}{H:Hp}{s:eS}{a:Addr}{y:V}{u:Value}{A:fc}{E:Value->eS->Prop}
end
end L2
namespace Att
open PySem PySem.W PySem.Calls PyProof.Rows
theorem zb7 {P:Params}{h:Heap}:∀(ns:List Int) (vs:List Value),WellAll P h vs (ns.map WData.int)->IntsAre vs ns:=by
  intro ns
  induction ns with
  | nil =>
    intro vs w
    rw[cY]at w
    cases w
    exact .nil
  | cons n ns ih =>
    intro vs w
    rw[aT]at w
    cases w with
    | cons a b =>
      cases a
      exact .cons _ _ (ih _ b)
theorem yh8 {l : OpenLaw}{n : Nat}(hn : l.most = some n){P : Params}{h : Heap}{args : List WData}{vals : List Value}
    (hpre:l.row.toRowW.claim.pre args=true) (hwl:WellAll P h vals args) :
    ∃a vs ns,vals=[Value.ref a]/\args=[WData.list (ns.map WData.int)]/\h.get? a=some { cls:=.type "list",data:=.seq vs.toArray }/\IntsAre vs ns/\ns.length<=n:=by
  have hsh:WShape.hasAll [] args [.list .int]=true:=(pre_splitW hpre).1
  have hc:l.pre.holds [] { args:=args }=true:=(pre_splitW hpre).2
  obtain⟨d,r,rfl,h1,h2⟩:=hasAllW_cons hsh
  obtain rfl:=hasAllW_nil h2
  obtain⟨xs,rfl,h3⟩:=hasW_list h1
  obtain⟨ns,rfl⟩:=items_int h3
  have hlen:ns.length<=n:=by
    unfold OpenLaw.pre at hc
    have h4:(WTm.not (.lt (.lit (.int n)) (.len (.arg 0)))).holds [] { args:=[.list (ns.map .int)] }=true:=by
      have h4:=(holds_andW hc).1
      rw[hn]at h4
      exact h4
    have h5:=condW_of h4 (w_not (w_lt w_lit (w_len_list (w_arg rfl))))
    rw[aa]at h5
    refine bU λq=>?_
    have q':(n:Int)<((ns.length:Nat):Int):=by lia
    first
      | (rw[decide_eq_true q']at h5;exact absurd h5 (by decide))
      | (simp at h5;lia)
  cases hwl with
  | cons w1 w2 =>
    cases w2
    cases w1 with
    | list ho hall=>exact⟨_,_,ns,rfl,rfl,ho,zb7 ns _ hall,hlen⟩
theorem yh2 (l:OpenLaw)(args:List WData):l.row.toRowW.claim.post args (.bool true) args=true :=
  postW_of (r := l.row.toRowW) (X := (true==true))
    (show WShape.has [] (.bool true) .bool=true by first|rfl|decide|simp[WShape.has,WShape.arms,WShape.armsAll])
    (show(WTm.eq .res (.lit (.bool true))).value [] { args:=args,res:=some (.bool true),after:=args }=some (.bool (true==true)) from w_eq_bool (w_res rfl) w_lit) rfl
section
variable {prog:eV}{w:eZ}{A:fc}{E:Value->eS->Prop}{s:eS}{K:Frag}
end
end Att
namespace L2
open PySem PySem.Spec PyProof.Rows
theorem za1 : ∀{vs : List Value} {ns : List Int}, IntsAre vs ns -> v9 (ns.map V.int) vs
  | _,_,.nil=>.nil
  | _,_,.cons n t h=>.cons ⟨t,rfl⟩ (za1 h)
def xa2 (H:Hp):Prop:=∀b,H b=none∨∃o xs,H b=some (.frz o (.lst xs))
end L2
namespace L2
open PySem PySem.Spec PyProof.Rows
def V5 (s:Stmt):Arguments:=match s with
  | .FunctionDef _ a _ _ _ _ _ _ _ _=>a
  | _=>{ posonlyargs:=[],args:=[],vararg:=none,kwonlyargs:=[],kw_defaults:=[],kwarg:=none,defaults:=[] }
def d3 (s:Stmt):List Stmt:=match s with
  | .FunctionDef _ _ b _ _ _ _ _ _ _=>b
  | _=>[]
def z8 (s:Stmt):Scope:=match s with
  | .FunctionDef _ _ _ _ _ _ sc _ _ _=>sc
  | _=>{ kind:=.function,names:=[],isGenerator:=false,isCoroutine:=false }
abbrev CX0:CXT:=λ_ _ _ _ _ _=>False
abbrev E0:XK:=λ_ _ _=>False
theorem zu2 {X:Cx}:O2 CX0 X E0:=λ_ _ _ _ _ _ _ h=>h.elim
structure Fun (K:W.Frag) (x qual:Str) (st:Stmt) (f:Addr) (fd:fk):Prop where
  ex:∃(oc:Value) (od:Option Addr) (kV doc pm:Value) (an:Option Addr) (cdv ct:Value) (osl:Array (Option Value)),
    fd=W.fnOf x qual (V5 st) (d3 st) (z8 st) .none kV doc pm an cdv ct/\K.lookup f=some ⟨oc,od,.func fd,osl⟩/\W.codeIn K cdv qual=true
  kp:W.keepIn K (.ref f)=true
section
variable {P:eV}{w:eZ}{K:W.Frag}{mg:Str->Option Value}{base:Heap}
theorem Fun.ok {x qual : Str}{st : Stmt}{f : Addr}{fd : fk}{N ps : List Str}{k : Nat}{sp : Sp}(F : Fun K x qual st f fd)(S : y4 N ps (z8 st))(len : ∀vs H Q E, sp vs H Q E -> vs.length = ps.length)
    (hbody:∀(cdv:Value) (A:fc) (outer:List Env) (s:eS) (H:Hp) (vs:List V) (Q:VK) (E:XK),c4 k (A.deeper (envOfC qual (z8 st) s.heap.objs.size f cdv))->sp vs H Q E ->
      ∃t,PSs (V4 CX0 P w K mg base N qual (z8 st) f cdv A outer s H E).nox (d3 st) t/\t { nx:=λ_ H'=>Q .non H',rt:=Q } (start N vs) H):v1 P w K mg base CX0 (k+1) f fd ps sp:=by
  obtain⟨oc,od,kV,doc,pm,an,cdv,ct,osl,rfl,lk,hcd⟩:=F.ex
  refine yk3 lk hcd S len λA outer s H vs Q E hr hsp=>?_
  obtain⟨t,h,q⟩:=hbody cdv A outer s H vs Q E hr hsp
  exact⟨t,h.nox,q⟩
theorem Fun.binds {x qual : Str}{st : Stmt}{f : Addr}{fd : fk}{ps : List Str}(F : Fun K x qual st f fd)
    (h:∀(kV doc pm:Value) (an:Option Addr) (cdv ct:Value) (us:List Value),us.length=ps.length->bindArgs (W.fnOf x qual (V5 st) (d3 st) (z8 st) .none kV doc pm an cdv ct) ⟨us,[]⟩=pure (ps.zip us)):Y6 K fd ps []:=by
  obtain⟨oc,od,kV,doc,pm,an,cdv,ct,osl,rfl,lk,hcd⟩:=F.ex
  exact .all (h kV doc pm an cdv ct)
theorem zo1 {x qual : Str}{st : Stmt}{f : Addr}{oc : Value}{od an : Option Addr}{osl : Array (Option Value)}{kV doc pm cdv ct : Value}(l : K.lookup f = some ⟨oc, od, .func (W.fnOf x qual (V5 st) (d3 st) (z8 st) .none kV doc pm an cdv ct), osl⟩)
    (c:W.codeIn K cdv qual=true) (k:W.keepIn K (.ref f)=true):Fun K x qual st f (W.fnOf x qual (V5 st) (d3 st) (z8 st) .none kV doc pm an cdv ct):=⟨⟨oc,od,kV,doc,pm,an,cdv,ct,osl,rfl,l,c⟩,k⟩
end
theorem zm7 {n:Nat}(h:n<=1000):n<eU:=bX h (by decide)
section
variable {X:Cx}
theorem pv (i : Nat){x : Str}{pos : Pos}(hN : X.N[i]? = some x := by rfl)(hv : Vis X.env.scope x := by first|exact Or.inl rfl|exact Or.inr (Or.inl rfl)|exact Or.inr (Or.inr rfl))(hd : (x==("__debug__" : Str)) = false := by decide)
    (hcd:(x==("__classdict__":Str))=false:=by decide):PE X (.Name x pos) (xd4 i):=yn7 hN hv hd hcd
end
theorem o5 {A B:Prop}(h:B):if false=true then A else B:=by
  rw[if_neg aJ]
  exact h
theorem i0 {A B:Prop}(h:A):if true=true then A else B:=by
  rw[if_pos rfl]
  exact h
theorem yf9 {c A B:Prop}[Decidable c](h1:c->A)(h2:¬c->B):if c then A else B:=by
  by_cases h:c
  . rw[if_pos h]
    exact h1 h
  . rw[if_neg h]
    exact h2 h
def y2 (H H':Hp):Prop:=∀b o,H b=some o->H' b=some o
theorem y2.refl (H:Hp):y2 H H:=λ_ _ h=>h
theorem y2.trans {H H1 H2:Hp}(a:y2 H H1)(b:y2 H1 H2):y2 H H2:=λc o h=>b c o (a c o h)
theorem y2.free {H H':Hp}(e:y2 H H'){l:Addr}(h:H' l=Option.none):H l=Option.none:=by
  cases q:H l with
  | none=>rfl
  | some o =>
    rw[e l o q]at h
    cases h
theorem y2.seq {K:W.Frag}{H H':Hp}{a:Addr}{xs:List V}(e:y2 H H')(h:SqL K H a xs):SqL K H' a xs:=by
  rcases h with (h|⟨o,h⟩)|h
  . exact .inl (.inl (e _ _ h))
  . exact .inl (.inr ⟨o,e _ _ h⟩)
  . exact .inr h
section
variable {X:Cx}
theorem ye8:U7 X (.builtin "len") (λxs H Q=>∃a kvs,xs=[V.ref a]/\H a=some (.dK kvs)/\Q (.int kvs.length) H):=by
  intro pins s σ H xs us Q I r h
  obtain⟨a,kvs,rfl,ha,q⟩:=h
  obtain⟨u,rfl,ru⟩:=C1 r
  cases ru
  exact xa7 I (.inl ha) λt s' I'=>⟨.int kvs.length,H,I',⟨t,rfl⟩,q⟩
end
section
variable {κ:Type}[DecidableEq κ]
end
end L2
set_option maxHeartbeats 4000000
namespace Att
open PySem PySem.W PySem.Calls PyProof.Rows
theorem ye5 {ns:List Int}{z:Int}(h:(WData.list (ns.map WData.int)).layable=true)(hz:z∈ns):Builtin.Int.intBits z<=2 ^ 20:=by
 have h1:=layableW_item h (WData.int z) (ah.mpr ⟨z,hz,rfl⟩)
 obtain⟨_,_,h3⟩:=layableW_iff.mp h1
 simpa only[WData.weight,Builtin.Int.intBits] using h3
theorem attach_callB {l:OpenLaw}{n:Nat}{q:eV}{loose:List Str}{XP:(Str->Option Value)->Heap->Prop}{YP:eZ->Heap->Prop}{d:DefRec}
  (hn:l.most=some n) (hdf:d.params.defaults=[])
  (call:∀(w:eZ) (s₀ s₁:eS) (mg mb:Str->Option Value) (fa:Addr) (o:Obj) (pm cd doc:Value) (a:Addr) (vs:List Value) (ns:List Int),
   Ground q loose [] XP w s₀ mg mb s₁.heap->YP w s₁.heap ->
   s₁.heap.get? fa=some o->o.data=.func (docDef d.name d.params d.body d.scope pm cd doc)->s₁.heap.CodeRec cd d.name->mg d.name=some (.ref fa) ->
   s₁.heap.get? a=some { cls:=.type "list",data:=.seq vs.toArray }->IntsAre vs ns->ns.length<=n->(∀z∈ns,Builtin.Int.intBits z<=2 ^ 20)->s₁.gens=#[] ->
   codeAny (eY l.prog w) callerA (.call (.ref fa) ⟨[.ref a],[]⟩) (λr s'=>r=.ok (.ret (.bool true))/\OldK s₁.heap s'.heap/\s'.os=s₁.os/\AllBare s'.gens) s₁) :
  WalkO q loose XP YP l.row.toRowW d [] (λf vs=>PySem.call f vs):=by
 intro w s₀ s₁ mg mb G Y fa o pm cd doc dV kV ho hd hcd hD hmg hg args vals as hpre hlay hrd hwl hlo
 obtain rfl:dV=.none:=Dflts.none hD hdf
 obtain rfl:kV=.none:=Dflts.noKw hD
 obtain⟨a,vs,ns,rfl,rfl,hobj,hints,hlen⟩:=yh8 hn hpre hwl
 have hbits:∀z∈ns,Builtin.Int.intBits z<=2 ^ 20:=λz hz=>ye5 (layableW_arg hlay _ ax) hz
 refine enter_call (codeAny_mono (call w s₀ s₁ mg mb fa o pm cd doc a vs ns G Y ho (fd_plain hd) hcd hmg hobj hints hlen hbits hg) λr s' hq=>?_)
 obtain⟨rfl,h2,h3,h4⟩:=hq
 exact⟨.inl ⟨.bool true,.bool true,[],rfl,λ_=>rfl,.bool true,yh2 l _,λ_=>⟨List.Pairwise.nil,λ_ hm=>(nomatch hm)⟩⟩,h2,h3,h4⟩
end Att
namespace L2
open PySem PySem.Spec PyProof.Rows
theorem ya3 {i:Int}{n:Nat}(h:i.natAbs<2 ^ n):Builtin.Int.intBits i<=n:=by
 unfold Builtin.Int.intBits
 split
 ·exact aV _
 ·rename_i h0
  have hp:i.natAbs≠0:=by
   intro z
   apply h0
   rw[Int.natAbs_eq_zero.mp z]
   rfl
  have:=(Nat.log2_lt hp).mpr h
  lia
theorem zt6 {a b:Int}{n m:Nat}(ha:a.natAbs<2 ^ n)(hb:b.natAbs<2 ^ m)(h:n+m<=2 ^ 22):IntMulOk a b:=by
 have h1:=ya3 ha
 have h2:=ya3 hb
 have e:(2:Nat) ^ 22=4194304:=by decide
 have hz:Builtin.Int.intTooBig (Builtin.Int.intBits a+Builtin.Int.intBits b)=false:=by
  unfold Builtin.Int.intTooBig bitsLine
  exact decide_eq_false (by lia)
 unfold IntMulOk
 rw[hz]
 simp
section
variable {X:Cx}
theorem yc3:OpR X (binaryOp .Mult) (rI IntMulOk λi j=>.int (i*j)):=opI λi j t u s Q E h q=>mul_int q h
end
theorem yf5 {α β:Type}{l:List α}{f:α->β->Sem (ForInStep β)}{g:β->α->β}:∀(c:β),(∀x∈l,∀c,f x c=pure (.yield (g c x)))->forIn l c f=pure (l.foldl g c):=by
 induction l with
 | nil=>intro c _;rfl
 | cons x l ih =>
  intro c h
  rw[List.forIn_cons,h x ax,pure_bind]
  exact ih _ λy hy=>h y (av _ hy)
def g7 (cells:List (Str×Addr))(cs:List (Str×Addr))(x:Str×NameKind):List (Str×Addr):=if (x.2==NameKind.free)=true then(x.1,(cells.lookup x.1).getD 0)::cs else cs
def yj1 (cells:List (Str×Addr))(names:List (Str×NameKind)):List (Str×Addr):=names.foldl (g7 cells) []
theorem ze6 {scope:Scope}{env:Env}(h:∀y∈scope.names,y.2=.free->∃c,env.cells.lookup y.1=some c):closureFor scope env=pure (yj1 env.cells scope.names):=by
 simp only[closureFor]
 rw[yf5 (g:=g7 env.cells) [] (λx hx c=>by
  obtain⟨n,k⟩:=x
  by_cases hk:k=.free
  ·subst hk
   obtain⟨a,ha⟩:=h _ hx rfl
   have ha':env.cells.lookup n=some a:=ha
   simp only[g7,beq_self_eq_true,if_true,cellOf,ha',cp,pure_bind]
  ·have hb:(k==NameKind.free)=false:=by simpa using hk
   simp only[g7,hb,cE,if_false])]
 rfl
theorem zl4 {cells:List (Str×Addr)}:∀{names:List (Str×NameKind)} {cs:List (Str×Addr)},(∀y∈names,y.2=.free->∃c,cells.lookup y.1=some c)->(∀x c,cs.lookup x=some c->cells.lookup x=some c) ->
  ∀x c,(names.foldl (g7 cells) cs).lookup x=some c->cells.lookup x=some c
 | [],cs,_,h,x,c,e=>h x c e
 | (n,k)::r,cs,hn,h,x,c,e=>by
  refine zl4 (names:=r) (λy hy=>hn y (av _ hy)) (λx c e=>?_) x c e
  by_cases hk:k=.free
  ·subst hk
   obtain⟨a,ha⟩:=hn (n,.free) ax rfl
   have ha':cells.lookup n=some a:=ha
   simp only[g7,beq_self_eq_true,if_true,ha',cp,bh]at e
   cases q:x==n with
   | true =>
    rw[q]at e
    have q':x=n:=by simpa using q
    rw[q',ha']
    exact e
   | false =>
    rw[q]at e
    exact h x c e
  ·have hb:(k==NameKind.free)=false:=by simpa using hk
   simp only[g7,hb,cE,if_false]at e
   exact h x c e
theorem C9 {cells:List (Str×Addr)}{x:Str}:∀{names:List (Str×NameKind)} {cs:List (Str×Addr)},((x,NameKind.free)∈names∨∃c,cs.lookup x=some c)->∃c,(names.foldl (g7 cells) cs).lookup x=some c
 | [],cs,h=>by
  rcases h with h|h
  ·cases h
  ·exact h
 | (n,k)::r,cs,h=>by
  refine C9 (names:=r) (cs:=g7 cells cs (n,k)) ?_
  rcases h with h|⟨c,h⟩
  ·rcases au.mp h with e|e
   ·cases e
    right
    simp[g7]
   ·exact .inl e
  ·right
   by_cases hk:k=.free
   ·subst hk
    simp only[g7,beq_self_eq_true,if_true,bh]
    cases x==n with
    | true=>exact⟨_,rfl⟩
    | false=>exact⟨c,h⟩
   ·have hb:(k==NameKind.free)=false:=by simpa using hk
    simp only[g7,hb,cE,if_false]
    exact⟨c,h⟩
def zn9 (sc osc:Scope)(fr:List Str):Bool :=
 sc.kind == .function&&(sc.names.all λy=>y.2 != .cell)&&(sc.names.all λy=>y.2 != .local || sc.names.lookup y.1==some .local) &&
 (sc.names.all λy=>y.2 != .free || (osc.names.lookup y.1==some .cell || osc.names.lookup y.1==some .free))&&(fr.all λx=>sc.names.lookup x==some .free)
structure zw0 (sc osc:Scope) (fr:List Str):Prop where
 kind:sc.kind=.function
 cell:∀y∈sc.names,y.2≠.cell
 loc:∀y∈sc.names,y.2=.local->sc.names.lookup y.1=some .local
 free:∀y∈sc.names,y.2=.free->osc.names.lookup y.1=some .cell∨osc.names.lookup y.1=some .free
 fr:∀x∈fr,sc.names.lookup x=some .free
theorem yf0 {sc osc:Scope}{fr:List Str}(h:zn9 sc osc fr=true):zw0 sc osc fr:=by
 unfold zn9 at h
 rw[bR,bR,bR,bR]at h
 obtain⟨⟨⟨⟨h1,h2⟩,h3⟩,h4⟩,h5⟩:=h
 refine⟨by simpa using h1,λy hy=>?_,λy hy e=>?_,λy hy e=>?_,λx hx=>?_⟩
 ·simpa using bo.mp h2 y hy
 ·have:=bo.mp h3 y hy
  rw[e]at this
  simpa using this
 ·have:=bo.mp h4 y hy
  rw[e]at this
  simpa using this
 ·simpa using bo.mp h5 x hx
theorem mem_of_lookup {x:Str}{k:NameKind}:∀{l:List (Str×NameKind)},l.lookup x=some k->(x,k)∈l
 | [],h=>by cases h
 | (n,j)::r,h=>by
  rw[bh]at h
  cases q:x==n with
  | true =>
   rw[q]at h
   have q':x=n:=by simpa using q
   cases h
   rw[q']
   exact ax
  | false =>
   rw[q]at h
   exact av _ (mem_of_lookup h)
theorem W9 {env:Env}:∀{names:List (Str×NameKind)} {x:Str},names.lookup x=some .free ->
  (names.map λ(n,k)=>if (k==NameKind.free&&env.scope.kind == .function&&env.kindOf n==some .cell) then(n,NameKind.cell) else(n,k)).lookup x=some .cell ∨
  (names.map λ(n,k)=>if (k==NameKind.free&&env.scope.kind == .function&&env.kindOf n==some .cell) then(n,NameKind.cell) else(n,k)).lookup x=some .free
 | [],_,h=>by cases h
 | (n,k)::r,x,h=>by
  have ih:=@W9 env r x
  show List.lookup x ((if (k==NameKind.free&&env.scope.kind == .function&&env.kindOf n==some .cell)=true then(n,NameKind.cell) else(n,k))::_)=_∨List.lookup x ((if (k==NameKind.free&&env.scope.kind == .function&&env.kindOf n==some .cell)=true then(n,NameKind.cell) else(n,k))::_)=_
  rw[bh]at h
  by_cases hc:(k==NameKind.free&&env.scope.kind == .function&&env.kindOf n==some .cell)=true
  ·rw[if_pos hc]
   simp only[bh]
   cases hx:x==n with
   | true=>exact .inl rfl
   | false=>rw[hx]at h;exact ih h
  ·rw[if_neg hc]
   simp only[bh]
   cases hx:x==n with
   | true=>rw[hx]at h;exact .inr h
   | false=>rw[hx]at h;exact ih h
def Y9 (X:Cx)(N':List Str)(scope:Scope)(C:Addr)(s₃:eS)(H₃:Hp)(fp:List Addr):Cx where
 prog:=X.prog
 w:=X.w
 K:=X.K
 mg:=X.mg
 base:=X.base
 A:=X.A
 N:=N'
 s₀:=s₃
 H₀:=H₃
 env:=compEnvC scope (yj1 X.env.cells scope.names) C X.env
 outer:=X.stack
 stack:=X.stack
 ex:=fp
 fn:=λ_=>false
 calm:=X.calm
 pn:=[]
 xe:=λ_ _=>False
def P5 (own:Nat)(fr:List Nat)(σ:St):St:=List.replicate own none++fr.map λj=>(σ[j]?).getD none
section
variable {X:Cx}{pins:List (Addr×Obj)}{σ:St}{H:Hp}{s:eS}
theorem yk8 {N':List Str}{own:Nat}{fr:List Nat}{scope:Scope}{fp:List Addr}{h₁:Heap}{m:Str->Option Value}{t:Nat}{oD:Obj}(I:Inv X pins σ H s)(hf:∀b∈fp,G8 X pins H b)(hob:∀b∈fp,∃o,s.heap.get? b=some o)
  (hok:zw0 scope X.env.scope (N'.drop own)) (hfr:fr.map (λj=>X.N[j]?)=(N'.drop own).map some) (hown:own<=N'.length)
  (hn:h₁.Ns s.heap.objs.size m) (hsb:Heap.SameBut s.heap.objs.size (s.heap.push oD) h₁) :
  Inv (Y9 X N' scope s.heap.objs.size s H fp) [] (P5 own fr σ) H { s with heap:=h₁,toks:=t }:=by
 have cellsSub:∀x c,(yj1 X.env.cells scope.names).lookup x=some c->X.env.cells.lookup x=some c:=λx c e =>
  zl4 (λy hy hk=>I.ok.has y.1 (hok.free y hy hk)) (λx c e=>by cases e) x c e
 have up:∀b o,s.heap.get? b=some o->h₁.get? b=some o:=λb o e=>(hsb.2 b (aS (ay e))).trans (ar _ e)
 have hlen:fr.length=(N'.drop own).length:=by
  have:=congrArg List.length hfr
  simpa using this
 have okX:(Y9 X N' scope s.heap.objs.size s H fp).Ok :=
  {mod:=I.ok.mod
   kind:=hok.kind
   glob:=I.ok.glob
   blt:=I.ok.blt
   above:=aq _
   inj:=λx y c e1 e2=>I.ok.inj x y c (cellsSub x c e1) (cellsSub y c e2)
   has:=λx hk=>by
    have hk':(relabel scope X.env).names.lookup x=some .cell∨(relabel scope X.env).names.lookup x=some .free:=hk
    have key:(x,NameKind.free)∈scope.names:=by
     have all:∀(l:List (Str×NameKind)),(∀y∈l,y.2≠.cell)->((l.map λ(n,k)=>if (k==NameKind.free&&X.env.scope.kind == .function&&X.env.kindOf n==some .cell) then(n,NameKind.cell) else(n,k)).lookup x=some .cell ∨
       (l.map λ(n,k)=>if (k==NameKind.free&&X.env.scope.kind == .function&&X.env.kindOf n==some .cell) then(n,NameKind.cell) else(n,k)).lookup x=some .free)->(x,NameKind.free)∈l:=by
      intro l
      induction l with
      | nil=>intro _ h;rcases h with h|h <;> cases h
      | cons p r ih =>
       obtain⟨n,k⟩:=p
       intro hc h
       have hr:∀y∈r,y.2≠.cell:=λy hy=>hc y (av _ hy)
       have hkc:k≠.cell:=hc (n,k) ax
       rw[aT]at h
       by_cases hx:(x==n)=true
       ·have hx':x=n:=by simpa using hx
        subst hx'
        by_cases hk:k=.free
        ·subst hk
         exact ax
        ·exfalso
         have hb:(k==NameKind.free)=false:=by simpa using hk
         simp[hb,bh]at h
         rcases h with h|h
         ·exact hkc h
         ·exact hk h
       ·have hx0:(x==n)=false:=by simpa using hx
        refine av _ (ih hr ?_)
        by_cases hc:(k==NameKind.free&&X.env.scope.kind == .function&&X.env.kindOf n==some .cell)=true
        ·simp only[hc,if_true,bh,hx0]at h
         exact h
        ·have hc':(k==NameKind.free&&X.env.scope.kind == .function&&X.env.kindOf n==some .cell)=false:=by simpa using hc
         simp only[hc',cE,if_false,bh,hx0]at h
         exact h
     exact all scope.names hok.cell hk'
    exact C9 (.inl key)
   cab:=λx c e=>by cases e
   hd:=I.ok.hd
   frames:=I.ok.frames
   stk:=.inl rfl
   exf:=λb hb=>⟨λe=>by
     obtain⟨o,ho⟩:=hob b hb
     exact absurd (ay ho) (by rw[e];exact aW _),λx c e=>(hf b hb).2.2.2.2.1 x c (cellsSub x c e)⟩
   bs:=I.bs
   bsz:=aX I.ok.bsz I.sz
   noex:=λb o e hb=>by
    rcases (hf b hb).2.2.2.1 with z|z
    ·exact I.ok.noex b o e z
    ·exact absurd (ay (I.ok.bs b o e).1) (cX.mpr z)
   exfs:=λb hb z=>by
    rcases au.mp (I.stkSub b z) with e|e
    ·exact(hf b hb).2.1 e
    ·exact(hf b hb).2.2.1 e
   funs:=I.stack
   frf:=I.stkFree }
 refine⟨okX,rfl,I.bare,Un.kept up,⟨m,hn,λi x v e1 e2 e3=>?_⟩,λx c e=>?_,I.hok.fresh (aq _),λx c e=>I.freeC x c (cellsSub x c e),λp hp=>(by cases hp),I.hok.kept up,?_⟩
 ·have e2':(List.replicate own none++fr.map λj=>(σ[j]?).getD none)[i]?=some (some v):=e2
  by_cases hi:i<own
  ·rw[aI (by simpa using hi),cM]at e2'
   rw[if_pos hi]at e2'
   cases e2'
  ·rw[aN (by simpa using bU hi),cr,ag]at e2'
   cases hj:fr[i-own]? with
   | none=>rw[hj]at e2';cases e2'
   | some j =>
    rw[hj]at e2'
    have e4:(σ[j]?).getD none=some v:=by simpa using e2'
    have e5:σ[j]?=some (some v):=by
     cases q:σ[j]? with
     | none=>rw[q]at e4;cases e4
     | some z=>rw[q]at e4;simpa using e4
    have e6:N'[own+(i-own)]?=some x:=by
     rw[show own+(i-own)=i by lia]
     exact e1
    have e7:(N'.drop own)[i-own]?=some x:=by rw[cV];exact e6
    have e8:X.N[j]?=some x:=by
     have q:=congrArg (λl=>l[i-own]?) hfr
     simp only[ag,hj,e7,eA]at q
     simpa using q
    have hx:=hok.fr x (aw e7)
    have hmem:=mem_of_lookup hx
    have hout:=hok.free _ hmem rfl
    obtain⟨mX,_,hl⟩:=I.loc
    obtain⟨u,r,l⟩:=hl j x v e8 e5 (.inr hout)
    refine⟨u,r,?_⟩
    rcases l with⟨k,_⟩|⟨_,c,ec,z⟩
    ·have k':X.env.scope.names.lookup x=some .local:=k
     rcases hout with q|q <;> (have q':X.env.scope.names.lookup x=_:=q;rw[k']at q';cases q')
    ·obtain⟨c',ec'⟩:=C9 (cells:=X.env.cells) (cs:=[]) (.inl hmem)
     have q:=cellsSub x c' ec'
     rw[ec]at q
     cases q
     obtain⟨o,ho,hd⟩:=z
     exact .inr ⟨W9 hx,c,ec',o,up c o ho,hd⟩
 ·obtain⟨v,o,ho,hd⟩:=I.cell x c (cellsSub x c e)
  exact⟨v,o,up c o ho,hd⟩
 ·show(List.replicate own none++fr.map λj=>(σ[j]?).getD none).length=N'.length
  rw[af,cr,aa,hlen,cu]
  lia
end
section
variable {prog:eV}{w:eZ}{A:fc}{s:eS}
theorem O4 {elt target iter:Expr}{scope:Scope}{pos:Pos}{it acc:Value}{env:Env}{R:Result->eS->Prop}(I:Nat->eS->Prop)
  (turn:∀n s,I n s->eW (eY prog w) A (pyNext it) (λr s₁=>match r with
   | none=>R (.ok .next) s₁
   | some v=>eW (eY prog w) A (letOwnedTupleGo target it v) (λ_ s₁'=>eW (eY prog w) A (assign target env v) (λ_ s₂=>eW (eY prog w) A (eval elt env) (λx s₃ =>
     eW (eY prog w) A (call (.builtin "list.append") [acc,x]) (λ_ s₄=>∃m,m<n/\I m s₄) (notedBy (eY prog w) A env λe s'=>R (.error e) s') s₃)
     (notedBy (eY prog w) A env λe s'=>R (.error e) s') s₂) (notedBy (eY prog w) A env λe s'=>R (.error e) s') s₁') (notedBy (eY prog w) A env λe s'=>R (.error e) s') s₁) (notedBy (eY prog w) A env λe s'=>R (.error e) s') s)
  (n:Nat) (h:I n s):codeAny (eY prog w) A (.compLoop (.ListComp elt [⟨target,iter,[],0⟩] scope pos) 0 it acc env) R s:=by
 refine codeAny_loop rfl I (λn s hI=>?_) n h
 show eW _ _ ((compTurn (.ListComp elt [⟨target,iter,[],0⟩] scope pos) 0 it acc env).onRaise (λx=>do noteFrame x env;theTreesLotGoes x)) _ _ s
 refine wpAny_noted ?_
 rw[compTurn_list1]
 refine eR (wpAny_standAt (eR (fg (turn n s hI) (λr s₁ h₁=>?_) λ_ _ h'=>h')))
 cases r with
 | none=>exact eT h₁
 | some v =>
  refine eR (fg h₁ (λ_ s₁' h₁'=>?_) λ_ _ h'=>h')
  exact eR (fg h₁' (λ_ s₂ h₂=>eR (eR (fg h₂ (λx s₃ h₃=>eR (fg h₃
   (λ_ s₄ h₄=>eT (eT ⟨rfl,h₄⟩)) λ_ _ h'=>h')) λ_ _ h'=>h'))) λ_ _ h'=>h')
end
abbrev CT (α:Type):=Addr->eS->Hp->List Addr->α
def yp8 (own:Nat)(fr:List Nat)(wi:TI)(g:CT TG)(te:CT TE)(σ:St)(H:Hp)(Q:Addr->Hp->Prop):Prop:=wi σ H λJ H1=>∀D,H1 D=none ->
 ∃W:Nat->Nat->St->Hp->Prop,(∃m,W 0 m (P5 own fr σ) (upd H1 D (.lst [])))/\∀i m σ' H',W i m σ' H' ->
  (J.stop i H'/\Q D H')∨(J.go i H'/\∀x H2,J.yld i H' x H2->∀C₀ s₀ H₀ fp,g C₀ s₀ H₀ fp x σ' H2 λσ3 H3=>∃N:VK,te C₀ s₀ H₀ fp σ3 H3 N/\∀y H4,N y H4 ->
   ∃ys m',H4 D=some (.lst ys)/\ys.length<eU/\m'<m/\W (i+1) m' σ3 (upd H4 D (.lst (ys++[y]))))
def yv0 (own:Nat)(fr:List Nat)(wi:TI)(g:CT TG)(te:CT TE):TE:=λσ H Q=>yp8 own fr wi g te σ H λD H'=>Q (.ref D) H'
def xa5 (X:Cx)(pins:List (Addr×Obj))(H:Hp)(C:Addr):Prop :=
 H C=none/\C≠X.env.locals/\X.s₀.heap.objs.size<=C/\(∀x c,X.env.cells.lookup x=some c->c≠C)/\∀p∈X.pn++pins,p.1≠C
section
variable {X:Cx}{own:Nat}{fr:List Nat}{N':List Str}{tg iter elt:Expr}{scope:Scope}{pos:Pos}{wi:TI}{g:CT TG}{te:CT TE}
theorem yj3 {pins:List (Addr×Obj)}{s:eS}{σ:St}{H:Hp}{Q:Addr->Hp->Prop}{use:Option (Value->Sem Unit)}{Q':Value->eS->Prop}{pos':Pos}(hc:X.calm=true)(hi:PI X tg iter wi)(hg:∀C s₃ H₃ fp,PG (Y9 X N' scope C s₃ H₃ fp) tg (g C s₃ H₃ fp))(he:∀C s₃ H₃ fp,PE (Y9 X N' scope C s₃ H₃ fp) elt (te C s₃ H₃ fp))
  (hok:zw0 scope X.env.scope (N'.drop own)) (hfr:fr.map (λj=>X.N[j]?)=(N'.drop own).map some) (hown:own<=N'.length) (hs:∀x,foldedSetIterable iter X.env x=pure x)
  (I:Inv X pins σ H s) (h:yp8 own fr wi g te σ H Q)
  (fin:∀D C m H' s',Inv X pins σ H' s'->s'.heap.Ns C m->xa5 X pins H' C->Q D H'->compPost (eY X.prog X.w) X.A X.xe use Q' (.ref D) C (.ok .next) s') :
  eW (eY X.prog X.w) X.A (comprehension (.ListComp elt [⟨tg,iter,[],0⟩] scope pos) scope X.env pos' (newList []) false (eval iter X.env) use) Q' X.xe s:=by
 refine wpAny_comprehension_free rfl hs (ze6 λy hy hk=>I.ok.has y.1 (hok.free y hy hk)) hok.kind hok.loc (thn (hi pins s σ H _ I h) λxv s1 h1=>thn h1 λitv s2 h2=>?_)
 obtain⟨it,fp,tn,J,H2,e,I2,T,st2,f2,body⟩:=h2
 subst e
 refine wpAny_newList (items:=[]) ?_
 have hD:H2 s2.heap.objs.size=none:=I2.hok.fresh (aq _)
 have I3:Inv X pins σ (upd H2 s2.heap.objs.size (.lst [])) { s2 with heap:=s2.heap.push { cls:=.type "list",data:=.seq ([]:List Value).toArray } }:=I2.lnew (its:=[]) (t':=s2.toks) .nil (by decide)
 obtain⟨W,⟨m0,w0⟩,turn⟩:=body _ hD
 generalize hDD:s2.heap.objs.size=D at hD I3 w0 turn ⊢
 have up3:∀b o,s2.heap.get? b=some o->(s2.heap.push { cls:=.type "list",data:=.seq ([]:List Value).toArray }).get? b=some o:=λb o e=>ar _ e
 have st3:tn 0 (s2.heap.push { cls:=.type "list",data:=.seq ([]:List Value).toArray }):=T.keep _ _ _ st2 λb _ o e=>up3 b o e
 have fpne:∀b∈fp,b≠D:=λb hb e=>by
  obtain⟨o,ho,_⟩:=T.obj _ _ st2 b hb
  rw[e,←hDD]at ho
  exact absurd (ay ho) (aW _)
 have f3:∀b∈fp,G8 X pins (upd H2 D (.lst [])) b:=λb hb=>⟨by rw[z5 (fpne b hb)];exact(f2 b hb).1,(f2 b hb).2⟩
 generalize hs3:({ s2 with heap:=s2.heap.push { cls:=.type "list",data:=.seq ([]:List Value).toArray } }:eS)=s3 at I3 ⊢
 have st3':tn 0 s3.heap:=by rw[←hs3];exact st3
 generalize upd H2 D (.lst [])=H3 at I3 f3 w0
 have hob:∀b∈fp,∃o,s3.heap.get? b=some o:=λb hb=>let ⟨o,ho,_⟩:=T.obj _ _ st3' b hb;⟨o,ho⟩
 refine wpAny_newFunctionEnv hok.cell (by intro y hy;simp at hy) (λh₁ hns₁ hsb₁=>?_) hok.kind
 have up4:∀b o,s3.heap.get? b=some o->h₁.get? b=some o:=λb o e=>(hsb₁.2 b (aS (ay e))).trans (ar _ e)
 have I4:=yk8 (N':=N') (own:=own) (fr:=fr) (scope:=scope) (t:=s3.toks+([]:List (Str×Value)).length) I3 f3 hob hok hfr hown hns₁ hsb₁
 have st4:tn 0 h₁:=T.keep _ _ _ st3' λb _ o e=>up4 b o e
 have stat:∀{H':Hp} ,(∀b∈fp,H' b=none)->∀b∈fp,G8 (Y9 X N' scope s3.heap.objs.size s3 H3 fp) [] H' b:=λhn b hb=>by
  refine⟨hn b hb,(I4.ok.exf b hb).1,I4.ok.exfs b hb,.inl hb,(I4.ok.exf b hb).2,λp hp=>by cases hp⟩
 have loop:codeAny (eY X.prog X.w) X.A (.compLoop (.ListComp elt [⟨tg,iter,[],0⟩] scope pos) 0 (.ref it) (.ref D) (Y9 X N' scope s3.heap.objs.size s3 H3 fp).env)
   (compPost (eY X.prog X.w) X.A X.xe use Q' (.ref D) s3.heap.objs.size) { s3 with heap:=h₁,toks:=s3.toks+([]:List (Str×Value)).length }:=by
  refine O4 (λn s'=>∃i σ' H',Inv (Y9 X N' scope s3.heap.objs.size s3 H3 fp) [] σ' H' s'/\tn i s'.heap/\(∀b∈fp,H' b=none)/\W i n σ' H') ?_ m0 ⟨0,_,H3,I4,st4,λb hb=>(f3 b hb).1,w0⟩
  rintro n s5 ⟨i,σ5,H5,I5,st5,fr5,w5⟩
  rcases turn i n σ5 H5 w5 with⟨stop,q⟩|⟨go,step⟩
  ·refine thn (T.done (Y9 X N' scope s3.heap.objs.size s3 H3 fp) rfl rfl rfl hc i [] s5 σ5 H5 _ I5 (stat fr5) st5 stop) λr s6 ⟨hr,I6⟩=>?_
   subst hr
   obtain⟨m6,hn6,_⟩:=I6.loc
   have I7:Inv X pins σ H5 s6:=I3.call' (ch:=fp) (by have:=I6.os;exact this) I6.base I6.hok I6.bare λb hb=>⟨(f3 b hb).2.2.2.1,(f3 b hb).2.1,(f3 b hb).2.2.2.2.1,(f3 b hb).2.2.2.2.2⟩
   refine fin D s3.heap.objs.size m6 H5 s6 I7 hn6 ⟨I6.free,dQ I3.lt,I3.sz,λx c e z=>?_,λp hp z=>?_⟩ q
   ·obtain⟨v,z1⟩:=I3.cell x c e
    exact absurd z1.lt (by rw[z];exact aW _)
   ·exact absurd (ay (I3.pin p hp).1) (by rw[z];exact aW _)
  ·refine thn (T.item (Y9 X N' scope s3.heap.objs.size s3 H3 fp) rfl rfl rfl hc i [] s5 σ5 H5 _ I5 (stat fr5) st5 go) λr s6 ⟨u,hr,h6⟩=>?_
   subst hr
   refine thn h6 λ_ s7 ⟨x,H7,I7,r7,y7,st7,fr7⟩=>?_
   have I7':=I7.pinned (stat fr7) (T.obj _ _ st7)
   refine fg (hg _ _ _ _ _ s7 σ5 H7 x u _ I7' r7 (step x H7 y7 _ _ _ _)) (λ_ s8 ⟨σ8,H8,I8,N,q8,hN⟩=>?_) λ_ _ z=>z.elim
   refine fg (he _ _ _ _ _ s8 σ8 H8 N I8 q8) (λyv s9 ⟨y,H9,I9,r9,n9⟩=>?_) λ_ _ z=>z.elim
   obtain⟨ys,m',hD9,hlt,hm,w9⟩:=hN y H9 n9
   refine fg (d0 (X:=Y9 X N' scope s3.heap.objs.size s3 H3 fp) _ s9 σ8 H9 (.ref D) [y] (.ref D) [yv] (λ_ H'=>H'=upd H9 D (.lst (ys++[y]))) I9 rfl (.cons r9 .nil) ⟨D,ys,y,rfl,rfl,hD9,hlt,rfl⟩) (λ_ s10 ⟨_,H10,I10,_,q10⟩=>?_) λ_ _ z=>z.elim
   subst q10
   have pin:=λb hb o e=>I10.pin (b,o) (aD _ (aD _ (V9 (h:=s7.heap) (fp:=fp) hb e)))
   refine⟨m',hm,i+1,σ8,_,I10.unpinned,T.keep _ _ _ st7 λb hb o e=>(pin b hb o e).1,λb hb=>?_,w9⟩
   obtain⟨o,e,d⟩:=T.obj _ _ st7 b hb
   exact(pin b hb o e).2.1
 exact codeAny_compStart_list loop (T.self X.A 0 _ _ _ st4 loop)
theorem ys4 (own:Nat)(fr:List Nat)(N':List Str)(hc:X.calm=true)(hi:PI X tg iter wi)(hg:∀C s₃ H₃ fp,PG (Y9 X N' scope C s₃ H₃ fp) tg (g C s₃ H₃ fp))(he:∀C s₃ H₃ fp,PE (Y9 X N' scope C s₃ H₃ fp) elt (te C s₃ H₃ fp))
  (hok:zn9 scope X.env.scope (N'.drop own)=true:=by rfl) (hfr:fr.map (λj=>X.N[j]?)=(N'.drop own).map some:=by rfl) (hown:own<=N'.length:=by decide) (hs:∀x,foldedSetIterable iter X.env x=pure x:=by intro _;rfl) :
  PE X (.ListComp elt [⟨tg,iter,[],0⟩] scope pos) (yv0 own fr wi g te):=by
 intro pins s σ H Q I h
 rw[eval_ListComp]
 refine yj3 (use:=none) hc hi hg he (yf0 hok) hfr hown hs I h λD C m H' s' I' hn sp q=>?_
 refine⟨m,hn,λh' sb=>⟨.ref D,H',?_,rfl,q⟩⟩
 exact I'.turned (t':=s'.toks) (λb o hb e=>(sb.2 b hb).trans e) sp.1 sp.2.1 (.inr sp.2.2.1) sp.2.2.2.1 sp.2.2.2.2
theorem i5 {x:Str}{px:Pos}(fr:List Nat)(N':List Str)(hc:X.calm=true)(hi:PI X (.Name x px) iter wi)(he:∀C s₃ H₃ fp,PE (Y9 X N' scope C s₃ H₃ fp) elt (te C s₃ H₃ fp))(hN:N'.Nodup:=by decide +kernel)(h0:N'[0]?=some x:=by rfl)(hx:scope.names.lookup x=some .local:=by rfl)
  (hok:zn9 scope X.env.scope (N'.drop 1)=true:=by rfl) (hfr:fr.map (λj=>X.N[j]?)=(N'.drop 1).map some:=by rfl) (hown:1<=N'.length:=by decide) (hs:∀x,foldedSetIterable iter X.env x=pure x:=by intro _;rfl) :
  PE X (.ListComp elt [⟨.Name x px,iter,[],0⟩] scope pos) (yv0 1 fr wi (λ_ _ _ _=>u9 0) te) :=
 ys4 1 fr N' hc hi (λ_ _ _ _=>k8 hN h0 (.inl (lookup_relabel_local hx)) (.inr (lookup_relabel_local hx))) he hok hfr hown hs
end
end L2
namespace PySem
open Sem (wp)
section
variable {prog:eV}{w:eZ}{A:fc}{E:Value->eS->Prop}{s:eS}
theorem K4 {Q:List Value->eS->Prop}{r:Addr}{a b c:Int}{t u v:Tok}{n:Nat}(hh:A.handled=none)(hr:IsRange s.heap r a b c t u v)(hsmall:Builtin.Range.small a b c=true)
  (hn:Builtin.Range.rangeSize a b c=n) (hlen:n<=2 ^ 24)
  (hQ:∀h' tk acc,(∀b o,s.heap.get? b=some o->h'.get? b=some o)->ItemsOf (λi v=>∃t,v=.int (a+i*c) t) acc n->Q acc.toList { s with heap:=h',toks:=tk }) :
  eW (eY prog w) A (collect (.ref r)) Q E s:=by
 unfold collect
 refine eR (wpAny_runValue (codeAny_builtin F.entry_proto_collect ?_))
 rw[Around.under_plainId F.plain_proto_collect _]
 show eW _ A.in1 (newList [] >>= λl=>again (.builtin "list.__iadd__" ⟨[l,.ref r],[]⟩)) _ _ s
 refine eR (wpAny_newObj_type ?_)
 refine eT ⟨plainId_quiet F.plain_list_iadd _,codeAny_builtin F.entry_list_iadd ?_⟩
 rw[Around.under_plainId F.plain_list_iadd _]
 show eW _ A.in1 (Builtin.List.listExtendWith (.ref s.heap.objs.size) (.ref r) (.ref s.heap.objs.size)) _ _ _
 have key:∀(r₁:Result) (s₁:eS),(r₁=.ok (.ret (.ref s.heap.objs.size))/\∃h' tk acc' c',s₁={ s with heap:=h',toks:=tk }/\(∀b o,s.heap.get? b=some o->h'.get? b=some o)/\h'.get? s.heap.objs.size=some { cls:=.type "list",dict:=none,data:=.seq acc' c',slots:=#[] }/\ItemsOf (λi v=>∃t,v=.int (a+i*c) t) acc' n) ->
   (match r₁ with
    | .ok (.ret v)=>eW (eY prog w) A (match v with
      | .ref a=>do
       match (←load a).data with
       | .seq xs _=>pure xs.toList
       | _=>unsupported "internal:collect"
      | _=>unsupported "internal:collect") Q E s₁
    | .ok _=>False
    | .error e=>E e s₁):=by
  rintro r₁ s₁ ⟨rfl,h',tk,acc',c',rfl,hk,hS',hacc⟩
  show eW _ A (load s.heap.objs.size >>= _) _ _ _
  refine eR (wpAny_load hS' ?_)
  exact eT (hQ h' tk acc' hk hacc)
 refine fg (wpAny_extend_range (s:={ s with heap:=s.heap.push { cls:=.type "list",data:=.seq ([]:List Value).toArray } }) (A:=A)
  (R:=λr₁ s₁=>r₁=.ok (.ret (.ref s.heap.objs.size))/\∃h' tk acc' c',s₁={ s with heap:=h',toks:=tk }/\(∀b o,s.heap.get? b=some o->h'.get? b=some o)/\h'.get? s.heap.objs.size=some { cls:=.type "list",dict:=none,data:=.seq acc' c',slots:=#[] }/\ItemsOf (λi v=>∃t,v=.int (a+i*c) t) acc' n)
  hh (ar _ hr) hsmall hn hlen s.heap.objs.size (.ref s.heap.objs.size) 0 (aC _ rfl) λh' tk acc' c' hk hS' hacc=>⟨rfl,h',tk,acc',c',rfl,λb o e=>hk b o (aS (ay e)) (ar _ e),hS',hacc⟩) (λfin s₁ h₁=>?_) λe s₁ h₁=>key _ _ h₁
 cases fin with
 | done f=>exact key _ _ h₁
 | again c'=>exact⟨h₁.1,codeAny_mono h₁.2 λr₂ s₂ h₂=>key _ _ h₂⟩
open AutoSeq1 (wpAny_loadPart')
theorem O0 {r:Addr}{a b c:Int}{t u v:Tok}{n:Nat}(hsmall:Builtin.Range.small a b c=true)(hn:Builtin.Range.rangeSize a b c=n)(hlen:n<=2 ^ 24)(hsz:n<=eU) :
  Meets (Builtin.«tuple.__new__» ⟨[.type "tuple",.ref r],[]⟩)
   (λA R s=>A.handled=none/\IsRange s.heap r a b c t u v/\∀(h':Heap) (tk:Nat) (acc:Array Value),(∀b o,s.heap.get? b=some o->h'.get? b=some o)->ItemsOf (λi v=>∃t,v=.int (a+i*c) t) acc n ->
    R (.ok (.ret (.ref h'.objs.size))) { s with heap:=h'.push { cls:=.type "tuple",data:=.seq acc },toks:=tk }) :=
 .of_wp λprog w A R s h=>by
  obtain⟨hh,hr,h⟩:=h
  have hsub:=sub_tuple_self
  have hinit:=init_tuple_lookup
  have hmh:=madeHere_tuple
  have hT:s.TypeIs (.ref r) "range":=⟨_,hr,rfl⟩
  have hh1:A.in1.handled=none:=hh
  wp_walk using wpAny_typeOf hT,K4 hh1 hr hsmall hn hlen
  intro h' tk acc hk hacc
  show eW _ _ (Builtin.Tuple.tupleExact acc.toList.toArray >>= λv=>ret v) _ _ _
  unfold Builtin.Tuple.tupleExact
  refine eR (wpAny_newObj_type ?_ (show acc.toList.toArray.size<=eU by simp only[Array.toArray_toList];rw[hacc.1];exact hsz))
  refine eT ⟨_,rfl,?_⟩
  have e:acc.toList.toArray=acc:=by simp
  rw[e]
  exact h h' tk acc hk hacc
theorem C7 {Q:Value->eS->Prop}{r:Addr}{a b c:Int}{t u v:Tok}{n:Nat}(hh:A.handled=none)(hr:IsRange s.heap r a b c t u v)(hsmall:Builtin.Range.small a b c=true)
  (hn:Builtin.Range.rangeSize a b c=n) (hlen:n<=2 ^ 24) (hsz:n<=eU)
  (h:∀(h':Heap) (tk:Nat) (acc:Array Value),(∀b o,s.heap.get? b=some o->h'.get? b=some o)->ItemsOf (λi v=>∃t,v=.int (a+i*c) t) acc n->Q (.ref h'.objs.size) { s with heap:=h'.push { cls:=.type "tuple",data:=.seq acc },toks:=tk }) :
  eW (eY prog w) A (call (.type "tuple") [.ref r]) Q E s :=
 callType_new F.called_tuple (by decide) (F.typeCall_tuple_1 _) (F.newCall_tuple_1 _) (λobj=>F.args_object_init_2 obj _) F.entry_tuple_new
  (O0 hsmall hn hlen hsz) ⟨hh,hr,λh' tk acc hk hacc=>⟨⟨_,aC _ rfl,rfl⟩,h h' tk acc hk hacc⟩⟩
end
end PySem
namespace L2
open PySem PySem.Spec PyProof.Rows
theorem K8:∀{xs:List V} {us:List Value},xs.length=us.length->(∀(i:Nat) x u,xs[i]?=some x->us[i]?=some u->u0 x u)->v9 xs us
 | [],[],_,_=>.nil
 | [],_::_,h,_=>by cases h
 | _::_,[],h,_=>by cases h
 | x::xs,u::us,h,r=>.cons (r 0 x u rfl rfl) (K8 (by simpa using h) λi y w e1 e2=>r (i+1) y w (by simpa using e1) (by simpa using e2))
def Z8 (lo:Int)(n:Nat):List V:=(List.range n).map λi=>V.int (lo+(i:Nat))
theorem X6 (lo:Int)(n:Nat):(Z8 lo n).length=n:=by unfold Z8;rw[aa,az]
theorem zj0 {acc:Array Value}{lo:Int}{n:Nat}(h:ItemsOf (λi v=>∃t,v=.int (lo+i*1) t) acc n):v9 (Z8 lo n) acc.toList:=by
 obtain⟨h1,h2⟩:=h
 refine K8 (by rw[X6,cA,h1]) λi x u e1 e2=>?_
 have hi:i<n:=by
  have:=(ap.mp e1).1
  rwa [X6]at this
 obtain⟨t,rfl⟩:=h2 i u (by simpa using e2)
 unfold Z8 at e1
 rw[ag,aM hi]at e1
 cases e1
 exact⟨t,by rw[Int.mul_one]⟩
section
variable {X:Cx}
theorem L4:U7 X (.type "range") (λxs H Q=>∃j,xs=[.int j]/\∀p,H p=none->Q (.ref p) (upd H p (.rng 0 j))):=by
 intro pins s σ H xs us Q I r h
 obtain⟨j,rfl,q⟩:=h
 obtain⟨u,rfl,t,rfl⟩:=C1 r
 exact call_range_1 ⟨.ref s.heap.objs.size,_,I.laid (λb o e=>ar _ e) (aq _) (show p9 X.prog X.w _ _ _ (.rng 0 j) from⟨_,_,_,aC _ rfl⟩),rfl,q _ (I.hok.fresh (aq _))⟩
def yi8 (lo hi:Int):Prop:=-(2 ^ 62)<=lo/\lo<2 ^ 62/\-(2 ^ 62)<=hi/\hi<2 ^ 62/\(hi-lo).toNat<=1000000
theorem D7:1000000<=eU:=by decide
theorem T0 (hc:X.calm=true):U7 X (.type "list") (λxs H Q=>∃p lo hi,xs=[.ref p]/\H p=some (.rng lo hi)/\yi8 lo hi/\∀l,H l=none->Q (.ref l) (upd H l (.lst (Z8 lo (hi-lo).toNat)))):=by
 intro pins s σ H xs us Q I r h
 obtain⟨p,lo,hi,rfl,hp,⟨s1,s2,s3,s4,s5⟩,q⟩:=h
 obtain⟨u,rfl,rx⟩:=C1 r
 cases rx
 obtain⟨t,u,v,hr⟩:=I.hok p _ hp
 have hz:=D7
 refine call_list_range (n:=(hi-lo).toNat) (I.ok.hd hc) hr (small_one s1 s2 s3 s4) (by rw[rangeSize_one];split <;> lia) (by lia) λh' tk acc' c' kp hS hacc=>?_
 refine⟨.ref s.heap.objs.size,_,I.laid (t':=tk) kp (aq _) (show p9 X.prog X.w _ h' _ (.lst (Z8 lo (hi-lo).toNat)) from⟨by rw[X6];lia,acc'.toList,c',zj0 hacc,by simpa using hS⟩),rfl,q _ (I.hok.fresh (aq _))⟩
theorem ze3 (hc:X.calm=true):U7 X (.type "tuple") (λxs H Q=>∃p lo hi,xs=[.ref p]/\H p=some (.rng lo hi)/\yi8 lo hi/\∀l,H l=none->Q (.ref l) (upd H l (.tup (Z8 lo (hi-lo).toNat)))):=by
 intro pins s σ H xs us Q I r h
 obtain⟨p,lo,hi,rfl,hp,⟨s1,s2,s3,s4,s5⟩,q⟩:=h
 obtain⟨u,rfl,rx⟩:=C1 r
 cases rx
 obtain⟨t,u,v,hr⟩:=I.hok p _ hp
 have hz:=D7
 refine C7 (n:=(hi-lo).toNat) (I.ok.hd hc) hr (small_one s1 s2 s3 s4) (by rw[rangeSize_one];split <;> lia) (by lia) (by lia) λh' tk acc kp hacc=>?_
 have I1:Inv X pins σ H { s with heap:=h',toks:=tk }:=I.kept kp
 have I2:Inv X pins σ (upd H h'.objs.size (.tup (Z8 lo (hi-lo).toNat))) { s with heap:=h'.push { cls:=.type "tuple",data:=.seq acc },toks:=tk } :=
  I1.laid (t':=tk) (λb o e=>ar _ e) (aq _) (show p9 X.prog X.w _ _ _ (.tup (Z8 lo (hi-lo).toNat)) from⟨by rw[X6];lia,acc.toList,zj0 hacc,by simpa using zr8.new h' acc⟩)
 exact⟨.ref h'.objs.size,_,I2,rfl,q _ (I1.hok.fresh (aq _))⟩
theorem d9:U7 X (.builtin "isinstance") (λxs H Q=>∃x t c b,xs=[x,.ty c]/\P9 X.K H x t/\W.kitOne X.K t (.type c)=some b/\Q (.bl b) H):=by
 intro pins s σ H xs us Q I r h
 obtain⟨x,t,c,b,rfl,ty,e,q⟩:=h
 obtain⟨u,w',rfl,rx,rc⟩:=yq2 r
 cases (show w'=Value.type c from rc)
 exact yf8 I rx ty e λtk=>⟨.bl b,H,I.tok tk,rfl,q⟩
theorem zl6 {J:It}{fr:List Nat}{te:CT TE}{σ:St}{H1:Hp}{Q:Addr->Hp->Prop}{n:Nat}(ys:List V)(hn:ys.length=n)(hz:n<=eU)
  (hstop:∀H,y2 H1 H->J.stop n H) (hgo:∀i H,i<n->y2 H1 H->J.go i H)
  (turn:∀i H x H2,i<n->y2 H1 H->J.yld i H x H2->H2=H/\∀C₀ s₀ H₀ fp,te C₀ s₀ H₀ fp (some x::fr.map λj=>(σ[j]?).getD none) H λy H4=>y2 H H4/\ys[i]?=some y)
  (fin:∀D H,H1 D=none->y2 H1 H->H D=some (.lst ys)->Q D H) :
  ∀D,H1 D=none->∃W:Nat->Nat->St->Hp->Prop,(∃m,W 0 m (P5 1 fr σ) (upd H1 D (.lst [])))/\∀i m σ' H',W i m σ' H' ->
  (J.stop i H'/\Q D H')∨(J.go i H'/\∀x H2,J.yld i H' x H2->∀C₀ s₀ H₀ fp,u9 0 x σ' H2 λσ3 H3=>∃N:VK,te C₀ s₀ H₀ fp σ3 H3 N/\∀y H4,N y H4 ->
   ∃ys m',H4 D=some (.lst ys)/\ys.length<eU/\m'<m/\W (i+1) m' σ3 (upd H4 D (.lst (ys++[y])))):=by
 intro D hD
 have s0:∀o,y2 H1 (upd H1 D o):=λo b u e=>by rw[z5 (y0 e hD)];exact e
 refine⟨λi m σ' H'=>m=n-i/\i<=n/\y2 H1 H'/\H' D=some (.lst (ys.take i))/\∃z,σ'=z::fr.map λj=>(σ[j]?).getD none,⟨n,rfl,aV _,s0 _,by rw[z3];rfl,none,rfl⟩,?_⟩
 rintro i m σ' H' ⟨rfl,hi,sm,hl,z,rfl⟩
 by_cases hlt:i<n
 ·refine .inr ⟨hgo i H' hlt sm,λx H2 y C₀ s₀ H₀ fp=>?_⟩
  obtain⟨e,q⟩:=turn i H' x H2 hlt sm y
  subst e
  refine⟨_,q C₀ s₀ H₀ fp,λy H4 ⟨s4,e4⟩=>⟨ys.take i,n-(i+1),s4 _ _ hl,?_,by lia,rfl,hlt,?_,?_,_,rfl⟩⟩
  ·rw[bj];lia
  ·intro b u e
   rw[z5 (y0 e hD)]
   exact s4 _ _ (sm _ _ e)
  ·rw[z3,bG,e4]
   rfl
 ·have e:i=n:=by lia
  subst e
  refine .inl ⟨hstop H' sm,fin D H' hD sm ?_⟩
  rw[hl,bL (by lia)]
theorem y2.seqT {K:W.Frag}{H H':Hp}{a:Addr}{xs:List V}(e:y2 H H')(h:SqT K H a xs):SqT K H' a xs:=by
 rcases h with (h|⟨o,h⟩)|h
 ·exact .inl (.inl (e _ _ h))
 ·exact .inl (.inr ⟨o,e _ _ h⟩)
 ·exact .inr h
theorem zs4 {K:PySem.W.Frag}{a:Addr}{xs:List V}{fr:List Nat}{te:CT TE}{σ:St}{H1:Hp}{Q:Addr->Hp->Prop}(hS:SqT K H1 a xs)(ys:List V)(hn:ys.length=xs.length)(hz:xs.length<=eU)
  (turn:∀(i:Nat) H x,xs[i]?=some x->y2 H1 H->∀C₀ s₀ H₀ fp,te C₀ s₀ H₀ fp (some x::fr.map λj=>(σ[j]?).getD none) H λy H4=>y2 H H4/\ys[i]?=some y)
  (fin:∀D H,H1 D=none->y2 H1 H->H D=some (.lst ys)->Q D H) :
  ∀D,H1 D=none->∃W:Nat->Nat->St->Hp->Prop,(∃m,W 0 m (P5 1 fr σ) (upd H1 D (.lst [])))/\∀i m σ' H',W i m σ' H' ->
  ((Itt K a).stop i H'/\Q D H')∨((Itt K a).go i H'/\∀x H2,(Itt K a).yld i H' x H2->∀C₀ s₀ H₀ fp,u9 0 x σ' H2 λσ3 H3=>∃N:VK,te C₀ s₀ H₀ fp σ3 H3 N/\∀y H4,N y H4 ->
   ∃ys m',H4 D=some (.lst ys)/\ys.length<eU/\m'<m/\W (i+1) m' σ3 (upd H4 D (.lst (ys++[y])))) :=
 zl6 ys hn hz (λH s=>⟨xs,s.seqT hS,aq _⟩) (λi H hi s=>⟨xs,xs[i],s.seqT hS,by simp[hi]⟩) (λi H x H2 hi s y=>⟨y.1,turn i H x (y.2 xs (s.seqT hS)) s⟩) fin
theorem V7 {K:PySem.W.Frag}{a:Addr}{xs:List V}{fr:List Nat}{te:CT TE}{σ:St}{H1:Hp}{Q:Addr->Hp->Prop}(hS:SqL K H1 a xs)(ys:List V)(hn:ys.length=xs.length)(hz:xs.length<=eU)
  (turn:∀(i:Nat) H x,xs[i]?=some x->y2 H1 H->∀C₀ s₀ H₀ fp,te C₀ s₀ H₀ fp (some x::fr.map λj=>(σ[j]?).getD none) H λy H4=>y2 H H4/\ys[i]?=some y)
  (fin:∀D H,H1 D=none->y2 H1 H->H D=some (.lst ys)->Q D H) :
  ∀D,H1 D=none->∃W:Nat->Nat->St->Hp->Prop,(∃m,W 0 m (P5 1 fr σ) (upd H1 D (.lst [])))/\∀i m σ' H',W i m σ' H' ->
  ((Itl K a).stop i H'/\Q D H')∨((Itl K a).go i H'/\∀x H2,(Itl K a).yld i H' x H2->∀C₀ s₀ H₀ fp,u9 0 x σ' H2 λσ3 H3=>∃N:VK,te C₀ s₀ H₀ fp σ3 H3 N/\∀y H4,N y H4 ->
   ∃ys m',H4 D=some (.lst ys)/\ys.length<eU/\m'<m/\W (i+1) m' σ3 (upd H4 D (.lst (ys++[y])))) :=
 zl6 ys hn hz (λH s=>⟨xs,s.seq hS,aq _⟩) (λi H hi s=>⟨xs,xs[i],s.seq hS,by simp[hi]⟩) (λi H x H2 hi s y=>⟨y.1,turn i H x (y.2 xs (s.seq hS)) s⟩) fin
end
end L2
namespace PySem
open Sem (wp)
open AutoSeq1 (wpAny_loadPart')
section
variable {prog:eV}{w:eZ}{A:fc}{E:Value->eS->Prop}{s:eS}
theorem R5 {it t:Addr}{i:Nat}{items}{x:Value}{Q:Value->eS->Prop}(hit:s.heap.IsTupleIter it t i)(ht:s.heap.IsTuple t items)(hx:items[i]?=some x)
  (hQ:∀h',h'.IsTupleIter it t (i+1)->Heap.SameBut it s.heap h'->Q x { s with heap:=h' }):eW (eY prog w) A (Builtin.SmallTypes.nextOf (.ref it)) Q E s:=by
 obtain⟨o,ho,hc,hd⟩:=id hit
 obtain⟨ol,hol,_,nl,hdl⟩:=ht
 unfold Builtin.SmallTypes.nextOf
 refine eR (wpAny_callSpecial?_slot (name:=Str.ofString "__next__") hit.typeIs F.slot_tuple_iterator_next
  (wpAny_call_entry F.slot_tuple_iterator_next hit.typeIs F.entry_tuple_iterator_next ?_ (F.args_tuple_iterator_next_1 _)))
 show eW _ _ (field (.ref it) 0 >>= _) _ _ s
 refine eR (wpAny_field ho hd (x:=.ref t) rfl ?_)
 show eW _ _ (if (Value.ref t==Value.none)=true then _ else _) _ _ s
 rw[if_neg (show ¬((Value.ref t==Value.none)=true) from aJ)]
 show eW _ _ (field (.ref it) 1 >>= _) _ _ s
 refine eR (wpAny_field ho hd (x:=.int i 0) rfl ?_)
 show eW _ _ (seqItems? (.ref t) >>= _) _ _ s
 refine eR (wpAny_seqItems hol hdl ?_)
 simp only[cn,hx]
 refine eR (wpAny_setField ho hd (by simp) (eT ⟨x,rfl,eT (hQ _ ?_ (Heap.SameBut.update ..))⟩))
 exact⟨_,Heap.get?_update_self _ ho (Obj.isFreed_of_fields (Obj.data_mapFields hd _)),(Obj.cls_mapFields ..).trans hc,by
  rw[Obj.data_mapFields hd];simp[rawInt]⟩
theorem Y5 {it t:Addr}{i:Nat}{items}{Q:Value->eS->Prop}(hh:A.handled=none)
  (hit:s.heap.IsTupleIter it t i) (ht:s.heap.IsTuple t items) (hx:items[i]?=none)
  (hE:∀h' e,Heap.ExtBut it s.heap h'->(∃o,h'.get? e=some o/\o.cls=.type "StopIteration")->E (.ref e) { s with heap:=h' }) :
  eW (eY prog w) A (Builtin.SmallTypes.nextOf (.ref it)) Q E s:=by
 obtain⟨o,ho,hc,hd⟩:=id hit
 obtain⟨ol,hol,_,nl,hdl⟩:=ht
 unfold Builtin.SmallTypes.nextOf
 refine eR (wpAny_callSpecial?_slot (name:=Str.ofString "__next__") hit.typeIs F.slot_tuple_iterator_next
  (wpAny_call_entry F.slot_tuple_iterator_next hit.typeIs F.entry_tuple_iterator_next ?_ (F.args_tuple_iterator_next_1 _)))
 show eW _ _ (field (.ref it) 0 >>= _) _ _ s
 refine eR (wpAny_field ho hd (x:=.ref t) rfl ?_)
 show eW _ _ (if (Value.ref t==Value.none)=true then _ else _) _ _ s
 rw[if_neg (show ¬((Value.ref t==Value.none)=true) from aJ)]
 show eW _ _ (field (.ref it) 1 >>= _) _ _ s
 refine eR (wpAny_field ho hd (x:=.int i 0) rfl ?_)
 show eW _ _ (seqItems? (.ref t) >>= _) _ _ s
 refine eR (wpAny_seqItems hol hdl ?_)
 simp only[cn,hx]
 refine eR (wpAny_rule (eR (wpAny_setField ho hd (by simp) ?_)))
 show eW _ _ (newExc (.type "StopIteration") [] >>= _) _ _ _
 refine eR ?_
 simp only[newExc,newTuple]
 refine eR (wpAny_newObj_type ?_ (by size_fits))
 refine eR (m:=firstArgMember _ _) (wpAny_of_eq (a:=Value.none) (by first|rfl|(simp only[firstArgMember];rfl)) ?_)
 refine wpAny_newObj_type ?_ (by size_fits)
 simp only[raiseNew]
 refine eR (wpAny_handled ?_)
 first|rw[show A.in1.handled=none from hh]|rw[hh]
 refine eR (eT (wpAny_throw ?_))
 exact hE _ _ (((Heap.SameBut.update ..).extBut.push _).push _) ⟨_,aC _ rfl,rfl⟩
end
theorem Draws.tuple {prog:eV}{w:eZ}{A:fc}(hh:A.handled=none)(it l:Addr)(hne:l≠it)(items:Array Value) :
  Draws prog w A it [it,l] items.size (λi v=>items[i]?=some v) (λi h=>h.IsTupleIter it l i/\h.IsTuple l items) where
 live:=λ_ _ st=>let ⟨o,ho,_⟩:=st.1;⟨o,ho⟩
 frame:=λ_ _ _ st hk=>⟨st.1.at λo e=>hk it (by simp) o e,let ⟨o,ho,r⟩:=st.2;⟨o,hk l (by simp) o ho,r⟩⟩
 item:=λi s Q E hi st hQ=>by
  refine R5 st.1 st.2 (x:=items[i]) (by simp[hi]) λh' hit' hs'=>?_
  exact hQ _ h' s.toks (by simp[hi]) ⟨hit',st.2.extBut hs'.extBut hne⟩ hs'
 done:=λs Q E st hE=>Y5 hh st.1 st.2 (by simp) hE
theorem O9 (l:Addr)(items:Array Value)(n:Nat)(dct:Option Addr)(sl:Array (Option Value)) :
  Meets (Builtin.«enumerate.__new__» ⟨[.type "enumerate",.ref l],[]⟩) (λ_ R s=>s.heap.get? l=some { cls:=.type "tuple",dict:=dct,data:=.seq items n,slots:=sl } /\
   R (.ok (.ret (.ref (s.heap.push { cls:=.type "tuple_iterator",data:=.fields #[.ref l,.int 0 0] }).objs.size)))
    {s with heap:=(s.heap.push { cls:=.type "tuple_iterator",data:=.fields #[.ref l,.int 0 0] }).push { cls:=.type "enumerate",data:=.fields #[.none,.bool false,.ref s.heap.objs.size,rawInt 0,.none,.none] } }) :=
 .of_wp λprog w A R s h=>by
  obtain⟨hp,g,d,tk,os⟩:=s;obtain⟨hl,h⟩:=h
  have hsub:=sub_enumerate
  have hL:Heap.IsTuple (Shared.heap ⟨hp,g,d,tk,os⟩) l items:=⟨_,hl,rfl,n,rfl⟩
  wp_walk using wpAny_loadPart' hl
  refine wpAny_stack_any λst=>eT ?_
  split
  ·rename_i c _ _ _ _ _
   cases (c==Value.type "enumerate")
   ·wp_walk using wpAny_loadPart' hl,wpAny_pyIter_tuple hL
    exact⟨_,rfl,h⟩
   ·wp_walk using wpAny_loadPart' hl,wpAny_pyIter_tuple hL
    exact⟨_,rfl,h⟩
  ·wp_walk using wpAny_loadPart' hl,wpAny_pyIter_tuple hL
   exact⟨_,rfl,h⟩
section
variable {prog:eV}{w:eZ}{A:fc}{E:Value->eS->Prop}{s:eS}
theorem O3 {l:Addr}{items:Array Value}{Q:Value->eS->Prop}(hL:s.heap.IsTuple l items)
  (h:∀h',IsEnum h' (s.heap.objs.size+1) s.heap.objs.size 0 .none->h'.IsTupleIter s.heap.objs.size l 0->h'.objs.size=s.heap.objs.size+2 ->
   (∀b o,s.heap.get? b=some o->h'.get? b=some o)->Q (.ref (s.heap.objs.size+1)) { s with heap:=h' }) :
  eW (eY prog w) A (call (.type "enumerate") [.ref l]) Q E s:=by
 obtain⟨⟨c,dct,dt,sl⟩,hl,hc,n,hd⟩:=hL
 replace hc:c=.type "tuple":=hc
 replace hd:dt=.seq items n:=hd
 subst hc hd
 refine callType_new F.called_enumerate (by decide) (F.typeCall_enumerate_1 _) (F.newCall_enumerate_1 _) (λobj=>F.args_object_init_2 obj _) F.entry_enumerate_new
  (O9 l items n dct sl) ⟨hl,?_⟩
 have hz:(s.heap.push { cls:=.type "tuple_iterator",data:=.fields #[.ref l,.int 0 0] }).objs.size=s.heap.objs.size+1:=cR ..
 show _/\_
 rw[hz]
 have he:IsEnum ((s.heap.push { cls:=.type "tuple_iterator",data:=.fields #[.ref l,.int 0 0] }).push
   {cls:=.type "enumerate",data:=.fields #[.none,.bool false,.ref s.heap.objs.size,rawInt 0,.none,.none] }) (s.heap.objs.size+1) s.heap.objs.size 0 .none:=by
  have:=aC (s.heap.push { cls:=.type "tuple_iterator",data:=.fields #[.ref l,.int 0 0] })
   (o:={ cls:=.type "enumerate",data:=.fields #[.none,.bool false,.ref s.heap.objs.size,rawInt 0,.none,.none] }) rfl
  rw[hz]at this;exact this
 refine⟨⟨_,he,rfl⟩,h _ he ⟨_,ar _ (aC _ rfl),rfl,rfl⟩ (by rw[cR,hz]) λb o x=>ar _ (ar _ x)⟩
end
end PySem
namespace L2
open PySem PySem.Spec PyProof.Rows
section
variable {X:Cx}
theorem Inv.pair {pins:List (Addr×Obj)}{σ:St}{H:Hp}{s:eS}{h':Heap}{t':Nat}{e it:Addr}{xs:List V}{its:List Value}(I:Inv X pins σ H s)(fe:G8 X pins H e)(fi:G8 X pins H it)
  (k:∀b o,b≠e->b≠it->s.heap.get? b=some o->h'.get? b=some o) (hT:zr8 h' s.heap.objs.size its.toArray) (hv:v9 xs its) (hz:xs.length<=eU) :
  Inv X pins σ (upd H s.heap.objs.size (.tup xs)) { s with heap:=h',toks:=t' }:=by
 have fT:G8 X pins H s.heap.objs.size:=I.fpOk (aq _) (I.hok.fresh (aq _))
 have nT:∀b o,H b=some o->b≠s.heap.objs.size:=λb o q z=>by rw[z,fT.1]at q;cases q
 have ne:∀b o,H b=some o->b≠e:=λb o q z=>by rw[z,fe.1]at q;cases q
 have ni:∀b o,H b=some o->b≠it:=λb o q z=>by rw[z,fi.1]at q;cases q
 have ok:∀b∈[e,it,s.heap.objs.size],G8 X pins H b:=λb hb=>by
  simp only[au,aH,or_false]at hb
  rcases hb with rfl|rfl|rfl
  ·exact fe
  ·exact fi
  ·exact fT
 have out:∀b,b∉[e,it,s.heap.objs.size]->b≠e/\b≠it/\b≠s.heap.objs.size:=λb hb=>by
  simp only[au,aH,or_false,not_or]at hb
  exact hb
 refine I.step (g':=s.gens) (d':=s.drawn) (ch:=[e,it,s.heap.objs.size]) (λb hb=>⟨(ok b hb).2.2.2.1,(ok b hb).2.1,(ok b hb).2.2.2.2.1,(ok b hb).2.2.2.2.2⟩)
  (λb o _ _ hc q _=>k b o (out b hc).1 (out b hc).2.1 q) (λb o _ _ hc q _=>⟨o.slots,k b o (out b hc).1 (out b hc).2.1 q⟩) (λb o hc q n=>by rw[z5 (out b hc).2.2];exact n)
  (λb o hc q=>⟨o,k b o (out b hc).1 (out b hc).2.1 q⟩) (λb ys q=>by rw[z5 (nT b _ q)];exact q) (λb o u q=>by rw[z5 (nT b _ q)];exact q) (λb ps q=>⟨#[],by rw[z5 (nT b _ q),q];simp⟩)
  (λm hm=>?_) (λb u q=>?_) I.bare
 ·obtain⟨o,es,ep,ho,r⟩:=hm
  exact⟨o,es,ep,k _ o (Ne.symm fe.2.1) (Ne.symm fi.2.1) ho,r⟩
 ·by_cases hb:b=s.heap.objs.size
  ·subst hb
   rw[z3]at q
   cases q
   exact⟨hz,its,hv,hT⟩
  ·rw[z5 hb]at q
   refine(I.hok b u q).stay (λc v hc z=>k c v ?_ ?_ z) (λc z=>by rw[z5 (nT c _ z)];exact z) λc ys z=>by rw[z5 (nT c _ z)];exact z
   ·rcases hc with z|z
    ·rw[z];exact ne b u q
    ·exact ne c _ z
   ·rcases hc with z|z
    ·rw[z];exact ni b u q
    ·exact ni c _ z
def Ite (Sq:Hp->List V->Prop):It :=
 ⟨λi H=>∃xs x,Sq H xs/\xs[i]?=some x,λi H x H'=>∃T v,H T=none/\x=.ref T/\H'=upd H T (.tup [.int (i:Nat),v])/\∀xs,Sq H xs->xs[i]?=some v,λi H=>∃xs,Sq H xs/\xs.length<=i⟩
theorem zz8 {P:eV}{w:eZ}{K:W.Frag}{elts:List Expr}{x1:Nat}{tp:Pos}(a e it:Addr)(hei:e≠it):ye4 P w K (.Tuple elts x1 tp) (Ite λH xs=>SqT K H a xs) [e,it] e (λi h=>(∃old,IsEnum h e it i old)/\h.IsTupleIter it a i) where
 mem:=by simp
 obj:=λi h st b hb=>by
  obtain⟨⟨old,he⟩,o,ho,c,d⟩:=st
  rcases au.mp hb with z|z
  ·subst z
   exact⟨_,he,λv q=>by have q':Data.fields _=Data.cell v:=q;cases q'⟩
  ·have z':b=it:=by simpa using z
   subst z'
   exact⟨o,ho,λv q=>by rw[d]at q;cases q⟩
 keep:=λi h h' st k=>⟨let ⟨old,he⟩:=st.1;⟨old,k e (by simp) _ he⟩,st.2.at λo q=>k it (by simp) o q⟩
 item:=by
  intro X hP hw hK hc i pins s σ H E I hf st hg
  subst hP hw hK
  obtain⟨xs,x,hq,hx⟩:=hg
  obtain⟨its,rv,p,hz⟩:=I.tuple hq
  obtain⟨u,hu,ru⟩:=rv.get hx
  obtain⟨⟨old,he⟩,hit⟩:=st
  have fe:=hf e (by simp)
  have fi:=hf it (by simp)
  have hlt:i<its.toArray.size:=by
   have:=(ap.mp hu).1
   simpa using this
  obtain⟨oa,hoa,hca,na,hda⟩:=id p
  have hai:a≠it:=λz=>by
   obtain⟨o,ho,c,d⟩:=id hit
   rw[z,ho]at hoa
   cases hoa
   rw[c]at hca
   exact absurd hca (by decide)
  have hae:e∉[it,a]:=by
   intro z
   simp only[au,aH,or_false]at z
   rcases z with z|z
   ·exact hei z
   ·rw[←z,he]at hoa
    cases hoa
    exact absurd (show Value.type "enumerate"=Value.type "tuple" from hca) (by decide)
  refine wpAny_pyNext_enum_itemD (Draws.tuple (A:=X.A.in1) (I.ok.hd hc) it a hai its.toArray) he ⟨hit,p⟩ hlt hei hae λy h' tk hP ho hst hT hsz kk=>?_
  obtain rfl:y=u:=by
   have:its.toArray[i]?=some u:=by simpa using hu
   rw[this]at hP
   exact(Option.some.inj hP).symm
  have I1:Inv X pins σ (upd H s.heap.objs.size (.tup [.int (i:Nat),x])) { s with heap:=h',toks:=tk+1 }:=I.pair (its:=[.int i tk,y]) fe fi kk ⟨_,hT,rfl,_,rfl,rfl⟩ (.cons ⟨tk,rfl⟩ (.cons ru .nil)) (by show 2<=eU;decide)
  have neT:∀b∈[e,it],b≠s.heap.objs.size:=λb hb z=>by
   rcases au.mp hb with q|q
   ·rw[←q,z]at he
    exact absurd (ay he) (aW _)
   ·have q':b=it:=by simpa using q
    obtain⟨o,hi2,_⟩:=hit
    rw[←q',z]at hi2
    exact absurd (ay hi2) (aW _)
  have fr:∀b∈[e,it],(upd H s.heap.objs.size (.tup [.int (i:Nat),x])) b=none:=λb hb=>by rw[z5 (neT b hb)];exact(hf b hb).1
  refine⟨_,rfl,wpAny_letOwnedTupleGo_enum (s:={ s with heap:=h',toks:=tk+1 }) ho λh'' he'' hs''=>?_⟩
  have I2:Inv X pins σ (upd H s.heap.objs.size (.tup [.int (i:Nat),x])) { s with heap:=h'',toks:=tk+1 }:=I1.turned (t':=tk+1) (λb o hb q=>(hs''.2 b hb).trans q) (fr e (by simp)) fe.2.1 fe.2.2.2.1 fe.2.2.2.2.1 fe.2.2.2.2.2
  refine⟨.ref s.heap.objs.size,_,I2,rfl,⟨s.heap.objs.size,x,I.hok.fresh (aq _),rfl,rfl,λys hy=>by rw[I.tuple_inj hy hq];exact hx⟩,⟨⟨y,by simpa using he''⟩,hst.1.at λo q=>(hs''.2 it (Ne.symm hei)).trans q⟩,fr⟩
 done:=by
  intro X hP hw hK hc i pins s σ H E I hf st hg
  subst hP hw hK
  obtain⟨xs,hq,hx⟩:=hg
  obtain⟨its,rv,p,hz⟩:=I.tuple hq
  obtain⟨⟨old,he⟩,hit⟩:=st
  have fi:=hf it (by simp)
  have hT:s.TypeIs (.ref e) "enumerate":=⟨_,he,rfl⟩
  unfold pyNext
  refine eR (wpAny_attempt (wpAny_callSpecial?_slot (name:=Str.ofString "__next__") hT F.slot_enumerate_next
   (wpAny_call_entry F.slot_enumerate_next hT F.entry_enumerate_next ?_ (F.args_enumerate_next_1 _))))
  show eW _ _ (field (.ref e) 2 >>= _) _ _ _
  refine eR (wpAny_field he rfl (x:=.ref it) rfl ?_)
  have hl:=rv.length
  refine eR (Y5 (A:=_) (I.ok.hd hc) hit p (by simp;lia) λh' x he' hx'=>?_)
  obtain⟨o,ho,hcl⟩:=hx'
  refine eR (wpAny_isInstance (T:="StopIteration") (b:=true) ⟨o,ho,hcl⟩ isSubtype_stop ?_)
  exact eT ⟨rfl,I.turned (t':=s.toks) (λb o hb q=>he' b o hb q) fi.1 fi.2.1 fi.2.2.2.1 fi.2.2.2.2.1 fi.2.2.2.2.2⟩
 self:=λ_ _ _ _ _ st h=>let ⟨_,he⟩:=st.1;wpAny_pyIter_enum he h
def yv9 (K:W.Frag)(ta:TA):TI:=λσ H R=>ta σ H λvs H1=>∃a,vs=[.ref a]/\(∃xs,SqT K H1 a xs)/\R (Ite λH xs=>SqT K H a xs) H1
theorem zh0 {elts:List Expr}{x1:Nat}{tp:Pos}{a:Expr}{ta:TA}{p pos:Pos}(hg:Gl X "enumerate")(hm:X.mg "enumerate"=none)(ha:PA X [a] ta)(hs:eX [a] X.env=[(false,eval a X.env)]:=by rfl):PI X (.Tuple elts x1 tp) (.Call (.Name "enumerate" p) [a] [] pos) (yv9 X.K ta):=by
 intro pins s σ H R I h
 refine Call_ (zf7 I hg hm boot_enumerate (PyProof.Rows.callWith_type1 (thn (ha pos pins s σ H _ I h) λus s1 ⟨vs,H1,I1,r1,q1⟩=>?_) hs rfl))
 obtain⟨b,e,⟨xs,hq⟩,q⟩:=q1
 subst e
 cases r1 with
 | cons r rr =>
  cases rr
  cases r
  obtain⟨its,rv,pl,hz⟩:=I1.tuple hq
  refine O3 pl λh' he hit hsz kk=>?_
  have I2:Inv X pins σ H1 { s1 with heap:=h' }:=I1.kept (t':=s1.toks) kk
  refine wpAny_pyIter_enum he ⟨s1.heap.objs.size+1,[s1.heap.objs.size+1,s1.heap.objs.size],_,_,H1,rfl,I2,zz8 b _ _ (dQ (bT _)),⟨⟨.none,by simpa using he⟩,hit⟩,λc hc=>?_,q⟩
  have hle:s1.heap.objs.size<=c:=by
   simp only[au,aH,or_false]at hc
   rcases hc with rfl|rfl
   ·exact cy _
   ·exact aq _
  exact I1.fpOk hle (I1.hok.fresh hle)
theorem zf0 {Sq:Hp->List V->Prop}{xs:List V}{g:TG}{tb:TS}{D:zn3}{σ:St}{H:Hp}(Pv:Nat->St->Hp->Prop)(h0:Pv 0 σ H)(hl:∀i σ H,i<=xs.length->Pv i σ H->Sq H xs)
  (hs:∀i x σ H T,xs[i]?=some x->Pv i σ H->H T=none->g (.ref T) σ (upd H T (.tup [.int (i:Nat),x])) λσ2 H2=>tb { D with nx:=Pv (i+1),ct:=Pv (i+1),bk:=D.nx } σ2 H2) (hd:∀σ H,Pv xs.length σ H->D.nx σ H) :
  ∃W:Nat->Nat->St->Hp->Prop,(∃m,W 0 m σ H)/\∀i m σ H,W i m σ H ->
   ((Ite Sq).stop i H/\D.nx σ H)∨((Ite Sq).go i H/\∃N:St->Hp->Prop,(∀σ' H',N σ' H'->∃m',m'<m/\W (i+1) m' σ' H')/\∀x H',(Ite Sq).yld i H x H'->g x σ H' λσ2 H2=>tb { D with nx:=N,ct:=N,bk:=D.nx } σ2 H2):=by
 refine⟨λi m σ H=>m=xs.length-i/\i<=xs.length/\Pv i σ H,⟨xs.length,by simp,aV _,h0⟩,?_⟩
 rintro i m σ H ⟨rfl,hi,p⟩
 have q:=hl i σ H hi p
 by_cases hlt:i<xs.length
 ·refine .inr ⟨⟨xs,xs[i],q,by simp[hlt]⟩,Pv (i+1),λσ' H' p'=>⟨xs.length-(i+1),by lia,rfl,hlt,p'⟩,λx H' y=>?_⟩
  obtain⟨T,v,hT,rfl,rfl,hv⟩:=y
  exact hs i v σ H T (hv xs q) p hT
 ·have e:i=xs.length:=by lia
  subst e
  exact .inl ⟨⟨xs,q,aq _⟩,hd σ H p⟩
end
section
variable {X:Cx}
theorem yn4 (hu:X.A.units+64<cLine):OpR X (compareOp .NotEq) (λx y H Q=>∃(a b:Addr) (ns ms:List Int),x=.ref a/\y=.ref b/\SqL X.K H a (ns.map V.int)/\SqL X.K H b (ms.map V.int)/\Q (.bl (!decide (ns=ms))) H):=by
 intro pins s σ H x y v u Q I rx ry h
 obtain⟨a,b,ns,ms,rfl,rfl,ha,hb,q⟩:=h
 cases rx
 cases ry
 obtain⟨its,r1,p1,_⟩:=I.list ha
 obtain⟨its2,r2,p2,_⟩:=I.list hb
 exact W.ne_intsK p1.isList (J3 r1) p2.isList (J3 r2) hu ⟨.bl _,H,I,rfl,q⟩
end
section
variable {X:Cx}
end
section
variable {X:Cx}
end
section
variable {X:Cx}
end
end L2
namespace L2
open PySem PySem.Spec PyProof.Rows PyProof.Rows.LSm
mutual
inductive RdD (K:W.Frag) (H:Hp):V->PyData->Prop
 | non:RdD K H .non .none
 | bl (b:Bool):RdD K H (.bl b) (.bool b)
 | int (i:Int):RdD K H (.int i) (.int i)
 | str (x:Str):RdD K H (.str x) (.str x)
 | lst {a:Addr} {xs:List V} {ds:List PyData}:SqL K H a xs->J0 K H xs ds->RdD K H (.ref a) (.list ds)
 | tup {a:Addr} {xs:List V} {ds:List PyData}:SqT K H a xs->J0 K H xs ds->RdD K H (.ref a) (.tuple ds)
inductive J0 (K:W.Frag) (H:Hp):List V->List PyData->Prop
 | nil:J0 K H [] []
 | cons {x:V} {d:PyData} {xs:List V} {ds:List PyData}:RdD K H x d->J0 K H xs ds->J0 K H (x::xs) (d::ds)
end
theorem J0.ints {K:W.Frag}{H:Hp}:∀(ns:List Int),J0 K H (ns.map V.int) (ns.map PyData.int)
 | []=>.nil
 | n::r=>.cons (.int n) (J0.ints r)
section
variable {X:Cx}{pins:List (Addr×Obj)}{σ:St}{H:Hp}{s:eS}
mutual
theorem RdD.reads (I:Inv X pins σ H s):∀{x:V} {d:PyData},RdD X.K H x d->∀u,u0 x u->∃as,Reads s.heap u d as
 | _,_,.non,u,r=>by cases (show u=Value.none from r);exact⟨_,.none⟩
 | _,_,.bl b,u,r=>by cases (show u=Value.bool b from r);exact⟨_,.bool b⟩
 | _,_,.int i,u,r=>by obtain⟨t,rfl⟩:=(show ∃t,u=Value.int i t from r);exact⟨_,.int i t⟩
 | _,_,.str x,u,r=>by obtain⟨t,rfl⟩:=(show ∃t,u=Value.str x t from r);exact⟨_,.str x t⟩
 | _,_,.lst h hs,u,r=>by
  cases (show u=Value.ref _ from r)
  obtain⟨its,rv,p,_⟩:=I.list h
  obtain⟨o,ho,hc,n,hd⟩:=p.isList
  obtain⟨as,ha⟩:=J0.reads I hs its rv
  exact⟨_,.list ho hc hd (by simpa using ha)⟩
 | _,_,.tup h hs,u,r=>by
  cases (show u=Value.ref _ from r)
  obtain⟨its,rv,p,_⟩:=I.tuple h
  obtain⟨o,ho,hc,n,hd⟩:=p
  obtain⟨as,ha⟩:=J0.reads I hs its rv
  exact⟨_,.tuple ho hc hd (by simpa using ha)⟩
theorem J0.reads (I:Inv X pins σ H s):∀{xs:List V} {ds:List PyData},J0 X.K H xs ds->∀us,v9 xs us->∃as,ReadsAll s.heap us ds as
 | _,_,.nil,us,r=>by cases r;exact⟨_,.nil⟩
 | _,_,.cons h hs,us,r=>by
  cases r with
  | cons r1 r2 =>
   obtain⟨as,ha⟩:=RdD.reads I h _ r1
   obtain⟨bs,hb⟩:=J0.reads I hs _ r2
   exact⟨_,.cons ha hb⟩
end
end
section
variable {X:Cx}
theorem yy2 (hu:X.A.units+64<cLine):OpR X (compareOp .Eq) (λx y H Q=>∃d e,RdD X.K H x d/\RdD X.K H y e/\PySem.SeqAt.shaped d=true/\PySem.SeqAt.shaped e=true/\Q (.bl (PyData.eqv d e)) H):=by
 intro pins s σ H x y v u Q I rx ry h
 obtain⟨d,e,hd,he,s1,s2,q⟩:=h
 obtain⟨as,ra⟩:=hd.reads I v rx
 obtain⟨bs,rb⟩:=he.reads I u ry
 exact eq_dataH ra rb s1 s2 hu ⟨.bl _,H,I,rfl,q⟩
theorem za4:∀{bs:List Bool} {us:List Value},v9 (bs.map V.bl) us->BoolsAre us bs
 | [],_,r=>by cases r;exact .nil
 | b::bs,_,r=>by
  cases r with
  | cons a c =>
   cases (show _=Value.bool b from a)
   exact .cons b (za4 c)
theorem C6 (hc:X.calm=true):U7 X (.builtin "all") (λxs H Q=>∃(p:Addr) (bs:List Bool),xs=[.ref p]/\SqL X.K H p (bs.map V.bl)/\Q (.bl (bs.all id)) H):=by
 intro pins s σ H xs us Q I r h
 obtain⟨p,bs,rfl,hq,q⟩:=h
 obtain⟨u,rfl,rx⟩:=C1 r
 cases rx
 obtain⟨its,r1,p1,hz⟩:=I.list hq
 obtain⟨m,F⟩:=I.fr
 have hb:=za4 r1
 have hl:=p1.isList
 have hlt:p<s.heap.objs.size:=by obtain⟨_,e,_⟩:=hl;exact ay e
 refine call_all_walk (wpAny_pyIter_list hl ?_)
 refine⟨s.heap.objs.size,[s.heap.objs.size,p],[s.heap.objs.size],its.toArray.size,_,_,λi=>(bs[i]?).getD true,rfl,Walks.list (A:=X.A.in1) (I.ok.hd hc) _ p (aS hlt) its.toArray,
  ⟨⟨_,aC _ rfl,rfl,rfl⟩,hl.push _⟩,λi v s' Q' E' hP hQ=>?_,λh' tk hk=>?_⟩
 ·obtain⟨b,e,rfl⟩:=hb.get i v (by simpa using hP)
  simp only[e,cp]at hQ
  exact wpAny_truthy_bool hQ
 ·have e:((List.range its.toArray.size).all λi=>(bs[i]?).getD true)=bs.all id:=by
   rw[aA,hb.length];exact range_all bs
  rw[e]
  exact⟨.bl _,H,I.kept (kept_iter hk),rfl,q⟩
end
end L2
namespace L2
open PySem PySem.Spec PyProof.Rows
section
variable {X:Cx}
end
section
variable {X:Cx}{tg:Expr}
end
section
variable {X:Cx}
end
def CX1 (P:eV)(w:eZ):CXT:=λouter H s E e s'=>∃(ea C:Addr) (a0:Value) (B:Heap) (H':Hp),e=.ref ea/\s'.os=s.os/\AllBare s'.gens/\HOk P w H' B/\Heap.FlyingW B outer ea (.ref C) a0 s'.heap /\
 (∀b o,s.heap.get? b=some o->H b=none->b∉frs outer->B.get? b=some o) /\
 (∀b o,s.heap.get? b=some o->H b=none->b∈frs outer->∃sl,s'.heap.get? b=some { o with slots:=sl }) /\
 (∀b o,s.heap.get? b=some o->H b=none->H' b=none) /\
 (∀b o,s.heap.get? b=some o->b∈frs outer∨∃o',B.get? b=some o') /\
 (∀b xs,H b=some (.tup xs)->H' b=some (.tup xs))/\(∀b o u,H b=some (.frz o u)->H' b=some (.frz o u)) /\
 (∀b ps,H b=some (.tbl ps)->∃more,H' b=some (.tbl (ps++more)))/\E (.ref C) none H'
theorem yk7 {P:eV}{w:eZ}{H:Hp}{h:Heap}{fs:List Addr}(x:HOk P w H h)(hf:∀b∈fs,H b=none):HOk P w H (W.hideAll h fs):=λa o e =>
 (x a o e).stay (λb u hb q=>W.hideAll_get _ q λhm=>by
  have hn:=hf b hm
  rcases hb with rfl|hb
  ·rw[e]at hn;cases hn
  ·rw[hb]at hn;cases hn) (λ_ q=>q) λ_ _ q=>q
section
variable {P:eV}{w:eZ}{K:W.Frag}{mg:Str->Option Value}{base:Heap}{N:List Str}{qual:Str}{scope:Scope}{f:Addr}{cd:Value}{A:fc}{outer:List Env}{s s1:eS}{H H1:Hp}{E:XK}{pins:List (Addr×Obj)}{σ:St}
theorem zx0 {C e:Addr}{h':Heap}{args:List Value}(I:Inv (V4 (CX1 P w) P w K mg base N qual scope f cd A outer s H E) pins σ H1 s1)(hx:Heap.MadeExcOf s1.heap h' e (.ref C) args)(hE:E (.ref C) none H1) :
  (V4 (CX1 P w) P w K mg base N qual scope f cd A outer s H E).xe (.ref e) { s1 with heap:=h' }:=by
 have hst:=I.stack
 have hfree:=I.stkFree
 refine wpAny_leaves_madeW (base:=W.hideAll s1.heap (frs (envOfC qual scope s.heap.objs.size f cd::outer))) (h:=s1.heap) I.ok.frames rfl (λb o q=>W.of_hideAll _ q) (W.funFrames_hide hst λenv he a ha=>aU.mpr ⟨env,he,ha⟩) hx λh'' t x1 x2 x3 x4=>?_
 have notL:∀b o,s.heap.get? b=some o->b∉frs outer->b∉frs (envOfC qual scope s.heap.objs.size f cd::outer):=λb o hb hn hm=>by
  obtain⟨env,he,ha⟩:=aU.mp hm
  rcases au.mp he with rfl|he
  ·have e1:s.heap.objs.size=b:=Option.some.inj ha
   exact absurd (ay hb) (by rw[e1];exact aW _)
  ·exact hn (aU.mpr ⟨env,he,ha⟩)
 refine⟨e,C,.ref t,_,H1,rfl,I.os,I.bare,yk7 I.hok hfree,x1,λb o hb hn hf=>?_,λb o hb hn hf=>?_,λb o hb hn=>?_,λb o hb=>?_,I.base.tups,I.base.frzs,I.base.tbls,hE⟩
 ·exact W.hideAll_get _ (I.base.keep b o hb hn hf (by intro z;cases z)) (notL b o hb hf)
 ·obtain⟨sl,q⟩:=I.base.slot b o hb hn hf (by intro z;cases z)
  obtain⟨_,o2,ho2,hd⟩:=I.funs.mem hf
  have e2:o2={ o with slots:=sl }:=Option.some.inj (ho2.symm.trans q)
  subst e2
  obtain⟨sl',q'⟩:=x4 b _ (hx.keeps _ _ q) hd
  exact⟨sl',q'⟩
 ·exact I.base.free b o hb hn (by intro z;cases z)
 ·by_cases hf:b∈frs outer
  ·exact .inl hf
  ·obtain⟨o',q⟩:=I.base.there b o hb (by intro z;cases z)
   exact .inr ⟨o',W.hideAll_get _ q (notL b o hb hf)⟩
theorem yl4 {e:Value}{s2:eS}{E1:XK}(I:Inv (V4 (CX1 P w) P w K mg base N qual scope f cd A outer s H E) pins σ H1 s1)(hx:CX1 P w (V4 (CX1 P w) P w K mg base N qual scope f cd A outer s H E).stack H1 s1 E1 e s2)(hE:∀C a H',E1 C a H'->E C a H') :
  (V4 (CX1 P w) P w K mg base N qual scope f cd A outer s H E).xe e s2:=by
 obtain⟨ea,C,a0,B,H',rfl,hos,hbare,hok,hfl,k1,k2,k3,k4,k5,k6,k7,hE1⟩:=hx
 refine wpAny_leaves_onW I.ok.frames rfl hfl λh'' x1 x2=>?_
 have inB:∀b o,s.heap.get? b=some o->H b=none->b∉frs outer->B.get? b=some o:=λb o hb hn hf=>by
  have q:=I.base.keep b o hb hn hf (by intro z;cases z)
  refine k1 b o q (I.base.free b o hb hn (by intro z;cases z)) λhm=>?_
  obtain⟨env,he,ha⟩:=aU.mp hm
  rcases au.mp he with rfl|he
  ·have e1:s.heap.objs.size=b:=Option.some.inj ha
   exact absurd (ay hb) (by rw[e1];exact aW _)
  ·exact hf (aU.mpr ⟨env,he,ha⟩)
 have sub:∀b,b∈frs outer->b∈frs (envOfC qual scope s.heap.objs.size f cd::outer):=λb hb=>by
  obtain⟨env,he,ha⟩:=aU.mp hb
  exact aU.mpr ⟨env,av _ he,ha⟩
 refine⟨ea,C,a0,B,H',rfl,hos.trans I.os,hbare,hok,x1,inB,λb o hb hn hf=>?_,λb o hb hn=>?_,λb o hb=>?_,λb xs q=>k5 b xs (I.base.tups b xs q),λb o u q=>k6 b o u (I.base.frzs b o u q),λb ps q=>?_,hE _ _ _ hE1⟩
 ·obtain⟨sl,q⟩:=I.base.slot b o hb hn hf (by intro z;cases z)
  have hn1:=I.base.free b o hb hn (by intro z;cases z)
  obtain⟨sl2,q2⟩:=k2 b _ q hn1 (sub b hf)
  obtain⟨_,o2,ho2,hd⟩:=I.funs.mem hf
  have e2:o2={ o with slots:=sl }:=Option.some.inj (ho2.symm.trans q)
  subst e2
  obtain⟨sl',q'⟩:=x2 b _ q2 hd
  exact⟨sl',q'⟩
 ·obtain⟨o',q⟩:=I.base.there b o hb (by intro z;cases z)
  exact k3 b o' q (I.base.free b o hb hn (by intro z;cases z))
 ·by_cases hf:b∈frs outer
  ·exact .inl hf
  ·obtain⟨o',q⟩:=I.base.there b o hb (by intro z;cases z)
   rcases k4 b o' q with hm|hm
   ·obtain⟨env,he,ha⟩:=aU.mp hm
    rcases au.mp he with rfl|he
    ·have e1:s.heap.objs.size=b:=Option.some.inj ha
     exact absurd (ay hb) (by rw[e1];exact aW _)
    ·exact absurd (aU.mpr ⟨env,he,ha⟩) hf
   ·exact .inr hm
 ·obtain⟨m1,q1⟩:=I.base.tbls b ps q
  obtain⟨m2,q2⟩:=k7 b _ q1
  exact⟨m1++m2,by rw[q2,dZ]⟩
end
section
variable {prog:eV}{w:eZ}{A:fc}{s:eS}
end
section
variable {X:Cx}{own:Nat}{fr:List Nat}{N':List Str}{tg iter elt ce:Expr}{scope:Scope}{pos:Pos}{wi:TI}{g:CT TG}{te:CT TE}{tt:CT TT}
end
section
variable {X:Cx}
end
abbrev bmV:List Value:=[.type "ValueError",.type "Exception",.type "BaseException",.type "object"]
structure zr9 (K:W.Frag) (C:Addr) (tl:List Value) (newId:String):Prop where
 obj:∃nm qn N bs hdct sn sub ab col dd k0 k1 k2 k3 k5 oN,K.lookup C=some (excClassObj nm qn C N bs tl hdct sn sub ab col dd k0 k1 k2 k3 k5 newId)/\K.lookup N=some oN/\W.nsOkIn K N=true/\W.nsIn K N "__init__"=some none
 tail:W.tailIn K bmV tl=true
theorem zr9.mk' {K:W.Frag}{C:Addr}{tl:List Value}{newId:String}{nm qn:Str}{N:Addr}{bs:List Value}{hdct:Bool}{sn:List Str}{sub:List Value}{ab:Bool}{col:Option Bool}{dd:Option Addr}{k0 k1 k2 k3 k5:Option Value}{oN:Obj}
  (l:K.lookup C=some (excClassObj nm qn C N bs tl hdct sn sub ab col dd k0 k1 k2 k3 k5 newId)) (n:K.lookup N=some oN) (o:W.nsOkIn K N=true) (i:W.nsIn K N "__init__"=some none) (t:W.tailIn K bmV tl=true):zr9 K C tl newId :=
 ⟨⟨nm,qn,N,bs,hdct,sn,sub,ab,col,dd,k0,k1,k2,k3,k5,oN,l,n,o,i⟩,t⟩
theorem xg5 {K:W.Frag}{C:Addr}{tl:List Value}{newId:String}(x:zr9 K C tl newId):∃nm qn N bs hdct sn sub ab col dd k0 k1 k2 k3 k5 oN,
  K.lookup C=some (excClassObj nm qn C N bs tl hdct sn sub ab col dd k0 k1 k2 k3 k5 newId)/\K.lookup N=some oN/\∀h,K.In h->(∃mN,h.Ns N mN/\mN "__init__"=none)/\OwnTail h bmV tl:=by
 obtain⟨⟨nm,qn,N,bs,hdct,sn,sub,ab,col,dd,k0,k1,k2,k3,k5,oN,l,n,o,i⟩,t⟩:=x
 exact⟨nm,qn,N,bs,hdct,sn,sub,ab,col,dd,k0,k1,k2,k3,k5,oN,l,n,λh X=>⟨⟨_,.of_isNs (W.isNs_of_in X o),W.nsMap_none_of_in X o i⟩,W.tail_of_in X t⟩⟩
theorem ys0 {h h':Heap}{N:Addr}{o:Obj}{m:Str->Option Value}(e:h.get? N=some o)(e':h'.get? N=some o)(n:h.Ns N m):h'.Ns N m:=by
 obtain⟨o1,es,ep,ho,r⟩:=n
 rw[e]at ho
 cases ho
 exact⟨o,es,ep,e',r⟩
theorem OwnTail.base_in {h:Heap}{tl:List Value}(T:OwnTail h bmV tl):tl.contains (.type "BaseException")=true:=T.hasType (by decide)
section
variable {P:eV}{w:eZ}{K:W.Frag}{mg:Str->Option Value}{base:Heap}{N:List Str}{qual:Str}{scope:Scope}{f:Addr}{cd:Value}{A:fc}{outer:List Env}{s0:eS}{H0:Hp}{E:XK}
theorem yo0 {x:Str}{C:Addr}{tl:List Value}{Bn newId inN:String}{bmN:List Value}{e:Expr}{es:List Expr}{t:TA}{np cpos pos:Pos}(hm:mg x=some (.ref C))(hx:zr9 K C tl newId)(Fn:ExcBaseFacts Bn newId inN bmN)(hBn:bmV.contains (.type Bn)=true)
  (hg:Gl (V4 (CX1 P w) P w K mg base N qual scope f cd A outer s0 H0 E) x) (ha:PA (V4 (CX1 P w) P w K mg base N qual scope f cd A outer s0 H0 E) (e::es) t)
  (hd:(x==("__debug__":Str))=false:=by decide) (he:eX (e::es) (envOfC qual scope s0.heap.objs.size f cd)=(false,eval e (envOfC qual scope s0.heap.objs.size f cd))::eX es (envOfC qual scope s0.heap.objs.size f cd):=by rfl)
  (hpl:(backTo cpos (eX es (envOfC qual scope s0.heap.objs.size f cd))).any (·.1)=false:=by rfl) :
  PS (V4 (CX1 P w) P w K mg base N qual scope f cd A outer s0 H0 E) (.Raise (some (.Call (.Name x np) (e::es) [] cpos)) none pos) (λD σ H1=>t σ H1 λvs H2=>vs.length<=1000/\E (.ref C) none H2):=by
 intro pins s σ H D I h
 obtain⟨nm,qn,Na,bs,hdct,sn,sub,ab,col,dd,k0,k1,k2,k3,k5,oN,lC,lN,all⟩:=xg5 hx
 obtain⟨⟨mN,hN,hni⟩,T⟩:=all _ I.kIn
 refine wpAny_Raise_call_subU (C:=C) (nm:=nm) (q:=qn) (N:=Na) (bs:=bs) (bm:=tl) (hdct:=hdct) (sn:=sn) (sub:=sub) (ab:=ab) (col:=col) (dd:=dd) (k0:=k0) (k1:=k1) (k2:=k2) (k3:=k3) (k5:=k5)
  Fn hBn PySem.F.excBase_ValueError (mN:=mN) (OwnTail.base_in T) (I.ok.hd rfl) ?_ hni (E5 I hg hm ⟨rfl,?_⟩ hd)
 ·show(backTo cpos (eX (e::es) (envOfC qual scope s0.heap.objs.size f cd))).any (·.1)=false
  rw[he]
  show(false || (backTo cpos (eX es (envOfC qual scope s0.heap.objs.size f cd))).any (·.1))=false
  rw[hpl]
  rfl
 have hA:=ha cpos pins s σ H _ I h
 show eW _ _ (evalArgs (.ref C) true (backTo cpos (eX (e::es) (envOfC qual scope s0.heap.objs.size f cd))) []) _ _ s
 have hA':eW (eY P w) (V4 (CX1 P w) P w K mg base N qual scope f cd A outer s0 H0 E).A (spliced (backTo cpos (eX (e::es) (envOfC qual scope s0.heap.objs.size f cd)))) _ _ s:=hA
 rw[he]at hA' ⊢
 refine Calls.evalArgs_plain (thn hA' λus s2 ⟨vs,H2,I2,r,q1,q2⟩=>?_)
 refine⟨rfl,?_,I2.kIn _ _ lC,ys0 (I.kIn _ _ lN) (I2.kIn _ _ lN) hN,(all _ I2.kIn).2,λh' ex hx=>zx0 I2 hx q2⟩
 rw[←r.length]
 exact aX q1 (by decide)
theorem Fun.okX {x qual:Str}{st:Stmt}{f:Addr}{fd:fk}{N ps:List Str}{k:Nat}{sp:Sp}(F:Fun K x qual st f fd)(S:y4 N ps (z8 st))(len:∀vs H Q E,sp vs H Q E->vs.length=ps.length)
  (hbody:∀(cdv:Value) (A:fc) (outer:List Env) (s:eS) (H:Hp) (vs:List V) (Q:VK) (E:XK),c4 k (A.deeper (envOfC qual (z8 st) s.heap.objs.size f cdv))->sp vs H Q E ->
   ∃t,PSs (V4 (CX1 P w) P w K mg base N qual (z8 st) f cdv A outer s H E) (d3 st) t/\t { nx:=λ_ H'=>Q .non H',rt:=Q } (start N vs) H):v1 P w K mg base (CX1 P w) (k+1) f fd ps sp:=by
 obtain⟨oc,od,kV,doc,pm,an,cdv,ct,osl,rfl,lk,hcd⟩:=F.ex
 refine yk3 lk hcd S len λA outer s H vs Q E hr hsp=>?_
 obtain⟨t,h,q⟩:=hbody cdv A outer s H vs Q E hr hsp
 exact⟨t,h,q⟩
end
section
variable {M:Model}{A:fc}{E:Value->eS->Prop}{s:eS}
end
section
variable {X:Cx}
end
section
variable {X:Cx}
def zd6 (P:eV)(w:eZ)(K:W.Frag)(mg:Str->Option Value)(base:Heap)(k:Nat)(x:Str)(ps:List Str)(sp:Sp):Prop :=
 ∃f fd,v1 P w K mg base (CX1 P w) k f fd ps sp/\W.keepIn K (.ref f)=true/\mg x=some (.ref f)/\Y6 K fd ps []
end
structure yv4 (K:W.Frag) (mg:Str->Option Value) (TE:Addr):Prop where
 m:mg "TurnError"=some (.ref TE)
 c:zr9 K TE bmV "ValueError.__new__"
 v:mg "ValueError"=none
structure yu1 (K:W.Frag) (mg:Str->Option Value) (TE:Addr) (x:Str) (C:Addr):Prop where
 m:mg x=some (.ref C)
 c:zr9 K C (.ref TE::bmV) "ValueError.__new__"
 i:W.isIn K (.ref C) TE=true
def kvD (x:Key×V):PyData×PyData:=(match x.1 with | .inl i=>.int i | .inr t=>.str t,match x.2 with | .int i=>.int i|_=>.none)
mutual
inductive Dt (H:Hp):V->PyData->Prop
 | non:Dt H .non .none
 | bl (b:Bool):Dt H (.bl b) (.bool b)
 | int (i:Int):Dt H (.int i) (.int i)
 | str (x:Str):Dt H (.str x) (.str x)
 | lst {a:Addr} {xs:List V} {ds:List PyData}:H a=some (.lst xs)->Dts H xs ds->Dt H (.ref a) (.list ds)
 | tup {a:Addr} {xs:List V} {ds:List PyData}:H a=some (.tup xs)->Dts H xs ds->Dt H (.ref a) (.tuple ds)
 | dct {a:Addr} {kvs:List (Key×V)}:H a=some (.dK kvs)->Dt H (.ref a) (.dict (kvs.map kvD))
inductive Dts (H:Hp):List V->List PyData->Prop
 | nil:Dts H [] []
 | cons {x:V} {d:PyData} {xs:List V} {ds:List PyData}:Dt H x d->Dts H xs ds->Dts H (x::xs) (d::ds)
end
mutual
theorem Dt.same {H H':Hp}(s:y2 H H'):∀{x:V} {d:PyData},Dt H x d->Dt H' x d
 | _,_,.non=>.non
 | _,_,.bl b=>.bl b
 | _,_,.int i=>.int i
 | _,_,.str x=>.str x
 | _,_,.lst h r=>.lst (s _ _ h) (Dts.same s r)
 | _,_,.tup h r=>.tup (s _ _ h) (Dts.same s r)
 | _,_,.dct h=>.dct (s _ _ h)
theorem Dts.same {H H':Hp}(s:y2 H H'):∀{xs:List V} {ds:List PyData},Dts H xs ds->Dts H' xs ds
 | _,_,.nil=>.nil
 | _,_,.cons h r=>.cons (Dt.same s h) (Dts.same s r)
end
theorem Dts.length {H:Hp}:∀{xs:List V} {ds:List PyData},Dts H xs ds->xs.length=ds.length
 | _,_,.nil=>rfl
 | _,_,.cons _ r=>by rw[aQ,aQ,Dts.length r]
theorem Dts.get {H:Hp}:∀{xs:List V} {ds:List PyData} {i:Nat} {x:V},Dts H xs ds->xs[i]?=some x->∃d,ds[i]?=some d/\Dt H x d
 | _,_,_,_,.nil,e=>by simp at e
 | _,_,0,_,.cons h _,e=>by simp at e;subst e;exact⟨_,rfl,h⟩
 | _,_,i+1,x,.cons _ r,e=>by
  obtain⟨d,h1,h2⟩:=Dts.get (i:=i) (x:=x) r (by simpa using e)
  exact⟨d,by simpa using h1,h2⟩
def tyD:PyData->String
 | .none=>"NoneType"
 | .bool _=>"bool"
 | .int _=>"int"
 | .str _=>"str"
 | .list _=>"list"
 | .tuple _=>"tuple"
 | .dict _=>"dict"
theorem Dt.ty {K:W.Frag}{H:Hp}{x:V}{d:PyData}(h:Dt H x d):P9 K H x (.type (tyD d)):=by
 cases h with
 | non=>exact .non
 | bl b=>exact .bl b
 | int i=>exact .int i
 | str x=>exact .str x
 | lst h _=>exact .lst h
 | tup h _=>exact .tup h
 | dct h=>exact .dK h
section
variable {X:Cx}{e:Expr}{es:List Expr}{pos:Pos}{C:St->Hp->Prop}{d:PyData}{ds:List PyData}
structure DS (X:Cx) (st:Stmt) (t:TS):Prop where
 h:PS X st t
structure DSs (X:Cx) (st:List Stmt) (t:TS):Prop where
 h:PSs X st t
theorem p4 {st:Stmt}{J9:List Stmt}{t u:TS}(h1:DS X st t)(h2:DSs X J9 u):DSs X (st::J9) (yz8 t u):=⟨@z6 _ _ _ _ _ h1.h h2.h⟩
theorem new_at {H:Hp}{p:Addr}(u:HO):upd H p u p=some u:=by show(if p=p then _ else _)=_;rw[if_pos rfl]
theorem yn2:OpR X (compareOp .Is) (λx y H Q=>∃a b,x=.bl a/\y=.bl b/\Q (.bl (decide (a=b))) H):=by
 intro pins s σ H x y v u Q I rx ry h
 obtain⟨a,b,rfl,rfl,q⟩:=h
 cases rx
 cases ry
 exact PySem.wpAny_is_plain (by rfl) ⟨.bl (decide (a=b)),H,I,(by cases a <;> cases b <;> rfl),q⟩
end
section
variable {prog:eV}{w:eZ}{A:fc}{E:Value->eS->Prop}{s:eS}
def gat (h:Heap)(vs:List Value):Heap:=(h.push (fm "list" #[] 0)).update h.objs.size (Obj.mapSeq (·++vs.toArray))
theorem zs2 {a:Addr}{vs:List Value}{R:List Value->eS->Prop}(ht:IsTup s.heap a vs.toArray)(hz:vs.length<=eU)(q:R vs { s with heap:=gat s.heap vs }):eW (eY prog w) A (collect (.ref a)) R E s:=by
 obtain⟨o,ho,hc,n,hd⟩:=ht
 have ho1:(s.heap.push (fm "list" #[] 0)).get? a=some o:=ar _ ho
 have hn1:(s.heap.push (fm "list" #[] 0)).get? s.heap.objs.size=some (fm "list" #[] 0):=aC _ rfl
 unfold collect
 refine eR (wpAny_runValue (codeAny_builtin entry_proto_collect' (eR (m:=newList []) (wpAny_newList (eT ⟨Code.quiet_builtin _ (by decide +kernel),codeAny_builtin entry_list_iadd' ?_⟩)))))
 show eW _ _ (Builtin.List.listExtendWith (.ref s.heap.objs.size) (.ref a) (.ref s.heap.objs.size)) _ _ { s with heap:=s.heap.push (fm "list" #[] 0) }
 (unfold Builtin.List.listExtendWith;refine eR (wpAny_typeOf (T:="tuple") ⟨o,ho1,hc⟩ ?_))
 have hty:(Value.type "tuple" == Value.type "tuple")=true:=rfl
 rw[if_pos (show _=true by rw[hty,Bool.or_true])]
 refine eR (listItems_at ho1 hd (eR (listItems_at (xs:=#[]) (n:=0) hn1 rfl ?_)))
 rw[if_neg (show ¬_=true by simp)]
 refine eR (listUpdate_at (xs:=#[]) (n:=0) hn1 rfl (eT ?_) (aV _) (by simp only[Array.size_append,aA,cO];show 0+vs.length<=_;lia))
 show eW (eY prog w) A (load s.heap.objs.size >>= _) R E { s with heap:=gat s.heap vs }
 refine eR (wpAny_load (get?_update_seq hn1 _) ?_)
 have e:((#[]:Array Value)++vs.toArray).toList=vs:=by simp
 exact eT (e.symm ▸ q)
theorem yk5 (h:Heap)(vs:List Value):(gat h vs).objs.size=h.objs.size+1:=by unfold gat;rw[Heap.size_update,size_push']
theorem yr1 {h:Heap}{vs:List Value}{b:Addr}{o:Obj}(e:h.get? b=some o):(gat h vs).get? b=some o:=by
 have hlt:=ay e
 unfold gat
 rw[Heap.get?_update_ne _ _ _ _ (aS hlt),Heap.get?_push_ne _ _ _ (aS hlt)]
 exact e
theorem zy9 {a:Addr}{vs:List Value}{ns:List Int}{R:Value->eS->Prop}(ht:IsTup s.heap a vs.toArray)(hI:IntsAre vs ns)(h64:vs.length<64)
  (q:∀(out:Array Value) (ms:List Int),IntsAre out.toList ms->ms.Perm ns->ms.Pairwise (·<=·)->R (.ref (gat s.heap vs).objs.size) { s with heap:=sortedHeap ((gat s.heap vs).push (fm "list" vs.toArray 0)) (gat s.heap vs).objs.size vs out }) :
  eW (eY prog w) A (call (.builtin "sorted") [.ref a]) R E s:=by
 have hn:((gat s.heap vs).push (fm "list" vs.toArray 0)).get? (gat s.heap vs).objs.size=some (fm "list" vs.toArray 0):=aC _ rfl
 refine Calls.call_function_entry kind_sorted plain_sorted entry_sorted (args_sorted1 (.ref a)) ?_
 unfold Builtin.«sorted»
 refine eR (m:=checkCount "sorted" 1 1 _) (eT (eR (zs2 ht (by rw[sizeLine_eq];lia) (eR (wpAny_newList ?_)))))
 show eW _ _ _ _ _ { s with heap:=(gat s.heap vs).push (fm "list" vs.toArray 0) }
 refine eR (ff (wpAny_call_entry slot_list_sort ⟨_,hn,rfl⟩ entry_list_sort (list_sort_tree hn hI h64 λout ms a1 a2 a3=>⟨_,rfl,eT ⟨_,rfl,q out ms a1 a2 a3⟩⟩) (args_list_sort _)))
end
section
variable {X:Cx}
theorem zn7:U7 X (.builtin "sorted") (λxs H Q=>∃(p:Addr) (ns:List Int),xs=[.ref p]/\SqT X.K H p (ns.map V.int)/\ns.length<64/\∀(l:Addr) (ms:List Int),H l=none->ms.Perm ns->ms.Pairwise (·<=·)->Q (.ref l) (upd H l (.lst (ms.map V.int)))):=by
 intro pins s σ H xs us Q I r h
 obtain⟨p,ns,rfl,hq,h64,q⟩:=h
 obtain⟨u,rfl,rx⟩:=C1 r
 cases rx
 obtain⟨its,r1,p1,hz⟩:=I.tuple hq
 have l1:=r1.length
 rw[aa]at l1 hz
 refine zy9 p1 (J3 r1) (by lia) λout ms a1 a2 a3=>?_
 have hl:=a2.length_eq
 have hsz:=yk5 s.heap its
 obtain⟨e,he⟩:=sortedHeap_at (vs:=its) (out:=out) (n:=0) (show((gat s.heap its).push (fm "list" its.toArray 0)).get? (gat s.heap its).objs.size=some (fm "list" its.toArray 0) from aC _ rfl)
 have hold:∀b o,s.heap.get? b=some o->(sortedHeap ((gat s.heap its).push (fm "list" its.toArray 0)) (gat s.heap its).objs.size its out).get? b=some o:=λb o z=>by
  have hlt:=ay z
  have h1:b<(gat s.heap its).objs.size:=hsz.symm ▸ eD hlt
  rw[sortedHeap_old (aS h1) (by rw[size_push'];exact eD h1),Heap.get?_push_ne _ _ _ (aS h1)]
  exact yr1 z
 refine⟨.ref (gat s.heap its).objs.size,_,I.laid (t':=s.toks) hold (by lia) (show p9 X.prog X.w _ _ _ (.lst (ms.map V.int)) from⟨by rw[aa];lia,out.toList,e,za1 a1,by simpa using he⟩),rfl,q _ ms (I.hok.fresh (by lia)) a2 a3⟩
end
section
variable {X:Cx}{pins:List (Addr×Obj)}{σ:St}{H:Hp}{s:eS}
def nw (H H':Hp):Hp:=λb=>match H b with
 | none=>H' b
 | some _=>none
section
variable {e:Expr}{es:List Expr}{pos:Pos}{C:St->Hp->Prop}{d:PyData}{ds:List PyData}
end
end
section
end
section
variable {P:eV}{w:eZ}{K:W.Frag}{mg:Str->Option Value}{base:Heap}{N:List Str}{qual:Str}{scope:Scope}{f:Addr}{cd:Value}{A:fc}{outer:List Env}{s s1:eS}{H H1:Hp}{E:XK}{pins:List (Addr×Obj)}{σ:St}
theorem xb7:O2 (CX1 P w) (V4 (CX1 P w) P w K mg base N qual scope f cd A outer s H E) E:=λ_ _ _ _ _ _ I hx=>yl4 I hx λ_ _ _ z=>z
end
section
variable {P:eV}{w:eZ}{K:W.Frag}{mg:Str->Option Value}{base:Heap}{N:List Str}{qual:Str}{scope:Scope}{f:Addr}{cd:Value}{A:fc}{outer:List Env}{s:eS}{H:Hp}{E:XK}
theorem yy5 {x:Str}{p pos:Pos}{e:Expr}{es:List Expr}{t:TA}{ps:List Str}{sp:Sp}{k j:Nat}(kn:zd6 P w K mg base k x ps sp)(hr:c4 j (A.deeper (envOfC qual scope s.heap.objs.size f cd)))(hg:Gl (V4 (CX1 P w) P w K mg base N qual scope f cd A outer s H E) x)
  (ha:PA (V4 (CX1 P w) P w K mg base N qual scope f cd A outer s H E) (e::es) t) (hj:k<=j:=by decide) (hdb:(x==("__debug__":Str))=false:=by decide)
  (he:eX (e::es) (envOfC qual scope s.heap.objs.size f cd)=(false,eval e (envOfC qual scope s.heap.objs.size f cd))::eX es (envOfC qual scope s.heap.objs.size f cd):=by rfl) (hpl:(backTo pos (eX es (envOfC qual scope s.heap.objs.size f cd))).any (·.1)=false:=by rfl) :
  PE (V4 (CX1 P w) P w K mg base N qual scope f cd A outer s H E) (.Call (.Name x p) (e::es) [] pos) (yp7 sp [] E t):=by
 obtain⟨g,gd,G,hk,hm,hb⟩:=kn
 exact yc4 (X:=V4 (CX1 P w) P w K mg base N qual scope f cd A outer s H E) G (hr.mono hj) hg hm hk hb .nil xb7 ha hdb he hpl
end
section
variable {M:Model}{A:fc}{E:Value->eS->Prop}{s:eS}{env:Env}
end
section
variable {X:Cx}{E:XK}{own:Nat}{fr:List Nat}{N':List Str}{tg iter elt:Expr}{scope:Scope}{pos:Pos}{wi:TI}{g:CT TG}{te:CT TE}
end
section
variable {X:Cx}
end
section
end
section
variable {X:Cx}
end
section
variable {X:Cx}{tg:Expr}
theorem yt0 {iter:Expr}{body:List Stmt}{wi:TI}{g:TG}{tb:TS}{pos:Pos}(hc:X.calm=true)(hi:PI X tg iter wi)(hg:PG X.nox tg g)(hb:PSs X.nox body tb)
  (hs:∀x,foldedSetIterable iter X.env x=pure x:=by intro _;rfl):PS X (.For tg iter body [] pos) (xc9 wi g tb):=by
 intro pins s σ H D I h
 refine wpAny_For (thn (hi pins s σ H _ I h) λv s1 h1=>thn h1 λitv s2 h2=>?_) hs
 obtain⟨it,fp,tn,J,H2,e,I2,T,st2,f2,W,⟨m0,w0⟩,turn⟩:=h2
 subst e
 have stat:∀{H':Hp},(∀b∈fp,H' b=none)->∀b∈fp,G8 X.nox pins H' b:=λhn b hb=>⟨hn b hb,(f2 b hb).2⟩
 refine codeAny_forLoop_any (λn s'=>∃i σ' H',Inv X.nox pins σ' H' s'/\tn i s'.heap/\(∀b∈fp,H' b=none)/\W i n σ' H') ?_ m0 ⟨0,σ,H2,I2.wish _,st2,λb hb=>(f2 b hb).1,w0⟩
 rintro n s3 ⟨i,σ3,H3,I3,st3,fr3,w3⟩
 rcases turn i n σ3 H3 w3 with⟨stop,qn⟩|⟨go,N,hN,step⟩
 ·refine fg (T.done X.nox rfl rfl rfl hc i pins s3 σ3 H3 (λ_ _=>False) I3 (stat fr3) st3 stop) (λr s4 ⟨hr,I4⟩=>?_) λ_ _ z=>z.elim
  subst hr
  exact wpAny_execs_nil ⟨σ3,H3,I4.unwish,qn⟩
 ·refine fg (T.item X.nox rfl rfl rfl hc i pins s3 σ3 H3 (λ_ _=>False) I3 (stat fr3) st3 go) (λr s4 ⟨u,hr,h4⟩=>?_) λ_ _ z=>z.elim
  subst hr
  refine fg h4 (λ_ s5 ⟨x,H5,I5,r5,y5,st5,fr5⟩=>?_) λ_ _ z=>z.elim
  have I5':=I5.pinned (stat fr5) (T.obj _ _ st5)
  refine fg (hg _ s5 σ3 H5 x u _ I5' r5 (step x H5 y5)) (λ_ s6 ⟨σ6,H6,I6,q6⟩=>?_) λ_ _ z=>z.elim
  refine fg (hb _ s6 σ6 H6 _ I6 q6) (λf s7 q7=>?_) λ_ _ z=>z.elim
  have again:∀{σ7:St} {H7:Hp},Inv X.nox (pins++zh1 fp s5.heap) σ7 H7 s7->N σ7 H7->∃m,m<n/\∃i σ' H',Inv X.nox pins σ' H' s7/\tn i s7.heap/\(∀b∈fp,H' b=none)/\W i m σ' H':=λ{σ7 H7} I7 n7=>by
   obtain⟨m',hm,w7⟩:=hN σ7 H7 n7
   refine⟨m',hm,i+1,σ7,H7,I7.unpinned,T.keep _ _ _ st5 λb hb o e=>(I7.pin (b,o) (aD _ (aD _ (V9 hb e)))).1,λb hb=>?_,w7⟩
   obtain⟨o,e,d⟩:=T.obj _ _ st5 b hb
   exact(I7.pin (b,o) (aD _ (aD _ (V9 hb e)))).2.1
  cases f with
  | next=>obtain⟨σ7,H7,I7,n7⟩:=q7;exact again I7 n7
  | cont=>obtain⟨σ7,H7,I7,n7⟩:=q7;exact again I7 n7
  | brk=>obtain⟨σ7,H7,I7,q7⟩:=q7;exact⟨σ7,H7,I7.unpinned.unwish,q7⟩
  | ret v=>obtain⟨x7,σ7,H7,I7,r7,q7⟩:=q7;exact⟨x7,σ7,H7,I7.unpinned.unwish,r7,q7⟩
end
open PySem.W PySem.Builtin PySem.Builtin.ObjectAttr PySem.Builtin.Getset_descriptor
section
variable {X:Cx}
end
section
variable {prog:eV}{w:eZ}{A:fc}{E:Value->eS->Prop}{s:eS}{K:W.Frag}{x C:Addr}{o:Obj}
end
section
variable {X:Cx}
end
end L2
namespace Tb.ST
open PySem PySem.SetTable
def adv (mask:Nat)(p:Probe):Probe:=if p.more > 0 then { p with j:=p.j+1,more:=p.more-1 } else
 {p with j:=(leap mask p.i p.perturb).1,more:=runEnd mask (leap mask p.i p.perturb).1-(leap mask p.i p.perturb).1,i:=(leap mask p.i p.perturb).1,perturb:=(leap mask p.i p.perturb).2 }
def start (mask:Nat)(h:Int):Probe:={ j:=bits h % (mask+1),more:=runEnd mask (bits h % (mask+1))-bits h % (mask+1),i:=bits h % (mask+1),perturb:=bits h,dummy:=none }
def go (mask:Nat):Nat->Probe->Probe
 | 0,p=>p
 | q+1,p=>go mask q (adv mask p)
def lc (M x:Nat):Nat:=(x*5+1) % M
def lcs (M:Nat):Nat->Nat->Nat
 | 0,x=>x
 | k+1,x=>lcs M k (lc M x)
def yu7 (M:Nat):Nat->Nat->List Nat
 | 0,_=>[]
 | k+1,x=>lc M x::yu7 M k (lc M x)
def full (M:Nat):Bool:=((List.range M).all λe=>(yu7 M M 0).contains e)&&lcs M M 0==0
end Tb.ST
namespace Tb.ST
open PySem PySem.SetTable
theorem E4 {α:Type}{l:List α}{p i:Nat}{x:α}(hp:p<=l.length):(l.take p++x::l.drop p)[i]?=if i<p then l[i]? else if i=p then some x else l[i-1]?:=by
 have ht:(l.take p).length=p:=by rw[bj];lia
 by_cases h1:i<p
 ·rw[if_pos h1,aI (by lia),bK h1]
 ·rw[if_neg h1,aN (by lia),ht]
  by_cases h2:i=p
  ·rw[if_pos h2,h2,bD];rfl
  ·rw[if_neg h2,show i-p=(i-p-1)+1 by lia,dO,cV,show p+(i-p-1)=i-1 by lia]
end Tb.ST
namespace Tb.ST
open PySem PySem.SetTable
def Fr (owner:Array (Option Nat))(j:Nat):Prop:=(owner.getD j (some 0)).isNone=true
end Tb.ST
namespace L2
open PySem PySem.Spec PyProof.Rows
section
variable {prog:eV}{w:eZ}{K:Type}[DecidableEq K]{knd:KeyKind prog w K}{A:fc}{E:Value->eS->Prop}{s:eS}
end
section
variable {X:Cx}
end
section
variable {prog:eV}{w:eZ}{A:fc}{E:Value->eS->Prop}{s:eS}
variable {I Z:Addr}{fp wr:List Addr}{G:Array GenState->Array GenState->Prop}{n:Nat}{P:Nat->Value->Prop}{St:Nat->eS->Prop}{R:Result->eS->Prop}
end
section
variable {X:Cx}
end
end L2
namespace Tb.SO
open PySem PySem.W PyProof.Rows
def run {α:Type}(lt:Nat->Nat->Bool):KasT α->α
 | .ret a=>a
 | .ask i j k=>run lt (k (lt i j))
section
variable (r:Nat->Int)
end
variable {r:Nat->Int}
end Tb.SO
namespace Tb.SO
open PySem PySem.W PyProof.Rows
def Al {α:Type}(n:Nat)(Q:α->Prop):KasT α->Prop
 | .ret a=>Q a
 | .ask i j k=>i<n/\j<n/\∀b,Al n Q (k b)
def rk (x:Nat×Nat):Int:=(x.1:Int)*1000+(x.2:Int)
end Tb.SO
namespace L2
open PySem PySem.Spec PyProof.Rows
section
variable {prog:eV}{w:eZ}{A:fc}{E:Value->eS->Prop}{s:eS}
theorem q9 {α β:Type}{F:α->β->Prop}:∀{as:List α} {bs:List β},Paired F as bs->∀(i:Nat) (a:α) (b:β),as[i]?=some a->bs[i]?=some b->F a b
 | _,_,.nil,i,a,b,h,_=>by cases i <;> cases h
 | _,_,.cons f _,0,a,b,h,h'=>by
  cases h
  cases h'
  exact f
 | _,_,.cons _ r,i+1,a,b,h,h'=>q9 r i a b (by simpa using h) (by simpa using h')
end
section
variable {X:Cx}
end
def h7 (P:eV)(w:eZ)(K:W.Frag)(mg:Str->Option Value)(base:Heap)(k:Nat)(C:Addr)(m:Str)(ps:List Str)(sp:Sp):Prop :=
 ∃f fd,v1 P w K mg base CX0 k f fd ps sp/\yi7 K C m f/\Y6 K fd ps []
def xd7 (P:eV)(w:eZ)(K:W.Frag)(mg:Str->Option Value)(base:Heap)(k:Nat)(C:Addr)(m:Str)(ps:List Str)(sp:Sp):Prop :=
 ∃f fd,v1 P w K mg base (CX1 P w) k f fd ps sp/\yi7 K C m f/\Y6 K fd ps []
section
variable {X:Cx}{C:Addr}{k j:Nat}{m:Str}{ps:List Str}{sp:Sp}{o e:Expr}{es:List Expr}{ta:TE}{t:TA}{apos pos cpos:Pos}{pl:Sem Bool}
theorem c7 (c:Cls X.K C)(kn:h7 X.prog X.w X.K X.mg X.base k C m ps sp)(hr:c4 j X.A)(ho:PE X o ta)(ha:PA X (e::es) t)(hj:k<=j:=by decide)
  (hst:eX (e::es) X.env=(false,eval e X.env)::eX es X.env:=by rfl) (hpl:(backTo pos (eX es X.env)).any (·.1)=false:=by rfl)
  (ht:eval (.Call (.Attribute o m apos) (e::es) [] pos) X.env=(do
   let v ←eval o X.env
   standAt apos.atName
   let (f,first) ←holding [v] (getMethod v m pl)
   callWith pos f first (backTo pos (eX (e::es) X.env)) (backToKw pos (fj [] X.env))):=by rfl):PE X (.Call (.Attribute o m apos) (e::es) [] pos) (ye1 C m sp [] E0 ta t):=by
 obtain⟨f,fd,G,hm,hb⟩:=kn
 exact ys7 ho c hm G (hr.mono hj) hb .nil zu2 ha hst hpl ht
end
section
variable {P:eV}{w:eZ}{K:W.Frag}{mg:Str->Option Value}{base:Heap}{N:List Str}{qual:Str}{scope:Scope}{f:Addr}{cd:Value}{A:fc}{outer:List Env}{s:eS}{H:Hp}{E:XK}
end
section
variable {prog:eV}{w:eZ}{A:fc}{E:Value->eS->Prop}{s:eS}
end
section
variable {X:Cx}
end
section
variable {X:Cx}
end
section
variable {X:Cx}
end
section
variable {prog:eV}{w:eZ}{A:fc}{E:Value->eS->Prop}{s:eS}
def two (x y:Int)(i:Nat):Int:=if i=0 then x else y
end
section
variable {X:Cx}
end
section
variable {X:Cx}{pos:Pos}
end
section
variable {P:eV}{w:eZ}{K:W.Frag}{mg:Str->Option Value}{base:Heap}{f:Addr}{fd:fk}{ps:List Str}{k:Nat}
theorem v1.calm {sp:Sp}(F:v1 P w K mg base (CX1 P w) k f fd ps sp):v1 P w K mg base CX0 k f fd ps (λvs H Q _=>sp vs H Q E0) :=
 ⟨λvs H Q _ h=>F.len vs H Q E0 h,λA outer s H args us vs Q E hr he hb hv hs=>codeAny_mono (F.run A outer s H args us vs Q E0 hr he hb hv hs) λr s' h=>by
  cases r with
  | ok fl=>cases fl <;> exact h
  | error e =>
   obtain⟨ea,C,a0,B,H',_,_,_,_,_,_,_,_,_,_,_,_,hE⟩:=h
   exact hE.elim⟩
end
theorem xb4 {k:Key}{u:Value}(h:zf6 k u=true):u0 (kV k) u:=by
 rcases o0 h with⟨i,t,rfl,rfl⟩|⟨x,t,rfl,rfl⟩
 ·exact⟨t,rfl⟩
 ·exact⟨t,rfl⟩
section
variable {X:Cx}{pins:List (Addr×Obj)}{σ:St}{H:Hp}{s:eS}
theorem Inv.freeze {a:Addr}{kvs:List (Key×V)}{ob:Obj}(I:Inv X pins σ H s)(e:H a=some (.dK kvs))(ho:s.heap.get? a=some ob):Inv X pins σ (upd H a (.frz ob (.dK kvs))) s:=by
 have mu:Mut (H a):=by rw[e];exact True.intro
 refine Inv.write (t':=s.toks) (o:=.frz ob (.dK kvs)) I mu (.inl rfl) (λ_ _ _ q=>q) ⟨ob,ho⟩ ⟨ho,?_⟩
 refine(I.hok a _ e).stay (λ_ _ _ q=>q) (λb q=>?_) λb xs q=>?_
 ·rw[z5 (o3 q e (by intro z;cases z))];exact q
 ·rw[z5 (o3 q e (by intro z;cases z))];exact q
theorem Inv.thaw {a:Addr}{kvs:List (Key×V)}{ob:Obj}(I:Inv X pins σ H s)(e:H a=some (.frz ob (.dK kvs)))(hnf:∀o u,X.H₀ a≠some (.frz o u)):Inv X pins σ (upd H a (.dK kvs)) s:=by
 have ne:∀b o,H b=some o->o≠.frz ob (.dK kvs)->b≠a:=λb o q d=>o3 q e d
 have nen:∀b,H b=none->b≠a:=λb q z=>by subst z;rw[q]at e;cases e
 refine⟨I.ok,I.os,I.bare,⟨I.base.keep,I.base.slot,λb o q n hx=>?_,I.base.there,λb xs q=>?_,λb o u q=>?_,λb ps q=>?_⟩,I.loc,I.cell,?_,λx c q=>?_,λp hp=>?_,λb u q=>?_,I.len⟩
 ·have r:=I.base.free b o q n hx
  rw[z5 (nen b r)];exact r
 ·have r:=I.base.tups b xs q
  rw[z5 (ne b _ r (by intro z;cases z))];exact r
 ·have r:=I.base.frzs b o u q
  have hb:b≠a:=λz=>by subst z;exact hnf o u q
  rw[z5 hb];exact r
 ·obtain⟨m,r⟩:=I.base.tbls b ps q
  exact⟨m,by rw[z5 (ne b _ r (by intro z;cases z))];exact r⟩
 ·rw[z5 (nen _ I.free)];exact I.free
 ·rw[z5 (nen _ (I.freeC x c q))];exact I.freeC x c q
 ·obtain⟨h1,h2,h3,h4,h5⟩:=I.pin p hp
  exact⟨h1,by rw[z5 (nen _ h2)];exact h2,h3,h4,h5⟩
 ·by_cases hb:b=a
  ·subst hb
   rw[z3]at q
   cases q
   obtain⟨_,r⟩:=I.hok b _ e
   refine r.stay (λ_ _ _ q=>q) (λc q=>?_) λc xs q=>?_
   ·rw[z5 (ne c _ q (by intro z;cases z))];exact q
   ·rw[z5 (ne c _ q (by intro z;cases z))];exact q
  ·rw[z5 hb]at q
   refine(I.hok b u q).stay (λ_ _ _ q=>q) (λc q=>?_) λc xs q=>?_
   ·rw[z5 (ne c _ q (by intro z;cases z))];exact q
   ·rw[z5 (ne c _ q (by intro z;cases z))];exact q
theorem Inv.nofrz {a:Addr}{kvs:List (Key×V)}(I:Inv X pins σ H s)(e:H a=some (.dK kvs)):∀o u,X.H₀ a≠some (.frz o u):=λo u q=>by
 have r:=I.base.frzs a o u q
 rw[e]at r
 cases r
end
def ItK (ob:Obj)(d:Addr)(kvs:List (Key×V)):It :=
 ⟨λi H=>H d=some (.frz ob (.dK kvs))/\i<kvs.length,λi H x H'=>H'=H/\∃k v,kvs[i]?=some (k,v)/\x=kV k,λi H=>H d=some (.frz ob (.dK kvs))/\kvs.length<=i⟩
theorem ya9 {P:eV}{w:eZ}{H:Hp}{h:Heap}{d:Addr}{ob:Obj}{kvs:List (Key×V)}{ep:Nat}(ok:HOk P w H h)(hep:∃es,ob.data=.dict es ep)(e:H d=some (.frz ob (.dK kvs))) :
  ∃vs,KV kvs vs/\h.DictAt (l5 P w) d vs ep:=by
 obtain⟨ho,_,_,vs,rel,o,es,ep',ho',hx,hd,r⟩:=ok d _ e
 rw[ho]at ho'
 cases ho'
 obtain⟨es',he⟩:=hep
 rw[he]at hd
 cases hd
 exact⟨vs,rel,ob,_,ho,hx,he,r⟩
theorem yu5 {κ:Type}:∀{kvs:List (κ×V)} {vs:List (κ×Value)},KV kvs vs->∀{i:Nat} {k:κ} {v:V},kvs[i]?=some (k,v)->∃u,vs[i]?=some (k,u)/\u0 v u
 | _,_,.nil,i,k,v,h=>by cases i <;> cases h
 | _,_,.cons (b:=q) f _,0,k,v,h=>by
  obtain⟨k',u⟩:=q
  cases h
  obtain⟨e,r⟩:=f
  cases e
  exact⟨u,rfl,r⟩
 | _,_,.cons _ r,i+1,k,v,h=>by
  obtain⟨u,hu,f⟩:=yu5 r (i:=i) (by simpa using h)
  exact⟨u,by simpa using hu,f⟩
theorem yi2 {P:eV}{w:eZ}{K:W.Frag}{tg:Expr}(ob:Obj)(d it:Addr)(kvs:List (Key×V))(ep:Nat)(hep:∃es,ob.data=.dict es ep):ye4 P w K tg (ItK ob d kvs) [it] it (λi h=>h.IsKeyIter it d i kvs.length ep) where
 mem:=by simp
 obj:=λi h st b hb=>by
  have e:b=it:=by simpa using hb
  subst e
  obtain⟨o,e,c,d⟩:=st
  exact⟨o,e,λv z=>by rw[d]at z;cases z⟩
 keep:=λi h h' st k=>by
  obtain⟨o,e,r⟩:=st
  exact⟨o,k it (by simp) o e,r⟩
 item:=by
  intro X hP hw hK hc i pins s σ H E I hf st hg
  subst hP hw hK
  obtain⟨e,hi⟩:=hg
  obtain⟨vs,rel,da⟩:=ya9 I.hok hep e
  have hx:kvs[i]?=some (kvs[i].1,kvs[i].2):=ac hi
  obtain⟨u,hu,_⟩:=yu5 rel hx
  obtain⟨f0,f1,f2,f3,f4,f5⟩:=hf it (by simp)
  have st2:s.heap.IsKeyIter it d i vs.length ep:=by rw[←rel.length];exact st
  refine wpAny_pyNext_dict_item st2 da hu λkey h' hk st' sb=>?_
  rw[←rel.length]at st'
  have I1:Inv X pins σ H { s with heap:=h' }:=I.turned (t':=s.toks) (λb o hb e=>(sb.2 b hb).trans e) f0 f1 f3 f4 f5
  obtain⟨o,e2,c,dd⟩:=id st'
  exact⟨key,rfl,yb3 (s:={ s with heap:=h' }) e2 c dd (by decide) ⟨kV kvs[i].1,H,I1,xb4 hk,⟨rfl,_,_,hx,rfl⟩,st',λb hb=>(hf b hb).1⟩⟩
 done:=by
  intro X hP hw hK hc i pins s σ H E I hf st hg
  subst hP hw hK
  obtain⟨e,hi⟩:=hg
  obtain⟨vs,rel,da⟩:=ya9 I.hok hep e
  obtain⟨f0,f1,f2,f3,f4,f5⟩:=hf it (by simp)
  have st2:s.heap.IsKeyIter it d i vs.length ep:=by rw[←rel.length];exact st
  exact wpAny_pyNext_dict_end (I.ok.hd hc) st2 da (aP (by rw[←rel.length];exact hi)) λh' eb=>⟨rfl,I.turned (t':=s.toks) (λb o hb e=>eb b o hb e) f0 f1 f3 f4 f5⟩
 self:=λ_ _ _ _ _ st h=>wpAny_pyIter_keyiter st h
section
variable {X:Cx}{tg:Expr}
def xb1 (td:TE):TI:=λσ H R=>td σ H λx H1=>∃d kvs,x=.ref d/\H1 d=some (.dK kvs)/\∀ob,R (ItK ob d kvs) (upd H1 d (.frz ob (.dK kvs)))
theorem ys9 {l:Expr}{td:TE}(hl:PE X l td):PI X tg l (xb1 td):=by
 intro pins s σ H R I h
 refine thn (hl pins s σ H _ I h) λv s1 ⟨x,H1,I1,r1,q1⟩=>?_
 obtain⟨d,kvs,e,hd,q⟩:=q1
 subst e
 cases r1
 obtain⟨hz,hs,vs,rel,dd⟩:=yj9 I1.hok hd
 obtain⟨ep,da⟩:=dd.dictAt
 obtain⟨ob,es,ho,hx,hdat,r⟩:=id da
 have I2:=I1.freeze hd ho
 refine wpAny_pyIter_dict hs da ?_
 rw[←rel.length]
 refine⟨s1.heap.objs.size,[s1.heap.objs.size],_,_,_,rfl,I2.kept (t':=s1.toks) λb o e=>ar _ e,yi2 ob d _ kvs ep ⟨es,hdat⟩,⟨_,aC _ rfl,rfl,rfl⟩,λb hb=>?_,q ob⟩
 have e:b=s1.heap.objs.size:=by simpa using hb
 subst e
 exact I2.fpOk (aq _) (I2.hok.fresh (aq _))
def xd3 (t:TE):TE:=λσ H Q=>∃d kvs,H d=some (.dK kvs)/\t σ H λv H'=>(∃ob,H' d=some (.frz ob (.dK kvs)))/\Q v (upd H' d (.dK kvs))
theorem ys8 {e:Expr}{t:TE}(h:PE X e t):PE X e (xd3 t):=by
 intro pins s σ H Q I hw
 obtain⟨d,kvs,hd,q⟩:=hw
 have nf:=I.nofrz hd
 refine thn (h pins s σ H _ I q) λv s1 ⟨x,H1,I1,r1,⟨ob,hf⟩,q1⟩=>?_
 exact⟨x,_,I1.thaw hf nf,r1,q1⟩
end
def zn4 (P:eV)(w:eZ)(K:W.Frag)(mg:Str->Option Value)(base:Heap)(k:Nat)(C:Addr)(x:Str)(ps:List Str)(sp:Sp):Prop :=
 ∃f fd,v1 P w K mg base CX0 k f fd ps sp/\Mk K C f/\mg x=some (.ref C)/\Y6 K fd ps []
section
variable {X:Cx}{C:Addr}{k j:Nat}{x:Str}{ps:List Str}{sp:Sp}{e:Expr}{es:List Expr}{t:TA}{p pos:Pos}
theorem J8 (kn:zn4 X.prog X.w X.K X.mg X.base k C x ps sp)(hr:c4 j X.A)(hg:Gl X x)(ha:PA X (e::es) t)(hj:k+1<=j:=by decide)(hdb:(x==("__debug__":Str))=false:=by decide)
  (he:eX (e::es) X.env=(false,eval e X.env)::eX es X.env:=by rfl) (hpl:(backTo pos (eX es X.env)).any (·.1)=false:=by rfl):PE X (.Call (.Name x p) (e::es) [] pos) (yv1 C sp [] E0 t):=by
 obtain⟨f,fd,G,hM,hm,hb⟩:=kn
 exact ys6 hM G (hr.mono hj) hg hm hb .nil zu2 ha hdb he hpl
def ipM:TIp:=λx y H Q=>∃i j,x=.int i/\y=.int j/\yq3 i j/\Q (.int (i*j)) H
theorem yw1:PIp X .Mult ipM:=by
 intro pins s σ H x y v u Q I r1 r2 h
 obtain⟨i,j,e1,e2,hc,q⟩:=h
 subst e1;subst e2
 obtain⟨t,rfl⟩:=r1
 obtain⟨t',rfl⟩:=r2
 exact imul_int ⟨.int _,H,I.tok _,⟨_,rfl⟩,q⟩ hc.ok
end
section
variable {prog:eV}{w:eZ}{A:fc}{E:Value->eS->Prop}{s:eS}
end
section
variable {X:Cx}
end
end L2
namespace L2
open PySem PySem.Spec PyProof.Rows
section
variable {X:Cx}{C:Addr}{k j:Nat}{x:Str}{ps:List Str}{sp:Sp}{e:Expr}{es:List Expr}{t:TA}{p cpos pos:Pos}
end
end L2
namespace L2
open PySem PySem.Spec PyProof.Rows PySem.Builtin
section
variable {X:Cx}
end
end L2
namespace L2
open PySem PyProof PyProof.Rows
section
variable {prog:eV}{w:eZ}{A:fc}{E:Value->eS->Prop}{s:eS}
end
section
variable {X:Cx}
end
end L2
namespace HT
open PySem PyProof.Rows
section
open PySem.SeqAt
open PySem.AutoSeq1 (wpAny_loadPart')
open PySem.MeetsSeq PySem.MeetsSeq2 PySem.MeetsSeq3
end
section
variable {prog:eV}{w:eZ}{A:fc}{E:Value->eS->Prop}{s:eS}
end
end HT
namespace L2
open PySem PySem.Spec PyProof.Rows
section
variable {X:Cx}
end
section
variable {prog:eV}{w:eZ}{A:fc}{R:Result->eS->Prop}{I S:Addr}{fp wr:List Addr}{n:Nat}{P:Nat->Value->Prop}{St:Nat->Heap->Prop}{J:Heap->Prop}{bt:Nat->Nat->Bool}
end
section
variable {X:Cx}
end
section
variable {M:Model}{A:fc}{E:Value->eS->Prop}{s:eS}
end
section
variable {X:Cx}{pins:List (Addr×Obj)}{σ:St}{H:Hp}{s:eS}
end
section
variable {X:Cx}{own:Nat}{fr:List Nat}{N':List Str}{tg iter elt:Expr}{scope:Scope}{pos:Pos}{wi:TI}{g:CT TG}{te:CT TE}
end
section
variable {pr:eV}{wd:eZ}{κ:Type}[DecidableEq κ]{kh:HeapKind pr wd κ}
end
section
variable {X:Cx}
end
end L2
namespace Tb.SO
end Tb.SO
namespace L2
open PySem PySem.Spec PyProof.Rows
section
variable {prog:eV}{w:eZ}{A:fc}{E:Value->eS->Prop}{s:eS}
end
section
variable {X:Cx}{pins:List (Addr×Obj)}{σ:St}{H H':Hp}{s:eS}{h':Heap}
end
section
variable {X:Cx}
theorem zm5 {α β:Type}{F:α->β->Prop}:∀{as:List α} {bs:List β},as.length=bs.length->(∀(i:Nat) a b,as[i]?=some a->bs[i]?=some b->F a b)->Paired F as bs
 | [],[],_,_=>.nil
 | a::as,b::bs,hl,h=>.cons (h 0 a b rfl rfl) (zm5 (by simpa using hl) λi x y hx hy=>h (i+1) x y (by simpa using hx) (by simpa using hy))
 | [],_::_,hl,_=>by cases hl
 | _::_,[],hl,_=>by cases hl
end
section
variable {X:Cx}{pins:List (Addr×Obj)}{σ:St}{H:Hp}{s:eS}
end
section
variable {X:Cx}{tg:Expr}
end
section
variable {prog:eV}{w:eZ}{A:fc}{E:Value->eS->Prop}{s:eS}
end
section
variable {X:Cx}{pins:List (Addr×Obj)}{σ:St}{H:Hp}{s:eS}
end
section
variable {X:Cx}
end
namespace RepN
open PySem.Builtin
end RepN
section
variable {X:Cx}
end
end L2
namespace L2
open PySem PySem.Spec PyProof.Rows
section
variable {prog:eV}{w:eZ}{A:fc}{E:Value->eS->Prop}{s:eS}
end
section
variable {X:Cx}
end
end L2
namespace TM
def IsT (n:Nat)(t:List Nat):Prop:=t.Perm (List.range n)
theorem IsT.length {n:Nat}{t:List Nat}(h:IsT n t):t.length=n:=by rw[List.Perm.length_eq h,az]
theorem IsT.lt {n:Nat}{t:List Nat}(h:IsT n t){x:Nat}(hx:x∈t):x<n:=aG.mp ((List.Perm.mem_iff h).mp hx)
theorem IsT.mem {n:Nat}{t:List Nat}(h:IsT n t){x:Nat}(hx:x<n):x∈t:=(List.Perm.mem_iff h).mpr (aG.mpr hx)
theorem IsT.nodup {n:Nat}{t:List Nat}(h:IsT n t):t.Nodup:=(List.Perm.nodup_iff h).mpr bE
theorem IsT.range (n:Nat):IsT n (List.range n):=List.Perm.refl _
theorem IsT.get_lt {n:Nat}{t:List Nat}(h:IsT n t){i x:Nat}(hx:t[i]?=some x):x<n:=h.lt (aw hx)
theorem IsT.at {n:Nat}{t:List Nat}(h:IsT n t){i:Nat}(hi:i<n):∃x,t[i]?=some x/\x<n:=by
 have hi':i<t.length:=by rw[h.length];exact hi
 exact⟨t[i],ac hi',h.lt (cK hi')⟩
theorem Z4:∀{t l:List Nat},t.Nodup->(∀x∈t,x∈l)->l.length<=t.length->t.Perm l
 | [],l,_,_,h=>by
  have e:l=[]:=dN.mp (Nat.le_zero.mp h)
  subst e
  exact List.Perm.refl _
 | a::r,l,hn,hs,h=>by
  obtain⟨h1,h2⟩:=aK.mp hn
  have ha:a∈l:=hs a ax
  have p:=List.perm_cons_erase ha
  have ih:r.Perm (l.erase a):=Z4 h2 (λx hx=>by
   have hx':=hs x (av _ hx)
   have ne:x≠a:=λe=>h1 (e ▸ hx)
   rcases au.mp ((List.Perm.mem_iff p).mp hx') with e|e
   ·exact absurd e ne
   ·exact e) (by rw[dL ha];simp only[aQ]at h;lia)
  exact(List.Perm.cons a ih).trans p.symm
theorem B0 {n:Nat}{t:List Nat}(hl:t.length=n)(hn:t.Nodup)(hlt:∀x∈t,x<n):IsT n t :=
 Z4 hn (λx hx=>aG.mpr (hlt x hx)) (by rw[hl,az];exact aq _)
theorem ze7 {α:Type}:∀(l:List α) (i:Nat) (x:α),l[i]?=some x->(x::l.eraseIdx i).Perm l
 | [],_,_,h=>by cases h
 | a::r,0,x,h=>by
  cases h
  exact List.Perm.refl _
 | a::r,i+1,x,h=>by
  have ih:=ze7 r i x (by simpa using h)
  rw[List.eraseIdx_cons_succ]
  exact(List.Perm.swap a x _).trans (List.Perm.cons a ih)
theorem draw_perm {n:Nat}{row left:List Nat}{i x:Nat}(h:IsT n (row++left))(hx:left[i]?=some x):IsT n ((row++[x])++left.eraseIdx i):=by
 refine List.Perm.trans ?_ h
 rw[cH]
 exact List.Perm.append_left row (ze7 left i x hx)
end TM
namespace TM
theorem IsT.map {n:Nat}{s t:List Nat}(hs:IsT n s)(ht:IsT n t):IsT n (s.map λx=>t.getD x 0):=by
 have e:((List.range n).map λx=>t.getD x 0)=t:=by
  apply bM
  intro i
  rw[ag]
  by_cases hi:i<n
  ·rw[aM hi]
   have hi':i<t.length:=by rw[ht.length];exact hi
   simp[ac hi']
  ·rw[aP (by rw[az];lia),aP (by rw[ht.length];lia)]
   rfl
 have h1:=List.Perm.map (λx=>t.getD x 0) hs
 rw[e]at h1
 exact h1.trans ht
theorem getD_of {t:List Nat}{i x:Nat}(h:t[i]?=some x):t.getD i 0=x:=by rw[ao,h];rfl
theorem zo8 {s t:List Nat}{i x y:Nat}(hs:s[i]?=some x)(ht:t[x]?=some y):(s.map λx=>t.getD x 0)[i]?=some y:=by
 rw[ag,hs]
 simp only[eA]
 rw[getD_of ht]
theorem IsT.hit {n:Nat}{t:List Nat}(h:IsT n t){y:Nat}(hy:y<n):∃x,t[x]?=some y/\x<n:=by
 obtain⟨x,hx⟩:=bz (h.mem hy)
 exact⟨x,hx,by have:=(ap.mp hx).1;rwa [h.length]at this⟩
theorem IsT.inj {n:Nat}{t:List Nat}(h:IsT n t){i j x:Nat}(hi:t[i]?=some x)(hj:t[j]?=some x):i=j:=by
 obtain⟨h1,e1⟩:=ap.mp hi
 obtain⟨h2,e2⟩:=ap.mp hj
 exact(eE h.nodup).mp (e1.trans e2.symm)
structure Back (n:Nat) (t:List Nat) (k:Nat) (b:List Nat):Prop where
 len:b.length=n
 ret:∀x y,x<k->t[x]?=some y->b[y]?=some x
theorem Back.start {n:Nat}{t b:List Nat}(h:b.length=n):Back n t 0 b:=⟨h,λ_ _ h=>absurd h (cQ _)⟩
theorem Back.step {n:Nat}{t b:List Nat}{k y:Nat}(hT:IsT n t)(h:Back n t k b)(hy:t[k]?=some y):Back n t (k+1) (b.set y k):=by
 have hyn:y<b.length:=by rw[h.len];exact hT.get_lt hy
 refine⟨by rw[bd];exact h.len,λx z hx hz=>?_⟩
 by_cases e:x=k
 ·subst e
  rw[hy]at hz
  cases hz
  rw[bC hyn]
 ·have ne:y≠z:=λq=>e (hT.inj hz (q ▸ hy))
  rw[bn ne]
  exact h.ret x z (by lia) hz
theorem Back.lt {n:Nat}{t b:List Nat}(hT:IsT n t)(h:Back n t n b){y x:Nat}(hy:b[y]?=some x):x<n/\t[x]?=some y:=by
 have hyn:y<n:=by have:=(ap.mp hy).1;rwa [h.len]at this
 obtain⟨z,hz,hzn⟩:=hT.hit hyn
 have:=h.ret z y hzn hz
 rw[hy]at this
 cases this
 exact⟨hzn,hz⟩
theorem Back.get {n:Nat}{t b:List Nat}(hT:IsT n t)(h:Back n t n b){y:Nat}(hy:y<n):∃x,b[y]?=some x/\x<n/\t[x]?=some y:=by
 obtain⟨x,hx,hxn⟩:=hT.hit hy
 exact⟨x,h.ret x y hxn hx,hxn,hx⟩
theorem Back.mem_lt {n:Nat}{t b:List Nat}(hT:IsT n t)(h:Back n t n b){x:Nat}(hx:x∈b):x<n:=by
 obtain⟨y,hy⟩:=bz hx
 exact(h.lt hT hy).1
theorem Back.uniq {n:Nat}{t b c:List Nat}(hT:IsT n t)(h:Back n t n b)(h':Back n t n c):b=c:=by
 apply bM
 intro y
 by_cases hy:y<n
 ·obtain⟨x,h1,hxn,hx⟩:=h.get hT hy
  rw[h1,h'.ret x y hxn hx]
 ·rw[aP (by rw[h.len];lia),aP (by rw[h'.len];lia)]
theorem Back.isT {n:Nat}{t b:List Nat}(hT:IsT n t)(h:Back n t n b):IsT n b:=by
 refine B0 h.len ?_ λx hx=>h.mem_lt hT hx
 refine bu.mpr λi j hi hj hij e=>?_
 have h1:=(h.lt hT (ac hi)).2
 have h2:=(h.lt hT (ac hj)).2
 rw[e,h2]at h1
 cases h1
 exact aW _ hij
theorem Back.comp {n:Nat}{s t b c:List Nat}(hs:IsT n s)(ht:IsT n t)(h:Back n s n b)(h':Back n t n c):Back n (s.map λx=>t.getD x 0) n (c.map λx=>b.getD x 0):=by
 refine⟨by rw[aa];exact h'.len,λx z hx hz=>?_⟩
 obtain⟨y,hy,hyn⟩:=hs.at hx
 obtain⟨z',hz',_⟩:=ht.at hyn
 rw[zo8 hy hz']at hz
 cases hz
 exact zo8 (h'.ret y z hyn hz') (h.ret x y hx hy)
theorem Back.range (n:Nat):Back n (List.range n) n (List.range n):=⟨az,λx y hx hy=>by
 rw[aM hx]at hy
 cases hy
 exact aM hx⟩
end TM
namespace TM
def it (t:List Nat):Nat->Nat->Nat
 | 0,x=>x
 | k+1,x=>t.getD (it t k x) 0
theorem R7 (t:List Nat)(j:Nat):∀(k x:Nat),it t (j+k) x=it t k (it t j x)
 | 0,_=>rfl
 | k+1,x=>by
  show t.getD (it t (j+k) x) 0=t.getD (it t k (it t j x)) 0
  rw[R7 t j k x]
theorem yw5 (t:List Nat)(x:Nat):it t 1 x=t.getD x 0:=rfl
section
variable {n:Nat}{t:List Nat}(h:IsT n t)
include h
theorem IsT.step_lt {x:Nat}(hx:x<n):t.getD x 0<n:=by
 obtain⟨y,hy,hyn⟩:=h.at hx
 rw[getD_of hy]
 exact hyn
theorem IsT.get_step {x:Nat}(hx:x<n):t[x]?=some (t.getD x 0):=by
 obtain⟨y,hy,_⟩:=h.at hx
 rw[getD_of hy,hy]
theorem IsT.it_lt {x:Nat}(hx:x<n):∀k,it t k x<n
 | 0=>hx
 | k+1=>h.step_lt (IsT.it_lt hx k)
theorem IsT.step_inj {x y:Nat}(hx:x<n)(hy:y<n)(e:t.getD x 0=t.getD y 0):x=y:=h.inj (h.get_step hx) (e ▸ h.get_step hy)
theorem IsT.it_inj {x y:Nat}(hx:x<n)(hy:y<n):∀k,it t k x=it t k y->x=y
 | 0,e=>e
 | k+1,e=>IsT.it_inj hx hy k (h.step_inj (h.it_lt hx k) (h.it_lt hy k) e)
end
theorem yg5 {l:List Nat}{n:Nat}(hn:l.Nodup)(hlt:∀x∈l,x<n):l.length<=n:=by
 refine bU λhc=>?_
 have p:=Z4 hn (λx hx=>aG.mpr (hlt x hx)) (by rw[az];lia)
 have:=p.length_eq
 rw[az]at this
 lia
def per (t:List Nat)(x:Nat):Nat:=((List.range t.length).find? λj=>it t (j+1) x==x).getD 0+1
section
variable {n:Nat}{t:List Nat}(h:IsT n t)
include h
theorem IsT.back_some {x:Nat}(hx:x<n):∃j,j<n/\it t (j+1) x=x:=by
 refine Classical.byContradiction λhc=>?_
 have nd:((List.range (n+1)).map λk=>it t k x).Nodup:=by
  refine bu.mpr λi j hi hj hij e=>?_
  simp only[aa,az]at hi hj
  simp only[List.getElem_map,List.getElem_range]at e
  have e2:it t (j-i) x=x:=by
   have e3:it t j x=it t i (it t (j-i) x):=by rw[←R7];congr 1;lia
   rw[e3]at e
   exact(h.it_inj hx (h.it_lt hx _) i e).symm
  exact hc ⟨j-i-1,by lia,by rw[show j-i-1+1=j-i by lia];exact e2⟩
 have:=yg5 nd λy hy=>by
  obtain⟨k,_,rfl⟩:=ah.mp hy
  exact h.it_lt hx k
 simp only[aa,az]at this
 lia
theorem IsT.per_spec {x:Nat}(hx:x<n):1<=per t x/\per t x<=n/\it t (per t x) x=x/\∀j,1<=j->j<per t x->it t j x≠x:=by
 obtain⟨j,hj,ej⟩:=h.back_some hx
 have hsome:((List.range t.length).find? λj=>it t (j+1) x==x).isSome=true:=by
  rw[List.find?_isSome]
  exact⟨j,aG.mpr (by rw[h.length];exact hj),by simpa using ej⟩
 obtain⟨k,hk⟩:=dA.mp hsome
 have e:per t x=k+1:=by unfold per;rw[hk];rfl
 rw[e]
 rw[List.find?_range_eq_some]at hk
 obtain⟨h1,h2,h3⟩:=hk
 refine⟨by lia,by have:=aG.mp h2;rw[h.length]at this;lia,by simpa using h1,λi hi1 hi2=>?_⟩
 have:=h3 (i-1) (by lia)
 rw[show i-1+1=i by lia]at this
 simpa using this
theorem IsT.per_pos {x:Nat}(hx:x<n):0<per t x:=(h.per_spec hx).1
theorem IsT.per_back {x:Nat}(hx:x<n):it t (per t x) x=x:=(h.per_spec hx).2.2.1
theorem IsT.it_mul {x:Nat}(hx:x<n):∀q,it t (per t x*q) x=x
 | 0=>rfl
 | q+1=>by rw[Nat.mul_succ,R7,IsT.it_mul hx q,h.per_back hx]
theorem IsT.it_mod {x:Nat}(hx:x<n)(k:Nat):it t (k % per t x) x=it t k x:=by
 have e:k=per t x*(k / per t x)+k % per t x:=(Nat.div_add_mod k (per t x)).symm
 conv=>rhs;rw[e,R7,h.it_mul hx]
theorem IsT.it_eq_iff {x:Nat}(hx:x<n){i j:Nat}(hi:i<per t x)(hj:j<per t x)(e:it t i x=it t j x):i=j:=by
 have key:∀{i j:Nat},i<=j->j<per t x->it t i x=it t j x->i=j:=λ{i j} hij hj e=>by
  by_cases hq:i=j
  ·exact hq
  ·exfalso
   have e3:it t j x=it t i (it t (j-i) x):=by rw[←R7];congr 1;lia
   rw[e3]at e
   have e2:=(h.it_inj hx (h.it_lt hx _) i e).symm
   exact(h.per_spec hx).2.2.2 (j-i) (by lia) (by lia) e2
 rcases dS i j with q|q
 ·exact key q hj e
 ·exact(key q hi e.symm).symm
end
section
variable {n:Nat}{t:List Nat}(h:IsT n t)
include h
theorem IsT.per_it {x:Nat}(hx:x<n)(j:Nat):per t (it t j x)=per t x:=by
 have hy:=h.it_lt hx j
 have le1:∀{x:Nat} (hx:x<n) (j:Nat),per t (it t j x)<=per t x:=λ{x} hx j=>by
  have hy:=h.it_lt hx j
  refine bU λhc=>?_
  refine(h.per_spec hy).2.2.2 (per t x) (h.per_pos hx) hc ?_
  rw[←R7,dU,R7,h.per_back hx]
 refine Nat.le_antisymm (le1 hx j) ?_
 have e:it t (per t x*(j+1)-j) (it t j x)=x:=by
  have hle:j<=per t x*(j+1):=aX (cy j) (by have:=dX (j+1) (h.per_pos hx);lia)
  rw[←R7,show j+(per t x*(j+1)-j)=per t x*(j+1) by lia]
  exact h.it_mul hx _
 have:=le1 hy (per t x*(j+1)-j)
 rwa [e]at this
end
structure xg6 (t:List Nat) (x k:Nat) (c:List Nat):Prop where
 eq:c=(List.range k).map λj=>it t j x
 pos:1<=k
 no:∀j,1<=j->j<k->it t j x≠x
def pw (t:List Nat)(m:Int)(x:Nat):Nat:=it t (m % (per t x:Int)).toNat x
def pwT (t:List Nat)(m:Int):List Nat:=(List.range t.length).map (pw t m)
end TM
namespace TM
theorem yr7 {L:Nat}(hL:0<L)(i:Nat)(m:Int):((((i:Int)+m) % (L:Int)).toNat)=(i+(m % (L:Int)).toNat) % L:=by
 have hL':(0:Int)<(L:Int):=by lia
 have h1:=aY ((i:Int)+m) (show(L:Int)≠0 by lia)
 have h2:=aY m (show(L:Int)≠0 by lia)
 have e1:((m % (L:Int)).toNat:Int)=m % (L:Int):=bB h2
 have e2:(((i+(m % (L:Int)).toNat) % L:Nat):Int)=((i:Int)+m) % (L:Int):=by
  rw[cN,bW,e1,Int.add_emod_emod]
 lia
section
variable {n:Nat}{t:List Nat}(hT:IsT n t)
include hT
theorem IsT.stay {x:Nat}(hx:x<n)(hp:¬1<per t x):t[x]?=some x:=by
 have h1:=hT.per_pos hx
 have h2:=hT.per_back hx
 rw[show per t x=1 by lia,yw5]at h2
 have:=hT.get_step hx
 rwa [h2]at this
theorem IsT.pw_lt (m:Int){x:Nat}(hx:x<n):pw t m x<n:=hT.it_lt hx _
theorem IsT.pw_pw (a b:Int){x:Nat}(hx:x<n):pw t b (pw t a x)=pw t (a+b) x:=by
 have hL:=hT.per_pos hx
 unfold pw
 rw[hT.per_it hx,←R7]
 have h2:=aY a (show(per t x:Int)≠0 by lia)
 have e:((a+b) % (per t x:Int)).toNat=((a % (per t x:Int)).toNat+(b % (per t x:Int)).toNat) % per t x:=by
  rw[←yr7 hL,bB h2,Int.emod_add_emod]
 rw[e,hT.it_mod hx]
theorem IsT.pwT_get (m:Int){x:Nat}(hx:x<n):(pwT t m)[x]?=some (pw t m x):=by
 unfold pwT
 rw[ag,aM (by rw[hT.length];exact hx)]
 rfl
theorem IsT.pwT_len (m:Int):(pwT t m).length=n:=by unfold pwT;rw[aa,az,hT.length]
theorem IsT.eq_pwT {g:List Nat}{m:Int}(hl:g.length=n)(h:∀x,x<n->g[x]?=some (pw t m x)):g=pwT t m:=by
 apply bM
 intro x
 by_cases hx:x<n
 ·rw[h x hx,hT.pwT_get m hx]
 ·rw[aP (by lia),aP (by rw[hT.pwT_len];lia)]
theorem IsT.pwT_zero:List.range n=pwT t 0:=hT.eq_pwT az λx hx=>by
 rw[aM hx]
 unfold pw
 rw[Int.zero_emod]
 rfl
theorem IsT.pwT_one:t=pwT t 1:=hT.eq_pwT hT.length λx hx=>by
 by_cases hp:1<per t x
 ·rw[hT.get_step hx]
  unfold pw
  rw[Int.emod_eq_of_lt (by decide) (by lia)]
  rfl
 ·have h1:=hT.per_pos hx
  rw[hT.stay hx hp]
  unfold pw
  rw[show per t x=1 by lia]
  rfl
theorem IsT.pwT_comp (a b:Int):((pwT t a).map λx=>(pwT t b).getD x 0)=pwT t (a+b):=hT.eq_pwT (by rw[aa,hT.pwT_len]) λx hx=>by
 rw[zo8 (hT.pwT_get a hx) (hT.pwT_get b (hT.pw_lt a hx)),hT.pw_pw a b hx]
end
structure Pow (n:Nat) (t:List Nat) (m:Int) (S:Nat->Prop) (g:List Nat):Prop where
 len:g.length=n
 ins:∀x,x<n->S x->g[x]?=some (pw t m x)
 out:∀x,x<n->¬S x->g[x]?=t[x]?
end TM
namespace TM
section
variable {n:Nat}{t:List Nat}(hT:IsT n t)
include hT
end
def yx3 (l:List Nat):Nat:=l.foldl Nat.lcm 1
theorem lcm_pos {a b:Nat}(ha:0<a)(hb:0<b):0<Nat.lcm a b:=Nat.lcm_pos ha hb
end TM
namespace TM
theorem yl3:∀{l:List Nat},(∀x∈l,0<x)->0<yx3 l:=by
 intro l
 unfold yx3
 have key:∀(l:List Nat) (a:Nat),0<a->(∀x∈l,0<x)->0<l.foldl Nat.lcm a:=by
  intro l
  induction l with
  | nil=>intro a h _;exact h
  | cons b r ih=>intro a h hl;exact ih _ (Nat.lcm_pos h (hl b ax)) λx hx=>hl x (av _ hx)
 exact key l 1 (by decide)
end TM
namespace TM
section
variable {n:Nat}{t:List Nat}(hT:IsT n t)
include hT
end
theorem yr6 {l m:List Nat}(h1:l.Nodup)(h2:∀y∈l,y∈m):l.length<=m.length:=by
 refine bU λhc=>?_
 have:=(Z4 h1 h2 (by lia)).length_eq
 lia
structure Conj (n:Nat) (t b c:List Nat):Prop where
 len:c.length=n
 go:∀x,x<n->c[b.getD x 0]?=some (b.getD (t.getD x 0) 0)
section
variable {n:Nat}{t b c:List Nat}(hT:IsT n t)(hB:IsT n b)
include hT hB
theorem Conj.isT (h:Conj n t b c):IsT n c:=by
 have hv:∀y z,c[y]?=some z->y<n->∃x,x<n/\b.getD x 0=y/\z=b.getD (t.getD x 0) 0:=λy z hz hy=>by
  obtain⟨x,hx,hxn⟩:=hB.hit hy
  have e:=getD_of hx
  have:=h.go x hxn
  rw[e,hz]at this
  exact⟨x,hxn,e,Option.some.inj this⟩
 refine B0 h.len ?_ λz hz=>?_
 ·refine bu.mpr λi j hi hj hij e=>?_
  obtain⟨x,hx,ex,e1⟩:=hv i _ (ac hi) (by rw[←h.len];exact hi)
  obtain⟨y,hy,ey,e2⟩:=hv j _ (ac hj) (by rw[←h.len];exact hj)
  rw[e1,e2]at e
  have q:=hB.step_inj (hT.step_lt hx) (hT.step_lt hy) e
  have q2:=hT.step_inj hx hy q
  rw[←ex,←ey,q2]at hij
  exact aW _ hij
 ·obtain⟨y,hy⟩:=bz hz
  have hyn:y<n:=by have:=(ap.mp hy).1;rwa [h.len]at this
  obtain⟨x,hx,_,e⟩:=hv y z hy hyn
  rw[e]
  exact hB.step_lt (hT.step_lt hx)
theorem Conj.step (h:Conj n t b c){x:Nat}(hx:x<n):c.getD (b.getD x 0) 0=b.getD (t.getD x 0) 0:=getD_of (h.go x hx)
end
structure Led (n:Nat) (t b:List Nat) (k:Nat) (g:List Nat):Prop where
 len:g.length=n
 go:∀x,x<k->g[b.getD x 0]?=some (b.getD (t.getD x 0) 0)
theorem Led.start {n:Nat}{t b g:List Nat}(h:g.length=n):Led n t b 0 g:=⟨h,λ_ h=>absurd h (cQ _)⟩
theorem Led.step {n:Nat}{t b g:List Nat}{k:Nat}(hB:IsT n b)(hk:k<n)(h:Led n t b k g):Led n t b (k+1) (g.set (b.getD k 0) (b.getD (t.getD k 0) 0)):=by
 have hkn:b.getD k 0<g.length:=by rw[h.len];exact hB.step_lt hk
 refine⟨by rw[bd];exact h.len,λx hx=>?_⟩
 by_cases e:x=k
 ·subst e
  rw[bC hkn]
 ·have ne:b.getD k 0≠b.getD x 0:=λq=>e (hB.step_inj (by lia) hk q.symm)
  rw[bn ne]
  exact h.go x (by lia)
theorem Led.done {n:Nat}{t b g:List Nat}(h:Led n t b n g):Conj n t b g:=⟨h.len,h.go⟩
end TM
namespace TM
section
variable {n a b:Nat}{t u:List Nat}(hT:IsT n t)(hU:IsT n u)
include hT hU
end
section
variable {n:Nat}{t:List Nat}(hT:IsT n t)
include hT
end
end TM
namespace TM
inductive Ln where
 | still|told (k:Nat)|behind (i j:Nat)|back (i:Nat)
 deriving DecidableEq
def Ln.refs:Ln->List Nat
 | .still=>[]
 | .told _=>[]
 | .behind i j=>[i,j]
 | .back i=>[i]
def Ln.Ok (c p:Nat):Ln->Prop
 | .still=>True
 | .told k=>k<c
 | .behind i j=>i<p/\j<p
 | .back i=>i<p
def Rec (c:Nat)(ls:List Ln):Prop:=∀(p:Nat) (l:Ln),ls[p]?=some l->l.Ok c p
inductive ya1 (ls:List Ln):Nat->Nat->Prop
 | self (p:Nat):ya1 ls p p
 | by {p r q:Nat} {l:Ln}:ls[p]?=some l->r∈l.refs->ya1 ls r q->ya1 ls p q
open Classical in
noncomputable def nb (ls:List Ln) (q:Nat):Bool:=decide (ya1 ls (ls.length-1) q)
def pos (b:Nat->Bool)(r:Nat):Nat:=((List.range r).filter b).length
def Ln.ren (f:Nat->Nat):Ln->Ln
 | .still=>.still
 | .told k=>.told k
 | .behind i j=>.behind (f i) (f j)
 | .back i=>.back (f i)
def few (b:Nat->Bool)(ls:List Ln)(k:Nat):List Ln:=((List.range k).filter b).map λp=>(ls.getD p .still).ren (pos b)
section
variable {c:Nat}{ls:List Ln}(hR:Rec c ls)(hne:ls≠[])
include hR hne
noncomputable def stay (ls:List Ln):List Ln:=few (nb ls) ls ls.length
end
def bkT (n:Nat)(t:List Nat):List Nat:=(List.range n).map λy=>t.idxOf y
def comp (s t:List Nat):List Nat:=s.map λx=>t.getD x 0
def Ln.mk (n:Nat)(ms:List (List Nat))(made:List (List Nat)):Ln->List Nat
 | .still=>List.range n
 | .told k=>ms.getD k []
 | .behind i j=>comp (made.getD i []) (made.getD j [])
 | .back i=>bkT n (made.getD i [])
end TM
namespace TM
section
variable {α:Type}
def Loc (d:α)(g:Ln->List α->α):Prop:=∀(l:Ln) (m1 m2:List α) (f:Nat->Nat),(∀r∈l.refs,m1.getD r d=m2.getD (f r) d)->g l m1=g (l.ren f) m2
end
def step (n:Nat)(ms:List (List Nat))(x:Int):List Nat:=if 0<=x then ms.getD x.toNat [] else bkT n (ms.getD (-1-x).toNat [])
def wk (n:Nat)(ms:List (List Nat))(xs:List Int):List Nat:=xs.foldl (λhere x=>comp here (step n ms x)) (List.range n)
section
variable {n:Nat}
variable {ms:List (List Nat)}(hms:∀t∈ms,IsT n t)
include hms
end
end TM
namespace TM
def beh (t u:List Nat):List Nat:=t.map λx=>u.getD x 0
def bk (n:Nat)(t:List Nat):List Nat:=(List.range n).map λy=>t.idxOf y
theorem IsT.beh {n:Nat}{t u:List Nat}(ht:IsT n t)(hu:IsT n u):IsT n (TM.beh t u):=IsT.map ht hu
theorem beh_get {n:Nat}{t u:List Nat}(ht:IsT n t){x:Nat}(hx:x<n):(TM.beh t u).getD x 0=u.getD (t.getD x 0) 0:=by
 unfold TM.beh
 rw[ao,ag,ht.get_step hx]
 rfl
theorem still_get {n x:Nat}(hx:x<n):(List.range n).getD x 0=x:=by
 rw[ao,aM hx];rfl
theorem X7 {n:Nat}{a b:List Nat}(ha:IsT n a)(hb:IsT n b)(h:∀x,x<n->a.getD x 0=b.getD x 0):a=b:=by
 apply bM
 intro i
 by_cases hi:i<n
 ·rw[ha.get_step hi,hb.get_step hi,h i hi]
 ·rw[aP (by rw[ha.length];lia),aP (by rw[hb.length];lia)]
theorem y8 {n:Nat}{a b c:List Nat}(ha:IsT n a)(hb:IsT n b)(hc:IsT n c):beh (beh a b) c=beh a (beh b c) :=
 X7 ((ha.beh hb).beh hc) (ha.beh (hb.beh hc)) λx hx=>by rw[beh_get (ha.beh hb) hx,beh_get ha hx,beh_get ha hx,beh_get hb (ha.step_lt hx)]
theorem still_beh {n:Nat}{t:List Nat}(ht:IsT n t):beh (List.range n) t=t :=
 X7 ((IsT.range n).beh ht) ht λx hx=>by rw[beh_get (IsT.range n) hx,still_get hx]
theorem beh_still {n:Nat}{t:List Nat}(ht:IsT n t):beh t (List.range n)=t :=
 X7 (ht.beh (IsT.range n)) ht λx hx=>by rw[beh_get ht hx,still_get (ht.step_lt hx)]
theorem b7:∀{l:List Nat} {i x:Nat},l.Nodup->l[i]?=some x->l.idxOf x=i
 | a::r,0,x,_,h=>by
  obtain rfl:a=x:=by simpa using h
  exact List.idxOf_cons_self
 | a::r,i+1,x,hn,h=>by
  have h':r[i]?=some x:=by simpa using h
  have hne:a≠x:=λe=>(aK.mp hn).1 (e ▸ aw h')
  have ih:=b7 (aK.mp hn).2 h'
  rw[List.idxOf_cons,show(a==x)=false from beq_eq_false_iff_ne.mpr hne]
  show r.idxOf x+1=i+1
  rw[ih]
theorem ze2 {n:Nat}{t:List Nat}(ht:IsT n t){x:Nat}(hx:x<n):(bk n t).getD (t.getD x 0) 0=x:=by
 unfold bk
 rw[ao,ag,aM (ht.step_lt hx)]
 exact b7 ht.nodup (ht.get_step hx)
theorem bk_back {n:Nat}{t:List Nat}(ht:IsT n t):Back n t n (bk n t):=by
 refine⟨by unfold bk;rw[aa,az],λx y hx hy=>?_⟩
 unfold bk
 rw[ag,aM (ht.get_lt hy)]
 exact congrArg some (b7 ht.nodup hy)
theorem IsT.bk {n:Nat}{t:List Nat}(ht:IsT n t):IsT n (TM.bk n t):=(bk_back ht).isT ht
theorem V8 {n:Nat}{t:List Nat}(ht:IsT n t):beh t (bk n t)=List.range n :=
 X7 (ht.beh ht.bk) (IsT.range n) λx hx=>by rw[beh_get ht hx,ze2 ht hx,still_get hx]
theorem zw9 {n:Nat}{t:List Nat}(ht:IsT n t){y:Nat}(hy:y<n):t.getD ((bk n t).getD y 0) 0=y:=by
 obtain⟨x,hx,hxn⟩:=ht.hit hy
 have e:=getD_of hx
 rw[←e,ze2 ht hxn]
theorem R6 {n:Nat}{t:List Nat}(ht:IsT n t):beh (bk n t) t=List.range n :=
 X7 (ht.bk.beh ht) (IsT.range n) λx hx=>by rw[beh_get ht.bk hx,zw9 ht hx,still_get hx]
theorem yj0 {n:Nat}{t:List Nat}(ht:IsT n t):bk n (bk n t)=t:=by
 have h:=y8 ht ht.bk ht.bk.bk
 rw[V8 ht,V8 ht.bk,beh_still ht,still_beh ht.bk.bk]at h
 exact h
theorem C5 {n:Nat}{a b:List Nat}(ha:IsT n a)(hb:IsT n b):bk n (beh a b)=beh (bk n b) (bk n a) :=
 ((bk_back (ha.beh hb)).uniq (ha.beh hb) ((bk_back ha).comp ha hb (bk_back hb)))
theorem bk_still (n:Nat):bk n (List.range n)=List.range n:=(bk_back (IsT.range n)).uniq (IsT.range n) (Back.range n)
theorem ze1 {n:Nat}{a b u:List Nat}(ha:IsT n a)(hb:IsT n b)(hu:IsT n u)(h:beh a u=beh b u):a=b:=by
 have e:=congrArg (λz=>beh z (bk n u)) h
 rwa [y8 ha hu hu.bk,y8 hb hu hu.bk,V8 hu,beh_still ha,beh_still hb]at e
theorem za2 {n:Nat}{a b u:List Nat}(ha:IsT n a)(hb:IsT n b)(hu:IsT n u)(h:beh u a=beh u b):a=b:=by
 have e:=congrArg (λz=>beh (bk n u) z) h
 rwa [←y8 hu.bk hu ha,←y8 hu.bk hu hb,R6 hu,still_beh ha,still_beh hb]at e
theorem ym8 {n:Nat}{x u:List Nat}(hx:IsT n x)(hu:IsT n u):beh (beh x (bk n u)) u=x:=by rw[y8 hx hu.bk hu,R6 hu,beh_still hx]
theorem yx9 {n:Nat}{x u:List Nat}(hx:IsT n x)(hu:IsT n u):beh (beh x u) (bk n u)=x:=by rw[y8 hx hu hu.bk,V8 hu,beh_still hx]
inductive Grp (n:Nat) (S:List Nat->Prop):List Nat->Prop
 | one:Grp n S (List.range n)
 | mul {a s:List Nat}:Grp n S a->S s->Grp n S (beh a s)
 | inv {a s:List Nat}:Grp n S a->S s->Grp n S (beh a (bk n s))
section
variable {n:Nat}{S S':List Nat->Prop}(hS:∀s,S s->IsT n s)
include hS
theorem Grp.isT {a:List Nat}(h:Grp n S a):IsT n a:=by
 induction h with
 | one=>exact IsT.range n
 | mul _ hs ih=>exact ih.beh (hS _ hs)
 | inv _ hs ih=>exact ih.beh (hS _ hs).bk
theorem Grp.of {s:List Nat}(h:S s):Grp n S s:=by
 have:=Grp.mul (n:=n) (S:=S) .one h
 rwa [still_beh (hS s h)]at this
theorem Grp.beh {a b:List Nat}(ha:Grp n S a)(hb:Grp n S b):Grp n S (TM.beh a b):=by
 have hA:=ha.isT hS
 induction hb with
 | one=>rw[beh_still hA];exact ha
 | mul h hs ih=>rw[←y8 hA (h.isT hS) (hS _ hs)];exact .mul ih hs
 | inv h hs ih=>rw[←y8 hA (h.isT hS) (hS _ hs).bk];exact .inv ih hs
theorem Grp.bk {a:List Nat}(ha:Grp n S a):Grp n S (TM.bk n a):=by
 induction ha with
 | one=>rw[bk_still];exact .one
 | mul h hs ih =>
  rw[C5 (h.isT hS) (hS _ hs)]
  refine Grp.beh hS ?_ ih
  have:=Grp.inv (n:=n) (S:=S) .one hs
  rwa [still_beh (hS _ hs).bk]at this
 | inv h hs ih =>
  rw[C5 (h.isT hS) (hS _ hs).bk,yj0 (hS _ hs)]
  exact Grp.beh hS (Grp.of hS hs) ih
omit hS in
theorem Grp.mono {a:List Nat}(hS':∀s,S' s->IsT n s)(h:∀s,S s->Grp n S' s)(ha:Grp n S a):Grp n S' a:=by
 induction ha with
 | one=>exact .one
 | mul _ hs ih=>exact Grp.beh hS' ih (h _ hs)
 | inv _ hs ih=>exact Grp.beh hS' ih (Grp.bk hS' (h _ hs))
omit hS in
theorem Grp.keeps {P:List Nat->Prop}(h1:P (List.range n))(hm:∀a s,P a->S s->P (TM.beh a s))(hi:∀a s,P a->S s->P (TM.beh a (TM.bk n s))){a:List Nat}(ha:Grp n S a):P a:=by
 induction ha with
 | one=>exact h1
 | mul _ hs ih=>exact hm _ _ ih hs
 | inv _ hs ih=>exact hi _ _ ih hs
end
def Fix (j:Nat)(t:List Nat):Prop:=∀x,x<j->t.getD x 0=x
theorem Fix.zero (t:List Nat):Fix 0 t:=λ_ h=>absurd h (cQ _)
theorem Fix.still {n j:Nat}(hj:j<=n):Fix j (List.range n):=λx hx=>still_get (by lia)
theorem Fix.beh {n j:Nat}{a b:List Nat}(hj:j<=n)(hA:IsT n a)(ha:Fix j a)(hb:Fix j b):Fix j (TM.beh a b):=λx hx=>by rw[beh_get hA (by lia),ha x hx,hb x hx]
theorem Fix.bk {n j:Nat}{a:List Nat}(hj:j<=n)(hA:IsT n a)(ha:Fix j a):Fix j (TM.bk n a):=λx hx=>by
 have h:=ze2 hA (show x<n by lia)
 rwa [ha x hx]at h
theorem Fix.all {n:Nat}{a:List Nat}(hA:IsT n a)(h:Fix n a):a=List.range n:=X7 hA (IsT.range n) λx hx=>by rw[h x hx,still_get hx]
theorem Grp.fix {n j:Nat}{S:List Nat->Prop}(hS:∀s,S s->IsT n s)(hj:j<=n)(hf:∀s,S s->Fix j s){a:List Nat}(ha:Grp n S a):Fix j a:=by
 induction ha with
 | one=>exact Fix.still hj
 | mul h hs ih=>exact Fix.beh hj (h.isT hS) ih (hf _ hs)
 | inv h hs ih=>exact Fix.beh hj (h.isT hS) ih (Fix.bk hj (hS _ hs) (hf _ hs))
end TM
namespace TM
structure Chn where
 mv:Nat->List Nat->Prop
 ring:Nat->List Nat
 up:Nat->Nat->List Nat
structure Chn.Ok (n:Nat) (C:Chn):Prop where
 mvT:∀j s,C.mv j s->IsT n s
 mvF:∀j s,C.mv j s->Fix j s
 down:∀j s,C.mv (j+1) s->Grp n (C.mv j) s
 top:∀j s,n<=j->¬C.mv j s
 nd:∀j,j<n->(C.ring j).Nodup
 lt:∀j p,j<n->p∈C.ring j->p<n
 own:∀j,j<n->j∈C.ring j
 upG:∀j p,j<n->p∈C.ring j->Grp n (C.mv j) (C.up j p)
 upTo:∀j p,j<n->p∈C.ring j->(C.up j p).getD j 0=p
 upOwn:∀j,j<n->C.up j j=List.range n
def Chn.Shut (n:Nat)(C:Chn)(j:Nat):Prop:=∀p,p∈C.ring j->∀s,C.mv j s->s.getD p 0∈C.ring j/\Grp n (C.mv (j+1)) (beh (beh (C.up j p) s) (bk n (C.up j (s.getD p 0))))
def Chn.Sif (n:Nat)(C:Chn):Nat->List Nat->Prop
 | 0,_=>True
 | d+1,x=>x.getD (n-(d+1)) 0∈C.ring (n-(d+1))/\Chn.Sif n C d (beh x (bk n (C.up (n-(d+1)) (x.getD (n-(d+1)) 0))))
section
variable {n:Nat}{C:Chn}(ok:C.Ok n)
include ok
theorem Chn.Ok.upT {j p:Nat}(hj:j<n)(hp:p∈C.ring j):IsT n (C.up j p):=(ok.upG j p hj hp).isT (ok.mvT j)
theorem Chn.Ok.upF {j p:Nat}(hj:j<n)(hp:p∈C.ring j):Fix j (C.up j p):=(ok.upG j p hj hp).fix (ok.mvT j) (bx hj) (ok.mvF j)
theorem Chn.Ok.off {j:Nat}{x:List Nat}(hj:j<n)(hx:IsT n x)(hf:Fix j x)(hp:x.getD j 0∈C.ring j):IsT n (beh x (bk n (C.up j (x.getD j 0))))/\Fix (j+1) (beh x (bk n (C.up j (x.getD j 0)))):=by
 have hu:=ok.upT hj hp
 refine⟨hx.beh hu.bk,λy hy=>?_⟩
 rw[beh_get hx (by lia)]
 by_cases e:y=j
 ·subst e
  have h:=ze2 hu hj
  rw[ok.upTo y _ hj hp]at h
  exact h
 ·have hy':y<j:=by lia
  rw[hf y hy']
  exact Fix.bk (bx hj) hu (ok.upF hj hp) y hy'
theorem Chn.Ok.sound:∀(d:Nat) (x:List Nat),d<=n->IsT n x->Fix (n-d) x->C.Sif n d x->Grp n (C.mv (n-d)) x
 | 0,x,_,hx,hf,_=>by
  rw[de]at hf ⊢
  rw[Fix.all hx hf]
  exact .one
 | d+1,x,hd,hx,hf,h=>by
  have hj:n-(d+1)<n:=by lia
  obtain⟨hp,hs⟩:=h
  obtain⟨ht,hf'⟩:=ok.off hj hx hf hp
  have e:n-(d+1)+1=n-d:=by lia
  rw[e]at hf'
  have ih:=Chn.Ok.sound d _ (by lia) ht hf' hs
  rw[←e]at ih
  have g:=Grp.mono (ok.mvT _) (ok.down _) ih
  have r:=Grp.beh (ok.mvT _) g (ok.upG _ _ hj hp)
  rwa [ym8 hx (ok.upT hj hp)]at r
theorem Chn.Ok.parts {j:Nat}(hj:j<n)(sh:C.Shut n j){x:List Nat}(hx:Grp n (C.mv j) x):∃p h,p∈C.ring j/\Grp n (C.mv (j+1)) h/\x=beh h (C.up j p):=by
 have hS:=ok.mvT j
 have hS1:=ok.mvT (j+1)
 induction hx with
 | one=>exact⟨j,_,ok.own j hj,.one,by rw[ok.upOwn j hj,still_beh (IsT.range n)]⟩
 | mul hg hs ih =>
  rename_i a s
  obtain⟨p,h,hp,hh,rfl⟩:=ih
  obtain⟨hq,hg'⟩:=sh p hp s hs
  have hh':=hh.isT hS1
  have hu:=ok.upT hj hp
  have hv:=ok.upT hj hq
  refine⟨_,_,hq,Grp.beh hS1 hh hg',?_⟩
  rw[y8 hh' ((hu.beh (hS s hs)).beh hv.bk) hv,ym8 (hu.beh (hS s hs)) hv,y8 hh' hu (hS s hs)]
 | inv hg hs ih =>
  rename_i a s
  obtain⟨p,h,hp,hh,rfl⟩:=ih
  have hsT:=hS s hs
  obtain⟨q,hq,e⟩:∃q∈C.ring j,s.getD q 0=p:=by
   have hnd:((C.ring j).map λq=>s.getD q 0).Nodup:=ba.mpr (List.Pairwise.imp_of_mem (λha hb hne z=>hne (hsT.step_inj (ok.lt j _ hj ha) (ok.lt j _ hj hb) z)) (ok.nd j hj))
   have hpm:=Z4 hnd (λy hy=>by
    obtain⟨q,hq,rfl⟩:=ah.mp hy
    exact(sh q hq s hs).1) (by rw[aa];exact aq _)
   exact ah.mp (hpm.mem_iff.mpr hp)
  subst e
  obtain⟨_,hg'⟩:=sh q hq s hs
  have hh':=hh.isT hS1
  have hu:=ok.upT hj hp
  have hv:=ok.upT hj hq
  refine⟨q,_,hq,Grp.beh hS1 hh (Grp.bk hS1 hg'),?_⟩
  rw[C5 (hv.beh hsT) hu.bk,yj0 hu,C5 hv hsT,y8 hh' (hu.beh (hsT.bk.beh hv.bk)) hv,y8 hu (hsT.bk.beh hv.bk) hv,y8 hsT.bk hv.bk hv,R6 hv,beh_still hsT.bk,y8 hh' hu hsT.bk]
theorem Chn.Ok.complete:∀(d:Nat) (x:List Nat),d<=n->(∀j,n-d<=j->j<n->C.Shut n j)->Grp n (C.mv (n-d)) x->C.Sif n d x
 | 0,_,_,_,_=>trivial
 | d+1,x,hd,sh,hx=>by
  have hj:n-(d+1)<n:=by lia
  have e:n-(d+1)+1=n-d:=by lia
  obtain⟨p,h,hp,hh,rfl⟩:=ok.parts hj (sh _ (aq _) hj) hx
  have hh':=hh.isT (ok.mvT _)
  have hf:=hh.fix (ok.mvT _) (by lia) (ok.mvF _)
  have hu:=ok.upT hj hp
  have e0:(beh h (C.up (n-(d+1)) p)).getD (n-(d+1)) 0=p:=by
   rw[beh_get hh' hj,hf _ (by lia),ok.upTo _ _ hj hp]
  refine⟨by rw[e0];exact hp,?_⟩
  rw[e0,yx9 hh' hu]
  rw[e]at hh
  exact Chn.Ok.complete d h (by lia) (λi hi=>sh i (by lia)) hh
theorem Chn.Ok.sift {d:Nat}{x:List Nat}(hd:d<=n)(hx:IsT n x)(hf:Fix (n-d) x)(sh:∀j,n-d<=j->j<n->C.Shut n j):C.Sif n d x↔Grp n (C.mv (n-d)) x :=
 ⟨ok.sound d x hd hx hf,ok.complete d x hd sh⟩
theorem Chn.Ok.genF {j:Nat}(hj:j<=n){x:List Nat}(hx:Grp n (C.mv j) x):Fix j x:=hx.fix (ok.mvT j) hj (ok.mvF j)
end
def Indep (n:Nat)(l:List (List Nat)):Prop:=∀i s,l[i]?=some s->¬Grp n (λz=>z∈l.take i) s
theorem Indep.snoc {n:Nat}{l:List (List Nat)}{s:List Nat}(h:Indep n l)(hs:¬Grp n (λz=>z∈l) s):Indep n (l++[s]):=λi z hz hg=>by
 by_cases hi:i<l.length
 ·rw[aI hi]at hz
  rw[aZ (bx hi)]at hg
  exact h i z hz hg
 ·have:i=l.length:=by
   have:=(ap.mp hz).1
   rw[af,aR]at this
   lia
  subst this
  rw[aN (aq _),bD]at hz
  obtain rfl:s=z:=by simpa using hz
  rw[aZ (aq _),bg]at hg
  exact hs hg
theorem Indep.init {n:Nat}{l:List (List Nat)}{s:List Nat}(h:Indep n (l++[s])):Indep n l/\¬Grp n (λz=>z∈l) s:=by
 refine⟨λi z hz hg=>?_,λhg=>?_⟩
 ·have hi:=(ap.mp hz).1
  refine h i z (by rw[aI hi];exact hz) ?_
  rw[aZ (bx hi)]
  exact hg
 ·refine h l.length s (by rw[aN (aq _),bD];rfl) ?_
  rw[aZ (aq _),bg]
  exact hg
theorem J2 {n:Nat}:∀(k:Nat) (l:List (List Nat)),l.length=k->(∀s∈l,IsT n s)->Indep n l->∃L:List (List Nat),L.Nodup/\(∀x∈L,Grp n (λz=>z∈l) x)/\L.length=2 ^ k
 | 0,l,_,_,_=>⟨[List.range n],by simp,λx hx=>by rw[ae.mp hx];exact .one,rfl⟩
 | k+1,l,hl,hT,hI=>by
  have hne:l≠[]:=λe=>by rw[e]at hl;cases hl
  obtain⟨l0,s,rfl⟩:∃l0 s,l=l0++[s]:=⟨l.dropLast,l.getLast hne,(dz hne).symm⟩
  rw[af,aR]at hl
  obtain⟨hI0,hs⟩:=hI.init
  have hT0:∀z∈l0,IsT n z:=λz hz=>hT z (aE _ hz)
  have hsT:IsT n s:=hT s (by simp)
  obtain⟨L,hnd,hG,hLl⟩:=J2 k l0 (by lia) hT0 hI0
  have up:∀x,Grp n (λz=>z∈l0) x->Grp n (λz=>z∈l0++[s]) x:=λx hx=>Grp.mono (λz hz=>hT z hz) (λz hz=>Grp.of (λz hz=>hT z hz) (aE _ hz)) hx
  refine⟨L++L.map λx=>beh x s,?_,λx hx=>?_,by rw[af,aa,hLl,bS];lia⟩
  ·refine bc.mpr ⟨hnd,ba.mpr (List.Pairwise.imp_of_mem (λha hb hne z=>hne (ze1 ((hG _ ha).isT hT0) ((hG _ hb).isT hT0) hsT z)) hnd),λa ha b hb e=>?_⟩
   obtain⟨c,hc,rfl⟩:=ah.mp hb
   subst e
   have hcT:=(hG c hc).isT hT0
   have g:=Grp.beh hT0 (Grp.bk hT0 (hG c hc)) (hG _ ha)
   rw[←y8 hcT.bk hcT hsT,R6 hcT,still_beh hsT]at g
   exact hs g
  ·rcases aB.mp hx with h|h
   ·exact up x (hG x h)
   ·obtain⟨c,hc,rfl⟩:=ah.mp h
    exact .mul (up c (hG c hc)) (by simp)
def num (n:Nat):List Nat->Nat
 | []=>0
 | x::r=>x+n*num n r
theorem ym6 {n:Nat}:∀{l:List Nat},(∀x∈l,x<n)->num n l<n ^ l.length
 | [],_=>by simp[num]
 | x::r,h=>by
  have ih:=ym6 (l:=r) λy hy=>h y (av _ hy)
  have hx:=h x ax
  rw[num,aQ,bS,Nat.mul_comm (n ^ r.length) n]
  have:n*(num n r+1)<=n*n ^ r.length:=Nat.mul_le_mul_left n ih
  rw[Nat.mul_add,cI]at this
  lia
theorem yc0 {n:Nat}:∀{l m:List Nat},(∀x∈l,x<n)->(∀x∈m,x<n)->l.length=m.length->num n l=num n m->l=m
 | [],[],_,_,_,_=>rfl
 | x::r,y::q,h1,h2,hl,e=>by
  have hx:=h1 x ax
  have hy:=h2 y ax
  rw[num,num]at e
  have e1:x=y:=by
   have:=congrArg (· % n) e
   simpa[Nat.add_mul_mod_self_left,dq hx,dq hy] using this
  subst e1
  have e2:n*num n r=n*num n q:=by lia
  have e3:=Nat.eq_of_mul_eq_mul_left (by lia) e2
  rw[yc0 (λz hz=>h1 z (av _ hz)) (λz hz=>h2 z (av _ hz)) (by simpa using hl) e3]
 | [],_::_,_,_,hl,_=>by cases hl
 | _::_,[],_,_,hl,_=>by cases hl
theorem nodup_below {l:List Nat}{M:Nat}(h:l.Nodup)(hl:∀x∈l,x<M):l.length<=M:=by
 rcases dS l.length M with q|q
 ·exact q
 ·have p:=Z4 h (l:=List.range M) (λx hx=>aG.mpr (hl x hx)) (by rw[az];exact q)
  rw[p.length_eq,az]
  exact aq _
theorem zr5 {n:Nat}{L:List (List Nat)}(h:L.Nodup)(hT:∀t∈L,IsT n t):L.length<=n ^ n:=by
 have h1:(L.map (num n)).Nodup:=ba.mpr (List.Pairwise.imp_of_mem (λha hb hne z=>hne (yc0 (λx hx=>(hT _ ha).lt hx) (λx hx=>(hT _ hb).lt hx) (by rw[(hT _ ha).length,(hT _ hb).length]) z)) h)
 have h2:=nodup_below (M:=n ^ n) h1 λx hx=>by
  obtain⟨t,ht,rfl⟩:=ah.mp hx
  have:=ym6 (n:=n) (l:=t) λy hy=>(hT t ht).lt hy
  rwa [(hT t ht).length]at this
 rwa [aa]at h2
set_option exponentiation.threshold 1000 in
theorem indep_few {n:Nat}(hn:n<=60){l:List (List Nat)}(hT:∀s∈l,IsT n s)(hI:Indep n l):l.length<=354:=by
 obtain⟨L,h1,h2,h3⟩:=J2 l.length l rfl hT hI
 have h4:=zr5 h1 λt ht=>(h2 t ht).isT hT
 rw[h3]at h4
 have h5:n ^ n<=60 ^ 60:=aX (Nat.pow_le_pow_left hn n) (bN (by decide) hn)
 have h6:(60:Nat) ^ 60<2 ^ 355:=by decide
 rcases dR 354 l.length with q|q
 ·have:=bN (show 0<2 by decide) (show 355<=l.length from q)
  lia
 ·exact q
end TM
namespace TM
def Chn.Good (n:Nat)(C:Chn)(j p:Nat)(s:List Nat):Prop:=s.getD p 0∈C.ring j/\Grp n (C.mv (j+1)) (beh (beh (C.up j p) s) (bk n (C.up j (s.getD p 0))))
structure Chn.MoreP (n:Nat) (C C':Chn) (j q:Nat) (t:List Nat):Prop where
 hj:j<n
 hq:q∉C.ring j
 hqn:q<n
 gt:Grp n (C.mv j) t
 ht:t.getD j 0=q
 emv:C'.mv=C.mv
 er:C'.ring j=C.ring j++[q]
 er':∀i,i≠j->C'.ring i=C.ring i
 eu:∀p,p≠q->C'.up j p=C.up j p
 eq:C'.up j q=t
 eu':∀i,i≠j->C'.up i=C.up i
theorem Chn.MoreP.sub {n:Nat}{C C':Chn}{j q:Nat}{t:List Nat}(m:Chn.MoreP n C C' j q t){i p:Nat}(hp:p∈C.ring i):p∈C'.ring i/\C'.up i p=C.up i p:=by
 by_cases e:i=j
 ·subst e
  exact⟨by rw[m.er];exact aE _ hp,m.eu p λz=>m.hq (z ▸ hp)⟩
 ·exact⟨by rw[m.er' i e];exact hp,by rw[m.eu' i e]⟩
theorem Chn.MoreP.cases {n:Nat}{C C':Chn}{j q:Nat}{t:List Nat}(m:Chn.MoreP n C C' j q t){i p:Nat}(hp:p∈C'.ring i):p∈C.ring i∨(i=j/\p=q):=by
 by_cases e:i=j
 ·subst e
  rw[m.er]at hp
  rcases aB.mp hp with h|h
  ·exact .inl h
  ·exact .inr ⟨rfl,ae.mp h⟩
 ·rw[m.er' i e]at hp;exact .inl hp
theorem Chn.MoreP.ok {n:Nat}{C C':Chn}{j q:Nat}{t:List Nat}(m:Chn.MoreP n C C' j q t)(ok:C.Ok n):C'.Ok n where
 mvT:=by rw[m.emv];exact ok.mvT
 mvF:=by rw[m.emv];exact ok.mvF
 down:=by rw[m.emv];exact ok.down
 top:=by rw[m.emv];exact ok.top
 nd i hi:=by
  by_cases e:i=j
  ·subst e
   rw[m.er]
   refine bc.mpr ⟨ok.nd i hi,by simp,λa ha b hb e=>m.hq ?_⟩
   rw[←ae.mp hb,←e]
   exact ha
  ·rw[m.er' i e];exact ok.nd i hi
 lt i p hi hp:=by
  rcases m.cases hp with h|⟨_,h⟩
  ·exact ok.lt i p hi h
  ·rw[h];exact m.hqn
 own i hi:=(m.sub (ok.own i hi)).1
 upG i p hi hp:=by
  rw[m.emv]
  rcases m.cases hp with h|⟨h1,h2⟩
  ·rw[(m.sub h).2];exact ok.upG i p hi h
  ·rw[h1,h2,m.eq];exact m.gt
 upTo i p hi hp:=by
  rcases m.cases hp with h|⟨h1,h2⟩
  ·rw[(m.sub h).2];exact ok.upTo i p hi h
  ·rw[h1,h2,m.eq];exact m.ht
 upOwn i hi:=by rw[(m.sub (ok.own i hi)).2];exact ok.upOwn i hi
theorem Chn.MoreP.good {n:Nat}{C C':Chn}{j q:Nat}{t:List Nat}(m:Chn.MoreP n C C' j q t){i p:Nat}{s:List Nat}(hp:p∈C.ring i)(g:C.Good n i p s):C'.Good n i p s:=by
 refine⟨(m.sub g.1).1,?_⟩
 rw[m.emv,(m.sub hp).2,(m.sub g.1).2]
 exact g.2
theorem Chn.MoreP.new {n:Nat}{C C':Chn}{j q:Nat}{t:List Nat}(m:Chn.MoreP n C C' j q t)(ok:C.Ok n){p:Nat}{s:List Nat}(hp:p∈C.ring j)(hs:C.mv j s)(e:t=beh (C.up j p) s):C'.Good n j p s:=by
 have hu:=ok.upT m.hj hp
 have es:s.getD p 0=q:=by
  have h:=m.ht
  rw[e,beh_get hu m.hj,ok.upTo j p m.hj hp]at h
  exact h
 unfold Chn.Good
 rw[es]
 refine⟨by rw[m.er];simp,?_⟩
 rw[m.eq,(m.sub hp).2,e,V8 (hu.beh (ok.mvT j s hs))]
 exact .one
structure Chn.MoreM (n:Nat) (C C':Chn) (i:Nat) (t:List Nat):Prop where
 hi:i<n
 tT:IsT n t
 tF:Fix i t
 dn:∀h,h+1=i->Grp n (C.mv h) t
 emv:∀h s,C'.mv h s↔(C.mv h s∨(h=i/\s=t))
 er:C'.ring=C.ring
 eu:C'.up=C.up
section
variable {n:Nat}{C C':Chn}{i:Nat}{t:List Nat}
theorem Chn.MoreM.mvT (m:Chn.MoreM n C C' i t)(ok:C.Ok n)(h:Nat)(s:List Nat)(hs:C'.mv h s):IsT n s:=by
 rcases (m.emv h s).mp hs with q|⟨_,q⟩
 ·exact ok.mvT h s q
 ·rw[q];exact m.tT
theorem Chn.MoreM.grp (m:Chn.MoreM n C C' i t)(ok:C.Ok n){h:Nat}{s:List Nat}(hs:Grp n (C.mv h) s):Grp n (C'.mv h) s:=Grp.mono (m.mvT ok h) (λz hz=>Grp.of (m.mvT ok h) ((m.emv h z).mpr (.inl hz))) hs
theorem Chn.MoreM.ok (m:Chn.MoreM n C C' i t)(ok:C.Ok n):C'.Ok n where
 mvT:=m.mvT ok
 mvF h s hs:=by
  rcases (m.emv h s).mp hs with q|⟨e,q⟩
  ·exact ok.mvF h s q
  ·rw[q,e];exact m.tF
 down h s hs:=by
  rcases (m.emv _ s).mp hs with q|⟨e,q⟩
  ·exact m.grp ok (ok.down h s q)
  ·rw[q];exact m.grp ok (m.dn h e)
 top h s hn hs:=by
  rcases (m.emv h s).mp hs with q|⟨e,q⟩
  ·exact ok.top h s hn q
  ·have:=m.hi;lia
 nd:=by rw[m.er];exact ok.nd
 lt:=by rw[m.er];exact ok.lt
 own:=by rw[m.er];exact ok.own
 upG h p hh hp:=by
  rw[m.er]at hp
  rw[m.eu]
  exact m.grp ok (ok.upG h p hh hp)
 upTo:=by rw[m.er,m.eu];exact ok.upTo
 upOwn:=by rw[m.eu];exact ok.upOwn
theorem Chn.MoreM.good (m:Chn.MoreM n C C' i t)(ok:C.Ok n){h p:Nat}{s:List Nat}(g:C.Good n h p s):C'.Good n h p s:=by
 unfold Chn.Good
 rw[m.er,m.eu]
 exact⟨g.1,m.grp ok g.2⟩
theorem Chn.MoreM.new {j:Nat}(m:Chn.MoreM n C C' (j+1) t)(ok:C.Ok n){p:Nat}{s:List Nat}(hp:s.getD p 0∈C.ring j)(e:t=beh (beh (C.up j p) s) (bk n (C.up j (s.getD p 0)))):C'.Good n j p s:=by
 unfold Chn.Good
 rw[m.er,m.eu]
 refine⟨hp,?_⟩
 rw[←e]
 exact Grp.of (m.mvT ok _) ((m.emv _ t).mpr (.inr ⟨rfl,rfl⟩))
theorem Chn.Ok.schreier (ok:C.Ok n){j p:Nat}{s:List Nat}(hj:j<n)(hp:p∈C.ring j)(hs:C.mv j s)(hq:s.getD p 0∈C.ring j):Grp n (C.mv j) (beh (beh (C.up j p) s) (bk n (C.up j (s.getD p 0))))/\Fix (j+1) (beh (beh (C.up j p) s) (bk n (C.up j (s.getD p 0)))):=by
 have hS:=ok.mvT j
 have hu:=ok.upT hj hp
 have g:Grp n (C.mv j) (beh (C.up j p) s):=.mul (ok.upG j p hj hp) hs
 refine⟨Grp.beh hS g (Grp.bk hS (ok.upG j _ hj hq)),?_⟩
 have e:(beh (C.up j p) s).getD j 0=s.getD p 0:=by rw[beh_get hu hj,ok.upTo j p hj hp]
 have h:=(ok.off hj (hu.beh (hS s hs)) (g.fix hS (bx hj) (ok.mvF j)) (by rw[e];exact hq)).2
 rwa [e]at h
end
end TM
namespace TM
def Chn.many (n:Nat)(C:Chn):Nat->Nat
 | 0=>1
 | d+1=>(C.ring (n-(d+1))).length*Chn.many n C d
theorem zl8 {α:Type}(f:Nat->List α)(m:Nat):∀(l:List Nat),(∀p∈l,(f p).length=m)->(l.flatMap f).length=l.length*m
 | [],_=>by simp
 | p::l,h=>by
  rw[cf,af,h p ax,zl8 f m l (λq hq=>h q (av _ hq)),aQ,eO,dU]
theorem za6 {α:Type}(f:Nat->List α):∀(l:List Nat),l.Nodup->(∀p∈l,(f p).Nodup)->(∀p∈l,∀q∈l,∀x,x∈f p->x∈f q->p=q)->(l.flatMap f).Nodup
 | [],_,_,_=>by simp
 | p::l,hn,h1,h2=>by
  rw[cf]
  refine bc.mpr ⟨h1 p ax,za6 f l (aK.mp hn).2 (λq hq=>h1 q (av _ hq)) (λq hq r hr=>h2 q (av _ hq) r (av _ hr)),λa ha b hb e=>?_⟩
  subst e
  obtain⟨q,hq,hx⟩:=bQ.mp hb
  have:=h2 p ax q (av _ hq) a ha hx
  exact(aK.mp hn).1 (this ▸ hq)
section
variable {n:Nat}{C:Chn}(ok:C.Ok n)
include ok
theorem Chn.Ok.all:∀(d:Nat),d<=n->(∀j,n-d<=j->j<n->C.Shut n j)->∃L:List (List Nat),L.Nodup/\(∀x,x∈L↔Grp n (C.mv (n-d)) x)/\L.length=C.many n d
 | 0,_,_=>⟨[List.range n],by simp,λx=>⟨λh=>by rw[ae.mp h];exact .one,λh=>by
   rw[de]at h
   have hT:=h.isT (ok.mvT n)
   rw[Fix.all hT (ok.genF (aq n) h)]
   exact ae.mpr rfl⟩,rfl⟩
 | d+1,hd,sh=>by
  have hj:n-(d+1)<n:=by lia
  have e:n-(d+1)+1=n-d:=by lia
  obtain⟨L,hL,hm,hl⟩:=Chn.Ok.all d (by lia) (λj h1 h2=>sh j (by lia) h2)
  have hfx:∀h,h∈L->IsT n h/\Fix (n-(d+1)+1) h:=λh hh=>by
   have g:=(hm h).mp hh
   rw[e]
   exact⟨g.isT (ok.mvT _),ok.genF (by lia) g⟩
  refine⟨(C.ring (n-(d+1))).flatMap λp=>L.map λh=>beh h (C.up (n-(d+1)) p),?_,λx=>⟨λh=>?_,λh=>?_⟩,?_⟩
  ·refine za6 _ _ (ok.nd _ hj) (λp hp=>?_) (λp hp q hq x hx hy=>?_)
   ·exact ba.mpr (List.Pairwise.imp_of_mem (λha hb hne z=>hne (ze1 (hfx _ ha).1 (hfx _ hb).1 (ok.upT hj hp) z)) hL)
   ·obtain⟨h,hh,rfl⟩:=ah.mp hx
    obtain⟨k,hk,e2⟩:=ah.mp hy
    have a1:(beh h (C.up (n-(d+1)) p)).getD (n-(d+1)) 0=p:=by
     rw[beh_get (hfx _ hh).1 hj,(hfx _ hh).2 _ (by lia),ok.upTo _ _ hj hp]
    have a2:(beh k (C.up (n-(d+1)) q)).getD (n-(d+1)) 0=q:=by
     rw[beh_get (hfx _ hk).1 hj,(hfx _ hk).2 _ (by lia),ok.upTo _ _ hj hq]
    rw[←a1,←a2,e2]
  ·obtain⟨p,hp,hx⟩:=bQ.mp h
   obtain⟨k,hk,rfl⟩:=ah.mp hx
   have g:=(hm k).mp hk
   rw[←e]at g
   exact Grp.beh (ok.mvT _) (Grp.mono (ok.mvT _) (ok.down _) g) (ok.upG _ _ hj hp)
  ·obtain⟨p,k,hp,hk,rfl⟩:=ok.parts hj (sh _ (aq _) hj) h
   rw[e]at hk
   exact bQ.mpr ⟨p,hp,ah.mpr ⟨k,(hm k).mpr hk,rfl⟩⟩
  ·rw[zl8 _ L.length _ (λp _=>aa _),hl]
   rfl
theorem Chn.Ok.ring_iff {j:Nat}(hj:j<n)(sh:C.Shut n j)(p:Nat):p∈C.ring j↔∃x,Grp n (C.mv j) x/\x.getD j 0=p:=by
 refine⟨λh=>⟨_,ok.upG j p hj h,ok.upTo j p hj h⟩,λ⟨x,hx,e⟩=>?_⟩
 obtain⟨q,h,hq,hh,rfl⟩:=ok.parts hj sh hx
 rw[beh_get (hh.isT (ok.mvT _)) hj,ok.genF (Nat.succ_le_of_lt hj) hh _ (bT _),ok.upTo j q hj hq]at e
 exact e ▸ hq
end
section
variable {n:Nat}{t:List Nat}(hT:IsT n t)
include hT
theorem IsT.pwT_isT (m:Int):IsT n (pwT t m):=by
 refine B0 (hT.pwT_len m) ?_ λx hx=>?_
 ·refine ba.mpr (List.Pairwise.imp_of_mem (λha hb hne z=>hne ?_) bE)
  rename_i a b
  have ha':a<n:=by rw[←hT.length];exact aG.mp ha
  have hb':b<n:=by rw[←hT.length];exact aG.mp hb
  have z':=congrArg (pw t (-m)) z
  rw[hT.pw_pw _ _ ha',hT.pw_pw _ _ hb',Int.add_right_neg]at z'
  have h0:∀y,y<n->pw t 0 y=y:=λy hy=>by
   unfold pw
   rw[Int.zero_emod]
   rfl
  rw[h0 a ha',h0 b hb']at z'
  exact z'
 ·obtain⟨i,hi,rfl⟩:=ah.mp hx
  exact hT.pw_lt m (by rw[←hT.length];exact aG.mp hi)
theorem IsT.pwT_beh (a b:Int):TM.beh (pwT t a) (pwT t b)=pwT t (a+b):=hT.pwT_comp a b
theorem IsT.pwT_bk (m:Int):TM.bk n (pwT t m)=pwT t (-m):=by
 have hA:=hT.pwT_isT m
 have e:=hT.pwT_beh m (-m)
 rw[Int.add_right_neg,←hT.pwT_zero]at e
 have e2:=V8 hA
 exact za2 hA.bk (hT.pwT_isT _) hA (e2.trans e.symm)
theorem IsT.pw_eq {a b:Int}{x:Nat}(hx:x<n):pw t a x=pw t b x↔a % (per t x:Int)=b % (per t x:Int):=by
 have hp:=hT.per_pos hx
 have na:∀m:Int,0<=m % (per t x:Int)/\m % (per t x:Int)<(per t x:Int):=λm=>⟨aY _ (by lia),bv _ (by lia)⟩
 constructor
 ·intro e
  have ha:=na a
  have hb:=na b
  have:=hT.it_eq_iff hx (i:=(a % (per t x:Int)).toNat) (j:=(b % (per t x:Int)).toNat) (by lia) (by lia) e
  lia
 ·intro e
  unfold pw
  rw[e]
def ord (t:List Nat):Nat:=yx3 ((List.range t.length).map (per t))
end
theorem zt0:∀(l:List Nat) (a:Nat),a ∣ l.foldl Nat.lcm a/\∀x∈l,x ∣ l.foldl Nat.lcm a
 | [],a=>⟨Nat.dvd_refl _,λx hx=>by cases hx⟩
 | y::l,a=>by
  obtain⟨h1,h2⟩:=zt0 l (Nat.lcm a y)
  refine⟨Nat.dvd_trans (Nat.dvd_lcm_left a y) h1,λx hx=>?_⟩
  rcases au.mp hx with e|e
  ·rw[e];exact Nat.dvd_trans (Nat.dvd_lcm_right a y) h1
  ·exact h2 x e
section
variable {n:Nat}{t:List Nat}(hT:IsT n t)
include hT
theorem IsT.ord_pos:0<ord t:=yl3 λx hx=>by
 obtain⟨y,hy,rfl⟩:=ah.mp hx
 exact hT.per_pos (by rw[←hT.length];exact aG.mp hy)
theorem IsT.per_dvd {x:Nat}(hx:x<n):per t x ∣ ord t:=(zt0 _ 1).2 _ (ah.mpr ⟨x,by rw[hT.length];exact aG.mpr hx,rfl⟩)
theorem IsT.pwT_mod (m:Int):pwT t (m % (ord t:Int))=pwT t m:=by
 refine hT.eq_pwT (hT.pwT_len _) λx hx=>?_
 rw[hT.pwT_get _ hx]
 congr 1
 rw[hT.pw_eq hx]
 exact Int.emod_emod_of_dvd m (Int.natCast_dvd_natCast.mpr (hT.per_dvd hx))
end
end TM
namespace TM
def xa2 (n:Nat)(W t:List Nat):Prop:=∀x,x<n->x∉W->t.getD x 0=x
structure Sprd (n:Nat) (W row:List Nat) (k:Nat) (g:List Nat):Prop where
 len:g.length=n
 out:∀x,x<n->x∉W.take k->g[x]?=some x
 at':∀j x,j<k->W[j]?=some x->g[x]?=some (W.getD (row.getD j 0) 0)
theorem Sprd.start {n:Nat}{W row:List Nat}:Sprd n W row 0 (List.range n):=⟨az,λx hx _=>aM hx,λj x hj=>absurd hj (cQ _)⟩
theorem Sprd.step {n k x:Nat}{W row g:List Nat}(hW:W.Nodup)(hlt:∀x∈W,x<n)(h:Sprd n W row k g)(hk:W[k]?=some x):Sprd n W row (k+1) (g.set x (W.getD (row.getD k 0) 0)):=by
 have hx:=hlt x (aw hk)
 have hne:∀j y,j<k->W[j]?=some y->y≠x:=λj y hj hy e=>by
  subst e
  have:=(b7 hW hy).symm.trans (b7 hW hk)
  lia
 refine⟨by rw[bd];exact h.len,λy hy hn=>?_,λj y hj hy=>?_⟩
 ·rw[bG,hk]at hn
  have h1:y∉W.take k:=λz=>hn (aE _ z)
  have h2:y≠x:=λe=>hn (aD _ (by rw[e];simp))
  rw[bn (Ne.symm h2)]
  exact h.out y hy h1
 ·by_cases e:j=k
  ·subst e
   obtain rfl:x=y:=Option.some.inj (hk.symm.trans hy)
   rw[bC (by rw[h.len];exact hx)]
  ·rw[bn (Ne.symm (hne j y (by lia) hy))]
   exact h.at' j y (by lia) hy
theorem Sprd.done {n:Nat}{W row g:List Nat}(hW:W.Nodup)(hlt:∀x∈W,x<n)(hr:IsT W.length row)(h:Sprd n W row W.length g):IsT n g/\xa2 n W g:=by
 have hout:∀x,x<n->x∉W->g[x]?=some x:=λx hx hn=>h.out x hx (by rw[bg];exact hn)
 have wg:∀a,a<W.length->W[a]?=some (W.getD a 0):=λa ha=>by rw[ao,ac ha];rfl
 have wm:∀a,a<W.length->W.getD a 0∈W:=λa ha=>by
  rw[ao,ac ha]
  exact cK ha
 have hin:∀x,x∈W->∃j,j<W.length/\W[j]?=some x/\g[x]?=some (W.getD (row.getD j 0) 0):=λx hx=>by
  obtain⟨j,hj,e⟩:=bI.mp hx
  have e':W[j]?=some x:=by rw[ac hj,e]
  exact⟨j,hj,e',h.at' j x hj e'⟩
 have inj:∀x y v,x<n->y<n->g[x]?=some v->g[y]?=some v->x=y:=λx y v hx hy h1 h2=>by
  by_cases a:x∈W <;> by_cases b:y∈W
  ·obtain⟨i,hi,e1,e2⟩:=hin x a
   obtain⟨j,hj,e3,e4⟩:=hin y b
   rw[h1]at e2
   rw[h2]at e4
   have e:=(Option.some.inj e2).symm.trans (Option.some.inj e4)
   have ri:=hr.step_lt hi
   have rj:=hr.step_lt hj
   have p1:W[row.getD i 0]?=some (W.getD (row.getD i 0) 0):=wg _ ri
   have p2:W[row.getD j 0]?=some (W.getD (row.getD i 0) 0):=by rw[e];exact wg _ rj
   have q:=(b7 hW p1).symm.trans (b7 hW p2)
   have ij:=hr.step_inj hi hj q
   rw[ij,e3]at e1
   exact(Option.some.inj e1).symm
  ·obtain⟨i,hi,e1,e2⟩:=hin x a
   rw[hout y hy b]at h2
   rw[h1,←Option.some.inj h2]at e2
   exact absurd (by rw[Option.some.inj e2];exact wm _ (hr.step_lt hi)) b
  ·obtain⟨i,hi,e1,e2⟩:=hin y b
   rw[hout x hx a]at h1
   rw[h2,←Option.some.inj h1]at e2
   exact absurd (by rw[Option.some.inj e2];exact wm _ (hr.step_lt hi)) a
  ·rw[hout x hx a]at h1
   rw[hout y hy b]at h2
   exact(Option.some.inj h1).trans (Option.some.inj h2).symm
 refine⟨B0 h.len ?_ λv hv=>?_,λx hx hn=>getD_of (hout x hx hn)⟩
 ·refine bu.mpr λi j hi hj hij e=>?_
  have:=inj i j g[i] (by rw[←h.len];exact hi) (by rw[←h.len];exact hj) (ac hi) (by rw[e];exact ac hj)
  lia
 ·obtain⟨x,hx,e⟩:=bI.mp hv
  have hxn:x<n:=by rw[←h.len];exact hx
  have e':g[x]?=some v:=by rw[ac hx,e]
  by_cases a:x∈W
  ·obtain⟨i,hi,e1,e2⟩:=hin x a
   rw[e']at e2
   rw[Option.some.inj e2]
   exact hlt _ (wm _ (hr.step_lt hi))
  ·rw[hout x hxn a]at e'
   rw[←Option.some.inj e']
   exact hxn
end TM
namespace TM
section
variable {n:Nat}{C:Chn}(ok:C.Ok n)
include ok
end
end TM
namespace TM
section
variable {n:Nat}{C:Chn}(ok:C.Ok n)
include ok
end
section
variable {n:Nat}{S:List Nat->Prop}(hS:∀s,S s->IsT n s)
include hS
end
end TM
namespace TM
open Classical
section
variable (n:Nat)(G:List Nat->Prop)
noncomputable def gRing (j:Nat):List Nat:=(List.range n).filter λp=>decide (∃x,G x/\Fix j x/\x.getD j 0=p)
noncomputable def gMany:Nat->Nat
 | 0=>1
 | d+1=>(gRing n G (n-(d+1))).length*gMany d
end
section
variable {n:Nat}{C:Chn}{G:List Nat->Prop}(ok:C.Ok n)(sh:∀i,i<n->C.Shut n i)(hG:∀x,Grp n (C.mv 0) x↔G x)
include ok sh hG
theorem Chn.Ok.lev:∀(j:Nat),j<=n->∀x,Grp n (C.mv j) x↔G x/\Fix j x
 | 0,_,x=>⟨λh=>⟨(hG x).mp h,Fix.zero x⟩,λh=>(hG x).mpr h.1⟩
 | j+1,hj,x=>by
  have ih:=Chn.Ok.lev j (by lia) x
  constructor
  ·intro h
   have h1:Grp n (C.mv j) x:=Grp.mono (ok.mvT j) (ok.down j) h
   exact⟨(ih.mp h1).1,ok.genF hj h⟩
  ·rintro⟨h1,h2⟩
   have hx:=ih.mpr ⟨h1,λy hy=>h2 y (by lia)⟩
   obtain⟨p,k,hp,hk,rfl⟩:=ok.parts (by lia) (sh j (by lia)) hx
   have kT:=hk.isT (ok.mvT _)
   have e:=h2 j (bT j)
   rw[beh_get kT (by lia),ok.genF (by lia) hk _ (bT _),ok.upTo j p (by lia) hp]at e
   subst e
   rw[ok.upOwn p (by lia),beh_still kT]
   exact hk
theorem Chn.Ok.ring_g {j:Nat}(hj:j<n):(gRing n G j).Perm (C.ring j):=by
 refine(dB (List.Nodup.sublist List.filter_sublist bE) (ok.nd j hj)).mpr λp=>?_
 rw[dv,aG]
 constructor
 ·rintro⟨_,h⟩
  obtain⟨x,hx,hf,e⟩:=of_decide_eq_true h
  exact(ok.ring_iff hj (sh j hj) p).mpr ⟨x,(ok.lev sh hG j (by lia) x).mpr ⟨hx,hf⟩,e⟩
 ·intro h
  obtain⟨x,hx,e⟩:=(ok.ring_iff hj (sh j hj) p).mp h
  obtain⟨h1,h2⟩:=(ok.lev sh hG j (by lia) x).mp hx
  exact⟨ok.lt j p hj h,decide_eq_true ⟨x,h1,h2,e⟩⟩
theorem Chn.Ok.ring_len {j:Nat}(hj:j<n):(gRing n G j).length=(C.ring j).length:=(ok.ring_g sh hG hj).length_eq
theorem Chn.Ok.many_g:∀d,d<=n->C.many n d=gMany n G d
 | 0,_=>rfl
 | d+1,hd=>by
  rw[Chn.many,gMany,ok.ring_len sh hG (by lia),Chn.Ok.many_g d (by lia)]
end
theorem zf8 {l m:List (List Nat)}(h1:l.Nodup)(h2:∀y∈l,y∈m):l.length<=m.length:=by
 induction l generalizing m with
 | nil=>exact aV _
 | cons a l ih =>
  obtain⟨h3,h4⟩:=aK.mp h1
  have:=ih (m:=m.erase a) h4 λy hy=>(List.mem_erase_of_ne (λ(e:y=a)=>h3 (by rw[←e];exact hy))).mpr (h2 y (av _ hy))
  have ha:=h2 a ax
  rw[dL ha]at this
  have:=List.length_pos_of_mem ha
  rw[aQ]
  lia
theorem len_flat {α β:Type}(f:α->List β)(k:Nat):∀l:List α,(∀a∈l,(f a).length=k)->(l.flatMap f).length=l.length*k
 | [],_=>by simp
 | a::l,h=>by
  rw[cf,af,h a ax,len_flat f k l λb hb=>h b (av _ hb),aQ,eO,dU]
end TM
namespace TM
open Classical
theorem c0 {n:Nat}{l t:List Nat}(lT:IsT n l)(tT:IsT n t){x:Nat}(hx:x<n):(beh (beh (bk n l) t) l).getD (l.getD x 0) 0=l.getD (t.getD x 0) 0:=by
 have hy:=lT.step_lt hx
 rw[beh_get (lT.bk.beh tT) hy,beh_get lT.bk hy,ze2 lT hx]
section
variable {n:Nat}{W:List Nat}{S:List Nat->Prop}(hS:∀s,S s->IsT n s)(hW:W.Nodup)(hlt:∀x∈W,x<n)
include hS hW hlt
end
end TM
namespace TM
structure Hom (k n:Nat) (F:List Nat->List Nat):Prop where
 isT:∀t,IsT k t->IsT n (F t)
 two:∀a b,IsT k a->IsT k b->F (beh a b)=beh (F a) (F b)
 one:F (List.range k)=List.range n
 inj:∀a b,IsT k a->IsT k b->F a=F b->a=b
theorem Hom.bk {k n:Nat}{F:List Nat->List Nat}(h:Hom k n F){t:List Nat}(ht:IsT k t):F (TM.bk k t)=TM.bk n (F t):=by
 have hF:=h.isT t ht
 refine za2 (h.isT _ ht.bk) hF.bk hF ?_
 rw[←h.two t _ ht ht.bk,V8 ht,h.one,V8 hF]
theorem Hom.grp {k n:Nat}{F:List Nat->List Nat}(h:Hom k n F){S:List (List Nat)}(hS:∀s∈S,IsT k s)(y:List Nat):Grp n (λz=>z∈S.map F) y↔∃x,Grp k (λz=>z∈S) x/\y=F x:=by
 have hS':∀s,s∈S.map F->IsT n s:=λs hs=>by
  obtain⟨t,ht,rfl⟩:=ah.mp hs
  exact h.isT t (hS t ht)
 constructor
 ·intro hy
  refine Grp.keeps (P:=λy=>∃x,Grp k (λz=>z∈S) x/\y=F x) ⟨_,.one,h.one.symm⟩ (λa s ⟨x,hx,e⟩ hs=>?_) (λa s ⟨x,hx,e⟩ hs=>?_) hy
  ·obtain⟨t,ht,rfl⟩:=ah.mp hs
   refine⟨beh x t,Grp.beh hS hx (Grp.of hS ht),?_⟩
   rw[h.two x t (hx.isT hS) (hS t ht),e]
  ·obtain⟨t,ht,rfl⟩:=ah.mp hs
   refine⟨beh x (TM.bk k t),Grp.beh hS hx (Grp.bk hS (Grp.of hS ht)),?_⟩
   rw[h.two x _ (hx.isT hS) (hS t ht).bk,h.bk (hS t ht),e]
 ·rintro⟨x,hx,rfl⟩
  refine Grp.keeps (P:=λx=>IsT k x/\Grp n (λz=>z∈S.map F) (F x)) ⟨IsT.range k,by rw[h.one];exact .one⟩ (λa s ⟨ha,hg⟩ hs=>⟨ha.beh (hS s hs),?_⟩) (λa s ⟨ha,hg⟩ hs=>⟨ha.beh (hS s hs).bk,?_⟩) hx |>.2
  ·rw[h.two a s ha (hS s hs)]
   exact Grp.beh hS' hg (Grp.of hS' (ah.mpr ⟨s,hs,rfl⟩))
  ·rw[h.two a _ ha (hS s hs).bk,h.bk (hS s hs)]
   exact Grp.beh hS' hg (Grp.bk hS' (Grp.of hS' (ah.mpr ⟨s,hs,rfl⟩)))
def cj (n:Nat)(b t:List Nat):List Nat:=beh (beh (bk n b) t) b
theorem c8 {n:Nat}{b t:List Nat}(hb:IsT n b)(ht:IsT n t):IsT n (cj n b t):=(hb.bk.beh ht).beh hb
theorem ze8 {n:Nat}{b s t:List Nat}(hb:IsT n b)(hs:IsT n s)(ht:IsT n t)(h:∀x,x<n->s.getD (b.getD x 0) 0=t.getD (b.getD x 0) 0):s=t:=by
 refine X7 hs ht λy hy=>?_
 have:=h ((bk n b).getD y 0) (hb.bk.step_lt hy)
 rwa [zw9 hb hy]at this
theorem cj_conj {n:Nat}{t b c:List Nat}(hT:IsT n t)(hB:IsT n b)(h:Conj n t b c):c=cj n b t :=
 ze8 hB (h.isT hT hB) (c8 hB hT) λx hx=>by rw[h.step hT hB hx];exact(c0 hB hT hx).symm
theorem C8 {n:Nat}{b:List Nat}(hb:IsT n b):Hom n n (cj n b):=by
 refine⟨λt ht=>c8 hb ht,λs t hs ht=>?_,?_,λs t hs ht e=>?_⟩
 ·refine ze8 hb (c8 hb (hs.beh ht)) ((c8 hb hs).beh (c8 hb ht)) λx hx=>?_
  have e1:(cj n b s).getD (b.getD x 0) 0=b.getD (s.getD x 0) 0:=c0 hb hs hx
  rw[beh_get (c8 hb hs) (hb.step_lt hx),e1]
  refine(c0 hb (hs.beh ht) hx).trans ?_
  rw[beh_get hs hx]
  exact(c0 hb ht (hs.step_lt hx)).symm
 ·refine ze8 hb (c8 hb (IsT.range n)) (IsT.range n) λx hx=>?_
  refine(c0 hb (IsT.range n) hx).trans ?_
  rw[still_get hx,still_get (hb.step_lt hx)]
 ·refine X7 hs ht λx hx=>hb.step_inj (hs.step_lt hx) (ht.step_lt hx) ?_
  have e1:(cj n b s).getD (b.getD x 0) 0=b.getD (s.getD x 0) 0:=c0 hb hs hx
  have e2:(cj n b t).getD (b.getD x 0) 0=b.getD (t.getD x 0) 0:=c0 hb ht hx
  rw[←e1,←e2,e]
def sp (n:Nat)(W row:List Nat):List Nat:=(List.range n).map λx=>if x∈W then W.getD (row.getD (W.idxOf x) 0) 0 else x
section
variable {n:Nat}{W:List Nat}(hW:W.Nodup)(hlt:∀x∈W,x<n)
include hW hlt
theorem zd4 (row:List Nat):Sprd n W row W.length (sp n W row):=by
 refine⟨by unfold sp;rw[aa,az],λx hx hn=>?_,λj x hj hx=>?_⟩
 ·rw[bg]at hn
  unfold sp
  rw[ag,aM hx]
  show some (if x∈W then _ else x)=some x
  rw[if_neg hn]
 ·have hm:=aw hx
  unfold sp
  rw[ag,aM (hlt x hm)]
  show some (if x∈W then _ else x)=_
  rw[if_pos hm,b7 hW hx]
theorem sprd_eq {row g:List Nat}(h:Sprd n W row W.length g):g=sp n W row:=by
 have h':=zd4 hW hlt row
 apply bM
 intro x
 by_cases hx:x<n
 ·by_cases hm:x∈W
  ·obtain⟨j,hj,e⟩:=bI.mp hm
   have e':W[j]?=some x:=by rw[ac hj,e]
   rw[h.at' j x hj e',h'.at' j x hj e']
  ·rw[h.out x hx (by rw[bg];exact hm),h'.out x hx (by rw[bg];exact hm)]
 ·rw[aP (by rw[h.len];lia),aP (by rw[h'.len];lia)]
theorem zn1 (row:List Nat){k:Nat}(hk:k<W.length):(sp n W row).getD (W.getD k 0) 0=W.getD (row.getD k 0) 0:=by
 have e:W[k]?=some (W.getD k 0):=by rw[ao,ac hk];rfl
 rw[ao,(zd4 hW hlt row).at' k _ hk e]
 rfl
theorem zr2 (row:List Nat){x:Nat}(hx:x<n)(hn:x∉W):(sp n W row).getD x 0=x:=by
 rw[ao,(zd4 hW hlt row).out x hx (by rw[bg];exact hn)]
 rfl
theorem yp6 {s t:List Nat}(hs:IsT n s)(ht:IsT n t)(h1:∀k,k<W.length->s.getD (W.getD k 0) 0=t.getD (W.getD k 0) 0)(h2:∀x,x<n->x∉W->s.getD x 0=t.getD x 0):s=t:=by
 refine X7 hs ht λx hx=>?_
 by_cases hm:x∈W
 ·obtain⟨j,hj,e⟩:=bI.mp hm
  have e':W.getD j 0=x:=by rw[ao,ac hj,e];rfl
  rw[←e']
  exact h1 j hj
 ·exact h2 x hx hm
theorem zi8 {row:List Nat}(hr:IsT W.length row):IsT n (sp n W row):=((zd4 hW hlt row).done hW hlt hr).1
theorem yv3 {k:Nat}(hk:k<W.length):W.getD k 0<n:=hlt _ (by rw[ao,ac hk];exact cK hk)
theorem sp_hom:Hom W.length n (sp n W):=by
 refine⟨λt ht=>zi8 hW hlt ht,λa b ha hb=>?_,?_,λa b ha hb e=>?_⟩
 ·have sa:=zi8 hW hlt ha
  refine yp6 hW hlt (zi8 hW hlt (ha.beh hb)) (sa.beh (zi8 hW hlt hb)) (λk hk=>?_) λx hx hn=>?_
  ·rw[beh_get sa (yv3 hW hlt hk),zn1 hW hlt _ hk,zn1 hW hlt _ hk,zn1 hW hlt _ (ha.step_lt hk),beh_get ha hk]
  ·rw[beh_get sa hx,zr2 hW hlt _ hx hn,zr2 hW hlt _ hx hn,zr2 hW hlt _ hx hn]
 ·refine yp6 hW hlt (zi8 hW hlt (IsT.range _)) (IsT.range n) (λk hk=>?_) λx hx hn=>?_
  ·rw[zn1 hW hlt _ hk,still_get hk,still_get (yv3 hW hlt hk)]
  ·rw[zr2 hW hlt _ hx hn,still_get hx]
 ·refine X7 ha hb λk hk=>?_
  have e1:=zn1 hW hlt a hk
  rw[e,zn1 hW hlt b hk]at e1
  have g:∀i,i<W.length->W[i]?=some (W.getD i 0):=λi hi=>by rw[ao,ac hi];rfl
  have p1:=g _ (ha.step_lt hk)
  rw[←e1]at p1
  exact(b7 hW p1).symm.trans (b7 hW (g _ (hb.step_lt hk)))
end
end TM
namespace TM
end TM
namespace TM
theorem zn8 {n:Nat}{u v t:List Nat}(hu:IsT n u)(hv:IsT n v)(ht:IsT n t):cj n (beh u v) t=cj n v (cj n u t):=by
 have huv:=hu.beh hv
 refine ze8 huv (c8 huv ht) (c8 hv (c8 hu ht)) λx hx=>?_
 refine(c0 huv ht hx).trans ?_
 rw[beh_get hu hx,beh_get hu (ht.step_lt hx)]
 have e1:(cj n v (cj n u t)).getD (v.getD (u.getD x 0) 0) 0=v.getD ((cj n u t).getD (u.getD x 0) 0) 0:=c0 hv (c8 hu ht) (hu.step_lt hx)
 have e2:(cj n u t).getD (u.getD x 0) 0=u.getD (t.getD x 0) 0:=c0 hu ht hx
 rw[e1,e2]
theorem ze5 {n:Nat}{t:List Nat}(ht:IsT n t):cj n (List.range n) t=t:=by
 refine ze8 (IsT.range n) (c8 (IsT.range n) ht) ht λx hx=>?_
 refine(c0 (IsT.range n) ht hx).trans ?_
 rw[still_get hx,still_get (ht.step_lt hx)]
theorem Grp.cj {n:Nat}{S:List Nat->Prop}(hS:∀s,S s->IsT n s){g x:List Nat}(hg:Grp n S g)(hx:Grp n S x):Grp n S (TM.cj n g x):=Grp.beh hS (Grp.beh hS (Grp.bk hS hg) hx) hg
theorem IsT.bk_pow {n:Nat}{t:List Nat}(hT:IsT n t):∃k:Nat,TM.bk n t=pwT t (k:Int):=by
 have e:=hT.pwT_bk 1
 rw[←hT.pwT_one]at e
 have ho:=hT.ord_pos
 have h0:=aY (-1) (show(ord t:Int)≠0 by lia)
 exact⟨((-1:Int) % (ord t:Int)).toNat,by rw[bB h0,hT.pwT_mod,e]⟩
theorem yl1 {n:Nat}{us ts:List (List Nat)}(hU:∀u∈us,IsT n u)(hT:∀t∈ts,IsT n t):(∀u∈us,∀t∈ts,Grp n (λz=>z∈ts) (cj n u t))↔∀g,Grp n (λz=>z∈us) g->∀x,Grp n (λz=>z∈ts) x->Grp n (λz=>z∈ts) (cj n g x):=by
 constructor
 ·intro h
  have h1:∀u,u∈us->∀x,Grp n (λz=>z∈ts) x->Grp n (λz=>z∈ts) (cj n u x):=λu hu x hx=>by
   have hm:=(C8 (hU u hu)).grp hT (cj n u x) |>.mpr ⟨x,hx,rfl⟩
   refine Grp.mono hT (λs hs=>?_) hm
   obtain⟨t,ht,rfl⟩:=ah.mp hs
   exact h u hu t ht
  have pw:∀u,u∈us->∀(k:Nat) x,Grp n (λz=>z∈ts) x->Grp n (λz=>z∈ts) (cj n (pwT u (k:Int)) x):=λu hu k=>by
   induction k with
   | zero =>
    intro x hx
    have e0:pwT u ((0:Nat):Int)=List.range n:=(hU u hu).pwT_zero.symm
    rw[e0,ze5 (hx.isT hT)]
    exact hx
   | succ k ih =>
    intro x hx
    have e:=(hU u hu).pwT_beh (k:Int) 1
    rw[←(hU u hu).pwT_one]at e
    rw[show((k+1:Nat):Int)=(k:Int)+1 by lia,←e,zn8 ((hU u hu).pwT_isT _) (hU u hu) (hx.isT hT)]
    exact h1 u hu _ (ih x hx)
  intro g hg
  refine(Grp.keeps (P:=λg=>IsT n g/\∀x,Grp n (λz=>z∈ts) x->Grp n (λz=>z∈ts) (cj n g x)) ⟨IsT.range n,λx hx=>?_⟩ (λa s ha hs=>⟨ha.1.beh (hU s hs),λx hx=>?_⟩) (λa s ha hs=>⟨ha.1.beh (hU s hs).bk,λx hx=>?_⟩) hg).2
  ·rw[ze5 (hx.isT hT)];exact hx
  ·rw[zn8 ha.1 (hU s hs) (hx.isT hT)]
   exact h1 s hs _ (ha.2 x hx)
  ·rw[zn8 ha.1 (hU s hs).bk (hx.isT hT)]
   obtain⟨k,e⟩:∃k:Nat,bk n s=pwT s (k:Int):=IsT.bk_pow (hU s hs)
   rw[e]
   exact pw s hs k _ (ha.2 x hx)
 ·intro h u hu t ht
  exact h u (Grp.of hU hu) t (Grp.of hT ht)
def yi4 (n:Nat)(us ts:List (List Nat)):Prop:=∀g,Grp n (λz=>z∈us) g->∀x,Grp n (λz=>z∈ts) x->Grp n (λz=>z∈ts) (cj n g x)
theorem zo3 {n:Nat}{b:List Nat}{us ts:List (List Nat)}(hb:IsT n b)(hU:∀u∈us,IsT n u)(hT:∀t∈ts,IsT n t)(e:∀x,Grp n (λz=>z∈us) x↔Grp n (λz=>z∈ts) x):(∀u∈us,Grp n (λz=>z∈ts) (cj n b u))↔∀x,Grp n (λz=>z∈ts) x->Grp n (λz=>z∈ts) (cj n b x):=by
 constructor
 ·intro h x hx
  have hm:=(C8 hb).grp hU (cj n b x) |>.mpr ⟨x,(e x).mpr hx,rfl⟩
  refine Grp.mono hT (λs hs=>?_) hm
  obtain⟨t,ht,rfl⟩:=ah.mp hs
  exact h t ht
 ·intro h u hu
  exact h u ((e u).mp (Grp.of hU hu))
theorem yl0 {n:Nat}{gs us ts:List (List Nat)}(hG:∀g∈gs,IsT n g)(hT:∀t∈ts,IsT n t)(e:∀x,Grp n (λz=>z∈gs) x↔Grp n (λz=>z∈us) x):(∀g∈gs,∀x,Grp n (λz=>z∈ts) x->Grp n (λz=>z∈ts) (cj n g x))↔yi4 n us ts:=by
 have h1:(∀g∈gs,∀x,Grp n (λz=>z∈ts) x->Grp n (λz=>z∈ts) (cj n g x))↔∀g∈gs,∀t∈ts,Grp n (λz=>z∈ts) (cj n g t):=⟨λh g hg=>(zo3 (hG g hg) hT hT λx=>Iff.rfl).mpr (h g hg),λh g hg=>(zo3 (hG g hg) hT hT λx=>Iff.rfl).mp (h g hg)⟩
 rw[h1,yl1 hG hT]
 exact⟨λh g hg=>h g ((e g).mpr hg),λh g hg=>h g ((e g).mp hg)⟩
theorem fresh {n:Nat}(l:List Nat)(h:l.length<n):∃z,z<n/\z∉l:=by
 refine Classical.byContradiction λhno=>?_
 have hs:∀x,x∈List.range n->x∈l:=λx hx=>Classical.byContradiction λhx'=>hno ⟨x,aG.mp hx,hx'⟩
 have:=yr6 bE hs
 rw[az]at this
 lia
theorem Hom.cj {k n:Nat}{F:List Nat->List Nat}(h:Hom k n F){g x:List Nat}(hg:IsT k g)(hx:IsT k x):F (TM.cj k g x)=TM.cj n (F g) (F x):=by
 unfold TM.cj
 rw[h.two _ _ (hg.bk.beh hx) hg,h.two _ _ hg.bk hx,h.bk hg]
theorem yn5 {k n:Nat}{F:List Nat->List Nat}(h:Hom k n F){us ts:List (List Nat)}(hU:∀u∈us,IsT k u)(hT:∀t∈ts,IsT k t):(∀t∈ts.map F,Grp n (λz=>z∈us.map F) t)↔∀t∈ts,Grp k (λz=>z∈us) t:=by
 constructor
 ·intro hp t ht
  obtain⟨y,hy,e⟩:=(h.grp hU _).mp (hp (F t) (ah.mpr ⟨t,ht,rfl⟩))
  rw[h.inj _ _ (hT t ht) (hy.isT hU) e]
  exact hy
 ·intro hp t ht
  obtain⟨u,hu,rfl⟩:=ah.mp ht
  exact(h.grp hU _).mpr ⟨u,hp u hu,rfl⟩
def e7:List Nat:=[1,0,2,3,4,5,6]
end TM
namespace TM
structure Nrm (n:Nat) (N:List Nat->Prop):Prop where
 isT:∀x,N x->IsT n x
 two:∀x y,N x->N y->N (beh x y)
 back:∀x,N x->N (bk n x)
 one:N (List.range n)
 turn:∀g x,IsT n g->N x->N (cj n g x)
section
variable {n:Nat}{N:List Nat->Prop}(hN:Nrm n N)
include hN
end
end TM
namespace TM
open Classical
def NC (n:Nat)(us ts:List (List Nat)):List Nat->Prop:=Grp n (λz=>∃g t,Grp n (λy=>y∈us) g/\t∈ts/\z=cj n g t)
section
variable {n:Nat}{us ts:List (List Nat)}(hU:∀u∈us,IsT n u)(hT:∀t∈ts,IsT n t)
include hU hT
theorem T1:∀z,(∃g t,Grp n (λy=>y∈us) g/\t∈ts/\z=cj n g t)->IsT n z:=λz ⟨g,t,hg,ht,e⟩=>by rw[e];exact c8 (hg.isT hU) (hT t ht)
theorem ym1 {t:List Nat}(ht:t∈ts):NC n us ts t:=Grp.of (T1 hU hT) ⟨List.range n,t,.one,ht,(ze5 (hT t ht)).symm⟩
theorem yb9 {g x:List Nat}(hg:Grp n (λy=>y∈us) g)(hx:NC n us ts x):NC n us ts (cj n g x):=by
 have gT:=hg.isT hU
 have hS:=T1 hU hT
 have step:∀s,(∃g t,Grp n (λy=>y∈us) g/\t∈ts/\s=cj n g t)->NC n us ts (cj n g s):=λs ⟨g',t,hg',ht,e⟩=>by
  rw[e,←zn8 (hg'.isT hU) gT (hT t ht)]
  exact Grp.of hS ⟨_,t,Grp.beh hU hg' hg,ht,rfl⟩
 refine(Grp.keeps (P:=λx=>IsT n x/\NC n us ts (cj n g x)) ⟨IsT.range n,by rw[(C8 gT).one];exact .one⟩ (λa s ha hs=>⟨ha.1.beh (hS s hs),?_⟩) (λa s ha hs=>⟨ha.1.beh (hS s hs).bk,?_⟩) hx).2
 ·rw[(C8 gT).two _ _ ha.1 (hS s hs)]
  exact Grp.beh hS ha.2 (step s hs)
 ·rw[(C8 gT).two _ _ ha.1 (hS s hs).bk,(C8 gT).bk (hS s hs)]
  exact Grp.beh hS ha.2 (Grp.bk hS (step s hs))
theorem nc_in (hP:∀t∈ts,Grp n (λy=>y∈us) t){x:List Nat}(hx:NC n us ts x):Grp n (λy=>y∈us) x :=
 Grp.mono hU (λz ⟨g,t,hg,ht,e⟩=>by rw[e];exact Grp.cj hU hg (hP t ht)) hx
end
structure LkI (n:Nat) (us ms ts w f:List (List Nat)):Prop where
 fT:∀t∈f,IsT n t
 wT:∀t∈w,IsT n t
 fN:∀t∈f,NC n us ts t
 wN:∀t∈w,NC n us ts t
 all:∀t∈ts,t∈w∨Grp n (λz=>z∈f) t
 kep:∀t∈f,∀m∈ms,cj n m t∈w∨Grp n (λz=>z∈f) (cj n m t)
 ind:Indep n f
section
variable {n:Nat}{us ms ts:List (List Nat)}(hU:∀u∈us,IsT n u)(hT:∀t∈ts,IsT n t)(hM:∀m∈ms,IsT n m)(hMU:∀x,Grp n (λz=>z∈ms) x↔Grp n (λz=>z∈us) x)
include hU hT
theorem LkI.start:LkI n us ms ts ts []:=⟨λt ht=>(by cases ht),hT,λt ht=>(by cases ht),λt ht=>ym1 hU hT ht,λt ht=>.inl ht,λt ht=>(by cases ht),λi s hs=>(by cases i <;> cases hs)⟩
omit hU hT in
theorem LkI.old {w f:List (List Nat)}{t:List Nat}(h:LkI n us ms ts (w++[t]) f)(hg:Grp n (λz=>z∈f) t):LkI n us ms ts w f:=by
 have inw:∀{x},x∈w++[t]->x∈w∨x=t:=λhx=>by
  rcases aB.mp hx with z|z
  ·exact .inl z
  ·exact .inr (ae.mp z)
 have wk:∀{x},(x∈w++[t]∨Grp n (λz=>z∈f) x)->x∈w∨Grp n (λz=>z∈f) x:=λhx=>by
  rcases hx with z|z
  ·rcases inw z with z|z
   ·exact .inl z
   ·rw[z];exact .inr hg
  ·exact .inr z
 exact⟨h.fT,λx hx=>h.wT x (aE _ hx),h.fN,λx hx=>h.wN x (aE _ hx),λx hx=>wk (h.all x hx),λx hx m hm=>wk (h.kep x hx m hm),h.ind⟩
include hM hMU
theorem LkI.new {w f:List (List Nat)}{t:List Nat}(h:LkI n us ms ts (w++[t]) f)(hg:¬Grp n (λz=>z∈f) t):LkI n us ms ts (w++ms.map λm=>cj n m t) (f++[t]):=by
 have tT:=h.wT t (by simp)
 have tN:=h.wN t (by simp)
 have fT:∀x∈f++[t],IsT n x:=λx hx=>by
  rcases aB.mp hx with z|z
  ·exact h.fT x z
  ·rw[ae.mp z];exact tT
 have more:∀{x},Grp n (λz=>z∈f) x->Grp n (λz=>z∈f++[t]) x:=λhx=>Grp.mono fT (λs hs=>Grp.of fT (aE _ hs)) hx
 have wk:∀{x},(x∈w++[t]∨Grp n (λz=>z∈f) x)->x∈(w++ms.map λm=>cj n m t)∨Grp n (λz=>z∈f++[t]) x:=λhx=>by
  rcases hx with z|z
  ·rcases aB.mp z with z|z
   ·exact .inl (aE _ z)
   ·rw[ae.mp z];exact .inr (Grp.of fT (by simp))
  ·exact .inr (more z)
 have mG:∀m∈ms,Grp n (λz=>z∈us) m:=λm hm=>(hMU m).mp (Grp.of hM hm)
 refine⟨fT,λx hx=>?_,λx hx=>?_,λx hx=>?_,λx hx=>wk (h.all x hx),λx hx m hm=>?_,h.ind.snoc hg⟩
 ·rcases aB.mp hx with z|z
  ·exact h.wT x (aE _ z)
  ·obtain⟨m,hm,rfl⟩:=ah.mp z
   exact c8 (hM m hm) tT
 ·rcases aB.mp hx with z|z
  ·exact h.fN x z
  ·rw[ae.mp z];exact tN
 ·rcases aB.mp hx with z|z
  ·exact h.wN x (aE _ z)
  ·obtain⟨m,hm,rfl⟩:=ah.mp z
   exact yb9 hU hT (mG m hm) tN
 ·rcases aB.mp hx with z|z
  ·exact wk (h.kep x z m hm)
  ·rw[ae.mp z]
   exact .inl (aD _ (ah.mpr ⟨m,hm,rfl⟩))
theorem LkI.done {f:List (List Nat)}(h:LkI n us ms ts [] f)(x:List Nat):Grp n (λz=>z∈f) x↔NC n us ts x:=by
 have hS:=T1 hU hT
 constructor
 ·intro hx
  exact Grp.mono hS (λs hs=>h.fN s hs) hx
 ·intro hx
  have hk:yi4 n us f:=(yl0 hM h.fT hMU).mp λm hm=>(zo3 (hM m hm) h.fT h.fT λx=>Iff.rfl).mp λt ht=>(h.kep t ht m hm).resolve_left (λz=>by cases z)
  refine Grp.mono h.fT (λz ⟨g,t,hg,ht,e⟩=>?_) hx
  rw[e]
  exact hk g hg t ((h.all t ht).resolve_left λz=>by cases z)
omit hM hMU in
theorem LkI.full {w f:List (List Nat)}(h:LkI n us ms ts w f)(hP:∀t∈ts,Grp n (λy=>y∈us) t)(hf:∀x,Grp n (λy=>y∈us) x->Grp n (λz=>z∈f) x)(x:List Nat):Grp n (λz=>z∈f) x↔NC n us ts x :=
 ⟨λhx=>Grp.mono (T1 hU hT) (λs hs=>h.fN s hs) hx,λhx=>hf x (nc_in hU hT hP hx)⟩
end
noncomputable def lkRun (n:Nat) (ms:List (List Nat)) (stop:List (List Nat)->Prop):Nat->List (List Nat)->List (List Nat)->List (List Nat)
 | 0,_,f=>f
 | k+1,w,f=>if w=[]∨stop f then f else if Grp n (λz=>z∈f) (w.getLastD []) then lkRun n ms stop k w.dropLast f else lkRun n ms stop k (w.dropLast++ms.map λm=>cj n m (w.getLastD [])) (f++[w.getLastD []])
theorem lkRun_end {n:Nat}{ms:List (List Nat)}{stop:List (List Nat)->Prop}{w f:List (List Nat)}(h:w=[]∨stop f):∀k,lkRun n ms stop k w f=f
 | 0=>rfl
 | k+1=>by unfold lkRun;rw[if_pos h]
theorem lkRun_old {n:Nat}{ms:List (List Nat)}{stop:List (List Nat)->Prop}{w f:List (List Nat)}{t:List Nat}(h:¬stop f)(hg:Grp n (λz=>z∈f) t)(k:Nat):lkRun n ms stop (k+1) (w++[t]) f=lkRun n ms stop k w f:=by
 conv=>lhs;unfold lkRun
 rw[if_neg (λz=>z.elim (λz=>by simp at z) h),show(w++[t]).getLastD []=t by simp[List.getLastD_eq_getLast?],if_pos hg,cU]
theorem lkRun_new {n:Nat}{ms:List (List Nat)}{stop:List (List Nat)->Prop}{w f:List (List Nat)}{t:List Nat}(h:¬stop f)(hg:¬Grp n (λz=>z∈f) t)(k:Nat):lkRun n ms stop (k+1) (w++[t]) f=lkRun n ms stop k (w++ms.map λm=>cj n m t) (f++[t]):=by
 conv=>lhs;unfold lkRun
 rw[if_neg (λz=>z.elim (λz=>by simp at z) h),show(w++[t]).getLastD []=t by simp[List.getLastD_eq_getLast?],if_neg hg,cU]
theorem lkRun_pre {n:Nat}{ms:List (List Nat)}{stop:List (List Nat)->Prop}:∀(k:Nat) (w f:List (List Nat)),∃l,lkRun n ms stop k w f=f++l
 | 0,w,f=>⟨[],(bp f).symm⟩
 | k+1,w,f=>by
  unfold lkRun
  split
  ·exact⟨[],(bp f).symm⟩
  ·split
   ·exact lkRun_pre k _ f
   ·obtain⟨l,e⟩:=lkRun_pre (n:=n) (ms:=ms) (stop:=stop) k (w.dropLast++ms.map λm=>cj n m (w.getLastD [])) (f++[w.getLastD []])
    exact⟨[w.getLastD []]++l,by rw[e,cH]⟩
theorem indep_log {n k:Nat}{f us LU:List (List Nat)}(hf:∀t∈f,IsT n t)(hi:Indep n f)(hU:∀u∈us,IsT n u)(hin:∀t∈f,Grp n (λz=>z∈us) t)(mU:∀x,x∈LU↔Grp n (λz=>z∈us) x)(hl:LU.length<2 ^ k):f.length<k:=by
 obtain⟨L,hL,hLG,e⟩:=J2 f.length f rfl hf hi
 have:L.length<=LU.length:=zf8 hL λy hy=>(mU y).mpr (Grp.mono hU hin (hLG y hy))
 rw[e]at this
 refine Nat.lt_of_not_le λh=>?_
 have:=bN (show 0<2 by decide) h
 lia
theorem all_of_many {n:Nat}{f us LF LU:List (List Nat)}(hU:∀u∈us,IsT n u)(hin:∀t∈f,Grp n (λz=>z∈us) t)(hLF:LF.Nodup)(mF:∀x,x∈LF↔Grp n (λz=>z∈f) x)(hLU:LU.Nodup)(mU:∀x,x∈LU↔Grp n (λz=>z∈us) x)(hl:LU.length<=LF.length)(x:List Nat)(hx:Grp n (λz=>z∈us) x):Grp n (λz=>z∈f) x:=by
 refine Classical.byContradiction λhno=>?_
 have h1:(x::LF).Nodup:=aK.mpr ⟨λz=>hno ((mF x).mp z),hLF⟩
 have h2:=zf8 (m:=LU) h1 λy hy=>by
  rcases au.mp hy with z|z
  ·rw[z];exact(mU x).mpr hx
  ·exact(mU y).mpr (Grp.mono hU hin ((mF y).mp z))
 rw[aQ]at h2
 lia
theorem ze9 {α β:Type}{f g:α->List β}{P:α->Prop}:∀{l:List α},(∀x∈l,P x)->(∀x,P x->f x=g x)->l.flatMap f=l.flatMap g
 | [],_,_=>rfl
 | x::l,h,e=>by
  rw[cf,cf,e x (h x ax),ze9 (λy hy=>h y (av _ hy)) e]
theorem yl8 {k n:Nat}{F:List Nat->List Nat}(h:Hom k n F){us ts:List (List Nat)}(hU:∀u∈us,IsT k u)(hT:∀t∈ts,IsT k t)(y:List Nat):NC n (us.map F) (ts.map F) y↔∃x,NC k us ts x/\y=F x:=by
 have hN:=T1 hU hT
 have hU':∀u∈us.map F,IsT n u:=λu hu=>by
  obtain⟨v,hv,rfl⟩:=ah.mp hu
  exact h.isT v (hU v hv)
 have hT':∀u∈ts.map F,IsT n u:=λu hu=>by
  obtain⟨v,hv,rfl⟩:=ah.mp hu
  exact h.isT v (hT v hv)
 have hN':=T1 hU' hT'
 constructor
 ·intro hy
  have gen:∀s,(∃g t,Grp n (λy=>y∈us.map F) g/\t∈ts.map F/\s=TM.cj n g t)->∃z,NC k us ts z/\s=F z:=λs ⟨g,t,hg,ht,e⟩=>by
   obtain⟨g0,hg0,rfl⟩:=(h.grp hU _).mp hg
   obtain⟨t0,ht0,rfl⟩:=ah.mp ht
   exact⟨TM.cj k g0 t0,Grp.of hN ⟨g0,t0,hg0,ht0,rfl⟩,by rw[e,h.cj (hg0.isT hU) (hT t0 ht0)]⟩
  refine Grp.keeps (P:=λy=>∃x,NC k us ts x/\y=F x) ⟨_,.one,h.one.symm⟩ (λa s ⟨x,hx,e⟩ hs=>?_) (λa s ⟨x,hx,e⟩ hs=>?_) hy
  ·obtain⟨z,hz,ez⟩:=gen s hs
   exact⟨beh x z,Grp.beh hN hx hz,by rw[h.two x z (hx.isT hN) (hz.isT hN),e,ez]⟩
  ·obtain⟨z,hz,ez⟩:=gen s hs
   exact⟨beh x (TM.bk k z),Grp.beh hN hx (Grp.bk hN hz),by rw[h.two x _ (hx.isT hN) (hz.isT hN).bk,h.bk (hz.isT hN),e,ez]⟩
 ·rintro⟨x,hx,rfl⟩
  have gen:∀s,(∃g t,Grp k (λy=>y∈us) g/\t∈ts/\s=TM.cj k g t)->NC n (us.map F) (ts.map F) (F s):=λs ⟨g,t,hg,ht,e⟩=>by
   rw[e,h.cj (hg.isT hU) (hT t ht)]
   exact Grp.of hN' ⟨F g,F t,(h.grp hU _).mpr ⟨g,hg,rfl⟩,ah.mpr ⟨t,ht,rfl⟩,rfl⟩
  refine(Grp.keeps (P:=λx=>IsT k x/\NC n (us.map F) (ts.map F) (F x)) ⟨IsT.range k,by rw[h.one];exact .one⟩ (λa s ⟨ha,hg⟩ hs=>⟨ha.beh (hN s hs),?_⟩) (λa s ⟨ha,hg⟩ hs=>⟨ha.beh (hN s hs).bk,?_⟩) hx).2
  ·rw[h.two a s ha (hN s hs)]
   exact Grp.beh hN' hg (gen s hs)
  ·rw[h.two a _ ha (hN s hs).bk,h.bk (hN s hs)]
   exact Grp.beh hN' hg (Grp.bk hN' (gen s hs))
theorem yn8 {L L':List (List Nat)}(h:L.Nodup)(h':L'.Nodup)(e:∀x,x∈L↔x∈L'):L.length=L'.length:=((dB h h').mpr e).length_eq
end TM
namespace TM
open Classical
def mx (n:Nat)(a b:List Nat):List Nat:=beh (beh (bk n a) (bk n b)) (beh a b)
section
variable {n:Nat}{a b c:List Nat}
theorem J4 (ha:IsT n a)(hb:IsT n b):IsT n (mx n a b):=(ha.bk.beh hb.bk).beh (ha.beh hb)
theorem xa6 (hb:IsT n b)(hc:IsT n c):beh (bk n b) (beh b c)=c:=by rw[←y8 hb.bk hb hc,R6 hb,still_beh hc]
theorem yb4 (hb:IsT n b)(hc:IsT n c):beh b (beh (bk n b) c)=c:=by rw[←y8 hb hb.bk hc,V8 hb,still_beh hc]
theorem za9 (ha:IsT n a)(hb:IsT n b):mx n a b=beh (bk n a) (beh (bk n b) (beh a b)):=by
 unfold mx
 rw[y8 ha.bk hb.bk (ha.beh hb)]
theorem yu3 (ha:IsT n a)(hb:IsT n b):cj n a b=beh (bk n a) (beh b a):=by
 unfold cj
 rw[y8 ha.bk hb ha]
theorem zo9 (ha:IsT n a)(hb:IsT n b)(hc:IsT n c):mx n (beh a b) c=beh (cj n b (mx n a c)) (mx n b c):=by
 have hm:=J4 ha hc
 rw[yu3 hb hm,za9 (ha.beh hb) hc,za9 hb hc,C5 ha hb,y8 hb.bk (hm.beh hb) (hb.bk.beh (hc.bk.beh (hb.beh hc))),y8 hm hb (hb.bk.beh (hc.bk.beh (hb.beh hc))),yb4 hb (hc.bk.beh (hb.beh hc)),za9 ha hc,
  y8 ha.bk (hc.bk.beh (ha.beh hc)) (hc.bk.beh (hb.beh hc)),y8 hc.bk (ha.beh hc) (hc.bk.beh (hb.beh hc)),y8 ha hc (hc.bk.beh (hb.beh hc)),yb4 hc (hb.beh hc),y8 hb.bk ha.bk (hc.bk.beh ((ha.beh hb).beh hc)),y8 ha hb hc]
theorem zf9 (ha:IsT n a)(hb:IsT n b)(hc:IsT n c):mx n a (beh b c)=beh (mx n a c) (cj n c (mx n a b)):=by
 have hm:=J4 ha hb
 rw[yu3 hc hm,za9 ha (hb.beh hc),za9 ha hc,C5 hb hc,y8 ha.bk (hc.bk.beh (ha.beh hc)) (hc.bk.beh (hm.beh hc)),y8 hc.bk (ha.beh hc) (hc.bk.beh (hm.beh hc)),y8 ha hc (hc.bk.beh (hm.beh hc)),yb4 hc (hm.beh hc),za9 ha hb,
  y8 ha.bk (hb.bk.beh (ha.beh hb)) hc,yb4 ha ((hb.bk.beh (ha.beh hb)).beh hc),y8 hb.bk (ha.beh hb) hc,y8 ha hb hc,y8 hc.bk hb.bk (ha.beh (hb.beh hc))]
theorem zt8 (hb:IsT n b):mx n (List.range n) b=List.range n:=by
 have h:=za9 (IsT.range n) hb
 have r:bk n (List.range n)=List.range n:=by
  have:=R6 (IsT.range n)
  rwa [beh_still (IsT.range n).bk]at this
 rw[h,r,still_beh hb,R6 hb,still_beh (IsT.range n)]
theorem zm4 (ha:IsT n a):mx n a (List.range n)=List.range n:=by
 have h:=za9 ha (IsT.range n)
 have r:bk n (List.range n)=List.range n:=by
  have:=R6 (IsT.range n)
  rwa [beh_still (IsT.range n).bk]at this
 rw[h,r,beh_still ha,still_beh ha,R6 ha]
theorem C4 (ha:IsT n a)(hb:IsT n b)(h:beh a b=List.range n):b=bk n a:=by
 have:=congrArg (beh (bk n a)) h
 rwa [xa6 ha hb,beh_still ha.bk]at this
theorem zx5 (ha:IsT n a)(hc:IsT n c):mx n (bk n a) c=bk n (cj n (bk n a) (mx n a c)):=by
 refine C4 (c8 ha.bk (J4 ha hc)) (J4 ha.bk hc) ?_
 rw[←zo9 ha ha.bk hc,V8 ha,zt8 hc]
theorem zt7 (ha:IsT n a)(hc:IsT n c):mx n a (bk n c)=bk n (cj n (bk n c) (mx n a c)):=by
 have h:beh (mx n a (bk n c)) (cj n (bk n c) (mx n a c))=List.range n:=by rw[←zf9 ha hc hc.bk,V8 hc,zm4 ha]
 have hx:=c8 hc.bk (J4 ha hc)
 have hy:=J4 ha hc.bk
 rw[C4 hy hx h,yj0 hy]
end
structure Kpt (n:Nat) (us:List (List Nat)) (N:List Nat->Prop):Prop where
 isT:∀x,N x->IsT n x
 two:∀x y,N x->N y->N (beh x y)
 back:∀x,N x->N (bk n x)
 one:N (List.range n)
 turn:∀g x,Grp n (λy=>y∈us) g->N x->N (cj n g x)
theorem yb7 {n:Nat}{us ms os:List (List Nat)}{N:List Nat->Prop}(hN:Kpt n us N)(hU:∀u∈us,IsT n u)(hM:∀m∈ms,IsT n m)(hO:∀o∈os,IsT n o)(hMU:∀m∈ms,Grp n (λy=>y∈us) m)(hOU:∀o∈os,Grp n (λy=>y∈us) o)(h:∀m∈ms,∀o∈os,N (mx n m o)){g t:List Nat}(hg:Grp n (λy=>y∈ms) g)(ht:Grp n (λy=>y∈os) t):N (mx n g t):=by
 have left:∀o∈os,N (mx n g o):=λo ho=>by
  refine(Grp.keeps (P:=λg=>IsT n g/\N (mx n g o)) ⟨IsT.range n,by rw[zt8 (hO o ho)];exact hN.one⟩ (λa s ha hs=>⟨ha.1.beh (hM s hs),?_⟩) (λa s ha hs=>⟨ha.1.beh (hM s hs).bk,?_⟩) hg).2
  ·rw[zo9 ha.1 (hM s hs) (hO o ho)]
   exact hN.two _ _ (hN.turn _ _ (hMU s hs) ha.2) (h s hs o ho)
  ·rw[zo9 ha.1 (hM s hs).bk (hO o ho),zx5 (hM s hs) (hO o ho)]
   have sG:=Grp.bk hU (hMU s hs)
   exact hN.two _ _ (hN.turn _ _ sG ha.2) (hN.back _ (hN.turn _ _ sG (h s hs o ho)))
 have gT:=hg.isT hM
 refine(Grp.keeps (P:=λt=>IsT n t/\N (mx n g t)) ⟨IsT.range n,by rw[zm4 gT];exact hN.one⟩ (λa s ha hs=>⟨ha.1.beh (hO s hs),?_⟩) (λa s ha hs=>⟨ha.1.beh (hO s hs).bk,?_⟩) ht).2
 ·rw[zf9 gT ha.1 (hO s hs)]
  exact hN.two _ _ (left s hs) (hN.turn _ _ (hOU s hs) ha.2)
 ·rw[zf9 gT ha.1 (hO s hs).bk,zt7 gT (hO s hs)]
  have sG:=Grp.bk hU (hOU s hs)
  exact hN.two _ _ (hN.back _ (hN.turn _ _ sG (left s hs))) (hN.turn _ _ sG ha.2)
def mxs (n:Nat)(us ts:List (List Nat)):List (List Nat):=us.flatMap λu=>ts.map (mx n u)
theorem mxs_mem {n:Nat}{us ts:List (List Nat)}{x:List Nat}:x∈mxs n us ts↔∃u∈us,∃t∈ts,x=mx n u t:=by
 unfold mxs
 constructor
 ·intro h
  obtain⟨u,hu,h⟩:=bQ.mp h
  obtain⟨t,ht,e⟩:=ah.mp h
  exact⟨u,hu,t,ht,e.symm⟩
 ·rintro⟨u,hu,t,ht,e⟩
  exact bQ.mpr ⟨u,hu,ah.mpr ⟨t,ht,e.symm⟩⟩
theorem mxs_isT {n:Nat}{us ts:List (List Nat)}(hU:∀u∈us,IsT n u)(hT:∀t∈ts,IsT n t):∀x∈mxs n us ts,IsT n x:=λx hx=>by
 obtain⟨u,hu,t,ht,rfl⟩:=mxs_mem.mp hx
 exact J4 (hU u hu) (hT t ht)
theorem ym0 {n:Nat}{us ts:List (List Nat)}(hU:∀u∈us,IsT n u)(hT:∀t∈ts,IsT n t):Kpt n us (NC n us ts) :=
 ⟨λx hx=>hx.isT (T1 hU hT),λx y hx hy=>Grp.beh (T1 hU hT) hx hy,λx hx=>Grp.bk (T1 hU hT) hx,.one,λg x hg hx=>yb9 hU hT hg hx⟩
theorem Grp.mx {n:Nat}{S:List Nat->Prop}(hS:∀s,S s->IsT n s){g x:List Nat}(hg:Grp n S g)(hx:Grp n S x):Grp n S (TM.mx n g x):=Grp.beh hS (Grp.beh hS (Grp.bk hS hg) (Grp.bk hS hx)) (Grp.beh hS hg hx)
theorem mixA {n:Nat}{us ts ms os:List (List Nat)}(hU:∀u∈us,IsT n u)(hT:∀t∈ts,IsT n t)(hM:∀m∈ms,IsT n m)(hO:∀o∈os,IsT n o)(hMU:∀x,Grp n (λz=>z∈ms) x↔Grp n (λz=>z∈us) x)(hOT:∀x,Grp n (λz=>z∈os) x↔Grp n (λz=>z∈ts) x)(hP:∀t∈ts,Grp n (λz=>z∈us) t)(x:List Nat):NC n us (mxs n ms os) x↔NC n us (mxs n us ts) x:=by
 have tU:∀t,Grp n (λz=>z∈ts) t->Grp n (λz=>z∈us) t:=λt ht=>Grp.mono hU hP ht
 have one:∀{ms os us' ts':List (List Nat)},(∀m∈ms,IsT n m)->(∀o∈os,IsT n o)->(∀m∈us',IsT n m)->(∀o∈ts',IsT n o)->(∀x,Grp n (λz=>z∈ms) x->Grp n (λz=>z∈us') x)->(∀x,Grp n (λz=>z∈us') x->Grp n (λz=>z∈us) x)->(∀x,Grp n (λz=>z∈os) x->Grp n (λz=>z∈ts') x)->(∀x,Grp n (λz=>z∈ts') x->Grp n (λz=>z∈us) x)->∀x,NC n us (mxs n ms os) x->NC n us (mxs n us' ts') x:=λ{ms os us' ts'} hM hO hU' hT' h1 h2 h3 h4 x hx=>by
  have hmT:=mxs_isT hU' hT'
  have hK:=ym0 hU hmT
  have hG:=T1 hU hmT
  refine Grp.mono hG (λz ⟨g,t,hg,ht,e⟩=>?_) hx
  obtain⟨m,hm,o,ho,rfl⟩:=mxs_mem.mp ht
  rw[e]
  refine hK.turn g _ hg (yb7 hK hU hU' hT' (λm hm=>h2 m (Grp.of hU' hm)) (λo ho=>h4 o (Grp.of hT' ho)) (λm hm o ho=>ym1 hU hmT (mxs_mem.mpr ⟨m,hm,o,ho,rfl⟩)) (h1 m (Grp.of hM hm)) (h3 o (Grp.of hO ho)))
 exact⟨one hM hO hU hT (λx=>(hMU x).mp) (λx h=>h) (λx=>(hOT x).mp) tU x,one hU hT hM hO (λx=>(hMU x).mpr) (λx=>(hMU x).mp) (λx=>(hOT x).mpr) (λx h=>tU x ((hOT x).mp h)) x⟩
theorem Hom.mx {k n:Nat}{F:List Nat->List Nat}(h:Hom k n F){g x:List Nat}(hg:IsT k g)(hx:IsT k x):F (TM.mx k g x)=TM.mx n (F g) (F x):=by
 unfold TM.mx
 rw[h.two _ _ (hg.bk.beh hx.bk) (hg.beh hx),h.two _ _ hg.bk hx.bk,h.two _ _ hg hx,h.bk hg,h.bk hx]
theorem yr8 {k n:Nat}{F:List Nat->List Nat}(h:Hom k n F){us ts:List (List Nat)}(hU:∀u∈us,IsT k u)(hT:∀t∈ts,IsT k t):mxs n (us.map F) (ts.map F)=(mxs k us ts).map F:=by
 unfold mxs
 rw[List.flatMap_map,List.map_flatMap]
 refine ze9 hU λg hg=>?_
 rw[ca,ca]
 exact bA λt ht=>(h.mx hg (hT t ht)).symm
end TM
namespace TM
open Classical
def Few (n:Nat)(S:List (List Nat))(N:Nat):Prop:=∀L:List (List Nat),L.Nodup->(∀x∈L,Grp n (λz=>z∈S) x)->L.length<=N
def dh (s:Nat)(c e:Int):List Nat:=(List.range s).map λ(k:Nat)=>((c+e*(k:Int)) % (s:Int)).toNat
section
variable {s:Nat}(hs:0<s)
include hs
theorem dh_get (c e:Int){k:Nat}(hk:k<s):(dh s c e).getD k 0=((c+e*(k:Int)) % (s:Int)).toNat:=by
 unfold dh
 rw[ao,ag,aM hk]
 rfl
theorem F9 (c e:Int)(k:Nat):((((c+e*(k:Int)) % (s:Int)).toNat:Nat):Int)=(c+e*(k:Int)) % (s:Int):=bB (aY _ (by lia))
theorem yu4 (c e:Int)(k:Nat):((c+e*(k:Int)) % (s:Int)).toNat<s:=by
 have:=bv (c+e*(k:Int)) (show(0:Int)<(s:Int) by lia)
 have:=aY (c+e*(k:Int)) (show(s:Int)≠0 by lia)
 lia
theorem dh_beh (c e c' e':Int):beh (dh s c e) (dh s c' e')=dh s (c'+e'*c) (e'*e):=by
 unfold beh
 conv=>lhs;unfold dh
 rw[ca]
 conv=>rhs;unfold dh
 refine bA λk hk=>?_
 show(dh s c' e').getD _ 0=_
 rw[dh_get hs _ _ (yu4 hs c e k),F9 hs]
 congr 1
 rw[Int.add_emod,Int.mul_emod,Int.emod_emod,←Int.mul_emod,←Int.add_emod,Int.mul_add,←Int.mul_assoc,←Int.add_assoc]
theorem O5:dh s 0 1=List.range s:=by
 unfold dh
 refine(bA λk hk=>?_).trans (List.map_id _)
 have:=aG.mp hk
 rw[eP,bO,Int.emod_eq_of_lt (by lia) (by lia)]
 rfl
theorem dh_isT (c:Int){e:Int}(he:e=1∨e=-1):IsT s (dh s c e):=by
 have hl:(dh s c e).length=s:=by unfold dh;rw[aa,az]
 have back:beh (dh s c e) (dh s (-(e*c)) e)=List.range s:=by
  rw[dh_beh hs,show -(e*c)+e*c=0 by lia,show e*e=1 by rcases he with h|h <;> rw[h] <;> rfl]
  exact O5 hs
 refine B0 hl ?_ λx hx=>?_
 ·have:(dh s c e).map (λx=>(dh s (-(e*c)) e).getD x 0)=List.range s:=back
  have nd:((dh s c e).map λx=>(dh s (-(e*c)) e).getD x 0).Nodup:=by rw[this];exact bE
  exact(ba.mp nd).imp λh z=>h (by rw[z])
 ·obtain⟨k,_,rfl⟩:=ah.mp hx
  exact yu4 hs c e k
theorem zw6 (c e:Int):dh s c e=dh s (c % (s:Int)) e:=by
 unfold dh
 refine bA λk _=>?_
 congr 1
 rw[Int.emod_add_emod]
end
end TM
namespace TM
open Classical
theorem yb1 {α:Type}(P:α->Prop):∀B:List α,∃L:List α,L.Nodup/\∀x,x∈L↔x∈B/\P x
 | []=>⟨[],bZ,λx=>by simp⟩
 | b::B=>by
  obtain⟨L,h1,h2⟩:=yb1 P B
  by_cases h:P b/\b∉L
  ·refine⟨b::L,aK.mpr ⟨h.2,h1⟩,λx=>?_⟩
   rw[au,au,h2]
   constructor
   ·rintro (rfl|⟨a,b⟩)
    ·exact⟨.inl rfl,h.1⟩
    ·exact⟨.inr a,b⟩
   ·rintro⟨rfl|a,c⟩
    ·exact .inl rfl
    ·exact .inr ⟨a,c⟩
  ·refine⟨L,h1,λx=>?_⟩
   rw[au,h2]
   constructor
   ·exact λ⟨a,b⟩=>⟨.inr a,b⟩
   ·rintro⟨rfl|a,c⟩
    ·refine(h2 x).mp (Classical.byContradiction λz=>h ⟨c,z⟩)
    ·exact⟨a,c⟩
def yc7 (k:Nat):Nat->List (List Nat)
 | 0=>[[]]
 | m+1=>(yc7 k m).flatMap λr=>(List.range k).map λx=>x::r
theorem zm6 {k:Nat}:∀{r:List Nat},(∀y∈r,y<k)->r∈yc7 k r.length
 | [],_=>by simp[yc7]
 | x::r,h=>bQ.mpr ⟨r,zm6 λy hy=>h y (av _ hy),ah.mpr ⟨x,aG.mpr (h x ax),rfl⟩⟩
theorem E3 {n:Nat}{ts:List (List Nat)}(hT:∀t∈ts,IsT n t):∃L:List (List Nat),L.Nodup/\∀x,x∈L↔Grp n (λz=>z∈ts) x:=by
 obtain⟨L,h1,h2⟩:=yb1 (Grp n λz=>z∈ts) (yc7 n n)
 refine⟨L,h1,λx=>(h2 x).trans ⟨λh=>h.2,λh=>⟨?_,h⟩⟩⟩
 have hx:=h.isT hT
 have:=zm6 (k:=n) (r:=x) λy hy=>hx.lt hy
 rwa [hx.length]at this
noncomputable def gM (n:Nat) (ts:List (List Nat)):Nat:=if h:∃L:List (List Nat),L.Nodup/\∀x,x∈L↔Grp n (λz=>z∈ts) x then(Classical.choose h).length else 0
theorem gM_eq {n:Nat}{ts L:List (List Nat)}(h1:L.Nodup)(h2:∀x,x∈L↔Grp n (λz=>z∈ts) x):gM n ts=L.length:=by
 have h:∃L:List (List Nat),L.Nodup/\∀x,x∈L↔Grp n (λz=>z∈ts) x:=⟨L,h1,h2⟩
 unfold gM
 rw[dif_pos h]
 have hs:=Classical.choose_spec h
 exact yn8 hs.1 h1 λx=>(hs.2 x).trans (h2 x).symm
theorem gM_le {n:Nat}{ts us:List (List Nat)}(hT:∀t∈ts,IsT n t)(h:∀x,Grp n (λz=>z∈us) x->Grp n (λz=>z∈ts) x)(hU:∀t∈us,IsT n t):gM n us<=gM n ts:=by
 obtain⟨L,h1,h2⟩:=E3 hT
 obtain⟨M,h3,h4⟩:=E3 hU
 rw[gM_eq h1 h2,gM_eq h3 h4]
 exact zf8 h3 λx hx=>(h2 x).mpr (h x ((h4 x).mp hx))
inductive Dn (n:Nat) (nx:List (List Nat)->List (List Nat)->Prop) (t0:List (List Nat)):List (List (List Nat))->List (List Nat)->Prop
 | one:Dn n nx t0 [t0] t0
 | more {gs:List (List (List Nat))} {t u:List (List Nat)}:Dn n nx t0 gs t->nx t u->gM n u<gM n t->Dn n nx t0 (gs++[u]) u
section
variable {n:Nat}{nx:List (List Nat)->List (List Nat)->Prop}{t0 t:List (List Nat)}{gs:List (List (List Nat))}
theorem Dn.len (h:Dn n nx t0 gs t):gs.length+gM n t<=gM n t0+1:=by
 induction h with
 | one=>simp;lia
 | more _ _ h ih=>rw[af];simp;lia
theorem Dn.last (h:Dn n nx t0 gs t):∃gs',gs=gs'++[t]:=by
 cases h with
 | one=>exact⟨[],rfl⟩
 | more _ _ _=>exact⟨_,rfl⟩
theorem Dn.pos (h:Dn n nx t0 gs t):0<gs.length:=by
 obtain⟨l,rfl⟩:=h.last
 simp
theorem Dn.end_ (h:Dn n nx t0 gs t):gs[gs.length-1]?=some t:=by
 obtain⟨l,rfl⟩:=h.last
 simp
theorem Dn.first (h:Dn n nx t0 gs t):gs[0]?=some t0:=by
 induction h with
 | one=>rfl
 | more h _ _ ih=>rw[aI h.pos];exact ih
theorem Dn.step (h:Dn n nx t0 gs t):∀(i:Nat) (u:List (List Nat)),gs[i+1]?=some u->∃s,gs[i]?=some s/\nx s u/\gM n u<gM n s:=by
 induction h with
 | one=>intro i u e;simp at e
 | @more gs t v h hx hl ih =>
  intro i u e
  by_cases hi:i+1<gs.length
  ·rw[aI hi]at e
   obtain⟨s,h1,h2⟩:=ih i u e
   exact⟨s,by rw[aI (by lia)];exact h1,h2⟩
  ·have hlt:=(ap.mp e).1
   rw[af]at hlt
   have e2:i+1=gs.length:=by simp at hlt;lia
   rw[aN (by lia),e2,bD]at e
   cases e
   refine⟨t,?_,hx,hl⟩
   rw[aI (by lia),show i=gs.length-1 by lia]
   exact h.end_
theorem two_downs {k:Nat}{nx':List (List Nat)->List (List Nat)->Prop}{f0 f lo lo':List (List Nat)}{fs:List (List (List Nat))}{R:List (List Nat)->List (List Nat)->Prop}(h:Dn n nx t0 gs t)(hn:nx t lo)(hl:gM n t<=gM n lo)(h':Dn k nx' f0 fs f)(hn':nx' f lo')(hl':gM k f<=gM k lo')(h0:R t0 f0)
  (st:∀t f u v,R t f->nx t u->nx' f v->R u v) (sz:∀t f,R t f->gM n t=gM k f):gs.length=fs.length/\∀(i:Nat) (t f:List (List Nat)),gs[i]?=some t->fs[i]?=some f->R t f:=by
 have al:∀(i:Nat) (t f:List (List Nat)),gs[i]?=some t->fs[i]?=some f->R t f:=by
  intro i
  induction i with
  | zero =>
   intro t f e1 e2
   rw[h.first]at e1
   rw[h'.first]at e2
   cases e1;cases e2
   exact h0
  | succ i ih =>
   intro t f e1 e2
   obtain⟨s,a1,a2,_⟩:=h.step i t e1
   obtain⟨s',b1,b2,_⟩:=h'.step i f e2
   exact st _ _ _ _ (ih s s' a1 b1) a2 b2
 refine⟨?_,al⟩
 rcases Nat.lt_trichotomy gs.length fs.length with z|z|z
 ·exfalso
  have p:=h.pos
  have e1:=h.end_
  obtain⟨u,hu⟩:∃u,fs[gs.length-1+1]?=some u:=⟨_,ac (by lia)⟩
  obtain⟨s,b1,b2,b3⟩:=h'.step _ u hu
  have r:=al _ _ _ e1 b1
  have:=sz _ _ (st _ _ _ _ r hn b2)
  have:=sz _ _ r
  lia
 ·exact z
 ·exfalso
  have p:=h'.pos
  have e1:=h'.end_
  obtain⟨u,hu⟩:∃u,gs[fs.length-1+1]?=some u:=⟨_,ac (by lia)⟩
  obtain⟨s,b1,b2,b3⟩:=h.step _ u hu
  have r:=al _ _ _ b1 e1
  have:=sz _ _ (st _ _ _ _ r b2 hn')
  have:=sz _ _ r
  lia
end
def nxS (n:Nat)(ts us:List (List Nat)):Prop:=(∀t∈us,IsT n t)/\∀x,Grp n (λz=>z∈us) x↔NC n ts (mxs n ts ts) x
def nxD (n:Nat)(g:List (List Nat))(ts us:List (List Nat)):Prop:=(∀t∈us,IsT n t)/\∀x,Grp n (λz=>z∈us) x↔NC n g (mxs n g ts) x
structure Alk (k n:Nat) (F:List Nat->List Nat) (t f:List (List Nat)):Prop where
 tT:∀x∈t,IsT n x
 fT:∀x∈f,IsT k x
 al:∀y,Grp n (λz=>z∈t) y↔∃x,Grp k (λz=>z∈f) x/\y=F x
section
variable {k n:Nat}{F:List Nat->List Nat}
theorem Alk.as (h:Hom k n F){t f:List (List Nat)}(a:Alk k n F t f)(x:List Nat):Grp n (λz=>z∈t) x↔Grp n (λz=>z∈f.map F) x:=(a.al x).trans (h.grp a.fT x).symm
theorem yr9 {n:Nat}{us us' ts:List (List Nat)}(e:∀x,Grp n (λz=>z∈us) x↔Grp n (λz=>z∈us') x):NC n us ts=NC n us' ts:=by
 unfold NC
 rw[show(Grp n λy=>y∈us)=Grp n λy=>y∈us' from funext λx=>propext (e x)]
theorem Alk.down (h:Hom k n F){g c t f u v:List (List Nat)}(a0:Alk k n F g c)(a:Alk k n F t f)(hP:∀x∈f,Grp k (λz=>z∈c) x)(h1:nxD n g t u)(h2:nxD k c f v):Alk k n F u v:=by
 refine⟨h1.1,h2.1,λy=>?_⟩
 have cT:∀x∈c.map F,IsT n x:=λx hx=>by obtain⟨z,hz,rfl⟩:=ah.mp hx;exact h.isT _ (a0.fT z hz)
 have fT:∀x∈f.map F,IsT n x:=λx hx=>by obtain⟨z,hz,rfl⟩:=ah.mp hx;exact h.isT _ (a.fT z hz)
 rw[h1.2,yr9 (Alk.as h a0),mixA cT fT a0.tT a.tT (Alk.as h a0) (Alk.as h a) ((yn5 h a0.fT a.fT).mpr hP),yr8 h a0.fT a.fT,yl8 h a0.fT (mxs_isT a0.fT a.fT)]
 exact⟨λ⟨x,hx,e⟩=>⟨x,(h2.2 x).mpr hx,e⟩,λ⟨x,hx,e⟩=>⟨x,(h2.2 x).mp hx,e⟩⟩
theorem Alk.stair (h:Hom k n F){t f u v:List (List Nat)}(a:Alk k n F t f)(h1:nxS n t u)(h2:nxS k f v):Alk k n F u v:=Alk.down h a a (λx hx=>Grp.of a.fT hx) h1 h2
theorem Alk.size (h:Hom k n F){t f:List (List Nat)}(a:Alk k n F t f):gM n t=gM k f:=by
 obtain⟨L,h1,h2⟩:=E3 a.fT
 have nd:(L.map F).Nodup:=by
  have:∀l:List (List Nat),l.Nodup->(∀x∈l,IsT k x)->(l.map F).Nodup:=by
   intro l
   induction l with
   | nil=>intro _ _;exact bZ
   | cons x l ih =>
    intro nd hT
    rw[aT]
    refine aK.mpr ⟨λhm=>?_,ih (aK.mp nd).2 λy hy=>hT y (av _ hy)⟩
    obtain⟨y,hy,e⟩:=ah.mp hm
    rw[h.inj y x (hT y (av _ hy)) (hT x ax) e]at hy
    exact(aK.mp nd).1 hy
  exact this L h1 λx hx=>((h2 x).mp hx).isT a.fT
 rw[gM_eq h1 h2,gM_eq (L:=L.map F) nd λy=>?_,aa]
 rw[ah,a.al]
 exact⟨λ⟨x,hx,e⟩=>⟨x,(h2 x).mp hx,e.symm⟩,λ⟨x,hx,e⟩=>⟨x,(h2 x).mpr hx,e.symm⟩⟩
end
end TM
namespace TM
open Classical
def RR (s:Nat)(m:Int)(x:List Nat):Prop:=∃j:Int,x=dh s (m*j) 1
def DD (s:Nat)(x:List Nat):Prop:=∃c e:Int,(e=1∨e=-1)/\x=dh s c e
theorem ee {e:Int}(he:e=1∨e=-1):e*e=1:=by rcases he with h|h <;> rw[h] <;> rfl
theorem zr3 {a b k:Int}(h:a % k=b % k):k ∣ (a-b):=Int.dvd_of_emod_eq_zero (Int.emod_eq_emod_iff_emod_sub_eq_zero.mp h)
section
variable {s:Nat}(hs:0<s)
include hs
theorem zl7 (c:Int){e:Int}(he:e=1∨e=-1):bk s (dh s c e)=dh s (-(e*c)) e:=by
 refine(C4 (dh_isT hs c he) (dh_isT hs _ he) ?_).symm
 rw[dh_beh hs,show -(e*c)+e*c=0 by lia,ee he]
 exact O5 hs
theorem xa8 (c d:Int){e:Int}(he:e=1∨e=-1):cj s (dh s c e) (dh s d 1)=dh s (e*d) 1:=by
 unfold cj
 rw[zl7 hs c he,dh_beh hs,dh_beh hs]
 congr 1
 ·rcases he with rfl|rfl <;> lia
 ·rcases he with rfl|rfl <;> rfl
theorem zs6 (c d:Int){e e':Int}(he:e=1∨e=-1)(he':e'=1∨e'=-1):mx s (dh s c e) (dh s d e')=dh s ((1-e)*d-(1-e')*c) 1:=by
 unfold mx
 rw[zl7 hs c he,zl7 hs d he',dh_beh hs,dh_beh hs,dh_beh hs]
 congr 1
 ·rcases he with rfl|rfl <;> rcases he' with rfl|rfl <;> lia
 ·rcases he with rfl|rfl <;> rcases he' with rfl|rfl <;> rfl
theorem RR.isT {m:Int}{x:List Nat}(h:RR s m x):IsT s x:=by
 obtain⟨j,rfl⟩:=h
 exact dh_isT hs _ (.inl rfl)
theorem DD.isT {x:List Nat}(h:DD s x):IsT s x:=by
 obtain⟨c,e,he,rfl⟩:=h
 exact dh_isT hs _ he
theorem RR.two {m:Int}{x y:List Nat}(h1:RR s m x)(h2:RR s m y):RR s m (beh x y):=by
 obtain⟨j,rfl⟩:=h1
 obtain⟨k,rfl⟩:=h2
 exact⟨k+j,by rw[dh_beh hs,bO,bO,Int.mul_add]⟩
theorem RR.back {m:Int}{x:List Nat}(h:RR s m x):RR s m (bk s x):=by
 obtain⟨j,rfl⟩:=h
 exact⟨-j,by rw[zl7 hs _ (.inl rfl),bO,Int.mul_neg]⟩
theorem RR.one (m:Int):RR s m (List.range s):=⟨0,by rw[Int.mul_zero];exact(O5 hs).symm⟩
theorem o8 (m:Int)(x:List Nat):Grp s (λz=>z∈[dh s m 1]) x↔RR s m x:=by
 have hT:∀z∈[dh s m 1],IsT s z:=λz hz=>by rw[ae.mp hz];exact dh_isT hs _ (.inl rfl)
 have hm:RR s m (dh s m 1):=⟨1,by rw[Int.mul_one]⟩
 constructor
 ·intro hx
  refine Grp.keeps (P:=RR s m) (RR.one hs m) (λa z ha hz=>?_) (λa z ha hz=>?_) hx
  ·rw[ae.mp hz];exact RR.two hs ha hm
  ·rw[ae.mp hz];exact RR.two hs ha (RR.back hs hm)
 ·rintro⟨j,rfl⟩
  have nat:∀k:Nat,Grp s (λz=>z∈[dh s m 1]) (dh s (m*(k:Int)) 1):=by
   intro k
   induction k with
   | zero=>rw[show m*((0:Nat):Int)=0 by lia,O5 hs];exact .one
   | succ k ih =>
    have:=Grp.beh hT ih (Grp.of hT (ae.mpr rfl))
    rw[dh_beh hs,bO,bO]at this
    rw[show m*((k+1:Nat):Int)=m+m*(k:Int) by rw[bW,Int.mul_add];lia]
    exact this
  rcases Int.eq_nat_or_neg j with⟨k,rfl|rfl⟩
  ·exact nat k
  ·have:=Grp.bk hT (nat k)
   rw[zl7 hs _ (.inl rfl),bO]at this
   rw[Int.mul_neg]
   exact this
theorem zy4 {S:List (List Nat)}(hS:∀x,Grp s (λz=>z∈S) x->DD s x)(m:Int):Kpt s S (RR s m) :=
 ⟨λx h=>RR.isT hs h,λx y h1 h2=>RR.two hs h1 h2,λx h=>RR.back hs h,RR.one hs m,λg x hg ⟨j,e⟩=>by
  obtain⟨c,d,hd,rfl⟩:=hS g hg
  exact⟨d*j,by rw[e,xa8 hs _ _ hd];congr 1;rw[←Int.mul_assoc,←Int.mul_assoc,Int.mul_comm d m]⟩⟩
theorem zx6 {S T:List (List Nat)}{N:List Nat->Prop}(hN:Kpt s S N)(h:∀b∈S,∀o∈T,N (mx s b o))(x:List Nat)(hx:NC s S (mxs s S T) x):N x:=by
 refine Grp.keeps (P:=N) hN.one (λa z ha ⟨c,m,hc,hm,e⟩=>?_) (λa z ha ⟨c,m,hc,hm,e⟩=>?_) hx
 all_goals
  obtain⟨b,hb,o,ho,rfl⟩:=mxs_mem.mp hm
  have hz:N z:=by rw[e];exact hN.turn c _ hc (h b hb o ho)
 ·exact hN.two _ _ ha hz
 ·exact hN.two _ _ ha (hN.back _ hz)
theorem yl9 {S T:List (List Nat)}(hS:∀x∈S,IsT s x)(hT:∀x∈T,IsT s x)(hP:∀t∈T,Grp s (λz=>z∈S) t){a b:List Nat}(ha:Grp s (λz=>z∈S) a)(hb:Grp s (λz=>z∈T) b):NC s S (mxs s S T) (mx s a b) :=
 yb7 (ym0 hS (mxs_isT hS hT)) hS hS hT (λm hm=>Grp.of hS hm) hP (λm hm o ho=>ym1 hS (mxs_isT hS hT) (mxs_mem.mpr ⟨m,hm,o,ho,rfl⟩)) ha hb
theorem ym2 {S T:List (List Nat)}{m:Int}(hST:∀x∈S,IsT s x)(hTT:∀x∈T,IsT s x)(hS:∀x,Grp s (λz=>z∈S) x↔DD s x)(hT:∀x,Grp s (λz=>z∈T) x↔RR s m x)(x:List Nat):NC s S (mxs s S T) x↔RR s (2*m) x:=by
 have hP:∀t∈T,Grp s (λz=>z∈S) t:=λt ht=>by
  obtain⟨j,e⟩:=(hT t).mp (Grp.of hTT ht)
  exact(hS t).mpr ⟨_,1,.inl rfl,e⟩
 constructor
 ·refine zx6 hs (zy4 hs (λx=>(hS x).mp) _) (λb hb o ho=>?_) x
  obtain⟨c,e,he,rfl⟩:=(hS b).mp (Grp.of hST hb)
  obtain⟨j,rfl⟩:=(hT o).mp (Grp.of hTT ho)
  rw[zs6 hs c _ he (.inl rfl)]
  rcases he with rfl|rfl
  ·exact⟨0,by congr 1;lia⟩
  ·exact⟨j,by congr 1;rw[Int.mul_assoc];lia⟩
 ·rintro⟨j,rfl⟩
  have:=yl9 hs hST hTT hP ((hS _).mpr ⟨0,-1,.inr rfl,rfl⟩) ((hT _).mpr ⟨j,rfl⟩)
  rw[zs6 hs 0 _ (.inr rfl) (.inl rfl)]at this
  rw[show(2*m)*j=(1 - -1)*(m*j)-(1-1)*0 by rw[Int.mul_assoc];lia]
  exact this
theorem ym3 {S:List (List Nat)}(hST:∀x∈S,IsT s x)(hS:∀x,Grp s (λz=>z∈S) x↔DD s x)(x:List Nat):NC s S (mxs s S S) x↔RR s 2 x:=by
 constructor
 ·refine zx6 hs (zy4 hs (λx=>(hS x).mp) _) (λb hb o ho=>?_) x
  obtain⟨c,e,he,rfl⟩:=(hS b).mp (Grp.of hST hb)
  obtain⟨d,e',he',rfl⟩:=(hS o).mp (Grp.of hST ho)
  rw[zs6 hs c d he he']
  rcases he with rfl|rfl <;> rcases he' with rfl|rfl
  ·exact⟨0,by congr 1;lia⟩
  ·exact⟨-c,by congr 1;lia⟩
  ·exact⟨d,by congr 1;lia⟩
  ·exact⟨d-c,by congr 1;lia⟩
 ·rintro⟨j,rfl⟩
  have:=yl9 hs hST hST (λt ht=>Grp.of hST ht) ((hS _).mpr ⟨0,-1,.inr rfl,rfl⟩) ((hS _).mpr ⟨j,1,.inl rfl,rfl⟩)
  rw[zs6 hs 0 _ (.inr rfl) (.inl rfl)]at this
  rw[show 2*j=(1 - -1)*j-(1-1)*0 by lia]
  exact this
theorem yb8 {T:List (List Nat)}{m:Int}(hTT:∀x∈T,IsT s x)(hT:∀x,Grp s (λz=>z∈T) x↔RR s m x)(x:List Nat):NC s T (mxs s T T) x↔RR s 0 x:=by
 constructor
 ·refine zx6 hs (zy4 hs (λx hx=>?_) _) (λb hb o ho=>?_) x
  ·obtain⟨j,e⟩:=(hT x).mp hx
   exact⟨_,1,.inl rfl,e⟩
  ·obtain⟨j,rfl⟩:=(hT b).mp (Grp.of hTT hb)
   obtain⟨k,rfl⟩:=(hT o).mp (Grp.of hTT ho)
   rw[zs6 hs _ _ (.inl rfl) (.inl rfl)]
   exact⟨0,by congr 1;lia⟩
 ·rintro⟨j,rfl⟩
  rw[Int.zero_mul,O5 hs]
  exact .one
theorem zw7 {c d:Int}(h:c % (s:Int)=d % (s:Int))(e:Int):dh s c e=dh s d e:=by rw[zw6 hs c,h,←zw6 hs d]
theorem zc5 {c d e e':Int}(h:dh s c e=dh s d e'):c % (s:Int)=d % (s:Int):=by
 have h0:=congrArg (λl=>l.getD 0 0) h
 rw[dh_get hs _ _ hs,dh_get hs _ _ hs]at h0
 have a1:=F9 hs c e 0
 have a2:=F9 hs d e' 0
 rw[h0,a2]at a1
 rw[show c+e*((0:Nat):Int)=c by lia,show d+e'*((0:Nat):Int)=d by lia]at a1
 exact a1.symm
theorem ya8 {c d e e':Int}(h3:3<=s)(he:e=1∨e=-1)(he':e'=1∨e'=-1)(h:dh s c e=dh s d e'):e=e':=by
 have z:=zc5 hs h
 have h1:=congrArg (λl=>l.getD 1 0) h
 rw[dh_get hs _ _ (show 1<s by lia),dh_get hs _ _ (show 1<s by lia)]at h1
 have a1:=F9 hs c e 1
 have a2:=F9 hs d e' 1
 rw[h1,a2]at a1
 have hd:(s:Int) ∣ (c-d):=zr3 z
 have hd2:(s:Int) ∣ ((c+e*((1:Nat):Int))-(d+e'*((1:Nat):Int))):=zr3 a1.symm
 have hd3:=Int.dvd_sub hd2 hd
 rcases he with rfl|rfl <;> rcases he' with rfl|rfl
 ·rfl
 ·exfalso
  have:(s:Int) ∣ 2:=by
   have e2:c+1*((1:Nat):Int)-(d + -1*((1:Nat):Int))-(c-d)=2:=by lia
   rwa [e2]at hd3
  have:=Int.le_of_dvd (by decide) this
  lia
 ·exfalso
  have:(s:Int) ∣ -2:=by
   have e2:c + -1*((1:Nat):Int)-(d+1*((1:Nat):Int))-(c-d)=-2:=by lia
   rwa [e2]at hd3
  have:=Int.le_of_dvd (by decide) (Int.dvd_neg.mpr this)
  lia
 ·rfl
theorem gM_DD (h3:3<=s){S:List (List Nat)}(hS:∀x,Grp s (λz=>z∈S) x↔DD s x):gM s S=2*s:=by
 have nd:∀e:Int,((List.range s).map λ(j:Nat)=>dh s (j:Int) e).Nodup:=λe=>by
  refine ba.mpr (List.Pairwise.imp_of_mem (λ{a b} ha hb hne z=>hne ?_) bE)
  have:=zc5 hs z
  have h1:=aG.mp ha
  have h2:=aG.mp hb
  rw[Int.emod_eq_of_lt (by lia) (by lia),Int.emod_eq_of_lt (by lia) (by lia)]at this
  lia
 rw[gM_eq (L:=((List.range s).map λ(j:Nat)=>dh s (j:Int) 1)++(List.range s).map λ(j:Nat)=>dh s (j:Int) (-1)) (bc.mpr ⟨nd 1,nd (-1),λx hx y hy e=>?_⟩) λx=>?_]
 ·rw[af,aa,aa,az]
  lia
 ·obtain⟨a,_,rfl⟩:=ah.mp hx
  obtain⟨b,_,rfl⟩:=ah.mp hy
  have:=ya8 hs h3 (.inl rfl) (.inr rfl) e
  exact absurd this (by decide)
 ·rw[hS x,aB,ah,ah]
  constructor
  ·rintro (⟨a,_,rfl⟩|⟨a,_,rfl⟩)
   ·exact⟨_,1,.inl rfl,rfl⟩
   ·exact⟨_,-1,.inr rfl,rfl⟩
  ·rintro⟨c,e,he,rfl⟩
   have h1:=aY c (show(s:Int)≠0 by lia)
   have h2:=bv c (show(0:Int)<(s:Int) by lia)
   have e1:dh s (((c % (s:Int)).toNat:Nat):Int) e=dh s c e:=by rw[bB h1,←zw6 hs]
   rcases he with rfl|rfl
   ·exact .inl ⟨_,aG.mpr (by lia),e1⟩
   ·exact .inr ⟨_,aG.mpr (by lia),e1⟩
theorem yk4 {T:List (List Nat)}{m q:Nat}(hm:s=m*q)(hT:∀x,Grp s (λz=>z∈T) x↔RR s (m:Int) x):gM s T=q:=by
 have m0:0<m:=Nat.pos_of_ne_zero λz=>by rw[z,Nat.zero_mul]at hm;lia
 have q0:0<q:=Nat.pos_of_ne_zero λz=>by rw[z,Nat.mul_zero]at hm;lia
 have hsI:(s:Int)=(m:Int)*(q:Int):=by rw[hm,br]
 rw[gM_eq (L:=(List.range q).map λ(j:Nat)=>dh s ((m:Int)*(j:Int)) 1) ?_ λx=>?_,aa,az]
 ·refine ba.mpr (List.Pairwise.imp_of_mem (λ{a b} ha hb hne z=>hne ?_) bE)
  have:=zc5 hs z
  have h1:=aG.mp ha
  have h2:=aG.mp hb
  rw[hsI,Int.mul_emod_mul_of_pos _ _ (by lia),Int.mul_emod_mul_of_pos _ _ (by lia),Int.emod_eq_of_lt (by lia) (by lia),Int.emod_eq_of_lt (by lia) (by lia)]at this
  have:=Int.eq_of_mul_eq_mul_left (show(m:Int)≠0 by lia) this
  lia
 ·rw[hT x,ah]
  constructor
  ·rintro⟨a,_,rfl⟩
   exact⟨_,rfl⟩
  ·rintro⟨j,rfl⟩
   have h1:=aY j (show(q:Int)≠0 by lia)
   have h2:=bv j (show(0:Int)<(q:Int) by lia)
   refine⟨(j % (q:Int)).toNat,aG.mpr (by lia),zw7 hs ?_ 1⟩
   rw[bB h1,hsI,Int.mul_emod_mul_of_pos _ _ (by lia),Int.mul_emod_mul_of_pos _ _ (by lia),Int.emod_emod]
theorem zn6 {m q c':Nat}(hm:s=m*q)(hq:q % 2=1)(x:List Nat):RR s (2*((m:Int)*(c':Int))) x↔RR s ((m:Int)*(c':Int)) x:=by
 constructor
 ·rintro⟨j,rfl⟩
  exact⟨2*j,by congr 1;rw[Int.mul_assoc,Int.mul_left_comm]⟩
 ·rintro⟨j,rfl⟩
  obtain⟨r,hr⟩:∃r:Nat,q+1=2*r:=⟨(q+1) / 2,by lia⟩
  refine⟨j*(r:Int),zw7 hs ?_ 1⟩
  have e:2*((m:Int)*(c':Int))*(j*(r:Int))=(m:Int)*(c':Int)*j+(s:Int)*((c':Int)*j):=by
   have h2:(2:Int)*(r:Int)=(q:Int)+1:=by lia
   have h3:(s:Int)=(m:Int)*(q:Int):=by rw[hm,br]
   have e1:2*((m:Int)*(c':Int))*(j*(r:Int))=(m:Int)*(c':Int)*j*(2*(r:Int)):=by rw[Int.mul_assoc 2,Int.mul_comm 2,←Int.mul_assoc ((m:Int)*(c':Int)),Int.mul_assoc,Int.mul_comm (r:Int) 2]
   rw[e1,h2,Int.mul_add,Int.mul_one,Int.add_comm,h3,Int.mul_assoc (m:Int) (c':Int) j,Int.mul_assoc (m:Int) ((c':Int)*j),Int.mul_comm ((c':Int)*j),Int.mul_assoc (m:Int) (q:Int)]
  rw[e,Int.add_mul_emod_self_left]
theorem zn5 {m q:Nat}(hm:s=m*q){c:Int}:RR s (m:Int) (dh s c 1)↔c % (m:Int)=0:=by
 have hsI:(s:Int)=(m:Int)*(q:Int):=by rw[hm,br]
 constructor
 ·rintro⟨j,e⟩
  have h:=zr3 (zc5 hs e)
  have h1:(m:Int) ∣ (c-(m:Int)*j):=Int.dvd_trans ⟨_,hsI⟩ h
  have h2:=Int.dvd_add h1 (Int.dvd_mul_right (m:Int) j)
  rw[Int.sub_add_cancel]at h2
  exact Int.emod_eq_zero_of_dvd h2
 ·intro h
  obtain⟨j,e⟩:=Int.dvd_of_emod_eq_zero h
  exact⟨j,by rw[e]⟩
theorem xa4 (h3:3<=s){m c:Int}:¬RR s m (dh s c (-1)):=λ⟨j,e⟩=>absurd (ya8 hs h3 (.inr rfl) (.inl rfl) e) (by decide)
end
end TM
namespace TM
open Classical
theorem yr3 {s st:Nat}(hs:0<s)(hg:Nat.gcd st s=1):∃j:Nat,((st:Int)*(j:Int)) % (s:Int)=1 % (s:Int):=by
 have hT:IsT s ((List.range s).map λj=>(st*j) % s):=by
  refine B0 (by rw[aa,az]) (ba.mpr (List.Pairwise.imp_of_mem (λ{a b} ha hb hne z=>hne ?_) bE)) λx hx=>?_
  ·obtain⟨j,_,rfl⟩:=ah.mp hx
   exact eB _ hs
  ·have h1:=aG.mp ha
   have h2:=aG.mp hb
   have key:∀{a b:Nat},a<s->b<s->(st*a) % s=(st*b) % s->b<=a->a=b:=λ{a b} h1 h2 z hle=>by
    have d:s ∣ st*a-st*b:=Nat.dvd_of_mod_eq_zero (Nat.sub_mod_eq_zero_of_mod_eq z)
    rw[←Nat.mul_sub]at d
    have hc:Nat.Coprime s st:=by rw[Nat.Coprime,be];exact hg
    have d2:=hc.dvd_of_dvd_mul_left d
    rcases eC (a-b) with e|e
    ·lia
    ·have:=eM e d2
     lia
   rcases dS b a with h|h
   ·exact key h1 h2 z h
   ·exact(key h2 h1 z.symm h).symm
 have h1:1 % s<s:=eB _ hs
 have e:=zw9 hT h1
 have hj:(bk s ((List.range s).map λj=>(st*j) % s)).getD (1 % s) 0<s:=hT.bk.step_lt h1
 generalize (bk s ((List.range s).map λj=>(st*j) % s)).getD (1 % s) 0=j at e hj
 rw[ao,ag,aM hj]at e
 have e':(st*j) % s=1 % s:=e
 exact⟨j,by have:=congrArg (Nat.cast (R:=Int)) e';rw[cN,cN,br]at this;exact this⟩
section
variable {s:Nat}(hs:0<s)
include hs
theorem gen_DD {S:List (List Nat)}{st:Nat}{c:Int}(hST:∀x∈S,DD s x)(hg:Nat.gcd st s=1)(hr:Grp s (λz=>z∈S) (dh s (st:Int) 1))(hm:Grp s (λz=>z∈S) (dh s c (-1)))(x:List Nat):Grp s (λz=>z∈S) x↔DD s x:=by
 have hT:∀z∈S,IsT s z:=λz hz=>DD.isT hs (hST z hz)
 constructor
 ·intro hx
  have two:∀{a b:List Nat},DD s a->DD s b->DD s (beh a b):=λ{a b} ⟨c,e,he,h1⟩ ⟨c',e',he',h2⟩=>⟨c'+e'*c,e'*e,by rcases he with rfl|rfl <;> rcases he' with rfl|rfl <;> first|exact .inl rfl|exact .inr rfl,by rw[h1,h2];exact dh_beh hs c e c' e'⟩
  refine Grp.keeps (P:=DD s) ⟨0,1,.inl rfl,(O5 hs).symm⟩ (λa z ha hz=>two ha (hST z hz)) (λa z ha hz=>two ha ?_) hx
  obtain⟨c,e,he,rfl⟩:=hST z hz
  exact⟨_,e,he,zl7 hs c he⟩
 ·rintro⟨d,e,he,rfl⟩
  obtain⟨j,hj⟩:=yr3 hs hg
  have rot:∀d:Int,Grp s (λz=>z∈S) (dh s d 1):=λd=>by
   have h1:RR s (st:Int) (dh s ((st:Int)*((j:Int)*d)) 1):=⟨_,rfl⟩
   have h2:=(o8 hs _ _).mpr h1
   have h3:Grp s (λz=>z∈S) (dh s ((st:Int)*((j:Int)*d)) 1):=Grp.mono hT (λz hz=>by rw[ae.mp hz];exact hr) h2
   rw[zw7 hs (d:=d) ?_ 1]at h3
   ·exact h3
   ·rw[←Int.mul_assoc,Int.mul_emod,hj,←Int.mul_emod,bO]
  rcases he with rfl|rfl
  ·exact rot d
  ·have:=Grp.beh hT hm (rot (d-c))
   rw[dh_beh hs,show d-c+1*c=d by lia,bO]at this
   exact this
theorem yr0 {T U:List (List Nat)}(hT:∀x∈T,IsT s x)(h:∀x,Grp s (λz=>z∈T) x↔Grp s (λz=>z∈U) x):gM s T=gM s U:=by
 obtain⟨L,h1,h2⟩:=E3 hT
 rw[gM_eq h1 h2,gM_eq h1 λx=>(h2 x).trans (h x)]
theorem D2 (m:Int):∀x∈[dh s m 1],IsT s x:=λx hx=>by rw[ae.mp hx];exact dh_isT hs _ (.inl rfl)
theorem gM_still:gM s [dh s 0 1]=1:=by
 rw[gM_eq (L:=[List.range s]) (by simp) λx=>?_]
 ·rfl
 ·rw[ae,o8 hs]
  constructor
  ·intro e
   exact⟨0,by rw[e,Int.zero_mul,O5 hs]⟩
  ·rintro⟨j,rfl⟩
   rw[Int.zero_mul,O5 hs]
theorem gM_even:gM s [dh s 2 1]=s / Nat.gcd s 2:=by
 rcases Nat.mod_two_eq_zero_or_one s with h|h
 ·have e:s=2*(s / 2):=by lia
  rw[show Nat.gcd s 2=2 by rw[be,Nat.gcd_rec,h];rfl]
  exact yk4 hs e λx=>o8 hs _ x
 ·rw[show Nat.gcd s 2=1 by rw[be,Nat.gcd_rec,h];rfl,Nat.div_one]
  exact yk4 hs (m:=1) (q:=s) (by lia) λx=>(o8 hs _ x).trans (zn6 hs (m:=1) (q:=s) (c':=1) (by lia) h x)
theorem stairs_dn (h3:3<=s){S:List (List Nat)}(hST:∀x∈S,IsT s x)(hS:∀x,Grp s (λz=>z∈S) x↔DD s x):Dn s (nxS s) S [S,[dh s 2 1],[dh s 0 1]] [dh s 0 1]/\nxS s [dh s 0 1] [dh s 0 1]:=by
 have n1:nxS s S [dh s 2 1]:=⟨D2 hs _,λx=>(o8 hs _ x).trans (ym3 hs hST hS x).symm⟩
 have n2:nxS s [dh s 2 1] [dh s 0 1]:=⟨D2 hs _,λx=>(o8 hs _ x).trans (yb8 hs (D2 hs _) (o8 hs 2) x).symm⟩
 have n3:nxS s [dh s 0 1] [dh s 0 1]:=⟨D2 hs _,λx=>(o8 hs _ x).trans (yb8 hs (D2 hs _) (o8 hs 0) x).symm⟩
 have g1:=gM_DD hs h3 hS
 have g2:=gM_even hs
 have g3:=gM_still hs
 have hd:s / Nat.gcd s 2<=s:=Nat.div_le_self _ _
 have hd2:1<s / Nat.gcd s 2:=by
  rcases Nat.mod_two_eq_zero_or_one s with h|h
  ·rw[show Nat.gcd s 2=2 by rw[be,Nat.gcd_rec,h];rfl]
   lia
  ·rw[show Nat.gcd s 2=1 by rw[be,Nat.gcd_rec,h];rfl,Nat.div_one]
   lia
 exact⟨.more (.more .one n1 (by lia)) n2 (by lia),n3⟩
structure Pw (s v q:Nat):Prop where
 e:s=2 ^ v*q
 o:q % 2=1
def slp (s:Nat)(i:Nat):List (List Nat):=[dh s ((2 ^ (i+1):Nat):Int) 1]
theorem gM_slp {v q i:Nat}(hv:Pw s v q)(hi:i<v):gM s (slp s i)=s / 2 ^ (i+1):=by
 have e:s=2 ^ (i+1)*(2 ^ (v-(i+1))*q):=by rw[←cJ,←Nat.pow_add,show i+1+(v-(i+1))=v by lia];exact hv.e
 have:=yk4 hs e λx=>o8 hs (((2 ^ (i+1):Nat)):Int) x
 have e2:s / 2 ^ (i+1)=2 ^ (v-(i+1))*q:=by
  conv=>lhs;rw[e]
  exact Nat.mul_div_cancel_left _ (Nat.two_pow_pos _)
 rw[e2]
 exact this
theorem ym7 {S:List (List Nat)}(hST:∀x∈S,IsT s x)(hS:∀x,Grp s (λz=>z∈S) x↔DD s x)(i:Nat):nxD s S (slp s i) (slp s (i+1)):=by
 refine⟨D2 hs _,λx=>(o8 hs _ x).trans ?_⟩
 have e:((2 ^ (i+1+1):Nat):Int)=2*((2 ^ (i+1):Nat):Int):=by rw[bS 2 (i+1),br];lia
 rw[e]
 exact(ym2 hs hST (D2 hs _) hS (o8 hs _) x).symm
theorem slopes_dn (h3:3<=s){v q:Nat}(hv:Pw s v q){S:List (List Nat)}(hST:∀x∈S,IsT s x)(hS:∀x,Grp s (λz=>z∈S) x↔DD s x):Dn s (nxD s S) S (S::(List.range (max 1 v)).map (slp s)) (slp s (max 1 v-1))/\nxD s S (slp s (max 1 v-1)) (slp s (max 1 v-1+1))/\gM s (slp s (max 1 v-1))<=gM s (slp s (max 1 v-1+1)):=by
 have n1:nxD s S S (slp s 0):=⟨D2 hs _,λx=>(o8 hs _ x).trans (ym3 hs hST hS x).symm⟩
 have g1:=gM_DD hs h3 hS
 have g0:gM s (slp s 0)<=s:=by
  show gM s [dh s 2 1]<=s
  rw[gM_even hs]
  exact Nat.div_le_self _ _
 have build:∀r,1<=r->r<=max 1 v->Dn s (nxD s S) S (S::(List.range r).map (slp s)) (slp s (r-1)):=by
  intro r
  induction r with
  | zero=>intro h;exact absurd h (by decide)
  | succ r ih =>
   intro _ hr
   rcases eC r with e|e
   ·subst e
    exact .more .one n1 (by lia)
   ·have d:=ih e (by lia)
    have hrv:r<v:=by lia
    have e1:r-1+1=r:=by lia
    have step:=ym7 hs hST hS (r-1)
    rw[e1]at step
    rw[du,aF,←List.cons_append]
    refine .more d step ?_
    rw[gM_slp hs hv hrv,gM_slp hs hv (by lia),e1]
    have e2:s=2 ^ (r+1)*(2 ^ (v-(r+1))*q):=by rw[←cJ,←Nat.pow_add,show r+1+(v-(r+1))=v by lia];exact hv.e
    have p:=Nat.two_pow_pos r
    have hle:0<s / 2 ^ (r+1):=Nat.div_pos (eM hs ⟨_,e2⟩) (Nat.two_pow_pos _)
    have h2:s / 2 ^ r / 2=s / 2 ^ (r+1):=by rw[Nat.div_div_eq_div_mul,←bS]
    lia
 refine⟨build _ (by lia) (aq _),ym7 hs hST hS _,?_⟩
 refine df (yr0 hs (D2 hs _) λx=>(o8 hs _ x).trans (Iff.trans ?_ (o8 hs _ x).symm))
 have e:((2 ^ (max 1 v-1+1+1):Nat):Int)=2*(((2 ^ v:Nat):Int)*((2 ^ (max 1 v-v):Nat):Int)):=by
  rw[←br,←Nat.pow_add,show v+(max 1 v-v)=max 1 v by lia,show max 1 v-1+1+1=max 1 v+1 by lia,bS,br]
  lia
 have e2:((2 ^ (max 1 v-1+1):Nat):Int)=((2 ^ v:Nat):Int)*((2 ^ (max 1 v-v):Nat):Int):=by rw[←br,←Nat.pow_add,show v+(max 1 v-v)=max 1 v by lia,show max 1 v-1+1=max 1 v by lia]
 rw[e,e2]
 exact(zn6 hs hv.e hv.o x).symm
theorem slp_has {v q i:Nat}(hv:Pw s v q)(hi:i<max 1 v)(c:Int):Grp s (λz=>z∈slp s i) (dh s c 1)↔c % ((if v=0 then 1 else 2 ^ (i+1):Nat):Int)=0:=by
 refine(o8 hs _ _).trans ?_
 by_cases h:v=0
 ·subst h
  obtain rfl:i=0:=by lia
  rw[if_pos rfl]
  have o:s % 2=1:=by rw[hv.e,Nat.pow_zero,cx];exact hv.o
  refine(zn6 hs (m:=1) (q:=s) (c':=1) (by lia) o _).trans ?_
  exact zn5 hs (m:=1) (q:=s) (by lia)
 ·rw[if_neg h]
  have e:s=2 ^ (i+1)*(2 ^ (v-(i+1))*q):=by rw[←cJ,←Nat.pow_add,show i+1+(v-(i+1))=v by lia];exact hv.e
  exact zn5 hs e
theorem even_has (c:Int):Grp s (λz=>z∈[dh s 2 1]) (dh s c 1)↔c % ((Nat.gcd s 2:Nat):Int)=0:=by
 refine(o8 hs _ _).trans ?_
 rcases Nat.mod_two_eq_zero_or_one s with h|h
 ·rw[show Nat.gcd s 2=2 by rw[be,Nat.gcd_rec,h];rfl]
  exact zn5 hs (m:=2) (q:=s / 2) (by lia)
 ·rw[show Nat.gcd s 2=1 by rw[be,Nat.gcd_rec,h];rfl]
  refine(zn6 hs (m:=1) (q:=s) (c':=1) (by lia) h _).trans ?_
  exact zn5 hs (m:=1) (q:=s) (by lia)
theorem rot_no (h3:3<=s){m c:Int}:¬Grp s (λz=>z∈[dh s m 1]) (dh s c (-1)):=λh=>xa4 hs h3 ((o8 hs _ _).mp h)
end
end TM
namespace Tb
open PySem PySem.StrLaws PySem.Builtin PySem.Builtin.Str
end Tb
namespace Tb
open PySem
def sC:Str:=","
def sE:Str:=")"
def grow (a:Str)(ys:List Str):Str:=ys.foldl (λa y=>a++sC++y) a
end Tb
namespace Tb
open PySem PySem.StrLaws PySem.Builtin PySem.Builtin.Str
end Tb
namespace Tb
open PySem PySem.StrLaws PySem.Builtin PySem.Builtin.Str
end Tb
namespace Tb
open PySem PySem.StrLaws PySem.Builtin PySem.Builtin.Str
end Tb
namespace Tb
open PySem L2
def tI (t:List Nat):List V:=t.map λ(x:Nat)=>V.int x
theorem v0 (t:List Nat):(tI t).length=t.length:=aa _
theorem zz5 (t:List Nat)(i:Nat):(tI t)[i]?=(t[i]?).map λ(x:Nat)=>V.int x:=ag ..
theorem K0 {t:List Nat}{i:Nat}{x:V}(h:(tI t)[i]?=some x):∃p,t[i]?=some p/\x=V.int p:=by
 rw[zz5]at h
 cases q:t[i]? with
 | none=>rw[q]at h;cases h
 | some p=>rw[q]at h;exact⟨p,rfl,(Option.some.inj h).symm⟩
theorem zv6 {t:List Nat}{i p:Nat}(h:t[i]?=some p):(tI t)[i]?=some (V.int p):=by rw[zz5,h];rfl
theorem zb4 {t:List Nat}{i p:Nat}(h:t[i]?=some p):atI (tI t) ((i:Nat):Int)=some (V.int p):=m7 (zv6 h)
theorem R1 (s t:List Nat):tI (s++t)=tI s++tI t:=aF
theorem zv5:∀(t:List Nat) (i:Nat),(tI t).eraseIdx i=tI (t.eraseIdx i)
 | [],_=>rfl
 | _::_,0=>rfl
 | a::r,i+1=>by
  have ih:=zv5 r i
  show V.int a::(tI r).eraseIdx i=V.int a::tI (r.eraseIdx i)
  rw[ih]
theorem zr4:∀(t:List Nat) (i x:Nat),(tI t).set i (V.int x)=tI (t.set i x)
 | [],_,_=>rfl
 | _::_,0,_=>rfl
 | a::r,i+1,x=>by
  have ih:=zr4 r i x
  show V.int a::(tI r).set i (V.int x)=V.int a::tI (r.set i x)
  rw[ih]
theorem C0 (n:Nat):Z8 0 n=tI (List.range n):=by
 unfold Z8 tI
 apply bA
 intro x _
 rw[eP]
theorem small {n:Nat}(h:n<=1000):n<=eU:=bx (zm7 h)
theorem zc6 {n i:Nat}(h:i<n):ixN n ((i:Nat):Int)=some i:=by
 unfold ixN
 rw[if_pos (Int.natCast_nonneg i),if_pos (by lia)]
 rfl
theorem yt6 {n i:Nat}(h:i<n):seqIndex? ((i:Nat):Int) n=some i:=(zo2 (zc6 h)).1
theorem y3 {H:Hp}{p:Addr}(h:H p=none)(o:HO):y2 H (upd H p o):=λb u q=>by rw[z5 (y0 q h)];exact q
theorem o7 {H H':Hp}{p:Addr}(s:y2 H H')(h:H p=none)(o:HO):y2 H (upd H' p o):=λb u q=>by rw[z5 (y0 q h)];exact s b u q
def i3 (T U:String):Option Bool:=if (Value.type T==Value.type U)=true then some true else if W.kitMeta U=true then(PySem.fastBuiltinMro T).map (·.contains (Value.type U)) else none
theorem O7 {K:W.Frag}{T U:String}{b:Bool}(h:i3 T U=some b):W.kitOne K (.type T) (.type U)=some b:=h
theorem zo5:i3 "bool" "bool"=some true:=by decide +kernel
theorem R9:i3 "list" "list"=some true:=by decide +kernel
theorem p0 {i j:Int}:decide (V.int i=V.int j)=decide (i=j):=decide_eq_decide.mpr ⟨λz=>by injection z,λz=>by rw[z]⟩
structure Blt (mg:Str->Option Value):Prop where
 len:mg "len"=none
 range:mg "range"=none
 list:mg "list"=none
 tuple:mg "tuple"=none
 isinstance:mg "isinstance"=none
 int:mg "int"=none
 bool:mg "bool"=none
 str:mg "str"=none
 enumerate:mg "enumerate"=none
 sorted:mg "sorted"=none
 sum:mg "sum"=none
 all:mg "all"=none
 set:mg "set"=none
 reversed:mg "reversed"=none
 divmod:mg "divmod"=none
 max:mg "max"=none
 min:mg "min"=none
theorem Y8:fh "len"=some (.builtin "len"):=by decide +kernel
theorem F7:fh "range"=some (.type "range"):=by decide +kernel
theorem X5:fh "list"=some (.type "list"):=by decide +kernel
theorem Z5:fh "tuple"=some (.type "tuple"):=by decide +kernel
theorem n4:fh "isinstance"=some (.builtin "isinstance"):=by decide +kernel
theorem yv7:fh "int"=some (.type "int"):=by decide +kernel
theorem ya4:fh "bool"=some (.type "bool"):=by decide +kernel
theorem ye7:fh "sorted"=some (.builtin "sorted"):=by decide +kernel
theorem zw4:fh "all"=some (.builtin "all"):=by decide +kernel
theorem ye6:fh "divmod"=some (.builtin "divmod"):=by decide +kernel
theorem yv8:fh "min"=some (.builtin "min"):=by decide +kernel
def zj1 (mg:Str->Option Value)(x:Str)(v:V):Prop:=∃u,mg x=some u/\u0 v u
theorem zb0 {X:Cx}{x:Str}{v:V}{pos:Pos}(g:zj1 X.mg x v)(hg:Gl X x)(hd:(x==("__debug__":Str))=false:=by decide):PE X (.Name x pos) (tC v):=by
 obtain⟨u,hm,r⟩:=g
 exact ys5 hg hm r hd
def Known (P:eV)(w:eZ)(K:W.Frag)(mg:Str->Option Value)(base:Heap)(k:Nat)(x:Str)(ps:List Str)(sp:Sp):Prop :=
 ∃f fd,v1 P w K mg base CX0 k f fd ps sp/\W.keepIn K (.ref f)=true/\mg x=some (.ref f)/\Y6 K fd ps []
structure Def (K:W.Frag) (mg:Str->Option Value) (x:Str) (st:Stmt) (ps:List Str) (f:Addr) (fd:fk):Prop where
 F:Fun K x x st f fd
 b:Y6 K fd ps []
 m:mg x=some (.ref f)
theorem Def.known {P:eV}{w:eZ}{K:W.Frag}{mg:Str->Option Value}{base:Heap}{x:Str}{st:Stmt}{ps:List Str}{f:Addr}{fd:fk}{k:Nat}{sp:Sp}(D:Def K mg x st ps f fd)(G:v1 P w K mg base CX0 k f fd ps sp):Known P w K mg base k x ps sp :=
 ⟨f,fd,G,D.F.kp,D.m,D.b⟩
section
variable {X:Cx}{x:Str}{p pos:Pos}{e:Expr}{es:List Expr}{t:TA}{ps:List Str}{sp:Sp}{k j:Nat}
theorem u4 (kn:Known X.prog X.w X.K X.mg X.base k x ps sp)(hr:c4 j X.A)(hg:Gl X x)(ha:PA X (e::es) t)(hj:k<=j:=by decide)(hdb:(x==("__debug__":Str))=false:=by decide)
  (he:eX (e::es) X.env=(false,eval e X.env)::eX es X.env:=by rfl) (hpl:(backTo pos (eX es X.env)).any (·.1)=false:=by rfl):PE X (.Call (.Name x p) (e::es) [] pos) (yp7 sp [] E0 t):=by
 obtain⟨f,fd,G,hk,hm,hb⟩:=kn
 exact yc4 G (hr.mono hj) hg hm hk hb .nil zu2 ha hdb he hpl
end
theorem D0 {t1 u:TS}{D:zn3}{σ:St}{H:Hp}(Pv:St->Hp->Prop)(hu:∀σ H,Pv σ H->u D σ H)(h:∀N:St->Hp->Prop,(∀σ H,Pv σ H->N σ H)->t1 { D with nx:=N } σ H):yz8 t1 u D σ H :=
 h (λσ H=>u D σ H) hu
theorem D9 (t:List Nat):tI t=(t.map λ(x:Nat)=>(x:Int)).map V.int:=by
 unfold tI
 rw[ca]
 rfl
def lnV:TM.Ln->List V
 | .still=>[.str "still"]
 | .told k=>[.str "told",.int k]
 | .behind i j=>[.str "behind",.int i,.int j]
 | .back i=>[.str "back",.int i]
def zd7 (H:Hp)(as:List Addr)(ls:List TM.Ln):Prop:=Paired (λa l=>H a=some (.tup (lnV l))) as ls
def h8 (H:Hp)(as:List Addr)(ts:List (List Nat)):Prop:=Paired (λa t=>H a=some (.tup (tI t))) as ts
theorem zd7.same {H H':Hp}{as:List Addr}{ls:List TM.Ln}(h:zd7 H as ls)(s:y2 H H'):zd7 H' as ls:=Paired.imp' (λ_ _ e=>s _ _ e) h
theorem h8.same {H H':Hp}{as:List Addr}{ls:List (List Nat)}(h:h8 H as ls)(s:y2 H H'):h8 H' as ls:=Paired.imp' (λ_ _ e=>s _ _ e) h
theorem i4 {α β:Type}{F:α->β->Prop}:∀{as:List α} {bs:List β},Paired F as bs->∀(i:Nat) (b:β),bs[i]?=some b->∃a,as[i]?=some a/\F a b
 | _,_,.nil,i,b,h=>by cases i <;> cases h
 | _,_,.cons f _,0,b,h=>by
  cases h
  exact⟨_,rfl,f⟩
 | _,_,.cons _ r,i+1,b,h=>by
  obtain⟨a,ha,f⟩:=i4 r i b (by simpa using h)
  exact⟨a,by simpa using ha,f⟩
theorem q9 {α β:Type}{F:α->β->Prop}:∀{as:List α} {bs:List β},Paired F as bs->∀(i:Nat) (a:α),as[i]?=some a->∃b,bs[i]?=some b/\F a b
 | _,_,.nil,i,a,h=>by cases i <;> cases h
 | _,_,.cons f _,0,a,h=>by
  cases h
  exact⟨_,rfl,f⟩
 | _,_,.cons _ r,i+1,a,h=>by
  obtain⟨b,hb,f⟩:=q9 r i a (by simpa using h)
  exact⟨b,by simpa using hb,f⟩
theorem S8 {as:List Addr}{i:Nat}{y:V}(h:(as.map V.ref)[i]?=some y):∃b,as[i]?=some b/\y=V.ref b:=by
 rw[ag]at h
 cases e:as[i]? with
 | none=>rw[e]at h;cases h
 | some b=>rw[e]at h;exact⟨b,rfl,(Option.some.inj h).symm⟩
theorem yo2 {as:List Addr}{i:Nat}{b:Addr}(h:as[i]?=some b):(as.map V.ref)[i]?=some (V.ref b):=by rw[ag,h];rfl
theorem yz0 {as:List Addr}{i:Nat}{b:Addr}(h:as[i]?=some b):atI (as.map V.ref) ((i:Nat):Int)=some (V.ref b):=m7 (yo2 h)
theorem xd9 (xs:List V)(x:V):zb5 (x::xs) (some 1) none=xs:=by
 unfold zb5
 have e:HT.sIx (x::xs).length 0 (some (1:Int))=1:=by
  show(if (1:Int)<0 then((1:Int)+((x::xs).length:Int)).toNat else min (1:Int).toNat (x::xs).length)=1
  rw[if_neg (by decide)]
  show min 1 (xs.length+1)=1
  lia
 rw[e,HT.sIx_none,List.drop_one,List.tail_cons,bL (by simp)]
end Tb
namespace L2
open PySem PySem.Spec PyProof.Rows
open PySem.W (CodeHd tabObj kla_obj kla_fn envX)
def Bm (mg:Str->Option Value)(h:Heap):Prop:=∃bm ob,mg "__builtins__"=some (.ref bm)/\bm≠builtinsNs/\h.get? bm=some ob/\ob.cls=.type "module"/\ob.dict=some builtinsNs/\ob.data=.plain
def T9 (c:Addr)(q:Str):HO:=.ext λh=>h.CodeRec (.ref c) q
theorem T9.ok {P:eV}{w:eZ}{H:Hp}{h:Heap}{c:Addr}{q:Str}(x:h.CodeRec (.ref c) q):p9 P w H h c (T9 c q):=by
 refine⟨x,?_,λh1 h2 y k=>?_⟩
 ·obtain⟨c',o,vs,t,e,g,_⟩:=x
  cases e
  exact⟨o,g⟩
 ·obtain⟨c',o,vs,t,e,g,r⟩:=y
  cases e
  exact⟨c,o,vs,t,rfl,k o g,r⟩
def TbO (pos:Pos)(qual:Str)(H:Hp)(P:Addr):Prop:=H P=some (.tbl #[])∨∃c',H P=some (.tbl #[rawInt pos.line,rawInt pos.col,.ref c'])/\H c'=some (T9 c' qual)
section
variable {X:Cx}{pins:List (Addr×Obj)}{σ:St}{H:Hp}{s:eS}{c P:Addr}{pos:Pos}{params:Arguments}{body:Expr}{scope:Scope}{clos:List (Str×Addr)}{qual:Str}{E:Value->eS->Prop}{Q:Value->eS->Prop}
theorem yl2 (I:Inv X pins σ H s)(C:CodeHd X.base c P)(hcd:X.env.code=.ref c)(hB:Bm X.mg X.base)(hT:TbO pos qual H P)(hcl:closureFor scope X.env=pure clos)(hq:X.env.qual++"<lambda>"=qual)(hdef:defaultsOf params X.env=([],[]))
  (h:∀(f c':Addr) (pm ctv:Value) (s':eS) (H':Hp),Inv X pins σ H' s'->s.heap.objs.size<=f->H' f=none->s'.heap.get? f=some (kla_obj "<lambda>" qual params body scope clos pm c' ctv)->(∀b o,b≠P->H b=some o->H' b=some o)->H' c'=some (T9 c' qual)->TbO pos qual H' P->Q (.ref f) s') :
  eW (eY X.prog X.w) X.A (eval (.Lambda params body scope pos) X.env) Q E s:=by
 subst hq
 refine W.kla_eval hdef ?_
 have hg:s.heap.Ns mainGlobals X.mg:=I.ok.mod.glob.keeps I.bk
 have CS:CodeHd s.heap c P:=C.keeps I.bk
 have baseNe:∀{b:Addr} {o:Obj},X.base.get? b=some o->H P≠none->b≠P:=λe n z=>n (by rw[←z];exact(I.bs _ _ e).2)
 have hBA:H P≠none->s.heap.BuiltinsAt X.mg P:=λn=>by
  obtain⟨bm,ob,b1,b2,b3,b4,b5,b6⟩:=hB
  refine⟨bm,ob,b1,b2,λz=>?_,baseNe b3 n,I.bk _ _ b3,b4,b5,b6⟩
  obtain⟨o,es,ep,e,hd,_⟩:=I.ok.mod.glob
  rw[z,e]at b3;cases b3;rw[hd]at b6;cases b6
 rcases hT with hT|⟨c',hT,hc⟩
 ·have nP:H P≠none:=by rw[hT];nofun
  have hP:s.heap.get? P=some (tabObj #[]):=I.hok P _ hT
  have hgP:mainGlobals≠P:=by
   obtain⟨o,es,ep,e,hd,_⟩:=I.ok.mod.glob
   exact baseNe e nP
  refine W.kla_makeFunction hcl I.ok.glob hg hcd CS hP trivial rfl hgP (hBA nP) λc' ctv h' tk hx hge hlt hrec htb=>?_
  have hcP:c'≠P:=λz=>absurd (ay hP) (by rw[←z];exact cX.mpr hge)
  have kp:∀b o,b≠P->s.heap.get? b=some o->(h'.push (kla_obj "<lambda>" (X.env.qual++"<lambda>") params body scope clos ((X.mg "__name__").getD .none) c' ctv)).get? b=some o:=λb o n e=>ar _ (hx b o n e)
  have nc:∀b u,H b=some u->b≠c':=λb u e z=>by rw[z,I.hok.fresh hge]at e;cases e
  have gP:=ar (kla_obj "<lambda>" (X.env.qual++"<lambda>") params body scope clos ((X.mg "__name__").getD .none) c' ctv) htb
  have keepH:∀b o,b≠P->H b=some o->upd (upd H c' (T9 c' (X.env.qual++"<lambda>"))) P (.tbl #[rawInt pos.line,rawInt pos.col,.ref c']) b=some o:=λb o n e=>by rw[z5 n,z5 (nc b o e)];exact e
  have neT:∀{b:Addr} {u:HO},H b=some u->u≠.tbl #[]->b≠P:=λe n z=>by rw[z,hT]at e;cases e;exact n rfl
  have hsz:s.heap.objs.size<=h'.objs.size:=aX hge (bx hlt)
  refine h h'.objs.size c' ((X.mg "__name__").getD .none) ctv _ (upd (upd H c' (T9 c' (X.env.qual++"<lambda>"))) P (.tbl #[rawInt pos.line,rawInt pos.col,.ref c'])) (I.un (t':=tk) ⟨λb o e n _ _=>kp b o (λz=>nP (by rw[←z];exact n)) e,λb o e n _ _=>⟨o.slots,kp b o (λz=>nP (by rw[←z];exact n)) e⟩,λb o e n _=>?_,λb o e _=>?_,λb xs e=>keepH b _ (neT e nofun) e,λb o u e=>keepH b _ (neT e nofun) e,λb ps e=>?_⟩ λb u e=>?_) hsz ?_ (aC _ rfl) keepH ?_ (.inr ⟨c',z3,?_⟩)
  ·rw[z5 (λz=>nP (by rw[←z];exact n)),z5 (λz=>absurd (ay e) (by rw[z];exact cX.mpr hge))];exact n
  ·by_cases z:b=P
   ·rw[z];exact⟨_,gP⟩
   ·exact⟨o,kp b o z e⟩
  ·by_cases z:b=P
   ·rw[z,hT]at e;cases e
    rw[z,z3];exact⟨_,by rw[Array.empty_append]⟩
   ·exact⟨#[],by rw[keepH b _ z e];simp⟩
  ·by_cases z:b=P
   ·rw[z,z3]at e;cases e
    rw[z]
    exact gP.trans (by simp)
   ·rw[z5 z]at e
    by_cases z2:b=c'
    ·rw[z2,z3]at e;cases e
     rw[z2]
     exact T9.ok (hrec.push _)
    ·rw[z5 z2]at e
     refine(I.hok b u e).stay (λd v hd q=>kp d v ?_ q) (λd q=>keepH d _ (neT q nofun) q) λd xs q=>keepH d _ (neT q nofun) q
     rcases hd with rfl|hd
     ·exact z
     ·exact neT hd nofun
  ·rw[z5 (Ne.symm (aS (aO (ay hP) hsz))),z5 (Ne.symm (aS hlt))]
   exact I.hok.fresh hsz
  ·rw[z5 hcP,z3]
  ·rw[z5 hcP,z3]
 ·have nP:H P≠none:=by rw[hT];nofun
  have hP:s.heap.get? P=some (tabObj #[rawInt pos.line,rawInt pos.col,.ref c']):=I.hok P _ hT
  refine W.kla_makeFunctionHit (cv:=.ref c') hcl I.ok.glob hg hcd CS hP trivial (codeAmong_snoc [] trivial rfl) (hBA nP) λctv h' tk hk hsz=>?_
  exact h h'.objs.size c' ((X.mg "__name__").getD .none) ctv _ H (I.kept (t':=tk) λb u e=>ar _ (hk b u e)) hsz (I.hok.fresh hsz) (aC _ rfl) (λ_ _ _ e=>e) hc (.inr ⟨c',hT,hc⟩)
end
theorem Mod.keeps {K:W.Frag}{mg:Str->Option Value}{base base':Heap}(M:Mod K mg base)(k:∀b o,base.get? b=some o->base'.get? b=some o):Mod K mg base' :=
 ⟨M.kin.keeps k,M.glob.keeps k,let ⟨mb,a,b⟩:=M.blt;⟨mb,a.keeps k,b⟩,M.nolimit.keeps k⟩
def rb (h:Heap)(H:Hp)(fr:List Addr):Heap:=W.hideAll (zb6 h H) fr
section
variable {h:Heap}{H:Hp}{fr:List Addr}{b:Addr}{o:Obj}
theorem zy3 (e:h.get? b=some o)(n:H b=none)(hf:b∉fr):(rb h H fr).get? b=some o:=W.hideAll_get _ (zf4 e n) hf
theorem xb5 (e:(rb h H fr).get? b=some o):h.get? b=some o/\H b=none:=yc1 (W.of_hideAll _ e)
theorem yb2 {base base':Heap}:∀{l:List Env},h.FunFrames base l->(∀b∈frs l,base'.get? b=none)->h.FunFrames base' l
 | [],_,_=>trivial
 | env::r,⟨hk,⟨L,o,hf,_,ho,hd⟩,hr⟩,hn=>by
  have e:frs (env::r)=L::frs r:=by unfold frs;rw[cD,hf]
  refine⟨hk,⟨L,o,hf,hn L (by rw[e];exact ax),ho,hd⟩,yb2 hr λb hb=>hn b (by rw[e];exact av _ hb)⟩
end
section
variable {X:Cx}{pins:List (Addr×Obj)}{σ:St}{H:Hp}{s:eS}
theorem Inv.rbK (I:Inv X pins σ H s):∀b o,X.base.get? b=some o->(rb s.heap H (frs X.stack)).get? b=some o:=λb o e =>
 zy3 (I.bs b o e).1 (I.bs b o e).2 λhb=>by
  have:=(I.stack.mem hb).1
  rw[e]at this;cases this
theorem Inv.env0B (I:Inv X pins σ H s):zr7 X.prog X.w X.K X.mg (rb s.heap H (frs X.stack)) X.A X.stack s H :=
 ⟨I.ok.frames,I.ok.mod.keeps I.rbK,λ_ _ e=>xb5 e,df ((W.hideAll_size _ _).trans (zm1 _ _)),yb2 I.stack λ_ hb=>W.hideAll_none _ hb,I.stkFree,I.hok,I.bare⟩
end
def yj5 (P:eV)(w:eZ)(K:W.Frag)(mg:Str->Option Value)(base:Heap)(N:List Str)(qual:Str)(scope:Scope)(f:Addr)(cd:Value)(cl:List (Str×Addr))(A:fc)(outer:List Env)(s:eS)(H:Hp):Cx where
 prog:=P
 w:=w
 K:=K
 mg:=mg
 base:=base
 A:=A.deeper (envX qual scope s.heap.objs.size f cd cl)
 N:=N
 s₀:=s
 H₀:=H
 env:=envX qual scope s.heap.objs.size f cd cl
 outer:=outer
 stack:=envX qual scope s.heap.objs.size f cd cl::outer
 ex:=[]
 calm:=true
 fn:=λ_=>false
 pn:=[]
 xe:=λ_ _=>False
structure yi5 (N ps:List Str) (vf:List V) (sc:Scope) (cl:List (Str×Addr)) (base:Heap):Prop where
 kind:sc.kind=.function
 co:sc.isCoroutine=false
 gen:sc.isGenerator=false
 nd:N.Nodup
 len:N.length=ps.length+vf.length
 pre:N.take ps.length=ps
 par:∀x∈ps,sc.names.lookup x=some .local
 nocell:∀x∈sc.names,x.2≠.cell
 inj:∀x y c,cl.lookup x=some c->cl.lookup y=some c->x=y
 has:∀x,sc.names.lookup x=some .free->∃c,cl.lookup x=some c
 cel:∀x c,cl.lookup x=some c->∃v,base.IsCell c v
 fre:∀(i:Nat) (x:Str) (v:V),N[ps.length+i]?=some x->vf[i]?=some v->sc.names.lookup x=some .free/\∃c u,cl.lookup x=some c/\base.IsCell c (some u)/\u0 v u
theorem C2 {x:Str}{u:Value}:∀{ps:List Str} {us:List Value} {i:Nat},ps.Nodup->ps[i]?=some x->us[i]?=some u->(ps.zip us).reverse.lookup x=some u
 | [],_,_,_,h,_=>by simp at h
 | _::_,[],_,_,_,h=>by simp at h
 | p::ps,v::us,i,nd,h1,h2=>by
  rw[List.zip_cons_cons,List.reverse_cons,List.lookup_append]
  cases i with
  | zero =>
   simp at h1 h2;subst h1;subst h2
   have e:(ps.zip us).reverse.lookup p=none:=by
    rw[List.lookup_eq_none_iff]
    intro q hq
    have hm:=(cz (List.mem_reverse.mp hq)).1
    exact bne_iff_ne.mpr λz=>(aK.mp nd).1 (by rw[z];exact hm)
   rw[e]
   simp
  | succ i =>
   rw[C2 (i:=i) (aK.mp nd).2 (by simpa using h1) (by simpa using h2)]
   rfl
theorem yk2 {P:eV}{w:eZ}{K:W.Frag}{mg:Str->Option Value}{base:Heap}{k:Nat}{f c':Addr}{qual:Str}{params:Arguments}{body:Expr}{scope:Scope}{cl:List (Str×Addr)}{pm ctv:Value}{N ps:List Str}{vf:List V}{sp:Sp}
  (hf:base.get? f=some (kla_obj "<lambda>" qual params body scope cl pm c' ctv)) (S:yi5 N ps vf scope cl base) (len:∀vs H Q E,sp vs H Q E->vs.length=ps.length) (hc:∀vs H Q E,sp vs H Q E->H c'=some (T9 c' qual))
  (hbody:∀(A:fc) (outer:List Env) (s:eS) (H:Hp) (vs:List V) (Q:VK) (E:XK),c4 k (A.deeper (envX qual scope s.heap.objs.size f (.ref c') cl))->sp vs H Q E ->
   ∃t,PE (yj5 P w K mg base N qual scope f (.ref c') cl A outer s H) body t/\t ((vs++vf).map some) H Q) :
  v1 P w K mg base CX0 (k+1) f (kla_fn "<lambda>" qual params body scope cl pm (.ref c') ctv) ps sp:=by
 refine⟨len,λA outer s H args us vs Q E hr e0 hb r hsp=>?_⟩
 have hl:=len _ _ _ _ hsp
 have bk:∀b o,base.get? b=some o->s.heap.get? b=some o:=λb o e=>(e0.bs b o e).1
 have lim:s.heap.NoLimit:=e0.mod.nolimit.keeps bk
 have hcd:s.heap.CodeRec (.ref c') qual:=(e0.hok c' _ (hc _ _ _ _ hsp)).1
 have ndP:ps.Nodup:=by rw[←S.pre];exact S.nd.sublist (cF _ _)
 refine W.kla_callFunE hr.depth (bk _ _ hf) rfl S.co S.gen rfl hcd (hb _ _ _ _ ?_)
 refine wpAny_newFunctionEnv S.nocell (λy hy=>S.par _ (cz hy).1) (λh₁ hns hsb=>⟨lim.fresh _ hsb,?_⟩) S.kind
 obtain⟨t,ht,hq⟩:=hbody A outer s H vs Q E (hr.deeper _) hsp
 have hk₁:∀b o,s.heap.get? b=some o->h₁.get? b=some o:=λb o e=>hsb.extBut b o (aS (ay e)) (ar _ e)
 have noA:∀b:Addr,b∉(yj5 P w K mg base N qual scope f (.ref c') cl A outer s H).ex:=λb z=>absurd (show b∈([]:List Addr) from z) (by simp)
 have I:Inv (yj5 P w K mg base N qual scope f (.ref c') cl A outer s H) [] ((vs++vf).map some) H { s with heap:=h₁,toks:=s.toks+(ps.zip us).length }:=by
  refine⟨⟨e0.mod,S.kind,rfl,rfl,aq _,S.inj,λy hy=>?_,λy c z _=>(by cases z),λ_=>hr.hd,Around.frames_deeper e0.frames,.inr ⟨rfl,rfl⟩,λb z=>absurd z (noA b),e0.bs,e0.bsz,λb _ _=>noA b,λb z=>absurd z (noA b),e0.funs,e0.frf⟩,
   rfl,e0.bare,Un.kept hk₁,⟨_,hns,λi y v h1 h2 h3=>?_⟩,λy c h=>?_,e0.hok.fresh (aq _),λy c h=>?_,λp hp=>absurd (show p∈([]:List (Addr×Obj)) from hp) (by simp),e0.hok.kept hk₁,?_⟩
  ·have hy:scope.names.lookup y=some .cell∨scope.names.lookup y=some .free:=hy
   rcases hy with hy|hy
   ·exact absurd rfl (S.nocell _ (PySem.mem_of_lookup hy))
   ·exact S.has y hy
  ·have h1:N[i]?=some y:=h1
   rw[ag]at h2
   by_cases hi:i<ps.length
   ·rw[aI (by rw[hl];exact hi)]at h2
    obtain⟨v',e1,e2⟩:=bY.mp h2
    cases e2
    obtain⟨u,hu,rv⟩:=r.get e1
    have hp:ps[i]?=some y:=by rw[←S.pre,bK hi];exact h1
    exact⟨u,rv,.inl ⟨S.par y (aw hp),C2 ndP hp hu⟩⟩
   ·obtain⟨j,rfl⟩:=Nat.exists_eq_add_of_le (bU hi)
    rw[aN (by rw[hl];exact eF _ _),hl,Nat.add_sub_cancel_left]at h2
    obtain⟨v',e1,e2⟩:=bY.mp h2
    cases e2
    obtain⟨hk,c,u,hc,⟨o,ho,hd⟩,rv⟩:=S.fre j y _ h1 e1
    exact⟨u,rv,.inr ⟨.inr hk,c,hc,o,hk₁ _ _ (bk _ _ ho),hd⟩⟩
  ·obtain⟨v,o,ho,hd⟩:=S.cel y c h
   exact⟨v,o,hk₁ _ _ (bk _ _ ho),hd⟩
  ·obtain⟨v,o,ho,hd⟩:=S.cel y c h
   exact(e0.bs _ _ ho).2
  ·show((vs++vf).map some).length=N.length
   rw[aa,af,hl,S.len]
 refine W.kla_codeExpr (fg (ht [] _ _ H Q I hq) (λu s' hs=>?_) λe s' hs=>hs.elim)
 obtain⟨v,H',J,rv,q⟩:=hs
 exact⟨v,H',J.os,J.bare,J.base,J.hok,rv,q⟩
section
variable {X:Cx}{x:Str}{p pos:Pos}{e:Expr}{es:List Expr}{t:TA}{i j:Nat}
structure FnV (P:eV) (w:eZ) (K:W.Frag) (mg:Str->Option Value) (base:Heap) (k:Nat) (f:Addr) (ps:List Str) (sp:Sp):Prop where
 ex:∃oc od fd sl,base.get? f=some ⟨oc,od,.func fd,sl⟩/\v1 P w K mg base CX0 k f fd ps sp/\Y6 K fd ps []
theorem zu3 (hr:c4 j X.A)(ha:PA X (e::es) t)(hN:X.N[i]?=some x:=by rfl)(hv:Vis X.env.scope x:=by first|exact Or.inl rfl|exact Or.inr (Or.inl rfl)|exact Or.inr (Or.inr rfl))
  (hd:(x==("__debug__":Str))=false:=by decide) (hcd:(x==("__classdict__":Str))=false:=by decide)
  (he:eX (e::es) X.env=(false,eval e X.env)::eX es X.env:=by rfl) (hpl:(backTo pos (eX es X.env)).any (·.1)=false:=by rfl) :
  PE X (.Call (.Name x p) (e::es) [] pos) (λσ H Q=>∃f ps sp,σ[i]?=some (some (.ref f))/\FnV X.prog X.w X.K X.mg X.base j f ps sp/\t σ H λvs H1=>sp vs H1 Q E0):=by
 rintro pins s σ H Q I ⟨f,ps,sp,e1,⟨oc,od,fd,sl,hf,F,hb⟩,h⟩
 refine wpAny_Call_Name_kw (thn (yn7 (pos:=p) hN hv hd hcd pins s σ H (λv H1=>v=.ref f/\H1=H) I ⟨_,e1,rfl,rfl⟩) λu s1 ⟨v,H1,I1,r,ev,eH⟩=>?_)
 subst ev;subst eH
 obtain rfl:u=Value.ref f:=r
 have fa:∀{s2:eS} {H2:Hp},Inv X pins σ H2 s2->W.FnAt f s2.heap:=λI2=>⟨oc,od,fd,sl,I2.bk _ _ hf⟩
 refine W.callWith_F (fa I1) (thn (ha pos pins s1 σ H1 _ I1 h) λus s2 ⟨vs,H2,I2,r2,q⟩=>⟨fa I2,?_⟩) he hpl
 have q':sp (vs++[]) H2 Q E0:=by rw[bp];exact q
 exact zq1 (dvs:=[]) (ds:=[]) F hr hb .nil zu2 I2 r2 q'
end
section
variable {X:Cx}{y:Str}{p pos lpos:Pos}{e:Expr}{te:TE}{ps:List Str}{sp:Heap->Sp}{k j:Nat}{c P:Addr}{params:Arguments}{body:Expr}{scope:Scope}{clos:List (Str×Addr)}{qual:Str}
theorem yc5 (KG:∀base:Heap,Mod X.K X.mg base->Tb.Known X.prog X.w X.K X.mg base k y ps (sp base))(hr:c4 j X.A)(hg:Gl X y)(he:PE X e te)(C:CodeHd X.base c P)(hcd:X.env.code=.ref c)(hB:Bm X.mg X.base)
  (hcl:closureFor scope X.env=pure clos) (hq:X.env.qual++"<lambda>"=qual) (hdef:defaultsOf params X.env=([],[])) (hj:k<=j:=by decide) (hdb:(y==("__debug__":Str))=false:=by decide)
  (hs:eX [e,.Lambda params body scope lpos] X.env=(false,eval e X.env)::eX [.Lambda params body scope lpos] X.env:=by rfl) (hpl:(backTo pos (eX [.Lambda params body scope lpos] X.env)).any (·.1)=false:=by rfl)
  (hs2:eX [.Lambda params body scope lpos] X.env=(false,eval (.Lambda params body scope lpos) X.env)::eX [] X.env:=by rfl) :
  PE X (.Call (.Name y p) [e,.Lambda params body scope lpos] [] pos) (λσ H Q=>te σ H λx H1=>TbO lpos qual H1 P /\
   ∀(f c':Addr) (pm ctv:Value) (base':Heap) (H':Hp),Mod X.K X.mg base'->base'.get? f=some (kla_obj "<lambda>" qual params body scope clos pm c' ctv) ->
    (∀(x:Str) (cc:Addr) (i:Nat) (v:V),X.fn x=true->X.env.kindOf x=some .cell->X.env.cells.lookup x=some cc->X.N[i]?=some x->σ[i]?=some (some v)->∃u,base'.IsCell cc (some u)/\u0 v u) ->
    (∀b o,b≠P->H1 b=some o->H' b=some o)->H' c'=some (T9 c' qual)->TbO lpos qual H' P->sp base' [x,.ref f] H' Q E0):=by
 intro pins s σ H Q I h
 obtain⟨ga,gd,G0,hk,hm,hb0⟩:=KG X.base I.ok.mod
 refine wpAny_Call_Name_kw (E5 I hg hm ?_ hdb)
 refine W.callWith_K (h₀:=X.base) I.ok.mod.kin hk ?_ hs hpl
 rw[hs]
 show eW _ _ (spliced ((false,eval e X.env)::backTo pos (eX [.Lambda params body scope lpos] X.env))) _ _ s
 refine Calls.spliced_cons (thn (he pins s σ H _ I h) λu s1 ⟨x,H1,I1,r1,hT,q1⟩=>?_)
 rw[hs2]
 show eW _ _ (spliced ((false,eval (.Lambda params body scope lpos) X.env)::backTo pos (eX [] X.env))) _ _ s1
 refine Calls.spliced_cons (yl2 I1 C hcd hB hT hcl hq hdef λf c' pm ctv s2 H2 I2 hsz hf hfo hfr hc' hT'=>?_)
 refine Calls.spliced_nil ⟨I2.kIn,?_⟩
 have hfs:f∉frs X.stack:=λhb=>by
  obtain⟨_,o,ho,_⟩:=I1.stack.mem hb
  exact absurd (ay ho) (cX.mpr hsz)
 have hM:Mod X.K X.mg (rb s2.heap H2 (frs X.stack)):=I2.ok.mod.keeps I2.rbK
 obtain⟨gb,gd',G,hk',hm',hb⟩:=KG _ hM
 obtain rfl:ga=gb:=by rw[hm]at hm';cases hm';rfl
 have q2:=q1 f c' pm ctv (rb s2.heap H2 (frs X.stack)) H2 hM (zy3 hfo hf hfs) (λnm cc i v hfn hkd hcc hN hv=>?_) hfr hc' hT'
 ·have r2:v9 [x,.ref f] [u,.ref f]:=.cons r1 (.cons rfl .nil)
  have hl:([u,.ref f]++([]:List Value)).length=ps.length:=by rw[bp,←r2.length];exact G.len _ _ _ _ q2
  have hb2:=hb s2 [u,.ref f] I2.kIn hl
  rw[bp]at hb2
  refine wpAny_call (codeAny_mono (G.run X.A X.stack s2 H2 ⟨[u,.ref f],[]⟩ [u,.ref f] [x,.ref f] Q E0 (hr.mono hj) I2.env0B hb2 r2 q2) λr s' hq=>?_)
  cases r with
  | error e=>exact hq.elim
  | ok fl =>
   cases fl with
   | ret u=>exact I2.after hq
   | next=>exact False.elim hq
   | brk=>exact False.elim hq
   | cont=>exact False.elim hq
 ·obtain⟨m,_,hl⟩:=I2.loc
  obtain⟨u',rv,lk⟩:=hl i nm v hN hv (.inr (.inl hkd))
  rcases lk with⟨z,_⟩|⟨_,c2,e2,o,ho,hd⟩
  ·rw[hkd]at z;cases z
  ·rw[hcc]at e2;cases e2
   refine⟨u',⟨o,zy3 ho (I2.freeC nm cc hcc) λhb=>?_,hd⟩,rv⟩
   rcases au.mp (I2.stkSub cc hb) with z|z
   ·exact I2.cne nm cc hcc z
   ·obtain⟨_,o2,ho2,_⟩:=I2.ok.funs.mem z
    exact absurd (ay ho2) (cX.mpr (I2.ok.cab nm cc hfn hcc))
end
theorem Fun.okC {P:eV}{w:eZ}{K:W.Frag}{mg:Str->Option Value}{base:Heap}{x qual:Str}{st:Stmt}{f c:Addr}{fd:fk}{N ps:List Str}{k:Nat}{sp:Sp}(F:Fun K x qual st f fd)(hc:fd.code=.ref c)(S:y4 N ps (z8 st))(len:∀vs H Q E,sp vs H Q E->vs.length=ps.length)
  (hbody:∀(A:fc) (outer:List Env) (s:eS) (H:Hp) (vs:List V) (Q:VK) (E:XK),c4 k (A.deeper (envOfC qual (z8 st) s.heap.objs.size f (.ref c)))->sp vs H Q E ->
   ∃t,PSs (V4 CX0 P w K mg base N qual (z8 st) f (.ref c) A outer s H E).nox (d3 st) t/\t { nx:=λ_ H'=>Q .non H',rt:=Q } (start N vs) H):v1 P w K mg base CX0 (k+1) f fd ps sp:=by
 obtain⟨oc,od,kV,doc,pm,an,cdv,ct,osl,rfl,lk,hcd⟩:=F.ex
 obtain rfl:cdv=.ref c:=hc
 refine yk3 lk hcd S len λA outer s H vs Q E hr hsp=>?_
 obtain⟨t,h,q⟩:=hbody A outer s H vs Q E hr hsp
 exact⟨t,h.nox,q⟩
def Q0 (st:Stmt):Pos:=match d3 st with
 | [.Return (some (.Call _ [_,.Lambda _ _ _ pos] _ _)) _]=>pos
 | _=>⟨0,0,0,0⟩
def zo6 (x:Str):Str:=x++".<locals>."++"<lambda>"
theorem yg3 {P:eV}{w:eZ}{K:W.Frag}{mg mb:Str->Option Value}{CX:CXT}{k:Nat}{fa a:Addr}{fd:fk}{x:Str}{sp:Sp}{s₁:eS}{vs:List Value}{ns:List Int}{tabs:List (Addr×Addr)}
  (KX:K.In s₁.heap) (hns:s₁.heap.Ns mainGlobals mg) (hb:s₁.heap.Ns builtinsNs mb) (hbb:∀x:Str,x≠"__name__"->mb x=fh x) (hlim:s₁.heap.NoLimit) (hg:s₁.gens=#[]) (hBm:Bm mg s₁.heap)
  (ha:s₁.heap.get? a=some { cls:=.type "list",data:=.seq vs.toArray }) (hi:IntsAre vs ns) (hl:ns.length<=eU) (hr:c4 k callerA)
  (hT:W.TabsAt tabs s₁.heap) (hKt:W.noTabs K=true)
  (F:∀base:Heap,K.In base->base.Ns mainGlobals mg->Bm mg base->(∀q∈tabs,CodeHd base q.1 q.2)->v1 P w K mg base CX k fa fd [x] sp) (hbind:∀(s:eS) (u:Value),BindsTo s fd ⟨[u],[]⟩ [(x,u)])
  (hsp:∀H:Hp,SqL K H a (ns.map V.int)->(∀q∈tabs,H q.2=some (.tbl #[]))->sp [.ref a] H (λv _=>v=.bl true) λ_ _ _=>False)
  (hCX:∀H e s',CX [] H s₁ (λ_ _ _=>False) e s'->False) :
  codeAny (eY P w) callerA (.call (.ref fa) ⟨[.ref a],[]⟩) (λr s'=>r=.ok (.ret (.bool true))/\OldK s₁.heap s'.heap/\s'.os=s₁.os/\AllBare s'.gens) s₁:=by
 have rv:=za1 hi
 have lenV:=hi.length
 have tabK:∀b∈tabs.map (·.2),s₁.heap.get? b=some (tabObj #[]):=λb hb=>by
  obtain⟨q,hq,rfl⟩:=ah.mp hb
  exact(hT q hq).2
 have naT:a∉tabs.map (·.2):=λz=>by
  have:=tabK a z
  rw[ha]at this;cases this
 have nKT:∀b∈tabs.map (·.2),K.lookup b=none:=λb hb=>by
  cases q:K.lookup b with
  | none=>rfl
  | some o =>
   have e:=KX b o q
   rw[tabK b hb]at e
   cases e
   exact absurd (show false=true from bo.mp hKt (b,_) (W.mem_of_lookupK q)) aJ
 have core:∀H:Hp,SqL K H a (ns.map V.int)->HOk P w H s₁.heap->(∀b,H b=none∨(b=a/\K.lookup a=none/\∃o xs,H b=some (.frz o (.lst xs)))∨(b∈tabs.map (·.2)/\H b=some (.tbl #[])))->(∀q∈tabs,H q.2=some (.tbl #[])) ->
   codeAny (eY P w) callerA (.call (.ref fa) ⟨[.ref a],[]⟩) (λr s'=>r=.ok (.ret (.bool true))/\OldK s₁.heap s'.heap/\s'.os=s₁.os/\AllBare s'.gens) s₁:=by
  intro H hS hok hO hTb
  have noA:∀{b:Addr} {o:Obj},s₁.heap.get? b=some o->o≠{ cls:=.type "list",data:=.seq vs.toArray }->o≠tabObj #[]->(zb6 s₁.heap H).get? b=some o:=λ{b o} e n1 n2=>zf4 e (by
   rcases hO b with z|⟨z,_⟩|⟨z,_⟩
   ·exact z
   ·rw[z,ha]at e;exact absurd (Option.some.inj e).symm n1
   ·rw[tabK b z]at e;exact absurd (Option.some.inj e).symm n2)
  have nsK:∀{b:Addr} {m:Str->Option Value},s₁.heap.Ns b m->(zb6 s₁.heap H).Ns b m:=λ{b m} ⟨o,es,ep,e,d,r⟩=>⟨o,es,ep,noA e (λz=>by rw[z]at d;cases d) (λz=>by rw[z]at d;cases d),d,r⟩
  have hKb:K.In (zb6 s₁.heap H):=λb o e=>zf4 (KX b o e) (by
   rcases hO b with z|⟨z,z2,_⟩|⟨z,_⟩
   ·exact z
   ·rw[z,z2]at e;cases e
   ·rw[nKT b z]at e;cases e)
  have hM:Mod K mg (zb6 s₁.heap H):=⟨hKb,nsK hns,⟨mb,nsK hb,hbb⟩,let ⟨mc,h1,h2⟩:=hlim;⟨mc,nsK h1,h2⟩⟩
  have hBb:Bm mg (zb6 s₁.heap H):=let ⟨bm,ob,b1,b2,b3,b4,b5,b6⟩:=hBm;⟨bm,ob,b1,b2,noA b3 (λz=>by rw[z]at b4;injection b4 with b4;exact absurd b4 (by decide)) (λz=>by rw[z]at b4;cases b4),b4,b5,b6⟩
  have hCb:∀q∈tabs,CodeHd (zb6 s₁.heap H) q.1 q.2:=λq hq=>by
   obtain⟨o,us,file,tf,flags,tg,inF,text,tt,e1,r1,r⟩:=(hT q hq).1
   exact⟨o,us,file,tf,flags,tg,inF,text,tt,noA e1 (λz=>by rw[z]at r1;injection r1 with r1;exact absurd r1 (by decide)) (λz=>by rw[z]at r1;cases r1),r1,r⟩
  have e0:zr7 P w K mg (zb6 s₁.heap H) callerA [] s₁ H:=⟨rfl,hM,λb o e=>yc1 e,df (zm1 _ _),trivial,λb hb=>absurd (show b∈([]:List Addr) from hb) (by simp),hok,.of_eq hg⟩
  refine codeAny_mono ((F _ hKb (nsK hns) hBb hCb).run callerA [] s₁ H ⟨[.ref a],[]⟩ [.ref a] [.ref a] _ _ hr e0 (hbind s₁ (.ref a)) (.cons rfl .nil) (hsp H hS hTb)) λr s' h=>?_
  cases r with
  | error e=>exact(hCX H e s' h).elim
  | ok fl =>
   cases fl with
   | next=>exact False.elim h
   | brk=>exact False.elim h
   | cont=>exact False.elim h
   | ret u =>
    obtain⟨v,H',os,bare,un,hok',r',q⟩:=h
    have q':v=.bl true:=q
    subst q'
    obtain rfl:u=Value.bool true:=r'
    refine⟨rfl,⟨λb o e=>?_,λb o e=>un.there b o e (by simp)⟩,os,bare⟩
    rcases hO b with z|⟨_,_,ob,xs,z⟩|⟨hm,z⟩
    ·exact .inl (un.keep b o e z (by intro z;exact absurd (show b∈([]:List Addr) from z) (by simp)) (by simp))
    ·have z2:=un.frzs b ob _ z
     obtain⟨e1,_⟩:=hok b _ z
     obtain⟨e2,_⟩:=hok' b _ z2
     rw[e]at e1;cases e1
     exact .inl e2
    ·obtain⟨more,z2⟩:=un.tbls b _ z
     have e2:s'.heap.get? b=some (tabObj (#[]++more)):=hok' b _ z2
     have e1:=tabK b hm
     rw[e]at e1
     cases e1
     obtain⟨q,hq,rfl⟩:=ah.mp hm
     exact .inr (.inl ⟨((hT q hq).1.tab (hT q hq).2).isCodeTable,rfl,#[],more,rfl,e2⟩)
 cases hk:K.lookup a with
 | some o =>
  have e:=KX a o hk
  rw[ha]at e
  cases e
  refine core (λb=>if b∈tabs.map (·.2) then some (.tbl #[]) else none) (.inr ⟨_,vs.toArray,_,hk,rfl,rfl,rfl,by rw[aA,lenV];exact hl,by simpa using rv⟩) (λb u z=>?_) (λb=>?_) λq hq=>if_pos (dY hq)
  ·by_cases hb:b∈tabs.map (·.2)
   ·have z':=(if_pos hb).symm.trans z
    cases z'
    exact tabK b hb
   ·have z':=(if_neg hb).symm.trans z
    cases z'
  ·by_cases hb:b∈tabs.map (·.2)
   ·exact .inr (.inr ⟨hb,if_pos hb⟩)
   ·exact .inl (if_neg hb)
 | none =>
  refine core (λb=>if b=a then some (.frz { cls:=.type "list",data:=.seq vs.toArray } (.lst (ns.map V.int))) else if b∈tabs.map (·.2) then some (.tbl #[]) else none) (.inl (.inr ⟨{ cls:=.type "list",data:=.seq vs.toArray },if_pos rfl⟩)) (λb u z=>?_) (λb=>?_) λq hq=>?_
  ·by_cases hb:b=a
   ·have z':=(if_pos hb).symm.trans z
    cases z'
    subst hb
    exact⟨ha,by rw[aa];exact hl,vs,_,rv,ha⟩
   ·have z':=(if_neg hb).symm.trans z
    by_cases hb2:b∈tabs.map (·.2)
    ·have z2:=(if_pos hb2).symm.trans z'
     cases z2
     exact tabK b hb2
    ·have z2:=(if_neg hb2).symm.trans z'
     cases z2
  ·by_cases hb:b=a
   ·exact .inr (.inl ⟨hb,hk,_,_,if_pos hb⟩)
   ·by_cases hb2:b∈tabs.map (·.2)
    ·exact .inr (.inr ⟨hb2,(if_neg hb).trans (if_pos hb2)⟩)
    ·exact .inl ((if_neg hb).trans (if_neg hb2))
  ·have hm:q.2∈tabs.map (·.2):=dY hq
   exact(if_neg λz=>naT (by rw[←z];exact hm)).trans (if_pos hm)
end L2
namespace Tb
open PySem L2 PyProof.Rows
def zz1 (xs:List Str)(K:W.Frag):Sp:=λvs H Q _=>∃(a:Addr) (ns:List Int),vs=[.ref a]/\SqL K H a (ns.map V.int)/\ns.length<=63/\(∀z∈ns,Builtin.Int.intBits z<=2 ^ 20)/\(∀x∈xs,∀c P,W.tabIn K x=some (c,P)->H P=some (.tbl #[]))/\∀H',Q (.bl true) H'
theorem walkT {l:W.OpenLaw}{q:eV}{loose:List Str}{XP:(Str->Option Value)->Heap->Prop}{YP:eZ->Heap->Prop}{d:DefRec}{K:Params->W.Frag}{k:Nat}{x:Str}(xs:List Str)(hn:l.most=some 63)(hdf:d.params.defaults=[])(hr:c4 k callerA)
  (hY:∀(w:eZ) (h:Heap),YP w h->(K w.params).In h) (hx:xs.all (λy=>(recsOf q).any λe=>e.name==y)=true) (hKt:∀w:eZ,W.noTabs (K w.params)=true)
  (F:∀(w:eZ) (mg:Str->Option Value) (fa:Addr) (h:Heap),(K w.params).In h->h.Ns mainGlobals mg->mg d.name=some (.ref fa) ->
   ∃fd:fk,(∀(s:eS) (u:Value),BindsTo s fd ⟨[u],[]⟩ [(x,u)])/\∀base:Heap,(K w.params).In base->base.Ns mainGlobals mg->Bm mg base->(∀y∈xs,∀c P,W.tabIn (K w.params) y=some (c,P)->W.CodeHd base c P) ->
    v1 l.prog w (K w.params) mg base CX0 k fa fd [x] (zz1 xs (K w.params))) :
  W.WalkO q loose XP YP l.row.toRowW d [] (λf vs=>PySem.call f vs):=by
 refine Att.attach_callB hn hdf λw s₀ s₁ mg mb fa o pm cd doc a vs ns G Y ho hd hcd hmg hobj hints hlen hbits hg=>?_
 have KX:=hY w _ Y
 obtain⟨fd,hb,hF⟩:=F w mg fa _ KX G.T.g hmg
 have hT:W.TabsAt (xs.filterMap λy=>W.tabIn (K w.params) y) s₁.heap:=λz hz=>by
  obtain⟨y,hy,e⟩:=aU.mp hz
  have ha:=bo.mp hx y hy
  cases hr:(recsOf q).find? (λe=>e.name==y) with
  | some r=>exact W.tab_of (c:=z.1) (P:=z.2) G.T KX hr e
  | none =>
   obtain⟨r,hr1,hr2⟩:=List.any_eq_true.mp ha
   exact absurd hr2 (by simpa using eo.mp hr r hr1)
 have mem:∀y∈xs,∀c P,W.tabIn (K w.params) y=some (c,P)->(c,P)∈xs.filterMap λy=>W.tabIn (K w.params) y:=λy hy c P e=>aU.mpr ⟨y,hy,e⟩
 exact yg3 KX G.T.g G.T.b G.T.builtins G.T.nolimit hg G.T.bmain hobj hints (aX hlen (by decide)) hr hT (hKt w) (λbase k1 k2 k3 k4=>hF base k1 k2 k3 λy hy c P e=>k4 _ (mem y hy c P e)) hb
  (λH hS hTb=>⟨a,ns,rfl,hS,hlen,hbits,λy hy c P e=>hTb _ (mem y hy c P e),λ_=>rfl⟩) λ_ _ _ z=>z
theorem yj2 {K:W.Frag}{x:Str}{c P f:Addr}{oc:Value}{od:Option Addr}{fd:fk}{sl:Array (Option Value)}(ht:W.tabIn K x=some (c,P))(hm:W.nsIn K mainGlobals x=some (some (.ref f)))(hf:K.lookup f=some ⟨oc,od,.func fd,sl⟩):fd.code=.ref c:=by
 unfold W.tabIn at ht
 rw[hm]at ht
 simp only[hf]at ht
 split at ht
 ·rename_i c₂ hc
  split at ht
  ·split at ht
   ·cases ht;exact hc
   ·cases ht
  ·cases ht
 ·cases ht
end Tb
namespace Tb
open PySem L2
def top (i:Nat):Stmt:=PySem.Challenge.pw_turnbase_k66_whole_rings_and_mirrors.main.body.getD i (.Pass ⟨0,0,0,0⟩)
abbrev G1:Stmt:=top 7
abbrev P1:Stmt:=top 8
abbrev W7:Stmt:=top 9
abbrev zq3:Stmt:=top 10
abbrev zh6:Stmt:=top 11
abbrev zy5:Stmt:=top 12
abbrev zh7:Stmt:=top 13
abbrev P3:Stmt:=top 21
abbrev B9:Stmt:=top 25
abbrev M4:Stmt:=top 26
abbrev P2:Stmt:=top 28
abbrev yo6:Stmt:=top 29
abbrev zq2:Stmt:=top 30
abbrev P0:Stmt:=top 31
abbrev f7:Stmt:=top 32
abbrev i6:Stmt:=top 33
abbrev A3:Stmt:=top 34
abbrev B8:Stmt:=top 35
abbrev U2:Stmt:=top 37
abbrev U4:Stmt:=top 38
abbrev U3:Stmt:=top 39
abbrev Q9:Stmt:=top 40
abbrev Q8:Stmt:=top 41
abbrev T6:Stmt:=top 42
abbrev T7:Stmt:=top 43
abbrev zb1:Stmt:=top 44
def g9 (i j:Nat):Stmt:=match top i with | .ClassDef _ _ _ b _ _ _ _ _ _ _=>b.getD j (.Pass ⟨0,0,0,0⟩)|s=>s
abbrev W5:Stmt:=g9 16 0
abbrev I0:Stmt:=g9 16 1
abbrev Y0:Stmt:=g9 16 2
abbrev b9:Stmt:=g9 16 3
abbrev W6:Stmt:=g9 17 0
abbrev X4:Stmt:=g9 17 1
abbrev c6:Stmt:=g9 17 2
abbrev X3:Stmt:=g9 17 3
abbrev X1:Stmt:=g9 18 0
abbrev Y2:Stmt:=g9 18 4
abbrev T3:Stmt:=g9 18 5
abbrev k9:Stmt:=g9 18 3
abbrev U0:Stmt:=g9 18 2
abbrev Q5:Stmt:=g9 18 1
abbrev Q4:Stmt:=g9 18 8
abbrev X2:Stmt:=g9 22 0
abbrev Q7:Stmt:=g9 22 1
abbrev Q6:Stmt:=g9 22 3
abbrev M3:Stmt:=g9 22 8
abbrev Y1:Stmt:=g9 18 9
abbrev b0:Stmt:=g9 22 2
abbrev Y3:Stmt:=g9 23 0
abbrev T5:Stmt:=g9 23 1
abbrev T4:Stmt:=g9 23 2
abbrev U1:Stmt:=g9 23 3
section
variable {P:eV}{w:eZ}{K:W.Frag}{mg:Str->Option Value}{base:Heap}{f:Addr}{fd:fk}
def yw3:PyData->Bool
 | .int _=>true
 | .bool _=>true
 | _=>false
def yr5:PyData->Bool
 | .bool _=>true
 | _=>false
def yw4:PyData->Bool
 | .tuple _=>true
 | _=>false
def isW:PyData->Bool
 | .int _=>true
 | _=>false
theorem yw7:∀d:PyData,i3 (tyD d) "int"=some (yw3 d)
 | .none=>(by decide +kernel:i3 "NoneType" "int"=some false)
 | .bool _=>(by decide +kernel:i3 "bool" "int"=some true)
 | .int _=>(by decide +kernel:i3 "int" "int"=some true)
 | .str _=>(by decide +kernel:i3 "str" "int"=some false)
 | .list _=>(by decide +kernel:i3 "list" "int"=some false)
 | .tuple _=>(by decide +kernel:i3 "tuple" "int"=some false)
 | .dict _=>(by decide +kernel:i3 "dict" "int"=some false)
theorem yb6:∀d:PyData,i3 (tyD d) "bool"=some (yr5 d)
 | .none=>(by decide +kernel:i3 "NoneType" "bool"=some false)
 | .bool _=>(by decide +kernel:i3 "bool" "bool"=some true)
 | .int _=>(by decide +kernel:i3 "int" "bool"=some false)
 | .str _=>(by decide +kernel:i3 "str" "bool"=some false)
 | .list _=>(by decide +kernel:i3 "list" "bool"=some false)
 | .tuple _=>(by decide +kernel:i3 "tuple" "bool"=some false)
 | .dict _=>(by decide +kernel:i3 "dict" "bool"=some false)
theorem yw8:∀d:PyData,i3 (tyD d) "tuple"=some (yw4 d)
 | .none=>(by decide +kernel:i3 "NoneType" "tuple"=some false)
 | .bool _=>(by decide +kernel:i3 "bool" "tuple"=some false)
 | .int _=>(by decide +kernel:i3 "int" "tuple"=some false)
 | .str _=>(by decide +kernel:i3 "str" "tuple"=some false)
 | .list _=>(by decide +kernel:i3 "list" "tuple"=some false)
 | .tuple _=>(by decide +kernel:i3 "tuple" "tuple"=some true)
 | .dict _=>(by decide +kernel:i3 "dict" "tuple"=some false)
theorem scq {N P:List Str}{sc:Scope}(a:sc.kind=.function:=by rfl)(b:sc.isCoroutine=false:=by rfl)(c:sc.isGenerator=false:=by rfl)(d:N.Nodup:=by decide +kernel)(e:N.take P.length=P:=by rfl)(f:∀x∈P,sc.names.lookup x=some .local∨sc.names.lookup x=some .cell:=by decide +kernel)(g:∀y∈sc.names,y.2≠.free:=by decide +kernel):y4 N P sc:=⟨a,b,c,d,e,f,g⟩
theorem zu8:y4 ["thing"] ["thing"] (z8 G1):=scq
def zi7:Sp:=λvs H Q _=>∃(x:V) (d:PyData),vs=[x]/\Dt H x d/\Q (.bl (isW d)) H
theorem zu1 (D:Def K mg "is_whole" G1 ["thing"] f fd)(B:Blt mg):v1 P w K mg base CX0 1 f fd ["thing"] zi7:=by
 refine D.F.ok zu8 (λvs H Q E h=>?_) (λcdv A outer s H vs Q E hr h=>?_)
 ·obtain⟨x,d,rfl,_⟩:=h
  rfl
 obtain⟨x,d,rfl,hd,q⟩:=h
 refine⟨_,z7 (y9 (M1 (v8 d9 rfl B.isinstance n4 (z0 (pv 0) (z0 (Q2 (v:=.ty "int") rfl B.int yv7 rfl) z4)))
  (M2 (yy6 (v8 d9 rfl B.isinstance n4 (z0 (pv 0) (z0 (Q2 (v:=.ty "bool") rfl B.bool ya4 rfl) z4))))))),?_⟩
 refine⟨_,rfl,_,_,_,_,rfl,hd.ty,O7 (yw7 d),_,rfl,?_⟩
 cases d with
 | int i=>exact i0 ⟨_,rfl,_,_,_,_,rfl,hd.ty,O7 (yb6 _),_,rfl,q⟩
 | bool b=>exact i0 ⟨_,rfl,_,_,_,_,rfl,hd.ty,O7 (yb6 _),_,rfl,q⟩
 | none=>exact o5 q
 | str _=>exact o5 q
 | list _=>exact o5 q
 | tuple _=>exact o5 q
 | dict _=>exact o5 q
def K5:List PyData->List Int
 | .int i::r=>i::K5 r
 | _::r=>K5 r
 | []=>[]
def yd0 (l:List Int):List Int:=l.mergeSort λa b=>decide (a<=b)
theorem zu9 {l m:List Int}(p:m.Perm l)(h:m.Pairwise (·<=·)):m=yd0 l:=by
 refine List.Perm.eq_of_pairwise (λa b _ _ h1 h2=>Int.le_antisymm h1 h2) h ?_ (p.trans (List.mergeSort_perm l _).symm)
 exact(List.pairwise_mergeSort (le:=λa b:Int=>decide (a<=b)) (λa b c h1 h2=>decide_eq_true (Int.le_trans (of_decide_eq_true h1) (of_decide_eq_true h2))) (λa b=>by
  show(decide (a<=b) || decide (b<=a))=true
  rw[Bool.or_eq_true,decide_eq_true_eq,decide_eq_true_eq]
  exact Int.le_total a b) l).imp λh=>of_decide_eq_true h
def zu6 (n:Nat):List Int:=(List.range n).map λ(i:Nat)=>(i:Int)
theorem yz1 (n:Nat):tI (List.range n)=(zu6 n).map V.int:=D9 _
theorem za5:∀(ms rs:List Int),PyData.eqvAll (ms.map PyData.int) (rs.map PyData.int)=decide (ms=rs)
 | [],[]=>by simp[PyData.eqvAll]
 | [],_::_=>by simp[PyData.eqvAll]
 | _::_,[]=>by simp[PyData.eqvAll]
 | a::as,b::bs=>by
  rw[aT,aT,PyData.eqvAll,za5 as bs]
  by_cases h:a=b
  ·subst h;simp[PyData.eqv]
  ·simp[PyData.eqv,h]
theorem yf4 (ms rs:List Int):PyData.eqv (.list (ms.map PyData.int)) (.list (rs.map PyData.int))=decide (ms=rs):=by rw[PyData.eqv,za5]
theorem zt3:∀ns:List Int,PyData.canLayAll0 (ns.map PyData.int)=true/\PyData.depthAll (ns.map PyData.int)<=1
 | []=>by simp[PyData.canLayAll0,PyData.depthAll]
 | n::r=>by
  obtain⟨h1,h2⟩:=zt3 r
  refine⟨by simp[PyData.canLayAll0,PyData.canLay0,h1],?_⟩
  simp only[aT,PyData.depthAll,PyData.depth]
  lia
theorem zb2 (ns:List Int):PySem.SeqAt.shaped (.list (ns.map PyData.int))=true:=by
 obtain⟨h1,h2⟩:=zt3 ns
 unfold PySem.SeqAt.shaped
 rw[bR]
 refine⟨by simp only[PyData.canLay0];exact h1,decide_eq_true ?_⟩
 simp only[PyData.depth]
 lia
def m9:PyData->Bool
 | .tuple ds=>(decide (1<=ds.length)&&decide (ds.length<=60))&&(ds.all isW&&decide (yd0 (K5 ds)=zu6 ds.length))
 | _=>false
theorem yb5 {H:Hp}:∀{xs:List V} {ds:List PyData},Dts H xs ds->ds.all isW=true->xs=(K5 ds).map V.int/\(K5 ds).length=ds.length
 | _,_,.nil,_=>⟨rfl,rfl⟩
 | _,_,.cons h r,e=>by
  rw[eL,bR]at e
  obtain⟨h1,h2⟩:=yb5 r e.2
  cases h with
  | int i=>exact⟨by rw[h1];rfl,by show(i::K5 _).length=_;rw[aQ,h2];rfl⟩
  | non=>cases e.1
  | bl _=>cases e.1
  | str _=>cases e.1
  | lst _ _=>cases e.1
  | tup _ _=>cases e.1
  | dct _=>cases e.1
def ye0:Sp:=λvs H Q _=>∃(x:V) (d:PyData),vs=[x]/\Dt H x d/\(∀ds,d=.tuple ds->ds.length<=100)/\∀H':Hp,y2 H H'->Q (.bl (m9 d)) H'
theorem zk7:y4 ["thing"] ["thing"] (z8 P1):=scq
theorem zk1 (D:Def K mg "is_turning" P1 ["thing"] f fd)(B:Blt mg)(KW:Known P w K mg base 1 "is_whole" ["thing"] zi7)(GM:zj1 mg "MOST_PLACES" (.int 60)):v1 P w K mg base CX0 2 f fd ["thing"] ye0:=by
 refine D.F.ok zk7 (λvs H Q E h=>?_) (λcdv A outer s H vs Q E hr h=>?_)
 ·obtain⟨x,d,rfl,_⟩:=h
  rfl
 obtain⟨x,d,rfl,hd,hlen,q⟩:=h
 refine⟨_,z6 (n6 (PW.pt (zu5 (T2 (Z9 (v8 d9 rfl B.isinstance n4 (z0 (pv 0) (z0 (Q2 (v:=.ty "tuple") rfl B.tuple Z5 rfl) z4))))) (zh5 (T2 (zu4 yc2 yc2 z9 (v8 u7 rfl B.len Y8 (z0 (pv 0) z4)) (zb0 GM rfl)))))) (z7 (y9 V0)) u6)
  (z6 (n6 (T2 (Z9 (v8 (C6 rfl) rfl B.all zw4 (z0 (i5 [] ["place"] rfl (yn9 (pv 0)) (λ_ _ _ _=>u4 KW hr rfl (z0 (pv 0) z4))) z4)))) (z7 (y9 V0)) u6)
  (z7 (y9 (l7 (yy2 hr.units) (v8 zn7 rfl B.sorted ye7 (z0 (pv 0) z4)) (u5 (T0 rfl) rfl B.list X5 (z0 (u5 L4 rfl B.range F7 (z0 (v8 u7 rfl B.len Y8 (z0 (pv 0) z4)) z4)) z4)) (u3 _))))),?_⟩
 refine⟨_,rfl,_,_,_,_,rfl,hd.ty,O7 (yw8 d),_,rfl,?_⟩
 cases hd with
 | non=>exact i0 (q H (y2.refl _))
 | bl b=>exact i0 (q H (y2.refl _))
 | int i=>exact i0 (q H (y2.refl _))
 | str t=>exact i0 (q H (y2.refl _))
 | lst _ _=>exact i0 (q H (y2.refl _))
 | dct _=>exact i0 (q H (y2.refl _))
 | @tup b xs ds hb hs =>
 have hxl:=hs.length
 have hl100:=hlen ds rfl
 refine o5 ⟨_,rfl,b,_,rfl,.inr (SqT.of hb),_,_,rfl,rfl,_,rfl,?_⟩
 by_cases h1:1<=ds.length
 case neg =>
  rw[decide_eq_false (show ¬(1:Int)<=((xs.length:Nat):Int) by lia)]
  refine o5 ⟨_,rfl,i0 ?_⟩
  have e:m9 (.tuple ds)=false:=by simp only[m9];rw[decide_eq_false h1];rfl
  exact e ▸ q H (y2.refl _)
 rw[decide_eq_true (show(1:Int)<=((xs.length:Nat):Int) by lia)]
 refine i0 ⟨_,_,rfl,rfl,_,rfl,?_⟩
 by_cases h2:ds.length<=60
 case neg =>
  rw[decide_eq_false (show ¬((xs.length:Nat):Int)<=(60:Int) by lia)]
  refine i0 ?_
  have e:m9 (.tuple ds)=false:=by simp only[m9];rw[decide_eq_false h2,dD];rfl
  exact e ▸ q H (y2.refl _)
 rw[decide_eq_true (show((xs.length:Nat):Int)<=(60:Int) by lia)]
 refine o5 ?_
 refine⟨_,rfl,b,rfl,⟨_,SqT.of hb⟩,zs4 (SqT.of hb) ((ds.map isW).map V.bl) (by rw[aa,aa,hxl]) (by rw[hxl];exact small (by lia)) ?_ ?_⟩
 ·intro j H' x hx s' _ _ _ _
  obtain⟨dj,hdj,hxj⟩:=hs.get hx
  refine⟨_,rfl,_,dj,rfl,hxj.same s',y2.refl _,?_⟩
  rw[ag,ag,hdj]
  rfl
 intro nm H4 _ s4 hnm
 refine⟨nm,_,rfl,SqL.of hnm,_,rfl,?_⟩
 have eall:(ds.map isW).all id=ds.all isW:=by rw[eN];rfl
 rw[eall]
 cases hall:ds.all isW with
 | false =>
  have e:m9 (.tuple ds)=false:=by simp only[m9];rw[hall,dC,dD]
  exact i0 (e ▸ q H4 s4)
 | true =>
  refine o5 ?_
  obtain⟨ex,el⟩:=yb5 hs hall
  have hb4:=s4 _ _ hb
  refine⟨_,rfl,b,K5 ds,rfl,SqT.of (by rw[←ex];exact hb4),by lia,λl ms hl hp hw=>?_⟩
  have s5:=y3 hl (.lst (ms.map V.int))
  have e5:(upd H4 l (.lst (ms.map V.int))) l=some (.lst (ms.map V.int)):=z3
  generalize upd H4 l (.lst (ms.map V.int))=H5 at s5 e5 ⊢
  refine⟨_,rfl,b,_,rfl,.inr (SqT.of (s5 _ _ hb4)),_,rfl,λp hp'=>⟨p,0,_,rfl,z3,⟨by lia,by lia,by lia,by lia,by lia⟩,λr hr'=>?_⟩⟩
  have s6:y2 H5 (upd (upd H5 p (.rng 0 ((xs.length:Nat):Int))) r (.lst (Z8 0 (((xs.length:Nat):Int)-0).toNat))):=(y3 hp' _).trans (y3 hr' _)
  have e6:(upd (upd H5 p (.rng 0 ((xs.length:Nat):Int))) r (.lst (Z8 0 (((xs.length:Nat):Int)-0).toNat))) r=some (.lst ((zu6 ds.length).map V.int)):=by
   rw[z3,show(((xs.length:Nat):Int)-0).toNat=ds.length by lia,C0,yz1]
  generalize upd (upd H5 p (.rng 0 ((xs.length:Nat):Int))) r (.lst (Z8 0 (((xs.length:Nat):Int)-0).toNat))=H6 at s6 e6 ⊢
  refine⟨.list (ms.map PyData.int),.list ((zu6 ds.length).map PyData.int),.lst (SqL.of (s6 _ _ e5)) (J0.ints _),.lst (SqL.of e6) (J0.ints _),zb2 _,zb2 _,?_⟩
  have e:m9 (.tuple ds)=PyData.eqv (.list (ms.map PyData.int)) (.list ((zu6 ds.length).map PyData.int)):=by
   simp only[m9]
   rw[yf4,hall,decide_eq_true h1,decide_eq_true h2,zu9 hp hw]
   rfl
  rw[←e]
  exact q H6 (s4.trans (s5.trans s6))
def G6:Sp:=λvs H Q _=>∃(x:V) (d:PyData) (n:Nat),vs=[x,.int n]/\Dt H x d/\(∀ds,d=.tuple ds->ds.length<=100)/\∀H':Hp,y2 H H'->Q (.bl (m9 d&&match d with | .tuple ds=>decide (ds.length=n)|_=>false)) H'
theorem A7:y4 ["thing","many"] ["thing","many"] (z8 W7):=scq
theorem yi1 {d:PyData}(h:m9 d=true):∃ds,d=.tuple ds:=by
 cases d with
 | tuple ds=>exact⟨ds,rfl⟩
 | _=>cases h
theorem B3 (D:Def K mg "is_turning_of" W7 ["thing","many"] f fd)(B:Blt mg)(KT:Known P w K mg base 2 "is_turning" ["thing"] ye0):v1 P w K mg base CX0 3 f fd ["thing","many"] G6:=by
 refine D.F.ok A7 (λvs H Q E h=>?_) (λcdv A outer s H vs Q E hr h=>?_)
 ·obtain⟨x,d,n,rfl,_⟩:=h
  rfl
 obtain⟨x,d,n,rfl,hd,hl,q⟩:=h
 refine⟨_,z7 (y9 (M1 (u4 KT hr rfl (z0 (pv 0) z4)) (M2 (l7 W2 (v8 u7 rfl B.len Y8 (z0 (pv 0) z4)) (pv 1) (u3 _))))),?_⟩
 refine⟨_,rfl,x,d,rfl,hd,hl,λH1 s1=>?_⟩
 cases ht:m9 d with
 | false =>
  have:=q H1 s1
  rw[ht,dC]at this
  exact⟨_,rfl,o5 this⟩
 | true =>
  obtain⟨ds,rfl⟩:=yi1 ht
  have q':=q H1 s1
  rw[ht,Bool.true_and]at q'
  have hd1:=hd.same s1
  cases hd1 with
  | @tup a xs _ e r =>
   refine⟨_,rfl,i0 ⟨_,rfl,a,_,rfl,.inr (SqT.of e),_,rfl,rfl,?_⟩⟩
   rw[p0,r.length]
   rw[show decide (((ds.length:Nat):Int)=(n:Int))=decide (ds.length=n) from decide_eq_decide.mpr (by lia)]
   exact q'
def zr0:Sp:=λvs H Q _=>∃n:Nat,vs=[.int n]/\n<=1000/\∀(r:Addr) (H':Hp),H r=none->y2 H H'->H' r=some (.tup (tI (List.range n)))->Q (.ref r) H'
theorem yo7:y4 ["many"] ["many"] (z8 zq3):=scq
theorem yn0 (D:Def K mg "still" zq3 ["many"] f fd)(B:Blt mg):v1 P w K mg base CX0 1 f fd ["many"] zr0:=by
 refine D.F.ok yo7 (λvs H Q E h=>?_) (λcdv A outer s H vs Q E hr h=>?_)
 ·obtain⟨n,rfl,_⟩:=h
  rfl
 obtain⟨n,rfl,hn,q⟩:=h
 refine⟨_,z7 (y9 (u5 (ze3 rfl) rfl B.tuple Z5 (z0 (u5 L4 rfl B.range F7 (z0 (pv 0) z4)) z4))),?_⟩
 refine⟨_,rfl,_,rfl,λp hp=>⟨p,0,(n:Int),rfl,z3,⟨by lia,by lia,by lia,by lia,by lia⟩,λr hr'=>?_⟩⟩
 rw[show((n:Int)-0).toNat=n by lia,C0]
 have pr:p≠r:=y0 z3 hr'
 have hr0:H r=none:=by
  have:=hr'
  rwa [z5 (Ne.symm pr)]at this
 exact q r _ hr0 (o7 (y3 hp _) hr0 _) z3
def M8 (K:W.Frag):Sp:=λvs H Q _=>∃(a b:Addr) (one other:List Nat),vs=[.ref a,.ref b]/\SqT K H a (tI one)/\SqT K H b (tI other)/\one.length<=1000/\(∀x∈one,x<other.length) /\
 ∀(r:Addr) (H':Hp),H r=none->y2 H H'->H' r=some (.tup (tI (one.map λx=>other.getD x 0)))->Q (.ref r) H'
theorem yh5:y4 ["one","other"] ["one","other"] (z8 zh6):=scq
theorem yg8 (D:Def K mg "behind" zh6 ["one","other"] f fd)(B:Blt mg):v1 P w K mg base CX0 1 f fd ["one","other"] (M8 K):=by
 refine D.F.ok yh5 (λvs H Q E h=>?_) (λcdv A outer s H vs Q E hr h=>?_)
 ·obtain⟨a,b,one,other,rfl,_⟩:=h
  rfl
 obtain⟨a,b,one,other,rfl,ha,hb,hl,hlt,q⟩:=h
 refine⟨_,z7 (y9 (u5 n5 rfl B.tuple Z5 (z0 (i5 [1] ["place","other"] rfl (yn9 (pv 0)) (λ_ _ _ _=>o4 R8 (pv 1) (pv 0) (λ_ _=>rfl))) z4))),?_⟩
 refine⟨_,rfl,a,rfl,⟨_,ha⟩,zs4 ha (tI (one.map λx=>other.getD x 0)) (by rw[v0,v0,aa]) (by rw[v0];exact small hl) ?_ ?_⟩
 ·intro i H1 x hx s1 _ _ _ _
  obtain⟨p,hp,rfl⟩:=K0 hx
  have hpl:p<other.length:=hlt p (aw hp)
  have hg:other[p]?=some other[p]:=ac hpl
  refine⟨_,rfl,_,rfl,b,_,_,_,rfl,rfl,s1.seqT hb,zb4 hg,y2.refl _,?_⟩
  rw[zz5,ag,hp]
  simp[ao,hg]
 ·intro Dl H1 hD s1 hl1
  exact⟨Dl,_,rfl,.inl ⟨SqL.of hl1,λl hl2=>q l _ (s1.free hl2) (o7 s1 (s1.free hl2) _) z3⟩⟩
def zq8 (K:W.Frag):Sp:=λvs H Q _=>∃(a:Addr) (n:Nat) (one:List Nat),vs=[.ref a]/\SqT K H a (tI one)/\TM.IsT n one/\n<=1000 /\
 ∀(r:Addr) (H':Hp) (b:List Nat),H r=none->y2 H H'->TM.Back n one n b->H' r=some (.tup (tI b))->Q (.ref r) H'
theorem zc8:y4 ["one","goes","place","to"] ["one"] (z8 zy5):=scq
theorem ys1 (D:Def K mg "back" zy5 ["one"] f fd)(B:Blt mg):v1 P w K mg base CX0 1 f fd ["one"] (zq8 K):=by
 refine D.F.ok zc8 (λvs H Q E h=>?_) (λcdv A outer s H vs Q E hr h=>?_)
 ·obtain⟨a,n,one,rfl,_⟩:=h
  rfl
 obtain⟨a,n,one,rfl,ha,hT,hn,q⟩:=h
 refine⟨_,z6 (x9 (i:=1) zc8.nd rfl (Or.inl rfl) (u5 V3 rfl B.list X5 (z0 (pv 0) z4)))
  (z6 (Q3 PassesOwn.never rfl (zh0 rfl B.enumerate (z0 (pv 0) z4)) (zp6 rfl (W4 (k8 (i:=2) zc8.nd rfl (Or.inl rfl)) (W4 (k8 (i:=3) zc8.nd rfl (Or.inl rfl)) zc7)))
   (z7 (zp8 (pv 2) (zy1 (pv 1) (pv 3) zi1))))
  (z7 (y9 (u5 n5 rfl B.tuple Z5 (z0 (pv 1) z4))))),?_⟩
 refine⟨_,rfl,a,tI one,rfl,.inr ha,λg hg=>?_⟩
 have s0:y2 H (upd H g (.lst (tI one))):=y3 hg _
 refine⟨_,rfl,a,rfl,⟨_,s0.seqT ha⟩,zf0 (xs:=tI one) (λi σ H2=>∃(b:List Nat) (v2 v3:Option V),σ=[some (.ref a),some (.ref g),v2,v3]/\y2 H H2/\H2 g=some (.lst (tI b))/\TM.Back n one i b)
  ⟨one,none,none,rfl,s0,z3,TM.Back.start hT.length⟩ (λi σ H2 _ ⟨_,_,_,_,s2,_⟩=>s2.seqT ha) ?_ ?_⟩
 ·rintro i x σ H2 T hx ⟨b,v2,v3,rfl,s2,hg2,bk⟩ hT2
  obtain⟨y,hy,rfl⟩:=K0 hx
  have hTg:g≠T:=y0 hg2 hT2
  have hyn:y<b.length:=by rw[bk.len];exact hT.get_lt hy
  refine⟨T,_,rfl,SqT.of z3,rfl,_,_,rfl,_,_,rfl,rfl,?_⟩
  refine⟨_,rfl,_,rfl,_,rfl,g,tI b,_,y,rfl,rfl,by rw[z5 hTg];exact hg2,by rw[v0];exact zc6 hyn,?_⟩
  refine⟨b.set y i,_,_,rfl,o7 (o7 s2 (s2.free hT2) _) hg _,by rw[z3,zr4],bk.step hT hy⟩
 ·rintro σ H2 ⟨b,v2,v3,rfl,s2,hg2,bk⟩
  rw[v0,hT.length]at bk
  exact⟨_,rfl,g,tI b,rfl,.inl ⟨SqL.of hg2,λl hl=>q l _ b (s2.free hl) (o7 s2 (s2.free hl) _) bk z3⟩⟩
structure p7 (K:W.Frag) (C:Addr) (xs:List Str):Prop where
 cls:Cls K C
 no:∀x∈xs,O1 K C x
def y1 (F:List Addr)(H H':Hp):Prop:=∀b o,b∉F->H b=some o->H' b=some o
theorem y1.refl {F:List Addr}{H:Hp}:y1 F H H:=λ_ _ _ h=>h
theorem y1.trans {F:List Addr}{H H1 H2:Hp}(a:y1 F H H1)(b:y1 F H1 H2):y1 F H H2:=λc o hc h=>b c o hc (a c o hc h)
theorem y2.frame {F:List Addr}{H H':Hp}(s:y2 H H'):y1 F H H':=λb o _ h=>s b o h
theorem y1.upd {F:List Addr}{H H':Hp}(s:y1 F H H'){a:Addr}(ha:a∈F)(o:HO):y1 F H (L2.upd H' a o):=λb u hb h=>by
 rw[z5 (λe=>hb (by rw[e];exact ha))]
 exact s b u hb h
theorem y1.more {F G:List Addr}{H H':Hp}(s:y1 F H H')(h:∀a∈F,a∈G):y1 G H H':=λb o hb e=>s b o (λz=>hb (h b z)) e
def kI (l:List (Nat×Nat)):List (Key×V):=l.map λx=>(Sum.inl (x.1:Int),V.int (x.2:Int))
theorem zf5 (l:List (Nat×Nat)):(kI l).length=l.length:=aa _
def atN {α:Type}(l:List (Nat×α))(k:Nat):Option α:=(l.find? λx=>decide (x.1=k)).map (·.2)
theorem V6 (l:List (Nat×Nat))(k:Nat):K3 (kI l) (Sum.inl (k:Int))=(atN l k).map λx=>V.int x:=by
 induction l with
 | nil=>rfl
 | cons x r ih =>
  by_cases h:x.1=k
  ·have e:atN (x::r) k=some x.2:=by unfold atN;rw[ci (by simpa using h)];rfl
   rw[e]
   exact L3 (p:=(Sum.inl (x.1:Int),V.int (x.2:Int))) (by show(Sum.inl (x.1:Int):Key)=Sum.inl (k:Int);rw[h])
  ·have e:atN (x::r) k=atN r k:=by unfold atN;rw[ck (by simpa using h)]
   rw[e,←ih]
   exact R4 (p:=(Sum.inl (x.1:Int),V.int (x.2:Int))) λz=>h (by have:=Sum.inl.inj z;lia)
structure StS where
 mv:List Nat
 to:List (Nat×Nat)
 wt:List (Nat×Nat)
 lk:Nat
structure ChS where
 ln:List TM.Ln
 md:List (List Nat)
 bl:List (Nat×Nat)
 st:List StS
 src:Nat->List Nat
structure StA where
 a:Addr
 m:Addr
 lt:Addr
 bf:Addr
 w:Addr
structure ChA where
 c:Addr
 b:Addr
 ll:Addr
 lm:Addr
 d:Addr
 l:Addr
 st:List StA
def StA.all (s:StA):List Addr:=[s.a,s.m,s.lt,s.bf,s.w]
def ChA.all (A:ChA):List Addr:=[A.c,A.b,A.ll,A.lm,A.d,A.l]++(A.st.map StA.all).flatten
structure Y7 (cB:Addr) (H:Hp) (A:ChA) (S:ChS):Prop where
 b:∃dx,H A.b=some (.ins cB dx [("lines",.ref A.ll),("made",.ref A.lm),("back_lines",.ref A.d)])
 ll:∃as,H A.ll=some (.lst (as.map V.ref))/\zd7 H as S.ln
 lm:∃as,H A.lm=some (.lst (as.map V.ref))/\h8 H as S.md
 d:H A.d=some (.dK (kI S.bl))
 len:S.ln.length=S.md.length
theorem h8.upd {H:Hp}{as:List Addr}{ts:List (List Nat)}{a:Addr}{o:HO}(h:h8 H as ts)(ha:∀xs,H a≠some (.tup xs)):h8 (L2.upd H a o) as ts:=Paired.imp' (λb t e=>by
 rw[z5 (λz=>by subst z;exact ha _ e)];exact e) h
theorem zd7.upd {H:Hp}{as:List Addr}{ls:List TM.Ln}{a:Addr}{o:HO}(h:zd7 H as ls)(ha:∀xs,H a≠some (.tup xs)):zd7 (L2.upd H a o) as ls:=Paired.imp' (λb t e=>by
 rw[z5 (λz=>by subst z;exact ha _ e)];exact e) h
def ChS.put (S:ChS)(l:TM.Ln)(t:List Nat):ChS:={ S with ln:=S.ln++[l],md:=S.md++[t] }
def za3:List Str:=["lines","made","back_lines"]
def yd8 (cB:Addr):Sp:=λvs H Q _=>∃(A:ChA) (S:ChS) (lr tr:Addr) (l:TM.Ln) (t:List Nat),vs=[.ref A.b,.ref lr,.ref tr]/\Y7 cB H A S/\A.ll≠A.lm/\H lr=some (.tup (lnV l))/\H tr=some (.tup (tI t))/\S.ln.length<10000000 /\
 ∀H':Hp,y1 [A.ll,A.lm] H H'->Y7 cB H' A (S.put l t)->Q (.int (S.ln.length:Int)) H'
theorem zu7:y4 ["self","line","turning"] ["self","line","turning"] (z8 I0):=scq
theorem Z0:10000000<eU:=by decide
theorem zu0 {cB:Addr}(F:Fun K "put" "Book.put" I0 f fd)(B:Blt mg)(cb:p7 K cB za3):v1 P w K mg base CX0 1 f fd ["self","line","turning"] (yd8 cB):=by
 refine F.ok zu7 (λvs H Q E h=>?_) (λcdv Ar outer s H vs Q E hr h=>?_)
 ·obtain⟨A,S,lr,tr,l,t,rfl,_⟩:=h
  rfl
 obtain⟨A,S,lr,tr,l,t,rfl,bk,hne,hl,ht,hlen,q⟩:=h
 obtain⟨⟨dx,hb⟩,⟨las,hll,hln⟩,⟨mas,hlm,hmd⟩,hd,hlen2⟩:=bk
 have hz:=Z0
 have nL:=cb.no "lines" (by decide)
 have nM:=cb.no "made" (by decide)
 refine⟨_,z6 (p5 (U8 PySem.F.plainAttrs_list PySem.F.slot_list_append PySem.F.type_list_append d0 (y6 (pv 0) rfl) (z0 (pv 1) z4)))
  (z6 (p5 (U8 PySem.F.plainAttrs_list PySem.F.slot_list_append PySem.F.type_list_append d0 (y6 (pv 0) rfl) (z0 (pv 2) z4)))
  (z7 (y9 (w8 zg7 (v8 u7 rfl B.len Y8 (z0 (y6 (pv 0) rfl) z4)) z9)))),?_⟩
 have las_l:las.length=S.ln.length:=Paired.length hln
 have mas_l:mas.length=S.md.length:=Paired.length hmd
 refine⟨_,rfl,A.b,cB,dx,_,_,rfl,hb,cb.cls,nL,rfl,.inl ⟨rfl,_,SqL.of hll⟩,_,rfl,A.ll,_,_,rfl,rfl,hll,by rw[aa];lia,?_⟩
 have b1:A.b≠A.ll:=o3 hb hll (by intro z;cases z)
 have e1:(upd H A.ll (.lst (las.map V.ref++[V.ref lr]))) A.b=some (.ins cB dx [("lines",.ref A.ll),("made",.ref A.lm),("back_lines",.ref A.d)]):=by rw[z5 b1];exact hb
 have e2:(upd H A.ll (.lst (las.map V.ref++[V.ref lr]))) A.lm=some (.lst (mas.map V.ref)):=by rw[z5 (Ne.symm hne)];exact hlm
 refine⟨_,rfl,A.b,cB,dx,_,_,rfl,e1,cb.cls,nM,rfl,.inl ⟨rfl,_,SqL.of e2⟩,_,rfl,A.lm,_,_,rfl,rfl,e2,by rw[aa];lia,?_⟩
 have b2:A.b≠A.lm:=o3 hb hlm (by intro z;cases z)
 have e3:(upd (upd H A.ll (.lst (las.map V.ref++[V.ref lr]))) A.lm (.lst (mas.map V.ref++[V.ref tr]))) A.b=some (.ins cB dx [("lines",.ref A.ll),("made",.ref A.lm),("back_lines",.ref A.d)]):=by rw[z5 b2];exact e1
 have e4:(upd (upd H A.ll (.lst (las.map V.ref++[V.ref lr]))) A.lm (.lst (mas.map V.ref++[V.ref tr]))) A.ll=some (.lst ((las++[lr]).map V.ref)):=by rw[z5 hne,z3,aF];rfl
 refine⟨_,rfl,A.b,cB,dx,_,_,rfl,e3,cb.cls,nL,rfl,A.ll,_,rfl,.inl (SqL.of e4),_,_,rfl,rfl,?_⟩
 have hv:((((las++[lr]).map V.ref).length:Nat):Int)-1=(S.ln.length:Int):=by
  rw[aa,af,aR,las_l]
  lia
 show Q (.int _) _
 rw[hv]
 have nt1:∀xs,H A.ll≠some (.tup xs):=λxs z=>by rw[hll]at z;cases z
 have nt2:∀xs,(upd H A.ll (.lst (las.map V.ref++[V.ref lr]))) A.lm≠some (.tup xs):=λxs z=>by rw[e2]at z;cases z
 have d1:A.d≠A.ll:=o3 hd hll (by intro z;cases z)
 have d2:A.d≠A.lm:=o3 hd hlm (by intro z;cases z)
 refine q _ (y1.upd (y1.upd y1.refl (by simp) _) (by simp) _) ⟨⟨dx,e3⟩,⟨las++[lr],e4,?_⟩,⟨mas++[tr],by rw[z3,aF];rfl,?_⟩,by rw[z5 d2,z5 d1];exact hd,by show(S.ln++[l]).length=(S.md++[t]).length;rw[af,af,hlen2];rfl⟩
 ·refine Paired.snoc ((hln.upd nt1).upd nt2) ?_
  rw[z5 (o3 hl hlm (by intro z;cases z)),z5 (o3 hl hll (by intro z;cases z))]
  exact hl
 ·refine Paired.snoc ((hmd.upd nt1).upd nt2) ?_
  rw[z5 (o3 ht hlm (by intro z;cases z)),z5 (o3 ht hll (by intro z;cases z))]
  exact ht
theorem Y7.same {cB:Addr}{H H':Hp}{A:ChA}{S:ChS}(h:Y7 cB H A S)(s:y2 H H'):Y7 cB H' A S :=
 ⟨h.b.imp λ_ e=>s _ _ e,h.ll.imp λ_ e=>⟨s _ _ e.1,e.2.same s⟩,h.lm.imp λ_ e=>⟨s _ _ e.1,e.2.same s⟩,s _ _ h.d,h.len⟩
def ChS.putB (S:ChS)(i j:Nat):Nat×ChS:=if i=0 then(j,S) else if j=0 then(i,S) else(S.ln.length,S.put (.behind i j) (TM.beh (S.md.getD i []) (S.md.getD j [])))
def yp2 (cB:Addr):Sp:=λvs H Q _=>∃(A:ChA) (S:ChS) (n i j:Nat),vs=[.ref A.b,.int i,.int j]/\Y7 cB H A S/\A.ll≠A.lm/\i<S.md.length/\j<S.md.length/\(∀t∈S.md,TM.IsT n t)/\n<=60/\S.ln.length<10000000 /\
 ∀H':Hp,y1 [A.ll,A.lm] H H'->Y7 cB H' A (S.putB i j).2->Q (.int ((S.putB i j).1:Int)) H'
theorem G2:y4 ["self","one","other"] ["self","one","other"] (z8 Y0):=scq
theorem Z6 {α:Type}{l:List α}{i:Nat}(d:α)(h:i<l.length):l[i]?=some (l.getD i d):=by
 rw[ao,ac h];rfl
theorem J5 {cB:Addr}(F:Fun K "put_behind" "Book.put_behind" Y0 f fd)(B:Blt mg)(cb:p7 K cB za3)(MP:h7 P w K mg base 1 cB "put" ["self","line","turning"] (yd8 cB))(KB:Known P w K mg base 1 "behind" ["one","other"] (M8 K))(GS:zj1 mg "STILL_LINE" (.int 0)):v1 P w K mg base CX0 2 f fd ["self","one","other"] (yp2 cB):=by
 refine F.ok G2 (λvs H Q E h=>?_) (λcdv Ar outer s H vs Q E hr h=>?_)
 ·obtain⟨A,S,n,i,j,rfl,_⟩:=h
  rfl
 obtain⟨A,S,n,i,j,rfl,bk,hne,hi,hj,hT,hn,hlen,q⟩:=h
 refine⟨_,z6 (n6 (p6 W2 (pv 1) (zb0 GS rfl) (u3 _)) (z7 (y9 (pv 2))) u6)
  (z6 (n6 (p6 W2 (pv 2) (zb0 GS rfl) (u3 _)) (z7 (y9 (pv 1))) u6)
  (z7 (y9 (c7 cb.cls MP hr (pv 0) (z0 (B6 (z0 zg8 (z0 (pv 1) (z0 (pv 2) z4)))) (z0 (u4 KB hr rfl (z0 (o4 t9 (y6 (pv 0) rfl) (pv 1) (λ_ _=>rfl)) (z0 (o4 t9 (y6 (pv 0) rfl) (pv 2) (λ_ _=>rfl)) z4))) z4)))))),?_⟩
 refine⟨_,rfl,rfl,_,rfl,yf9 (λc=>?_) (λc=>⟨_,rfl,rfl,_,rfl,yf9 (λc2=>?_) (λc2=>?_)⟩)⟩
 ·rw[p0]at c
  have e:i=0:=by have:=of_decide_eq_true c;lia
  have r:=q H y1.refl
  unfold ChS.putB at r
  rw[if_pos e]at r
  exact⟨_,rfl,r bk⟩
 ·rw[p0]at c c2
  have e:¬i=0:=by have:=of_decide_eq_false (bJ.mpr c);lia
  have e2:j=0:=by have:=of_decide_eq_true c2;lia
  have r:=q H y1.refl
  unfold ChS.putB at r
  rw[if_neg e,if_pos e2]at r
  exact⟨_,rfl,r bk⟩
 ·rw[p0]at c c2
  have e:¬i=0:=by have:=of_decide_eq_false (bJ.mpr c);lia
  have e2:¬j=0:=by have:=of_decide_eq_false (bJ.mpr c2);lia
  unfold ChS.putB at q
  rw[if_neg e,if_neg e2]at q
  obtain⟨dx,hb⟩:=bk.b
  obtain⟨mas,hlm,hmd⟩:=bk.lm
  have hz:=Z0
  refine⟨_,rfl,A.b,dx,_,rfl,hb,rfl,_,rfl,_,rfl,(by show 3<=eU;lia),λlr hlr=>?_⟩
  have s1:=y3 hlr (.tup [V.str "behind",V.int i,V.int j])
  have el:(upd H lr (.tup [V.str "behind",V.int i,V.int j])) lr=some (.tup (lnV (.behind i j))):=z3
  generalize upd H lr (.tup [V.str "behind",V.int i,V.int j])=H1 at s1 el ⊢
  have ti:TM.IsT n (S.md.getD i []):=hT _ (aw (Z6 [] hi))
  have tj:TM.IsT n (S.md.getD j []):=hT _ (aw (Z6 [] hj))
  obtain⟨ai,hai,hti⟩:=i4 hmd i _ (Z6 [] hi)
  obtain⟨aj,haj,htj⟩:=i4 hmd j _ (Z6 [] hj)
  have gi:atI (mas.map V.ref) ((i:Nat):Int)=some (V.ref ai):=m7 (by rw[ag,hai];rfl)
  have gj:atI (mas.map V.ref) ((j:Nat):Int)=some (V.ref aj):=m7 (by rw[ag,haj];rfl)
  refine⟨_,rfl,A.b,cB,dx,_,_,rfl,s1 _ _ hb,cb.cls,cb.no "made" (by decide),rfl,_,rfl,A.lm,_,_,_,rfl,rfl,SqL.of (s1 _ _ hlm),gi,_,rfl,A.b,cB,dx,_,_,rfl,s1 _ _ hb,cb.cls,cb.no "made" (by decide),rfl,_,rfl,A.lm,_,_,_,rfl,rfl,SqL.of (s1 _ _ hlm),gj,ai,aj,_,_,rfl,SqT.of (s1 _ _ hti),SqT.of (s1 _ _ htj),by rw[ti.length];lia,λx hx=>?_,λtr H2 htr s2 ht2=>?_⟩
  ·rw[tj.length]
   exact ti.lt hx
  exact⟨A,S,lr,tr,.behind i j,_,rfl,bk.same (s1.trans s2),hne,s2 _ _ el,ht2,hlen,λH3 fr bk3=>q H3 (λb o hb' e=>fr b o hb' ((s1.trans s2) _ _ e)) bk3⟩
def ChS.putK (n:Nat)(S:ChS)(i:Nat):Nat×ChS:=match atN S.bl i with
 | some k=>(k,S)
 | none=>(S.ln.length,{ S.put (.back i) (TM.bk n (S.md.getD i [])) with bl:=S.bl++[(i,S.ln.length)] })
def yp3 (cB:Addr):Sp:=λvs H Q _=>∃(A:ChA) (S:ChS) (n i:Nat),vs=[.ref A.b,.int i]/\Y7 cB H A S/\A.ll≠A.lm/\i<S.md.length/\(∀t∈S.md,TM.IsT n t)/\n<=60/\S.ln.length<10000000/\S.bl.length<10000000 /\
 ∀H':Hp,y1 [A.ll,A.lm,A.d] H H'->Y7 cB H' A (S.putK n i).2->Q (.int ((S.putK n i).1:Int)) H'
theorem A5:y4 ["self","one"] ["self","one"] (z8 b9):=scq
theorem zr6 {l:List (Nat×Nat)}{k:Nat}(h:atN l k=none):K3 (kI l) (Sum.inl (k:Int))=none:=by rw[V6,h];rfl
theorem zh4 {l:List (Nat×Nat)}{k v:Nat}(h:atN l k=none):putK (kI l) (Sum.inl (k:Int)) (V.int v)=kI (l++[(k,v)]):=by
 have e:=zr6 h
 unfold putK
 rw[L1,e]
 show kI l++[(Sum.inl (k:Int),V.int v)]=kI (l++[(k,v)])
 unfold kI
 rw[aF]
 rfl
theorem ze0 {l:List (Nat×Nat)}{k v:Nat}(h:atN l k=none):atN (l++[(k,v)]) k=some v:=by
 have h':l.find? (λx=>decide (x.1=k))=none:=by
  unfold atN at h
  cases e:l.find? (λx=>decide (x.1=k)) with
  | none=>rfl
  | some x=>rw[e]at h;cases h
 unfold atN
 rw[cZ,h']
 simp
theorem B2 {cB:Addr}(F:Fun K "put_back" "Book.put_back" b9 f fd)(B:Blt mg)(cb:p7 K cB za3)(MP:h7 P w K mg base 1 cB "put" ["self","line","turning"] (yd8 cB))(KB:Known P w K mg base 1 "back" ["one"] (zq8 K)):v1 P w K mg base CX0 2 f fd ["self","one"] (yp3 cB):=by
 refine F.ok A5 (λvs H Q E h=>?_) (λcdv Ar outer s H vs Q E hr h=>?_)
 ·obtain⟨A,S,n,i,rfl,_⟩:=h
  rfl
 obtain⟨A,S,n,i,rfl,bk,hne,hi,hT,hn,hlen,hbl,q⟩:=h
 have hu:(Ar.deeper (PyProof.Rows.envOfC "Book.put_back" (z8 b9) s.heap.objs.size f cdv)).units+1<cLine:=by have:=hr.units;lia
 refine⟨_,z6 (n6 (zq0 (B5 hu (pv 1) (y6 (pv 0) rfl))) (z7 (zp9 hu (y6 (pv 0) rfl) (pv 1) (c7 cb.cls MP hr (pv 0) (z0 (B6 (z0 zg8 (z0 (pv 1) z4))) (z0 (u4 KB hr rfl (z0 (o4 t9 (y6 (pv 0) rfl) (pv 1) (λ_ _=>rfl)) z4)) z4))) rfl)) u6)
  (z7 (y9 (L6 hu (y6 (pv 0) rfl) (pv 1) (λ_ _=>rfl)))),?_⟩
 obtain⟨dx,hb⟩:=bk.b
 obtain⟨mas,hlm,hmd⟩:=bk.lm
 have hz:=Z0
 have nB:=cb.no "back_lines" (by decide)
 refine⟨_,rfl,_,rfl,A.b,cB,dx,_,_,rfl,hb,cb.cls,nB,rfl,A.d,_,rfl,U6.k (k:=Sum.inl (i:Int)) bk.d,_,rfl,?_⟩
 rw[V6]
 cases ea:atN S.bl i with
 | some k =>
  have e1:S.putK n i=(k,S):=by unfold ChS.putK;rw[ea]
  rw[e1]at q
  refine o5 ⟨_,rfl,A.b,cB,dx,_,_,rfl,hb,cb.cls,nB,rfl,_,rfl,A.d,V.int k,rfl,?_,q H y1.refl bk⟩
  have g:=U6.k (k:=Sum.inl (i:Int)) bk.d
  rwa [V6,ea]at g
 | none =>
  have e1:S.putK n i=(S.ln.length,{ S.put (.back i) (TM.bk n (S.md.getD i [])) with bl:=S.bl++[(i,S.ln.length)] }):=by unfold ChS.putK;rw[ea]
  rw[e1]at q
  refine i0 ?_
  refine⟨_,rfl,A.b,dx,_,rfl,hb,rfl,_,rfl,(by show 2<=eU;lia),λlr hlr=>?_⟩
  have s1:=y3 hlr (.tup [V.str "back",V.int i])
  have el:(upd H lr (.tup [V.str "back",V.int i])) lr=some (.tup (lnV (.back i))):=z3
  generalize upd H lr (.tup [V.str "back",V.int i])=H1 at s1 el ⊢
  have ti:TM.IsT n (S.md.getD i []):=hT _ (aw (Z6 [] hi))
  obtain⟨ai,hai,hti⟩:=i4 hmd i _ (Z6 [] hi)
  have gi:atI (mas.map V.ref) ((i:Nat):Int)=some (V.ref ai):=m7 (by rw[ag,hai];rfl)
  refine⟨_,rfl,A.b,cB,dx,_,_,rfl,s1 _ _ hb,cb.cls,cb.no "made" (by decide),rfl,_,rfl,A.lm,_,_,_,rfl,rfl,SqL.of (s1 _ _ hlm),gi,ai,n,_,rfl,SqT.of (s1 _ _ hti),ti,by lia,λtr H2 bq htr s2 hbq ht2=>?_⟩
  have ebq:bq=TM.bk n (S.md.getD i []):=hbq.uniq ti (TM.bk_back ti)
  subst ebq
  refine⟨A,S,lr,tr,.back i,_,rfl,bk.same (s1.trans s2),hne,s2 _ _ el,ht2,hlen,λH3 fr bk3=>?_⟩
  obtain⟨dx3,hb3⟩:=bk3.b
  have hd3:H3 A.d=some (.dK (kI S.bl)):=bk3.d
  have kd:(kI S.bl).length<eU:=by rw[zf5];lia
  refine⟨_,rfl,A.b,cB,dx3,_,_,rfl,hb3,cb.cls,nB,rfl,_,rfl,A.d,_,rfl,zw1.k (k:=Sum.inl (i:Int)) hd3 kd,?_⟩
  rw[zh4 ea]
  have b3:A.b≠A.d:=o3 hb3 hd3 (by intro z;cases z)
  have eb4:(upd H3 A.d (.dK (kI (S.bl++[(i,S.ln.length)])))) A.b=some (.ins cB dx3 [("lines",.ref A.ll),("made",.ref A.lm),("back_lines",.ref A.d)]):=by rw[z5 b3];exact hb3
  refine⟨_,rfl,A.b,cB,dx3,_,_,rfl,eb4,cb.cls,nB,rfl,_,rfl,A.d,V.int (S.ln.length:Int),rfl,?_,?_⟩
  ·have g:=U6.k (k:=Sum.inl (i:Int)) (kvs:=kI (S.bl++[(i,S.ln.length)])) (H:=upd H3 A.d (.dK (kI (S.bl++[(i,S.ln.length)])))) z3
   rwa [V6,ze0 ea]at g
  ·obtain⟨las3,hll3,hln3⟩:=bk3.ll
   obtain⟨mas3,hlm3,hmd3⟩:=bk3.lm
   have nt:∀xs,H3 A.d≠some (.tup xs):=λxs z=>by rw[hd3]at z;cases z
   refine q _ ?_ ⟨⟨dx3,eb4⟩,⟨las3,by rw[z5 (o3 hll3 hd3 (by intro z;cases z))];exact hll3,hln3.upd nt⟩,⟨mas3,by rw[z5 (o3 hlm3 hd3 (by intro z;cases z))];exact hlm3,hmd3.upd nt⟩,z3,bk3.len⟩
   exact y1.upd (y1.trans (y2.frame (s1.trans s2)) (fr.more (λa ha=>by simp at ha ⊢;rcases ha with h|h <;> simp[h]))) (by simp) _
theorem S6 {α β:Type}{F G:α->β->Prop}:∀{as:List α} {bs:List β},Paired F as bs->(∀a∈as,∀b,F a b->G a b)->Paired G as bs
 | _,_,.nil,_=>.nil
 | _,_,.cons f r,h=>.cons (h _ ax _ f) (S6 r λa ha b q=>h a (av _ ha) b q)
theorem yf1 {K:PySem.W.Frag}{a:Addr}{xs:List V}{fr:List Nat}{te:CT TE}{σ:St}{H1:Hp}{Q:Addr->Hp->Prop}{α:Type}(g:α->HO)(ys:List α)(hS:SqL K H1 a xs)(hn:ys.length=xs.length)(hz:xs.length<=eU)
  (turn:∀(i:Nat) H x y,xs[i]?=some x->ys[i]?=some y->y2 H1 H->∀C₀ s₀ H₀ fp,te C₀ s₀ H₀ fp (some x::fr.map λj=>(σ[j]?).getD none) H λv H4=>y2 H H4/\∃b,v=.ref b/\H b=none/\H4 b=some (g y))
  (fin:∀D H as,H1 D=none->y2 H1 H->H D=some (.lst (as.map V.ref))->Paired (λb y=>H b=some (g y)) as ys->(∀b∈as,H1 b=none)->Q D H) :
  ∀D,H1 D=none->∃W:Nat->Nat->St->Hp->Prop,(∃m,W 0 m (P5 1 fr σ) (upd H1 D (.lst [])))/\∀i m σ' H',W i m σ' H' ->
  ((Itl K a).stop i H'/\Q D H')∨((Itl K a).go i H'/\∀x H2,(Itl K a).yld i H' x H2->∀C₀ s₀ H₀ fp,u9 0 x σ' H2 λσ3 H3=>∃N:VK,te C₀ s₀ H₀ fp σ3 H3 N/\∀y H4,N y H4 ->
   ∃ys m',H4 D=some (.lst ys)/\ys.length<eU/\m'<m/\W (i+1) m' σ3 (upd H4 D (.lst (ys++[y])))):=by
 intro D hD
 refine⟨λi m σ' H'=>m=xs.length-i/\i<=xs.length/\y2 H1 H'/\(∃as:List Addr,H' D=some (.lst (as.map V.ref))/\Paired (λb y=>H' b=some (g y)) as (ys.take i)/\(∀b∈as,b≠D)/\∀b∈as,H1 b=none)/\∃z,σ'=z::fr.map λj=>(σ[j]?).getD none,
  ⟨xs.length,rfl,aV _,y3 hD _,⟨[],z3,.nil,λ_ h=>(by cases h),λ_ h=>(by cases h)⟩,none,rfl⟩,?_⟩
 rintro i m σ' H' ⟨rfl,hi,sm,⟨as,hl,hP,hne,hnw⟩,z,rfl⟩
 by_cases hlt:i<xs.length
 ·refine .inr ⟨⟨xs,xs[i],sm.seq hS,by simp[hlt]⟩,λx H2 yl C₀ s₀ H₀ fp=>?_⟩
  obtain⟨e,hx⟩:=yl
  subst e
  have hxi:=hx xs (sm.seq hS)
  have hyi:ys[i]?=some ys[i]:=ac (by lia)
  refine⟨_,turn i _ x _ hxi hyi sm C₀ s₀ H₀ fp,λv H4 ⟨s4,b,hv,hb0,hG⟩=>?_⟩
  subst hv
  have hasl:as.length=i:=by rw[Paired.length hP,bj];lia
  have hD4:=s4 _ _ hl
  have hbD:b≠D:=Ne.symm (y0 hl hb0)
  refine⟨as.map V.ref,xs.length-(i+1),hD4,by rw[aa,hasl];lia,by lia,rfl,hlt,λc o e=>?_,⟨as++[b],by rw[z3,aF];rfl,?_,λc hc=>?_,λc hc=>?_⟩,_,rfl⟩
  ·rw[z5 (y0 e hD)]
   exact s4 _ _ (sm _ _ e)
  ·rw[bG,hyi]
   refine Paired.snoc (S6 hP λc hc y e=>by rw[z5 (hne c hc)];exact s4 _ _ e) ?_
   rw[z5 hbD]
   exact hG
  ·rcases aB.mp hc with w|w
   ·exact hne c w
   ·rw[ae.mp w];exact hbD
  ·rcases aB.mp hc with w|w
   ·exact hnw c w
   ·rw[ae.mp w];exact sm.free hb0
 ·have e:i=xs.length:=by lia
  subst e
  refine .inl ⟨⟨xs,sm.seq hS,aq _⟩,fin D H' as hD sm hl ?_ hnw⟩
  rw[bL (by lia)]at hP
  exact hP
theorem zw5 {J:It}{fr:List Nat}{te:CT TE}{σ:St}{H1:Hp}{Q:Addr->Hp->Prop}{α:Type}(g:α->HO)(ys:List α){n:Nat}(hn:ys.length=n)(hz:n<=eU)
  (hstop:∀H,y2 H1 H->J.stop n H) (hgo:∀i H,i<n->y2 H1 H->J.go i H)
  (turn:∀(i:Nat) H x H2 y,i<n->y2 H1 H->J.yld i H x H2->ys[i]?=some y->H2=H/\∀C₀ s₀ H₀ fp,te C₀ s₀ H₀ fp (some x::fr.map λj=>(σ[j]?).getD none) H λv H4=>y2 H H4/\∃b,v=.ref b/\H b=none/\H4 b=some (g y))
  (fin:∀D H as,H1 D=none->y2 H1 H->H D=some (.lst (as.map V.ref))->Paired (λb y=>H b=some (g y)) as ys->(∀b∈as,H1 b=none)->(∀b∈as,b≠D)->Q D H) :
  ∀D,H1 D=none->∃W:Nat->Nat->St->Hp->Prop,(∃m,W 0 m (P5 1 fr σ) (upd H1 D (.lst [])))/\∀i m σ' H',W i m σ' H' ->
  (J.stop i H'/\Q D H')∨(J.go i H'/\∀x H2,J.yld i H' x H2->∀C₀ s₀ H₀ fp,u9 0 x σ' H2 λσ3 H3=>∃N:VK,te C₀ s₀ H₀ fp σ3 H3 N/\∀y H4,N y H4 ->
   ∃ys m',H4 D=some (.lst ys)/\ys.length<eU/\m'<m/\W (i+1) m' σ3 (upd H4 D (.lst (ys++[y])))):=by
 intro D hD
 refine⟨λi m σ' H'=>m=n-i/\i<=n/\y2 H1 H'/\(∃as:List Addr,H' D=some (.lst (as.map V.ref))/\Paired (λb y=>H' b=some (g y)) as (ys.take i)/\(∀b∈as,b≠D)/\∀b∈as,H1 b=none)/\∃z,σ'=z::fr.map λj=>(σ[j]?).getD none,
  ⟨n,rfl,aV _,y3 hD _,⟨[],z3,.nil,λ_ h=>(by cases h),λ_ h=>(by cases h)⟩,none,rfl⟩,?_⟩
 rintro i m σ' H' ⟨rfl,hi,sm,⟨as,hl,hP,hne,hnw⟩,z,rfl⟩
 by_cases hlt:i<n
 ·refine .inr ⟨hgo i H' hlt sm,λx H2 yl C₀ s₀ H₀ fp=>?_⟩
  have hyi:ys[i]?=some ys[i]:=ac (by lia)
  obtain⟨e,tn⟩:=turn i H' x H2 _ hlt sm yl hyi
  subst e
  refine⟨_,tn C₀ s₀ H₀ fp,λv H4 ⟨s4,b,hv,hb0,hG⟩=>?_⟩
  subst hv
  have hasl:as.length=i:=by rw[Paired.length hP,bj];lia
  have hD4:=s4 _ _ hl
  have hbD:b≠D:=Ne.symm (y0 hl hb0)
  refine⟨as.map V.ref,n-(i+1),hD4,by rw[aa,hasl];lia,by lia,rfl,hlt,λc o e=>?_,⟨as++[b],by rw[z3,aF];rfl,?_,λc hc=>?_,λc hc=>?_⟩,_,rfl⟩
  ·rw[z5 (y0 e hD)]
   exact s4 _ _ (sm _ _ e)
  ·rw[bG,hyi]
   refine Paired.snoc (S6 hP λc hc y e=>by rw[z5 (hne c hc)];exact s4 _ _ e) ?_
   rw[z5 hbD]
   exact hG
  ·rcases aB.mp hc with w|w
   ·exact hne c w
   ·rw[ae.mp w];exact hbD
  ·rcases aB.mp hc with w|w
   ·exact hnw c w
   ·rw[ae.mp w];exact sm.free hb0
 ·have e:i=n:=by lia
  subst e
  refine .inl ⟨hstop H' sm,fin D H' as hD sm hl ?_ hnw hne⟩
  rw[bL (by lia)]at hP
  exact hP
abbrev zd8 (H:Hp) (ws:List Addr) (ps:List (Nat×Nat)):Prop:=Paired (λa (x:Nat×Nat)=>H a=some (.tup [.int (x.1:Int),.int (x.2:Int)])) ws ps
theorem zd8.same {H H':Hp}{ws:List Addr}{ps:List (Nat×Nat)}(h:zd8 H ws ps)(s:y2 H H'):zd8 H' ws ps:=Paired.imp' (λ_ _ e=>s _ _ e) h
theorem zd8.upd {H:Hp}{ws:List Addr}{ps:List (Nat×Nat)}{a:Addr}{o:HO}(h:zd8 H ws ps)(ha:∀xs,H a≠some (.tup xs)):zd8 (L2.upd H a o) ws ps:=Paired.imp' (λb t e=>by
 rw[z5 (λz=>by subst z;exact ha _ e)];exact e) h
theorem X0 {α β:Type}{F:α->β->Prop}:∀{as cs:List α} {bs ds:List β},Paired F as bs->Paired F cs ds->Paired F (as++cs) (bs++ds)
 | _,_,_,_,.nil,q=>q
 | _,_,_,_,.cons f r,q=>.cons f (X0 r q)
def kR (to:List (Nat×Nat))(bs:List Addr):List (Key×V):=(to.zip bs).map λp=>(Sum.inl (p.1.1:Int),V.ref p.2)
structure i7 (cS:Addr) (n:Nat) (md:List (List Nat)) (H:Hp) (A:StA) (i:Nat) (s:StS):Prop where
 a:∃dx,H A.a=some (.ins cS dx [("place",.int i),("movers",.ref A.m),("line_to",.ref A.lt),("back_from",.ref A.bf),("waiting",.ref A.w),("looked_at",.int (s.lk:Int))])
 m:H A.m=some (.lst (tI s.mv))
 lt:H A.lt=some (.dK (kI s.to))
 bf:∃bs:List Addr,H A.bf=some (.dK (kR s.to bs))/\Paired (λ(x:Nat×Nat) b=>H b=some (.tup (tI (TM.bk n (md.getD x.2 []))))) s.to bs
 w:∃ws:List Addr,H A.w=some (.lst (ws.map V.ref))/\zd8 H ws s.wt
def M9:List Str:=["place","movers","line_to","back_from","waiting","looked_at"]
theorem yh4 {H H':Hp}{d:Addr}{o u:HO}(hd:H d=some u)(s:y2 (upd H d o) H'):y2 H (upd H' d u):=λb v h=>by
 by_cases e:b=d
 ·subst e
  rw[z3,←hd,h]
 ·rw[z5 e]
  exact s _ _ (by rw[z5 e];exact h)
def StS.putM (s:StS)(k:Nat):StS:={ s with mv:=s.mv++[k],wt:=s.wt++s.to.map λx=>(x.1,k) }
def zz2 (cS:Addr):Sp:=λvs H Q _=>∃(A:StA) (n:Nat) (md:List (List Nat)) (i k:Nat) (s:StS),vs=[.ref A.a,.int k]/\i7 cS n md H A i s/\A.m≠A.w/\s.mv.length<1000000/\s.to.length<=1000000/\s.wt.length<=1000000 /\
 ∀H':Hp,y1 [A.m,A.w] H H'->i7 cS n md H' A i (s.putM k)->Q .non H'
theorem D5:y4 ["self","mover"] ["self","mover"] (z8 X4):=scq
theorem E8 {cS:Addr}(F:Fun K "put_mover" "Step.put_mover" X4 f fd)(B:Blt mg)(cs:p7 K cS M9):v1 P w K mg base CX0 1 f fd ["self","mover"] (zz2 cS):=by
 refine F.ok D5 (λvs H Q E h=>?_) (λcdv Ar outer s H vs Q E hr h=>?_)
 ·obtain⟨A,n,md,i,k,s,rfl,_⟩:=h
  rfl
 obtain⟨A,n,md,i,k,s,rfl,⟨⟨dx,ha⟩,hm,hlt,⟨bs,hbf,hbs⟩,⟨ws,hw,hws⟩⟩,hne,hml,htl,hwl,q⟩:=h
 have hz:=Z0
 have hwsl:ws.length=s.wt.length:=Paired.length hws
 refine⟨_,z6 (p5 (U8 PySem.F.plainAttrs_list PySem.F.slot_list_append PySem.F.type_list_append d0 (y6 (pv 0) rfl) (z0 (pv 1) z4)))
  (z7 (p5 (U8 PySem.F.plainAttrs_list PySem.F.slot_list_extend PySem.F.type_list_extend L5 (y6 (pv 0) rfl) (z0 (ys8 (i5 [1] ["place","mover"] rfl (ys9 (y6 (pv 0) rfl)) (λ_ _ _ _=>B6 (z0 (pv 0) (z0 (pv 1) z4))))) z4)))),?_⟩
 refine⟨_,rfl,A.a,cS,dx,_,_,rfl,ha,cs.cls,cs.no "movers" (by decide),rfl,.inl ⟨rfl,_,SqL.of hm⟩,_,rfl,A.m,_,_,rfl,rfl,hm,by rw[v0];lia,?_⟩
 have am:A.a≠A.m:=o3 ha hm (by intro z;cases z)
 have lm:A.lt≠A.m:=o3 hlt hm (by intro z;cases z)
 have bm:A.bf≠A.m:=o3 hbf hm (by intro z;cases z)
 have nt1:∀xs,H A.m≠some (.tup xs):=λxs z=>by rw[hm]at z;cases z
 have ha1:(upd H A.m (.lst (tI s.mv++[V.int k]))) A.a=some (.ins cS dx [("place",.int i),("movers",.ref A.m),("line_to",.ref A.lt),("back_from",.ref A.bf),("waiting",.ref A.w),("looked_at",.int (s.lk:Int))]):=by rw[z5 am];exact ha
 have hm1:(upd H A.m (.lst (tI s.mv++[V.int k]))) A.m=some (.lst (tI (s.mv++[k]))):=by rw[z3,R1];rfl
 have hlt1:(upd H A.m (.lst (tI s.mv++[V.int k]))) A.lt=some (.dK (kI s.to)):=by rw[z5 lm];exact hlt
 have hbf1:(upd H A.m (.lst (tI s.mv++[V.int k]))) A.bf=some (.dK (kR s.to bs)):=by rw[z5 bm];exact hbf
 have hw1:(upd H A.m (.lst (tI s.mv++[V.int k]))) A.w=some (.lst (ws.map V.ref)):=by rw[z5 (Ne.symm hne)];exact hw
 have hws1:=zd8.upd (o:=.lst (tI s.mv++[V.int k])) hws nt1
 have hbs1:Paired (λ(x:Nat×Nat) b=>(upd H A.m (.lst (tI s.mv++[V.int k]))) b=some (.tup (tI (TM.bk n (md.getD x.2 []))))) s.to bs:=Paired.imp' (λx b e=>by rw[z5 (λz=>by subst z;exact nt1 _ e)];exact e) hbs
 have fr1:y1 [A.m,A.w] H (upd H A.m (.lst (tI s.mv++[V.int k]))):=y1.upd y1.refl (by simp) _
 generalize upd H A.m (.lst (tI s.mv++[V.int k]))=H1 at ha1 hm1 hlt1 hbf1 hw1 hws1 hbs1 fr1 ⊢
 refine⟨_,rfl,A.a,cS,dx,_,_,rfl,ha1,cs.cls,cs.no "waiting" (by decide),rfl,.inl ⟨rfl,_,SqL.of hw1⟩,?_⟩
 refine⟨A.lt,kI s.to,hlt1,_,rfl,A.a,cS,dx,_,_,rfl,ha1,cs.cls,cs.no "line_to" (by decide),rfl,A.lt,_,rfl,hlt1,λob=>?_⟩
 refine zw5 (λ(y:Nat×Nat)=>HO.tup [.int (y.1:Int),.int (y.2:Int)]) (s.to.map λx=>(x.1,k)) (n:=(kI s.to).length) (by rw[aa,zf5]) (by rw[zf5];lia) (λH2 s2=>⟨s2 _ _ z3,aq _⟩) (λj H2 hj s2=>⟨s2 _ _ z3,hj⟩) ?_ ?_
 ·rintro j H2 x H3 y hj s2 ⟨rfl,kk,vv,hk,rfl⟩ hy
  refine⟨rfl,λ_ _ _ _=>?_⟩
  rw[ag]at hy
  unfold kI at hk
  rw[ag]at hk
  cases e:s.to[j]? with
  | none=>rw[e]at hk;cases hk
  | some p =>
   rw[e]at hk hy
   cases hk
   cases hy
   exact⟨_,rfl,_,rfl,(by show 2<=eU;lia),λr hr'=>⟨y3 hr' _,r,rfl,hr',z3⟩⟩
 ·intro Dl H2 as hD s2 hl2 hP hnw hnD
  have s3:=yh4 hlt1 s2
  have hDl:H1 Dl=none:=by
   cases e:H1 Dl with
   | none=>rfl
   | some u=>exact absurd hD (by rw[z5 (λz=>by subst z;rw[z3]at hD;cases hD),e];intro z;cases z)
  have dne:Dl≠A.lt:=λz=>by subst z;rw[hlt1]at hDl;cases hDl
  refine⟨⟨ob,s2 _ _ z3⟩,?_⟩
  have hl3:(upd H2 A.lt (.dK (kI s.to))) Dl=some (.lst (as.map V.ref)):=by rw[z5 dne];exact hl2
  have hP3:zd8 (upd H2 A.lt (.dK (kI s.to))) as (s.to.map λx=>(x.1,k)):=S6 hP λb hb y e=>by
   rw[z5 (λz=>by
    have:=hnw b hb
    rw[z,z3]at this
    cases this)]
   exact e
  generalize upd H2 A.lt (.dK (kI s.to))=H3 at s3 hl3 hP3 ⊢
  refine⟨A.w,Dl,_,_,rfl,rfl,s3 _ _ hw1,hl3,?_,?_⟩
  ·rw[aa,aa,hwsl,Paired.length hP3,aa]
   lia
  ·have wa:A.a≠A.w:=o3 ha1 hw1 (by intro z;cases z)
   have wm:A.m≠A.w:=hne
   have wl:A.lt≠A.w:=o3 hlt1 hw1 (by intro z;cases z)
   have wb:A.bf≠A.w:=o3 hbf1 hw1 (by intro z;cases z)
   have nt3:∀xs,H3 A.w≠some (.tup xs):=λxs z=>by rw[s3 _ _ hw1]at z;cases z
   refine q _ (y1.upd (y1.trans fr1 (y2.frame s3)) (by simp) _) ⟨⟨dx,by rw[z5 wa];exact s3 _ _ ha1⟩,by rw[z5 wm];exact s3 _ _ hm1,by rw[z5 wl];exact s3 _ _ hlt1,⟨bs,by rw[z5 wb];exact s3 _ _ hbf1,?_⟩,⟨ws++as,by rw[z3,aF],?_⟩⟩
   ·exact Paired.imp' (λx b e=>by
     have e':=s3 _ _ e
     rw[z5 (λz=>by subst z;exact nt3 _ e')];exact e') hbs1
   ·exact X0 ((hws1.same s3).upd nt3) (hP3.upd nt3)
def StS.putP (s:StS)(p k:Nat):StS:={ s with to:=s.to++[(p,k)],wt:=s.wt++s.mv.map λm=>(p,m) }
def yp4 (cS:Addr):Sp:=λvs H Q _=>∃(A:StA) (n:Nat) (md:List (List Nat)) (i p k:Nat) (s:StS) (tr:Addr) (t:List Nat),vs=[.ref A.a,.int p,.int k,.ref tr]/\i7 cS n md H A i s/\H tr=some (.tup (tI t))/\md.getD k []=t/\TM.IsT n t/\n<=60/\atN s.to p=none/\A.m≠A.w/\A.lt≠A.bf/\s.mv.length<1000000/\s.to.length<1000000/\s.wt.length<=1000000 /\
 ∀H':Hp,y1 [A.lt,A.bf,A.w] H H'->i7 cS n md H' A i (s.putP p k)->Q .non H'
theorem D6:y4 ["self","place","line","turning"] ["self","place","line","turning"] (z8 c6):=scq
theorem yw6 {to:List (Nat×Nat)}{bs:List Addr}(h:to.length=bs.length):(kR to bs).length=to.length:=by
 unfold kR
 rw[aa,List.length_zip,←h,Nat.min_self]
theorem ye3:∀{to:List (Nat×Nat)} {bs:List Addr},to.length=bs.length->∀{p:Nat},atN to p=none->K3 (kR to bs) (Sum.inl (p:Int))=none
 | [],[],_,p,_=>rfl
 | x::to,b::bs,hl,p,h=>by
  have hx:¬x.1=p:=λe=>by unfold atN at h;rw[ci (by simpa using e)]at h;cases h
  have h':atN to p=none:=by unfold atN at h ⊢;rwa [ck (by simpa using hx)]at h
  have e:kR (x::to) (b::bs)=(Sum.inl (x.1:Int),V.ref b)::kR to bs:=rfl
  rw[e,R4 (λz=>hx (by have:=Sum.inl.inj z;lia))]
  exact ye3 (by simpa using hl) h'
theorem yt1 {to:List (Nat×Nat)}{bs:List Addr}{p k:Nat}{r:Addr}(hl:to.length=bs.length)(h:atN to p=none):putK (kR to bs) (Sum.inl (p:Int)) (V.ref r)=kR (to++[(p,k)]) (bs++[r]):=by
 have e:=ye3 hl h
 unfold putK
 rw[L1,e]
 show kR to bs++[(Sum.inl (p:Int),V.ref r)]=_
 unfold kR
 rw[List.zip_append hl,aF]
 rfl
theorem zp4 {α β:Type}{F:α->β->Prop}{as:List α}{bs:List β}{a:α}{b:β}(h:Paired F as bs)(f:F a b):Paired F (as++[a]) (bs++[b]):=X0 h (.cons f .nil)
theorem E9 {cS:Addr}(F:Fun K "put_place" "Step.put_place" c6 f fd)(B:Blt mg)(cs:p7 K cS M9)(KB:Known P w K mg base 1 "back" ["one"] (zq8 K)):v1 P w K mg base CX0 2 f fd ["self","place","line","turning"] (yp4 cS):=by
 refine F.ok D6 (λvs H Q E h=>?_) (λcdv Ar outer sh H vs Q E hr h=>?_)
 ·obtain⟨A,n,md,i,p,k,s,tr,t,rfl,_⟩:=h
  rfl
 obtain⟨A,n,md,i,p,k,s,tr,t,rfl,⟨⟨dx,ha⟩,hm,hlt,⟨bs,hbf,hbs⟩,⟨ws,hw,hws⟩⟩,htr,hmd,hT,hn,hp,hne,hne2,hml,htl,hwl,q⟩:=h
 have hz:=Z0
 have hwsl:ws.length=s.wt.length:=Paired.length hws
 have hbsl:s.to.length=bs.length:=Paired.length hbs
 have hu:(Ar.deeper (PyProof.Rows.envOfC "Step.put_place" (z8 c6) sh.heap.objs.size f cdv)).units+1<cLine:=by have:=hr.units;lia
 refine⟨_,z6 (zp9 hu (y6 (pv 0) rfl) (pv 1) (pv 2) rfl)
  (z6 (zp9 hu (y6 (pv 0) rfl) (pv 1) (u4 KB hr rfl (z0 (pv 3) z4)) rfl)
  (z7 (p5 (U8 PySem.F.plainAttrs_list PySem.F.slot_list_extend PySem.F.type_list_extend L5 (y6 (pv 0) rfl) (z0 (i5 [1] ["mover","place"] rfl (d6 (y6 (pv 0) rfl)) (λ_ _ _ _=>B6 (z0 (pv 1) (z0 (pv 0) z4)))) z4))))),?_⟩
 refine⟨_,rfl,_,rfl,A.a,cS,dx,_,_,rfl,ha,cs.cls,cs.no "line_to" (by decide),rfl,_,rfl,A.lt,_,rfl,zw1.k (k:=Sum.inl (p:Int)) hlt (by rw[zf5];lia),?_⟩
 rw[zh4 hp]
 have k1:∀{b:Addr} {o:HO},H b=some o->o≠.dK (kI s.to)->(upd H A.lt (.dK (kI (s.to++[(p,k)])))) b=some o:=λ{b o} h d=>by rw[z5 (o3 h hlt d)];exact h
 have ha1:=k1 ha (by intro z;cases z)
 have hm1:=k1 hm (by intro z;cases z)
 have htr1:=k1 htr (by intro z;cases z)
 have hw1:=k1 hw (by intro z;cases z)
 have hbf1:(upd H A.lt (.dK (kI (s.to++[(p,k)])))) A.bf=some (.dK (kR s.to bs)):=by rw[z5 (Ne.symm hne2)];exact hbf
 have hlt1:(upd H A.lt (.dK (kI (s.to++[(p,k)])))) A.lt=some (.dK (kI (s.to++[(p,k)]))):=z3
 have hws1:zd8 (upd H A.lt (.dK (kI (s.to++[(p,k)])))) ws s.wt:=Paired.imp' (λx b e=>k1 e (by intro z;cases z)) hws
 have hbs1:Paired (λ(x:Nat×Nat) b=>(upd H A.lt (.dK (kI (s.to++[(p,k)])))) b=some (.tup (tI (TM.bk n (md.getD x.2 []))))) s.to bs:=Paired.imp' (λx b e=>k1 e (by intro z;cases z)) hbs
 have fr1:y1 [A.lt,A.bf,A.w] H (upd H A.lt (.dK (kI (s.to++[(p,k)])))):=y1.upd y1.refl (by simp) _
 clear k1
 generalize upd H A.lt (.dK (kI (s.to++[(p,k)])))=H1 at ha1 hm1 htr1 hw1 hbf1 hlt1 hws1 hbs1 fr1 ⊢
 refine⟨_,rfl,tr,n,t,rfl,SqT.of htr1,hT,by lia,λr H2 b hr2 s2 hb hrr=>?_⟩
 have eb:b=TM.bk n t:=hb.uniq hT (TM.bk_back hT)
 subst eb
 have hbf2:=s2 _ _ hbf1
 refine⟨_,rfl,A.a,cS,dx,_,_,rfl,s2 _ _ ha1,cs.cls,cs.no "back_from" (by decide),rfl,_,rfl,A.bf,_,rfl,zw1.k (k:=Sum.inl (p:Int)) hbf2 (by rw[yw6 hbsl];lia),?_⟩
 rw[yt1 (k:=k) hbsl hp]
 have k2:∀{b:Addr} {o:HO},H1 b=some o->b≠A.bf->(upd H2 A.bf (.dK (kR (s.to++[(p,k)]) (bs++[r])))) b=some o:=λ{b o} h d=>by rw[z5 d];exact s2 _ _ h
 have nbf:∀{b:Addr} {o:HO},H1 b=some o->o≠.dK (kR s.to bs)->b≠A.bf:=λ{b o} h d=>o3 h hbf1 d
 have ha3:=k2 ha1 (nbf ha1 (by intro z;cases z))
 have hm3:=k2 hm1 (nbf hm1 (by intro z;cases z))
 have hw3:=k2 hw1 (nbf hw1 (by intro z;cases z))
 have hlt3:=k2 hlt1 hne2
 have hbf3:(upd H2 A.bf (.dK (kR (s.to++[(p,k)]) (bs++[r])))) A.bf=some (.dK (kR (s.to++[(p,k)]) (bs++[r]))):=z3
 have hws3:zd8 (upd H2 A.bf (.dK (kR (s.to++[(p,k)]) (bs++[r])))) ws s.wt:=Paired.imp' (λx b e=>k2 e (nbf e (by intro z;cases z))) hws1
 have hr3:(upd H2 A.bf (.dK (kR (s.to++[(p,k)]) (bs++[r])))) r=some (.tup (tI (TM.bk n t))):=by rw[z5 (o3 hrr hbf2 (by intro z;cases z))];exact hrr
 have hbs3:Paired (λ(x:Nat×Nat) b=>(upd H2 A.bf (.dK (kR (s.to++[(p,k)]) (bs++[r])))) b=some (.tup (tI (TM.bk n (md.getD x.2 []))))) (s.to++[(p,k)]) (bs++[r]) :=
  zp4 (Paired.imp' (λx b e=>k2 e (nbf e (by intro z;cases z))) hbs1) (by show _=some (HO.tup (tI (TM.bk n (md.getD k []))));rw[hmd];exact hr3)
 have fr3:y1 [A.lt,A.bf,A.w] H (upd H2 A.bf (.dK (kR (s.to++[(p,k)]) (bs++[r])))):=y1.upd (y1.trans fr1 (y2.frame s2)) (by simp) _
 clear k2 nbf
 generalize upd H2 A.bf (.dK (kR (s.to++[(p,k)]) (bs++[r])))=H3 at ha3 hm3 hw3 hlt3 hbf3 hws3 hr3 hbs3 fr3 ⊢
 refine⟨_,rfl,A.a,cS,dx,_,_,rfl,ha3,cs.cls,cs.no "waiting" (by decide),rfl,.inl ⟨rfl,_,SqL.of hw3⟩,?_⟩
 refine⟨_,rfl,A.a,cS,dx,_,_,rfl,ha3,cs.cls,cs.no "movers" (by decide),rfl,A.m,rfl,⟨_,SqL.of hm3⟩,?_⟩
 refine yf1 (λ(y:Nat×Nat)=>HO.tup [.int (y.1:Int),.int (y.2:Int)]) (s.mv.map λm=>(p,m)) (SqL.of hm3) (by rw[aa,v0]) (by rw[v0];lia) ?_ ?_
 ·intro j H4 x y hx hy s4 _ _ _ _
  obtain⟨m,hm',rfl⟩:=K0 hx
  rw[ag,hm']at hy
  cases hy
  exact⟨_,rfl,_,rfl,(by show 2<=eU;lia),λr' hr'=>⟨y3 hr' _,r',rfl,hr',z3⟩⟩
 ·intro Dl H4 as hD s4 hl4 hP4 hnw
  refine⟨A.w,Dl,_,_,rfl,rfl,s4 _ _ hw3,hl4,?_,?_⟩
  ·rw[aa,aa,hwsl,Paired.length hP4,aa]
   lia
  ·have hw4:=s4 _ _ hw3
   have k4:∀{b:Addr} {o:HO},H4 b=some o->b≠A.w->(upd H4 A.w (.lst (ws.map V.ref++as.map V.ref))) b=some o:=λ{b o} h d=>by rw[z5 d];exact h
   have nw:∀{b:Addr} {o:HO},H4 b=some o->o≠.lst (ws.map V.ref)->b≠A.w:=λ{b o} h d=>o3 h hw4 d
   refine q _ (y1.upd (y1.trans fr3 (y2.frame s4)) (by simp) _) ⟨⟨dx,k4 (s4 _ _ ha3) (nw (s4 _ _ ha3) (by intro z;cases z))⟩,k4 (s4 _ _ hm3) hne,k4 (s4 _ _ hlt3) (nw (s4 _ _ hlt3) (by intro z;cases z)),⟨bs++[r],k4 (s4 _ _ hbf3) (nw (s4 _ _ hbf3) (by intro z;cases z)),Paired.imp' (λx b e=>k4 (s4 _ _ e) (nw (s4 _ _ e) (by intro z;cases z))) hbs3⟩,⟨ws++as,by rw[z3,aF],?_⟩⟩
   exact X0 (Paired.imp' (λx b e=>k4 (s4 _ _ e) (nw (s4 _ _ e) (by intro z;cases z))) hws3) (Paired.imp' (λx b e=>k4 e (nw e (by intro z;cases z))) hP4)
def yp1 (cS:Addr):Sp:=λvs H Q _=>∃(A:StA) (n:Nat) (md:List (List Nat)) (i:Nat) (s:StS),vs=[.ref A.a]/\i7 cS n md H A i s/\s.lk<=s.wt.length/\s.wt.length<=1000000 /\
 (s.lk=s.wt.length->Q .non H)/\∀(x:Nat×Nat) (r:Addr) (H':Hp),s.wt[s.lk]?=some x->H' r=some (.tup [.int (x.1:Int),.int (x.2:Int)])->y1 [A.a] H H'->i7 cS n md H' A i { s with lk:=s.lk+1 }->Q (.ref r) H'
theorem D4:y4 ["self"] ["self"] (z8 X3):=scq
theorem E7 {cS:Addr}(F:Fun K "next_pair" "Step.next_pair" X3 f fd)(B:Blt mg)(cs:p7 K cS M9):v1 P w K mg base CX0 1 f fd ["self"] (yp1 cS):=by
 refine F.ok D4 (λvs H Q E h=>?_) (λcdv Ar outer s H vs Q E hr h=>?_)
 ·obtain⟨A,n,md,i,s,rfl,_⟩:=h
  rfl
 obtain⟨A,n,md,i,s,rfl,st,hlk,hwl,q1,q2⟩:=h
 obtain⟨⟨dx,ha⟩,hm,hlt,⟨bs,hbf,hbs⟩,⟨ws,hw,hws⟩⟩:=id st
 have hz:=Z0
 have hwsl:ws.length=s.wt.length:=Paired.length hws
 refine⟨_,z6 (n6 (p6 W2 (y6 (pv 0) rfl) (v8 u7 rfl B.len Y8 (z0 (y6 (pv 0) rfl) z4)) (u3 _)) (z7 (y9 zy0)) u6)
  (z6 (yh3 (pv 0) z9 yr4)
  (z7 (y9 (o4 t9 (y6 (pv 0) rfl) (w8 zg7 (y6 (pv 0) rfl) z9) (λ_ _=>rfl))))),?_⟩
 refine⟨_,rfl,A.a,cS,dx,_,_,rfl,ha,cs.cls,cs.no "looked_at" (by decide),rfl,_,rfl,A.a,cS,dx,_,_,rfl,ha,cs.cls,cs.no "waiting" (by decide),rfl,A.w,_,rfl,.inl (SqL.of hw),rfl,_,rfl,yf9 (λc=>?_) (λc=>?_)⟩
 ·rw[p0,aa,hwsl]at c
  exact q1 (by have:=of_decide_eq_true c;lia)
 ·rw[p0,aa,hwsl]at c
  have hlt':s.lk<s.wt.length:=by have:=of_decide_eq_false (bJ.mpr c);lia
  refine⟨_,rfl,A.a,cS,dx,_,_,rfl,ha,cs.cls,cs.no "looked_at" (by decide),rfl,_,_,rfl,rfl,dx,_,ha,(by show 6<1000;decide),?_⟩
  have e1:(upd H A.a (.ins cS dx (c5 "looked_at" (V.int ((s.lk:Int)+1)) [("place",.int i),("movers",.ref A.m),("line_to",.ref A.lt),("back_from",.ref A.bf),("waiting",.ref A.w),("looked_at",.int (s.lk:Int))]))) A.a=some (.ins cS dx [("place",.int i),("movers",.ref A.m),("line_to",.ref A.lt),("back_from",.ref A.bf),("waiting",.ref A.w),("looked_at",.int ((s.lk+1:Nat):Int))]):=by
   rw[z3,show((s.lk+1:Nat):Int)=(s.lk:Int)+1 by lia]
   rfl
  have fr:y1 [A.a] H (upd H A.a (.ins cS dx (c5 "looked_at" (V.int ((s.lk:Int)+1)) [("place",.int i),("movers",.ref A.m),("line_to",.ref A.lt),("back_from",.ref A.bf),("waiting",.ref A.w),("looked_at",.int (s.lk:Int))]))):=y1.upd y1.refl (by simp) _
  generalize upd H A.a (.ins cS dx (c5 "looked_at" (V.int ((s.lk:Int)+1)) [("place",.int i),("movers",.ref A.m),("line_to",.ref A.lt),("back_from",.ref A.bf),("waiting",.ref A.w),("looked_at",.int (s.lk:Int))]))=H1 at e1 fr ⊢
  have k:∀{b:Addr} {o:HO},H b=some o->o≠.ins cS dx [("place",.int i),("movers",.ref A.m),("line_to",.ref A.lt),("back_from",.ref A.bf),("waiting",.ref A.w),("looked_at",.int (s.lk:Int))]->H1 b=some o:=λ{b o} h d=>fr b o (by simpa using o3 h ha d) h
  have hx:s.wt[s.lk]?=some s.wt[s.lk]:=ac hlt'
  obtain⟨r,hr1,hr2⟩:=i4 hws s.lk _ hx
  have hw1:=k hw (by intro z;cases z)
  have gi:atI (ws.map V.ref) ((s.lk:Nat):Int)=some (V.ref r):=m7 (by rw[ag,hr1];rfl)
  refine⟨_,rfl,A.a,cS,dx,_,_,rfl,e1,cs.cls,cs.no "waiting" (by decide),rfl,_,rfl,A.a,cS,dx,_,_,rfl,e1,cs.cls,cs.no "looked_at" (by decide),rfl,_,_,rfl,rfl,A.w,_,_,_,rfl,rfl,SqL.of hw1,?_,q2 _ r H1 hx (k hr2 (by intro z;cases z)) fr ⟨⟨dx,e1⟩,k hm (by intro z;cases z),k hlt (by intro z;cases z),⟨bs,k hbf (by intro z;cases z),Paired.imp' (λx b e=>k e (by intro z;cases z)) hbs⟩,⟨ws,hw1,Paired.imp' (λx b e=>k e (by intro z;cases z)) hws⟩⟩⟩
  rw[show((s.lk+1:Nat):Int)-1=((s.lk:Nat):Int) by lia]
  exact gi
def zv4 (K:W.Frag):Sp:=λvs H Q _=>∃(a b:Addr) (n:Nat) (t by_:List Nat),vs=[.ref a,.ref b]/\SqT K H a (tI t)/\SqT K H b (tI by_)/\TM.IsT n t/\TM.IsT n by_/\n<=1000 /\
 ∀(r:Addr) (H':Hp) (c:List Nat),H r=none->y2 H H'->TM.Conj n t by_ c->H' r=some (.tup (tI c))->Q (.ref r) H'
theorem L8:y4 ["one","by","goes","place","to"] ["one","by"] (z8 zh7):=scq
theorem yh1 (D:Def K mg "turned" zh7 ["one","by"] f fd)(B:Blt mg):v1 P w K mg base CX0 1 f fd ["one","by"] (zv4 K):=by
 refine D.F.ok L8 (λvs H Q E h=>?_) (λcdv A outer s H vs Q E hr h=>?_)
 ·obtain⟨a,b,n,t,by_,rfl,_⟩:=h
  rfl
 obtain⟨a,b,n,t,by_,rfl,ha,hb,hT,hB,hn,q⟩:=h
 refine⟨_,z6 (x9 (i:=2) L8.nd rfl (Or.inl rfl) (u5 V3 rfl B.list X5 (z0 (pv 0) z4)))
  (z6 (Q3 PassesOwn.never rfl (zh0 rfl B.enumerate (z0 (pv 0) z4)) (zp6 rfl (W4 (k8 (i:=3) L8.nd rfl (Or.inl rfl)) (W4 (k8 (i:=4) L8.nd rfl (Or.inl rfl)) zc7)))
   (z7 (zp8 (o4 R8 (pv 1) (pv 4) (λ_ _=>rfl)) (zy1 (pv 2) (o4 R8 (pv 1) (pv 3) (λ_ _=>rfl)) zi1))))
  (z7 (y9 (u5 n5 rfl B.tuple Z5 (z0 (pv 2) z4))))),?_⟩
 refine⟨_,rfl,a,tI t,rfl,.inr ha,λg hg=>?_⟩
 have s0:y2 H (upd H g (.lst (tI t))):=y3 hg _
 refine⟨_,rfl,a,rfl,⟨_,s0.seqT ha⟩,zf0 (xs:=tI t) (λi σ H2=>∃(c:List Nat) (v3 v4:Option V),σ=[some (.ref a),some (.ref b),some (.ref g),v3,v4]/\y2 H H2/\H2 g=some (.lst (tI c))/\TM.Led n t by_ i c)
  ⟨t,none,none,rfl,s0,z3,TM.Led.start hT.length⟩ (λi σ H2 _ ⟨_,_,_,_,s2,_⟩=>s2.seqT ha) ?_ ?_⟩
 ·rintro i x σ H2 T hx ⟨c,v3,v4,rfl,s2,hg2,led⟩ hT2
  obtain⟨y,hy,rfl⟩:=K0 hx
  have hin:i<n:=by have:=(ap.mp hy).1;rwa [hT.length]at this
  have hyn:y<n:=hT.get_lt hy
  have hTg:g≠T:=y0 hg2 hT2
  have s3:=s2.trans (y3 hT2 (.tup [V.int (i:Nat),V.int y]))
  have hbi:by_.getD i 0<c.length:=by rw[led.len];exact hB.step_lt hin
  refine⟨T,_,rfl,SqT.of z3,rfl,_,_,rfl,_,_,rfl,rfl,?_⟩
  refine⟨_,rfl,_,rfl,b,_,_,_,rfl,rfl,s3.seqT hb,zb4 (hB.get_step hyn),_,rfl,_,rfl,_,rfl,b,_,_,_,rfl,rfl,s3.seqT hb,zb4 (hB.get_step hin),g,tI c,_,by_.getD i 0,rfl,rfl,by rw[z5 hTg];exact hg2,by rw[v0];exact zc6 hbi,?_⟩
  refine⟨c.set (by_.getD i 0) (by_.getD y 0),_,_,rfl,o7 s3 hg _,by rw[z3,zr4],?_⟩
  have e:t.getD i 0=y:=TM.getD_of hy
  have:=led.step hB hin
  rwa [e]at this
 ·rintro σ H2 ⟨c,v3,v4,rfl,s2,hg2,led⟩
  rw[v0,hT.length]at led
  refine⟨_,rfl,g,tI c,rfl,.inl ⟨SqL.of hg2,λr hr'=>?_⟩⟩
  exact q r _ c (s2.free hr') (s2.trans (y3 hr' _)) led.done z3
structure w6 (cC cB cS:Addr) (n:Nat) (H:Hp) (A:ChA) (S:ChS):Prop where
 nd:A.all.Nodup
 c:∃dx,H A.c=some (.ins cC dx [("book",.ref A.b),("steps",.ref A.l)])
 bk:Y7 cB H A S
 l:H A.l=some (.lst (A.st.map λs=>V.ref s.a))
 len:A.st.length=n/\S.st.length=n
 st:∀i a s,A.st[i]?=some a->S.st[i]?=some s->i7 cS n S.md H a i s
def Z2:List Str:=["book","steps"]
theorem i7.same {cS:Addr}{n:Nat}{md:List (List Nat)}{H H':Hp}{A:StA}{i:Nat}{s:StS}(h:i7 cS n md H A i s)(k:y2 H H'):i7 cS n md H' A i s :=
 ⟨h.a.imp λ_ e=>k _ _ e,k _ _ h.m,k _ _ h.lt,h.bf.imp λ_ e=>⟨k _ _ e.1,Paired.imp' (λ_ _ z=>k _ _ z) e.2⟩,h.w.imp λ_ e=>⟨k _ _ e.1,e.2.same k⟩⟩
theorem w6.same {cC cB cS:Addr}{n:Nat}{H H':Hp}{A:ChA}{S:ChS}(h:w6 cC cB cS n H A S)(k:y2 H H'):w6 cC cB cS n H' A S :=
 ⟨h.nd,h.c.imp λ_ e=>k _ _ e,h.bk.same k,k _ _ h.l,h.len,λi a s ha hs=>(h.st i a s ha hs).same k⟩
def S9 (n:Nat)(md:List (List Nat)):List StS->Nat->List Nat->List Nat->Option (List Nat)
 | [],_,_,acc=>some acc
 | s::r,j,x,acc=>match atN s.to (x.getD j 0) with
  | none=>none
  | some k=>if x.getD j 0=j then S9 n md r (j+1) x acc else S9 n md r (j+1) (TM.beh x (TM.bk n (md.getD k []))) (acc++[k])
structure ChS.Well (n:Nat) (S:ChS):Prop where
 md:∀t∈S.md,TM.IsT n t
 to:∀s∈S.st,∀x∈s.to,x.1<n/\x.2<S.md.length
 mv:∀s∈S.st,∀k∈s.mv,k<S.md.length
theorem V1 {α:Type}{l:List (Nat×α)}{p:Nat}{k:α}(h:atN l p=some k):(p,k)∈l:=by
 unfold atN at h
 cases e:l.find? (λx=>decide (x.1=p)) with
 | none=>rw[e]at h;cases h
 | some x =>
  rw[e]at h
  have h1:=List.find?_some e
  have h2:=List.mem_of_find?_eq_some e
  have e1:x.1=p:=by simpa using h1
  have e2:x.2=k:=by simpa using h
  rw[←e1,←e2]
  exact h2
theorem ChS.Well.at {n:Nat}{S:ChS}(h:S.Well n){k:Nat}(hk:k<S.md.length):TM.IsT n (S.md.getD k []):=h.md _ (aw (Z6 [] hk))
theorem P6 {F:Nat×Nat->Addr->Prop}:∀{to:List (Nat×Nat)} {bs:List Addr},Paired F to bs->∀{p k:Nat},atN to p=some k->∃b,K3 (kR to bs) (Sum.inl (p:Int))=some (V.ref b)/\F (p,k) b
 | _,_,.nil,p,k,h=>by cases h
 | x::to,b::bs,.cons f r,p,k,h=>by
  by_cases hx:x.1=p
  ·have e:atN (x::to) p=some x.2:=by unfold atN;rw[ci (by simpa using hx)];rfl
   rw[e]at h
   have hk:x.2=k:=Option.some.inj h
   refine⟨b,L3 (p:=(Sum.inl (x.1:Int),V.ref b)) (by show(Sum.inl (x.1:Int):Key)=_;rw[hx]),?_⟩
   rw[←hx,←hk]
   exact f
  ·have e:atN (x::to) p=atN to p:=by unfold atN;rw[ck (by simpa using hx)]
   rw[e]at h
   obtain⟨b',h1,h2⟩:=P6 r h
   refine⟨b',?_,h2⟩
   rw[←h1]
   exact R4 (p:=(Sum.inl (x.1:Int),V.ref b)) λz=>hx (by have:=Sum.inl.inj z;lia)
def zz3 (cC cB cS:Addr):Sp:=λvs H Q _=>∃(A:ChA) (S:ChS) (n lv:Nat) (tr:Addr) (x:List Nat),vs=[.ref A.c,.ref tr,.int lv]/\w6 cC cB cS n H A S/\S.Well n/\H tr=some (.tup (tI x))/\TM.IsT n x/\lv<=n/\n<=60 /\
 (S9 n S.md (S.st.drop lv) lv x []=none->∀H':Hp,y2 H H'->Q .non H')/\∀(ls:List Nat) (r:Addr) (H':Hp),S9 n S.md (S.st.drop lv) lv x []=some ls->H r=none->y2 H H'->H' r=some (.lst (tI ls))->Q (.ref r) H'
theorem o9:y4 ["self","turning","level","lines","here","step","to"] ["self","turning","level"] (z8 Y2):=scq
theorem yj4 {xs:List V}{k:Nat}(hk:k<=xs.length):zb5 xs (some (k:Int)) none=xs.drop k:=by
 unfold zb5
 rw[HT.sIx_none,HT.sIx_nat,Nat.min_eq_left hk,bL (by rw[cu];exact aq _)]
theorem zb9 {cC cB cS:Addr}(F:Fun K "sifted" "Chain.sifted" Y2 f fd)(B:Blt mg)(cc:p7 K cC Z2)(cs:p7 K cS M9)(KB:Known P w K mg base 1 "behind" ["one","other"] (M8 K)):v1 P w K mg base CX0 2 f fd ["self","turning","level"] (zz3 cC cB cS):=by
 refine F.ok o9 (λvs H Q E h=>?_) (λcdv Ar outer sh H vs Q E hr h=>?_)
 ·obtain⟨A,S,n,lv,tr,x,rfl,_⟩:=h
  rfl
 obtain⟨A,S,n,lv,tr,x,rfl,ch,wl,htr,hx,hlv,hn,q1,q2⟩:=h
 have hz:=Z0
 have hu:(Ar.deeper (PyProof.Rows.envOfC "Chain.sifted" (z8 Y2) sh.heap.objs.size f cdv)).units+1<cLine:=by have:=hr.units;lia
 obtain⟨dx,hc⟩:=ch.c
 refine⟨_,z6 (x9 (i:=3) o9.nd rfl (Or.inl rfl) (c9 z4))
  (z6 (x9 (i:=4) o9.nd rfl (Or.inl rfl) (pv 1))
  (z6 (Q3 PassesOwn.never rfl (d6 (D1 zd0 (y6 (pv 0) rfl) (L7 (pv 2)) yc6)) (k8 (i:=5) o9.nd rfl (Or.inl rfl))
   (z6 (x9 (i:=6) o9.nd rfl (Or.inl rfl) (o4 R8 (pv 4) (y6 (pv 5) rfl) (λ_ _=>rfl)))
   (z6 (n6 (zq0 (B5 hu (pv 6) (y6 (pv 5) rfl))) (z7 (y9 zy0)) u6)
   (z7 (n6 (p6 zg6 (pv 6) (y6 (pv 5) rfl) (u3 _))
    (z6 (p5 (U8 PySem.F.plainAttrs_list PySem.F.slot_list_append PySem.F.type_list_append d0 (pv 3) (z0 (L6 hu (y6 (pv 5) rfl) (pv 6) (λ_ _=>rfl)) z4)))
    (z7 (x9 (i:=4) o9.nd rfl (Or.inl rfl) (u4 KB hr rfl (z0 (pv 4) (z0 (L6 hu (y6 (pv 5) rfl) (pv 6) (λ_ _=>rfl)) z4)))))) u6)))))
  (z7 (y9 (pv 3))))),?_⟩
 refine⟨(by show 0<=eU;lia),λl hl=>?_⟩
 have s0:=y3 hl (.lst [])
 have el:(upd H l (.lst [])) l=some (.lst (tI [])):=z3
 generalize upd H l (.lst [])=H1 at s0 el ⊢
 have hstl:(A.st.map λs=>V.ref s.a).length=n:=by rw[aa];exact ch.len.1
 refine⟨_,rfl,_,rfl,A.c,cC,dx,_,_,rfl,s0 _ _ hc,cc.cls,cc.no "steps" (by decide),rfl,_,rfl,_,rfl,A.l,_,rfl,SqL.of (s0 _ _ ch.l),λp hp=>?_⟩
 rw[yj4 (by rw[hstl];exact hlv)]
 have s1:=s0.trans (y3 hp (.lst ((A.st.map λs=>V.ref s.a).drop lv)))
 have ep:(upd H1 p (.lst ((A.st.map λs=>V.ref s.a).drop lv))) p=some (.lst ((A.st.map λs=>V.ref s.a).drop lv)):=z3
 have el1:=y3 hp (.lst ((A.st.map λs=>V.ref s.a).drop lv)) _ _ el
 generalize upd H1 p (.lst ((A.st.map λs=>V.ref s.a).drop lv))=H2 at s1 ep el1 ⊢
 have hpl:p≠l:=λz=>by
  subst z
  rw[el]at hp
  cases hp
 have hplace:∀j,j<n->∃a s,A.st[j]?=some a/\S.st[j]?=some s:=λj hj=>⟨_,_,ac (by rw[ch.len.1];exact hj),ac (by rw[ch.len.2];exact hj)⟩
 refine⟨p,rfl,⟨_,SqL.of ep⟩,O6 (xs:=(A.st.map λs=>V.ref s.a).drop lv) (λi σ Hh=>∃(ls:List Nat) (ha:Addr) (y:List Nat) (v5 v6:Option V),σ=[some (.ref A.c),some (.ref tr),some (.int lv),some (.ref l),some (.ref ha),v5,v6]/\y2 H Hh/\Hh p=some (.lst ((A.st.map λs=>V.ref s.a).drop lv))/\Hh l=some (.lst (tI ls))/\Hh ha=some (.tup (tI y))/\TM.IsT n y/\S9 n S.md (S.st.drop (lv+i)) (lv+i) y ls=S9 n S.md (S.st.drop lv) lv x []/\ls.length<=i)
  ⟨[],tr,x,none,none,rfl,s1,ep,el1,s1 _ _ htr,hx,rfl,aq _⟩ (λi σ Hh _ ⟨_,_,_,_,_,_,_,hpp,_⟩=>SqL.of hpp) ?_ ?_⟩
 ·rintro i v σ Hh hv ⟨ls,ha,y,v5,v6,rfl,ss,hpp,hll,hha,hy,hsf,hls⟩
  rw[cV,ag]at hv
  have hj:lv+i<n:=by
   cases e:A.st[lv+i]? with
   | none=>rw[e]at hv;cases hv
   | some a=>have:=(ap.mp e).1;rwa [ch.len.1]at this
  obtain⟨a,s,hA,hs⟩:=hplace (lv+i) hj
  rw[hA]at hv
  cases hv
  have st:=(ch.st _ _ _ hA hs).same ss
  obtain⟨dxs,hsa⟩:=st.a
  obtain⟨bs,hbf,hbs⟩:=st.bf
  have hsm:s∈S.st:=aw hs
  have hdrop:S.st.drop (lv+i)=s::S.st.drop (lv+i+1):=by
   have:=dG (l:=S.st) (i:=lv+i) (by rw[ch.len.2];exact hj)
   rw[this]
   congr 1
   exact Option.some.inj ((ac (by rw[ch.len.2];exact hj)).symm.trans hs)
  rw[hdrop,S9]at hsf
  refine⟨_,rfl,_,rfl,a.a,cS,dxs,_,_,rfl,hsa,cs.cls,cs.no "place" (by decide),rfl,ha,_,_,_,rfl,rfl,SqT.of hha,zb4 (hy.get_step hj),?_⟩
  refine⟨_,rfl,_,rfl,a.a,cS,dxs,_,_,rfl,hsa,cs.cls,cs.no "line_to" (by decide),rfl,a.lt,_,rfl,U6.k (k:=Sum.inl ((y.getD (lv+i) 0:Nat):Int)) st.lt,_,rfl,?_⟩
  rw[V6]
  cases ea:atN s.to (y.getD (lv+i) 0) with
  | none =>
   rw[ea]at hsf
   refine i0 ?_
   exact q1 hsf.symm Hh ss
  | some k =>
   rw[ea]at hsf
   dsimp only at hsf
   refine o5 ?_
   have hk:k<S.md.length:=(wl.to s hsm _ (V1 ea)).2
   have hkT:=wl.at hk
   refine⟨_,rfl,_,rfl,a.a,cS,dxs,_,_,rfl,hsa,cs.cls,cs.no "place" (by decide),rfl,rfl,_,rfl,?_⟩
   rw[p0]
   by_cases hto:y.getD (lv+i) 0=lv+i
   ·rw[decide_eq_true (by rw[hto])]
    rw[if_pos hto]at hsf
    exact o5 ⟨ls,ha,y,_,_,rfl,ss,hpp,hll,hha,hy,hsf,by lia⟩
   ·rw[decide_eq_false (by lia)]
    rw[if_neg hto]at hsf
    refine i0 ?_
    have g1:U6 Hh a.lt (kV (Sum.inl ((y.getD (lv+i) 0:Nat):Int))) (some (V.int k)):=by
     have g:=U6.k (k:=Sum.inl ((y.getD (lv+i) 0:Nat):Int)) st.lt
     rwa [V6,ea]at g
    refine⟨_,rfl,.inl ⟨rfl,_,SqL.of hll⟩,_,rfl,a.a,cS,dxs,_,_,rfl,hsa,cs.cls,cs.no "line_to" (by decide),rfl,_,rfl,a.lt,_,rfl,g1,l,_,_,rfl,rfl,hll,by rw[v0];lia,?_⟩
    have kk:∀{b:Addr} {o:HO},H b=some o->(upd Hh l (.lst (tI ls++[V.int k]))) b=some o:=λ{b o} h=>by rw[z5 (y0 h hl)];exact ss _ _ h
    have ss2:y2 H (upd Hh l (.lst (tI ls++[V.int k]))):=λb o h=>kk h
    have hll2:(upd Hh l (.lst (tI ls++[V.int k]))) l=some (.lst (tI (ls++[k]))):=by rw[z3,R1];rfl
    have hpp2:(upd Hh l (.lst (tI ls++[V.int k]))) p=some (.lst ((A.st.map λs=>V.ref s.a).drop lv)):=by rw[z5 hpl];exact hpp
    have hha2:(upd Hh l (.lst (tI ls++[V.int k]))) ha=some (.tup (tI y)):=by rw[z5 (o3 hha hll (by intro z;cases z))];exact hha
    generalize upd Hh l (.lst (tI ls++[V.int k]))=H4 at ss2 hll2 hpp2 hha2 ⊢
    have st2:=(ch.st _ _ _ hA hs).same ss2
    obtain⟨dxs2,hsa2⟩:=st2.a
    obtain⟨bs2,hbf2,hbs2⟩:=st2.bf
    obtain⟨bb,hv2,hbb⟩:=P6 hbs2 ea
    have g2:U6 H4 a.bf (kV (Sum.inl ((y.getD (lv+i) 0:Nat):Int))) (some (V.ref bb)):=by
     have g:=U6.k (k:=Sum.inl ((y.getD (lv+i) 0:Nat):Int)) hbf2
     rwa [hv2]at g
    refine⟨_,rfl,_,rfl,a.a,cS,dxs2,_,_,rfl,hsa2,cs.cls,cs.no "back_from" (by decide),rfl,_,rfl,a.bf,_,rfl,g2,ha,bb,y,_,rfl,SqT.of hha2,SqT.of hbb,by rw[hy.length];lia,λz hz'=>by rw[hkT.bk.length];exact hy.lt hz',λr H5 hr5 s5 hrr=>?_⟩
    exact⟨ls++[k],r,_,_,_,rfl,ss2.trans s5,s5 _ _ hpp2,s5 _ _ hll2,hrr,hy.beh hkT.bk,hsf,by rw[af,aR];lia⟩
 ·rintro σ Hh ⟨ls,ha,y,v5,v6,rfl,ss,hpp,hll,hha,hy,hsf,hls⟩
  rw[cu,hstl,show lv+(n-lv)=n by lia,cm (by rw[ch.len.2];exact aq _),S9]at hsf
  exact⟨_,rfl,q2 ls l Hh hsf.symm hl ss hll⟩
def zd2 (cC cB cS:Addr):Sp:=λvs H Q _=>∃(A:ChA) (S:ChS) (n lv:Nat) (tr:Addr) (x:List Nat),vs=[.ref A.c,.ref tr,.int lv]/\w6 cC cB cS n H A S/\S.Well n/\H tr=some (.tup (tI x))/\TM.IsT n x/\lv<=n/\n<=60 /\
 ∀H':Hp,y2 H H'->Q (.bl (S9 n S.md (S.st.drop lv) lv x []).isSome) H'
theorem zh8:y4 ["self","turning","level"] ["self","turning","level"] (z8 T3):=scq
theorem zg0 {cC cB cS:Addr}(F:Fun K "holds" "Chain.holds" T3 f fd)(B:Blt mg)(cc:p7 K cC Z2)(MS:h7 P w K mg base 2 cC "sifted" ["self","turning","level"] (zz3 cC cB cS)):v1 P w K mg base CX0 3 f fd ["self","turning","level"] (zd2 cC cB cS):=by
 refine F.ok zh8 (λvs H Q E h=>?_) (λcdv Ar outer sh H vs Q E hr h=>?_)
 ·obtain⟨A,S,n,lv,tr,x,rfl,_⟩:=h
  rfl
 obtain⟨A,S,n,lv,tr,x,rfl,ch,wl,htr,hx,hlv,hn,q⟩:=h
 obtain⟨dx,hc⟩:=ch.c
 refine⟨_,z7 (y9 (l7 ys3 (c7 cc.cls MS hr (pv 0) (z0 (pv 1) (z0 (pv 2) z4))) zy0 (u3 _))),?_⟩
 refine⟨_,rfl,A.c,dx,_,rfl,hc,rfl,_,rfl,_,rfl,A,S,n,lv,tr,x,rfl,ch,wl,htr,hx,hlv,hn,λe H' s'=>⟨rfl,?_⟩,λls r H' e hr' s' hrr=>⟨rfl,?_⟩⟩
 ·have:=q H' s'
  rw[e]at this
  exact this
 ·have:=q H' s'
  rw[e]at this
  exact this
theorem ChA.head_ne {A:ChA}(h:A.all.Nodup){i:Nat}{a:StA}(ha:A.st[i]?=some a){x y:Addr}(hx:x∈[A.c,A.b,A.ll,A.lm,A.d,A.l])(hy:y∈a.all):x≠y:=by
 unfold ChA.all at h
 exact(bc.mp h).2.2 x hx y (bF.mpr ⟨a.all,ah.mpr ⟨a,aw ha,rfl⟩,hy⟩)
theorem ChA.step_nd {A:ChA}(h:A.all.Nodup){i:Nat}{a:StA}(ha:A.st[i]?=some a):a.all.Nodup:=by
 unfold ChA.all at h
 exact(List.pairwise_flatten.mp (bc.mp h).2.1).1 a.all (ah.mpr ⟨a,aw ha,rfl⟩)
theorem ChA.step_ne {A:ChA}(h:A.all.Nodup){i j:Nat}{a b:StA}(ha:A.st[i]?=some a)(hb:A.st[j]?=some b)(hij:i≠j){x y:Addr}(hx:x∈a.all)(hy:y∈b.all):x≠y:=by
 unfold ChA.all at h
 have p:=(List.pairwise_flatten.mp (bc.mp h).2.1).2
 have hai:(A.st.map StA.all)[i]?=some a.all:=by rw[ag,ha];rfl
 have hbj:(A.st.map StA.all)[j]?=some b.all:=by rw[ag,hb];rfl
 obtain⟨li,ei⟩:=ap.mp hai
 obtain⟨lj,ej⟩:=ap.mp hbj
 rcases Nat.lt_or_gt_of_ne hij with q|q
 ·have r:=bu.mp p i j li lj q
  rw[ei,ej]at r
  exact r x hx y hy
 ·have r:=bu.mp p j i lj li q
  rw[ei,ej]at r
  exact Ne.symm (r y hy x hx)
theorem ChA.head_nd {A:ChA}(h:A.all.Nodup):[A.c,A.b,A.ll,A.lm,A.d,A.l].Nodup:=by
 unfold ChA.all at h
 exact(bc.mp h).1
theorem i7.frame {cS:Addr}{n:Nat}{md:List (List Nat)}{F:List Addr}{H H':Hp}{a:StA}{i:Nat}{s:StS}(h:i7 cS n md H a i s)(fr:y1 F H H')(hF:∀x∈F,x∉a.all/\∀xs,H x≠some (.tup xs)):i7 cS n md H' a i s:=by
 have k:∀{b:Addr} {o:HO},H b=some o->b∈a.all->H' b=some o:=λ{b o} e hb=>fr b o (λz=>(hF b z).1 hb) e
 have kt:∀{b:Addr} {xs:List V},H b=some (.tup xs)->H' b=some (.tup xs):=λ{b xs} e=>fr b _ (λz=>(hF b z).2 xs e) e
 exact⟨h.a.imp λ_ e=>k e (by simp[StA.all]),k h.m (by simp[StA.all]),k h.lt (by simp[StA.all]),h.bf.imp λ_ e=>⟨k e.1 (by simp[StA.all]),Paired.imp' (λ_ _ z=>kt z) e.2⟩,h.w.imp λ_ e=>⟨k e.1 (by simp[StA.all]),Paired.imp' (λ_ _ z=>kt z) e.2⟩⟩
theorem i7.more {cS:Addr}{n:Nat}{md md':List (List Nat)}{H:Hp}{a:StA}{i:Nat}{s:StS}(h:i7 cS n md H a i s)(hm:∀x∈s.to,md'.getD x.2 []=md.getD x.2 []):i7 cS n md' H a i s:=by
 obtain⟨ha,hm',hlt,⟨bs,hbf,hbs⟩,hw⟩:=h
 refine⟨ha,hm',hlt,⟨bs,hbf,?_⟩,hw⟩
 have all:∀{to:List (Nat×Nat)} {bs:List Addr},(∀x∈to,md'.getD x.2 []=md.getD x.2 [])->Paired (λ(x:Nat×Nat) b=>H b=some (.tup (tI (TM.bk n (md.getD x.2 []))))) to bs->Paired (λ(x:Nat×Nat) b=>H b=some (.tup (tI (TM.bk n (md'.getD x.2 []))))) to bs:=by
  intro to bs hx p
  induction p with
  | nil=>exact .nil
  | cons f _ ih=>exact .cons (by rw[hx _ ax];exact f) (ih λx h=>hx x (av _ h))
 exact all hm hbs
theorem w6.book {cC cB cS:Addr}{n:Nat}{H H':Hp}{A:ChA}{S S':ChS}(h:w6 cC cB cS n H A S)(fr:y1 [A.ll,A.lm,A.d] H H')(bk:Y7 cB H' A S')(hst:S'.st=S.st)(hmd:∀s∈S.st,∀x∈s.to,S'.md.getD x.2 []=S.md.getD x.2 []):w6 cC cB cS n H' A S':=by
 obtain⟨las,hll,_⟩:=h.bk.ll
 obtain⟨mas,hlm,_⟩:=h.bk.lm
 have hd:=h.bk.d
 obtain⟨dx,hc⟩:=h.c
 have nd:=ChA.head_nd h.nd
 simp only[aK,au,aH,not_or,or_false]at nd
 have nt:∀x∈[A.ll,A.lm,A.d],∀xs,H x≠some (.tup xs):=λx hx xs z=>by
  rcases au.mp hx with e|hx
  ·rw[e,hll]at z;cases z
  ·rcases au.mp hx with e|hx
   ·rw[e,hlm]at z;cases z
   ·rw[ae.mp hx,hd]at z;cases z
 refine⟨h.nd,⟨dx,fr _ _ (λz=>by
   rcases au.mp z with e|z
   ·exact o3 hc hll (by intro q;cases q) e
   ·rcases au.mp z with e|z
    ·exact o3 hc hlm (by intro q;cases q) e
    ·exact o3 hc hd (by intro q;cases q) (ae.mp z)) hc⟩,bk,fr _ _ ?_ h.l,⟨h.len.1,by rw[hst];exact h.len.2⟩,λi a s ha hs=>?_⟩
 ·intro z
  rcases au.mp z with e|z
  ·exact nd.2.2.1.2.2 e.symm
  ·rcases au.mp z with e|z
   ·exact nd.2.2.2.1.2 e.symm
   ·exact nd.2.2.2.2.1 (ae.mp z).symm
 ·rw[hst]at hs
  refine((h.st i a s ha hs).more (hmd s (aw hs))).frame fr λx hx=>⟨λhy=>?_,nt x hx⟩
  refine ChA.head_ne h.nd ha (x:=x) (y:=x) ?_ hy rfl
  simp at hx ⊢
  rcases hx with e|e|e <;> simp[e]
theorem w6.step {cC cB cS:Addr}{n:Nat}{H H':Hp}{A:ChA}{S:ChS}{F:List Addr}{j:Nat}{aj:StA}{s':StS}(h:w6 cC cB cS n H A S)(ha:A.st[j]?=some aj)(hF:∀x∈F,x∈aj.all/\∀xs,H x≠some (.tup xs))(fr:y1 F H H')(st:i7 cS n S.md H' aj j s'):w6 cC cB cS n H' A { S with st:=S.st.set j s' }:=by
 have kh:∀{b:Addr} {o:HO},H b=some o->b∈[A.c,A.b,A.ll,A.lm,A.d,A.l]->H' b=some o:=λ{b o} e hb=>fr b o (λz=>ChA.head_ne h.nd ha hb (hF b z).1 rfl) e
 have kt:∀{b:Addr} {xs:List V},H b=some (.tup xs)->H' b=some (.tup xs):=λ{b xs} e=>fr b _ (λz=>(hF b z).2 xs e) e
 obtain⟨dx,hc⟩:=h.c
 refine⟨h.nd,⟨dx,kh hc (by simp)⟩,⟨h.bk.b.imp λ_ e=>kh e (by simp),h.bk.ll.imp λ_ e=>⟨kh e.1 (by simp),Paired.imp' (λ_ _ z=>kt z) e.2⟩,h.bk.lm.imp λ_ e=>⟨kh e.1 (by simp),Paired.imp' (λ_ _ z=>kt z) e.2⟩,kh h.bk.d (by simp),h.bk.len⟩,kh h.l (by simp),⟨h.len.1,by show(S.st.set j s').length=n;rw[bd];exact h.len.2⟩,λi a s hi hs=>?_⟩
 have hs:(S.st.set j s')[i]?=some s:=hs
 by_cases e:i=j
 ·subst e
  rw[ha]at hi
  cases hi
  rw[bC (by rw[h.len.2,←h.len.1];exact(ap.mp ha).1)]at hs
  cases hs
  exact st
 ·rw[bn (Ne.symm e)]at hs
  exact(h.st i a s hi hs).frame fr λx hx=>⟨λhy=>ChA.step_ne h.nd hi ha e hy (hF x hx).1 rfl,(hF x hx).2⟩
structure ChS.Fine (n:Nat) (S:ChS):Prop where
 wl:S.Well n
 md0:S.md.getD 0 []=List.range n
 pos:0<S.md.length
 lnl:S.ln.length=S.md.length
def ChS.atS (S:ChS)(j:Nat):StS:=S.st.getD j ⟨[],[],[],0⟩
def ChS.found (n:Nat)(S:ChS)(j p m:Nat):ChS×Bool :=
 let s:=S.atS j
 let k:=(atN s.to p).getD 0
 let t:=TM.beh (S.md.getD k []) (S.md.getD m [])
 match atN s.to (t.getD j 0) with
 | none=>({ (S.putB k m).2 with st:=S.st.set j (s.putP (t.getD j 0) (S.putB k m).1) },false)
 | some k2=>if (S9 n S.md (S.st.drop (j+1)) (j+1) (TM.beh t (TM.bk n (S.md.getD k2 []))) []).isSome then(S,false)
  else
   let S1:=(S.putB k m).2
   let S2:=(S1.putK n k2).2
   let S3:=(S2.putB (S.putB k m).1 (S1.putK n k2).1).2
   ({ S3 with st:=S.st.set (j+1) ((S.atS (j+1)).putM (S2.putB (S.putB k m).1 (S1.putK n k2).1).1) },true)
structure U9 (n:Nat) (S S':ChS) (k:Nat) (t:List Nat):Prop where
 st:S'.st=S.st
 md:∃l,S'.md=S.md++l
 fine:S'.Fine n
 lt:k<S'.md.length
 at':S'.md.getD k []=t
 len:S'.ln.length<=S.ln.length+1
theorem o6 {α:Type}{l m:List α}{i:Nat}{d:α}(h:i<l.length):(l++m).getD i d=l.getD i d:=by
 rw[ao,ao,aI h]
theorem ChS.Fine.put {n:Nat}{S:ChS}(f:S.Fine n){l:TM.Ln}{t:List Nat}(ht:TM.IsT n t):U9 n S (S.put l t) S.ln.length t:=by
 have el:(S.put l t).md=S.md++[t]:=rfl
 refine⟨rfl,⟨[t],rfl⟩,⟨⟨λx hx=>?_,λs hs x hx=>?_,λs hs k hk=>?_⟩,?_,?_,?_⟩,?_,?_,?_⟩
 ·rw[el]at hx
  rcases aB.mp hx with h|h
  ·exact f.wl.md x h
  ·rw[ae.mp h];exact ht
 ·have:=f.wl.to s hs x hx
  rw[el,af]
  exact⟨this.1,by lia⟩
 ·have:=f.wl.mv s hs k hk
  rw[el,af]
  lia
 ·rw[el,o6 f.pos];exact f.md0
 ·rw[el,af];have:=f.pos;lia
 ·show(S.ln++[l]).length=(S.md++[t]).length
  rw[af,af,f.lnl]
  rfl
 ·rw[el,af,f.lnl]
  show S.md.length<S.md.length+1
  lia
 ·rw[el,f.lnl,ao,aN (aq _),bD]
  rfl
 ·show(S.ln++[l]).length<=_
  rw[af]
  exact aq _
theorem U9.refl {n:Nat}{S:ChS}(f:S.Fine n){k:Nat}(hk:k<S.md.length):U9 n S S k (S.md.getD k []):=⟨rfl,⟨[],(bp _).symm⟩,f,hk,rfl,cy _⟩
theorem ChS.Fine.putB {n:Nat}{S:ChS}(f:S.Fine n){i j:Nat}(hi:i<S.md.length)(hj:j<S.md.length):U9 n S (S.putB i j).2 (S.putB i j).1 (TM.beh (S.md.getD i []) (S.md.getD j [])):=by
 have ti:=f.wl.at hi
 have tj:=f.wl.at hj
 unfold ChS.putB
 by_cases e1:i=0
 ·rw[if_pos e1]
  have r:=U9.refl f hj
  rw[e1,f.md0,TM.still_beh tj]
  exact r
 ·rw[if_neg e1]
  by_cases e2:j=0
  ·rw[if_pos e2]
   have r:=U9.refl f hi
   rw[e2,f.md0,TM.beh_still ti]
   exact r
  ·rw[if_neg e2]
   exact f.put (ti.beh tj)
def yi6 (n:Nat)(S:ChS)(i:Nat):TM.Ln->List Nat->Prop
 | .still,t=>t=List.range n
 | .told k,t=>t=S.src k
 | .back a,t=>a<i/\t=TM.bk n (S.md.getD a [])
 | .behind a b,t=>a<i/\b<i/\t=TM.beh (S.md.getD a []) (S.md.getD b [])
def ChS.Mks (n:Nat)(S:ChS):Prop:=∀(i:Nat) (l:TM.Ln) (t:List Nat),S.ln[i]?=some l->S.md[i]?=some t->yi6 n S i l t
theorem yi6.more {n:Nat}{S S':ChS}{i:Nat}{l:TM.Ln}{t:List Nat}(h:yi6 n S i l t)(hi:i<=S.md.length)(hs:S'.src=S.src)(hm:∃m,S'.md=S.md++m):yi6 n S' i l t:=by
 obtain⟨m,hm⟩:=hm
 cases l with
 | still=>exact h
 | told k=>exact h.trans (by rw[hs])
 | back a=>exact⟨h.1,by rw[hm,o6 (aO h.1 hi)];exact h.2⟩
 | behind a b=>exact⟨h.1,h.2.1,by rw[hm,o6 (aO h.1 hi),o6 (aO h.2.1 hi)];exact h.2.2⟩
theorem ChS.Mks.put {n:Nat}{S:ChS}(h:S.Mks n)(f:S.ln.length=S.md.length){l:TM.Ln}{t:List Nat}(hl:yi6 n S S.md.length l t):(S.put l t).Mks n:=by
 intro i l' t' h1 h2
 have h1:(S.ln++[l])[i]?=some l':=h1
 have h2:(S.md++[t])[i]?=some t':=h2
 by_cases c:i<S.md.length
 ·rw[aI (by lia)]at h1
  rw[aI c]at h2
  exact(h i l' t' h1 h2).more (bx c) rfl ⟨[t],rfl⟩
 ·have hi:i<(S.md++[t]).length:=(ap.mp h2).1
  rw[af,aR]at hi
  have e:i=S.md.length:=by lia
  subst e
  rw[aN (by lia),show S.md.length-S.ln.length=0 by lia]at h1
  rw[aN (aq _),bD]at h2
  cases h1
  cases h2
  exact hl.more (aq _) rfl ⟨[t],rfl⟩
structure ChS.Backs (n:Nat) (S:ChS):Prop where
 bk:∀i k,atN S.bl i=some k->i<S.md.length/\k<S.md.length/\S.md.getD k []=TM.bk n (S.md.getD i [])
 mks:S.Mks n
theorem ChS.Backs.of {n:Nat}{S S':ChS}(b:S.Backs n)(hl:S'.ln=S.ln)(hm:S'.md=S.md)(hb:S'.bl=S.bl)(hs:S'.src=S.src):S'.Backs n:=by
 refine⟨λi k h=>?_,λi l t h1 h2=>?_⟩
 ·rw[hb]at h
  rw[hm]
  exact b.bk i k h
 ·rw[hl]at h1
  rw[hm]at h2
  exact(b.mks i l t h1 h2).more (bx (ap.mp h2).1) hs ⟨[],by rw[hm,bp]⟩
theorem ChS.putB_src {S:ChS}(i j:Nat):(S.putB i j).2.src=S.src:=by
 unfold ChS.putB
 by_cases e1:i=0
 ·rw[if_pos e1]
 ·rw[if_neg e1]
  by_cases e2:j=0
  ·rw[if_pos e2]
  ·rw[if_neg e2];rfl
theorem ChS.putK_src {S:ChS}(n i:Nat):(S.putK n i).2.src=S.src:=by
 unfold ChS.putK
 cases e:atN S.bl i with
 | some k=>rfl
 | none=>rfl
theorem ChS.Backs.putB {n:Nat}{S:ChS}(b:S.Backs n)(f:S.ln.length=S.md.length){k m:Nat}(hk:k<S.md.length)(hm:m<S.md.length):(S.putB k m).2.Backs n/\(S.putB k m).2.bl=S.bl:=by
 unfold ChS.putB
 by_cases e1:k=0
 ·rw[if_pos e1];exact⟨b,rfl⟩
 ·rw[if_neg e1]
  by_cases e2:m=0
  ·rw[if_pos e2];exact⟨b,rfl⟩
  ·rw[if_neg e2]
   refine⟨⟨λi' k' h=>?_,b.mks.put f ⟨hk,hm,rfl⟩⟩,rfl⟩
   obtain⟨h1,h2,h3⟩:=b.bk i' k' h
   have hmd':(S.put (.behind k m) (TM.beh (S.md.getD k []) (S.md.getD m []))).md=S.md++[TM.beh (S.md.getD k []) (S.md.getD m [])]:=rfl
   refine⟨by rw[hmd',af];lia,by rw[hmd',af];lia,?_⟩
   rw[hmd',o6 h2,o6 h1,h3]
theorem ChS.Fine.putK {n:Nat}{S:ChS}(f:S.Fine n)(b:S.Backs n){i:Nat}(hi:i<S.md.length):U9 n S (S.putK n i).2 (S.putK n i).1 (TM.bk n (S.md.getD i []))/\(S.putK n i).2.Backs n:=by
 unfold ChS.putK
 cases e:atN S.bl i with
 | some k =>
  obtain⟨h1,h2,h3⟩:=b.bk i k e
  rw[←h3]
  exact⟨U9.refl f h2,b⟩
 | none =>
  have m:=f.put (l:=.back i) (f.wl.at hi).bk
  have mks:=b.mks.put f.lnl (l:=.back i) (t:=TM.bk n (S.md.getD i [])) ⟨hi,rfl⟩
  refine⟨⟨m.st,m.md,⟨⟨m.fine.wl.md,m.fine.wl.to,m.fine.wl.mv⟩,m.fine.md0,m.fine.pos,m.fine.lnl⟩,m.lt,m.at',m.len⟩,⟨λi' k' h=>?_,mks⟩⟩
  have h:atN (S.bl++[(i,S.ln.length)]) i'=some k':=h
  have hmd:(S.put (.back i) (TM.bk n (S.md.getD i []))).md=S.md++[TM.bk n (S.md.getD i [])]:=rfl
  show i'<(S.put (.back i) (TM.bk n (S.md.getD i []))).md.length/\k'<(S.put (.back i) (TM.bk n (S.md.getD i []))).md.length/\(S.put (.back i) (TM.bk n (S.md.getD i []))).md.getD k' []=TM.bk n ((S.put (.back i) (TM.bk n (S.md.getD i []))).md.getD i' [])
  by_cases ei:i'=i
  ·subst ei
   rw[ze0 e]at h
   cases h
   refine⟨by rw[hmd,af];lia,m.lt,?_⟩
   rw[m.at',hmd,o6 hi]
  ·have h':atN S.bl i'=some k':=by
    unfold atN at h ⊢
    rw[cZ]at h
    cases q:S.bl.find? (λx=>decide (x.1=i')) with
    | some x=>rw[q]at h;exact h
    | none =>
     rw[q]at h
     simp[Ne.symm ei]at h
   obtain⟨h1,h2,h3⟩:=b.bk i' k' h'
   refine⟨by rw[hmd,af];lia,by rw[hmd,af];lia,?_⟩
   rw[hmd,o6 h2,o6 h1,h3]
structure ChS.Few (S:ChS):Prop where
 ln:S.ln.length<9999000
 bl:S.bl.length<9999000
 st:∀s∈S.st,s.mv.length<100000/\s.to.length<=60/\s.wt.length<=900000
def yd2 (cC cB cS:Addr):Sp:=λvs H Q _=>∃(A:ChA) (S:ChS) (n j p m k:Nat),vs=[.ref A.c,.int j,.int p,.int m]/\w6 cC cB cS n H A S/\S.Fine n/\S.Backs n/\S.Few/\n<=60/\j<n/\atN (S.atS j).to p=some k/\m<S.md.length /\
 ∀H':Hp,y1 A.all H H'->w6 cC cB cS n H' A (S.found n j p m).1->Q (.bl (S.found n j p m).2) H'
theorem t3:y4 ["self","level","place","mover","step","line","made","to","ahead"] ["self","level","place","mover"] (z8 k9):=scq
theorem ChS.atS_of {S:ChS}{j:Nat}{s:StS}(h:S.st[j]?=some s):S.atS j=s:=by unfold ChS.atS;rw[ao,h];rfl
theorem y1.all {A:ChA}{F:List Addr}{H H':Hp}(h:y1 F H H')(hF:∀x∈F,x∈[A.c,A.b,A.ll,A.lm,A.d,A.l]):y1 A.all H H':=h.more λx hx=>by unfold ChA.all;exact aE _ (hF x hx)
theorem y1.allS {A:ChA}{F:List Addr}{H H':Hp}{j:Nat}{a:StA}(h:y1 F H H')(ha:A.st[j]?=some a)(hF:∀x∈F,x∈a.all):y1 A.all H H':=h.more λx hx=>by
 unfold ChA.all
 exact aD _ (bF.mpr ⟨a.all,ah.mpr ⟨a,aw ha,rfl⟩,hF x hx⟩)
theorem N8 {cC cB cS:Addr}(F:Fun K "found_mover" "Chain.found_mover" k9 f fd)(B:Blt mg)(cc:p7 K cC Z2)(cb:p7 K cB za3)(cs:p7 K cS M9)(KB:Known P w K mg base 1 "behind" ["one","other"] (M8 K))
  (MPP:h7 P w K mg base 2 cS "put_place" ["self","place","line","turning"] (yp4 cS)) (MPB:h7 P w K mg base 2 cB "put_behind" ["self","one","other"] (yp2 cB)) (MPK:h7 P w K mg base 2 cB "put_back" ["self","one"] (yp3 cB)) (MPM:h7 P w K mg base 1 cS "put_mover" ["self","mover"] (zz2 cS)) (MH:h7 P w K mg base 3 cC "holds" ["self","turning","level"] (zd2 cC cB cS)):v1 P w K mg base CX0 4 f fd ["self","level","place","mover"] (yd2 cC cB cS):=by
 refine F.ok t3 (λvs H Q E h=>?_) (λcdv Ar outer sh H vs Q E hr h=>?_)
 ·obtain⟨A,S,n,j,p,m,k,rfl,_⟩:=h
  rfl
 obtain⟨A,S,n,j,p,m,k,rfl,ch,fn,bks,few,hn,hj,hp,hm,q⟩:=h
 have hz:=Z0
 have hu:(Ar.deeper (PyProof.Rows.envOfC "Chain.found_mover" (z8 k9) sh.heap.objs.size f cdv)).units+1<cLine:=by have:=hr.units;lia
 refine⟨_,z6 (x9 (i:=4) t3.nd rfl (Or.inl rfl) (o4 t9 (y6 (pv 0) rfl) (pv 1) (λ_ _=>rfl)))
  (z6 (x9 (i:=5) t3.nd rfl (Or.inl rfl) (L6 hu (y6 (pv 4) rfl) (pv 2) (λ_ _=>rfl)))
  (z6 (x9 (i:=6) t3.nd rfl (Or.inl rfl) (u4 KB hr rfl (z0 (o4 t9 (y6 (y6 (pv 0) rfl) rfl) (pv 5) (λ_ _=>rfl)) (z0 (o4 t9 (y6 (y6 (pv 0) rfl) rfl) (pv 3) (λ_ _=>rfl)) z4))))
  (z6 (x9 (i:=7) t3.nd rfl (Or.inl rfl) (o4 R8 (pv 6) (pv 1) (λ_ _=>rfl)))
  (z6 (n6 (zq0 (B5 hu (pv 7) (y6 (pv 4) rfl)))
   (z6 (p5 (c7 cs.cls MPP hr (pv 4) (z0 (pv 7) (z0 (c7 cb.cls MPB hr (y6 (pv 0) rfl) (z0 (pv 5) (z0 (pv 3) z4))) (z0 (pv 6) z4))))) (z7 (y9 V0))) u6)
  (z6 (n6 (Z9 (c7 cc.cls MH hr (pv 0) (z0 (u4 KB hr rfl (z0 (pv 6) (z0 (L6 hu (y6 (pv 4) rfl) (pv 7) (λ_ _=>rfl)) z4))) (z0 (w8 Q1 (pv 1) z9) z4)))) (z7 (y9 V0)) u6)
  (z6 (x9 (i:=8) t3.nd rfl (Or.inl rfl) (c7 cb.cls MPB hr (y6 (pv 0) rfl) (z0 (pv 5) (z0 (pv 3) z4))))
  (z6 (p5 (c7 cs.cls MPM hr (o4 t9 (y6 (pv 0) rfl) (w8 Q1 (pv 1) z9) (λ_ _=>rfl)) (z0 (c7 cb.cls MPB hr (y6 (pv 0) rfl) (z0 (pv 8) (z0 (c7 cb.cls MPK hr (y6 (pv 0) rfl) (z0 (L6 hu (y6 (pv 4) rfl) (pv 7) (λ_ _=>rfl)) z4)) z4))) z4)))
  (z7 (y9 V0))))))))),?_⟩
 obtain⟨dxc,hc⟩:=ch.c
 obtain⟨dxb,hb⟩:=ch.bk.b
 obtain⟨mas,hlm,hmd⟩:=ch.bk.lm
 obtain⟨a,hAj⟩:∃a,A.st[j]?=some a:=⟨_,ac (by rw[ch.len.1];exact hj)⟩
 obtain⟨s,hs⟩:∃s,S.st[j]?=some s:=⟨_,ac (by rw[ch.len.2];exact hj)⟩
 have hsm:s∈S.st:=aw hs
 rw[ChS.atS_of hs]at hp
 have st:=ch.st j a s hAj hs
 obtain⟨dxs,hsa⟩:=st.a
 have hk:k<S.md.length:=(fn.wl.to s hsm _ (V1 hp)).2
 have tk:=fn.wl.at hk
 have tm:=fn.wl.at hm
 obtain⟨ak,hak,htk⟩:=i4 hmd k _ (Z6 [] hk)
 obtain⟨am,ham,htm⟩:=i4 hmd m _ (Z6 [] hm)
 have gk:atI (mas.map V.ref) ((k:Nat):Int)=some (V.ref ak):=m7 (by rw[ag,hak];rfl)
 have gm:atI (mas.map V.ref) ((m:Nat):Int)=some (V.ref am):=m7 (by rw[ag,ham];rfl)
 have ga:atI (A.st.map λs=>V.ref s.a) ((j:Nat):Int)=some (V.ref a.a):=m7 (by rw[ag,hAj];rfl)
 have g1:U6 H a.lt (kV (Sum.inl (p:Int))) (some (V.int k)):=by
  have g:=U6.k (k:=Sum.inl (p:Int)) st.lt
  rwa [V6,hp]at g
 refine⟨_,rfl,A.c,cC,dxc,_,_,rfl,hc,cc.cls,cc.no "steps" (by decide),rfl,_,rfl,A.l,_,_,_,rfl,rfl,SqL.of ch.l,ga,?_⟩
 refine⟨_,rfl,a.a,cS,dxs,_,_,rfl,hsa,cs.cls,cs.no "line_to" (by decide),rfl,_,rfl,a.lt,_,rfl,g1,?_⟩
 refine⟨_,rfl,A.c,cC,dxc,_,_,rfl,hc,cc.cls,cc.no "book" (by decide),rfl,A.b,cB,dxb,_,_,rfl,hb,cb.cls,cb.no "made" (by decide),rfl,_,rfl,A.lm,_,_,_,rfl,rfl,SqL.of hlm,gk,_,rfl,A.c,cC,dxc,_,_,rfl,hc,cc.cls,cc.no "book" (by decide),rfl,A.b,cB,dxb,_,_,rfl,hb,cb.cls,cb.no "made" (by decide),rfl,_,rfl,A.lm,_,_,_,rfl,rfl,SqL.of hlm,gm,ak,am,_,_,rfl,SqT.of htk,SqT.of htm,by rw[tk.length];lia,λx hx=>by rw[tm.length];exact tk.lt hx,λtr H1 htr0 s1 htr=>?_⟩
 have tT:TM.IsT n (TM.beh (S.md.getD k []) (S.md.getD m [])):=tk.beh tm
 have htr:H1 tr=some (.tup (tI (TM.beh (S.md.getD k []) (S.md.getD m [])))):=htr
 obtain⟨R,ef⟩:∃R,R=S.found n j p m:=⟨_,rfl⟩
 rw[←ef]at q
 unfold ChS.found at ef
 simp only[ChS.atS_of hs,hp,cp]at ef
 have mb:=fn.putB hk hm
 have ndh:=ChA.head_nd ch.nd
 simp only[aK,au,aH,not_or,or_false]at ndh
 have lne:A.ll≠A.lm:=ndh.2.2.1.1
 have nda:=ChA.step_nd ch.nd hAj
 simp only[StA.all,aK,au,aH,not_or,or_false]at nda
 have mw:a.m≠a.w:=nda.2.1.2.2
 have ltbf:a.lt≠a.bf:=nda.2.2.1.1
 have fw:=few.st s hsm
 have few1:=few.ln
 have few2:=few.bl
 have ch1:=ch.same s1
 generalize htt:TM.beh (S.md.getD k []) (S.md.getD m [])=t at tT htr ef mb
 refine⟨_,rfl,_,rfl,tr,_,_,_,rfl,rfl,SqT.of htr,zb4 (tT.get_step hj),?_⟩
 refine⟨_,rfl,_,rfl,a.a,cS,dxs,_,_,rfl,s1 _ _ hsa,cs.cls,cs.no "line_to" (by decide),rfl,a.lt,_,rfl,U6.k (k:=Sum.inl ((t.getD j 0:Nat):Int)) (s1 _ _ st.lt),_,rfl,?_⟩
 rw[V6]
 have mdS:∀(S':ChS),(∃l,S'.md=S.md++l)->∀s∈S.st,∀x∈s.to,S'.md.getD x.2 []=S.md.getD x.2 []:=λS' ⟨l,e⟩ s hs x hx=>by rw[e,o6 (fn.wl.to s hs x hx).2]
 cases ea:atN s.to (t.getD j 0) with
 | none =>
  rw[ea]at ef
  dsimp only at ef
  rw[ef]at q
  refine i0 ?_
  refine⟨_,rfl,a.a,dxs,_,rfl,s1 _ _ hsa,rfl,_,rfl,_,rfl,A.c,cC,dxc,_,_,rfl,s1 _ _ hc,cc.cls,cc.no "book" (by decide),rfl,A.b,dxb,_,rfl,s1 _ _ hb,rfl,_,rfl,_,rfl,A,S,n,k,m,rfl,ch1.bk,lne,hk,hm,fn.wl.md,hn,by lia,λH2 fr2 bk2=>?_⟩
  have ch2:w6 cC cB cS n H2 A (S.putB k m).2:=ch1.book (fr2.more λx hx=>by simp at hx ⊢;rcases hx with e|e <;> simp[e]) bk2 mb.st (mdS _ mb.md)
  have hs2:(S.putB k m).2.st[j]?=some s:=by rw[mb.st];exact hs
  have st2:=ch2.st j a s hAj hs2
  have htr2:H2 tr=some (.tup (tI t)):=fr2 _ _ (λz=>by
   obtain⟨las,hll1,_⟩:=ch1.bk.ll
   obtain⟨mas1,hlm1,_⟩:=ch1.bk.lm
   rcases au.mp z with e|z
   ·exact o3 htr hll1 (by intro q;cases q) e
   ·exact o3 htr hlm1 (by intro q;cases q) (ae.mp z)) htr
  refine⟨_,rfl,a,n,(S.putB k m).2.md,j,t.getD j 0,(S.putB k m).1,s,tr,t,rfl,st2,htr2,mb.at',tT,hn,ea,mw,ltbf,by lia,by lia,by lia,λH3 fr3 st3=>?_⟩
  have nt:∀x∈[a.lt,a.bf,a.w],x∈a.all/\∀xs,H2 x≠some (.tup xs):=λx hx=>by
   obtain⟨bs2,hbf2,_⟩:=st2.bf
   obtain⟨ws2,hw2,_⟩:=st2.w
   rcases au.mp hx with e|hx
   ·rw[e];exact⟨by simp[StA.all],λxs z=>by rw[st2.lt]at z;cases z⟩
   ·rcases au.mp hx with e|hx
    ·rw[e];exact⟨by simp[StA.all],λxs z=>by rw[hbf2]at z;cases z⟩
    ·rw[ae.mp hx];exact⟨by simp[StA.all],λxs z=>by rw[hw2]at z;cases z⟩
  have ch3:=ch2.step hAj nt fr3 st3
  rw[mb.st]at ch3
  refine q H3 ?_ ch3
  exact y1.trans (y2.frame s1) (y1.trans (fr2.all λx hx=>by simp at hx ⊢;rcases hx with e|e <;> simp[e]) (fr3.allS hAj λx hx=>(nt x hx).1))
 | some k2 =>
  rw[ea]at ef
  dsimp only at ef
  refine o5 ?_
  have hk2:k2<S.md.length:=(fn.wl.to s hsm _ (V1 ea)).2
  have tk2:=fn.wl.at hk2
  obtain⟨bs1,hbf1,hbs1⟩:=(ch1.st j a s hAj hs).bf
  obtain⟨bb,hv2,hbb⟩:=P6 hbs1 ea
  have g2:U6 H1 a.bf (kV (Sum.inl ((t.getD j 0:Nat):Int))) (some (V.ref bb)):=by
   have g:=U6.k (k:=Sum.inl ((t.getD j 0:Nat):Int)) hbf1
   rwa [hv2]at g
  refine⟨_,rfl,A.c,dxc,_,rfl,s1 _ _ hc,rfl,_,rfl,_,rfl,a.a,cS,dxs,_,_,rfl,s1 _ _ hsa,cs.cls,cs.no "back_from" (by decide),rfl,_,rfl,a.bf,_,rfl,g2,tr,bb,t,_,rfl,SqT.of htr,SqT.of hbb,by rw[tT.length];lia,λx hx=>by rw[tk2.bk.length];exact tT.lt hx,λxr H2 hxr0 s2 hxr=>?_⟩
  refine⟨_,rfl,_,_,rfl,rfl,A,S,n,j+1,xr,TM.beh t (TM.bk n (S.md.getD k2 [])),?_,ch1.same s2,fn.wl,hxr,tT.beh tk2.bk,by lia,hn,λH3 s3=>?_⟩
  ·show [V.ref A.c,V.ref xr,V.int ((j:Int)+1)]=_
   rw[show((j+1:Nat):Int)=(j:Int)+1 by lia]
  refine⟨_,rfl,?_⟩
  have ch3:=(ch1.same s2).same s3
  have s03:=s1.trans (s2.trans s3)
  cases hi:(S9 n S.md (S.st.drop (j+1)) (j+1) (TM.beh t (TM.bk n (S.md.getD k2 []))) []).isSome with
  | true =>
   rw[hi,if_pos rfl]at ef
   rw[ef]at q
   exact i0 (q H3 (y2.frame s03) ch3)
  | false =>
   rw[hi,if_neg (by decide)]at ef
   rw[ef]at q
   refine o5 ?_
   have hj1:j+1<n:=by
    rcases dR (j+1) n with h|h
    ·exact h
    ·rw[cm (by rw[ch.len.2];exact h),S9]at hi
     cases hi
   obtain⟨a1,hA1⟩:∃a,A.st[j+1]?=some a:=⟨_,ac (by rw[ch.len.1];exact hj1)⟩
   obtain⟨s',hs'⟩:∃s,S.st[j+1]?=some s:=⟨_,ac (by rw[ch.len.2];exact hj1)⟩
   rw[ChS.atS_of hs']at q
   have hsm':s'∈S.st:=aw hs'
   have fw':=few.st s' hsm'
   have nda1:=ChA.step_nd ch.nd hA1
   simp only[StA.all,aK,au,aH,not_or,or_false]at nda1
   have bks1:(S.putB k m).2.Backs n:=(bks.putB fn.lnl hk hm).1
   have bl1:(S.putB k m).2.bl=S.bl:=by
    unfold ChS.putB
    by_cases e1:k=0
    ·rw[if_pos e1]
    ·rw[if_neg e1]
     by_cases e2:m=0
     ·rw[if_pos e2]
     ·rw[if_neg e2];rfl
   obtain⟨l1,hl1⟩:=mb.md
   have hk2':k2<(S.putB k m).2.md.length:=by rw[hl1,af];lia
   obtain⟨mk,bks2⟩:=mb.fine.putK bks1 hk2'
   obtain⟨l2,hl2⟩:=mk.md
   have len1:=mb.len
   have len2:=mk.len
   have ha':(S.putB k m).1<((S.putB k m).2.putK n k2).2.md.length:=by rw[hl2,af];have:=mb.lt;lia
   have m3:=mk.fine.putB ha' mk.lt
   obtain⟨l3,hl3⟩:=m3.md
   obtain⟨dxc3,hc3⟩:=ch3.c
   obtain⟨dxb3,hb3⟩:=ch3.bk.b
   refine⟨_,rfl,A.c,cC,dxc3,_,_,rfl,hc3,cc.cls,cc.no "book" (by decide),rfl,A.b,dxb3,_,rfl,hb3,rfl,_,rfl,_,rfl,A,S,n,k,m,rfl,ch3.bk,lne,hk,hm,fn.wl.md,hn,by lia,λH4 fr4 bk4=>?_⟩
   have ch4:w6 cC cB cS n H4 A (S.putB k m).2:=ch3.book (fr4.more λx hx=>by simp at hx ⊢;rcases hx with e|e <;> simp[e]) bk4 mb.st (mdS _ mb.md)
   obtain⟨dxc4,hc4⟩:=ch4.c
   obtain⟨dxb4,hb4⟩:=ch4.bk.b
   have st41:=ch4.st (j+1) a1 s' hA1 (by rw[mb.st];exact hs')
   obtain⟨dx41,hsa41⟩:=st41.a
   have st4:=ch4.st j a s hAj (by rw[mb.st];exact hs)
   obtain⟨dx4,hsa4⟩:=st4.a
   have ga1:atI (A.st.map λs=>V.ref s.a) ((j:Int)+1)=some (V.ref a1.a):=by
    rw[show(j:Int)+1=((j+1:Nat):Int) by lia]
    exact m7 (by rw[ag,hA1];rfl)
   have g4:U6 H4 a.lt (kV (Sum.inl ((t.getD j 0:Nat):Int))) (some (V.int k2)):=by
    have g:=U6.k (k:=Sum.inl ((t.getD j 0:Nat):Int)) st4.lt
    rwa [V6,ea]at g
   refine⟨_,rfl,A.c,cC,dxc4,_,_,rfl,hc4,cc.cls,cc.no "steps" (by decide),rfl,_,rfl,_,_,rfl,rfl,A.l,_,_,_,rfl,rfl,SqL.of ch4.l,ga1,a1.a,dx41,_,rfl,hsa41,rfl,?_⟩
   refine⟨_,rfl,A.c,cC,dxc4,_,_,rfl,hc4,cc.cls,cc.no "book" (by decide),rfl,A.b,dxb4,_,rfl,hb4,rfl,_,rfl,_,rfl,A.c,cC,dxc4,_,_,rfl,hc4,cc.cls,cc.no "book" (by decide),rfl,A.b,dxb4,_,rfl,hb4,rfl,_,rfl,a.a,cS,dx4,_,_,rfl,hsa4,cs.cls,cs.no "line_to" (by decide),rfl,_,rfl,a.lt,_,rfl,g4,A,(S.putB k m).2,n,k2,rfl,ch4.bk,lne,hk2',mb.fine.wl.md,hn,by lia,by rw[bl1];lia,λH5 fr5 bk5=>?_⟩
   have ch5:w6 cC cB cS n H5 A ((S.putB k m).2.putK n k2).2:=ch4.book fr5 bk5 mk.st (λs hs x hx=>by rw[hl2,o6 (mb.fine.wl.to s hs x hx).2])
   refine⟨A,((S.putB k m).2.putK n k2).2,n,(S.putB k m).1,((S.putB k m).2.putK n k2).1,rfl,ch5.bk,lne,ha',mk.lt,mk.fine.wl.md,hn,by lia,λH6 fr6 bk6=>?_⟩
   have ch6:w6 cC cB cS n H6 A (((S.putB k m).2.putK n k2).2.putB (S.putB k m).1 ((S.putB k m).2.putK n k2).1).2:=ch5.book (fr6.more λx hx=>by simp at hx ⊢;rcases hx with e|e <;> simp[e]) bk6 m3.st (λs hs x hx=>by rw[hl3,o6 (mk.fine.wl.to s hs x hx).2])
   have e6:(((S.putB k m).2.putK n k2).2.putB (S.putB k m).1 ((S.putB k m).2.putK n k2).1).2.st=S.st:=by rw[m3.st,mk.st,mb.st]
   have st6:=ch6.st (j+1) a1 s' hA1 (by rw[e6];exact hs')
   refine⟨a1,n,_,j+1,(((S.putB k m).2.putK n k2).2.putB (S.putB k m).1 ((S.putB k m).2.putK n k2).1).1,s',rfl,st6,nda1.2.1.2.2,by lia,by lia,by lia,λH7 fr7 st7=>?_⟩
   have nt:∀x∈[a1.m,a1.w],x∈a1.all/\∀xs,H6 x≠some (.tup xs):=λx hx=>by
    obtain⟨ws2,hw2,_⟩:=st6.w
    rcases au.mp hx with e|hx
    ·rw[e];exact⟨by simp[StA.all],λxs z=>by rw[st6.m]at z;cases z⟩
    ·rw[ae.mp hx];exact⟨by simp[StA.all],λxs z=>by rw[hw2]at z;cases z⟩
   have ch7:=ch6.step hA1 nt fr7 st7
   rw[e6]at ch7
   refine q H7 ?_ ch7
   exact y1.trans (y2.frame s03) (y1.trans (fr4.all λx hx=>by simp at hx ⊢;rcases hx with e|e <;> simp[e]) (y1.trans (fr5.all λx hx=>by simp at hx ⊢;rcases hx with e|e|e <;> simp[e]) (y1.trans (fr6.all λx hx=>by simp at hx ⊢;rcases hx with e|e <;> simp[e]) (fr7.allS hA1 λx hx=>(nt x hx).1))))
def ChS.chn (S:ChS):TM.Chn where
 mv j s:=∃k∈(S.atS j).mv,S.md.getD k []=s
 ring j:=(S.atS j).to.map Prod.fst
 up j p:=S.md.getD ((atN (S.atS j).to p).getD 0) []
theorem V2 {l:List (Nat×Nat)}{p:Nat}:atN l p=none↔p∉l.map Prod.fst:=by
 unfold atN
 rw[Option.map_eq_none_iff,eo]
 constructor
 ·intro h z
  obtain⟨x,hx,e⟩:=ah.mp z
  exact h x hx (by simpa using e)
 ·intro h x hx e
  exact h (ah.mpr ⟨x,hx,by simpa using e⟩)
theorem F6 {l:List (Nat×Nat)}{p k:Nat}(h:atN l p=some k):p∈l.map Prod.fst:=ah.mpr ⟨_,V1 h,rfl⟩
theorem ChS.chn_up {S:ChS}{j p k:Nat}(h:atN (S.atS j).to p=some k):S.chn.up j p=S.md.getD k []:=by
 show S.md.getD ((atN (S.atS j).to p).getD 0) []=_
 rw[h];rfl
theorem ChS.drop_at {S:ChS}{j:Nat}(h:j<S.st.length):S.st.drop j=S.atS j::S.st.drop (j+1):=by
 rw[dG h,ChS.atS_of (ac h)]
theorem zq6 {n:Nat}{S:ChS}(len:S.st.length=n)(ok:S.chn.Ok n):∀(d:Nat) (x acc:List Nat),d<=n->TM.IsT n x->((S9 n S.md (S.st.drop (n-d)) (n-d) x acc).isSome=true↔S.chn.Sif n d x)
 | 0,x,acc,_,_=>by
  rw[de,cm (by lia),S9]
  exact⟨λ_=>trivial,λ_=>rfl⟩
 | d+1,x,acc,hd,hx=>by
  have hj:n-(d+1)<n:=by lia
  have e:n-(d+1)+1=n-d:=by lia
  rw[ChS.drop_at (by lia),S9,TM.Chn.Sif]
  cases ea:atN (S.atS (n-(d+1))).to (x.getD (n-(d+1)) 0) with
  | none =>
   have hm:x.getD (n-(d+1)) 0∉S.chn.ring (n-(d+1)):=V2.mp ea
   exact⟨λh=>(by cases h),λh=>absurd h.1 hm⟩
  | some k =>
   have hm:x.getD (n-(d+1)) 0∈S.chn.ring (n-(d+1)):=F6 ea
   have hu:=ok.upT hj hm
   have eu:=ChS.chn_up ea
   dsimp only
   rw[e]
   by_cases ee:x.getD (n-(d+1)) 0=n-(d+1)
   ·rw[if_pos ee]
    have h0:TM.beh x (TM.bk n (S.chn.up (n-(d+1)) (x.getD (n-(d+1)) 0)))=x:=by
     rw[ee,ok.upOwn _ hj,TM.bk_still,TM.beh_still hx]
    rw[h0,zq6 len ok d x acc (by lia) hx]
    exact⟨λh=>⟨hm,h⟩,λh=>h.2⟩
   ·rw[if_neg ee,eu,zq6 len ok d _ _ (by lia) (hx.beh (by rw[eu]at hu;exact hu.bk))]
    exact⟨λh=>⟨hm,h⟩,λh=>h.2⟩
structure ChS.Inv (n:Nat) (S:ChS):Prop where
 fine:S.Fine n
 bks:S.Backs n
 len:S.st.length=n
 ok:S.chn.Ok n
 lk:∀j,(S.atS j).lk<=(S.atS j).wt.length
 wl:∀j,(S.atS j).wt.length=(S.atS j).to.length*(S.atS j).mv.length
 wt:∀j p m,p∈(S.atS j).to.map Prod.fst->m∈(S.atS j).mv->(p,m)∈(S.atS j).wt
 wt':∀j,∀x∈(S.atS j).wt,x.1∈(S.atS j).to.map Prod.fst/\x.2∈(S.atS j).mv
 good:∀j,∀x∈(S.atS j).wt.take (S.atS j).lk,S.chn.Good n j x.1 (S.md.getD x.2 [])
 ind:∀j,TM.Indep n ((S.atS j).mv.map λk=>S.md.getD k [])
def ChS.Done (S:ChS)(j:Nat):Prop:=(S.atS j).lk=(S.atS j).wt.length
theorem ChS.Inv.shut {n:Nat}{S:ChS}(h:S.Inv n){j:Nat}(d:S.Done j):S.chn.Shut n j:=by
 intro p hp s hs
 obtain⟨m,hm,rfl⟩:=hs
 refine h.good j (p,m) ?_
 rw[d,bg]
 exact h.wt j p m hp hm
theorem ChS.Inv.holds {n:Nat}{S:ChS}(h:S.Inv n){j:Nat}(hj:j<=n)(d:∀i,j<=i->i<n->S.Done i){x:List Nat}(hx:TM.IsT n x)(hf:TM.Fix j x):(S9 n S.md (S.st.drop j) j x []).isSome=true↔TM.Grp n (S.chn.mv j) x:=by
 have e:n-(n-j)=j:=by lia
 have h1:=zq6 h.len h.ok (n-j) x [] (by lia) hx
 have h2:=h.ok.sift (d:=n-j) (by lia) hx (by rw[e];exact hf) (λi hi hin=>h.shut (d i (by lia) hin))
 rw[e]at h1 h2
 exact h1.trans h2
theorem ChS.Inv.few {n:Nat}{S:ChS}(hn:n<=60)(h:S.Inv n)(j:Nat):(S.atS j).mv.length<=354:=by
 have q:=TM.indep_few hn (l:=(S.atS j).mv.map λk=>S.md.getD k []) (λs hs=>by
  obtain⟨k,hk,e⟩:=ah.mp hs
  exact h.ok.mvT j s ⟨k,hk,e⟩) (h.ind j)
 rwa [aa]at q
theorem ChS.Inv.ring {n:Nat}{S:ChS}(h:S.Inv n){j:Nat}(hj:j<n):(S.atS j).to.length<=n:=by
 have q:=TM.nodup_below (M:=n) (h.ok.nd j hj) λx hx=>h.ok.lt j x hj hx
 have e:(S.chn.ring j).length=(S.atS j).to.length:=aa _
 lia
theorem ChS.atS_set {S S':ChS}{i:Nat}{s':StS}(e:S'.st=S.st.set i s')(hi:i<S.st.length)(h:Nat):S'.atS h=if h=i then s' else S.atS h:=by
 unfold ChS.atS
 rw[e,ao,ao,List.getElem?_set]
 by_cases q:h=i
 ·subst q
  rw[if_pos rfl,if_pos hi,if_pos rfl];rfl
 ·rw[if_neg (Ne.symm q),if_neg q]
theorem ChS.atS_mem {S:ChS}{j:Nat}(h:j<S.st.length):S.atS j∈S.st:=by
 rw[ChS.atS_of (ac h)]
 exact cK h
theorem ChS.atS_out {S:ChS}{j:Nat}(h:¬j<S.st.length):S.atS j=⟨[],[],[],0⟩:=by
 unfold ChS.atS
 rw[ao,aP (by lia)]
 rfl
theorem ChS.Fine.mvlt {n:Nat}{S:ChS}(f:S.Fine n){j k:Nat}(h:k∈(S.atS j).mv):k<S.md.length:=by
 by_cases q:j<S.st.length
 ·exact f.wl.mv _ (ChS.atS_mem q) k h
 ·rw[ChS.atS_out q]at h;cases h
theorem ChS.Fine.tolt {n:Nat}{S:ChS}(f:S.Fine n){j:Nat}{x:Nat×Nat}(h:x∈(S.atS j).to):x.1<n/\x.2<S.md.length:=by
 by_cases q:j<S.st.length
 ·exact f.wl.to _ (ChS.atS_mem q) x h
 ·rw[ChS.atS_out q]at h;cases h
theorem ChS.Fine.set {n:Nat}{S S2:ChS}{k:Nat}{t:List Nat}(m:U9 n S S2 k t){i:Nat}{s':StS}(hto:∀x∈s'.to,x.1<n/\x.2<S2.md.length)(hmv:∀k∈s'.mv,k<S2.md.length):ChS.Fine n { S2 with st:=S.st.set i s' }:=by
 have f:=m.fine
 refine⟨⟨f.wl.md,λs hs=>?_,λs hs=>?_⟩,f.md0,f.pos,f.lnl⟩
 ·rcases dF hs with h|h
  ·exact f.wl.to s (by rw[m.st];exact h)
  ·rw[h];exact hto
 ·rcases dF hs with h|h
  ·exact f.wl.mv s (by rw[m.st];exact h)
  ·rw[h];exact hmv
theorem U9.at_ {n:Nat}{S S2:ChS}{k:Nat}{t:List Nat}(m:U9 n S S2 k t){i:Nat}(h:i<S.md.length):S2.md.getD i []=S.md.getD i []:=by
 obtain⟨l,e⟩:=m.md
 rw[e,o6 h]
theorem U9.lift {n:Nat}{S S2:ChS}{k:Nat}{t:List Nat}(m:U9 n S S2 k t){i:Nat}(h:i<S.md.length):i<S2.md.length:=by
 obtain⟨l,e⟩:=m.md
 rw[e,af];lia
theorem U9.chn {n:Nat}{S S2 S':ChS}{k:Nat}{t:List Nat}(f:S.Fine n)(m:U9 n S S2 k t)(e:S'.md=S2.md){h:Nat}:((S'.atS h).mv=(S.atS h).mv->S'.chn.mv h=S.chn.mv h)/\((S'.atS h).to=(S.atS h).to->S'.chn.ring h=S.chn.ring h/\S'.chn.up h=S.chn.up h):=by
 refine⟨λq=>?_,λq=>⟨?_,?_⟩⟩
 ·funext s
  show(∃k∈(S'.atS h).mv,S'.md.getD k []=s)=(∃k∈(S.atS h).mv,S.md.getD k []=s)
  rw[q,e]
  refine propext ⟨λ⟨k,hk,z⟩=>⟨k,hk,?_⟩,λ⟨k,hk,z⟩=>⟨k,hk,?_⟩⟩
  ·rw[←m.at_ (f.mvlt hk)];exact z
  ·rw[m.at_ (f.mvlt hk)];exact z
 ·show(S'.atS h).to.map Prod.fst=_
  rw[q];rfl
 ·funext p
  show S'.md.getD ((atN (S'.atS h).to p).getD 0) []=S.md.getD ((atN (S.atS h).to p).getD 0) []
  rw[q,e]
  cases ea:atN (S.atS h).to p with
  | none=>exact m.at_ f.pos
  | some k=>exact m.at_ (f.tolt (V1 ea)).2
def ChS.look (S:ChS)(j:Nat):ChS:={ S with st:=S.st.set j { S.atS j with lk:=(S.atS j).lk+1 } }
theorem ChS.look_at {S:ChS}{j:Nat}(hj:j<S.st.length)(h:Nat):(S.look j).atS h=if h=j then { S.atS j with lk:=(S.atS j).lk+1 } else S.atS h:=ChS.atS_set (S':=S.look j) rfl hj h
theorem ChS.look_mv {S:ChS}{j:Nat}(hj:j<S.st.length)(h:Nat):((S.look j).atS h).mv=(S.atS h).mv/\((S.look j).atS h).to=(S.atS h).to/\((S.look j).atS h).wt=(S.atS h).wt:=by
 rw[ChS.look_at hj]
 by_cases q:h=j
 ·subst q;rw[if_pos rfl];exact⟨rfl,rfl,rfl⟩
 ·rw[if_neg q];exact⟨rfl,rfl,rfl⟩
theorem ChS.look_chn {S:ChS}{j:Nat}(hj:j<S.st.length):(S.look j).chn=S.chn:=by
 have h1:∀h,((S.look j).atS h).mv=(S.atS h).mv:=λh=>(ChS.look_mv hj h).1
 have h2:∀h,((S.look j).atS h).to=(S.atS h).to:=λh=>(ChS.look_mv hj h).2.1
 have h3:(S.look j).md=S.md:=rfl
 unfold ChS.chn
 simp only[h1,h2,h3]
theorem ChS.Inv.look {n:Nat}{S:ChS}(h:S.Inv n){j:Nat}(hj:j<n){x:Nat×Nat}(hx:(S.atS j).wt[(S.atS j).lk]?=some x)(g:S.chn.Good n j x.1 (S.md.getD x.2 [])):(S.look j).Inv n:=by
 have hj':j<S.st.length:=by rw[h.len];exact hj
 have hlt:=(ap.mp hx).1
 have e:=λi=>ChS.look_mv (S:=S) hj' i
 have ec:=ChS.look_chn (S:=S) hj'
 refine⟨?_,h.bks.of rfl rfl rfl rfl,by show(S.st.set _ _).length=n;rw[bd];exact h.len,by rw[ec];exact h.ok,λi=>?_,λi=>by rw[(e i).1,(e i).2.1,(e i).2.2];exact h.wl i,λi=>by rw[(e i).1,(e i).2.1,(e i).2.2];exact h.wt i,λi=>by rw[(e i).1,(e i).2.1,(e i).2.2];exact h.wt' i,λi y hy=>?_,λi=>by rw[(e i).1];exact h.ind i⟩
 ·have m:=U9.refl h.fine h.fine.pos
  exact ChS.Fine.set m (λy hy=>h.fine.tolt hy) (λy hy=>h.fine.mvlt hy)
 ·rw[ChS.look_at hj']
  by_cases q:i=j
  ·subst q;rw[if_pos rfl];exact hlt
  ·rw[if_neg q];exact h.lk i
 ·rw[ec]
  show S.chn.Good n i y.1 (S.md.getD y.2 [])
  rw[ChS.look_at hj']at hy
  by_cases q:i=j
  ·subst q
   rw[if_pos rfl]at hy
   have hy:y∈(S.atS i).wt.take ((S.atS i).lk+1):=hy
   rw[bG,hx]at hy
   rcases aB.mp hy with z|z
   ·exact h.good i y z
   ·obtain rfl:y=x:=by simpa using z
    exact g
  ·rw[if_neg q]at hy
   exact h.good i y hy
theorem zw3 {l:List (Nat×Nat)}{p q k:Nat}(h:p≠q):atN (l++[(q,k)]) p=atN l p:=by
 unfold atN
 rw[cZ]
 cases e:l.find? (λx=>decide (x.1=p)) with
 | some x=>rfl
 | none=>simp[Ne.symm h]
theorem E6 {S S2:ChS}{n k:Nat}{t:List Nat}(f:S.Fine n)(m:U9 n S S2 k t)(j:Nat):((S.atS j).mv.map λk=>S2.md.getD k [])=((S.atS j).mv.map λk=>S.md.getD k []):=bA λx hx=>m.at_ (f.mvlt hx)
theorem ChS.Inv.place {n:Nat}{S S2:ChS}{j q k:Nat}{t:List Nat}(h:S.Inv n)(hj:j<n)(m:U9 n S S2 k t)(b:S2.Backs n)(hq:atN (S.atS j).to q=none)(hqn:q<n)(gt:TM.Grp n (S.chn.mv j) t)(ht:t.getD j 0=q) :
  ChS.Inv n { S2 with st:=S.st.set j ((S.atS j).putP q k) }/\TM.Chn.MoreP n S.chn (ChS.chn { S2 with st:=S.st.set j ((S.atS j).putP q k) }) j q t:=by
 obtain⟨S',hS'⟩:∃S',S'=({ S2 with st:=S.st.set j ((S.atS j).putP q k) }:ChS):=⟨_,rfl⟩
 rw[←hS']
 have hst:S'.st=S.st.set j ((S.atS j).putP q k):=by rw[hS']
 have hmd:S'.md=S2.md:=by rw[hS']
 have hj':j<S.st.length:=by rw[h.len];exact hj
 have ea:=λi=>ChS.atS_set hst hj' i
 have emv:∀i,(S'.atS i).mv=(S.atS i).mv:=λi=>by
  rw[ea i]
  by_cases e:i=j
  ·subst e;rw[if_pos rfl];rfl
  ·rw[if_neg e]
 have ej:S'.atS j=(S.atS j).putP q k:=by rw[ea j,if_pos rfl]
 have en:∀i,i≠j->S'.atS i=S.atS i:=λi e=>by rw[ea i,if_neg e]
 have mp:TM.Chn.MoreP n S.chn S'.chn j q t:=by
  refine⟨hj,V2.mp hq,hqn,gt,ht,funext λi=>(m.chn h.fine hmd).1 (emv i),?_,λi e=>((m.chn h.fine hmd).2 (by rw[en i e])).1,λp hp=>?_,?_,λi e=>((m.chn h.fine hmd).2 (by rw[en i e])).2⟩
  ·show(S'.atS j).to.map Prod.fst=(S.atS j).to.map Prod.fst++[q]
   rw[ej]
   show((S.atS j).to++[(q,k)]).map Prod.fst=_
   rw[aF];rfl
  ·show S'.md.getD ((atN (S'.atS j).to p).getD 0) []=S.md.getD ((atN (S.atS j).to p).getD 0) []
   rw[ej]
   show S'.md.getD ((atN ((S.atS j).to++[(q,k)]) p).getD 0) []=_
   rw[zw3 hp,hmd]
   cases e:atN (S.atS j).to p with
   | none=>exact m.at_ h.fine.pos
   | some k'=>exact m.at_ (h.fine.tolt (V1 e)).2
  ·show S'.md.getD ((atN (S'.atS j).to q).getD 0) []=t
   rw[ej]
   show S'.md.getD ((atN ((S.atS j).to++[(q,k)]) q).getD 0) []=t
   rw[ze0 hq,hmd]
   exact m.at'
 refine⟨⟨?_,?_,?_,mp.ok h.ok,λi=>?_,λi=>?_,λi p mm hp hm=>?_,λi x hx=>?_,λi x hx=>?_,λi=>?_⟩,mp⟩
 ·rw[hS']
  refine ChS.Fine.set m (λx hx=>?_) (λx hx=>m.lift (h.fine.mvlt hx))
  rcases aB.mp hx with z|z
  ·exact⟨(h.fine.tolt z).1,m.lift (h.fine.tolt z).2⟩
  ·rw[ae.mp z];exact⟨hqn,m.lt⟩
 ·rw[hS'];exact b.of rfl rfl rfl rfl
 ·rw[hst,bd];exact h.len
 ·by_cases e:i=j
  ·subst e
   rw[ej]
   have:=h.lk i
   show(S.atS i).lk<=((S.atS i).wt++_).length
   rw[af];lia
  ·rw[en i e];exact h.lk i
 ·by_cases e:i=j
  ·subst e
   rw[ej]
   have:=h.wl i
   show((S.atS i).wt++(S.atS i).mv.map λm=>(q,m)).length=((S.atS i).to++[(q,k)]).length*(S.atS i).mv.length
   rw[af,aa,af,aR,eQ,cx,this]
  ·rw[en i e];exact h.wl i
 ·by_cases e:i=j
  ·subst e
   rw[ej]at hp hm ⊢
   have hp:p∈((S.atS i).to++[(q,k)]).map Prod.fst:=hp
   rw[aF]at hp
   show(p,mm)∈(S.atS i).wt++(S.atS i).mv.map λm=>(q,m)
   rcases aB.mp hp with z|z
   ·exact aE _ (h.wt i p mm z hm)
   ·have z:p=q:=ae.mp z
    rw[z]
    exact aD _ (ah.mpr ⟨mm,hm,rfl⟩)
  ·rw[en i e]at hp hm ⊢;exact h.wt i p mm hp hm
 ·by_cases e:i=j
  ·subst e
   rw[ej]at hx ⊢
   have hx:x∈(S.atS i).wt++(S.atS i).mv.map λm=>(q,m):=hx
   show x.1∈((S.atS i).to++[(q,k)]).map Prod.fst/\x.2∈(S.atS i).mv
   rw[aF]
   rcases aB.mp hx with z|z
   ·exact⟨aE _ (h.wt' i x z).1,(h.wt' i x z).2⟩
   ·obtain⟨mm,hm,rfl⟩:=ah.mp z
    exact⟨aD _ (by simp),hm⟩
  ·rw[en i e]at hx ⊢;exact h.wt' i x hx
 ·have hx':x∈(S.atS i).wt.take (S.atS i).lk:=by
   by_cases e:i=j
   ·subst e
    rw[ej]at hx
    have hx:x∈((S.atS i).wt++(S.atS i).mv.map λm=>(q,m)).take (S.atS i).lk:=hx
    rwa [aZ (h.lk i)]at hx
   ·rwa [en i e]at hx
  have hw:=h.wt' i x (bH hx')
  have g:=mp.good (i:=i) hw.1 (h.good i x hx')
  rw[hmd,m.at_ (h.fine.mvlt hw.2)]
  exact g
 ·rw[emv i,hmd,E6 h.fine m]
  exact h.ind i
theorem ChS.Inv.mover {n:Nat}{S S2:ChS}{i k:Nat}{t:List Nat}(h:S.Inv n)(hi:i<n)(m:U9 n S S2 k t)(b:S2.Backs n)(tT:TM.IsT n t)(tF:TM.Fix i t)(dn:∀g,g+1=i->TM.Grp n (S.chn.mv g) t)(ng:¬TM.Grp n (S.chn.mv i) t) :
  ChS.Inv n { S2 with st:=S.st.set i ((S.atS i).putM k) }/\TM.Chn.MoreM n S.chn (ChS.chn { S2 with st:=S.st.set i ((S.atS i).putM k) }) i t:=by
 obtain⟨S',hS'⟩:∃S',S'=({ S2 with st:=S.st.set i ((S.atS i).putM k) }:ChS):=⟨_,rfl⟩
 rw[←hS']
 have hst:S'.st=S.st.set i ((S.atS i).putM k):=by rw[hS']
 have hmd:S'.md=S2.md:=by rw[hS']
 have hi':i<S.st.length:=by rw[h.len];exact hi
 have ea:=λg=>ChS.atS_set hst hi' g
 have eto:∀g,(S'.atS g).to=(S.atS g).to:=λg=>by
  rw[ea g]
  by_cases e:g=i
  ·subst e;rw[if_pos rfl];rfl
  ·rw[if_neg e]
 have ej:S'.atS i=(S.atS i).putM k:=by rw[ea i,if_pos rfl]
 have en:∀g,g≠i->S'.atS g=S.atS g:=λg e=>by rw[ea g,if_neg e]
 have mp:TM.Chn.MoreM n S.chn S'.chn i t:=by
  refine⟨hi,tT,tF,dn,λg s=>?_,funext λg=>((m.chn h.fine hmd).2 (eto g)).1,funext λg=>((m.chn h.fine hmd).2 (eto g)).2⟩
  by_cases e:g=i
  ·subst e
   show(∃k'∈(S'.atS g).mv,S'.md.getD k' []=s)↔((∃k'∈(S.atS g).mv,S.md.getD k' []=s)∨(g=g/\s=t))
   rw[ej,hmd]
   constructor
   ·rintro⟨k',hk,z⟩
    rcases aB.mp hk with y|y
    ·exact .inl ⟨k',y,by rw[←m.at_ (h.fine.mvlt y)];exact z⟩
    ·rw[ae.mp y,m.at']at z
     exact .inr ⟨rfl,z.symm⟩
   ·rintro (⟨k',hk,z⟩|⟨_,z⟩)
    ·exact⟨k',aE _ hk,by rw[m.at_ (h.fine.mvlt hk)];exact z⟩
    ·exact⟨k,aD _ (by simp),by rw[m.at',z]⟩
  ·rw[(m.chn h.fine hmd).1 (by rw[en g e])]
   exact⟨.inl,λz=>z.elim id λy=>absurd y.1 e⟩
 refine⟨⟨?_,?_,?_,mp.ok h.ok,λg=>?_,λg=>?_,λg p mm hp hm=>?_,λg x hx=>?_,λg x hx=>?_,λg=>?_⟩,mp⟩
 ·rw[hS']
  refine ChS.Fine.set m (λx hx=>⟨(h.fine.tolt hx).1,m.lift (h.fine.tolt hx).2⟩) (λx hx=>?_)
  rcases aB.mp hx with z|z
  ·exact m.lift (h.fine.mvlt z)
  ·rw[ae.mp z];exact m.lt
 ·rw[hS'];exact b.of rfl rfl rfl rfl
 ·rw[hst,bd];exact h.len
 ·by_cases e:g=i
  ·subst e
   rw[ej]
   have:=h.lk g
   show(S.atS g).lk<=((S.atS g).wt++_).length
   rw[af];lia
  ·rw[en g e];exact h.lk g
 ·by_cases e:g=i
  ·subst e
   rw[ej]
   have:=h.wl g
   show((S.atS g).wt++(S.atS g).to.map λx=>(x.1,k)).length=(S.atS g).to.length*((S.atS g).mv++[k]).length
   rw[af,aa,af,aR,Nat.mul_add,cI,this]
  ·rw[en g e];exact h.wl g
 ·by_cases e:g=i
  ·subst e
   rw[ej]at hp hm ⊢
   have hp:p∈(S.atS g).to.map Prod.fst:=hp
   have hm:mm∈(S.atS g).mv++[k]:=hm
   show(p,mm)∈(S.atS g).wt++(S.atS g).to.map λx=>(x.1,k)
   rcases aB.mp hm with z|z
   ·exact aE _ (h.wt g p mm hp z)
   ·rw[ae.mp z]
    obtain⟨y,hy,e⟩:=ah.mp hp
    exact aD _ (ah.mpr ⟨y,hy,by rw[e]⟩)
  ·rw[en g e]at hp hm ⊢;exact h.wt g p mm hp hm
 ·by_cases e:g=i
  ·subst e
   rw[ej]at hx ⊢
   have hx:x∈(S.atS g).wt++(S.atS g).to.map λx=>(x.1,k):=hx
   show x.1∈(S.atS g).to.map Prod.fst/\x.2∈(S.atS g).mv++[k]
   rcases aB.mp hx with z|z
   ·exact⟨(h.wt' g x z).1,aE _ (h.wt' g x z).2⟩
   ·obtain⟨y,hy,rfl⟩:=ah.mp z
    exact⟨ah.mpr ⟨y,hy,rfl⟩,by simp⟩
  ·rw[en g e]at hx ⊢;exact h.wt' g x hx
 ·have hx':x∈(S.atS g).wt.take (S.atS g).lk:=by
   by_cases e:g=i
   ·subst e
    rw[ej]at hx
    have hx:x∈((S.atS g).wt++(S.atS g).to.map λx=>(x.1,k)).take (S.atS g).lk:=hx
    rwa [aZ (h.lk g)]at hx
   ·rwa [en g e]at hx
  have hw:=h.wt' g x (bH hx')
  have gd:=mp.good h.ok (h.good g x hx')
  rw[hmd,m.at_ (h.fine.mvlt hw.2)]
  exact gd
 ·by_cases e:g=i
  ·subst e
   rw[ej,hmd]
   show TM.Indep n (((S.atS g).mv++[k]).map λk=>S2.md.getD k [])
   rw[aF,E6 h.fine m]
   show TM.Indep n (_++[S2.md.getD k []])
   rw[m.at']
   refine(h.ind g).snoc λz=>ng ?_
   refine TM.Grp.mono (h.ok.mvT g) (λs hs=>TM.Grp.of (h.ok.mvT g) ?_) z
   obtain⟨y,hy,e⟩:=ah.mp hs
   exact⟨y,hy,e⟩
  ·rw[en g e,hmd,E6 h.fine m];exact h.ind g
theorem ChS.putK_bl {n:Nat}{S:ChS}(i:Nat):(S.putK n i).2.bl.length<=S.bl.length+1:=by
 unfold ChS.putK
 cases e:atN S.bl i with
 | some k=>exact cy _
 | none =>
  show(S.bl++[_]).length<=_
  rw[af];exact aq _
theorem ChS.atS_st {S S2:ChS}(e:S2.st=S.st)(j:Nat):S2.atS j=S.atS j:=by unfold ChS.atS;rw[e]
theorem ChS.Inv.grow {n:Nat}{S S2:ChS}{k:Nat}{t:List Nat}(h:S.Inv n)(m:U9 n S S2 k t)(b:S2.Backs n):S2.Inv n/\S2.chn=S.chn:=by
 have ea:=λj=>ChS.atS_st m.st j
 have ec:S2.chn=S.chn:=by
  have h1:S2.chn.mv=S.chn.mv:=funext λj=>(m.chn h.fine rfl).1 (by rw[ea j])
  have h2:S2.chn.ring=S.chn.ring:=funext λj=>((m.chn h.fine rfl).2 (by rw[ea j])).1
  have h3:S2.chn.up=S.chn.up:=funext λj=>((m.chn h.fine rfl).2 (by rw[ea j])).2
  show TM.Chn.mk S2.chn.mv S2.chn.ring S2.chn.up=TM.Chn.mk S.chn.mv S.chn.ring S.chn.up
  rw[h1,h2,h3]
 refine⟨⟨m.fine,b,by rw[m.st];exact h.len,by rw[ec];exact h.ok,λj=>by rw[ea j];exact h.lk j,λj=>by rw[ea j];exact h.wl j,λj=>by rw[ea j];exact h.wt j,λj=>by rw[ea j];exact h.wt' j,λj x hx=>?_,λj=>by rw[ea j,E6 h.fine m];exact h.ind j⟩,ec⟩
 rw[ea j]at hx
 rw[ec,m.at_ (h.fine.mvlt (h.wt' j x (bH hx)).2)]
 exact h.good j x hx
def ChS.looks (S:ChS):Nat:=(S.st.map StS.lk).sum
theorem zd5 {l:List StS}:∀{j:Nat} {a s:StS},l[j]?=some s->((l.set j a).map StS.lk).sum+s.lk=(l.map StS.lk).sum+a.lk:=by
 induction l with
 | nil=>intro j a s h;cases h
 | cons x r ih =>
  intro j a s h
  cases j with
  | zero =>
   obtain rfl:x=s:=by simpa using h
   simp only[List.set_cons_zero,aT,dJ];lia
  | succ j =>
   have h':r[j]?=some s:=by simpa using h
   have:=ih (a:=a) h'
   simp only[List.set_cons_succ,aT,dJ];lia
theorem ChS.get_at {S:ChS}{j:Nat}(h:j<S.st.length):S.st[j]?=some (S.atS j):=by rw[ChS.atS_of (ac h)];exact ac h
theorem ChS.look_looks {S:ChS}{j:Nat}(h:j<S.st.length):(S.look j).looks=S.looks+1:=by
 have q:=zd5 (a:={ S.atS j with lk:=(S.atS j).lk+1 }) (ChS.get_at h)
 unfold ChS.looks ChS.look
 dsimp only at q ⊢
 lia
structure ChS.Next (n:Nat) (S S':ChS) (j:Nat) (b:Bool):Prop where
 inv:S'.Inv n
 looks:S'.looks=S.looks+1
 done:∀i,j<i->i<n->(b=true->i≠j+1)->S.Done i->S'.Done i
 more:b=true->j+1<n
 mv0:S'.chn.mv 0=S.chn.mv 0
 src:S'.src=S.src
 ln:S'.ln.length<=S.ln.length+3
 bl:S'.bl.length<=S.bl.length+1
theorem ChS.Inv.found {n:Nat}{S:ChS}{j:Nat}{x:Nat×Nat}(h:S.Inv n)(hj:j<n)(hx:(S.atS j).wt[(S.atS j).lk]?=some x)(d:∀i,j<i->i<n->S.Done i):ChS.Next n S ((S.found n j x.1 x.2).1.look j) j (S.found n j x.1 x.2).2:=by
 have hj':j<S.st.length:=by rw[h.len];exact hj
 have hw:=h.wt' j x (aw hx)
 have hp:x.1∈S.chn.ring j:=hw.1
 have hs:S.chn.mv j (S.md.getD x.2 []):=⟨x.2,hw.2,rfl⟩
 have hm:=h.fine.mvlt hw.2
 obtain⟨k,hk⟩:∃k,atN (S.atS j).to x.1=some k:=by
  cases e:atN (S.atS j).to x.1 with
  | none=>exact absurd hp (V2.mp e)
  | some k=>exact⟨k,rfl⟩
 have hkl:k<S.md.length:=(h.fine.tolt (V1 hk)).2
 have eu:S.chn.up j x.1=S.md.getD k []:=ChS.chn_up hk
 have hu:=h.ok.upT hj hp
 have hsT:=h.ok.mvT j _ hs
 have mb:=h.fine.putB hkl hm
 obtain⟨b1,bl1⟩:=h.bks.putB h.fine.lnl hkl hm
 have et:(TM.beh (S.md.getD k []) (S.md.getD x.2 [])).getD j 0=(S.md.getD x.2 []).getD x.1 0:=by
  rw[←eu,TM.beh_get hu hj,h.ok.upTo j _ hj hp]
 have gt:TM.Grp n (S.chn.mv j) (TM.beh (S.md.getD k []) (S.md.getD x.2 [])):=by
  rw[←eu]
  exact .mul (h.ok.upG j _ hj hp) hs
 have tT:TM.IsT n (TM.beh (S.md.getD k []) (S.md.getD x.2 [])):=gt.isT (h.ok.mvT j)
 obtain⟨R,ef⟩:∃R,R=S.found n j x.1 x.2:=⟨_,rfl⟩
 rw[←ef]
 unfold ChS.found at ef
 simp only[hk,cp,et]at ef
 cases ea:atN (S.atS j).to ((S.md.getD x.2 []).getD x.1 0) with
 | none =>
  rw[ea]at ef
  dsimp only at ef
  have hqn:(S.md.getD x.2 []).getD x.1 0<n:=hsT.step_lt (h.ok.lt j _ hj hp)
  obtain⟨iv,mp⟩:=h.place hj mb b1 ea hqn gt et
  have g:=mp.new h.ok hp hs (by rw[eu])
  rw[ef]
  dsimp only
  generalize hS':({ (S.putB k x.2).2 with st:=S.st.set j ((S.atS j).putP ((S.md.getD x.2 []).getD x.1 0) (S.putB k x.2).1) }:ChS)=S' at iv mp g
  have hst:S'.st=S.st.set j ((S.atS j).putP ((S.md.getD x.2 []).getD x.1 0) (S.putB k x.2).1):=by rw[←hS']
  have hmd:S'.md=(S.putB k x.2).2.md:=by rw[←hS']
  have at':=λi=>ChS.atS_set hst hj' i
  have ej:S'.atS j=(S.atS j).putP ((S.md.getD x.2 []).getD x.1 0) (S.putB k x.2).1:=by rw[at' j,if_pos rfl]
  have hj2:j<S'.st.length:=by rw[hst,bd];exact hj'
  have hx':(S'.atS j).wt[(S'.atS j).lk]?=some x:=by
   rw[ej]
   show((S.atS j).wt++_)[(S.atS j).lk]?=some x
   rw[aI (ap.mp hx).1]
   exact hx
  refine⟨iv.look hj hx' (by rw[hmd,mb.at_ hm];exact g),?_,λi hi hin _ dn=>?_,λz=>(by cases z),?_,(by show S'.src=_;rw[←hS'];exact ChS.putB_src _ _),?_,?_⟩
  ·rw[ChS.look_looks hj2]
   have q:=zd5 (a:=(S.atS j).putP ((S.md.getD x.2 []).getD x.1 0) (S.putB k x.2).1) (ChS.get_at hj')
   have q2:((S.atS j).putP ((S.md.getD x.2 []).getD x.1 0) (S.putB k x.2).1).lk=(S.atS j).lk:=rfl
   unfold ChS.looks
   rw[hst]
   lia
  ·unfold ChS.Done
   rw[ChS.look_at hj2,if_neg (by lia),at' i,if_neg (by lia)]
   exact dn
  ·rw[ChS.look_chn hj2,mp.emv]
  ·show S'.ln.length<=_
   have:=mb.len
   rw[←hS']
   show(S.putB k x.2).2.ln.length<=_
   lia
  ·show S'.bl.length<=_
   rw[←hS']
   show(S.putB k x.2).2.bl.length<=_
   rw[bl1];lia
 | some k2 =>
  rw[ea]at ef
  dsimp only at ef
  have hq:(S.md.getD x.2 []).getD x.1 0∈S.chn.ring j:=F6 ea
  have eu2:S.chn.up j ((S.md.getD x.2 []).getD x.1 0)=S.md.getD k2 []:=ChS.chn_up ea
  have hk2:k2<S.md.length:=(h.fine.tolt (V1 ea)).2
  obtain⟨sg,sf⟩:=h.ok.schreier hj hp hs hq
  rw[eu,eu2]at sg sf
  have hyT:=sg.isT (h.ok.mvT j)
  have hh:=h.holds (j:=j+1) (by lia) (λi hi hin=>d i (by lia) hin) hyT sf
  cases hi:(S9 n S.md (S.st.drop (j+1)) (j+1) (TM.beh (TM.beh (S.md.getD k []) (S.md.getD x.2 [])) (TM.bk n (S.md.getD k2 []))) []).isSome with
  | true =>
   rw[hi,if_pos rfl]at ef
   rw[ef]
   dsimp only
   have g:S.chn.Good n j x.1 (S.md.getD x.2 []):=⟨hq,by rw[eu,eu2];exact hh.mp hi⟩
   refine⟨h.look hj hx g,ChS.look_looks hj',λi hi hin _ dn=>?_,λz=>(by cases z),?_,rfl,?_,?_⟩
   ·unfold ChS.Done
    rw[ChS.look_at hj',if_neg (by lia)]
    exact dn
   ·rw[ChS.look_chn hj']
   ·exact eF _ _
   ·exact cy _
  | false =>
   rw[hi,if_neg (by decide)]at ef
   rw[ef]
   dsimp only
   have ng:¬TM.Grp n (S.chn.mv (j+1)) (TM.beh (TM.beh (S.md.getD k []) (S.md.getD x.2 [])) (TM.bk n (S.md.getD k2 []))):=λz=>by
    rw[hh.mpr z]at hi;cases hi
   have hj1:j+1<n:=by
    rcases dR (j+1) n with q|q
    ·exact q
    ·rw[cm (by rw[h.len];exact q),S9]at hi
     cases hi
   obtain⟨mk,b2⟩:=mb.fine.putK b1 (mb.lift hk2)
   have bl2:=ChS.putK_bl (n:=n) (S:=(S.putB k x.2).2) k2
   have m3:=mk.fine.putB (mk.lift mb.lt) mk.lt
   have src3:(((S.putB k x.2).2.putK n k2).2.putB (S.putB k x.2).1 ((S.putB k x.2).2.putK n k2).1).2.src=S.src:=by rw[ChS.putB_src,ChS.putK_src,ChS.putB_src]
   obtain⟨b3,bl3⟩:=b2.putB mk.fine.lnl (mk.lift mb.lt) mk.lt
   obtain⟨iv1,ec1⟩:=h.grow mb b1
   obtain⟨iv2,ec2⟩:=iv1.grow mk b2
   rw[ec1]at ec2
   rw[mk.at_ mb.lt,mb.at',mk.at',mb.at_ hk2]at m3
   generalize hS2:((S.putB k x.2).2.putK n k2).2=S2 at m3 b3 bl3 iv2 ec2 mk bl2 ef src3
   generalize hS3:S2.putB (S.putB k x.2).1 ((S.putB k x.2).2.putK n k2).1=S3 at m3 b3 bl3 ef src3
   have st2:S2.st=S.st:=by rw[mk.st,mb.st]
   have as2:=λi=>ChS.atS_st st2 i
   obtain⟨iv,mp⟩:=iv2.mover hj1 m3 b3 hyT sf (λg hg=>by
    obtain rfl:g=j:=by lia
    rw[ec2];exact sg) (by rw[ec2];exact ng)
   rw[as2,st2]at iv mp
   have g:=mp.new iv2.ok (j:=j) (p:=x.1) (s:=S.md.getD x.2 []) (by rw[ec2];exact hq) (by rw[ec2,eu,eu2])
   generalize hS':({ S3.2 with st:=S.st.set (j+1) ((S.atS (j+1)).putM S3.1) }:ChS)=S' at iv mp g
   have hj1':j+1<S.st.length:=by rw[h.len];exact hj1
   have hst:S'.st=S.st.set (j+1) ((S.atS (j+1)).putM S3.1):=by rw[←hS']
   have hmd:S'.md=S3.2.md:=by rw[←hS']
   have at':=λi=>ChS.atS_set hst hj1' i
   have hj2:j<S'.st.length:=by rw[hst,bd];exact hj'
   have ej:S'.atS j=S.atS j:=by rw[at' j,if_neg (by lia)]
   refine⟨iv.look hj (by rw[ej];exact hx) (by rw[hmd,m3.at_ (mk.lift (mb.lift hm)),mk.at_ (mb.lift hm),mb.at_ hm];exact g),?_,λi hi hin hne dn=>?_,λ_=>hj1,?_,(by show S'.src=_;rw[←hS'];exact src3),?_,?_⟩
   ·rw[ChS.look_looks hj2]
    have q:=zd5 (a:=(S.atS (j+1)).putM S3.1) (ChS.get_at hj1')
    have q2:((S.atS (j+1)).putM S3.1).lk=(S.atS (j+1)).lk:=rfl
    unfold ChS.looks
    rw[hst]
    lia
   ·unfold ChS.Done
    rw[ChS.look_at hj2,if_neg (by lia),at' i,if_neg (hne rfl)]
    exact dn
   ·rw[ChS.look_chn hj2,←ec2]
    funext s
    exact propext ((mp.emv 0 s).trans ⟨λz=>z.elim id λy=>absurd y.1 (by lia),.inl⟩)
   ·show S'.ln.length<=_
    have:=mb.len
    have:=mk.len
    have:=m3.len
    rw[←hS']
    show S3.2.ln.length<=_
    lia
   ·show S'.bl.length<=_
    rw[←hS']
    show S3.2.bl.length<=_
    rw[bl3]
    rw[bl1]at bl2
    exact bl2
theorem ChS.look_putB {S:ChS}(j k m:Nat):(S.look j).putB k m=((S.putB k m).1,(S.putB k m).2.look j):=by
 unfold ChS.putB
 by_cases e1:k=0
 ·rw[if_pos e1,if_pos e1]
 ·rw[if_neg e1,if_neg e1]
  by_cases e2:m=0
  ·rw[if_pos e2,if_pos e2]
  ·rw[if_neg e2,if_neg e2];rfl
theorem ChS.look_putK {S:ChS}(n j k:Nat):(S.look j).putK n k=((S.putK n k).1,(S.putK n k).2.look j):=by
 unfold ChS.putK
 have e:(S.look j).bl=S.bl:=rfl
 rw[e]
 cases q:atN S.bl k with
 | some k'=>rfl
 | none=>rfl
theorem ChS.found_look {n:Nat}{S:ChS}{j:Nat}(hj:j<S.st.length)(p m:Nat):(S.look j).found n j p m=((S.found n j p m).1.look j,(S.found n j p m).2):=by
 have ej:(S.look j).atS j={ S.atS j with lk:=(S.atS j).lk+1 }:=by rw[ChS.look_at hj,if_pos rfl]
 have ej1:(S.look j).atS (j+1)=S.atS (j+1):=by rw[ChS.look_at hj,if_neg (by lia)]
 have emd:(S.look j).md=S.md:=rfl
 have ed:(S.look j).st.drop (j+1)=S.st.drop (j+1):=List.drop_set_of_lt (by lia)
 unfold ChS.found
 simp only[ej,ej1,emd,ed,ChS.look_putB,ChS.look_putK]
 cases ea:atN (S.atS j).to ((TM.beh (S.md.getD ((atN (S.atS j).to p).getD 0) []) (S.md.getD m [])).getD j 0) with
 | none =>
  dsimp only
  refine Prod.ext ?_ rfl
  generalize hX:((atN (S.atS j).to p).getD 0)=k
  generalize hS':({ (S.putB k m).2 with st:=S.st.set j ((S.atS j).putP ((TM.beh (S.md.getD k []) (S.md.getD m [])).getD j 0) (S.putB k m).1) }:ChS)=S'
  have hst:S'.st=S.st.set j ((S.atS j).putP ((TM.beh (S.md.getD k []) (S.md.getD m [])).getD j 0) (S.putB k m).1):=by rw[←hS']
  have e:=ChS.atS_set hst hj j
  rw[if_pos rfl]at e
  show _=({ S' with st:=S'.st.set j { S'.atS j with lk:=(S'.atS j).lk+1 } }:ChS)
  rw[e,hst,List.set_set]
  show({ (S.putB k m).2.look j with st:=(S.st.set j _).set j _ }:ChS)=_
  rw[List.set_set,←hS']
  rfl
 | some k2 =>
  dsimp only
  by_cases hi:(S9 n S.md (S.st.drop (j+1)) (j+1) (TM.beh (TM.beh (S.md.getD ((atN (S.atS j).to p).getD 0) []) (S.md.getD m [])) (TM.bk n (S.md.getD k2 []))) []).isSome=true
  ·rw[if_pos hi,if_pos hi]
  ·rw[if_neg hi,if_neg hi]
   dsimp only
   refine Prod.ext ?_ rfl
   dsimp only
   generalize (((S.putB ((atN (S.atS j).to p).getD 0) m).2.putK n k2).2.putB (S.putB ((atN (S.atS j).to p).getD 0) m).1 ((S.putB ((atN (S.atS j).to p).getD 0) m).2.putK n k2).1)=Y
   show({ Y.2 with st:=(S.st.set j _).set (j+1) _ }:ChS)=({ Y.2 with st:=(S.st.set (j+1) _).set j _ }:ChS)
   rw[List.set_comm _ _ (show j≠j+1 by lia)]
   have e:(({ Y.2 with st:=S.st.set (j+1) ((S.atS (j+1)).putM Y.1) }:ChS)).atS j=S.atS j:=by
    unfold ChS.atS
    rw[ao,bn (by lia),ao]
   rw[e]
theorem yz4 {l:List StS}{b:Nat}(h:∀s∈l,s.lk<=b):(l.map StS.lk).sum<=l.length*b:=by
 induction l with
 | nil=>simp
 | cons x r ih =>
  have h1:=h x ax
  have h2:=ih λs hs=>h s (av _ hs)
  rw[aT,dJ,aQ,eQ,cx]
  lia
theorem ChS.Inv.wt_le {n:Nat}{S:ChS}(hn:n<=60)(h:S.Inv n){j:Nat}(hj:j<n):(S.atS j).wt.length<=21240:=by
 rw[h.wl j]
 have h1:=h.ring hj
 have h2:=h.few hn j
 exact aX (dE (aX h1 hn) h2) (by decide)
theorem ChS.mem_at {S:ChS}{s:StS}(h:s∈S.st):∃j,j<S.st.length/\S.atS j=s:=by
 obtain⟨j,hj,e⟩:=bI.mp h
 exact⟨j,hj,by rw[ChS.atS_of (ac hj),e]⟩
theorem ChS.Inv.looks_le {n:Nat}{S:ChS}(hn:n<=60)(h:S.Inv n):S.looks<=1274400:=by
 have q:=yz4 (l:=S.st) (b:=21240) λs hs=>by
  obtain⟨j,hj,rfl⟩:=ChS.mem_at hs
  exact aX (h.lk j) (h.wt_le hn (by rw[←h.len];exact hj))
 unfold ChS.looks
 rw[h.len]at q
 have:n*21240<=60*21240:=dX _ hn
 lia
theorem ChS.Inv.few_look {n:Nat}{S:ChS}{c j:Nat}(hn:n<=60)(h:S.Inv n)(hj:j<n)(hc:c<=1000)(b1:S.ln.length<=3*S.looks+c)(b2:S.bl.length<=S.looks+c):(S.look j).Few/\(S.look j).Fine n:=by
 have q:=h.looks_le hn
 have hj':j<S.st.length:=by rw[h.len];exact hj
 refine⟨⟨by show S.ln.length<_;lia,by show S.bl.length<_;lia,λs hs=>?_⟩,ChS.Fine.set (U9.refl h.fine h.fine.pos) (λy hy=>h.fine.tolt hy) (λy hy=>h.fine.mvlt hy)⟩
 obtain⟨i,hi,rfl⟩:=ChS.mem_at hs
 have hi:i<n:=by
  have e:(S.look j).st.length=S.st.length:=bd
  rw[e,h.len]at hi;exact hi
 obtain⟨e1,e2,e3⟩:=ChS.look_mv hj' i
 rw[e1,e2,e3]
 have h1:=h.few hn i
 have h2:=h.ring hi
 have h3:=h.wt_le hn hi
 exact⟨by lia,by lia,by lia⟩
theorem c3 {X:Cx}{C:Addr}{k j:Nat}{m:Str}{ps:List Str}{sp:Sp}{o:Expr}{ta:TE}{apos pos:Pos}{pl:Sem Bool}(c:Cls X.K C)(kn:h7 X.prog X.w X.K X.mg X.base k C m ps sp)(hr:c4 j X.A)(ho:PE X o ta)(hj:k<=j:=by decide)
  (ht:eval (.Call (.Attribute o m apos) [] [] pos) X.env=(do
   let v ←eval o X.env
   standAt apos.atName
   let (f,first) ←holding [v] (getMethod v m pl)
   callWith pos f first (backTo pos (eX [] X.env)) (backToKw pos (fj [] X.env))):=by rfl):PE X (.Call (.Attribute o m apos) [] [] pos) (ye1 C m sp [] E0 ta yz7):=by
 obtain⟨f,fd,G,hm,hb⟩:=kn
 exact yn6 ho c hm G (hr.mono hj) hb .nil zu2 ht
def zv3 (cC cB cS:Addr):Sp:=λvs H Q _=>∃(A:ChA) (S:ChS) (n c:Nat),vs=[.ref A.c]/\w6 cC cB cS n H A S/\S.Inv n/\0<n/\n<=60/\(∀i,0<i->i<n->S.Done i)/\c<=1000/\S.ln.length<=3*S.looks+c/\S.bl.length<=S.looks+c /\
 ∀(S':ChS) (H':Hp),y1 A.all H H'->w6 cC cB cS n H' A S'->S'.Inv n->(∀i,i<n->S'.Done i)->S'.chn.mv 0=S.chn.mv 0->S'.src=S.src->S'.ln.length<=3*S'.looks+c->S'.bl.length<=S'.looks+c->Q .non H'
theorem f9:y4 ["self","level","pair"] ["self"] (z8 U0):=scq
theorem zb8 {cC cB cS:Addr}(F:Fun K "settle" "Chain.settle" U0 f fd)(B:Blt mg)(cc:p7 K cC Z2)(cs:p7 K cS M9)(MN:h7 P w K mg base 1 cS "next_pair" ["self"] (yp1 cS))(MF:h7 P w K mg base 4 cC "found_mover" ["self","level","place","mover"] (yd2 cC cB cS)):v1 P w K mg base CX0 5 f fd ["self"] (zv3 cC cB cS):=by
 refine F.ok f9 (λvs H Q E h=>?_) (λcdv Ar outer sh H vs Q E hr h=>?_)
 ·obtain⟨A,S,n,c,rfl,_⟩:=h
  rfl
 obtain⟨A,S,n,c,rfl,ch0,iv0,hn0,hn,dn0,hc,bl0,bb0,q⟩:=h
 obtain⟨M,hM⟩:∃M:Nat,M=2000000:=⟨_,rfl⟩
 refine⟨_,z6 (x9 (i:=1) f9.nd rfl (Or.inl rfl) z9)
  (z7 (S7 PassesOwn.never (p6 xb6 (pv 1) z9 (u3 _))
   (z6 (x9 (i:=2) f9.nd rfl (Or.inl rfl) (c3 cs.cls MN hr (o4 t9 (y6 (pv 0) rfl) (pv 1) (λ_ _=>rfl))))
   (z7 (n6 (zq0 (yy3 (pv 2))) (z7 (zy2 (i:=1) f9.nd rfl (Or.inl rfl) z9 yw2))
    (z7 (n6 (Z9 (c7 cc.cls MF hr (pv 0) (z0 (pv 1) (z0 (o4 R8 (pv 2) z9 (λ_ _=>rfl)) (z0 (o4 R8 (pv 2) z9 (λ_ _=>rfl)) z4)))))
     (z7 (zy2 (i:=1) f9.nd rfl (Or.inl rfl) z9 yw0)) u6))))))),?_⟩
 refine⟨λm σ H2=>∃(S2:ChS) (lv:Int) (v2:Option V),σ=[some (.ref A.c),some (.int lv),v2]/\-1<=lv/\lv<n/\m=2*(M-S2.looks)+(lv+1).toNat/\y1 A.all H H2/\w6 cC cB cS n H2 A S2/\S2.Inv n/\(∀i:Nat,lv<i->i<n->S2.Done i)/\(S2.chn.mv 0=S.chn.mv 0/\S2.src=S.src)/\S2.ln.length<=3*S2.looks+c/\S2.bl.length<=S2.looks+c,⟨_,S,0,none,rfl,by lia,by lia,rfl,y1.refl,ch0,iv0,λi hi hin=>dn0 i (by lia) hin,⟨rfl,rfl⟩,bl0,bb0⟩,?_⟩
 rintro m σ H2 ⟨S2,lv,v2,rfl,l1,l2,rfl,fr,ch,iv,dn,e0,b1,b2⟩
 refine⟨_,rfl,_,_,rfl,rfl,_,rfl,?_⟩
 by_cases hlv:0<=lv
 ·rw[decide_eq_true hlv]
  refine i0 ⟨_,λσ' H' z=>z,?_⟩
  obtain⟨j,rfl⟩:∃j:Nat,lv=(j:Int):=⟨lv.toNat,by lia⟩
  have hj:j<n:=by lia
  have hj':j<S2.st.length:=by rw[iv.len];exact hj
  obtain⟨dxc,hc'⟩:=ch.c
  obtain⟨a,hAj⟩:∃a,A.st[j]?=some a:=⟨_,ac (by rw[ch.len.1];exact hj)⟩
  have hs:=ChS.get_at hj'
  have st:=ch.st j a _ hAj hs
  obtain⟨dxs,hsa⟩:=st.a
  have ga:atI (A.st.map λs=>V.ref s.a) ((j:Nat):Int)=some (V.ref a.a):=m7 (by rw[ag,hAj];rfl)
  have hwl:=iv.wt_le hn hj
  refine⟨_,rfl,A.c,cC,dxc,_,_,rfl,hc',cc.cls,cc.no "steps" (by decide),rfl,_,rfl,A.l,_,_,_,rfl,rfl,SqL.of ch.l,ga,a.a,dxs,_,rfl,hsa,rfl,a,n,S2.md,j,S2.atS j,rfl,st,iv.lk j,by lia,λhd=>?_,λx r H3 hx hr3 fr3 st3=>?_⟩
  ·refine⟨_,rfl,_,rfl,i0 ?_⟩
   refine⟨_,rfl,_,_,rfl,rfl,?_⟩
   refine⟨_,?_,S2,(j:Int)-1,_,rfl,by lia,by lia,rfl,fr,ch,iv,λi hi hin=>?_,e0,b1,b2⟩
   ·lia
   ·by_cases e:i=j
    ·rw[e];exact hd
    ·exact dn i (by lia) hin
  ·have nt:∀x∈[a.a],x∈a.all/\∀xs,H2 x≠some (.tup xs):=λx hx=>by
    rw[ae.mp hx]
    exact⟨by simp[StA.all],λxs z=>by rw[hsa]at z;cases z⟩
   have ch3:w6 cC cB cS n H3 A (S2.look j):=ch.step hAj nt fr3 st3
   obtain⟨few,fin⟩:=iv.few_look hn hj hc b1 b2
   have hw:=iv.wt' j x (aw hx)
   have nx:=iv.found hj hx (λi hi hin=>dn i (by lia) hin)
   have fl:=ChS.found_look (n:=n) (S:=S2) hj' x.1 x.2
   obtain⟨k,hk⟩:∃k,atN (S2.atS j).to x.1=some k:=by
    cases e:atN (S2.atS j).to x.1 with
    | none=>exact absurd hw.1 (V2.mp e)
    | some k=>exact⟨k,rfl⟩
   have hm:=iv.fine.mvlt hw.2
   obtain⟨dxc3,hc3⟩:=ch3.c
   have lks:=nx.inv.looks_le hn
   have lke:=nx.looks
   refine⟨_,rfl,_,rfl,o5 ?_⟩
   refine⟨_,rfl,A.c,dxc3,_,rfl,hc3,rfl,_,rfl,_,rfl,r,_,_,_,rfl,rfl,SqT.of hr3,rfl,_,rfl,r,_,_,_,rfl,rfl,SqT.of hr3,rfl,A,S2.look j,n,j,x.1,x.2,k,rfl,ch3,fin,iv.bks.of rfl rfl rfl rfl,few,hn,hj,by rw[(ChS.look_mv hj' j).2.1];exact hk,hm,λH4 fr4 ch4=>?_⟩
   rw[fl]at ch4 ⊢
   have fr':y1 A.all H H4:=fr.trans ((fr3.allS hAj λx hx=>(nt x hx).1).trans fr4)
   have ln':((S2.found n j x.1 x.2).1.look j).ln.length<=3*((S2.found n j x.1 x.2).1.look j).looks+c:=by have:=nx.ln;lia
   have bl':((S2.found n j x.1 x.2).1.look j).bl.length<=((S2.found n j x.1 x.2).1.look j).looks+c:=by have:=nx.bl;lia
   have e0':=And.intro (nx.mv0.trans e0.1) (nx.src.trans e0.2)
   refine⟨_,rfl,?_⟩
   cases hb:(S2.found n j x.1 x.2).2 with
   | true =>
    have hj1:=nx.more hb
    refine i0 ?_
    refine⟨_,rfl,_,_,rfl,rfl,?_⟩
    refine⟨_,?_,(S2.found n j x.1 x.2).1.look j,(j:Int)+1,_,rfl,by lia,by lia,rfl,fr',ch4,nx.inv,λi hi hin=>nx.done i (by lia) hin (λ_=>by lia) (dn i (by lia) hin),e0',ln',bl'⟩
    lia
   | false =>
    refine o5 ?_
    refine⟨_,?_,(S2.found n j x.1 x.2).1.look j,(j:Int),_,rfl,by lia,by lia,rfl,fr',ch4,nx.inv,λi hi hin=>nx.done i (by lia) hin (λz=>by rw[hb]at z;cases z) (dn i (by lia) hin),e0',ln',bl'⟩
    lia
 ·rw[decide_eq_false hlv]
  refine o5 ?_
  exact q S2 H2 fr ch iv (λi hi=>dn i (by lia) hi) e0.1 e0.2 b1 b2
theorem zs3 {J:It}{fr:List Nat}{te:CT TE}{σ:St}{H1:Hp}{Q:Addr->Hp->Prop}{β:Type}(adr:β->Addr)(foot:β->List Addr)(R:Hp->Nat->β->Prop){n:Nat}(hz:n<=eU)
  (hR:∀(H H':Hp) (D:Addr) (xs:List V) (i:Nat) (b:β),R H i b->H D=some (.lst xs)->y1 [D] H H'->D∉foot b->R H' i b)
  (hstop:∀H,y2 H1 H->J.stop n H) (hgo:∀i H,i<n->y2 H1 H->J.go i H)
  (turn:∀(i:Nat) H x H2,i<n->y2 H1 H->J.yld i H x H2->H2=H/\∀C₀ s₀ H₀ fp,te C₀ s₀ H₀ fp (some x::fr.map λj=>(σ[j]?).getD none) H λv H4=>y2 H H4/\∃b,v=.ref (adr b)/\R H4 i b/\(foot b).Nodup/\∀a∈foot b,H a=none/\∃o,H4 a=some o)
  (fin:∀D H (bs:List β),H1 D=none->y2 H1 H->H D=some (.lst (bs.map λb=>V.ref (adr b)))->bs.length=n->(∀i b,bs[i]?=some b->R H i b)->(bs.map foot).flatten.Nodup->(∀b∈bs,∀a∈foot b,H1 a=none/\a≠D)->Q D H) :
  ∀D,H1 D=none->∃W:Nat->Nat->St->Hp->Prop,(∃m,W 0 m (P5 1 fr σ) (upd H1 D (.lst [])))/\∀i m σ' H',W i m σ' H' ->
  (J.stop i H'/\Q D H')∨(J.go i H'/\∀x H2,J.yld i H' x H2->∀C₀ s₀ H₀ fp,u9 0 x σ' H2 λσ3 H3=>∃N:VK,te C₀ s₀ H₀ fp σ3 H3 N/\∀y H4,N y H4 ->
   ∃ys m',H4 D=some (.lst ys)/\ys.length<eU/\m'<m/\W (i+1) m' σ3 (upd H4 D (.lst (ys++[y])))):=by
 intro D hD
 refine⟨λi m σ' H'=>m=n-i/\i<=n/\y2 H1 H'/\(∃bs:List β,H' D=some (.lst (bs.map λb=>V.ref (adr b)))/\bs.length=i/\(∀k b,bs[k]?=some b->R H' k b)/\(bs.map foot).flatten.Nodup/\∀b∈bs,∀a∈foot b,H1 a=none/\a≠D/\∃o,H' a=some o)/\∃z,σ'=z::fr.map λj=>(σ[j]?).getD none,
  ⟨n,rfl,aV _,y3 hD _,⟨[],z3,rfl,λk b h=>(by simp at h),by simp,λb h=>(by cases h)⟩,none,rfl⟩,?_⟩
 rintro i m σ' H' ⟨rfl,hi,sm,⟨bs,hl,hbl,hRs,hnd,hft⟩,z,rfl⟩
 by_cases hlt:i<n
 ·refine .inr ⟨hgo i H' hlt sm,λx H2 yl C₀ s₀ H₀ fp=>?_⟩
  obtain⟨e,tn⟩:=turn i H' x H2 hlt sm yl
  subst e
  refine⟨_,tn C₀ s₀ H₀ fp,λv H4 ⟨s4,b,hv,hRb,hndb,hfb⟩=>?_⟩
  subst hv
  have hD4:=s4 _ _ hl
  have fr4:y1 [D] H4 (upd H4 D (.lst (bs.map (λb=>V.ref (adr b))++[V.ref (adr b)]))):=y1.upd y1.refl (by simp) _
  have hDb:D∉foot b:=λh=>by
   have:=(hfb D h).1
   rw[hl]at this
   cases this
  have hDbs:∀c∈bs,D∉foot c:=λc hc h=>(hft c hc D h).2.1 rfl
  refine⟨_,n-(i+1),hD4,by rw[aa,hbl];lia,by lia,rfl,hlt,λc o e=>?_,⟨bs++[b],by rw[z3,aF];rfl,by rw[af,hbl];rfl,λk c hk=>?_,?_,λc hc a ha=>?_⟩,_,rfl⟩
  ·rw[z5 (y0 e hD)]
   exact s4 _ _ (sm _ _ e)
  ·by_cases hk':k<bs.length
   ·rw[aI hk']at hk
    have hm:=hDbs c (aw hk)
    exact hR H4 _ D _ k c (hR _ H4 D _ k c (hRs k c hk) hl (y2.frame s4) hm) hD4 fr4 hm
   ·have e:k=bs.length:=by
     have:=(ap.mp hk).1
     rw[af,aR]at this
     lia
    subst e
    rw[aN (aq _),bD]at hk
    obtain rfl:b=c:=by simpa using hk
    rw[hbl]
    exact hR H4 _ D _ i b hRb hD4 fr4 hDb
  ·rw[aF,List.flatten_append]
   refine bc.mpr ⟨hnd,by simpa using hndb,λa ha c hc e=>?_⟩
   subst e
   obtain⟨l,hl1,hl2⟩:=bF.mp ha
   obtain⟨b',hb',rfl⟩:=ah.mp hl1
   obtain⟨o,ho⟩:=(hft b' hb' a hl2).2.2
   have hc':a∈foot b:=by simpa using hc
   have:=(hfb a hc').1
   rw[ho]at this
   cases this
  ·rcases aB.mp hc with w|w
   ·obtain⟨h1,h2,o,ho⟩:=hft c w a ha
    exact⟨h1,h2,o,by rw[z5 h2];exact s4 _ _ ho⟩
   ·rw[ae.mp w]at ha
    obtain⟨h1,o,ho⟩:=hfb a ha
    have hne:a≠D:=λz=>by
     rw[z,hl]at h1
     cases h1
    exact⟨sm.free h1,hne,o,by rw[z5 hne];exact ho⟩
 ·have e:i=n:=by lia
  subst e
  exact .inl ⟨hstop H' sm,fin D H' bs hD sm hl hbl hRs hnd λb hb a ha=>⟨(hft b hb a ha).1,(hft b hb a ha).2.1⟩⟩
def ChS.new (n:Nat)(sr:Nat->List Nat):ChS:=⟨[.still],[List.range n],[(0,0)],(List.range n).map λi=>⟨[],[(i,0)],[],0⟩,sr⟩
def yd1 (cB:Addr):Sp:=λvs H Q _=>∃(x dx:Addr) (n:Nat),vs=[.ref x,.int n]/\H x=some (.ins cB dx [])/\n<=60 /\
 ∀(ll lm d:Addr) (H':Hp),[ll,lm,d].Nodup->H ll=none->H lm=none->H d=none->y1 [x] H H'->(∀(A:ChA) (sr:Nat->List Nat),A.b=x->A.ll=ll->A.lm=lm->A.d=d->Y7 cB H' A (ChS.new n sr))->Q .non H'
theorem A4:y4 ["self","many"] ["self","many"] (z8 W5):=scq
theorem zp0 {cB:Addr}(F:Fun K "__init__" "Book.__init__" W5 f fd)(B:Blt mg)(cb:p7 K cB za3)(KS:Known P w K mg base 1 "still" ["many"] zr0)(GS:zj1 mg "STILL_LINE" (.int 0)):v1 P w K mg base CX0 2 f fd ["self","many"] (yd1 cB):=by
 refine F.ok A4 (λvs H Q E h=>?_) (λcdv Ar outer s H vs Q E hr h=>?_)
 ·obtain⟨x,dx,n,rfl,_⟩:=h
  rfl
 obtain⟨x,dx,n,rfl,hx,hn,q⟩:=h
 have hz:=Z0
 refine⟨_,z6 (i8 (pv 0) (c9 (z0 (B6 (z0 zg8 z4)) z4)) rfl)
  (z6 (i8 (pv 0) (c9 (z0 (u4 KS hr rfl (z0 (pv 1) z4)) z4)) rfl)
  (z7 (i8 (pv 0) (zp5 (zh2 (zb0 GS rfl) (zb0 GS rfl) zp7) rfl rfl (dk _ _) (by decide)) rfl))),?_⟩
 refine⟨(by show 1<=eU;lia),λlr hlr=>?_⟩
 have s1:=y3 hlr (.tup [V.str "still"])
 have e1:(upd H lr (.tup [V.str "still"])) lr=some (.tup (lnV .still)):=z3
 generalize upd H lr (.tup [V.str "still"])=H1 at s1 e1 ⊢
 refine⟨(by show 1<=eU;lia),λll hll=>?_⟩
 have s2:=s1.trans (y3 hll (.lst [V.ref lr]))
 have e2:=y3 hll (.lst [V.ref lr]) _ _ e1
 have l2:(upd H1 ll (.lst [V.ref lr])) ll=some (.lst [V.ref lr]):=z3
 have hll0:H ll=none:=s1.free hll
 generalize upd H1 ll (.lst [V.ref lr])=H2 at s2 e2 l2 ⊢
 refine⟨_,rfl,x,cB,dx,[],rfl,s2 _ _ hx,cb.cls,cb.no "lines" (by decide),by decide,?_⟩
 have xlr:lr≠x:=λz=>by subst z;rw[hx]at hlr;cases hlr
 have xll:ll≠x:=λz=>by subst z;rw[hx]at hll0;cases hll0
 have f3:y1 [x] H (upd H2 x (.ins cB dx (c5 "lines" (V.ref ll) []))):=y1.upd (y2.frame s2) (by simp) _
 have x3:(upd H2 x (.ins cB dx (c5 "lines" (V.ref ll) []))) x=some (.ins cB dx [("lines",.ref ll)]):=z3
 have e3:(upd H2 x (.ins cB dx (c5 "lines" (V.ref ll) []))) lr=some (.tup (lnV .still)):=by rw[z5 xlr];exact e2
 have l3:(upd H2 x (.ins cB dx (c5 "lines" (V.ref ll) []))) ll=some (.lst [V.ref lr]):=by rw[z5 xll];exact l2
 generalize upd H2 x (.ins cB dx (c5 "lines" (V.ref ll) []))=H3 at f3 x3 e3 l3 ⊢
 refine⟨_,rfl,n,rfl,by lia,λtr H4 htr s4 ht4=>⟨(by show 1<=eU;lia),λlm hlm=>?_⟩⟩
 have s5:=s4.trans (y3 hlm (.lst [V.ref tr]))
 have t5:=y3 hlm (.lst [V.ref tr]) _ _ ht4
 have m5:(upd H4 lm (.lst [V.ref tr])) lm=some (.lst [V.ref tr]):=z3
 have hlm3:H3 lm=none:=s4.free hlm
 generalize upd H4 lm (.lst [V.ref tr])=H5 at s5 t5 m5 ⊢
 have x5:=s5 _ _ x3
 refine⟨_,rfl,x,cB,dx,_,rfl,x5,cb.cls,cb.no "made" (by decide),by (show 1<1000;decide),?_⟩
 have xtr:tr≠x:=λz=>by subst z;rw[x3]at htr;cases htr
 have xlm:lm≠x:=λz=>by subst z;rw[x3]at hlm3;cases hlm3
 have ml:lm≠ll:=λz=>by subst z;rw[l3]at hlm3;cases hlm3
 have f6:y1 [x] H (upd H5 x (.ins cB dx (c5 "made" (V.ref lm) [("lines",.ref ll)]))):=y1.upd (f3.trans (y2.frame s5)) (by simp) _
 have x6:(upd H5 x (.ins cB dx (c5 "made" (V.ref lm) [("lines",.ref ll)]))) x=some (.ins cB dx [("lines",.ref ll),("made",.ref lm)]):=by rw[z3];rfl
 have e6:(upd H5 x (.ins cB dx (c5 "made" (V.ref lm) [("lines",.ref ll)]))) lr=some (.tup (lnV .still)):=by rw[z5 xlr];exact s5 _ _ e3
 have l6:(upd H5 x (.ins cB dx (c5 "made" (V.ref lm) [("lines",.ref ll)]))) ll=some (.lst [V.ref lr]):=by rw[z5 xll];exact s5 _ _ l3
 have t6:(upd H5 x (.ins cB dx (c5 "made" (V.ref lm) [("lines",.ref ll)]))) tr=some (.tup (tI (List.range n))):=by rw[z5 xtr];exact t5
 have m6:(upd H5 x (.ins cB dx (c5 "made" (V.ref lm) [("lines",.ref ll)]))) lm=some (.lst [V.ref tr]):=by rw[z5 xlm];exact m5
 have nn:H lm=none:=by
  cases e:H lm with
  | none=>rfl
  | some o =>
   have:=f3 lm o (by simpa using xlm) e
   rw[this]at hlm3
   cases hlm3
 generalize upd H5 x (.ins cB dx (c5 "made" (V.ref lm) [("lines",.ref ll)]))=H6 at f6 x6 e6 l6 t6 m6 ⊢
 refine λd hd=>⟨z3,[(Sum.inl 0,V.int 0)],rfl,by decide,?_⟩
 have s7:y2 H6 (upd (upd H6 d (.dK [])) d (.dK (Z3 [] [(Sum.inl 0,V.int 0)]))):=λb o h=>by
  have hb:=y0 h hd
  rw[z5 hb,z5 hb];exact h
 have d7:(upd (upd H6 d (.dK [])) d (.dK (Z3 [] [(Sum.inl 0,V.int 0)]))) d=some (.dK (kI [(0,0)])):=by rw[z3];rfl
 generalize upd (upd H6 d (.dK [])) d (.dK (Z3 [] [(Sum.inl 0,V.int 0)]))=H7 at s7 d7 ⊢
 refine⟨_,rfl,x,cB,dx,_,rfl,s7 _ _ x6,cb.cls,cb.no "back_lines" (by decide),by (show 2<1000;decide),?_⟩
 have xd:d≠x:=λz=>by subst z;rw[x6]at hd;cases hd
 have dl:d≠ll:=λz=>by subst z;rw[l6]at hd;cases hd
 have dm:d≠lm:=λz=>by subst z;rw[m6]at hd;cases hd
 have nd:H d=none:=by
  cases e:H d with
  | none=>rfl
  | some o =>
   have:=f6 d o (by simpa using xd) e
   rw[this]at hd
   cases hd
 refine q ll lm d _ (by simp;exact⟨⟨Ne.symm ml,Ne.symm dl⟩,Ne.symm dm⟩) hll0 nn nd (y1.upd (f6.trans (y2.frame s7)) (by simp) _) λA sr hAb hAl hAm hAd=>?_
 subst hAb hAl hAm hAd
 refine⟨⟨dx,by rw[z3];rfl⟩,⟨[lr],by rw[z5 xll];exact s7 _ _ l6,.cons ?_ .nil⟩,⟨[tr],by rw[z5 xlm];exact s7 _ _ m6,.cons ?_ .nil⟩,by rw[z5 xd];exact d7,rfl⟩
 ·rw[z5 xlr];exact s7 _ _ e6
 ·rw[z5 xtr];exact s7 _ _ t6
def yd9 (cS:Addr):Sp:=λvs H Q _=>∃(x dx:Addr) (i n:Nat),vs=[.ref x,.int i,.int n]/\H x=some (.ins cS dx [])/\n<=60 /\
 ∀(A:StA) (H':Hp),A.a=x->A.all.Nodup->(∀a∈A.all,a≠x->H a=none)->y1 [x] H H'->i7 cS n [List.range n] H' A i ⟨[],[(i,0)],[],0⟩->Q .non H'
theorem A6:y4 ["self","place","many"] ["self","place","many"] (z8 W6):=scq
theorem r6 {H:Hp}{x cS dx:Addr}{fs:List (Str×V)}{f:Str}{v:V}{fs':List (Str×V)}(e:c5 f v fs=fs'):∃H',upd H x (.ins cS dx (c5 f v fs))=H'/\y1 [x] H H'/\H' x=some (.ins cS dx fs'):=⟨_,rfl,y1.upd y1.refl (by simp) _,by rw[z3,e]⟩
theorem y1.keep {x b:Addr}{o:HO}{H H':Hp}(fr:y1 [x] H H')(h:H b=some o)(hb:b≠x):H' b=some o:=fr b o (by simpa using hb) h
theorem y1.free {x b:Addr}{H H':Hp}(fr:y1 [x] H H')(h:H' b=none)(hb:b≠x):H b=none:=by
 cases e:H b with
 | none=>rfl
 | some o =>
  rw[fr.keep e hb]at h
  cases h
theorem zp2 {cS:Addr}(F:Fun K "__init__" "Step.__init__" W6 f fd)(B:Blt mg)(cs:p7 K cS M9)(KS:Known P w K mg base 1 "still" ["many"] zr0)(GS:zj1 mg "STILL_LINE" (.int 0)):v1 P w K mg base CX0 2 f fd ["self","place","many"] (yd9 cS):=by
 refine F.ok A6 (λvs H Q E h=>?_) (λcdv Ar outer s H vs Q E hr h=>?_)
 ·obtain⟨x,dx,i,n,rfl,_⟩:=h
  rfl
 obtain⟨x,dx,i,n,rfl,hx,hn,q⟩:=h
 have hz:=Z0
 refine⟨_,z6 (i8 (pv 0) (pv 1) rfl)
  (z6 (i8 (pv 0) (c9 z4) rfl)
  (z6 (i8 (pv 0) (zp5 (zh2 (pv 1) (zb0 GS rfl) zp7) rfl rfl (dk _ _) (by decide)) rfl)
  (z6 (i8 (pv 0) (zp5 (zh2 (pv 1) (u4 KS hr rfl (z0 (pv 2) z4)) zp7) rfl rfl (dk _ _) (by decide)) rfl)
  (z6 (i8 (pv 0) (c9 z4) rfl)
  (z7 (i8 (pv 0) z9 rfl)))))),?_⟩
 refine⟨_,rfl,_,rfl,x,cS,dx,[],rfl,hx,cs.cls,cs.no "place" (by decide),by decide,?_⟩
 obtain⟨H1,g1,f1,x1⟩:=r6 (H:=H) (x:=x) (cS:=cS) (dx:=dx) (f:="place") (v:=V.int i) (fs:=[]) (fs':=[("place",.int i)]) rfl
 rw[g1]
 refine⟨(by show 0<=eU;lia),λm hm=>?_⟩
 have s2:=y3 hm (.lst [])
 have m2:(upd H1 m (.lst [])) m=some (.lst []):=z3
 generalize upd H1 m (.lst [])=H2 at s2 m2 ⊢
 have xm:m≠x:=λz=>by subst z;rw[x1]at hm;cases hm
 refine⟨_,rfl,x,cS,dx,_,rfl,s2 _ _ x1,cs.cls,cs.no "movers" (by decide),by (show 1<1000;decide),?_⟩
 obtain⟨H3,g3,f3,x3⟩:=r6 (H:=H2) (x:=x) (cS:=cS) (dx:=dx) (f:="movers") (v:=V.ref m) (fs:=[("place",.int i)]) (fs':=[("place",.int i),("movers",.ref m)]) rfl
 rw[g3]
 have F3:y1 [x] H H3:=(f1.trans (y2.frame s2)).trans f3
 have m3:=f3.keep m2 xm
 refine λd hd=>⟨_,rfl,z3,[(Sum.inl (i:Int),V.int 0)],rfl,(by show 1<=15;decide),?_⟩
 have s4:y2 H3 (upd (upd H3 d (.dK [])) d (.dK (Z3 [] [(Sum.inl (i:Int),V.int 0)]))):=λb o h=>by
  have hb:=y0 h hd
  rw[z5 hb,z5 hb];exact h
 have d4:(upd (upd H3 d (.dK [])) d (.dK (Z3 [] [(Sum.inl (i:Int),V.int 0)]))) d=some (.dK (kI [(i,0)])):=by rw[z3];rfl
 generalize upd (upd H3 d (.dK [])) d (.dK (Z3 [] [(Sum.inl (i:Int),V.int 0)]))=H4 at s4 d4 ⊢
 have xd:d≠x:=λz=>by subst z;rw[x3]at hd;cases hd
 have dm:d≠m:=λz=>by subst z;rw[m3]at hd;cases hd
 refine⟨_,rfl,x,cS,dx,_,rfl,s4 _ _ x3,cs.cls,cs.no "line_to" (by decide),by (show 2<1000;decide),?_⟩
 obtain⟨H5,g5,f5,x5⟩:=r6 (H:=H4) (x:=x) (cS:=cS) (dx:=dx) (f:="line_to") (v:=V.ref d) (fs:=[("place",.int i),("movers",.ref m)]) (fs':=[("place",.int i),("movers",.ref m),("line_to",.ref d)]) rfl
 rw[g5]
 have F5:y1 [x] H H5:=(F3.trans (y2.frame s4)).trans f5
 have m5:=f5.keep (s4 _ _ m3) xm
 have d5:=f5.keep d4 xd
 refine λe he=>⟨_,rfl,_,rfl,n,rfl,by lia,λtr H6 htr s6 ht6=>⟨s6 _ _ z3,[(Sum.inl (i:Int),V.ref tr)],rfl,(by show 1<=15;decide),?_⟩⟩
 have s6':y2 H5 H6:=(y3 he _).trans s6
 have te:tr≠e:=λz=>by subst z;rw[z3]at htr;cases htr
 have s7:y2 H5 (upd H6 e (.dK (Z3 [] [(Sum.inl (i:Int),V.ref tr)]))):=λb o h=>by
  rw[z5 (y0 h he)];exact s6' _ _ h
 have e7:(upd H6 e (.dK (Z3 [] [(Sum.inl (i:Int),V.ref tr)]))) e=some (.dK (kR [(i,0)] [tr])):=by rw[z3];rfl
 have t7:(upd H6 e (.dK (Z3 [] [(Sum.inl (i:Int),V.ref tr)]))) tr=some (.tup (tI (List.range n))):=by rw[z5 te];exact ht6
 generalize upd H6 e (.dK (Z3 [] [(Sum.inl (i:Int),V.ref tr)]))=H7 at s7 e7 t7 ⊢
 have xe:e≠x:=λz=>by subst z;rw[x5]at he;cases he
 have em:e≠m:=λz=>by subst z;rw[m5]at he;cases he
 have ed:e≠d:=λz=>by subst z;rw[d5]at he;cases he
 have xt:tr≠x:=λz=>by
  subst z
  rw[z5 te,x5]at htr
  cases htr
 refine⟨_,rfl,x,cS,dx,_,rfl,s7 _ _ x5,cs.cls,cs.no "back_from" (by decide),by (show 3<1000;decide),?_⟩
 obtain⟨H8,g8,f8,x8⟩:=r6 (H:=H7) (x:=x) (cS:=cS) (dx:=dx) (f:="back_from") (v:=V.ref e) (fs:=[("place",.int i),("movers",.ref m),("line_to",.ref d)]) (fs':=[("place",.int i),("movers",.ref m),("line_to",.ref d),("back_from",.ref e)]) rfl
 rw[g8]
 have F8:y1 [x] H H8:=(F5.trans (y2.frame s7)).trans f8
 have m8:=f8.keep (s7 _ _ m5) xm
 have d8:=f8.keep (s7 _ _ d5) xd
 have e8:=f8.keep e7 xe
 have t8:=f8.keep t7 xt
 refine⟨(by show 0<=eU;lia),λwa hw=>?_⟩
 have s9:=y3 hw (.lst [])
 have w9:(upd H8 wa (.lst [])) wa=some (.lst []):=z3
 generalize upd H8 wa (.lst [])=H9 at s9 w9 ⊢
 have xw:wa≠x:=λz=>by subst z;rw[x8]at hw;cases hw
 have wm:wa≠m:=λz=>by subst z;rw[m8]at hw;cases hw
 have wd:wa≠d:=λz=>by subst z;rw[d8]at hw;cases hw
 have we:wa≠e:=λz=>by subst z;rw[e8]at hw;cases hw
 refine⟨_,rfl,x,cS,dx,_,rfl,s9 _ _ x8,cs.cls,cs.no "waiting" (by decide),by (show 4<1000;decide),?_⟩
 obtain⟨H10,g10,f10,x10⟩:=r6 (H:=H9) (x:=x) (cS:=cS) (dx:=dx) (f:="waiting") (v:=V.ref wa) (fs:=[("place",.int i),("movers",.ref m),("line_to",.ref d),("back_from",.ref e)]) (fs':=[("place",.int i),("movers",.ref m),("line_to",.ref d),("back_from",.ref e),("waiting",.ref wa)]) rfl
 rw[g10]
 have F10:y1 [x] H H10:=(F8.trans (y2.frame s9)).trans f10
 refine⟨_,rfl,x,cS,dx,_,rfl,x10,cs.cls,cs.no "looked_at" (by decide),by (show 5<1000;decide),?_⟩
 obtain⟨H11,g11,f11,x11⟩:=r6 (H:=H10) (x:=x) (cS:=cS) (dx:=dx) (f:="looked_at") (v:=V.int 0) (fs:=[("place",.int i),("movers",.ref m),("line_to",.ref d),("back_from",.ref e),("waiting",.ref wa)]) (fs':=[("place",.int i),("movers",.ref m),("line_to",.ref d),("back_from",.ref e),("waiting",.ref wa),("looked_at",.int 0)]) rfl
 rw[g11]
 have F11:y1 [x] H H11:=F10.trans f11
 have k:∀{b:Addr} {o:HO},H8 b=some o->b≠x->H11 b=some o:=λh hb=>f11.keep (f10.keep (s9 _ _ h) hb) hb
 have w11:H11 wa=some (.lst []):=f11.keep (f10.keep w9 xw) xw
 have nd0:H d=none:=F3.free hd xd
 have nm0:H m=none:=f1.free hm xm
 have ne0:H e=none:=F5.free he xe
 have nw0:H wa=none:=F8.free hw xw
 refine q ⟨x,m,d,e,wa⟩ H11 rfl ?_ ?_ F11 ⟨⟨dx,x11⟩,k m8 xm,k d8 xd,⟨[tr],k e8 xe,.cons ?_ .nil⟩,⟨[],w11,.nil⟩⟩
 ·simp only[StA.all,aK,au,aH,not_or,or_false,bP,not_false_eq_true,bZ,and_true]
  exact⟨⟨Ne.symm xm,Ne.symm xd,Ne.symm xe,Ne.symm xw⟩,⟨Ne.symm dm,Ne.symm em,Ne.symm wm⟩,⟨Ne.symm ed,Ne.symm wd⟩,Ne.symm we⟩
 ·intro a ha hax
  simp only[StA.all,au,aH,or_false,bP]at ha
  rcases ha with h|h|h|h|h
  ·exact absurd h hax
  ·rw[h];exact nm0
  ·rw[h];exact nd0
  ·rw[h];exact ne0
  ·rw[h];exact nw0
 ·show H11 tr=some (.tup (tI (TM.bk n (List.range n))))
  rw[TM.bk_still]
  exact k t8 xt
theorem ChS.new_at {sr:Nat->List Nat}(n j:Nat):(ChS.new n sr).atS j=if j<n then⟨[],[(j,0)],[],0⟩ else⟨[],[],[],0⟩:=by
 unfold ChS.atS ChS.new
 rw[ao,ag]
 by_cases h:j<n
 ·rw[aM h,if_pos h];rfl
 ·rw[aP (by rw[az];lia),if_neg h];rfl
theorem ChS.new_mv {sr:Nat->List Nat}(n j:Nat):((ChS.new n sr).atS j).mv=[]:=by
 rw[ChS.new_at]
 by_cases h:j<n
 ·rw[if_pos h]
 ·rw[if_neg h]
theorem ChS.new_wt {sr:Nat->List Nat}(n j:Nat):((ChS.new n sr).atS j).wt=[]/\((ChS.new n sr).atS j).lk=0:=by
 rw[ChS.new_at]
 by_cases h:j<n
 ·rw[if_pos h];exact⟨rfl,rfl⟩
 ·rw[if_neg h];exact⟨rfl,rfl⟩
theorem ChS.new_nomv {sr:Nat->List Nat}(n j:Nat)(s:List Nat):¬(ChS.new n sr).chn.mv j s:=λ⟨k,hk,_⟩=>by
 rw[ChS.new_mv]at hk
 cases hk
theorem ChS.new_ring {sr:Nat->List Nat}{n j:Nat}(h:j<n):(ChS.new n sr).chn.ring j=[j]:=by
 show((ChS.new n sr).atS j).to.map Prod.fst=[j]
 rw[ChS.new_at,if_pos h]
 rfl
theorem ChS.new_up {sr:Nat->List Nat}{n j:Nat}(h:j<n)(p:Nat):(ChS.new n sr).chn.up j p=List.range n:=by
 show(ChS.new n sr).md.getD ((atN ((ChS.new n sr).atS j).to p).getD 0) []=_
 have e:(atN ((ChS.new n sr).atS j).to p).getD 0=0:=by
  rw[ChS.new_at,if_pos h]
  unfold atN
  by_cases q:j=p
  ·rw[ci (by simpa using q)];rfl
  ·rw[ck (by simpa using q)];rfl
 rw[e]
 rfl
theorem ChS.new_inv {sr:Nat->List Nat}(n:Nat):(ChS.new n sr).Inv n where
 fine:=by
  refine⟨⟨λt ht=>?_,λs hs x hx=>?_,λs hs k hk=>?_⟩,rfl,dr,rfl⟩
  ·rw[ae.mp ht];exact TM.IsT.range n
  ·obtain⟨i,hi,rfl⟩:=ah.mp hs
   rw[ae.mp hx]
   exact⟨aG.mp hi,dr⟩
  ·obtain⟨i,hi,rfl⟩:=ah.mp hs
   cases hk
 bks:=by
  refine⟨λi k h=>?_,λi l t h1 h2=>?_⟩
  ·have h:atN [(0,0)] i=some k:=h
   have hm:=V1 h
   have e:=ae.mp hm
   have e1:i=0:=congrArg Prod.fst e
   have e2:k=0:=congrArg Prod.snd e
   subst e1;subst e2
   refine⟨dr,dr,?_⟩
   show List.range n=TM.bk n (List.range n)
   rw[TM.bk_still]
  ·have h1:[TM.Ln.still][i]?=some l:=h1
   have h2:[List.range n][i]?=some t:=h2
   match i,h1,h2 with
   | 0,h1,h2 =>
    cases h1
    cases h2
    rfl
 len:=by show((List.range n).map _).length=n;rw[aa,az]
 ok:=by
  refine⟨λj s h=>absurd h (ChS.new_nomv n j s),λj s h=>absurd h (ChS.new_nomv n j s),λj s h=>absurd h (ChS.new_nomv n (j+1) s),λj s _=>ChS.new_nomv n j s,λj h=>?_,λj p h hp=>?_,λj h=>?_,λj p h hp=>?_,λj p h hp=>?_,λj h=>ChS.new_up h j⟩
  ·rw[ChS.new_ring h];simp
  ·rw[ChS.new_ring h]at hp;rw[ae.mp hp];exact h
  ·rw[ChS.new_ring h];simp
  ·rw[ChS.new_up h];exact .one
  ·rw[ChS.new_ring h]at hp;rw[ChS.new_up h,TM.still_get h,ae.mp hp]
 lk:=λj=>by rw[(ChS.new_wt n j).2];exact aV _
 wl:=λj=>by rw[(ChS.new_wt n j).1,ChS.new_mv];simp
 wt:=λj p m _ hm=>by rw[ChS.new_mv]at hm;cases hm
 wt':=λj x hx=>by rw[(ChS.new_wt n j).1]at hx;cases hx
 good:=λj x hx=>by rw[(ChS.new_wt n j).1,List.take_nil]at hx;cases hx
 ind:=λj=>by
  rw[ChS.new_mv]
  intro i s h
  simp at h
theorem ChS.new_done {sr:Nat->List Nat}(n j:Nat):(ChS.new n sr).Done j:=by
 unfold ChS.Done
 rw[(ChS.new_wt n j).1,(ChS.new_wt n j).2]
 rfl
def zi3 (cC cB cS:Addr):Sp:=λvs H Q _=>∃(x dx:Addr) (n:Nat),vs=[.ref x,.int n]/\H x=some (.ins cC dx [])/\n<=60 /\
 ∀(A:ChA) (H':Hp),A.c=x->(∀a∈A.all,a≠x->H a=none)->y1 [x] H H'->(∀sr:Nat->List Nat,w6 cC cB cS n H' A (ChS.new n sr))->Q .non H'
theorem D3:y4 ["self","many"] ["self","many"] (z8 X1):=scq
theorem zj2 {cC cB cS:Addr}(F:Fun K "__init__" "Chain.__init__" X1 f fd)(B:Blt mg)(cc:p7 K cC Z2)(KB:zn4 P w K mg base 2 cB "Book" ["self","many"] (yd1 cB))(KT:zn4 P w K mg base 2 cS "Step" ["self","place","many"] (yd9 cS)):v1 P w K mg base CX0 4 f fd ["self","many"] (zi3 cC cB cS):=by
 refine F.ok D3 (λvs H Q E h=>?_) (λcdv Ar outer s H vs Q E hr h=>?_)
 ·obtain⟨x,dx,n,rfl,_⟩:=h
  rfl
 obtain⟨x,dx,n,rfl,hx,hn,q⟩:=h
 have hz:=Z0
 refine⟨_,z6 (i8 (pv 0) (J8 KB hr rfl (z0 (pv 1) z4)) rfl)
  (z7 (i8 (pv 0) (i5 [1] ["place","many"] rfl (B7 rfl B.range (z0 (pv 1) z4)) (λ_ _ _ _=>J8 KT hr rfl (z0 (pv 0) (z0 (pv 1) z4)))) rfl)),?_⟩
 refine⟨_,rfl,λb db hb hdb hne=>⟨b,db,n,rfl,z3,hn,λll lm d H1 hnd hll hlm hd fr bk=>⟨rfl,?_⟩⟩⟩
 have s0:y2 H (upd (upd H db (.own b)) b (.ins cB db [])):=λc o h=>by
  rw[z5 (y0 h hb),z5 (y0 h hdb)];exact h
 have fre:∀{c:Addr},(upd (upd H db (.own b)) b (.ins cB db [])) c=none->H c=none:=λ{c} h=>s0.free h
 have cb:∀{c:Addr},(upd (upd H db (.own b)) b (.ins cB db [])) c=none->c≠b:=λ{c} h z=>by
  rw[z,z3]at h
  cases h
 have s1:y2 H H1:=λc o h=>fr c o (by simpa using y0 h hb) (s0 _ _ h)
 have xb:b≠x:=λz=>by subst z;rw[hx]at hb;cases hb
 refine⟨_,rfl,x,cC,dx,[],rfl,s1 _ _ hx,cc.cls,cc.no "book" (by decide),by decide,?_⟩
 obtain⟨H2,g2,f2,x2⟩:=r6 (H:=H1) (x:=x) (cS:=cC) (dx:=dx) (f:="book") (v:=V.ref b) (fs:=[]) (fs':=[("book",.ref b)]) rfl
 rw[g2]
 have F2:y1 [x] H H2:=(y2.frame s1).trans f2
 have xl:ll≠x:=λz=>by have:=fre hll;rw[z,hx]at this;cases this
 have xm:lm≠x:=λz=>by have:=fre hlm;rw[z,hx]at this;cases this
 have xd:d≠x:=λz=>by have:=fre hd;rw[z,hx]at this;cases this
 obtain⟨A0,hA0⟩:∃A0:ChA,A0=⟨x,b,ll,lm,d,x,[]⟩:=⟨_,rfl⟩
 have bk1:=λsr=>bk A0 sr (by rw[hA0]) (by rw[hA0]) (by rw[hA0]) (by rw[hA0])
 have hA0b:A0.b=b:=by rw[hA0]
 have hA0l:A0.ll=ll:=by rw[hA0]
 have hA0m:A0.lm=lm:=by rw[hA0]
 have hA0d:A0.d=d:=by rw[hA0]
 have keep:∀{H3:Hp},y1 [x] H1 H3->∀sr:Nat->List Nat,Y7 cB H3 A0 (ChS.new n sr):=λ{H3} fr3 sr=>by
  obtain⟨⟨dxb,h1⟩,⟨las,h2,h2'⟩,⟨mas,h3,h3'⟩,h4,h5⟩:=id (bk1 sr)
  have hx1:=s1 _ _ hx
  have kt:∀{c:Addr} {xs:List V},H1 c=some (.tup xs)->H3 c=some (.tup xs):=λ{c xs} e=>fr3.keep e (λz=>by subst z;rw[hx1]at e;cases e)
  exact⟨⟨dxb,fr3.keep h1 (by rw[hA0b];exact xb)⟩,⟨las,fr3.keep h2 (by rw[hA0l];exact xl),Paired.imp' (λ_ _ z=>kt z) h2'⟩,⟨mas,fr3.keep h3 (by rw[hA0m];exact xm),Paired.imp' (λ_ _ z=>kt z) h3'⟩,fr3.keep h4 (by rw[hA0d];exact xd),h5⟩
 have bk2:=keep f2 λ_=>[]
 refine⟨_,rfl,(n:Int),rfl,by lia,by lia,?_⟩
 rw[show((n:Int)).toNat=n by lia]
 refine zs3 (J:=Itr 0 n) StA.a StA.all (λH i b=>i7 cS n [List.range n] H b i ⟨[],[(i,0)],[],0⟩) (n:=n) (by lia) (λH3 H4 D xs i b st hD fr hDb=>st.frame fr λy hy=>?_) (λ_ _=>aq _) (λi _ hi _=>hi) ?_ ?_
 ·rw[ae.mp hy]
  exact⟨hDb,λys z=>by rw[hD]at z;cases z⟩
 ·rintro i H3 v H4 hi s3 ⟨rfl,rfl⟩
  refine⟨rfl,λ_ _ _ _=>?_⟩
  rw[show(0:Int)+(i:Int)=(i:Int) by lia]
  refine⟨_,rfl,_,rfl,λy dy hy hdy hyne=>⟨y,dy,i,n,rfl,z3,hn,λA H5 hA nd free fr5 st=>⟨rfl,λc o h=>?_,A,by rw[hA],st,nd,λa ha=>⟨?_,?_⟩⟩⟩⟩
  ·exact fr5 c o (by simpa using y0 h hy) (by rw[z5 (y0 h hy),z5 (y0 h hdy)];exact h)
  ·by_cases e:a=y
   ·rw[e];exact hy
   ·have:=free a ha e
    rw[z5 e]at this
    by_cases e2:a=dy
    ·rw[e2];exact hdy
    ·rwa [z5 e2]at this
  ·obtain⟨⟨dxs,h1⟩,h2,h3,⟨bs,h4,_⟩,⟨ws,h5,_⟩⟩:=st
   simp only[StA.all,au,aH,or_false,bP]at ha
   rcases ha with e|e|e|e|e <;> rw[e]
   ·exact⟨_,h1⟩
   ·exact⟨_,h2⟩
   ·exact⟨_,h3⟩
   ·exact⟨_,h4⟩
   ·exact⟨_,h5⟩
 ·intro D H3 bs hD s3 hl hbl hst hnd2 hfree
  have hDx:D≠x:=λz=>by subst z;rw[x2]at hD;cases hD
  refine⟨_,rfl,x,cC,dx,_,rfl,s3 _ _ x2,cc.cls,cc.no "steps" (by decide),by (show 1<1000;decide),?_⟩
  obtain⟨H4,g4,f4,x4⟩:=r6 (H:=H3) (x:=x) (cS:=cC) (dx:=dx) (f:="steps") (v:=V.ref D) (fs:=[("book",.ref b)]) (fs':=[("book",.ref b),("steps",.ref D)]) rfl
  rw[g4]
  have F4:y1 [x] H H4:=(F2.trans (y2.frame s3)).trans f4
  have bk4:=keep ((f2.trans (y2.frame s3)).trans f4)
  have hb2:H2 b≠none:=λz=>by
   obtain⟨dxb,h1⟩:=bk2.b
   rw[hA0b,z]at h1
   cases h1
  have hl2:H2 ll≠none:=λz=>by
   obtain⟨las,h1,_⟩:=bk2.ll
   rw[hA0l,z]at h1
   cases h1
  have hm2:H2 lm≠none:=λz=>by
   obtain⟨las,h1,_⟩:=bk2.lm
   rw[hA0m,z]at h1
   cases h1
  have hd2:H2 d≠none:=λz=>by
   have h1:=bk2.d
   rw[hA0d,z]at h1
   cases h1
  have hx2:H2 x≠none:=λz=>by rw[x2]at z;cases z
  refine q ⟨x,b,ll,lm,d,D,bs⟩ H4 rfl ?_ F4 λsr=>⟨?_,⟨dx,x4⟩,?_,f4.keep hl hDx,⟨hbl,?_⟩,λi a s ha hs=>?_⟩
  ·intro a ha hax
   simp only[ChA.all,aB,au,aH,or_false,bP]at ha
   rcases ha with (e|e|e|e|e|e)|e
   ·exact absurd e hax
   ·rw[e];exact hb
   ·rw[e];exact fre hll
   ·rw[e];exact fre hlm
   ·rw[e];exact fre hd
   ·rw[e];exact F2.free hD hDx
   ·obtain⟨l,hl1,hl2⟩:=bF.mp e
    obtain⟨b',hb',rfl⟩:=ah.mp hl1
    exact F2.free (hfree b' hb' a hl2).1 hax
  ·refine bc.mpr ⟨?_,hnd2,λa ha c hc e=>?_⟩
   ·simp only[aK,au,aH,not_or,or_false,bP,not_false_eq_true,bZ,and_true]at hnd ⊢
    refine⟨⟨Ne.symm xb,Ne.symm xl,Ne.symm xm,Ne.symm xd,Ne.symm hDx⟩,⟨Ne.symm (cb hll),Ne.symm (cb hlm),Ne.symm (cb hd),λz=>hb2 (z ▸ hD)⟩,⟨hnd.1.1,hnd.1.2,λz=>hl2 (z ▸ hD)⟩,⟨hnd.2,λz=>hm2 (z ▸ hD)⟩,λz=>hd2 (z ▸ hD)⟩
   ·subst e
    obtain⟨l,hl1,hl3⟩:=bF.mp hc
    obtain⟨b',hb',rfl⟩:=ah.mp hl1
    obtain⟨h1,h2⟩:=hfree b' hb' a hl3
    simp only[au,aH,or_false,bP]at ha
    rcases ha with e|e|e|e|e|e
    ·rw[e]at h1;exact hx2 h1
    ·rw[e]at h1;exact hb2 h1
    ·rw[e]at h1;exact hl2 h1
    ·rw[e]at h1;exact hm2 h1
    ·rw[e]at h1;exact hd2 h1
    ·exact h2 e
  ·obtain⟨h1,h2,h3,h4,h5⟩:=bk4 sr
   rw[hA0b,hA0l,hA0m,hA0d]at h1
   rw[hA0l]at h2
   rw[hA0m]at h3
   rw[hA0d]at h4
   exact⟨h1,h2,h3,h4,h5⟩
  ·show((List.range n).map _).length=n
   rw[aa,az]
  ·have hi:i<n:=by rw[←hbl];exact(ap.mp ha).1
   have hs:((List.range n).map λi=>(⟨[],[(i,0)],[],0⟩:StS))[i]?=some s:=hs
   rw[ag,aM hi]at hs
   cases hs
   have hxa:x∉a.all:=λz=>hx2 (hfree a (aw ha) x z).1
   refine(hst i a ha).frame f4 λy hy=>?_
   rw[ae.mp hy]
   exact⟨hxa,λxs z=>by rw[s3 _ _ x2]at z;cases z⟩
theorem yk0 {H:Hp}:∀t:List Nat,Dts H (tI t) (t.map λ(x:Nat)=>PyData.int x)
 | []=>.nil
 | x::r=>.cons (.int _) (yk0 r)
theorem yi0 {n:Nat}{t:List Nat}(h:TM.IsT n t)(h1:1<=n)(h60:n<=60):m9 (.tuple (t.map λ(x:Nat)=>PyData.int x))=true:=by
 have hl:=h.length
 have e1:K5 (t.map λ(x:Nat)=>PyData.int x)=t.map λ(x:Nat)=>(x:Int):=by
  clear h hl
  induction t with
  | nil=>rfl
  | cons x r ih =>
   show(x:Int)::K5 (r.map λ(x:Nat)=>PyData.int x)=(x:Int)::r.map λ(x:Nat)=>(x:Int)
   rw[ih]
 have e2:yd0 (t.map λ(x:Nat)=>(x:Int))=zu6 n:=by
  refine(zu9 ?_ ?_).symm
  ·exact(List.Perm.map (λ(x:Nat)=>(x:Int)) (show t.Perm (List.range n) from h)).symm
  ·unfold zu6
   exact ba.mpr ((List.pairwise_lt_range (n:=n)).imp λh=>by lia)
 have e3:(t.map λ(x:Nat)=>PyData.int x).all isW=true:=by
  rw[eN]
  exact bo.mpr λ_ _=>rfl
 show((decide (1<=(t.map λ(x:Nat)=>PyData.int x).length)&&decide ((t.map λ(x:Nat)=>PyData.int x).length<=60))&&((t.map λ(x:Nat)=>PyData.int x).all isW&&decide (yd0 (K5 (t.map λ(x:Nat)=>PyData.int x))=zu6 (t.map λ(x:Nat)=>PyData.int x).length)))=true
 rw[e1,e2,e3,aa,hl,decide_eq_true h1,decide_eq_true h60,decide_eq_true rfl]
 rfl
theorem ChS.Backs.told {n:Nat}{S:ChS}(b:S.Backs n)(f:S.ln.length=S.md.length){k:Nat}{t:List Nat}(h:S.src k=t):(S.put (.told k) t).Backs n:=by
 refine⟨λi k' h=>?_,b.mks.put f (l:=.told k) h.symm⟩
 obtain⟨h1,h2,h3⟩:=b.bk i k' h
 have hmd:(S.put (.told k) t).md=S.md++[t]:=rfl
 refine⟨by rw[hmd,af];lia,by rw[hmd,af];lia,?_⟩
 rw[hmd,o6 h2,o6 h1,h3]
structure ChS.Full (S:ChS) (c:Nat):Prop where
 ln:S.ln.length<=3*S.looks+c
 bl:S.bl.length<=S.looks+c
structure ChS.Set (n:Nat) (S:ChS):Prop where
 inv:S.Inv n
 done:∀i,i<n->S.Done i
def zz4 (cC cB cS:Addr):Sp:=λvs H Q _=>∃(A:ChA) (S:ChS) (n c k:Nat) (tr:Addr) (t:List Nat),vs=[.ref A.c,.int k,.ref tr]/\w6 cC cB cS n H A S/\S.Set n/\0<n/\n<=60/\c<1000/\S.Full c/\H tr=some (.tup (tI t))/\TM.IsT n t/\(¬TM.Grp n (S.chn.mv 0) t->S.src k=t) /\
 ∀(b:Bool) (S':ChS) (H':Hp),y1 A.all H H'->w6 cC cB cS n H' A S'->S'.Set n->S'.src=S.src->S'.Full (c+1)->(∀x,TM.Grp n (S'.chn.mv 0) x↔TM.Grp n (λz=>S.chn.mv 0 z∨z=t) x)->(b=false↔TM.Grp n (S.chn.mv 0) t)->Q (.bl b) H'
theorem zk4:y4 ["self","number","maker"] ["self","number","maker"] (z8 Q5):=scq
theorem zj4 {cC cB cS:Addr}(F:Fun K "take" "Chain.take" Q5 f fd)(B:Blt mg)(cc:p7 K cC Z2)(cb:p7 K cB za3)(cs:p7 K cS M9)(MP:h7 P w K mg base 1 cB "put" ["self","line","turning"] (yd8 cB))(MPM:h7 P w K mg base 1 cS "put_mover" ["self","mover"] (zz2 cS))
  (MH:h7 P w K mg base 3 cC "holds" ["self","turning","level"] (zd2 cC cB cS)) (MS:h7 P w K mg base 5 cC "settle" ["self"] (zv3 cC cB cS)):v1 P w K mg base CX0 6 f fd ["self","number","maker"] (zz4 cC cB cS):=by
 refine F.ok zk4 (λvs H Q E h=>?_) (λcdv Ar outer sh H vs Q E hr h=>?_)
 ·obtain⟨A,S,n,c,k,tr,t,rfl,_⟩:=h
  rfl
 obtain⟨A,S,n,c,k,tr,t,rfl,ch,st,hn0,hn,hc,full,htr,tT,hsrc,q⟩:=h
 have iv:=st.inv
 have hz:=Z0
 obtain⟨dxc,hcc⟩:=ch.c
 refine⟨_,z6 (n6 (Z9 (c7 cc.cls MH hr (pv 0) (z0 (pv 2) (z0 z9 z4)))) (z7 (y9 V0)) u6)
  (z6 (p5 (c7 cs.cls MPM hr (o4 t9 (y6 (pv 0) rfl) z9 (λ_ _=>rfl)) (z0 (c7 cb.cls MP hr (y6 (pv 0) rfl) (z0 (B6 (z0 zg8 (z0 (pv 1) z4))) (z0 (pv 2) z4))) z4)))
  (z6 (p5 (c3 cc.cls MS hr (pv 0)))
  (z7 (y9 V0)))),?_⟩
 refine⟨_,rfl,A.c,dxc,_,rfl,hcc,rfl,_,rfl,A,S,n,0,tr,t,rfl,ch,iv.fine.wl,htr,tT,aV _,hn,λH1 s1=>⟨_,rfl,?_⟩⟩
 have hol:=iv.holds (j:=0) (aV _) (λi _ hi=>st.done i hi) tT (TM.Fix.zero t)
 have hS:∀z,S.chn.mv 0 z->TM.IsT n z:=iv.ok.mvT 0
 have hS':∀z,(S.chn.mv 0 z∨z=t)->TM.IsT n z:=λz h=>h.elim (hS z) λe=>by rw[e];exact tT
 cases hb:(S9 n S.md (S.st.drop 0) 0 t []).isSome with
 | true =>
  have hg:=hol.mp hb
  refine i0 ?_
  refine q false S H1 (y2.frame s1) (ch.same s1) st rfl ⟨by have:=full.ln;lia,by have:=full.bl;lia⟩ (λx=>⟨λh=>TM.Grp.mono hS' (λz hz=>TM.Grp.of hS' (.inl hz)) h,λh=>TM.Grp.mono hS (λz hz=>?_) h⟩) ⟨λ_=>hg,λ_=>rfl⟩
  rcases hz with h|h
  ·exact TM.Grp.of hS h
  ·rw[h];exact hg
 | false =>
  have hg:¬TM.Grp n (S.chn.mv 0) t:=λh=>by rw[hol.mpr h]at hb;cases hb
  refine o5 ?_
  have ch1:=ch.same s1
  obtain⟨dxc1,hc1⟩:=ch1.c
  obtain⟨dxb1,hb1⟩:=ch1.bk.b
  have hn0':0<S.st.length:=by rw[iv.len];exact hn0
  obtain⟨a,hA⟩:∃a,A.st[0]?=some a:=⟨_,ac (by rw[ch.len.1];exact hn0)⟩
  have hs:=ChS.get_at hn0'
  have st1:=ch1.st 0 a _ hA hs
  obtain⟨dxs1,hsa1⟩:=st1.a
  have ga:atI (A.st.map λs=>V.ref s.a) 0=some (V.ref a.a):=m7 (j:=0) (by rw[ag,hA];rfl)
  have ndh:=ChA.head_nd ch.nd
  simp only[aK,au,aH,not_or,or_false]at ndh
  have lne:A.ll≠A.lm:=ndh.2.2.1.1
  have nda:=ChA.step_nd ch.nd hA
  simp only[StA.all,aK,au,aH,not_or,or_false]at nda
  have lks:=iv.looks_le hn
  have fl:=full.ln
  have fb:=full.bl
  refine⟨_,rfl,A.c,cC,dxc1,_,_,rfl,hc1,cc.cls,cc.no "steps" (by decide),rfl,A.l,_,_,_,rfl,rfl,SqL.of ch1.l,ga,a.a,dxs1,_,rfl,hsa1,rfl,?_⟩
  refine⟨_,rfl,A.c,cC,dxc1,_,_,rfl,hc1,cc.cls,cc.no "book" (by decide),rfl,A.b,dxb1,_,rfl,hb1,rfl,_,rfl,(by show 2<=eU;lia),λlr hlr=>?_⟩
  have s2:=y3 hlr (.tup [V.str "told",V.int k])
  have el:(upd H1 lr (.tup [V.str "told",V.int k])) lr=some (.tup (lnV (.told k))):=z3
  generalize upd H1 lr (.tup [V.str "told",V.int k])=H2 at s2 el ⊢
  have ch2:=ch1.same s2
  refine⟨_,rfl,A,S,lr,tr,.told k,t,rfl,ch2.bk,lne,el,s2 _ _ (s1 _ _ htr),by lia,λH3 fr3 bk3=>?_⟩
  have m:=iv.fine.put (l:=.told k) tT
  have ch3:w6 cC cB cS n H3 A (S.put (.told k) t):=ch2.book (fr3.more λx hx=>by simp at hx ⊢;rcases hx with e|e <;> simp[e]) bk3 rfl (λs hs x hx=>m.at_ (iv.fine.wl.to s hs x hx).2)
  have st3:=ch3.st 0 a _ hA hs
  have few:=iv.few hn 0
  have rg:=iv.ring hn0
  have wle:=iv.wt_le hn hn0
  refine⟨a,n,_,0,S.ln.length,S.atS 0,rfl,st3,nda.2.1.2.2,by lia,by lia,by lia,λH4 fr4 st4=>?_⟩
  have nt:∀x∈[a.m,a.w],x∈a.all/\∀xs,H3 x≠some (.tup xs):=λx hx=>by
   obtain⟨ws2,hw2,_⟩:=st3.w
   rcases au.mp hx with e|hx
   ·rw[e];exact⟨by simp[StA.all],λxs z=>by rw[st3.m]at z;cases z⟩
   ·rw[ae.mp hx];exact⟨by simp[StA.all],λxs z=>by rw[hw2]at z;cases z⟩
  have ch4:=ch3.step hA nt fr4 st4
  obtain⟨iv4,mp⟩:=iv.mover hn0 m (iv.bks.told iv.fine.lnl (hsrc hg)) tT (TM.Fix.zero t) (λg hg=>absurd hg (by lia)) hg
  generalize hS4:({ S.put (.told k) t with st:=S.st.set 0 ((S.atS 0).putM S.ln.length) }:ChS)=S4 at iv4 mp
  have ch4':w6 cC cB cS n H4 A S4:=by rw[←hS4];exact ch4
  have hst:S4.st=S.st.set 0 ((S.atS 0).putM S.ln.length):=by rw[←hS4]
  have lk4:S4.looks=S.looks:=by
   have e:=zd5 (a:=(S.atS 0).putM S.ln.length) (ChS.get_at hn0')
   have e2:((S.atS 0).putM S.ln.length).lk=(S.atS 0).lk:=rfl
   unfold ChS.looks
   rw[hst]
   lia
  have ln4:S4.ln.length=S.ln.length+1:=by rw[←hS4];show(S.ln++[_]).length=_;rw[af];rfl
  have bl4:S4.bl.length=S.bl.length:=by rw[←hS4];rfl
  have fr14:y1 A.all H H4:=(y2.frame (s1.trans s2)).trans ((fr3.all λx hx=>by simp at hx ⊢;rcases hx with e|e <;> simp[e]).trans (fr4.allS hA λx hx=>(nt x hx).1))
  obtain⟨dxc4,hc4⟩:=ch4'.c
  refine⟨_,rfl,A.c,dxc4,_,rfl,hc4,rfl,A,S4,n,c+1,rfl,ch4',iv4,hn0,hn,λi hi hin=>?_,by lia,by lia,by lia,λS5 H5 fr5 ch5 iv5 dn5 e5 src5 b51 b52=>?_⟩
  ·have at':=ChS.atS_set hst hn0' i
   rw[if_neg (by lia)]at at'
   unfold ChS.Done
   rw[at']
   exact st.done i hin
  ·refine q true S5 H5 (fr14.trans fr5) ch5 ⟨iv5,dn5⟩ (src5.trans (by rw[←hS4];rfl)) ⟨b51,b52⟩ (λx=>?_) ⟨λz=>(by cases z),λz=>absurd z hg⟩
   rw[e5]
   have e0:S4.chn.mv 0=λz=>S.chn.mv 0 z∨z=t:=by
    funext z
    exact propext ((mp.emv 0 z).trans ⟨λy=>y.elim .inl λw=>.inr w.2,λy=>y.elim .inl λw=>.inr ⟨rfl,w⟩⟩)
   rw[e0]
def zq9 (cC cB cS:Addr):Sp:=λvs H Q _=>∃(A:ChA) (S:ChS) (n:Nat),vs=[.ref A.c]/\w6 cC cB cS n H A S/\S.Inv n/\n<=60/\Q (.int ((S.chn.many n n:Nat):Int)) H
theorem X9:y4 ["self","product","step"] ["self"] (z8 Q4):=scq
theorem zj3 {cC cB cS:Addr}(F:Fun K "size" "Chain.size" Q4 f fd)(B:Blt mg)(cc:p7 K cC Z2)(cs:p7 K cS M9):v1 P w K mg base CX0 1 f fd ["self"] (zq9 cC cB cS):=by
 refine F.ok X9 (λvs H Q E h=>?_) (λcdv Ar outer sh H vs Q E hr h=>?_)
 ·obtain⟨A,S,n,rfl,_⟩:=h
  rfl
 obtain⟨A,S,n,rfl,ch,iv,hn,q⟩:=h
 obtain⟨dxc,hcc⟩:=ch.c
 refine⟨_,z6 (x9 (i:=1) X9.nd rfl (Or.inl rfl) z9)
  (z6 (Q3 PassesOwn.never rfl (d6 (y6 (pv 0) rfl)) (k8 (i:=2) X9.nd rfl (Or.inl rfl))
   (z7 (zy2 (i:=1) X9.nd rfl (Or.inl rfl) (v8 ye8 rfl B.len Y8 (z0 (y6 (pv 2) rfl) z4)) yw1)))
  (z7 (y9 (pv 1)))),?_⟩
 have hstl:(A.st.map λs=>V.ref s.a).length=n:=by rw[aa];exact ch.len.1
 refine⟨_,rfl,A.c,cC,dxc,_,_,rfl,hcc,cc.cls,cc.no "steps" (by decide),rfl,A.l,rfl,⟨_,SqL.of ch.l⟩,O6 (K:=K) (a:=A.l) (xs:=A.st.map λs=>V.ref s.a) (λi σ Hh=>∃(p:Nat) (v2:Option V),σ=[some (.ref A.c),some (.int p),v2]/\Hh=H/\p*S.chn.many n (n-i)=S.chn.many n n)
  ⟨1,none,rfl,rfl,by rw[de,cx]⟩ (λi σ Hh _ ⟨_,_,_,e,_⟩=>by rw[e];exact SqL.of ch.l) ?_ ?_⟩
 ·rintro i v σ Hh hv ⟨p,v2,rfl,rfl,hp⟩
  rw[ag]at hv
  cases hA:A.st[i]? with
  | none=>rw[hA]at hv;cases hv
  | some a =>
   rw[hA]at hv
   cases hv
   have hi:i<n:=by rw[←ch.len.1];exact(ap.mp hA).1
   have hs:=ChS.get_at (S:=S) (j:=i) (by rw[iv.len];exact hi)
   have st:=ch.st i a _ hA hs
   obtain⟨dxs,hsa⟩:=st.a
   have rg:=iv.ring hi
   refine⟨_,rfl,_,rfl,a.a,cS,dxs,_,_,rfl,hsa,cs.cls,cs.no "line_to" (by decide),rfl,a.lt,_,rfl,st.lt,?_⟩
   rw[zf5]
   refine⟨_,_,rfl,rfl,.inr ⟨by lia,by lia⟩,p*(S.atS i).to.length,some (V.ref a.a),?_,rfl,?_⟩
   ·rw[br]
    rfl
   ·have e:n-i=(n-(i+1))+1:=by lia
    rw[e,TM.Chn.many,show n-(n-(i+1)+1)=i by lia]at hp
    have e2:(S.chn.ring i).length=(S.atS i).to.length:=aa _
    rw[e2,←cJ]at hp
    exact hp
 ·rintro σ Hh ⟨p,v2,rfl,rfl,hp⟩
  rw[hstl,bD,TM.Chn.many,cI]at hp
  refine⟨_,rfl,?_⟩
  rw[hp]
  exact q
theorem w6.keep {cC cB cS:Addr}{n:Nat}{H H':Hp}{A:ChA}{S:ChS}{F:List Addr}(ch:w6 cC cB cS n H A S)(fr:y1 F H H')(hF:∀y∈F,y∉A.all/\∀xs,H y≠some (.tup xs)):w6 cC cB cS n H' A S:=by
 have kA:∀{b:Addr} {o:HO},H b=some o->b∈A.all->H' b=some o:=λ{b o} h hb=>fr b o (λz=>(hF b z).1 hb) h
 have kt:∀{b:Addr} {xs:List V},H b=some (.tup xs)->H' b=some (.tup xs):=λ{b xs} h=>fr b _ (λz=>(hF b z).2 xs h) h
 have hin:∀y∈[A.c,A.b,A.ll,A.lm,A.d,A.l],y∈A.all:=λy hy=>by unfold ChA.all;exact aE _ hy
 obtain⟨dxc,h1⟩:=ch.c
 refine⟨ch.nd,⟨dxc,kA h1 (hin _ (by simp))⟩,⟨ch.bk.b.imp λ_ e=>kA e (hin _ (by simp)),ch.bk.ll.imp λ_ e=>⟨kA e.1 (hin _ (by simp)),Paired.imp' (λ_ _ z=>kt z) e.2⟩,ch.bk.lm.imp λ_ e=>⟨kA e.1 (hin _ (by simp)),Paired.imp' (λ_ _ z=>kt z) e.2⟩,kA ch.bk.d (hin _ (by simp)),ch.bk.len⟩,kA ch.l (hin _ (by simp)),ch.len,λi a s ha hs=>?_⟩
 refine(ch.st i a s ha hs).frame fr λy hy=>⟨λz=>(hF y hy).1 ?_,(hF y hy).2⟩
 unfold ChA.all
 exact aD _ (bF.mpr ⟨a.all,ah.mpr ⟨a,aw ha,rfl⟩,z⟩)
def Z7:List Str:=["many","makers","chain"]
structure x0 (cG cC cB cS:Addr) (n:Nat) (H:Hp) (g:Addr) (ts:List (List Nat)) (S:ChS):Prop where
 n0:0<n
 n60:n<=60
 at':∃(dx ma:Addr) (A:ChA) (mas:List Addr),H g=some (.ins cG dx [("many",.int n),("makers",.ref ma),("chain",.ref A.c)])/\H ma=some (.tup (mas.map V.ref))/\h8 H mas ts/\w6 cC cB cS n H A S
 st:S.Set n
 few:ts.length<=200
 tT:∀t∈ts,TM.IsT n t
 grp:∀x,TM.Grp n (S.chn.mv 0) x↔TM.Grp n (λz=>z∈ts) x
 src:S.src=λk=>ts.getD k []
 lnl:S.ln.length<=4000000
theorem x0.same {cG cC cB cS:Addr}{n:Nat}{H H':Hp}{g:Addr}{ts:List (List Nat)}{S:ChS}(h:x0 cG cC cB cS n H g ts S)(s:y2 H H'):x0 cG cC cB cS n H' g ts S:=by
 obtain⟨dx,ma,A,mas,h1,h2,h3,h4⟩:=h.at'
 exact⟨h.n0,h.n60,⟨dx,ma,A,mas,s _ _ h1,s _ _ h2,h3.same s,h4.same s⟩,h.st,h.few,h.tT,h.grp,h.src,h.lnl⟩
theorem zf3 {n:Nat}{S S':List Nat->Prop}{t:List Nat}(hS:∀s,S s->TM.IsT n s)(hS':∀s,S' s->TM.IsT n s)(hT:TM.IsT n t)(h:∀x,TM.Grp n S x↔TM.Grp n S' x)(x:List Nat):TM.Grp n (λz=>S z∨z=t) x↔TM.Grp n (λz=>S' z∨z=t) x:=by
 have key:∀{S S':List Nat->Prop},(∀s,S s->TM.IsT n s)->(∀s,S' s->TM.IsT n s)->(∀x,TM.Grp n S x↔TM.Grp n S' x)->TM.Grp n (λz=>S z∨z=t) x->TM.Grp n (λz=>S' z∨z=t) x:=λ{S S'} hS hS' h g=>by
  have h2:∀s,(S' s∨s=t)->TM.IsT n s:=λs q=>q.elim (hS' s) λe=>by rw[e];exact hT
  refine TM.Grp.mono h2 (λs hs=>?_) g
  rcases hs with q|q
  ·exact TM.Grp.mono h2 (λz hz=>TM.Grp.of h2 (.inl hz)) ((h s).mp (TM.Grp.of hS q))
  ·exact TM.Grp.of h2 (.inr q)
 exact⟨key hS hS' h,key hS' hS λx=>(h x).symm⟩
def yd7:Sp:=λvs H Q _=>∃(la:Addr) (n:Nat) (mas:List Addr) (ts:List (List Nat)),vs=[.int n,.ref la]/\0<n/\n<=60/\H la=some (.lst (mas.map V.ref))/\h8 H mas ts/\ts.length<=200/\(∀t∈ts,TM.IsT n t)/\∀H':Hp,y2 H H'->Q .non H'
theorem zk8:y4 ["many","makers"] ["many","makers"] (z8 P3):=scq
theorem yq7 (n:Nat):(List.replicate n true).all id=true:=by
 induction n with
 | zero=>rfl
 | succ n ih=>rw[List.replicate_succ,eL,ih];rfl
theorem yo3 {H:Hp}{a:Addr}{t:List Nat}(h:H a=some (.tup (tI t))):Dt H (.ref a) (.tuple (t.map λ(x:Nat)=>PyData.int x)):=.tup h (yk0 t)
theorem zv9 {n:Nat}{t:List Nat}(h:TM.IsT n t)(h1:0<n)(h60:n<=60):(m9 (.tuple (t.map λ(x:Nat)=>PyData.int x))&&decide ((t.map λ(x:Nat)=>PyData.int x).length=n))=true:=by
 rw[yi0 h h1 h60,aa,h.length,decide_eq_true rfl]
 rfl
theorem zk3 (D:Def K mg "need_group" P3 ["many","makers"] f fd)(B:Blt mg)(KW:Known P w K mg base 1 "is_whole" ["thing"] zi7)(KT:Known P w K mg base 3 "is_turning_of" ["thing","many"] G6)(GM:zj1 mg "MOST_PLACES" (.int 60))(GK:zj1 mg "MOST_MAKERS" (.int 200)):v1 P w K mg base CX0 4 f fd ["many","makers"] yd7:=by
 refine D.F.ok zk8 (λvs H Q E h=>?_) (λcdv A outer s H vs Q E hr h=>?_)
 ·obtain⟨la,n,mas,ts,rfl,_⟩:=h
  rfl
 obtain⟨la,n,mas,ts,rfl,hn0,hn,hla,hts,hfew,hT,q⟩:=h
 have hml:mas.length=ts.length:=Paired.length hts
 refine⟨_,z6 (n6 (PW.pt (zu5 (T2 (Z9 (u4 KW hr rfl (z0 (pv 0) z4)))) (zh5 (T2 (zu4 yc2 yc2 z9 (pv 0) (zb0 GM rfl)))))) (z7 zh3) u6)
  (z6 (n6 (PW.pt (zu5 (T2 (Z9 (v8 d9 rfl B.isinstance n4 (z0 (pv 1) (z0 (Q2 (v:=.ty "list") rfl B.list X5 rfl) z4))))) (zh5 (p6 yn1 (v8 u7 rfl B.len Y8 (z0 (pv 1) z4)) (zb0 GK rfl) (u3 _))))) (z7 zh3) u6)
  (z7 (n6 (T2 (Z9 (v8 (C6 rfl) rfl B.all zw4 (z0 (i5 [0] ["maker","many"] rfl (d6 (pv 1)) (λ_ _ _ _=>u4 KT hr rfl (z0 (pv 0) (z0 (pv 1) z4)))) z4)))) (z7 zh3) u6))),?_⟩
 refine⟨_,rfl,_,.int n,rfl,.int _,_,rfl,o5 ⟨_,rfl,_,_,rfl,rfl,_,rfl,?_⟩⟩
 rw[decide_eq_true (show(1:Int)<=((n:Nat):Int) by lia)]
 refine i0 ⟨_,_,rfl,rfl,_,rfl,?_⟩
 rw[decide_eq_true (show((n:Nat):Int)<=(60:Int) by lia)]
 refine o5 ⟨_,rfl,_,_,_,_,rfl,P9.lst hla,O7 R9,_,rfl,o5 ?_⟩
 refine⟨_,rfl,la,_,rfl,.inl (SqL.of hla),_,_,rfl,rfl,_,rfl,?_⟩
 rw[aa,hml,decide_eq_false (show ¬((ts.length:Nat):Int) > (200:Int) by lia)]
 refine o5 ?_
 refine⟨_,rfl,la,rfl,⟨_,SqL.of hla⟩,V7 (SqL.of hla) ((List.replicate mas.length true).map V.bl) (by rw[aa,cr,aa]) (by rw[aa,hml];exact small (by lia)) ?_ ?_⟩
 ·intro i H' x hx s' _ _ _ _
  obtain⟨c,hc,rfl⟩:=S8 hx
  obtain⟨t,ht,hct⟩:=q9 hts i c hc
  have hi:i<mas.length:=(ap.mp hc).1
  have htT:=hT t (aw ht)
  refine⟨_,rfl,_,rfl,.ref c,_,n,rfl,yo3 (s' _ _ hct),λds hd=>?_,λH4 s4=>⟨s4,?_⟩⟩
  ·cases hd
   rw[aa,htT.length]
   lia
  ·show((List.replicate mas.length true).map V.bl)[i]?=some (V.bl (m9 (.tuple (t.map λ(x:Nat)=>PyData.int x))&&decide ((t.map λ(x:Nat)=>PyData.int x).length=n)))
   rw[zv9 htT hn0 hn,ag,cM,if_pos hi]
   rfl
 ·intro nm H4 _ s4 hnm
  refine⟨nm,_,rfl,SqL.of hnm,_,rfl,?_⟩
  rw[yq7]
  exact o5 (q H4 s4)
def zi4 (cG cC cB cS:Addr):Sp:=λvs H Q _=>∃(x dx la:Addr) (n:Nat) (mas:List Addr) (ts:List (List Nat)),vs=[.ref x,.int n,.ref la]/\H x=some (.ins cG dx [])/\0<n/\n<=60/\H la=some (.lst (mas.map V.ref))/\h8 H mas ts/\ts.length<=200/\(∀t∈ts,TM.IsT n t) /\
 ∀(S:ChS) (H':Hp),y1 [x] H H'->x0 cG cC cB cS n H' x ts S->(∀(y:Addr) (H2:Hp),H y≠none->y≠x->(∀xs,H' y≠some (.tup xs))->y1 [y] H' H2->x0 cG cC cB cS n H2 x ts S)->Q .non H'
theorem Y4:y4 ["self","many","makers","number","maker"] ["self","many","makers"] (z8 X2):=scq
theorem zj5 {cG cC cB cS:Addr}(F:Fun K "__init__" "Group.__init__" X2 f fd)(B:Blt mg)(cg:p7 K cG Z7)(cc:p7 K cC Z2)(KN:Known P w K mg base 4 "need_group" ["many","makers"] yd7)(KC:zn4 P w K mg base 4 cC "Chain" ["self","many"] (zi3 cC cB cS))
  (MT:h7 P w K mg base 6 cC "take" ["self","number","maker"] (zz4 cC cB cS)):v1 P w K mg base CX0 7 f fd ["self","many","makers"] (zi4 cG cC cB cS):=by
 refine F.ok Y4 (λvs H Q E h=>?_) (λcdv Ar outer sh H vs Q E hr h=>?_)
 ·obtain⟨x,dx,la,n,mas,ts,rfl,_⟩:=h
  rfl
 obtain⟨x,dx,la,n,mas,ts,rfl,hx,hn0,hn,hla,hts,hfew,hT,q⟩:=h
 have hml:mas.length=ts.length:=Paired.length hts
 refine⟨_,z6 (p5 (u4 KN hr rfl (z0 (pv 1) (z0 (pv 2) z4))))
  (z6 (i8 (pv 0) (pv 1) rfl)
  (z6 (i8 (pv 0) (u5 n5 rfl B.tuple Z5 (z0 (pv 2) z4)) rfl)
  (z6 (i8 (pv 0) (J8 KC hr rfl (z0 (pv 1) z4)) rfl)
  (z7 (Q3 PassesOwn.never rfl (zh0 rfl B.enumerate (z0 (y6 (pv 0) rfl) z4)) (zp6 rfl (W4 (k8 (i:=3) Y4.nd rfl (Or.inl rfl)) (W4 (k8 (i:=4) Y4.nd rfl (Or.inl rfl)) zc7)))
   (z7 (p5 (c7 cc.cls MT hr (y6 (pv 0) rfl) (z0 (pv 3) (z0 (pv 4) z4)))))))))),?_⟩
 refine⟨_,rfl,_,rfl,la,n,mas,ts,rfl,hn0,hn,hla,hts,hfew,hT,λH0 s0=>?_⟩
 refine⟨_,rfl,_,rfl,x,cG,dx,[],rfl,s0 _ _ hx,cg.cls,cg.no "many" (by decide),by decide,?_⟩
 obtain⟨H1,g1,f1,x1⟩:=r6 (H:=H0) (x:=x) (cS:=cG) (dx:=dx) (f:="many") (v:=V.int n) (fs:=[]) (fs':=[("many",.int n)]) rfl
 rw[g1]
 have F1:y1 [x] H H1:=(y2.frame s0).trans f1
 have nx:∀{b:Addr} {o:HO},H b=some o->o≠.ins cG dx []->b≠x:=λ{b o} h d z=>by
  subst z
  rw[hx]at h
  exact d (Option.some.inj h).symm
 have hla1:=F1.keep hla (nx hla (by intro z;cases z))
 refine⟨_,rfl,la,_,rfl,.inl ⟨SqL.of hla1,λma hma=>?_⟩⟩
 have s2:=y3 hma (.tup (mas.map V.ref))
 have m2:(upd H1 ma (.tup (mas.map V.ref))) ma=some (.tup (mas.map V.ref)):=z3
 generalize upd H1 ma (.tup (mas.map V.ref))=H2 at s2 m2 ⊢
 have xma:ma≠x:=λz=>by subst z;rw[x1]at hma;cases hma
 refine⟨_,rfl,x,cG,dx,_,rfl,s2 _ _ x1,cg.cls,cg.no "makers" (by decide),by (show 1<1000;decide),?_⟩
 obtain⟨H3,g3,f3,x3⟩:=r6 (H:=H2) (x:=x) (cS:=cG) (dx:=dx) (f:="makers") (v:=V.ref ma) (fs:=[("many",.int n)]) (fs':=[("many",.int n),("makers",.ref ma)]) rfl
 rw[g3]
 have F3:y1 [x] H H3:=(F1.trans (y2.frame s2)).trans f3
 have m3:=f3.keep m2 xma
 refine⟨_,rfl,λc dc hc hdc hne=>⟨c,dc,n,rfl,z3,hn,λA H4 hAc hfree fr4 ch4=>⟨rfl,?_⟩⟩⟩
 have s4:y2 H3 H4:=λb o h=>fr4 b o (by simpa using y0 h hc) (by rw[z5 (y0 h hc),z5 (y0 h hdc)];exact h)
 have hall:∀a∈A.all,H3 a=none:=λa ha=>by
  by_cases e:a=c
  ·rw[e];exact hc
  ·have:=hfree a ha e
   rw[z5 e]at this
   by_cases e2:a=dc
   ·rw[e2];exact hdc
   ·rwa [z5 e2]at this
 subst hAc
 refine⟨_,rfl,x,cG,dx,_,rfl,s4 _ _ x3,cg.cls,cg.no "chain" (by decide),by (show 2<1000;decide),?_⟩
 obtain⟨H5,g5,f5,x5⟩:=r6 (H:=H4) (x:=x) (cS:=cG) (dx:=dx) (f:="chain") (v:=V.ref A.c) (fs:=[("many",.int n),("makers",.ref ma)]) (fs':=[("many",.int n),("makers",.ref ma),("chain",.ref A.c)]) rfl
 rw[g5]
 have F5:y1 [x] H H5:=(F3.trans (y2.frame s4)).trans f5
 have m5:=f5.keep (s4 _ _ m3) xma
 have hts5:h8 H5 mas ts:=Paired.imp' (λb t e=>F5.keep e (nx e (by intro z;cases z))) hts
 have xA:x∉A.all:=λz=>by
  have:=hall x z
  rw[x3]at this
  cases this
 have ch5:w6 cC cB cS n H5 A (ChS.new n (λk=>ts.getD k [])):=(ch4 _).keep f5 λy hy=>by
  rw[ae.mp hy]
  exact⟨xA,λxs z=>by rw[s4 _ _ x3]at z;cases z⟩
 have out:∀{b:Addr} {o:HO},H b=some o->b∉A.all:=λ{b o} h hb=>by
  by_cases e:b=x
  ·exact xA (e ▸ hb)
  ·have:=hall b hb
   rw[F3.keep h e]at this
   cases this
 have maA:ma∉A.all:=λz=>by
  have:=hall ma z
  rw[m3]at this
  cases this
 refine⟨_,rfl,x,cG,dx,_,_,rfl,x5,cg.cls,cg.no "makers" (by decide),rfl,ma,rfl,⟨_,SqT.of m5⟩,zf0 (xs:=mas.map V.ref) (λi σ H6=>∃(S:ChS) (v3 v4:Option V),σ=[some (.ref x),some (.int n),some (.ref la),v3,v4]/\y1 A.all H5 H6/\w6 cC cB cS n H6 A S/\S.Set n/\S.Full (1+i)/\i<=ts.length/\(S.src=λk=>ts.getD k [])/\∀y,TM.Grp n (S.chn.mv 0) y↔TM.Grp n (λz=>z∈ts.take i) y)
  ⟨ChS.new n (λk=>ts.getD k []),none,none,rfl,y1.refl,ch5,⟨ChS.new_inv n,λi _=>ChS.new_done n i⟩,⟨by show 1<=_;lia,by show 1<=_;lia⟩,aV _,rfl,λy=>?_⟩ (λi σ H6 _ ⟨_,_,_,_,fr6,_⟩=>SqT.of (fr6 _ _ maA m5)) ?_ ?_⟩
 ·have hno:∀s,(ChS.new n (λk=>ts.getD k [])).chn.mv 0 s↔s∈ts.take 0:=λs=>⟨λh=>absurd h (ChS.new_nomv n 0 s),λh=>by rw[eI]at h;cases h⟩
  rw[show(ChS.new n (λk=>ts.getD k [])).chn.mv 0=λz=>z∈ts.take 0 from funext λs=>propext (hno s)]
 ·rintro i v σ H6 T hv ⟨S,v3,v4,rfl,fr6,ch6,set6,full6,hi6,src6,grp6⟩ hT6
  obtain⟨tr,htr,rfl⟩:=S8 hv
  obtain⟨t,ht,htt⟩:=q9 hts5 i tr htr
  have hiT:i<ts.length:=(ap.mp ht).1
  have htT:=hT t (aw ht)
  have s7:=y3 hT6 (.tup [V.int ((i:Nat):Int),V.ref tr])
  refine⟨T,_,rfl,SqT.of z3,rfl,_,_,rfl,_,_,rfl,rfl,?_⟩
  generalize upd H6 T (.tup [V.int ((i:Nat):Int),V.ref tr])=H7 at s7 ⊢
  have ch7:=ch6.same s7
  obtain⟨dxc,hcc⟩:=ch7.c
  have x7:=s7 _ _ (fr6 _ _ xA x5)
  have trA:tr∉A.all:=λz=>by
   obtain⟨t0,ht0,htt0⟩:=q9 hts i tr htr
   exact out htt0 z
  have t7:=s7 _ _ (fr6 _ _ trA htt)
  refine⟨_,rfl,x,cG,dx,_,_,rfl,x7,cg.cls,cg.no "chain" (by decide),rfl,A.c,dxc,_,rfl,hcc,rfl,_,rfl,_,rfl,A,S,n,1+i,i,tr,t,rfl,ch7,set6,hn0,hn,by lia,full6,t7,htT,(λ_=>by rw[src6];show ts.getD i []=t;rw[ao,ht];rfl),λb S' H8 fr8 ch8 set8 src8 full8 grp8 _=>?_⟩
  refine⟨S',_,_,rfl,(fr6.trans (y2.frame s7)).trans fr8,ch8,set8,⟨by have:=full8.ln;lia,by have:=full8.bl;lia⟩,hiT,src8.trans src6,λy=>?_⟩
  have hS1:∀s,S.chn.mv 0 s->TM.IsT n s:=set6.inv.ok.mvT 0
  have hS2:∀s,s∈ts.take i->TM.IsT n s:=λs hs=>hT s (bH hs)
  rw[grp8 y,zf3 hS1 hS2 htT grp6 y,bG,ht]
  have e:(λz=>z∈ts.take i++(some t).toList)=λz=>z∈ts.take i∨z=t:=by
   funext z
   simp
  rw[e]
 ·rintro σ H6 ⟨S,v3,v4,rfl,fr6,ch6,set6,full6,hi6,src6,grp6⟩
  have hlnl:S.ln.length<=4000000:=by
   have q1:=full6.ln
   have q2:=set6.inv.looks_le hn
   rw[aa,hml]at q1
   lia
  rw[aa,hml,bg]at grp6
  have x6:=fr6 _ _ xA x5
  have m6:=fr6 _ _ maA m5
  have hts6:h8 H6 mas ts:=S6 hts5 λb hb t e=>fr6 _ _ (λz=>by
   obtain⟨i,hi,e2⟩:=bI.mp hb
   obtain⟨t0,ht0,htt0⟩:=q9 hts i b (by rw[ac hi,e2])
   exact out htt0 z) e
  refine q S H6 (λb o hb h=>fr6 b o (out h) (F5 b o hb h)) ⟨hn0,hn,⟨dx,ma,A,mas,x6,m6,hts6,ch6⟩,set6,hfew,hT,grp6,src6,hlnl⟩ λy H7 hy hyx hyt fr7=>?_
  obtain⟨oy,hoy⟩:∃o,H y=some o:=Option.ne_none_iff_exists'.mp hy
  have kt:∀{b:Addr} {xs:List V},H6 b=some (.tup xs)->H7 b=some (.tup xs):=λ{b xs} h=>fr7.keep h (λz=>hyt xs (z ▸ h))
  exact⟨hn0,hn,⟨dx,ma,A,mas,fr7.keep x6 (Ne.symm hyx),kt m6,Paired.imp' (λ_ _ z=>kt z) hts6,ch6.keep fr7 λz hz=>by
   rw[ae.mp hz]
   exact⟨out hoy,hyt⟩⟩,set6,hfew,hT,grp6,src6,hlnl⟩
def yp5 (cG cC cB cS:Addr):Sp:=λvs H Q _=>∃(g:Addr) (n:Nat) (ts:List (List Nat)) (S:ChS),vs=[.ref g]/\x0 cG cC cB cS n H g ts S/\∀(l:Addr) (mas:List Addr) (H':Hp),H l=none->y2 H H'->H' l=some (.lst (mas.map V.ref))->h8 H' mas ts->Q (.ref l) H'
theorem zk6:y4 ["self"] ["self"] (z8 Q7):=scq
theorem zj7 {cG cC cB cS:Addr}(F:Fun K "told" "Group.told" Q7 f fd)(B:Blt mg)(cg:p7 K cG Z7):v1 P w K mg base CX0 1 f fd ["self"] (yp5 cG cC cB cS):=by
 refine F.ok zk6 (λvs H Q E h=>?_) (λcdv Ar outer sh H vs Q E hr h=>?_)
 ·obtain⟨g,n,ts,S,rfl,_⟩:=h
  rfl
 obtain⟨g,n,ts,S,rfl,ga,q⟩:=h
 obtain⟨dx,ma,A,mas,h1,h2,h3,h4⟩:=ga.at'
 refine⟨_,z7 (y9 (u5 V3 rfl B.list X5 (z0 (y6 (pv 0) rfl) z4))),?_⟩
 refine⟨_,rfl,g,cG,dx,_,_,rfl,h1,cg.cls,cg.no "makers" (by decide),rfl,ma,_,rfl,.inr (SqT.of h2),λl hl=>?_⟩
 have s1:=y3 hl (.lst (mas.map V.ref))
 exact q l mas _ hl s1 z3 (h3.same s1)
def yo9 (cG cC cB cS:Addr):Sp:=λvs H Q _=>∃(g tr:Addr) (n:Nat) (ts:List (List Nat)) (S:ChS) (t:List Nat),vs=[.ref g,.ref tr]/\x0 cG cC cB cS n H g ts S/\H tr=some (.tup (tI t))/\TM.IsT n t/\∀(b:Bool) (H':Hp),y2 H H'->(b=true↔TM.Grp n (λz=>z∈ts) t)->Q (.bl b) H'
theorem zq4:y4 ["self","thing"] ["self","thing"] (z8 M3):=scq
theorem zp1 {cG cC cB cS:Addr}(F:Fun K "has" "Group.has" M3 f fd)(B:Blt mg)(cg:p7 K cG Z7)(cc:p7 K cC Z2)(KT:Known P w K mg base 3 "is_turning_of" ["thing","many"] G6)(MH:h7 P w K mg base 3 cC "holds" ["self","turning","level"] (zd2 cC cB cS)):v1 P w K mg base CX0 4 f fd ["self","thing"] (yo9 cG cC cB cS):=by
 refine F.ok zq4 (λvs H Q E h=>?_) (λcdv Ar outer sh H vs Q E hr h=>?_)
 ·obtain⟨g,tr,n,ts,S,t,rfl,_⟩:=h
  rfl
 obtain⟨g,tr,n,ts,S,t,rfl,ga,htr,htT,q⟩:=h
 obtain⟨dx,ma,A,mas,h1,h2,h3,h4⟩:=ga.at'
 refine⟨_,z7 (y9 (M1 (u4 KT hr rfl (z0 (pv 1) (z0 (y6 (pv 0) rfl) z4))) (M2 (c7 cc.cls MH hr (y6 (pv 0) rfl) (z0 (pv 1) (z0 z9 z4)))))),?_⟩
 refine⟨_,rfl,_,rfl,g,cG,dx,_,_,rfl,h1,cg.cls,cg.no "many" (by decide),rfl,.ref tr,_,n,rfl,yo3 htr,λds hd=>?_,λH1 s1=>?_⟩
 ·cases hd
  rw[aa,htT.length]
  have:=ga.n60
  lia
 have h4':=h4.same s1
 obtain⟨dxc,hc⟩:=h4'.c
 have hol:=ga.st.inv.holds (j:=0) (aV _) (λi _ hi=>ga.st.done i hi) htT (TM.Fix.zero t)
 refine⟨(m9 (.tuple (t.map λ(x:Nat)=>PyData.int x))&&decide ((t.map λ(x:Nat)=>PyData.int x).length=n)),rfl,?_⟩
 rw[zv9 htT ga.n0 ga.n60]
 refine i0 ⟨_,rfl,g,cG,dx,_,_,rfl,s1 _ _ h1,cg.cls,cg.no "chain" (by decide),rfl,A.c,dxc,_,rfl,hc,rfl,_,rfl,A,S,n,0,tr,t,rfl,h4',ga.st.inv.fine.wl,s1 _ _ htr,htT,aV _,ga.n60,λH2 s2=>?_⟩
 exact q _ H2 (s1.trans s2) (hol.trans (ga.grp t))
def L9 (cG cC cB cS:Addr):Sp:=λvs H Q _=>∃(g:Addr) (n:Nat) (ts:List (List Nat)) (S:ChS),vs=[.ref g]/\x0 cG cC cB cS n H g ts S/\Q (.int ((S.chn.many n n:Nat):Int)) H
theorem zk5:y4 ["self"] ["self"] (z8 Q6):=scq
theorem zj6 {cG cC cB cS:Addr}(F:Fun K "size" "Group.size" Q6 f fd)(B:Blt mg)(cg:p7 K cG Z7)(cc:p7 K cC Z2)(MS:h7 P w K mg base 1 cC "size" ["self"] (zq9 cC cB cS)):v1 P w K mg base CX0 2 f fd ["self"] (L9 cG cC cB cS):=by
 refine F.ok zk5 (λvs H Q E h=>?_) (λcdv Ar outer sh H vs Q E hr h=>?_)
 ·obtain⟨g,n,ts,S,rfl,_⟩:=h
  rfl
 obtain⟨g,n,ts,S,rfl,ga,q⟩:=h
 obtain⟨dx,ma,A,mas,h1,h2,h3,h4⟩:=ga.at'
 obtain⟨dxc,hc⟩:=h4.c
 refine⟨_,z7 (y9 (c3 cc.cls MS hr (y6 (pv 0) rfl))),?_⟩
 exact⟨_,rfl,g,cG,dx,_,_,rfl,h1,cg.cls,cg.no "chain" (by decide),rfl,A.c,dxc,_,rfl,hc,rfl,A,S,n,rfl,h4,ga.st.inv,ga.n60,q⟩
theorem K7 {H:Hp}{mas:List Addr}{md:List (List Nat)}(h:h8 H mas md):∀(ks:List Nat),(∀k∈ks,k<md.length)->h8 H (ks.map λk=>mas.getD k 0) (ks.map λk=>md.getD k [])
 | [],_=>.nil
 | k::ks,hk=>by
  refine .cons ?_ (K7 h ks λj hj=>hk j (av _ hj))
  obtain⟨a,ha,hat⟩:=i4 h k _ (Z6 [] (hk k ax))
  show H (mas.getD k 0)=some (.tup (tI (md.getD k [])))
  rw[ao,ha]
  exact hat
def zv2 (cC cB cS:Addr):Sp:=λvs H Q _=>∃(A:ChA) (S:ChS) (n lv:Nat),vs=[.ref A.c,.int lv]/\w6 cC cB cS n H A S/\S.Inv n/\n<=60/\lv<n /\
 ∀(l:Addr) (mas:List Addr) (H':Hp),H l=none->y2 H H'->H' l=some (.lst (mas.map V.ref))->h8 H' mas ((S.atS lv).mv.map λk=>S.md.getD k [])->Q (.ref l) H'
theorem G3:y4 ["self","level"] ["self","level"] (z8 Y1):=scq
theorem J6 {cC cB cS:Addr}(F:Fun K "movers_at" "Chain.movers_at" Y1 f fd)(B:Blt mg)(cc:p7 K cC Z2)(cb:p7 K cB za3)(cs:p7 K cS M9):v1 P w K mg base CX0 1 f fd ["self","level"] (zv2 cC cB cS):=by
 refine F.ok G3 (λvs H Q E h=>?_) (λcdv Ar outer sh H vs Q E hr h=>?_)
 ·obtain⟨A,S,n,lv,rfl,_⟩:=h
  rfl
 obtain⟨A,S,n,lv,rfl,ch,iv,hn,hlv,q⟩:=h
 obtain⟨dxc,hc⟩:=ch.c
 obtain⟨a,hA⟩:∃a,A.st[lv]?=some a:=⟨_,ac (by rw[ch.len.1];exact hlv)⟩
 have hs:=ChS.get_at (S:=S) (j:=lv) (by rw[iv.len];exact hlv)
 have st:=ch.st lv a _ hA hs
 obtain⟨dxs,hsa⟩:=st.a
 obtain⟨dxb,hb⟩:=ch.bk.b
 obtain⟨mas,hlm,hmd⟩:=ch.bk.lm
 have gi:atI (A.st.map λs=>V.ref s.a) ((lv:Nat):Int)=some (V.ref a.a):=m7 (by rw[ag,hA];rfl)
 have few:=iv.few hn lv
 have hmk:∀k∈(S.atS lv).mv,k<S.md.length:=λk hk=>iv.fine.mvlt hk
 refine⟨_,z7 (y9 (i5 [0] ["line","self"] rfl (d6 (y6 (o4 t9 (y6 (pv 0) rfl) (pv 1) (λ_ _=>rfl)) rfl)) (λ_ _ _ _=>o4 t9 (y6 (y6 (pv 1) rfl) rfl) (pv 0) (λ_ _=>rfl)))),?_⟩
 refine⟨_,rfl,A.c,cC,dxc,_,_,rfl,hc,cc.cls,cc.no "steps" (by decide),rfl,_,rfl,A.l,_,_,_,rfl,rfl,SqL.of ch.l,gi,a.a,cS,dxs,_,_,rfl,hsa,cs.cls,cs.no "movers" (by decide),rfl,a.m,rfl,⟨_,SqL.of st.m⟩,V7 (SqL.of st.m) (((S.atS lv).mv.map λk=>mas.getD k 0).map V.ref) (by rw[aa,aa,v0]) (by rw[v0];exact small (by lia)) ?_ ?_⟩
 ·intro i H' x hx s' _ _ _ _
  obtain⟨k,hk,rfl⟩:=K0 hx
  obtain⟨b,hb1,hb2⟩:=i4 hmd k _ (Z6 [] (hmk k (aw hk)))
  have gk:atI (mas.map V.ref) ((k:Nat):Int)=some (V.ref b):=m7 (by rw[ag,hb1];rfl)
  refine⟨_,rfl,A.c,cC,dxc,_,_,rfl,s' _ _ hc,cc.cls,cc.no "book" (by decide),rfl,A.b,cB,dxb,_,_,rfl,s' _ _ hb,cb.cls,cb.no "made" (by decide),rfl,_,rfl,A.lm,_,_,_,rfl,rfl,SqL.of (s' _ _ hlm),gk,y2.refl _,?_⟩
  rw[ag,ag,hk]
  show some (V.ref (mas.getD k 0))=some (V.ref b)
  rw[ao,hb1]
  rfl
 ·intro D H' hD s' hl
  exact q D _ H' hD s' hl ((K7 hmd _ hmk).same s')
def ChS.lean0 (S:ChS):List (List Nat):=(S.atS 0).mv.map λk=>S.md.getD k []
def yp0 (cG cC cB cS:Addr):Sp:=λvs H Q _=>∃(g:Addr) (n:Nat) (ts:List (List Nat)) (S:ChS),vs=[.ref g]/\x0 cG cC cB cS n H g ts S/\∀(l:Addr) (mas:List Addr) (us:List (List Nat)) (H':Hp),H l=none->y2 H H'->H' l=some (.lst (mas.map V.ref))->h8 H' mas us->us.length<=354->(∀u∈us,TM.IsT n u)->(∀x,TM.Grp n (λz=>z∈us) x↔TM.Grp n (λz=>z∈ts) x)->Q (.ref l) H'
def zd3 (cG cC cB cS:Addr):Sp:=λvs H Q _=>∃(g:Addr) (n:Nat) (ts:List (List Nat)) (S:ChS),vs=[.ref g]/\x0 cG cC cB cS n H g ts S/\∀(l:Addr) (mas:List Addr) (H':Hp),H l=none->y2 H H'->H' l=some (.lst (mas.map V.ref))->h8 H' mas S.lean0->S.lean0.length<=354->TM.Indep n S.lean0->(∀u∈S.lean0,TM.IsT n u)->(∀x,TM.Grp n (λz=>z∈S.lean0) x↔TM.Grp n (λz=>z∈ts) x)->Q (.ref l) H'
theorem yg4 {P:eV}{w:eZ}{K:W.Frag}{mg:Str->Option Value}{base:Heap}{cG cC cB cS:Addr}(M:h7 P w K mg base 2 cG "lean_makers" ["self"] (zd3 cG cC cB cS)):h7 P w K mg base 2 cG "lean_makers" ["self"] (yp0 cG cC cB cS):=by
 obtain⟨f,fd,F,r⟩:=M
 exact⟨f,fd,F.imp λvs H Q E ⟨g,n,ts,S,e,ga,q⟩=>⟨g,n,ts,S,e,ga,λl mas H' hl s hl' ht h1 _ h2 h3=>q l mas S.lean0 H' hl s hl' ht h1 h2 h3⟩,r⟩
theorem M5:y4 ["self"] ["self"] (z8 b0):=scq
theorem N9 {cG cC cB cS:Addr}(F:Fun K "lean_makers" "Group.lean_makers" b0 f fd)(B:Blt mg)(cg:p7 K cG Z7)(cc:p7 K cC Z2)(MM:h7 P w K mg base 1 cC "movers_at" ["self","level"] (zv2 cC cB cS)):v1 P w K mg base CX0 2 f fd ["self"] (zd3 cG cC cB cS):=by
 refine F.ok M5 (λvs H Q E h=>?_) (λcdv Ar outer sh H vs Q E hr h=>?_)
 ·obtain⟨g,n,ts,S,rfl,_⟩:=h
  rfl
 obtain⟨g,n,ts,S,rfl,ga,q⟩:=h
 obtain⟨dx,ma,A,mas,h1,h2,h3,h4⟩:=ga.at'
 obtain⟨dxc,hc⟩:=h4.c
 refine⟨_,z7 (y9 (c7 cc.cls MM hr (y6 (pv 0) rfl) (z0 z9 z4))),?_⟩
 refine⟨_,rfl,g,cG,dx,_,_,rfl,h1,cg.cls,cg.no "chain" (by decide),rfl,A.c,dxc,_,rfl,hc,rfl,A,S,n,0,rfl,h4,ga.st.inv,ga.n60,ga.n0,λl mas' H' hl s' hl' hts'=>?_⟩
 have few:=ga.st.inv.few ga.n60 0
 have hmv:∀s,S.chn.mv 0 s↔s∈S.lean0:=λs=>⟨λ⟨k,hk,e⟩=>ah.mpr ⟨k,hk,e⟩,λh=>by
  obtain⟨k,hk,e⟩:=ah.mp h
  exact⟨k,hk,e⟩⟩
 refine q l mas' H' hl s' hl' hts' (by rw[show S.lean0.length=(S.atS 0).mv.length from aa _];exact few) (ga.st.inv.ind 0) (λu hu=>ga.st.inv.ok.mvT 0 u ((hmv u).mpr hu)) λx=>?_
 rw[←show S.chn.mv 0=λz=>z∈S.lean0 from funext λs=>propext (hmv s)]
 exact ga.grp x
def zm0:List Str:=["many","found","chain"]
structure Z1 (cW cC cB cS:Addr) (n:Nat) (H:Hp) (x fl:Addr) (A:ChA) (S:ChS) (fas:List Addr):Prop where
 x':∃dx,H x=some (.ins cW dx [("many",.int n),("found",.ref fl),("chain",.ref A.c)])
 fl':H fl=some (.lst (fas.map V.ref))
 ch:w6 cC cB cS n H A S
 xA:x∉A.all
 flA:fl∉A.all
 st:S.Set n
def yd3 (cW cC cB cS:Addr):Sp:=λvs H Q _=>∃(x dx:Addr) (n:Nat),vs=[.ref x,.int n]/\H x=some (.ins cW dx [])/\n<=60 /\
 ∀(fl:Addr) (A:ChA) (H':Hp),H fl=none->(∀a∈A.all,H a=none)->y1 [x] H H'->(∀sr:Nat->List Nat,Z1 cW cC cB cS n H' x fl A (ChS.new n sr) [])->Q .non H'
theorem G4:y4 ["self","many"] ["self","many"] (z8 Y3):=scq
theorem zg1 {cW cC cB cS:Addr}(F:Fun K "__init__" "Growth.__init__" Y3 f fd)(B:Blt mg)(cw:p7 K cW zm0)(KC:zn4 P w K mg base 4 cC "Chain" ["self","many"] (zi3 cC cB cS)):v1 P w K mg base CX0 6 f fd ["self","many"] (yd3 cW cC cB cS):=by
 refine F.ok G4 (λvs H Q E h=>?_) (λcdv Ar outer sh H vs Q E hr h=>?_)
 ·obtain⟨x,dx,n,rfl,_⟩:=h
  rfl
 obtain⟨x,dx,n,rfl,hx,hn,q⟩:=h
 refine⟨_,z6 (i8 (pv 0) (pv 1) rfl)
  (z6 (i8 (pv 0) (c9 z4) rfl)
  (z7 (i8 (pv 0) (J8 KC hr rfl (z0 (pv 1) z4)) rfl))),?_⟩
 refine⟨_,rfl,_,rfl,x,cW,dx,[],rfl,hx,cw.cls,cw.no "many" (by decide),by decide,?_⟩
 obtain⟨H1,g1,f1,x1⟩:=r6 (H:=H) (x:=x) (cS:=cW) (dx:=dx) (f:="many") (v:=V.int n) (fs:=[]) (fs':=[("many",.int n)]) rfl
 rw[g1]
 refine⟨(by show 0<=eU;decide),λfl hfl=>?_⟩
 have s2:=y3 hfl (.lst [])
 have e2:(upd H1 fl (.lst [])) fl=some (.lst []):=z3
 generalize upd H1 fl (.lst [])=H2 at s2 e2 ⊢
 have xfl:fl≠x:=λz=>by subst z;rw[x1]at hfl;cases hfl
 have hfl0:H fl=none:=by
  cases e:H fl with
  | none=>rfl
  | some o=>rw[f1.keep e xfl]at hfl;cases hfl
 refine⟨_,rfl,x,cW,dx,_,rfl,s2 _ _ x1,cw.cls,cw.no "found" (by decide),by (show 1<1000;decide),?_⟩
 obtain⟨H3,g3,f3,x3⟩:=r6 (H:=H2) (x:=x) (cS:=cW) (dx:=dx) (f:="found") (v:=V.ref fl) (fs:=[("many",.int n)]) (fs':=[("many",.int n),("found",.ref fl)]) rfl
 rw[g3]
 have F3:y1 [x] H H3:=(f1.trans (y2.frame s2)).trans f3
 have e3:=f3.keep e2 xfl
 refine⟨_,rfl,λc dc hc hdc hne=>⟨c,dc,n,rfl,z3,hn,λA H4 hAc hfree fr4 ch4=>⟨rfl,?_⟩⟩⟩
 have s4:y2 H3 H4:=λb o h=>fr4 b o (by simpa using y0 h hc) (by rw[z5 (y0 h hc),z5 (y0 h hdc)];exact h)
 have hall:∀a∈A.all,H3 a=none:=λa ha=>by
  by_cases e:a=c
  ·rw[e];exact hc
  ·have:=hfree a ha e
   rw[z5 e]at this
   by_cases e2:a=dc
   ·rw[e2];exact hdc
   ·rwa [z5 e2]at this
 subst hAc
 refine⟨_,rfl,x,cW,dx,_,rfl,s4 _ _ x3,cw.cls,cw.no "chain" (by decide),by (show 2<1000;decide),?_⟩
 obtain⟨H5,g5,f5,x5⟩:=r6 (H:=H4) (x:=x) (cS:=cW) (dx:=dx) (f:="chain") (v:=V.ref A.c) (fs:=[("many",.int n),("found",.ref fl)]) (fs':=[("many",.int n),("found",.ref fl),("chain",.ref A.c)]) rfl
 rw[g5]
 have F5:y1 [x] H H5:=(F3.trans (y2.frame s4)).trans f5
 have xA:x∉A.all:=λz=>by
  have:=hall x z
  rw[x3]at this
  cases this
 have flA:fl∉A.all:=λz=>by
  have:=hall fl z
  rw[e3]at this
  cases this
 have ch5:∀sr:Nat->List Nat,w6 cC cB cS n H5 A (ChS.new n sr):=λsr=>(ch4 sr).keep f5 λy hy=>by
  rw[ae.mp hy]
  exact⟨xA,λxs z=>by rw[s4 _ _ x3]at z;cases z⟩
 refine q fl A H5 hfl0 (λa ha=>?_) F5 λsr=>⟨⟨dx,x5⟩,f5.keep (s4 _ _ e3) xfl,ch5 sr,xA,flA,⟨ChS.new_inv n,λi _=>ChS.new_done n i⟩⟩
 cases e:H a with
 | none=>rfl
 | some o =>
  have:=hall a ha
  rw[F3.keep e (λz=>xA (z ▸ ha))]at this
  cases this
def yd5 (cW cC cB cS:Addr):Sp:=λvs H Q _=>∃(x fl tr:Addr) (A:ChA) (S:ChS) (n c:Nat) (fas:List Addr) (t:List Nat),vs=[.ref x,.ref tr]/\Z1 cW cC cB cS n H x fl A S fas/\0<n/\n<=60/\c<1000/\S.Full c/\fas.length<1000/\H tr=some (.tup (tI t))/\TM.IsT n t/\tr∉A.all/\(¬TM.Grp n (S.chn.mv 0) t->S.src fas.length=t) /\
 ∀(b:Bool) (S':ChS) (H':Hp),S'.src=S.src->y1 (fl::A.all) H H'->Z1 cW cC cB cS n H' x fl A S' (if b then fas++[tr] else fas)->S'.Full (c+1)->(∀x,TM.Grp n (S'.chn.mv 0) x↔TM.Grp n (λz=>S.chn.mv 0 z∨z=t) x)->(b=false↔TM.Grp n (S.chn.mv 0) t)->Q (.bl b) H'
theorem M6:y4 ["self","turning","is_new"] ["self","turning"] (z8 T5):=scq
theorem zg3 {cW cC cB cS:Addr}(F:Fun K "take" "Growth.take" T5 f fd)(B:Blt mg)(cw:p7 K cW zm0)(cc:p7 K cC Z2)(MT:h7 P w K mg base 6 cC "take" ["self","number","maker"] (zz4 cC cB cS)):v1 P w K mg base CX0 7 f fd ["self","turning"] (yd5 cW cC cB cS):=by
 refine F.ok M6 (λvs H Q E h=>?_) (λcdv Ar outer sh H vs Q E hr h=>?_)
 ·obtain⟨x,fl,tr,A,S,n,c,fas,t,rfl,_⟩:=h
  rfl
 obtain⟨x,fl,tr,A,S,n,c,fas,t,rfl,ga,hn0,hn,hc,full,hfl,htr,tT,trA,hsrc,q⟩:=h
 obtain⟨dx,hx⟩:=ga.x'
 obtain⟨dxc,hcc⟩:=ga.ch.c
 refine⟨_,z6 (x9 (i:=2) M6.nd rfl (Or.inl rfl) (c7 cc.cls MT hr (y6 (pv 0) rfl) (z0 (v8 u7 rfl B.len Y8 (z0 (y6 (pv 0) rfl) z4)) (z0 (pv 1) z4))))
  (z6 (n6 (Z9 (pv 2)) (z7 (p5 (U8 PySem.F.plainAttrs_list PySem.F.slot_list_append PySem.F.type_list_append d0 (y6 (pv 0) rfl) (z0 (pv 1) z4)))) u6)
  (z7 (y9 (pv 2)))),?_⟩
 refine⟨_,rfl,x,cW,dx,_,_,rfl,hx,cw.cls,cw.no "chain" (by decide),rfl,A.c,dxc,_,rfl,hcc,rfl,_,rfl,x,cW,dx,_,_,rfl,hx,cw.cls,cw.no "found" (by decide),rfl,fl,_,rfl,.inl (SqL.of ga.fl'),_,rfl,A,S,n,c,fas.length,tr,t,?_,ga.ch,ga.st,hn0,hn,hc,full,htr,tT,hsrc,λb S' H1 fr1 ch1 st1 src1 full1 grp1 hb=>?_⟩
 ·rw[aa]
  rfl
 dsimp only[u9]
 have x1:=fr1 _ _ ga.xA hx
 have fl1:=fr1 _ _ ga.flA ga.fl'
 have fr1':y1 (fl::A.all) H H1:=fr1.more λy hy=>av _ hy
 refine D0 (λσ H2=>σ=[some (.ref x),some (.ref tr),some (.bl b)]/\y1 (fl::A.all) H H2/\Z1 cW cC cB cS n H2 x fl A S' (if b then fas++[tr] else fas)) ?_ λN hN=>?_
 ·rintro σ H2 ⟨rfl,fr2,ga2⟩
  exact⟨_,rfl,q b S' H2 src1 fr2 ga2 full1 grp1 hb⟩
 refine⟨_,rfl,_,rfl,?_⟩
 cases b with
 | false =>
  exact o5 (hN _ _ ⟨rfl,fr1',⟨⟨dx,x1⟩,fl1,ch1,ga.xA,ga.flA,st1⟩⟩)
 | true =>
  refine i0 ⟨_,rfl,x,cW,dx,_,_,rfl,x1,cw.cls,cw.no "found" (by decide),rfl,.inl ⟨rfl,_,SqL.of fl1⟩,_,rfl,fl,_,_,rfl,rfl,fl1,by rw[aa];exact aO hfl (by decide),hN _ _ ⟨rfl,?_,?_⟩⟩
  ·exact fr1'.trans λy o hy h=>by rw[z5 (λz=>hy (by rw[z];exact ax))];exact h
  ·have nx:x≠fl:=λz=>by rw[z,fl1]at x1;cases x1
   have fr2:y1 [fl] H1 (upd H1 fl (.lst (fas.map V.ref++[V.ref tr]))):=λy o hy h=>by rw[z5 (λz=>hy (by rw[z];exact ax))];exact h
   refine⟨⟨dx,by rw[z5 nx];exact x1⟩,?_,ch1.keep fr2 λy hy=>?_,ga.xA,ga.flA,st1⟩
   ·rw[z3,if_pos rfl,aF]
    rfl
   ·rw[ae.mp hy]
    exact⟨ga.flA,λxs z=>by rw[fl1]at z;cases z⟩
def yd4 (cW cC cB cS:Addr):Sp:=λvs H Q _=>∃(x fl:Addr) (A:ChA) (S:ChS) (n:Nat) (fas:List Addr),vs=[.ref x]/\Z1 cW cC cB cS n H x fl A S fas/\n<=60/\Q (.int ((S.chn.many n n:Nat):Int)) H
theorem zh9:y4 ["self"] ["self"] (z8 T4):=scq
theorem zg2 {cW cC cB cS:Addr}(F:Fun K "size" "Growth.size" T4 f fd)(B:Blt mg)(cw:p7 K cW zm0)(cc:p7 K cC Z2)(MS:h7 P w K mg base 1 cC "size" ["self"] (zq9 cC cB cS)):v1 P w K mg base CX0 2 f fd ["self"] (yd4 cW cC cB cS):=by
 refine F.ok zh9 (λvs H Q E h=>?_) (λcdv Ar outer sh H vs Q E hr h=>?_)
 ·obtain⟨x,fl,A,S,n,fas,rfl,_⟩:=h
  rfl
 obtain⟨x,fl,A,S,n,fas,rfl,ga,hn,q⟩:=h
 obtain⟨dx,hx⟩:=ga.x'
 obtain⟨dxc,hc⟩:=ga.ch.c
 refine⟨_,z7 (y9 (c3 cc.cls MS hr (y6 (pv 0) rfl))),?_⟩
 exact⟨_,rfl,x,cW,dx,_,_,rfl,hx,cw.cls,cw.no "chain" (by decide),rfl,A.c,dxc,_,rfl,hc,rfl,A,S,n,rfl,ga.ch,ga.st.inv,hn,q⟩
def yd6 (cW cG cC cB cS:Addr):Sp:=λvs H Q _=>∃(x fl:Addr) (A:ChA) (S:ChS) (n:Nat) (fas:List Addr) (us:List (List Nat)),vs=[.ref x]/\Z1 cW cC cB cS n H x fl A S fas/\0<n/\n<=60/\h8 H fas us/\us.length<=200/\(∀t∈us,TM.IsT n t)/\(∀x,TM.Grp n (S.chn.mv 0) x↔TM.Grp n (λz=>z∈us) x)/\(S.src=λk=>us.getD k [])/\S.ln.length<=4000000 /\
 ∀(g:Addr) (H':Hp),y2 H H'->x0 cG cC cB cS n H' g us S->Q (.ref g) H'
theorem P7:y4 ["self","group"] ["self"] (z8 U1):=scq
theorem zc0 {cW cG cC cB cS:Addr}(F:Fun K "whole" "Growth.whole" U1 f fd)(B:Blt mg)(cw:p7 K cW zm0)(cg:p7 K cG Z7)(KG:zn4 P w K mg base 7 cG "Group" ["self","many","makers"] (zi4 cG cC cB cS)):v1 P w K mg base CX0 9 f fd ["self"] (yd6 cW cG cC cB cS):=by
 refine F.ok P7 (λvs H Q E h=>?_) (λcdv Ar outer sh H vs Q E hr h=>?_)
 ·obtain⟨x,fl,A,S,n,fas,us,rfl,_⟩:=h
  rfl
 obtain⟨x,fl,A,S,n,fas,us,rfl,ga,h0,hn,hts,hfew,hT,hgrp,hsrc,hlnl,q⟩:=h
 obtain⟨dx,hx⟩:=ga.x'
 refine⟨_,z6 (x9 (i:=1) P7.nd rfl (Or.inl rfl) (J8 KG hr rfl (z0 (y6 (pv 0) rfl) (z0 (c9 z4) z4))))
  (z6 (i8 (pv 1) (u5 n5 rfl B.tuple Z5 (z0 (y6 (pv 0) rfl) z4)) rfl)
  (z6 (i8 (pv 1) (y6 (pv 0) rfl) rfl)
  (z7 (y9 (pv 1))))),?_⟩
 refine⟨_,rfl,x,cW,dx,_,_,rfl,hx,cw.cls,cw.no "many" (by decide),rfl,aV _,λl hl=>?_⟩
 have s1:=y3 hl (.lst [])
 have e1:(upd H l (.lst [])) l=some (.lst (([]:List Addr).map V.ref)):=z3
 generalize upd H l (.lst [])=H1 at s1 e1 ⊢
 refine λg dg hg hdg hne=>⟨g,dg,l,n,[],[],rfl,z3,h0,hn,?_,.nil,aV _,λt ht=>(by cases ht),λS0 H2 fr2 ga2 _=>⟨rfl,?_⟩⟩
 ·rw[z5 (y0 e1 hg),z5 (y0 e1 hdg)];exact e1
 have s2:y2 H1 H2:=λb u h=>fr2 b u (by simpa using y0 h hg) (by rw[z5 (y0 h hg),z5 (y0 h hdg)];exact h)
 have s02:=s1.trans s2
 have hg0:H g=none:=s1.free hg
 obtain⟨dx2,ma2,A2,mas2,g2,_⟩:=ga2.at'
 dsimp only[u9]
 refine⟨_,rfl,x,cW,dx,_,_,rfl,s02 _ _ hx,cw.cls,cw.no "found" (by decide),rfl,fl,_,rfl,.inl ⟨SqL.of (s02 _ _ ga.fl'),λtp htp=>?_⟩⟩
 have s3:=s02.trans (y3 htp (.tup (fas.map V.ref)))
 have e3:(upd H2 tp (.tup (fas.map V.ref))) tp=some (.tup (fas.map V.ref)):=z3
 have g3:=(y3 htp (.tup (fas.map V.ref))) _ _ g2
 generalize upd H2 tp (.tup (fas.map V.ref))=H3 at s3 e3 g3 ⊢
 refine⟨_,rfl,g,cG,dx2,_,rfl,g3,cg.cls,cg.no "makers" (by decide),by (show 3<1000;decide),?_⟩
 obtain⟨H4,k4,f4,g4⟩:=r6 (H:=H3) (x:=g) (cS:=cG) (dx:=dx2) (f:="makers") (v:=V.ref tp) (fs:=[("many",.int n),("makers",.ref ma2),("chain",.ref A2.c)]) (fs':=[("many",.int n),("makers",.ref tp),("chain",.ref A2.c)]) rfl
 rw[k4]
 have old:∀{b:Addr} {o:HO},H b=some o->b≠g:=λ{b o} h z=>by rw[z,hg0]at h;cases h
 have s4:y2 H H4:=λb o h=>f4.keep (s3 _ _ h) (old h)
 have e4:=f4.keep e3 (λz=>by rw[z,g3]at e3;cases e3)
 refine⟨_,rfl,x,cW,dx,_,_,rfl,s4 _ _ hx,cw.cls,cw.no "chain" (by decide),rfl,_,rfl,g,cG,dx2,_,rfl,g4,cg.cls,cg.no "chain" (by decide),by (show 3<1000;decide),?_⟩
 obtain⟨H5,k5,f5,g5⟩:=r6 (H:=H4) (x:=g) (cS:=cG) (dx:=dx2) (f:="chain") (v:=V.ref A.c) (fs:=[("many",.int n),("makers",.ref tp),("chain",.ref A2.c)]) (fs':=[("many",.int n),("makers",.ref tp),("chain",.ref A.c)]) rfl
 rw[k5]
 have s5:y2 H H5:=λb o h=>f5.keep (s4 _ _ h) (old h)
 exact⟨_,rfl,q g H5 s5 ⟨h0,hn,⟨dx2,tp,A,fas,g5,f5.keep e4 (λz=>by rw[z,g4]at e4;cases e4),hts.same s5,ga.ch.same s5⟩,ga.st,hfew,hT,hgrp,hsrc,hlnl⟩⟩
theorem yl6 {c:Int}{k:Nat}(hk:0<k):∃m:Nat,c % (k:Int)=(m:Int)/\m<k:=by
 have h1:=aY c (show(k:Int)≠0 by lia)
 have h2:=bv c (show(0:Int)<(k:Int) by lia)
 exact⟨(c % (k:Int)).toNat,by lia,by lia⟩
section
variable {cG cC cB cS:Addr}{n:Nat}{H:Hp}{g:Addr}{ts:List (List Nat)}{S:ChS}
end
def zv1 (cG cC cB cS:Addr):Sp:=λvs H Q _=>∃(p g:Addr) (n m:Nat) (ts us:List (List Nat)) (S S':ChS),vs=[.ref p,.ref g]/\x0 cG cC cB cS n H p ts S/\x0 cG cC cB cS m H g us S'/\∀(b:Bool) (H':Hp),y2 H H'->(b=true↔n=m/\∀t∈ts,TM.Grp m (λz=>z∈us) t)->Q (.bl b) H'
theorem zy7:y4 ["part","group"] ["part","group"] (z8 B9):=scq
open Classical in
theorem zx8 {cG cC cB cS:Addr}(D:Def K mg "is_part" B9 ["part","group"] f fd)(B:Blt mg)(cg:p7 K cG Z7)(ML:h7 P w K mg base 2 cG "lean_makers" ["self"] (yp0 cG cC cB cS))(MH:h7 P w K mg base 4 cG "has" ["self","thing"] (yo9 cG cC cB cS)):v1 P w K mg base CX0 5 f fd ["part","group"] (zv1 cG cC cB cS):=by
 refine D.F.ok zy7 (λvs H Q E h=>?_) (λcdv A outer s H vs Q E hr h=>?_)
 ·obtain⟨p,g,n,m,ts,us,S,S',rfl,_⟩:=h
  rfl
 obtain⟨p,g,n,m,ts,us,S,S',rfl,gp,gg,q⟩:=h
 obtain⟨dx,ma,Ac,mas,h1,h2,h3,h4⟩:=gp.at'
 obtain⟨dx',ma',Ac',mas',h1',h2',h3',h4'⟩:=gg.at'
 refine⟨_,z7 (y9 (M1 (l7 W2 (y6 (pv 0) rfl) (y6 (pv 1) rfl) (u3 _)) (M2 (v8 (C6 rfl) rfl B.all zw4 (z0 (i5 [1] ["maker","group"] rfl (d6 (c3 cg.cls ML hr (pv 0))) (λ_ _ _ _=>c7 cg.cls MH hr (pv 1) (z0 (pv 0) z4))) z4))))),?_⟩
 refine⟨_,rfl,p,cG,dx,_,_,rfl,h1,cg.cls,cg.no "many" (by decide),rfl,_,rfl,g,cG,dx',_,_,rfl,h1',cg.cls,cg.no "many" (by decide),rfl,rfl,_,rfl,?_⟩
 rw[p0]
 by_cases e:n=m
 ·subst e
  rw[decide_eq_true rfl]
  refine i0 ?_
  refine⟨_,rfl,p,dx,_,rfl,h1,rfl,p,n,ts,S,rfl,gp,λl as vs' H1 hl s1 hl1 hts1 hlen hvT hvG=>?_⟩
  have hal:as.length=vs'.length:=Paired.length hts1
  refine⟨l,rfl,⟨_,SqL.of hl1⟩,V7 (SqL.of hl1) ((vs'.map λt=>decide (TM.Grp n (λz=>z∈us) t)).map V.bl) (by rw[aa,aa,aa,hal]) (by rw[aa,hal];exact small (by lia)) ?_ ?_⟩
  ·intro i H' x hx s' _ _ _ _
   obtain⟨c,hc,rfl⟩:=S8 hx
   obtain⟨t,ht,hct⟩:=q9 hts1 i c hc
   have gg':=gg.same (s1.trans s')
   refine⟨_,rfl,g,dx',_,rfl,s' _ _ (s1 _ _ h1'),rfl,_,rfl,g,c,n,us,S',t,rfl,gg',s' _ _ hct,hvT t (aw ht),λb H2 s2 hb=>⟨s2,?_⟩⟩
   have eb:b=decide (TM.Grp n (λz=>z∈us) t):=by
    by_cases hg:TM.Grp n (λz=>z∈us) t
    ·rw[decide_eq_true hg];exact hb.mpr hg
    ·rw[decide_eq_false hg]
     cases b with
     | true=>exact absurd (hb.mp rfl) hg
     | false=>rfl
   rw[ag,ag,ht,eb]
   rfl
  ·intro D' H2 hD s2 hl2
   refine⟨D',_,rfl,SqL.of hl2,q _ H2 (s1.trans s2) ?_⟩
   have hus:∀u∈us,TM.IsT n u:=gg.tT
   have all:(vs'.map λt=>decide (TM.Grp n (λz=>z∈us) t)).all id=true↔∀t∈vs',TM.Grp n (λz=>z∈us) t:=by
    rw[bo]
    constructor
    ·intro h t ht
     exact of_decide_eq_true (h _ (ah.mpr ⟨t,ht,rfl⟩))
    ·intro h b hb
     obtain⟨t,ht,rfl⟩:=ah.mp hb
     exact decide_eq_true (h t ht)
   rw[all]
   constructor
   ·intro h
    exact⟨rfl,λt ht=>TM.Grp.mono hus (λz hz=>h z hz) ((hvG t).mpr (TM.Grp.of gp.tT ht))⟩
   ·rintro⟨_,h⟩ t ht
    exact TM.Grp.mono hus (λz hz=>h z hz) ((hvG t).mp (TM.Grp.of hvT ht))
 ·rw[decide_eq_false (by lia)]
  refine o5 (q false H (y2.refl _) ⟨λz=>(by cases z),λz=>absurd z.1 e⟩)
def K9 (n m:Nat)(us ts:List (List Nat)):Prop:=n=m/\∀t∈ts,TM.Grp m (λz=>z∈us) t
def D8 (X cG cC cB cS:Addr):Sp:=λvs H Q E=>∃(p g:Addr) (n m:Nat) (ts us:List (List Nat)) (S S':ChS),vs=[.ref p,.ref g]/\x0 cG cC cB cS n H p ts S/\x0 cG cC cB cS m H g us S'/\(K9 n m us ts->∀H':Hp,y2 H H'->Q .non H')/\(¬K9 n m us ts->∀H':Hp,y2 H H'->E (.ref X) none H')
theorem zq5:y4 ["part","group"] ["part","group"] (z8 M4):=scq
theorem zp3 {X TE cG cC cB cS:Addr}(D:Def K mg "need_part" M4 ["part","group"] f fd)(B:Blt mg)(KP:Known P w K mg base 5 "is_part" ["part","group"] (zv1 cG cC cB cS))(EA:yu1 K mg TE "NotPart" X):zd6 P w K mg base 6 "need_part" ["part","group"] (D8 X cG cC cB cS):=by
 refine⟨f,fd,?_,D.F.kp,D.m,D.b⟩
 refine D.F.okX zq5 (λvs H Q E h=>?_) (λcdv A outer s H vs Q E hr h=>?_)
 ·obtain⟨p,g,n,m,ts,us,S,S',rfl,_⟩:=h
  rfl
 obtain⟨p,g,n,m,ts,us,S,S',rfl,gp,gg,q1,q2⟩:=h
 refine⟨_,z7 (n6 (T2 (Z9 (u4 KP hr rfl (z0 (pv 0) (z0 (pv 1) z4))))) (z7 (yo0 EA.m EA.c PySem.F.excBase_ValueError rfl rfl (z0 zg8 z4))) u6),?_⟩
 refine⟨_,rfl,_,rfl,p,g,n,m,ts,us,S,S',rfl,gp,gg,λb H1 s1 hb=>⟨_,rfl,?_⟩⟩
 cases b with
 | true=>exact o5 (q1 (hb.mp rfl) H1 s1)
 | false=>exact i0 ⟨by decide,q2 (λz=>by cases hb.mpr z) H1 s1⟩
theorem zl5 {K:PySem.W.Frag}{xa:Addr}{xs:List Addr}{ts:List (List Nat)}{fr:List Nat}{te:CT TE}{σ:St}{H1:Hp}{Q:Addr->Hp->Prop}(F:List Nat->List Nat)(hX:H1 xa=some (.lst (xs.map V.ref)))(hl:xs.length=ts.length)(hz:xs.length<=eU)
  (turn:∀(i:Nat) H x t,xs[i]?=some x->ts[i]?=some t->y2 H1 H->∀C₀ s₀ H₀ fp,te C₀ s₀ H₀ fp (some (V.ref x)::fr.map λj=>(σ[j]?).getD none) H λv H4=>y2 H H4/\∃b:Addr,v=.ref b/\(∃t,ts[i]?=some t/\H4 b=some (.tup (tI (F t))))/\([]:List Addr).Nodup/\∀a∈([]:List Addr),H a=none/\∃o,H4 a=some o)
  (fin:∀D H as,H1 D=none->y2 H1 H->H D=some (.lst (as.map V.ref))->h8 H as (ts.map F)->Q D H) :
  ∀D,H1 D=none->∃W:Nat->Nat->St->Hp->Prop,(∃m,W 0 m (P5 1 fr σ) (upd H1 D (.lst [])))/\∀i m σ' H',W i m σ' H' ->
  ((Itl K xa).stop i H'/\Q D H')∨((Itl K xa).go i H'/\∀x H2,(Itl K xa).yld i H' x H2->∀C₀ s₀ H₀ fp,u9 0 x σ' H2 λσ3 H3=>∃N:VK,te C₀ s₀ H₀ fp σ3 H3 N/\∀y H4,N y H4 ->
   ∃ys m',H4 D=some (.lst ys)/\ys.length<eU/\m'<m/\W (i+1) m' σ3 (upd H4 D (.lst (ys++[y])))):=by
 refine zs3 (J:=Itl K xa) (λb:Addr=>b) (λ_=>[]) (λH i b=>∃t,ts[i]?=some t/\H b=some (.tup (tI (F t)))) (n:=xs.length) hz (λH3 H4 D' ys i b ⟨t,h1,h2⟩ hD fr _=>⟨t,h1,fr _ _ (λz=>?_) h2⟩) (λH s=>⟨_,SqL.of (s _ _ hX),by rw[aa];exact aq _⟩) (λi H hi s=>⟨_,_,SqL.of (s _ _ hX),ac (by rw[aa];exact hi)⟩) ?_ ?_
 ·rw[ae.mp z,hD]at h2
  cases h2
 ·rintro i Hx v Hy hi sx ⟨rfl,hy⟩
  have hv:=hy _ (SqL.of (sx _ _ hX))
  obtain⟨x,hx,rfl⟩:=S8 hv
  obtain⟨t,ht⟩:∃t,ts[i]?=some t:=⟨_,ac (by lia)⟩
  refine⟨rfl,λC₀ s₀ H₀ fp=>?_⟩
  exact turn i Hy x t hx ht sx C₀ s₀ H₀ fp
 ·intro D H as hD s hDl hl2 hR _ _
  refine fin D H as hD s hDl (zm5 (by rw[aa];lia) λi a u ha hu=>?_)
  obtain⟨t,ht,hat⟩:=hR i a ha
  rw[ag,ht]at hu
  cases hu
  exact hat
theorem w6.nt {cC cB cS:Addr}{n:Nat}{H:Hp}{A:ChA}{S:ChS}(ch:w6 cC cB cS n H A S){a:Addr}(ha:a∈A.all):∃o,H a=some o/\∀xs,o≠.tup xs:=by
 unfold ChA.all at ha
 rcases aB.mp ha with h|h
 ·obtain⟨dx,hc⟩:=ch.c
  obtain⟨dxb,hb⟩:=ch.bk.b
  obtain⟨as,hll,_⟩:=ch.bk.ll
  obtain⟨as',hlm,_⟩:=ch.bk.lm
  simp only[au,aH,or_false]at h
  rcases h with rfl|rfl|rfl|rfl|rfl|rfl
  ·exact⟨_,hc,λxs z=>(by cases z)⟩
  ·exact⟨_,hb,λxs z=>(by cases z)⟩
  ·exact⟨_,hll,λxs z=>(by cases z)⟩
  ·exact⟨_,hlm,λxs z=>(by cases z)⟩
  ·exact⟨_,ch.bk.d,λxs z=>(by cases z)⟩
  ·exact⟨_,ch.l,λxs z=>(by cases z)⟩
 ·obtain⟨l,hl,hal⟩:=bF.mp h
  obtain⟨s,hs,rfl⟩:=ah.mp hl
  obtain⟨i,hi⟩:=bz hs
  have hil:i<S.st.length:=by
   have:=(ap.mp hi).1
   rw[ch.len.2,←ch.len.1]
   exact this
  have st:=ch.st i s _ hi (ac hil)
  obtain⟨dxa,h1⟩:=st.a
  obtain⟨bs,h2,_⟩:=st.bf
  obtain⟨ws,h3,_⟩:=st.w
  unfold StA.all at hal
  simp only[au,aH,or_false]at hal
  rcases hal with rfl|rfl|rfl|rfl|rfl
  ·exact⟨_,h1,λxs z=>(by cases z)⟩
  ·exact⟨_,st.m,λxs z=>(by cases z)⟩
  ·exact⟨_,st.lt,λxs z=>(by cases z)⟩
  ·exact⟨_,h2,λxs z=>(by cases z)⟩
  ·exact⟨_,h3,λxs z=>(by cases z)⟩
theorem x0.lean_facts {cG cC cB cS:Addr}{n:Nat}{H:Hp}{g:Addr}{us:List (List Nat)}{S:ChS}(ga:x0 cG cC cB cS n H g us S):(∀u∈S.lean0,TM.IsT n u)/\TM.Indep n S.lean0/\∀x,TM.Grp n (λz=>z∈S.lean0) x↔TM.Grp n (λz=>z∈us) x:=by
 have hmv:∀s,S.chn.mv 0 s↔s∈S.lean0:=λs=>⟨λ⟨k,hk,e⟩=>ah.mpr ⟨k,hk,e⟩,λh=>by
  obtain⟨k,hk,e⟩:=ah.mp h
  exact⟨k,hk,e⟩⟩
 refine⟨λu hu=>ga.st.inv.ok.mvT 0 u ((hmv u).mpr hu),ga.st.inv.ind 0,λx=>?_⟩
 rw[←show S.chn.mv 0=λz=>z∈S.lean0 from funext λs=>propext (hmv s)]
 exact ga.grp x
theorem zc9 {n:Nat}{S:ChS}(st:S.Set n):∃L:List (List Nat),L.Nodup/\(∀x,x∈L↔TM.Grp n (S.chn.mv 0) x)/\L.length=S.chn.many n n:=by
 have:=st.inv.ok.all n (aq n) λj _ hj=>st.inv.shut (st.done j hj)
 rwa [bD]at this
theorem W3 {α β:Type}{F:α->β->Prop}:∀{as:List α} {ws:List β} {t:β},Paired F as (ws++[t])->∃as' a,as=as'++[a]/\Paired F as' ws/\F a t
 | _,[],t,.cons h .nil=>⟨[],_,rfl,.nil,h⟩
 | _,w::ws,t,.cons h r=>by
  obtain⟨as',a,e,r',h'⟩:=W3 r
  exact⟨_::as',a,by rw[e];rfl,.cons h r',h'⟩
theorem h8.frame {F:List Addr}{H H':Hp}{as:List Addr}{ts:List (List Nat)}(h:h8 H as ts)(fr:y1 F H H')(hF:∀a∈F,∀xs,H a≠some (.tup xs)):h8 H' as ts:=Paired.imp' (λb t e=>fr b _ (λz=>hF b z _ e) e) h
theorem Z1.keep {cW cC cB cS:Addr}{n:Nat}{H H':Hp}{x fl wl:Addr}{A:ChA}{S:ChS}{fas:List Addr}{xs:List V}(ga:Z1 cW cC cB cS n H x fl A S fas)(fr:y1 [wl] H H')(hw:H wl=some (.lst xs))(hf:wl≠fl)(hA:wl∉A.all):Z1 cW cC cB cS n H' x fl A S fas:=by
 obtain⟨dx,hx⟩:=ga.x'
 refine⟨⟨dx,fr.keep hx (λz=>by rw[z,hw]at hx;cases hx)⟩,fr.keep ga.fl' (Ne.symm hf),ga.ch.keep fr λy hy=>?_,ga.xA,ga.flA,ga.st⟩
 rw[ae.mp hy]
 exact⟨hA,λxs z=>by rw[hw]at z;cases z⟩
theorem Z1.same {cW cC cB cS:Addr}{n:Nat}{H H':Hp}{x fl:Addr}{A:ChA}{S:ChS}{fas:List Addr}(ga:Z1 cW cC cB cS n H x fl A S fas)(s:y2 H H'):Z1 cW cC cB cS n H' x fl A S fas:=by
 obtain⟨dx,hx⟩:=ga.x'
 exact⟨⟨dx,s _ _ hx⟩,s _ _ ga.fl',ga.ch.same s,ga.xA,ga.flA,ga.st⟩
def zb3 (cG cC cB cS:Addr):Sp:=λvs H Q _=>∃(g la:Addr) (n:Nat) (us:List (List Nat)) (S:ChS) (tas:List Addr) (ts:List (List Nat)),vs=[.ref g,.ref la]/\x0 cG cC cB cS n H g us S/\H la=some (.lst (tas.map V.ref))/\h8 H tas ts/\ts.length<=500/\(∀t∈ts,TM.Grp n (λz=>z∈us) t)/\S.chn.many n n<8192 /\
 ∀(g':Addr) (f:List (List Nat)) (S':ChS) (H':Hp),y2 H H'->x0 cG cC cB cS n H' g' f S'->(∀x,TM.Grp n (λz=>z∈f) x↔TM.NC n us ts x)->Q (.ref g') H'
theorem W1:y4 ["group","turnings","growth","waiting","turning"] ["group","turnings"] (z8 P2):=scq
theorem zk2 {cW cG cC cB cS:Addr}(D:Def K mg "least_kept" P2 ["group","turnings"] f fd)(B:Blt mg)(cg:p7 K cG Z7)(cw:p7 K cW zm0)(KW:zn4 P w K mg base 6 cW "Growth" ["self","many"] (yd3 cW cC cB cS))(MGT:h7 P w K mg base 7 cW "take" ["self","turning"] (yd5 cW cC cB cS))(MGS:h7 P w K mg base 2 cW "size" ["self"] (yd4 cW cC cB cS))(MGW:h7 P w K mg base 9 cW "whole" ["self"] (yd6 cW cG cC cB cS))(MS:h7 P w K mg base 2 cG "size" ["self"] (L9 cG cC cB cS))(ML:h7 P w K mg base 2 cG "lean_makers" ["self"] (zd3 cG cC cB cS))(KU:Known P w K mg base 1 "turned" ["one","by"] (zv4 K)):v1 P w K mg base CX0 10 f fd ["group","turnings"] (zb3 cG cC cB cS):=by
 refine D.F.ok W1 (λvs H Q E h=>?_) (λcdv Ar outer sh H vs Q E hr h=>?_)
 ·obtain⟨g,la,n,us,S,tas,ts,rfl,_⟩:=h
  rfl
 obtain⟨g,la,n,us,S,tas,ts,rfl,gg,hla,hts,htl,hP,hsz,q⟩:=h
 obtain⟨dxg,ma,Ag,mas,hg1,_⟩:=gg.at'
 have h0:=gg.n0
 have hn:=gg.n60
 have hU:=gg.tT
 have hT:∀t∈ts,TM.IsT n t:=λt ht=>(hP t ht).isT hU
 obtain⟨hM,hMi,hMU⟩:=gg.lean_facts
 obtain⟨LU,hLU,mU0,lU⟩:=zc9 gg.st
 have mU:∀x,x∈LU↔TM.Grp n (λz=>z∈us) x:=λx=>(mU0 x).trans (gg.grp x)
 have hMl:S.lean0.length<13:=TM.indep_log hM hMi hU (λt ht=>(hMU t).mp (TM.Grp.of hM ht)) mU (by rw[lU];exact hsz)
 refine⟨_,z6 (x9 (i:=2) W1.nd rfl (Or.inl rfl) (J8 KW hr rfl (z0 (y6 (pv 0) rfl) z4)))
  (z6 (x9 (i:=3) W1.nd rfl (Or.inl rfl) (u5 V3 rfl B.list X5 (z0 (pv 1) z4)))
  (z6 (S7 PassesOwn.never (PW.pt (yy8 (p6 yn1 (v8 u7 rfl B.len Y8 (z0 (pv 3) z4)) z9 (u3 _)) (yt2 (p6 yn3 (c3 cw.cls MGS hr (pv 2)) (c3 cg.cls MS hr (pv 0)) (u3 _)))))
   (z6 (x9 (i:=4) W1.nd rfl (Or.inr rfl) (yy4 PySem.F.plainAttrs_list PySem.F.slot_list_pop PySem.F.type_list_pop yx5 (pv 3)))
   (z7 (n6 (Z9 (c7 cw.cls MGT hr (pv 2) (z0 (pv 4) z4))) (z7 (p5 (U8 PySem.F.plainAttrs_list PySem.F.slot_list_extend PySem.F.type_list_extend L5 (pv 3) (z0 (i5 [4] ["maker","turning"] rfl (d6 (c3 cg.cls ML hr (pv 0))) (λ_ _ _ _=>u4 KU hr rfl (z0 (pv 1) (z0 (pv 0) z4)))) z4)))) u6))))
  (z7 (y9 (c3 cw.cls MGW hr (pv 2)))))),?_⟩
 refine⟨_,rfl,g,cG,dxg,_,_,rfl,hg1,cg.cls,cg.no "many" (by decide),rfl,λx dx hx hdx hne=>⟨x,dx,n,rfl,z3,hn,λfl A H1 hfl0 hall0 fr1 ga1=>⟨rfl,?_⟩⟩⟩
 have old:∀{b:Addr} {o:HO},H b=some o->b≠x/\b≠dx:=λ{b o} h=>⟨y0 h hx,y0 h hdx⟩
 have s1:y2 H H1:=λb o h=>fr1 b o (by simpa using(old h).1) (by rw[z5 (old h).1,z5 (old h).2];exact h)
 have hfl:∀{o:HO},H fl≠some o:=λ{o} h=>by
  rw[z5 (old h).1,z5 (old h).2,h]at hfl0
  cases hfl0
 have hall:∀a∈A.all,∀o,H a≠some o:=λa ha o h=>by
  have:=hall0 a ha
  rw[z5 (old h).1,z5 (old h).2,h]at this
  cases this
 dsimp only[u9]
 refine⟨_,rfl,la,_,rfl,.inl (SqL.of (s1 _ _ hla)),λwl hwl=>?_⟩
 dsimp only[u9]
 have hwl0:H wl=none:=s1.free hwl
 have s2:=y3 hwl (.lst (tas.map V.ref))
 have e2:(upd H1 wl (.lst (tas.map V.ref))) wl=some (.lst (tas.map V.ref)):=z3
 generalize upd H1 wl (.lst (tas.map V.ref))=H2 at s2 e2 ⊢
 have s02:=s1.trans s2
 have wA:wl∉A.all:=λz=>by
  obtain⟨o,ho,_⟩:=(ga1 (λ_=>[])).ch.nt z
  rw[hwl]at ho
  cases ho
 have wf:wl≠fl:=λz=>by
  have:=(ga1 (λ_=>[])).fl'
  rw[←z,hwl]at this
  cases this
 have hFold:∀{b:Addr} {o:HO},H b=some o->b∉fl::A.all:=λ{b o} h z=>by
  rcases au.mp z with e|e
  ·rw[e]at h;exact hfl h
  ·exact hall b e o h
 obtain⟨M0,hM0⟩:∃M0,M0=13*20+ts.length:=⟨_,rfl⟩
 obtain⟨FIN,hFIN⟩:∃F,F=TM.lkRun n S.lean0 (λf=>¬TM.gMany n (TM.Grp n λz=>z∈f) n<S.chn.many n n) M0 ts []:=⟨_,rfl⟩
 have many_f:∀{S1:ChS} {f:List (List Nat)},S1.Set n->(∀y,TM.Grp n (S1.chn.mv 0) y↔TM.Grp n (λz=>z∈f) y)->S1.chn.many n n=TM.gMany n (TM.Grp n λz=>z∈f) n:=λst hg=>st.inv.ok.many_g (λi hi=>st.inv.shut (st.done i hi)) hg n (aq _)
 refine⟨λm σ H4=>∃(S1:ChS) (fas was:List Addr) (f w:List (List Nat)) (i:Nat) (v4:Option V),σ=[some (.ref g),some (.ref la),some (.ref x),some (.ref wl),v4]/\y2 H H4/\Z1 cW cC cB cS n H4 x fl A S1 fas/\h8 H4 fas f/\H4 wl=some (.lst (was.map V.ref))/\h8 H4 was w/\S1.Full (1+i)/\i+m=M0/\(13-f.length)*20+w.length<=m/\TM.LkI n us S.lean0 ts w f/\TM.lkRun n S.lean0 (λf=>¬TM.gMany n (TM.Grp n λz=>z∈f) n<S.chn.many n n) m w f=FIN/\(S1.src=λj=>FIN.getD j [])/\∀y,TM.Grp n (S1.chn.mv 0) y↔TM.Grp n (λz=>z∈f) y,
  ⟨M0,ChS.new n (λj=>FIN.getD j []),[],tas,[],ts,0,none,rfl,s02,(ga1 _).same s2,.nil,e2,hts.same s02,⟨by show 1<=_;lia,by show 1<=_;lia⟩,by lia,by show(13-0)*20+ts.length<=M0;lia,TM.LkI.start hU hT,hFIN.symm,rfl,λy=>?_⟩,?_⟩
 ·have hno:∀s,(ChS.new n (λj=>FIN.getD j [])).chn.mv 0 s↔s∈([]:List (List Nat)):=λs=>⟨λh=>absurd h (ChS.new_nomv n 0 s),λh=>by cases h⟩
  rw[show(ChS.new n (λj=>FIN.getD j [])).chn.mv 0=λz=>z∈([]:List (List Nat)) from funext λs=>propext (hno s)]
 rintro m σ H4 ⟨S1,fas,was,f,w,i,v4,rfl,s4,ga4,hf4,hw4,hwas,full,him,hmeas,lk,run,src,grp⟩
 have hwl4:was.length=w.length:=Paired.length hwas
 have hfl4:fas.length=f.length:=Paired.length hf4
 obtain⟨dx4,hx4⟩:=ga4.x'
 have fin:∀t∈f,TM.Grp n (λz=>z∈us) t:=λt ht=>TM.nc_in hU hT hP (lk.fN t ht)
 have hfl13:f.length<13:=TM.indep_log lk.fT lk.ind hU fin mU (by rw[lU];exact hsz)
 have mf:=many_f ga4.st grp
 have close:(w=[]∨¬TM.gMany n (TM.Grp n λz=>z∈f) n<S.chn.many n n)->∀(g':Addr) (H':Hp),y2 H4 H'->x0 cG cC cB cS n H' g' f S1->Q (.ref g') H':=λhend g' H' s' gg'=>by
  refine q g' f S1 H' (s4.trans s') gg' ?_
  rcases hend with e|e
  ·subst e
   exact lk.done hU hT hM hMU
  ·obtain⟨LF,hLF,mF0,lF⟩:=zc9 ga4.st
   exact lk.full hU hT hP (TM.all_of_many hU fin hLF (λx=>(mF0 x).trans (grp x)) hLU mU (by rw[lF,lU,mf];lia))
 have whole:(w=[]∨¬TM.gMany n (TM.Grp n λz=>z∈f) n<S.chn.many n n)->∃(x' fl':Addr) (A':ChA) (S':ChS) (n':Nat) (fas':List Addr) (us':List (List Nat)),[V.ref x]=[.ref x']/\Z1 cW cC cB cS n' H4 x' fl' A' S' fas'/\0<n'/\n'<=60/\h8 H4 fas' us'/\us'.length<=200/\(∀t∈us',TM.IsT n' t)/\(∀x,TM.Grp n' (S'.chn.mv 0) x↔TM.Grp n' (λz=>z∈us') x)/\(S'.src=λk=>us'.getD k [])/\S'.ln.length<=4000000/\∀(g:Addr) (H':Hp),y2 H4 H'->x0 cG cC cB cS n' H' g us' S'->Q (.ref g) H':=λhend=>by
  have ef:FIN=f:=by rw[←run];exact TM.lkRun_end hend m
  refine⟨x,fl,A,S1,n,fas,f,rfl,ga4,h0,hn,hf4,by lia,lk.fT,grp,by rw[src,ef],?_,close hend⟩
  have q1:=full.ln
  have q2:=ga4.st.inv.looks_le hn
  lia
 have gg4:=gg.same s4
 obtain⟨dxg4,ma4,Ag4,mas4,hg4,_⟩:=gg4.at'
 refine⟨_,rfl,wl,_,rfl,.inl (SqL.of hw4),_,_,rfl,rfl,_,rfl,?_⟩
 by_cases hw0:w=[]
 ·have:¬(((was.map V.ref).length:Nat):Int) > 0:=by rw[aa,hwl4,hw0];decide
  rw[decide_eq_false this]
  refine o5 ?_
  exact⟨_,rfl,x,dx4,_,rfl,hx4,rfl,whole (.inl hw0)⟩
 have hpos:0<w.length:=List.length_pos_iff.mpr hw0
 rw[decide_eq_true (show(((was.map V.ref).length:Nat):Int) > 0 by rw[aa,hwl4];lia)]
 refine i0 ?_
 refine⟨_,rfl,x,dx4,_,rfl,hx4,rfl,x,fl,A,S1,n,fas,rfl,ga4,hn,_,rfl,g,dxg4,_,rfl,hg4,rfl,g,n,us,S,rfl,gg4,_,_,rfl,rfl,_,rfl,?_⟩
 by_cases hst:S1.chn.many n n<S.chn.many n n
 case neg =>
  rw[decide_eq_false (by lia)]
  refine o5 ?_
  exact⟨_,rfl,x,dx4,_,rfl,hx4,rfl,whole (.inr (by rw[←mf];exact hst))⟩
 rw[decide_eq_true (by lia)]
 refine i0 ⟨_,λσ' H' z=>z,?_⟩
 rw[mf]at hst
 obtain⟨w',t,ew⟩:∃w' t,w=w'++[t]:=⟨w.dropLast,w.getLast hw0,(dz hw0).symm⟩
 subst ew
 obtain⟨was',tr,ewas,hwas',htr⟩:=W3 hwas
 subst ewas
 replace hw4:H4 wl=some (.lst (was'.map V.ref++[V.ref tr])):=by rw[hw4,aF];rfl
 have hwl':was'.length=w'.length:=Paired.length hwas'
 rw[af,aR]at hmeas
 obtain⟨k,rfl⟩:∃k,m=k+1:=⟨m-1,by lia⟩
 have lastv:(was'.map V.ref++[V.ref tr])[(was'.map V.ref++[V.ref tr]).length-1]?=some (V.ref tr):=by
  rw[af,aR,Nat.add_sub_cancel,aN (aq _),bD]
  rfl
 refine⟨_,rfl,.inl ⟨rfl,_,SqL.of hw4⟩,wl,_,_,rfl,rfl,hw4,lastv,?_⟩
 dsimp only[u9]
 rw[show(was'.map V.ref++[V.ref tr]).dropLast=was'.map V.ref from cU]
 have fr5:y1 [wl] H4 (upd H4 wl (.lst (was'.map V.ref))):=y1.upd y1.refl (by simp) _
 have e5:(upd H4 wl (.lst (was'.map V.ref))) wl=some (.lst (was'.map V.ref)):=z3
 generalize upd H4 wl (.lst (was'.map V.ref))=H5 at fr5 e5 ⊢
 have oldw:∀{b:Addr} {o:HO},H b=some o->b≠wl:=λ{b o} h=>y0 h hwl0
 have s5:y2 H H5:=λb o h=>fr5.keep (s4 _ _ h) (oldw h)
 have ga5:=ga4.keep fr5 hw4 wf wA
 have nw:∀a∈[wl],∀xs,H4 a≠some (.tup xs):=λa ha xs z=>by rw[ae.mp ha,hw4]at z;cases z
 have hf5:=hf4.frame fr5 nw
 have hwas5:=h8.frame hwas' fr5 nw
 have htr5:=fr5.keep htr (λz=>by rw[z,hw4]at htr;cases htr)
 have tT:=lk.wT t (by simp)
 have nA5:∀a∈fl::A.all,∀xs,H5 a≠some (.tup xs):=λa ha xs z=>by
  rcases au.mp ha with e|e
  ·rw[e,ga5.fl']at z;cases z
  ·obtain⟨o,ho,hno⟩:=ga5.ch.nt e
   rw[ho]at z
   exact hno xs (Option.some.inj z)
 obtain⟨dx5,hx5⟩:=ga5.x'
 refine⟨_,rfl,x,dx5,_,rfl,hx5,rfl,_,rfl,x,fl,tr,A,S1,n,1+i,fas,t,rfl,ga5,h0,hn,by lia,full,by lia,htr5,tT,λz=>nA5 tr (av _ z) _ htr5,(λhng=>?_),λb S2 H6 src6 fr6 ga6 full6 grp6 hb=>?_⟩
 ·have hg:¬TM.Grp n (λz=>z∈f) t:=λz=>hng ((grp t).mpr z)
  rw[TM.lkRun_new (λz=>z hst) hg]at run
  obtain⟨l,el⟩:=TM.lkRun_pre (n:=n) (ms:=S.lean0) (stop:=λf=>¬TM.gMany n (TM.Grp n λz=>z∈f) n<S.chn.many n n) k (w'++S.lean0.map λm=>TM.cj n m t) (f++[t])
  rw[el]at run
  rw[src,hfl4,←run]
  show((f++[t])++l).getD f.length []=t
  rw[ao,cH,aN (aq _),bD]
  rfl
 have wF:wl∉fl::A.all:=λz=>by
  rcases au.mp z with e|e
  ·exact wf e
  ·exact wA e
 have s6:y2 H H6:=λb o h=>fr6 b o (hFold h) (s5 _ _ h)
 have e6:=fr6 _ _ wF e5
 have hf6:=hf5.frame fr6 nA5
 have hwas6:=hwas5.frame fr6 nA5
 have htr6:=fr6 _ _ (λz=>nA5 tr z _ htr5) htr5
 have src2:S2.src=λj=>FIN.getD j []:=src6.trans src
 refine⟨_,rfl,?_⟩
 cases b with
 | false =>
  refine o5 ?_
  have hg:TM.Grp n (λz=>z∈f) t:=(grp t).mp (hb.mp rfl)
  rw[TM.lkRun_old (λz=>z hst) hg]at run
  refine⟨k,by lia,S2,fas,was',f,w',i+1,_,rfl,s6,ga6,hf6,e6,hwas6,full6,by lia,by lia,lk.old hg,run,src2,λy=>?_⟩
  rw[grp6 y,zf3 (S:=S1.chn.mv 0) (S':=λz=>z∈f) (ga4.st.inv.ok.mvT 0) lk.fT tT grp y]
  exact⟨λh=>TM.Grp.mono lk.fT (λs hs=>hs.elim (λz=>TM.Grp.of lk.fT z) λz=>by rw[z];exact hg) h,λh=>TM.Grp.mono (λs hs=>hs.elim (lk.fT s) λz=>by rw[z];exact tT) (λs hs=>TM.Grp.of (λs hs=>hs.elim (lk.fT s) λz=>by rw[z];exact tT) (.inl hs)) h⟩
 | true =>
  refine i0 ?_
  have hg:¬TM.Grp n (λz=>z∈f) t:=λz=>by cases hb.mpr ((grp t).mpr z)
  rw[TM.lkRun_new (λz=>z hst) hg]at run
  have lk2:=lk.new hU hT hM hMU hg
  have fl2:(f++[t]).length<13:=TM.indep_log lk2.fT lk2.ind hU (λs hs=>TM.nc_in hU hT hP (lk2.fN s hs)) mU (by rw[lU];exact hsz)
  rw[af,aR]at fl2
  have gg6:=gg.same s6
  obtain⟨dxg6,ma6,Ag6,mas6,hg6,_⟩:=gg6.at'
  refine⟨_,rfl,.inl ⟨rfl,_,SqL.of e6⟩,_,rfl,g,dxg6,_,rfl,hg6,rfl,g,n,us,S,rfl,gg6,λl mas7 H7 hl s7 hl7 hm7 _ _ _ _=>?_⟩
  have hml7:mas7.length=S.lean0.length:=Paired.length hm7
  refine⟨l,rfl,⟨_,SqL.of hl7⟩,zl5 (ts:=S.lean0) (λm=>TM.cj n m t) hl7 hml7 (small (by lia)) ?_ ?_⟩
  ·intro j H8 y m hy hm s8 _ _ _ _
   obtain⟨m',hm',hym⟩:=q9 (hm7.same s8) j y hy
   rw[hm]at hm'
   cases hm'
   have mT:=hM m (aw hm)
   refine⟨_,rfl,_,rfl,tr,y,n,t,m,rfl,SqT.of ((s7.trans s8) _ _ htr6),SqT.of hym,tT,mT,by lia,λr H9 c _ s9 hc hr9=>⟨s9,r,rfl,⟨m,hm,?_⟩,bZ,λa ha=>(by cases ha)⟩⟩
   rw[TM.cj_conj tT mT hc]at hr9
   exact hr9
  intro ld H8 das hld s8 hld8 hdas
  have s68:=s7.trans s8
  have e8:=s68 _ _ e6
  refine⟨wl,ld,_,_,rfl,rfl,e8,hld8,?_,?_⟩
  ·rw[aa,aa,Paired.length hdas,aa,hwl']
   exact small (by lia)
  have fr9:y1 [wl] H8 (upd H8 wl (.lst (was'.map V.ref++das.map V.ref))):=y1.upd y1.refl (by simp) _
  have e9:(upd H8 wl (.lst (was'.map V.ref++das.map V.ref))) wl=some (.lst ((was'++das).map V.ref)):=by rw[z3,aF]
  generalize upd H8 wl (.lst (was'.map V.ref++das.map V.ref))=H9 at fr9 e9 ⊢
  have nw8:∀a∈[wl],∀xs,H8 a≠some (.tup xs):=λa ha xs z=>by rw[ae.mp ha,e8]at z;cases z
  have s9:y2 H H9:=λb o h=>fr9.keep (s68 _ _ (s6 _ _ h)) (oldw h)
  have ga6':Z1 cW cC cB cS n H6 x fl A S2 (fas++[tr]):=ga6
  have app:h8 H9 (was'++das) (w'++S.lean0.map λm=>TM.cj n m t):=X0 (h8.frame (hwas6.same s68) fr9 nw8) (h8.frame hdas fr9 nw8)
  refine⟨k,by lia,S2,fas++[tr],was'++das,f++[t],w'++S.lean0.map λm=>TM.cj n m t,i+1,_,rfl,s9,(ga6'.same s68).keep fr9 e8 wf wA,Paired.snoc ((hf6.same s68).frame fr9 nw8) (fr9.keep (s68 _ _ htr6) (λz=>by rw[z,e6]at htr6;cases htr6)),e9,app,full6,by lia,?_,lk2,run,src2,λy=>?_⟩
  ·rw[af,af,aR,aa]
   lia
  ·rw[grp6 y,zf3 (S:=S1.chn.mv 0) (S':=λz=>z∈f) (ga4.st.inv.ok.mvT 0) lk.fT tT grp y]
   have:(λz=>z∈f∨z=t)=λz=>z∈f++[t]:=funext λz=>propext (by rw[aB,ae])
   rw[this]
def yu9 (K:W.Frag):Sp:=λvs H Q _=>∃(a b:Addr) (n:Nat) (s t:List Nat),vs=[.ref a,.ref b]/\H a=some (.tup (tI s))/\H b=some (.tup (tI t))/\TM.IsT n s/\TM.IsT n t/\n<=60/\∀(r:Addr) (H':Hp),H r=none->y2 H H'->H' r=some (.tup (tI (TM.mx n s t)))->Q (.ref r) H'
theorem yz2:y4 ["one","other"] ["one","other"] (z8 yo6):=scq
theorem yx8 (D:Def K mg "mix" yo6 ["one","other"] f fd)(B:Blt mg)(KB:Known P w K mg base 1 "behind" ["one","other"] (M8 K))(KK:Known P w K mg base 1 "back" ["one"] (zq8 K)):v1 P w K mg base CX0 2 f fd ["one","other"] (yu9 K):=by
 refine D.F.ok yz2 (λvs H Q E h=>?_) (λcdv A outer s H vs Q E hr h=>?_)
 ·obtain⟨a,b,n,s,t,rfl,_⟩:=h
  rfl
 obtain⟨a,b,n,s,t,rfl,ha,hb,sT,tT,hn,q⟩:=h
 refine⟨_,z7 (y9 (u4 KB hr rfl (z0 (u4 KB hr rfl (z0 (u4 KK hr rfl (z0 (pv 0) z4)) (z0 (u4 KK hr rfl (z0 (pv 1) z4)) z4))) (z0 (u4 KB hr rfl (z0 (pv 0) (z0 (pv 1) z4))) z4)))),?_⟩
 have lt:∀{x y:List Nat},TM.IsT n x->TM.IsT n y->∀z∈x,z<y.length:=λhx hy z hz=>by rw[hy.length];exact hx.lt hz
 have ln:∀{x:List Nat},TM.IsT n x->x.length<=1000:=λhx=>by rw[hx.length];lia
 refine⟨_,rfl,a,n,s,rfl,SqT.of ha,sT,by lia,λr1 H1 b1 hr1 s1 k1 e1=>?_⟩
 obtain rfl:=k1.uniq sT (TM.bk_back sT)
 refine⟨_,rfl,b,n,t,rfl,SqT.of (s1 _ _ hb),tT,by lia,λr2 H2 b2 hr2 s2 k2 e2=>?_⟩
 obtain rfl:=k2.uniq tT (TM.bk_back tT)
 refine⟨r1,r2,_,_,rfl,SqT.of (s2 _ _ e1),SqT.of e2,ln sT.bk,lt sT.bk tT.bk,λr3 H3 hr3 s3 e3=>?_⟩
 refine⟨_,rfl,_,rfl,a,b,s,t,rfl,SqT.of ((s1.trans (s2.trans s3)) _ _ ha),SqT.of ((s1.trans (s2.trans s3)) _ _ hb),ln sT,lt sT tT,λr4 H4 hr4 s4 e4=>?_⟩
 have s04:=s1.trans (s2.trans (s3.trans s4))
 refine⟨r3,r4,_,_,rfl,SqT.of (s4 _ _ e3),SqT.of e4,ln (sT.bk.beh tT.bk),lt (sT.bk.beh tT.bk) (sT.beh tT),λr5 H5 hr5 s5 e5=>?_⟩
 exact q r5 H5 (s04.free hr5) (s04.trans s5) e5
def zm9 (X cG cC cB cS:Addr):Sp:=λvs H Q E=>∃(g p:Addr) (n m:Nat) (ts us:List (List Nat)) (S S':ChS),vs=[.ref g,.ref p]/\x0 cG cC cB cS n H p ts S/\x0 cG cC cB cS m H g us S'/\S'.chn.many m m<8192/\(K9 n m us ts->∀(g':Addr) (f:List (List Nat)) (S2:ChS) (H':Hp),y2 H H'->x0 cG cC cB cS m H' g' f S2->(∀x,TM.Grp m (λz=>z∈f) x↔TM.NC m us (TM.mxs m us ts) x)->Q (.ref g') H')/\(¬K9 n m us ts->∀H':Hp,y2 H H'->E (.ref X) none H')
theorem zi0:y4 ["group","part","mixes","maker"] ["group","part"] (z8 zq2):=scq
theorem ym9 {X cG cC cB cS:Addr}(D:Def K mg "mixed" zq2 ["group","part"] f fd)(B:Blt mg)(cg:p7 K cG Z7)(ML:h7 P w K mg base 2 cG "lean_makers" ["self"] (zd3 cG cC cB cS))(KN:zd6 P w K mg base 6 "need_part" ["part","group"] (D8 X cG cC cB cS))(KL:Known P w K mg base 10 "least_kept" ["group","turnings"] (zb3 cG cC cB cS))(KM:Known P w K mg base 2 "mix" ["one","other"] (yu9 K)):zd6 P w K mg base 11 "mixed" ["group","part"] (zm9 X cG cC cB cS):=by
 refine⟨f,fd,?_,D.F.kp,D.m,D.b⟩
 refine D.F.okX zi0 (λvs H Q E h=>?_) (λcdv A outer s H vs Q E hr h=>?_)
 ·obtain⟨g,p,n,m,ts,us,S,S',rfl,_⟩:=h
  rfl
 obtain⟨g,p,n,m,ts,us,S,S',rfl,gp,gg,hsz,q1,q2⟩:=h
 refine⟨_,z6 (p5 (yy5 KN hr rfl (z0 (pv 1) (z0 (pv 0) z4))))
  (z6 (x9 (i:=2) zi0.nd rfl (Or.inl rfl) (c9 z4))
  (z6 (yt0 rfl (d6 (c3 cg.cls ML hr (pv 0))) (k8 (i:=3) zi0.nd rfl (Or.inr rfl))
   (z7 (p5 (U8 PySem.F.plainAttrs_list PySem.F.slot_list_extend PySem.F.type_list_extend L5 (pv 2) (z0 (i5 [3] ["other","maker"] rfl (d6 (c3 cg.cls ML hr (pv 1))) (λ_ _ _ _=>u4 KM hr rfl (z0 (pv 1) (z0 (pv 0) z4)))) z4)))))
  (z7 (y9 (u4 KL hr rfl (z0 (pv 0) (z0 (pv 2) z4))))))),?_⟩
 refine⟨_,rfl,_,rfl,p,g,n,m,ts,us,S,S',rfl,gp,gg,λhP H0 s0=>?_,q2⟩
 obtain rfl:n=m:=hP.1
 have gp0:=gp.same s0
 have gg0:=gg.same s0
 refine⟨(by show 0<=eU;decide),λgl hgl=>?_⟩
 have s1:=y3 hgl (.lst [])
 have g1:(upd H0 gl (.lst [])) gl=some (.lst (([]:List Addr).map V.ref)):=z3
 generalize upd H0 gl (.lst [])=H1 at s1 g1 ⊢
 dsimp only[u9]
 have gg1:=gg0.same s1
 obtain⟨dx,ma,Ac,mas,h1,_⟩:=gg1.at'
 refine⟨_,rfl,g,dx,_,rfl,h1,rfl,g,n,us,S',rfl,gg1,λl as H2 hl s2 hl2 hts2 hlen hInd hvT hvG=>?_⟩
 have g2:=s2 _ _ g1
 obtain⟨LU,nU,mU0,lU⟩:=zc9 gg.st
 have mU:∀x,x∈LU↔TM.Grp n (λz=>z∈us) x:=λx=>(mU0 x).trans (gg.grp x)
 have few1:S'.lean0.length<13:=TM.indep_log hvT hInd gg.tT (λt ht=>(hvG t).mp (TM.Grp.of hvT ht)) mU (by rw[lU];exact hsz)
 refine⟨l,rfl,⟨_,SqL.of hl2⟩,O6 (K:=K) (a:=l) (xs:=as.map V.ref) (λj σ H4=>∃(gas:List Addr) (v3:Option V),σ=[some (.ref g),some (.ref p),some (.ref gl),v3]/\y2 H0 H4/\H4 l=some (.lst (as.map V.ref))/\h8 H4 as S'.lean0/\H4 gl=some (.lst (gas.map V.ref))/\h8 H4 gas (TM.mxs n (S'.lean0.take j) S.lean0)/\(0<j->S.lean0.length<13/\(∀u∈S.lean0,TM.IsT n u)/\∀x,TM.Grp n (λz=>z∈S.lean0) x↔TM.Grp n (λz=>z∈ts) x))
  ⟨[],none,rfl,s1.trans s2,hl2,hts2,g2,by rw[eI];exact .nil,λz=>absurd z (aW 0)⟩ (λj σ H4 _ ⟨_,_,_,_,z,_⟩=>SqL.of z) ?_ ?_⟩
 ·rintro j y σ H4 hj ⟨gas,v3,rfl,s4,l4,as4,g4,t4,_⟩
  obtain⟨c,hc,rfl⟩:=S8 hj
  obtain⟨u,hu,hcu⟩:=q9 as4 j c hc
  have uT:=hvT u (aw hu)
  have hjl:j<S'.lean0.length:=(ap.mp hu).1
  have gp4:=gp0.same s4
  obtain⟨dx',ma',Ac',mas',h1',_⟩:=gp4.at'
  refine⟨_,rfl,.inl ⟨rfl,_,SqL.of g4⟩,_,rfl,p,dx',_,rfl,h1',rfl,p,n,ts,S,rfl,gp4,λlo bs H5 hlo s5 hlo5 hbs _ hInd' hwT hwG=>?_⟩
  have few2:S.lean0.length<13:=TM.indep_log hwT hInd' gg.tT (λt ht=>TM.Grp.mono gg.tT hP.2 ((hwG t).mp (TM.Grp.of hwT ht))) mU (by rw[lU];exact hsz)
  have hbl:bs.length=S.lean0.length:=Paired.length hbs
  refine⟨lo,rfl,⟨_,SqL.of hlo5⟩,zl5 (ts:=S.lean0) (TM.mx n u) hlo5 hbl (small (by lia)) ?_ ?_⟩
  ·intro i H6 x t hx ht s6 _ _ _ _
   obtain⟨t',ht',hxt⟩:=q9 (hbs.same s6) i x hx
   rw[ht]at ht'
   cases ht'
   exact⟨_,rfl,_,rfl,c,x,n,u,t,rfl,(s5.trans s6) _ _ hcu,hxt,uT,hwT t (aw ht),gg.n60,λr H7 _ s7 hr7=>⟨s7,r,rfl,⟨t,ht,hr7⟩,bZ,λa ha=>(by cases ha)⟩⟩
  intro ld H6 das hld s6 hld6 hdas
  have s46:=s5.trans s6
  have g6:=s46 _ _ g4
  have flen:(TM.mxs n (S'.lean0.take j) S.lean0).length=(S'.lean0.take j).length*S.lean0.length:=TM.len_flat _ S.lean0.length _ λg _=>aa _
  have few:gas.length<=144:=by
   rw[Paired.length t4,flen]
   exact aX (dE (show _<=12 by rw[bj];lia) (show S.lean0.length<=12 by lia)) (by decide)
  have hdl:das.length=S.lean0.length:=by rw[Paired.length hdas,aa]
  refine⟨gl,ld,_,_,rfl,rfl,g6,hld6,?_,?_⟩
  ·rw[aa,aa]
   exact small (by lia)
  have ntg:∀xs,H6 gl≠some (.tup xs):=λxs z=>by rw[g6]at z;cases z
  have ngl:l≠gl:=λz=>by rw[z,g1]at hl;cases hl
  refine⟨gas++das,_,rfl,o7 (s4.trans s46) hgl _,by rw[z5 ngl];exact s46 _ _ l4,(as4.same s46).upd ntg,by rw[z3,aF],?_,λ_=>⟨few2,hwT,hwG⟩⟩
  rw[bG,hu]
  unfold TM.mxs
  rw[List.flatMap_append]
  refine X0 ((t4.same s46).upd ntg) ?_
  show h8 _ das ([u].flatMap λg=>S.lean0.map (TM.mx n g))
  rw[List.flatMap_singleton]
  exact hdas.upd ntg
 ·rintro σ H4 ⟨gas,v3,rfl,s4,l4,as4,g4,t4,hz⟩
  rw[aa,Paired.length hts2,bg]at t4
  have hlenA:as.length=S'.lean0.length:=Paired.length hts2
  rw[aa,hlenA]at hz
  obtain⟨os,eos,hsh,oT,oG⟩:∃os,TM.mxs n S'.lean0 S.lean0=TM.mxs n S'.lean0 os/\(TM.mxs n S'.lean0 os).length<=144/\(∀o∈os,TM.IsT n o)/\∀x,TM.Grp n (λz=>z∈os) x↔TM.Grp n (λz=>z∈ts) x:=by
   by_cases h0:S'.lean0=[]
   ·rw[h0]
    exact⟨ts,rfl,aV _,gp.tT,λx=>Iff.rfl⟩
   ·obtain⟨k1,k2,k3⟩:=hz (Nat.pos_of_ne_zero λz=>h0 (List.eq_nil_of_length_eq_zero z))
    refine⟨S.lean0,rfl,?_,k2,k3⟩
    rw[show(TM.mxs n S'.lean0 S.lean0).length=S'.lean0.length*S.lean0.length from TM.len_flat _ S.lean0.length _ λg _=>aa _]
    exact dE (show S'.lean0.length<=12 by lia) (show S.lean0.length<=12 by lia)
  rw[eos]at t4
  have tU:∀t,TM.Grp n (λz=>z∈ts) t->TM.Grp n (λz=>z∈us) t:=λt ht=>TM.Grp.mono gg.tT hP.2 ht
  refine⟨_,rfl,_,rfl,g,gl,n,us,S',gas,_,rfl,gg0.same s4,g4,t4,by lia,λt ht=>?_,hsz,λg' f2 S2 H' s' gg' he=>?_⟩
  ·obtain⟨m,hm,o,ho,rfl⟩:=TM.mxs_mem.mp ht
   exact TM.Grp.mx gg.tT ((hvG m).mp (TM.Grp.of hvT hm)) (tU o ((oG o).mp (TM.Grp.of oT ho)))
  ·exact q1 hP g' f2 S2 H' (s0.trans (s4.trans s')) gg' λx=>(he x).trans (TM.mixA gg.tT gp.tT hvT oT hvG oG hP.2 x)
def G5 (cG cC cB cS:Addr):Sp:=λvs H Q _=>∃(g p:Addr) (n:Nat) (ts us:List (List Nat)) (S S':ChS),vs=[.ref g,.ref p]/\x0 cG cC cB cS n H p ts S/\x0 cG cC cB cS n H g us S'/\S'.chn.many n n<8192/\K9 n n us ts/\∀(g':Addr) (f:List (List Nat)) (S2:ChS) (H':Hp),y2 H H'->x0 cG cC cB cS n H' g' f S2->(∀x,TM.Grp n (λz=>z∈f) x↔TM.NC n us (TM.mxs n us ts) x)->Q (.ref g') H'
theorem zx4 {P:eV}{w:eZ}{K:W.Frag}{mg:Str->Option Value}{base:Heap}{X cG cC cB cS:Addr}(k:zd6 P w K mg base 11 "mixed" ["group","part"] (zm9 X cG cC cB cS)):Known P w K mg base 11 "mixed" ["group","part"] (G5 cG cC cB cS):=by
 obtain⟨f,fd,F,r⟩:=k
 exact⟨f,fd,F.calm.imp λvs H Q E ⟨g,p,n,ts,us,S,S',e,gp,gg,hsz,hP,q⟩=>⟨g,p,n,n,ts,us,S,S',e,gp,gg,hsz,λ_=>q,λz=>absurd hP z⟩,r⟩
def W8 (H:Hp)(o:HO):Prop:=(∃ps,o=.tbl ps)∨∃g r C dx v fs,o=.lst (V.ref g::r)/\H g=some (.ins C dx (("many",v)::fs))
theorem W8.tup {H:Hp}{o:HO}(x:W8 H o):∀xs,o≠.tup xs:=λxs z=>by
 rcases x with⟨ps,e⟩|⟨g,r,C,dx,v,fs,e,_⟩ <;> rw[e]at z <;> cases z
theorem W8.ins {H:Hp}{C dx:Addr}{fs:List (Str×V)}(x:W8 H (.ins C dx fs)):False:=by
 rcases x with⟨ps,e⟩|⟨g,r,C,dx,v,fs,e,_⟩ <;> cases e
theorem W8.dK {H:Hp}{l:List (Key×V)}(x:W8 H (.dK l)):False:=by
 rcases x with⟨ps,e⟩|⟨g,r,C,dx,v,fs,e,_⟩ <;> cases e
theorem W8.lst {H:Hp}{xs:List V}(x:W8 H (.lst xs))(h:∀y∈xs,∀g,y=V.ref g->∃u,H g=some u/\∀C dx v fs,u≠.ins C dx (("many",v)::fs)):False:=by
 rcases x with⟨ps,e⟩|⟨g,r,C,dx,v,fs,e,hg⟩
 ·cases e
 ·cases e
  obtain⟨u,hu,hn⟩:=h _ ax g rfl
  rw[hg]at hu
  cases hu
  exact hn _ _ _ _ rfl
theorem zd9 {H:Hp}{as:List Addr}{β:Type}{F:Addr->β->Prop}{bs:List β}(h:Paired F as bs)(k:∀a b,F a b->∃xs,H a=some (.tup xs)):∀y∈as.map V.ref,∀g,y=V.ref g->∃u,H g=some u/\∀C dx v fs,u≠.ins C dx (("many",v)::fs):=λy hy g e=>by
 obtain⟨a,ha,e2⟩:=ah.mp hy
 rw[e]at e2
 cases e2
 obtain⟨i,hi⟩:=bz ha
 obtain⟨b,_,f⟩:=q9 h i g hi
 obtain⟨xs,hx⟩:=k _ _ f
 exact⟨_,hx,λC dx v fs z=>by cases z⟩
theorem w6.alien {cC cB cS:Addr}{n:Nat}{H:Hp}{A:ChA}{S:ChS}(ch:w6 cC cB cS n H A S){a:Addr}{o:HO}(ha:a∈A.all)(ho:H a=some o)(x:W8 H o):False:=by
 unfold ChA.all at ha
 rcases aB.mp ha with h|h
 ·obtain⟨dx,hc⟩:=ch.c
  obtain⟨dxb,hb⟩:=ch.bk.b
  obtain⟨as,hll,hl1⟩:=ch.bk.ll
  obtain⟨as',hlm,hm1⟩:=ch.bk.lm
  simp only[au,aH,or_false]at h
  rcases h with rfl|rfl|rfl|rfl|rfl|rfl
  ·rw[hc]at ho;cases ho;exact x.ins
  ·rw[hb]at ho;cases ho;exact x.ins
  ·rw[hll]at ho;cases ho;exact x.lst (zd9 hl1 λ_ _ e=>⟨_,e⟩)
  ·rw[hlm]at ho;cases ho;exact x.lst (zd9 hm1 λ_ _ e=>⟨_,e⟩)
  ·rw[ch.bk.d]at ho;cases ho;exact x.dK
  ·rw[ch.l]at ho;cases ho
   refine x.lst λy hy g e=>?_
   obtain⟨s,hs,e2⟩:=ah.mp hy
   rw[e]at e2
   cases e2
   obtain⟨i,hi⟩:=bz hs
   have hil:i<S.st.length:=by
    have:=(ap.mp hi).1
    rw[ch.len.2,←ch.len.1]
    exact this
   obtain⟨dxa,h1⟩:=(ch.st i s _ hi (ac hil)).a
   exact⟨_,h1,λC dx v fs z=>by injection z with _ _ z;injection z with z _;injection z with z _;exact absurd z (by decide)⟩
 ·obtain⟨l,hl,hal⟩:=bF.mp h
  obtain⟨s,hs,rfl⟩:=ah.mp hl
  obtain⟨i,hi⟩:=bz hs
  have hil:i<S.st.length:=by
   have:=(ap.mp hi).1
   rw[ch.len.2,←ch.len.1]
   exact this
  have st:=ch.st i s _ hi (ac hil)
  obtain⟨dxa,h1⟩:=st.a
  obtain⟨bs,h2,_⟩:=st.bf
  obtain⟨ws,h3,h4⟩:=st.w
  unfold StA.all at hal
  simp only[au,aH,or_false]at hal
  rcases hal with rfl|rfl|rfl|rfl|rfl
  ·rw[h1]at ho;cases ho;exact x.ins
  ·rw[st.m]at ho;cases ho
   refine x.lst λy hy g e=>?_
   unfold tI at hy
   obtain⟨k,_,e2⟩:=ah.mp hy
   rw[e]at e2
   cases e2
  ·rw[st.lt]at ho;cases ho;exact x.dK
  ·rw[h2]at ho;cases ho;exact x.dK
  ·rw[h3]at ho;cases ho;exact x.lst (zd9 h4 λ_ _ e=>⟨_,e⟩)
theorem x0.keepA {cG cC cB cS:Addr}{n:Nat}{H H':Hp}{g y:Addr}{ts:List (List Nat)}{S:ChS}{o:HO}(ga:x0 cG cC cB cS n H g ts S)(fr:y1 [y] H H')(hy:H y=some o)(x:W8 H o):x0 cG cC cB cS n H' g ts S:=by
 obtain⟨dx,ma,A,mas,h1,h2,h3,h4⟩:=ga.at'
 have kp:∀{b:Addr} {u:HO},H b=some u->u≠o->H' b=some u:=λ{b u} e ne=>fr b u (λz=>by rw[ae.mp z,hy]at e;cases e;exact ne rfl) e
 refine⟨ga.n0,ga.n60,⟨dx,ma,A,mas,kp h1 (λz=>by rw[←z]at x;exact x.ins),kp h2 (λz=>x.tup _ z.symm),h3.frame fr λb hb xs z=>?_,h4.keep fr λb hb=>?_⟩,ga.st,ga.few,ga.tT,ga.grp,ga.src,ga.lnl⟩
 ·rw[ae.mp hb,hy]at z;cases z;exact x.tup _ rfl
 ·rw[ae.mp hb]
  exact⟨λz=>h4.alien z hy x,λxs z=>by rw[hy]at z;cases z;exact x.tup _ rfl⟩
theorem x0.gM {cG cC cB cS:Addr}{n:Nat}{H:Hp}{g:Addr}{ts:List (List Nat)}{S:ChS}(ga:x0 cG cC cB cS n H g ts S):S.chn.many n n=TM.gM n ts:=by
 obtain⟨L,nL,mL,lL⟩:=zc9 ga.st
 rw[←lL]
 exact(TM.gM_eq nL λx=>(mL x).trans (ga.grp x)).symm
def C3 (cG cC cB cS:Addr)(n:Nat)(H:Hp)(as:List Addr)(gs:List (List (List Nat))):Prop:=Paired (λa ts=>∃S,x0 cG cC cB cS n H a ts S) as gs
theorem C3.same {cG cC cB cS:Addr}{n:Nat}{H H':Hp}{as:List Addr}{gs:List (List (List Nat))}(h:C3 cG cC cB cS n H as gs)(s:y2 H H'):C3 cG cC cB cS n H' as gs:=Paired.imp' (λ_ _ ⟨S,g⟩=>⟨S,g.same s⟩) h
theorem C3.keepA {cG cC cB cS:Addr}{n:Nat}{H H':Hp}{y:Addr}{o:HO}{as:List Addr}{gs:List (List (List Nat))}(h:C3 cG cC cB cS n H as gs)(fr:y1 [y] H H')(hy:H y=some o)(x:W8 H o):C3 cG cC cB cS n H' as gs:=Paired.imp' (λ_ _ ⟨S,g⟩=>⟨S,g.keepA fr hy x⟩) h
theorem yi9 {cG cC cB cS:Addr}{n:Nat}{H:Hp}{as:List Addr}{gs:List (List (List Nat))}(h:C3 cG cC cB cS n H as gs)(h0:as≠[]):W8 H (.lst (as.map V.ref)):=by
 cases h with
 | nil=>exact absurd rfl h0
 | cons h1 _ =>
  obtain⟨S,ga⟩:=h1
  obtain⟨dx,ma,A,mas,e,_⟩:=ga.at'
  exact .inr ⟨_,_,_,_,_,_,rfl,e⟩
def yz3 (cG cC cB cS:Addr)(n:Nat)(nx:List (List Nat)->List (List Nat)->Prop)(Iv:List (List Nat)->Prop)(J:Hp->Prop):Sp:=λvs H Q _=>∃(a:Addr) (ts:List (List Nat)) (S:ChS),vs=[.ref a]/\J H/\x0 cG cC cB cS n H a ts S/\Iv ts/\∀(b:Addr) (us:List (List Nat)) (S':ChS) (H':Hp),y2 H H'->x0 cG cC cB cS n H' b us S'->nx ts us->Iv us->Q (.ref b) H'
def zz0 (cG cC cB cS:Addr)(P:eV)(w:eZ)(K:W.Frag)(mg:Str->Option Value)(base:Heap):Sp:=λvs H Q _=>∃(g st:Addr) (n:Nat) (ts:List (List Nat)) (S:ChS) (nx:List (List Nat)->List (List Nat)->Prop) (Iv:List (List Nat)->Prop) (J:Hp->Prop),vs=[.ref g,.ref st]/\x0 cG cC cB cS n H g ts S/\S.chn.many n n<8192/\Iv ts/\J H/\(∀(H H':Hp) (y:Addr) (o:HO),y1 [y] H H'->H y=some o->W8 H o->J H->J H')/\(∀H H',y2 H H'->J H->J H')/\FnV P w K mg base 12 st ["last"] (yz3 cG cC cB cS n nx Iv J) /\
 ∀(l:Addr) (as:List Addr) (gs:List (List (List Nat))) (t lo:List (List Nat)) (H':Hp),y2 H H'->H' l=some (.lst (as.map V.ref))->C3 cG cC cB cS n H' as gs->TM.Dn n nx ts gs t->nx t lo->TM.gM n t<=TM.gM n lo->Q (.ref l) H'
theorem W0:y4 ["group","step","found","lower"] ["group","step"] (z8 P0):=scq
theorem zk0 {cG cC cB cS:Addr}(D:Def K mg "going_down" P0 ["group","step"] f fd)(B:Blt mg)(cg:p7 K cG Z7)(MS:h7 P w K mg base 2 cG "size" ["self"] (L9 cG cC cB cS)):v1 P w K mg base CX0 13 f fd ["group","step"] (zz0 cG cC cB cS P w K mg base):=by
 refine D.F.ok W0 (λvs H Q E h=>?_) (λcdv A outer s H vs Q E hr h=>?_)
 ·obtain⟨g,st,n,ts,S,nx,Iv,J,rfl,_⟩:=h
  rfl
 obtain⟨g,st,n,ts,S,nx,Iv,J,rfl,ga,hsz,hI,hJ,kA,kJ,FV,q⟩:=h
 refine⟨_,z6 (x9 (i:=2) W0.nd rfl (Or.inl rfl) (c9 (z0 (pv 0) z4)))
  (z6 (x9 (i:=3) W0.nd rfl (Or.inl rfl) (zu3 (i:=1) hr (z0 (pv 0) z4)))
  (z6 (S7 PassesOwn.never (p6 yn3 (c3 cg.cls MS hr (pv 3)) (c3 cg.cls MS hr (o4 t9 (pv 2) (zg9 G7 z9) (λ_ _=>rfl))) (u3 _))
   (z6 (p5 (U8 PySem.F.plainAttrs_list PySem.F.slot_list_append PySem.F.type_list_append d0 (pv 2) (z0 (pv 3) z4)))
   (z7 (x9 (i:=3) W0.nd rfl (Or.inl rfl) (zu3 (i:=1) hr (z0 (pv 3) z4))))))
  (z7 (y9 (pv 2))))),?_⟩
 refine⟨_,rfl,(by show 1<=eU;decide),λfl hfl=>?_⟩
 have s1:=y3 hfl (.lst [V.ref g])
 have f1:(upd H fl (.lst [V.ref g])) fl=some (.lst (([g]:List Addr).map V.ref)):=z3
 generalize upd H fl (.lst [V.ref g])=H1 at s1 f1 ⊢
 dsimp only[u9]
 have mg':∀{H:Hp} {a:Addr} {u:List (List Nat)} {S:ChS},x0 cG cC cB cS n H a u S->S.chn.many n n=TM.gM n u:=λh=>h.gM
 have hsz0:TM.gM n ts<8192:=by rw[←mg' ga];exact hsz
 refine⟨st,_,_,rfl,FV,_,rfl,g,ts,S,rfl,kJ _ _ s1 hJ,ga.same s1,hI,λb us S' H2 s2 gb hnx hI2=>?_⟩
 dsimp only[u9]
 refine⟨λm σ H4=>∃(lw:Addr) (as:List Addr) (gs:List (List (List Nat))) (t lo:List (List Nat)) (SL:ChS),σ=[some (.ref g),some (.ref st),some (.ref fl),some (.ref lw)]/\y2 H H4/\J H4/\H4 fl=some (.lst (as.map V.ref))/\C3 cG cC cB cS n H4 as gs/\TM.Dn n nx ts gs t/\x0 cG cC cB cS n H4 lw lo SL/\nx t lo/\Iv lo/\m=TM.gM n t,
  ⟨_,b,[g],[ts],ts,us,S',rfl,s1.trans s2,kJ _ _ (s1.trans s2) hJ,s2 _ _ f1,.cons ⟨S,ga.same (s1.trans s2)⟩ .nil,.one,gb,hnx,hI2,rfl⟩,?_⟩
 rintro m σ H4 ⟨lw,as,gs,t,lo,SL,rfl,s4,j4,f4,gs4,hD,gl,hx,hIl,rfl⟩
 obtain⟨dxl,mal,Al,masl,hl1,_⟩:=gl.at'
 obtain⟨gs',rfl⟩:=hD.last
 obtain⟨as',a,rfl,gs4',Sa,gaa⟩:=W3 gs4
 have lenAs:(as'++[a]).length=(gs'++[t]).length:=Paired.length gs4
 obtain⟨dxa,maa,Aa,masa,ha1,_⟩:=gaa.at'
 have hlast:atI ((as'++[a]).map V.ref) (-1)=some (V.ref a):=by
  rw[aF]
  exact F0 _ _
 refine⟨_,rfl,lw,dxl,_,rfl,hl1,rfl,lw,n,lo,SL,rfl,gl,?_⟩
 refine⟨_,rfl,_,rfl,fl,_,_,_,rfl,rfl,SqL.of f4,hlast,a,dxa,_,rfl,ha1,rfl,a,n,t,Sa,rfl,gaa,?_⟩
 refine⟨_,_,rfl,rfl,_,rfl,?_⟩
 rw[mg' gl,mg' gaa]
 by_cases hlt:TM.gM n lo<TM.gM n t
 case neg =>
  rw[decide_eq_false (by lia)]
  exact o5 ⟨_,rfl,q fl _ _ t lo H4 s4 f4 gs4 hD hx (by lia)⟩
 rw[decide_eq_true (by lia)]
 refine i0 ⟨_,λσ' H' z=>z,?_⟩
 have hlen:=hD.len
 have hlen2:(as'++[a]).length<=8192:=by rw[lenAs];lia
 refine⟨_,rfl,.inl ⟨rfl,_,SqL.of f4⟩,_,rfl,fl,_,_,rfl,rfl,f4,by rw[aa];exact bX hlen2 (by decide),?_⟩
 have s5:y2 H (upd H4 fl (.lst ((as'++[a]).map V.ref++[V.ref lw]))):=o7 s4 hfl _
 have f5:(upd H4 fl (.lst ((as'++[a]).map V.ref++[V.ref lw]))) fl=some (.lst ((as'++[a]++[lw]).map V.ref)):=by rw[z3];simp
 have fr:y1 [fl] H4 (upd H4 fl (.lst ((as'++[a]).map V.ref++[V.ref lw]))):=y1.upd y1.refl (by simp) _
 generalize upd H4 fl (.lst ((as'++[a]).map V.ref++[V.ref lw]))=H5 at s5 f5 fr ⊢
 have al:W8 H4 (.lst ((as'++[a]).map V.ref)):=yi9 gs4 (by simp)
 have gl5:=gl.keepA fr f4 al
 have gs5:=gs4.keepA fr f4 al
 have j5:=kA _ _ _ _ fr f4 al j4
 refine⟨st,_,_,rfl,FV,_,rfl,lw,lo,SL,rfl,j5,gl5,hIl,λb2 us2 S2 H6 s6 gb2 hnx2 hI3=>?_⟩
 dsimp only[u9]
 exact⟨_,hlt,b2,_,_,lo,us2,S2,rfl,s5.trans s6,kJ _ _ s6 j5,s6 _ _ f5,Paired.snoc (gs5.same s6) ⟨SL,gl5.same s6⟩,.more hD hx hlt,gb2,hnx2,hI3,rfl⟩
def R0 (x:Str)(st:Stmt)(pS:Addr)(nx:Nat->List (List Nat)->List (List Nat)->List (List Nat)->Prop)(cG cC cB cS:Addr):Sp:=λvs H Q _=>∃(g:Addr) (n:Nat) (ts:List (List Nat)) (S:ChS),vs=[.ref g]/\x0 cG cC cB cS n H g ts S/\S.chn.many n n<8192/\TbO (Q0 st) (zo6 x) H pS /\
 ∀(l:Addr) (as:List Addr) (gs:List (List (List Nat))) (t lo:List (List Nat)) (H':Hp),y1 [pS] H H'->TbO (Q0 st) (zo6 x) H' pS->H' l=some (.lst (as.map V.ref))->C3 cG cC cB cS n H' as gs->TM.Dn n (nx n ts) ts gs t->nx n ts t lo->TM.gM n t<=TM.gM n lo->Q (.ref l) H'
theorem R3 {pos:Pos}{q:Str}{H H':Hp}{P:Addr}(h:TbO pos q H P)(s:y2 H H'):TbO pos q H' P:=by
 rcases h with h|⟨c,h,h2⟩
 ·exact .inl (s _ _ h)
 ·exact .inr ⟨c,s _ _ h,s _ _ h2⟩
theorem J1 {H H':Hp}{y c:Addr}{o:HO}{q:Str}(fr:y1 [y] H H')(hy:H y=some o)(al:W8 H o)(h:H c=some (T9 c q)):H' c=some (T9 c q):=fr c _ (λz=>by
 rw[ae.mp z,hy]at h
 cases h
 rcases al with⟨ps,e⟩|⟨g,r,C,dx,v,fs,e,_⟩ <;> cases e) h
theorem zn2 {pos:Pos}{q:Str}{H:Hp}{P:Addr}(h:TbO pos q H P):∃o,H P=some o/\W8 H o:=by
 rcases h with h|⟨c,h,_⟩ <;> exact⟨_,h,.inl ⟨_,rfl⟩⟩
def yu6 (st:Stmt):Scope:=match d3 st with
 | [.Return (some (.Call _ [_,.Lambda _ _ sc _] _ _)) _]=>sc
 | _=>z8 st
theorem zt2:∀z∈(yu6 f7).names,z.2≠.free:=by decide +kernel
theorem yh7:y4 ["group"] ["group"] (z8 f7):=scq
theorem yh0 {cG cC cB cS c pS:Addr}(D:Def K mg "stairs" f7 ["group"] f fd)(B:Blt mg)(hc:fd.code=.ref c)(C:W.CodeHd base c pS)(hB:Bm mg base)(KM:∀base:Heap,Mod K mg base->Known P w K mg base 11 "mixed" ["group","part"] (G5 cG cC cB cS))(KD:∀base:Heap,Mod K mg base->Known P w K mg base 13 "going_down" ["group","step"] (zz0 cG cC cB cS P w K mg base)) :
  v1 P w K mg base CX0 14 f fd ["group"] (R0 "stairs" f7 pS (λn _=>TM.nxS n) cG cC cB cS):=by
 refine Fun.okC D.F hc yh7 (λvs H Q E h=>?_) (λA outer s H vs Q E hr h=>?_)
 ·obtain⟨g,n,ts,S,rfl,_⟩:=h
  rfl
 obtain⟨g,n,ts,S,rfl,ga,hsz,hT,q⟩:=h
 refine⟨_,z7 (y9 (yc5 (X:=(V4 CX0 P w K mg base ["group"] "stairs" (z8 f7) f (.ref c) A outer s H E).nox) KD hr rfl (pv 0) C rfl hB rfl rfl rfl)),?_⟩
 refine⟨_,rfl,hT,λf c' pm ctv base' H' hM hf _ hfr hc' hT'=>?_⟩
 have fr:y1 [pS] H H':=λb o hb e=>hfr b o (λz=>hb (by rw[z];exact ae.mpr rfl)) e
 obtain⟨oP,hP,al⟩:=zn2 hT
 have ga':=ga.keepA fr hP al
 refine⟨g,f,n,ts,S,TM.nxS n,λu=>TM.gM n u<8192,λH=>H c'=some (T9 c' _),rfl,ga',hsz,?_,hc',λH1 H2 y o f1 h1 a1 j1=>J1 f1 h1 a1 j1,λH1 H2 s1 j1=>s1 _ _ j1,⟨_,_,_,_,hf,?_,?_⟩,?_⟩
 ·show TM.gM n ts<8192
  rw[←show S.chn.many n n=TM.gM n ts from ga.gM];exact hsz
 ·refine yk2 (N:=["last"]) (vf:=[]) hf ⟨rfl,rfl,rfl,by decide,rfl,rfl,by decide +kernel,by decide +kernel,λ_ _ _ h=>(by cases h),λy hy=>absurd rfl (zt2 _ (PySem.mem_of_lookup hy)),λ_ _ h=>(by cases h),λi x v _ h=>(by cases i <;> cases h)⟩ (λvs H Q E ⟨a,_,_,e,_⟩=>by rw[e];rfl) (λvs H Q E ⟨a,_,_,_,j,_⟩=>j) λA outer s H vs Q E hr ⟨a,us,Sa,e,j,gu,hI,q'⟩=>?_
  subst e
  refine⟨_,u4 (KM base' hM) hr rfl (z0 (pv 0) (z0 (pv 0) z4)),?_⟩
  have hP:K9 n n us us:=⟨rfl,λt ht=>TM.Grp.of gu.tT ht⟩
  refine⟨_,rfl,_,rfl,a,a,n,us,us,Sa,Sa,rfl,gu,gu,?_,hP,λg' f2 S2 H2 s2 gg he=>?_⟩
  ·rw[show Sa.chn.many n n=TM.gM n us from gu.gM];exact hI
  ·refine q' g' f2 S2 H2 s2 gg ⟨gg.tT,he⟩ ?_
   have:=TM.gM_le gu.tT (λx hx=>TM.nc_in gu.tT (TM.mxs_isT gu.tT gu.tT) (λt ht=>?_) ((he x).mp hx)) gg.tT
   ·exact bX this hI
   ·obtain⟨m,hm,o,ho,rfl⟩:=TM.mxs_mem.mp ht
    exact TM.Grp.mx gu.tT (TM.Grp.of gu.tT hm) (TM.Grp.of gu.tT ho)
 ·exact Y6.all λus hl=>match us,hl with|[_],_=>rfl
 ·intro l as gs t lo H2 s2 hl hg hD hn hle
  exact q l as gs t lo H2 (fr.trans (y2.frame s2)) (R3 hT' s2) hl hg hD hn hle
theorem yh6:y4 ["group"] ["group"] (z8 i6):=scq
theorem yg2:∀z∈(yu6 i6).names,z.2=.free->z.1="group":=by decide +kernel
theorem yg9 {cG cC cB cS c pS:Addr}(D:Def K mg "slopes" i6 ["group"] f fd)(B:Blt mg)(hc:fd.code=.ref c)(C:W.CodeHd base c pS)(hB:Bm mg base)(KM:∀base:Heap,Mod K mg base->Known P w K mg base 11 "mixed" ["group","part"] (G5 cG cC cB cS))(KD:∀base:Heap,Mod K mg base->Known P w K mg base 13 "going_down" ["group","step"] (zz0 cG cC cB cS P w K mg base)) :
  v1 P w K mg base CX0 14 f fd ["group"] (R0 "slopes" i6 pS TM.nxD cG cC cB cS):=by
 refine Fun.okC D.F hc yh6 (λvs H Q E h=>?_) (λA outer s H vs Q E hr h=>?_)
 ·obtain⟨g,n,ts,S,rfl,_⟩:=h
  rfl
 obtain⟨g,n,ts,S,rfl,ga,hsz,hT,q⟩:=h
 refine⟨_,z7 (y9 (yc5 (X:=(V4 CX0 P w K mg base ["group"] "slopes" (z8 i6) f (.ref c) A outer s H E).nox) KD hr rfl (pv 0) C rfl hB rfl rfl rfl)),?_⟩
 refine⟨_,rfl,hT,λf c' pm ctv base' H' hM hf hcl hfr hc' hT'=>?_⟩
 obtain⟨u,hu,ru⟩:=hcl "group" _ 0 _ rfl rfl rfl rfl rfl
 have fr:y1 [pS] H H':=λb o hb e=>hfr b o (λz=>hb (by rw[z];exact ae.mpr rfl)) e
 obtain⟨oP,hP,al⟩:=zn2 hT
 have ga':=ga.keepA fr hP al
 refine⟨g,f,n,ts,S,TM.nxD n ts,λu=>K9 n n ts u,λH=>H c'=some (T9 c' _)/\x0 cG cC cB cS n H g ts S,rfl,ga',hsz,⟨rfl,λt ht=>TM.Grp.of ga.tT ht⟩,⟨hc',ga'⟩,λH1 H2 y o f1 h1 a1 j1=>⟨J1 f1 h1 a1 j1.1,j1.2.keepA f1 h1 a1⟩,λH1 H2 s1 j1=>⟨s1 _ _ j1.1,j1.2.same s1⟩,⟨_,_,_,_,hf,?_,?_⟩,?_⟩
 ·have one:∀(x:Str) (d:Addr),List.lookup x [(("group":Str),s.heap.objs.size+1)]=some d->x="group"/\d=s.heap.objs.size+1:=λx d h=>by
   rw[bh]at h
   split at h
   ·rename_i e
    exact⟨eq_of_beq e,(Option.some.inj h).symm⟩
   ·cases h
  refine yk2 (N:=["last","group"]) (vf:=[.ref g]) hf ⟨rfl,rfl,rfl,by decide,rfl,rfl,by decide +kernel,by decide +kernel,λx y d h1 h2=>(one x d h1).1.trans (one y d h2).1.symm,λy hy=>⟨s.heap.objs.size+1,by rw[show y="group" from yg2 _ (PySem.mem_of_lookup hy) rfl];rfl⟩,λx d h=>⟨some u,by rw[(one x d h).2];exact hu⟩,λi x v h1 h2=>?_⟩ (λvs H Q E ⟨a,_,_,e,_⟩=>by rw[e];rfl) (λvs H Q E ⟨a,_,_,_,j,_⟩=>j.1) λA outer s H vs Q E hr ⟨a,us,Sa,e,j,gu,hI,q'⟩=>?_
  ·cases i with
   | succ i=>cases i <;> cases h2
   | zero =>
    cases h2
    obtain rfl:"group"=x:=Option.some.inj h1
    exact⟨rfl,_,u,rfl,hu,ru⟩
  subst e
  refine⟨_,u4 (KM base' hM) hr rfl (z0 (pv 1) (z0 (pv 0) z4)),?_⟩
  refine⟨_,rfl,_,rfl,g,a,n,us,ts,Sa,S,rfl,gu,j.2,hsz,hI,λg' f2 S2 H2 s2 gg he=>?_⟩
  refine q' g' f2 S2 H2 s2 gg ⟨gg.tT,he⟩ ⟨rfl,λt ht=>?_⟩
  refine TM.nc_in ga.tT (TM.mxs_isT ga.tT gu.tT) (λt ht=>?_) ((he t).mp (TM.Grp.of gg.tT ht))
  obtain⟨m,hm,o,ho,rfl⟩:=TM.mxs_mem.mp ht
  exact TM.Grp.mx ga.tT (TM.Grp.of ga.tT hm) (hI.2 o ho)
 ·exact Y6.all λus hl=>match us,hl with|[_],_=>rfl
 ·intro l as gs t lo H2 s2 hl hg hD hn hle
  exact q l as gs t lo H2 (fr.trans (y2.frame s2)) (R3 hT' s2) hl hg hD hn hle
def zr1 (x:Str)(st:Stmt)(pS:Addr)(nx:Nat->List (List Nat)->List (List Nat)->List (List Nat)->Prop)(cG cC cB cS:Addr):Sp:=λvs H Q _=>∃(g:Addr) (n:Nat) (ts:List (List Nat)) (S:ChS),vs=[.ref g]/\x0 cG cC cB cS n H g ts S/\S.chn.many n n<8192/\TbO (Q0 st) (zo6 x) H pS /\
 ∀(gs:List (List (List Nat))) (t lo:List (List Nat)) (H':Hp),y1 [pS] H H'->TbO (Q0 st) (zo6 x) H' pS->TM.Dn n (nx n ts) ts gs t->nx n ts t lo->TM.gM n t<=TM.gM n lo->Q (.bl (decide (TM.gM n t=1))) H'
theorem zy8:y4 ["group"] ["group"] (z8 A3):=scq
theorem zx9 {cG cC cB cS pS:Addr}(D:Def K mg "is_tame" A3 ["group"] f fd)(B:Blt mg)(cg:p7 K cG Z7)(MS:h7 P w K mg base 2 cG "size" ["self"] (L9 cG cC cB cS))(KS:Known P w K mg base 14 "stairs" ["group"] (R0 "stairs" f7 pS (λn _=>TM.nxS n) cG cC cB cS)):v1 P w K mg base CX0 15 f fd ["group"] (zr1 "stairs" f7 pS (λn _=>TM.nxS n) cG cC cB cS):=by
 refine D.F.ok zy8 (λvs H Q E h=>?_) (λcdv A outer s H vs Q E hr h=>?_)
 ·obtain⟨g,n,ts,S,rfl,_⟩:=h
  rfl
 obtain⟨g,n,ts,S,rfl,ga,hsz,hT,q⟩:=h
 refine⟨_,z7 (y9 (l7 W2 (c3 cg.cls MS hr (o4 t9 (u4 KS hr rfl (z0 (pv 0) z4)) (zg9 G7 z9) (λ_ _=>rfl))) z9 (u3 _))),?_⟩
 refine⟨_,rfl,g,n,ts,S,rfl,ga,hsz,hT,λl as gs t lo H' fr hT' hl hg hD hn hle=>?_⟩
 obtain⟨gs',rfl⟩:=hD.last
 obtain⟨as',a,rfl,_,Sa,gaa⟩:=W3 hg
 obtain⟨dxa,maa,Aa,masa,ha1,_⟩:=gaa.at'
 have hlast:atI ((as'++[a]).map V.ref) (-1)=some (V.ref a):=by
  rw[aF]
  exact F0 _ _
 refine⟨_,rfl,l,_,_,_,rfl,rfl,SqL.of hl,hlast,a,dxa,_,rfl,ha1,rfl,a,n,t,Sa,rfl,gaa,rfl,?_⟩
 rw[p0,gaa.gM,show decide (((TM.gM n t:Nat):Int)=1)=decide (TM.gM n t=1) by congr 1;exact propext (by lia)]
 exact q _ t lo H' fr hT' hD hn hle
theorem zy6:y4 ["group"] ["group"] (z8 B8):=scq
theorem zx7 {cG cC cB cS pS:Addr}(D:Def K mg "is_calm" B8 ["group"] f fd)(B:Blt mg)(cg:p7 K cG Z7)(MS:h7 P w K mg base 2 cG "size" ["self"] (L9 cG cC cB cS))(KS:Known P w K mg base 14 "slopes" ["group"] (R0 "slopes" i6 pS TM.nxD cG cC cB cS)):v1 P w K mg base CX0 15 f fd ["group"] (zr1 "slopes" i6 pS TM.nxD cG cC cB cS):=by
 refine D.F.ok zy6 (λvs H Q E h=>?_) (λcdv A outer s H vs Q E hr h=>?_)
 ·obtain⟨g,n,ts,S,rfl,_⟩:=h
  rfl
 obtain⟨g,n,ts,S,rfl,ga,hsz,hT,q⟩:=h
 refine⟨_,z7 (y9 (l7 W2 (c3 cg.cls MS hr (o4 t9 (u4 KS hr rfl (z0 (pv 0) z4)) (zg9 G7 z9) (λ_ _=>rfl))) z9 (u3 _))),?_⟩
 refine⟨_,rfl,g,n,ts,S,rfl,ga,hsz,hT,λl as gs t lo H' fr hT' hl hg hD hn hle=>?_⟩
 obtain⟨gs',rfl⟩:=hD.last
 obtain⟨as',a,rfl,_,Sa,gaa⟩:=W3 hg
 obtain⟨dxa,maa,Aa,masa,ha1,_⟩:=gaa.at'
 have hlast:atI ((as'++[a]).map V.ref) (-1)=some (V.ref a):=by
  rw[aF]
  exact F0 _ _
 refine⟨_,rfl,l,_,_,_,rfl,rfl,SqL.of hl,hlast,a,dxa,_,rfl,ha1,rfl,a,n,t,Sa,rfl,gaa,rfl,?_⟩
 rw[p0,gaa.gM,show decide (((TM.gM n t:Nat):Int)=1)=decide (TM.gM n t=1) by congr 1;exact propext (by lia)]
 exact q _ t lo H' fr hT' hD hn hle
def zv0 (K:W.Frag):Sp:=λvs H Q _=>∃(a:Addr) (ns:List Int) (k:Nat),vs=[.ref a,.int k]/\SqL K H a (ns.map V.int)/\Q (.int (ns.getD k 0)) H
theorem zc4:y4 ["_law_script","_law_k"] ["_law_script","_law_k"] (z8 U2):=scq
theorem zc1 (D:Def K mg "_law_cell_at" U2 ["_law_script","_law_k"] f fd)(B:Blt mg):v1 P w K mg base CX0 1 f fd ["_law_script","_law_k"] (zv0 K):=by
 refine D.F.ok zc4 (λvs H Q E h=>?_) (λcdv A outer s H vs Q E hr h=>?_)
 ·obtain⟨a,ns,k,rfl,_⟩:=h
  rfl
 obtain⟨a,ns,k,rfl,hS,q⟩:=h
 refine⟨_,z6 (n6 (p6 yn3 (pv 1) (v8 u7 rfl B.len Y8 (z0 (pv 0) z4)) (u3 _)) (z7 (y9 (o4 t9 (pv 0) (pv 1) (λ_ _=>rfl)))) u6) (z7 (y9 z9)),?_⟩
 refine⟨_,rfl,_,rfl,a,_,rfl,.inl hS,_,_,rfl,rfl,_,rfl,?_⟩
 refine yf9 (λc=>?_) (λc=>?_)
 ·have c':(k:Int)<(((ns.map V.int).length:Nat):Int):=of_decide_eq_true c
  rw[aa]at c'
  have hk:k<ns.length:=by lia
  have e:ns.getD k 0=ns[k]:=by rw[ao,ac hk];rfl
  rw[e]at q
  exact⟨_,rfl,_,rfl,a,_,_,_,rfl,rfl,hS,m7 (by rw[ag,ac hk];rfl),q⟩
 ·have c':¬(k:Int)<(((ns.map V.int).length:Nat):Int):=of_decide_eq_false (bJ.mpr c)
  rw[aa]at c'
  have e:ns.getD k 0=0:=by rw[ao,aP (by lia)];rfl
  rw[e]at q
  exact q
def zn0:Sp:=λvs H Q _=>∃(c:Int) (n:Nat),vs=[.int c,.int n]/\n<=100/\∀(r:Addr) (H':Hp) (row:List Nat),H r=none->y2 H H'->TM.IsT n row->H' r=some (.tup (tI row))->Q (.ref r) H'
theorem r8:y4 ["_law_cell","_law_many","_law_bound","_law_number","_law_left","_law_found","_law_k","_law_at"] ["_law_cell","_law_many"] (z8 U4):=scq
theorem zc3 (D:Def K mg "_law_turning" U4 ["_law_cell","_law_many"] f fd)(B:Blt mg):v1 P w K mg base CX0 1 f fd ["_law_cell","_law_many"] zn0:=by
 refine D.F.ok r8 (λvs H Q E h=>?_) (λcdv A outer s H vs Q E hr h=>?_)
 ·obtain⟨c,n,rfl,_⟩:=h
  rfl
 obtain⟨c,n,rfl,hn,q⟩:=h
 refine⟨_,z6 (x9 (i:=2) r8.nd rfl (Or.inl rfl) (w8 yc3 (w8 J7 z9 z9) (w8 J7 z9 z9)))
  (z6 (x9 (i:=3) r8.nd rfl (Or.inl rfl) (w8 p8 (w8 yc3 (w8 p8 (pv 0) (pv 2)) (w8 J7 z9 z9)) (pv 2)))
  (z6 (x9 (i:=4) r8.nd rfl (Or.inl rfl) (u5 (T0 rfl) rfl B.list X5 (z0 (u5 L4 rfl B.range F7 (z0 (pv 1) z4)) z4)))
  (z6 (x9 (i:=5) r8.nd rfl (Or.inl rfl) (c9 z4))
  (z6 (Q3 PassesOwn.never rfl (B7 rfl B.range (z0 (pv 1) z4)) (k8 (i:=6) r8.nd rfl (Or.inl rfl))
   (z6 (zp8 (v8 zs0 rfl B.divmod ye6 (z0 (pv 3) (z0 (w8 zg7 (pv 1) (pv 6)) z4))) (zp6 rfl (W4 (k8 (i:=3) r8.nd rfl (Or.inl rfl)) (W4 (k8 (i:=7) r8.nd rfl (Or.inl rfl)) zc7))))
   (z7 (p5 (U8 PySem.F.plainAttrs_list PySem.F.slot_list_append PySem.F.type_list_append d0 (pv 5) (z0 (U8 PySem.F.plainAttrs_list PySem.F.slot_list_pop PySem.F.type_list_pop yl7 (pv 4) (z0 (pv 7) z4)) z4))))))
  (z7 (y9 (u5 n5 rfl B.tuple Z5 (z0 (pv 5) z4)))))))),?_⟩
 have p60:yq4 10 60:=⟨by decide,by decide,by decide⟩
 have p24:yq4 10 24:=⟨by decide,by decide,by decide⟩
 have p64:yq4 23 64:=⟨by decide,by decide,by decide⟩
 have hb:(0:Int)<10 ^ Int.toNat 60*10 ^ Int.toNat 24:=by decide
 refine⟨_,_,rfl,rfl,p60,_,_,rfl,rfl,p24,_,_,rfl,rfl,zt6 (n:=210) (m:=110) (by decide) (by decide) (by decide),?_⟩
 have hm:IntMulOk (c % (10 ^ Int.toNat 60*10 ^ Int.toNat 24)) (23 ^ Int.toNat 64):=by
  have h1:=aY c (Int.ne_of_gt hb)
  have h2:=bv c hb
  refine zt6 (n:=300) (m:=300) ?_ (by decide) (by decide)
  have h3:(10 ^ Int.toNat 60*10 ^ Int.toNat 24:Int)<=2 ^ 300:=by decide
  have h4:((2:Int) ^ 300)=((2 ^ 300:Nat):Int):=by decide
  lia
 refine⟨_,rfl,_,rfl,_,_,rfl,rfl,hb,_,_,rfl,rfl,p64,_,_,rfl,rfl,hm,_,rfl,_,_,rfl,rfl,hb,?_⟩
 refine⟨_,rfl,_,rfl,λp hp=>⟨p,0,(n:Int),rfl,z3,⟨by lia,by lia,by lia,by lia,by lia⟩,λl hl=>?_⟩⟩
 rw[show((n:Int)-0).toNat=n by lia,C0]
 have pl:p≠l:=y0 z3 hl
 have hl0:H l=none:=by
  have:=hl
  rwa [z5 (Ne.symm pl)]at this
 have s1:y2 H (upd (upd H p (.rng 0 (n:Int))) l (.lst (tI (List.range n)))):=o7 (y3 hp _) hl0 _
 have el:(upd (upd H p (.rng 0 (n:Int))) l (.lst (tI (List.range n)))) l=some (.lst (tI (List.range n))):=z3
 generalize upd (upd H p (.rng 0 (n:Int))) l (.lst (tI (List.range n)))=H1 at s1 el ⊢
 refine⟨(by show 0<=eU;decide),λr hr'=>?_⟩
 have lr:l≠r:=y0 el hr'
 have hr0:H r=none:=s1.free hr'
 refine⟨_,rfl,_,rfl,by lia,by lia,zl9 (n:=((n:Nat):Int).toNat) (λi σ H2=>∃(nu:Int) (row left:List Nat) (b v6 v7:Option V),σ=[some (.int c),some (.int n),b,some (.int nu),some (.ref l),some (.ref r),v6,v7]/\y2 H H2/\H2 l=some (.lst (tI left))/\H2 r=some (.lst (tI row))/\TM.IsT n (row++left)/\left.length+i=n)
  ⟨_,[],List.range n,_,none,none,rfl,s1.trans (y3 hr' _),by rw[z5 lr];exact el,z3,TM.IsT.range n,by rw[az];rfl⟩ ?_ ?_⟩
 ·rintro i σ H2 hi ⟨nu,row,left,b,v6,v7,rfl,s2,hl2,hr2,hT,hlen⟩
  have hi':i<n:=by lia
  have e0:(0:Int)+(i:Int)=((i:Nat):Int):=by lia
  rw[e0]
  have hsz:(0:Int)<(n:Int)-(i:Int):=by lia
  obtain⟨k,ek,hk⟩:∃k:Nat,nu % ((n:Int)-(i:Int))=(k:Int)/\k<left.length:=by
   have h1:=aY nu (show(n:Int)-(i:Int)≠0 by lia)
   have h2:=bv nu hsz
   exact⟨(nu % ((n:Int)-(i:Int))).toNat,by lia,by lia⟩
  have hx:left[k]?=some left[k]:=ac hk
  have hrl:row.length<=n:=by
   have:=hT.length
   rw[af]at this
   lia
  refine⟨_,rfl,_,rfl,_,rfl,_,_,rfl,rfl,_,_,rfl,⟨hsz,by lia⟩,λtp htp=>?_⟩
  have hlt:l≠tp:=y0 hl2 htp
  have hrt:r≠tp:=y0 hr2 htp
  refine⟨tp,_,rfl,SqT.of z3,rfl,_,_,rfl,_,_,rfl,rfl,?_⟩
  have s3:=s2.trans (y3 htp (.tup [V.int (nu / ((n:Int)-(i:Int))),V.int (nu % ((n:Int)-(i:Int)))]))
  have hl3:(upd H2 tp (.tup [V.int (nu / ((n:Int)-(i:Int))),V.int (nu % ((n:Int)-(i:Int)))])) l=some (.lst (tI left)):=by rw[z5 hlt];exact hl2
  have hr3:(upd H2 tp (.tup [V.int (nu / ((n:Int)-(i:Int))),V.int (nu % ((n:Int)-(i:Int)))])) r=some (.lst (tI row)):=by rw[z5 hrt];exact hr2
  generalize upd H2 tp (.tup [V.int (nu / ((n:Int)-(i:Int))),V.int (nu % ((n:Int)-(i:Int)))])=H3 at s3 hl3 hr3 ⊢
  rw[ek]
  refine⟨_,rfl,.inl ⟨rfl,_,SqL.of hr3⟩,_,rfl,.inl ⟨rfl,_,SqL.of hl3⟩,_,rfl,l,_,_,k,V.int (left[k]:Int),rfl,rfl,hl3,by lia,by lia,by rw[v0];exact yt6 hk,zv6 hx,r,tI row,_,rfl,rfl,?_,?_,?_⟩
  ·rw[z5 (Ne.symm lr)]
   exact hr3
  ·rw[v0]
   exact zm7 (by lia)
  refine⟨_,row++[left[k]],left.eraseIdx k,_,_,_,rfl,o7 (o7 s3 hl0 _) hr0 _,?_,?_,TM.draw_perm hT hx,?_⟩
  ·rw[z5 lr,z3,zv5]
  ·rw[z3,R1]
   rfl
  ·rw[List.length_eraseIdx_of_lt hk]
   lia
 ·rintro σ H2 ⟨nu,row,left,b,v6,v7,rfl,s2,hl2,hr2,hT,hlen⟩
  have e:left=[]:=dN.mp (by lia)
  subst e
  rw[bp]at hT
  exact⟨_,rfl,r,tI row,rfl,.inl ⟨SqL.of hr2,λtp htp=>q tp _ row (s2.free htp) (s2.trans (y3 htp _)) hT z3⟩⟩
def zd1:Sp:=λvs H Q _=>∃a b:Nat,vs=[.int a,.int b]/\Q (.int ((Nat.gcd a b:Nat):Int)) H
theorem P8:y4 ["_law_one","_law_other"] ["_law_one","_law_other"] (z8 U3):=scq
theorem zc2 (D:Def K mg "_law_divisor" U3 ["_law_one","_law_other"] f fd)(B:Blt mg):v1 P w K mg base CX0 1 f fd ["_law_one","_law_other"] zd1:=by
 refine D.F.ok P8 (λvs H Q E h=>?_) (λcdv A outer s H vs Q E hr h=>?_)
 ·obtain⟨a,b,rfl,_⟩:=h
  rfl
 obtain⟨a,b,rfl,q⟩:=h
 refine⟨_,z6 (S7 PassesOwn.never (p6 zg6 (pv 1) z9 (u3 _))
   (z7 (yy7 (i:=0) (j:=1) rfl P8.nd rfl rfl (by decide) rfl rfl (z0 (pv 1) (z0 (w8 p8 (pv 0) (pv 1)) z4)) rfl)))
  (z7 (y9 (pv 0))),?_⟩
 refine⟨λm σ H4=>∃x y:Nat,σ=[some (.int x),some (.int y)]/\H4=H/\Nat.gcd x y=Nat.gcd a b/\m=y,⟨_,a,b,rfl,rfl,rfl,rfl⟩,?_⟩
 rintro m σ H4 ⟨x,y,rfl,rfl,hg,hm⟩
 refine⟨_,rfl,rfl,_,rfl,?_⟩
 rw[p0]
 by_cases h0:y=0
 ·subst h0
  rw[decide_eq_true (show(((0:Nat):Int))=0 from rfl)]
  refine o5 ⟨_,rfl,?_⟩
  rw[Nat.gcd_zero_right]at hg
  rw[hg]
  exact q
 ·rw[decide_eq_false (by lia)]
  refine i0 ⟨_,λσ' H' z=>z,?_⟩
  have hy:0<y:=Nat.pos_of_ne_zero h0
  refine⟨_,rfl,_,rfl,_,rfl,_,_,rfl,rfl,(by lia),_,_,rfl,?_⟩
  exact⟨x % y,by rw[hm];exact eB _ hy,y,x % y,by rw[cN];rfl,rfl,by rw[←hg,be x y,Nat.gcd_rec y x,be],rfl⟩
def sgn (m:Bool):Int:=if m=true then -1 else 1
theorem P4 (m:Bool):sgn m=1∨sgn m=-1:=by cases m <;> simp[sgn]
def A8:Sp:=λvs H Q _=>∃(wa:Addr) (st:Int) (mi:Bool) (s n:Nat) (W:List Nat),vs=[.int st,.bl mi,.int s,.ref wa]/\H wa=some (.tup (tI W))/\TM.IsT n W/\0<s/\s<=n/\n<=60/\∀(r:Addr) (H':Hp),H r=none->y2 H H'->H' r=some (.tup (tI (TM.sp n (W.take s) (TM.dh s st (sgn mi)))))->Q (.ref r) H'
theorem b8:y4 ["_law_steps","_law_mirror","_law_long","_law_spots","_law_found","_law_k","_law_to"] ["_law_steps","_law_mirror","_law_long","_law_spots"] (z8 Q9):=scq
theorem zj9 (D:Def K mg "_law_round" Q9 ["_law_steps","_law_mirror","_law_long","_law_spots"] f fd)(B:Blt mg):v1 P w K mg base CX0 1 f fd ["_law_steps","_law_mirror","_law_long","_law_spots"] A8:=by
 refine D.F.ok b8 (λvs H Q E h=>?_) (λcdv A outer s H vs Q E hr h=>?_)
 ·obtain⟨wa,st,mi,s,n,W,rfl,_⟩:=h
  rfl
 obtain⟨wa,st,mi,s,n,W,rfl,hwa,hW,hs,hsn,hn,q⟩:=h
 refine⟨_,z6 (x9 (i:=4) b8.nd rfl (Or.inl rfl) (u5 (T0 rfl) rfl B.list X5 (z0 (u5 L4 rfl B.range F7 (z0 (v8 u7 rfl B.len Y8 (z0 (pv 3) z4)) z4)) z4)))
  (z6 (Q3 PassesOwn.never rfl (B7 rfl B.range (z0 (pv 2) z4)) (k8 (i:=5) b8.nd rfl (Or.inl rfl))
   (z6 (x9 (i:=6) b8.nd rfl (Or.inl rfl) (w8 Q1 (pv 5) (pv 0)))
   (z6 (n6 (Z9 (pv 1)) (z7 (x9 (i:=6) b8.nd rfl (Or.inl rfl) (w8 zg7 (pv 0) (pv 5)))) u6)
   (z7 (zp8 (o4 R8 (pv 3) (w8 p8 (pv 6) (pv 2)) (λ_ _=>rfl)) (zy1 (pv 4) (o4 R8 (pv 3) (pv 5) (λ_ _=>rfl)) zi1))))))
  (z7 (y9 (u5 n5 rfl B.tuple Z5 (z0 (pv 4) z4))))),?_⟩
 have hWl:=hW.length
 refine⟨_,rfl,wa,_,rfl,.inr (SqT.of hwa),?_⟩
 rw[v0,hWl]
 refine⟨_,rfl,λp hp=>⟨p,0,(n:Int),rfl,z3,⟨by lia,by lia,by lia,by lia,by lia⟩,λl hl=>?_⟩⟩
 rw[show((n:Int)-0).toNat=n by lia,C0]
 have pl:p≠l:=y0 z3 hl
 have hl0:H l=none:=by
  have:=hl
  rwa [z5 (Ne.symm pl)]at this
 have s1:y2 H (upd (upd H p (.rng 0 (n:Int))) l (.lst (tI (List.range n)))):=o7 (y3 hp _) hl0 _
 have el:(upd (upd H p (.rng 0 (n:Int))) l (.lst (tI (List.range n)))) l=some (.lst (tI (List.range n))):=z3
 generalize upd (upd H p (.rng 0 (n:Int))) l (.lst (tI (List.range n)))=H1 at s1 el ⊢
 dsimp only[u9]
 have hWt:(W.take s).Nodup:=List.Nodup.sublist (cF _ _) hW.nodup
 have hWlt:∀x∈W.take s,x<n:=λx hx=>hW.lt (bH hx)
 have hTl:(W.take s).length=s:=by rw[bj];lia
 have gD:∀i,i<W.length->W[i]?=some (W.getD i 0):=λi h=>by rw[ao,ac h];rfl
 refine⟨_,rfl,_,rfl,by lia,by lia,zl9 (lo:=0) (n:=((s:Nat):Int).toNat) (λi σ H3=>∃(g:List Nat) (v5 v6:Option V),σ=[some (.int st),some (.bl mi),some (.int s),some (.ref wa),some (.ref l),v5,v6]/\y2 H H3/\H3 l=some (.lst (tI g))/\TM.Sprd n (W.take s) (TM.dh s st (sgn mi)) i g)
  ⟨List.range n,none,none,rfl,s1,el,TM.Sprd.start⟩ ?_ ?_⟩
 ·rintro i σ H3 hi ⟨g,v5,v6,rfl,s3,h3l,sp⟩
  rw[show(0:Int)+(i:Int)=(i:Int) by lia]
  have hi:i<s:=by lia
  refine⟨_,rfl,_,rfl,_,_,rfl,rfl,?_⟩
  dsimp only[u9]
  refine D0 (λσ Hx=>∃t:Int,σ=[some (.int st),some (.bl mi),some (.int s),some (.ref wa),some (.ref l),some (.int i),some (.int t)]/\Hx=H3/\t=st+sgn mi*(i:Int)) ?_ λNx hNx=>?_
  ·rintro σ Hx ⟨t,rfl,rfl,ht⟩
   have gt:(TM.dh s st (sgn mi)).getD i 0=(t % (s:Int)).toNat:=by rw[TM.dh_get hs _ _ hi,←ht]
   have h0:=aY t (show(s:Int)≠0 by lia)
   have h1:=bv t (show(0:Int)<(s:Int) by lia)
   obtain⟨u,hu⟩:∃u:Nat,t % (s:Int)=(u:Int):=⟨(t % (s:Int)).toNat,by rw[bB h0]⟩
   have hus:u<s:=by lia
   rw[hu,cn]at gt
   have hWi:=gD i (by lia)
   have hWu:=gD u (by lia)
   have tWi:(W.take s)[i]?=some (W.getD i 0):=by rw[bK hi,hWi]
   have tWu:(W.take s)[u]?=some (W.getD u 0):=by rw[bK hus,hWu]
   have hgl:W.getD i 0<g.length:=by rw[sp.len];exact hW.lt (aw hWi)
   have stp:=sp.step hWt hWlt tWi
   rw[gt,TM.getD_of tWu]at stp
   refine⟨_,rfl,_,rfl,_,rfl,_,_,rfl,rfl,(by lia),wa,_,_,V.int ((W.getD u 0:Nat):Int),rfl,rfl,SqT.of (s3 _ _ hwa),?_,_,rfl,_,rfl,_,rfl,wa,_,_,_,rfl,rfl,SqT.of (s3 _ _ hwa),zb4 hWi,l,tI g,_,W.getD i 0,rfl,rfl,h3l,by rw[v0];exact zc6 hgl,?_⟩
   ·rw[hu]
    exact zb4 hWu
   exact⟨g.set (W.getD i 0) (W.getD u 0),_,_,rfl,o7 s3 hl0 _,by rw[z3,zr4],stp⟩
  cases mi with
  | false=>exact⟨_,rfl,false,rfl,o5 (hNx _ _ ⟨_,rfl,rfl,by show(i:Int)+st=st+1*(i:Int);lia⟩)⟩
  | true=>exact⟨_,rfl,true,rfl,i0 ⟨_,rfl,_,rfl,_,_,rfl,rfl,hNx _ _ ⟨_,rfl,rfl,by show st-(i:Int)=st + -1*(i:Int);lia⟩⟩⟩
 ·rintro σ H3 ⟨g,v5,v6,rfl,s3,h3l,sp⟩
  rw[cn]at sp
  have eg:=TM.sprd_eq hWt hWlt (by rw[hTl];exact sp)
  subst eg
  exact⟨_,rfl,l,_,rfl,.inl ⟨SqL.of h3l,λtp htp=>q tp _ (s3.free htp) (s3.trans (y3 htp _)) z3⟩⟩
def zm8:Sp:=λvs H Q _=>∃(c:Int) (s:Nat),vs=[.int c,.int s]/\3<=s/\∀st:Nat,Nat.gcd st s=1->st<=s+1->Q (.int st) H
theorem T8:y4 ["_law_number","_law_long","_law_steps"] ["_law_number","_law_long"] (z8 Q8):=scq
theorem zj8 (D:Def K mg "_law_first" Q8 ["_law_number","_law_long"] f fd)(B:Blt mg)(KD:Known P w K mg base 1 "_law_divisor" ["_law_one","_law_other"] zd1):v1 P w K mg base CX0 2 f fd ["_law_number","_law_long"] zm8:=by
 refine D.F.ok T8 (λvs H Q E h=>?_) (λcdv A outer s H vs Q E hr h=>?_)
 ·obtain⟨c,s,rfl,_⟩:=h
  rfl
 obtain⟨c,s,rfl,h3,q⟩:=h
 refine⟨_,z6 (x9 (i:=2) T8.nd rfl (Or.inl rfl) (w8 Q1 z9 (w8 p8 (pv 0) (pv 1))))
  (z6 (S7 PassesOwn.never (p6 zg6 (u4 KD hr rfl (z0 (pv 2) (z0 (pv 1) z4))) z9 (u3 _))
   (z7 (x9 (i:=2) T8.nd rfl (Or.inl rfl) (w8 Q1 (pv 2) z9))))
  (z7 (y9 (pv 2)))),?_⟩
 obtain⟨m0,em,hm⟩:=yl6 (c:=c) (k:=s) (by lia)
 refine⟨_,rfl,_,rfl,_,_,rfl,rfl,(by lia),_,_,rfl,rfl,?_⟩
 dsimp only[u9]
 rw[em]
 refine⟨λm σ H4=>∃t:Nat,σ=[some (.int c),some (.int s),some (.int t)]/\H4=H/\t<=s+1/\m=s+1-t,⟨_,1+m0,by rw[bW];rfl,rfl,by lia,rfl⟩,?_⟩
 rintro m σ H4 ⟨t,rfl,rfl,ht,rfl⟩
 refine⟨_,rfl,_,rfl,t,s,rfl,rfl,_,rfl,?_⟩
 rw[p0]
 by_cases h1:Nat.gcd t s=1
 ·rw[decide_eq_true (by rw[h1];rfl)]
  exact o5 ⟨_,rfl,q t h1 ht⟩
 ·rw[decide_eq_false (by lia)]
  have hlt:t≠s+1:=λe=>h1 (by rw[e,be,Nat.gcd_rec,Nat.add_mod_left,dq (show 1<s by lia)];exact Nat.gcd_one_left _)
  refine i0 ⟨_,λσ' H' z=>z,?_⟩
  refine⟨_,rfl,_,_,rfl,rfl,?_⟩
  exact⟨s+1-(t+1),by lia,t+1,by rw[bW];rfl,rfl,by lia,rfl⟩
theorem yk9 {H:Hp}{x dx b cG:Addr}{o:HO}(hx:H x=none)(hd:H dx=none)(h:H b=some o):(upd (upd H dx (.own x)) x (.ins cG dx [])) b=some o:=by
 rw[z5 (y0 h hx),z5 (y0 h hd)]
 exact h
theorem tsU {H:Hp}{x dx cG:Addr}{as:List Addr}{ts:List (List Nat)}(hx:H x=none)(hd:H dx=none)(h:h8 H as ts):h8 (upd (upd H dx (.own x)) x (.ins cG dx [])) as ts:=Paired.imp' (λb z e=>yk9 hx hd e) h
theorem xc1 {H H':Hp}{x dx cG:Addr}(hx:H x=none)(hd:H dx=none)(fr:y1 [x] (upd (upd H dx (.own x)) x (.ins cG dx [])) H'):y2 H H':=λb u h=>fr b u (by simpa using y0 h hx) (yk9 hx hd h)
structure yu2 (s:Nat) (rs:List (List Nat)):Prop where
 len:rs.length=2
 dd:∀x∈rs,TM.DD s x
 all:∃(st:Nat) (c:Int),Nat.gcd st s=1/\TM.Grp s (λz=>z∈rs) (TM.dh s (st:Int) 1)/\TM.Grp s (λz=>z∈rs) (TM.dh s c (-1))
def zi5:Sp:=λvs H Q _=>∃(wa:Addr) (c:Int) (s n:Nat) (W:List Nat),vs=[.int c,.int s,.ref wa]/\H wa=some (.tup (tI W))/\TM.IsT n W/\3<=s/\s<=n/\n<=60/\∀(l:Addr) (as:List Addr) (rs:List (List Nat)) (H':Hp),H l=none->y2 H H'->H' l=some (.lst (as.map V.ref))->h8 H' as (rs.map (TM.sp n (W.take s)))->yu2 s rs->Q (.ref l) H'
theorem U5:y4 ["_law_number","_law_long","_law_spots","_law_steps","_law_put"] ["_law_number","_law_long","_law_spots"] (z8 T6):=scq
theorem zg4 (D:Def K mg "_law_makers" T6 ["_law_number","_law_long","_law_spots"] f fd)(B:Blt mg)(KF:Known P w K mg base 2 "_law_first" ["_law_number","_law_long"] zm8)(KR:Known P w K mg base 1 "_law_round" ["_law_steps","_law_mirror","_law_long","_law_spots"] A8):v1 P w K mg base CX0 3 f fd ["_law_number","_law_long","_law_spots"] zi5:=by
 refine D.F.ok U5 (λvs H Q E h=>?_) (λcdv A outer s H vs Q E hr h=>?_)
 ·obtain⟨wa,c,s,n,W,rfl,_⟩:=h
  rfl
 obtain⟨wa,c,s,n,W,rfl,hwa,hW,h3,hsn,hn,q⟩:=h
 refine⟨_,z6 (x9 (i:=3) U5.nd rfl (Or.inl rfl) (u4 KF hr rfl (z0 (w8 X8 (pv 0) z9) (z0 (pv 1) z4))))
  (z6 (x9 (i:=4) U5.nd rfl (Or.inl rfl) (w8 p8 (w8 X8 (pv 0) z9) (pv 1)))
  (z6 (n6 (p6 W2 (w8 p8 (pv 0) z9) z9 (u3 _)) (z7 (y9 (c9 (z0 (u4 KR hr rfl (z0 (pv 3) (z0 V0 (z0 (pv 1) (z0 (pv 2) z4))))) (z0 (u4 KR hr rfl (z0 (pv 4) (z0 V0 (z0 (pv 1) (z0 (pv 2) z4))))) z4))))) u6)
  (z7 (y9 (c9 (z0 (u4 KR hr rfl (z0 (pv 4) (z0 V0 (z0 (pv 1) (z0 (pv 2) z4))))) (z0 (u4 KR hr rfl (z0 (w8 Q1 (pv 4) (pv 3)) (z0 V0 (z0 (pv 1) (z0 (pv 2) z4))))) z4))))))),?_⟩
 refine⟨_,rfl,_,_,rfl,rfl,⟨by decide,by decide⟩,_,rfl,_,s,rfl,h3,λst hg hst=>?_⟩
 dsimp only[u9]
 refine⟨_,rfl,_,_,rfl,rfl,⟨by decide,by decide⟩,_,rfl,_,_,rfl,rfl,(by lia),?_⟩
 dsimp only[u9]
 generalize c / 120 % (s:Int)=pu
 have hs:0<s:=by lia
 have fin:∀(d1 d2:List Nat) (r1 r2 l:Addr) (Ha:Hp),y2 H Ha->Ha r1=some (.tup (tI (TM.sp n (W.take s) d1)))->Ha r2=some (.tup (tI (TM.sp n (W.take s) d2)))->yu2 s [d1,d2]->Ha l=none->Q (.ref l) (upd Ha l (.lst [V.ref r1,V.ref r2])):=λd1 d2 r1 r2 l Ha sa h1 h2 tw hl =>
  q l [r1,r2] [d1,d2] _ (sa.free hl) (sa.trans (y3 hl _)) z3 (.cons (y3 hl _ _ _ h1) (.cons (y3 hl _ _ _ h2) .nil)) tw
 refine⟨_,rfl,_,_,rfl,rfl,(by show(0:Int)<2;decide),rfl,_,rfl,yf9 (λ_=>?_) λ_=>?_⟩
 ·refine⟨_,rfl,_,rfl,_,rfl,wa,_,false,s,n,W,rfl,hwa,hW,hs,hsn,hn,λr1 H1 hr10 s1 hr1=>?_⟩
  refine⟨_,rfl,_,rfl,_,rfl,wa,_,true,s,n,W,rfl,s1 _ _ hwa,hW,hs,hsn,hn,λr2 H2 hr20 s2 hr2=>?_⟩
  refine⟨(by show 2<=eU;decide),λl hl=>fin _ _ r1 r2 l H2 (s1.trans s2) (s2 _ _ hr1) hr2 ⟨rfl,λx hx=>?_,st,pu,hg,?_,?_⟩ hl⟩
  ·simp only[au,aH,or_false]at hx
   rcases hx with rfl|rfl
   ·exact⟨_,_,P4 _,rfl⟩
   ·exact⟨_,_,P4 _,rfl⟩
  all_goals
   refine TM.Grp.of (S:=λz=>z∈[TM.dh s (st:Int) (sgn false),TM.dh s pu (sgn true)]) (λx hx=>?_) (by simp[sgn])
   simp only[au,aH,or_false]at hx
   rcases hx with rfl|rfl <;> exact TM.dh_isT hs _ (P4 _)
 ·refine⟨_,rfl,_,rfl,_,rfl,wa,_,true,s,n,W,rfl,hwa,hW,hs,hsn,hn,λr1 H1 hr10 s1 hr1=>?_⟩
  refine⟨_,rfl,_,rfl,_,_,rfl,rfl,_,rfl,_,rfl,wa,_,true,s,n,W,rfl,s1 _ _ hwa,hW,hs,hsn,hn,λr2 H2 hr20 s2 hr2=>?_⟩
  have hT:∀x∈[TM.dh s pu (sgn true),TM.dh s (pu+(st:Int)) (sgn true)],TM.IsT s x:=λx hx=>by
   simp only[au,aH,or_false]at hx
   rcases hx with rfl|rfl <;> exact TM.dh_isT hs _ (P4 _)
  have g1:TM.Grp s (λz=>z∈[TM.dh s pu (sgn true),TM.dh s (pu+(st:Int)) (sgn true)]) (TM.dh s pu (sgn true)):=TM.Grp.of hT (by simp)
  have g2:TM.Grp s (λz=>z∈[TM.dh s pu (sgn true),TM.dh s (pu+(st:Int)) (sgn true)]) (TM.dh s (pu+(st:Int)) (sgn true)):=TM.Grp.of hT (by simp)
  refine⟨(by show 2<=eU;decide),λl hl=>fin _ _ r1 r2 l H2 (s1.trans s2) (s2 _ _ hr1) hr2 ⟨rfl,λx hx=>?_,st,pu,hg,?_,g1⟩ hl⟩
  ·simp only[au,aH,or_false]at hx
   rcases hx with rfl|rfl
   ·exact⟨_,_,P4 _,rfl⟩
   ·exact⟨_,_,P4 _,rfl⟩
  ·have:=TM.Grp.beh hT g1 g2
   rw[TM.dh_beh hs,show sgn true*sgn true=1 from rfl,show pu+(st:Int)+sgn true*pu=(st:Int) by show pu+(st:Int) + -1*pu=(st:Int);lia]at this
   exact this
def n8 (v:Nat):List Nat:=if v=0 then[1] else(List.range v).map λi=>2 ^ (i+1)
def zi6:Sp:=λvs H Q _=>∃s:Nat,vs=[.int s]/\0<s/\s<=60/\∀(l:Addr) (v q':Nat) (H':Hp),TM.Pw s v q'->v<6->y2 H H'->H' l=some (.lst (tI (n8 v)))->Q (.ref l) H'
theorem M7:y4 ["_law_long","_law_shares_here"] ["_law_long"] (z8 T7):=scq
theorem zg5 (D:Def K mg "_law_shares" T7 ["_law_long"] f fd)(B:Blt mg)(KD:Known P w K mg base 1 "_law_divisor" ["_law_one","_law_other"] zd1):v1 P w K mg base CX0 2 f fd ["_law_long"] zi6:=by
 refine D.F.ok M7 (λvs H Q E h=>?_) (λcdv A outer s H vs Q E hr h=>?_)
 ·obtain⟨s,rfl,_⟩:=h
  rfl
 obtain⟨s,rfl,hs,h60,q⟩:=h
 refine⟨_,z6 (x9 (i:=1) M7.nd rfl (Or.inl rfl) (c9 (z0 z9 z4)))
  (z6 (S7 PassesOwn.never (p6 yn1 (u4 KD hr rfl (z0 (pv 0) (z0 (w8 B4 z9 (o4 t9 (pv 1) (zg9 G7 z9) (λ_ _=>rfl))) z4))) (o4 t9 (pv 1) (zg9 G7 z9) (λ_ _=>rfl)) (u3 _))
   (z7 (p5 (U8 PySem.F.plainAttrs_list PySem.F.slot_list_append PySem.F.type_list_append d0 (pv 1) (z0 (w8 B4 z9 (o4 t9 (pv 1) (zg9 G7 z9) (λ_ _=>rfl))) z4)))))
  (z6 (n6 (p6 W2 (v8 u7 rfl B.len Y8 (z0 (pv 1) z4)) z9 (u3 _)) (z7 (y9 (c9 (z0 z9 z4)))) u6)
  (z7 (y9 (D1 zd0 (pv 1) (L7 z9) yc6))))),?_⟩
 refine⟨(by show 1<=eU;decide),λl hl=>?_⟩
 have s1:=y3 hl (.lst [V.int 1])
 have e1:(upd H l (.lst [V.int 1])) l=some (.lst (tI ((List.range (0+1)).map λi=>2 ^ i))):=z3
 generalize upd H l (.lst [V.int 1])=H1 at s1 e1 ⊢
 dsimp only[u9]
 refine⟨λm σ H4=>∃k q':Nat,σ=[some (.int s),some (.ref l)]/\y2 H H4/\H4 l=some (.lst (tI ((List.range (k+1)).map λi=>2 ^ i)))/\s=2 ^ k*q'/\m=q',⟨_,0,s,rfl,s1,e1,by rw[Nat.pow_zero,cx],rfl⟩,?_⟩
 rintro m σ H4 ⟨k,q',rfl,s4,e4,hk,hm⟩
 have q0:0<q':=Nat.pos_of_ne_zero λz=>by rw[z,Nat.mul_zero]at hk;lia
 have hle:2 ^ k<=s:=by rw[hk];exact Nat.le_mul_of_pos_right _ q0
 have hk6:k<6:=Nat.lt_of_not_le λz=>by
  have:2 ^ 6<=2 ^ k:=bN (by decide) z
  lia
 have hlast:atI (tI ((List.range (k+1)).map λi=>2 ^ i)) (-1)=some (V.int ((2 ^ k:Nat):Int)):=by
  rw[du,aF,R1]
  exact F0 _ _
 have e2:(2:Int)*((2 ^ k:Nat):Int)=((2 ^ (k+1):Nat):Int):=by rw[bS,br];lia
 have hg:Nat.gcd s (2 ^ (k+1))=2 ^ k*Nat.gcd q' 2:=by
  conv=>lhs;rw[hk,bS]
  exact Nat.gcd_mul_left _ _ _
 refine⟨_,rfl,_,rfl,_,rfl,l,_,_,_,rfl,rfl,SqL.of e4,hlast,_,_,rfl,rfl,.inl ⟨by decide,by decide⟩,s,2 ^ (k+1),by rw[←e2];rfl,_,rfl,_,rfl,l,_,_,_,rfl,rfl,SqL.of e4,hlast,_,_,rfl,rfl,_,rfl,?_⟩
 rw[hg]
 have pk:0<2 ^ k:=Nat.two_pow_pos _
 rcases Nat.mod_two_eq_zero_or_one q' with ho|ho
 ·have g2:Nat.gcd q' 2=2:=by rw[be,Nat.gcd_rec,ho];rfl
  rw[g2,decide_eq_true (show((2 ^ k*2:Nat):Int) > ((2 ^ k:Nat):Int) by lia)]
  refine i0 ⟨_,λσ' H' z=>z,?_⟩
  refine⟨_,rfl,.inl ⟨rfl,_,SqL.of e4⟩,_,rfl,_,rfl,l,_,_,_,rfl,rfl,SqL.of e4,hlast,_,_,rfl,rfl,.inl ⟨by decide,by decide⟩,l,_,_,rfl,rfl,e4,by rw[v0,aa,az];exact bX (show k+1<=6 by lia) (by decide),?_⟩
  refine⟨q' / 2,by rw[hm];lia,k+1,q' / 2,rfl,o7 s4 hl _,?_,?_,rfl⟩
  ·rw[z3,du (n:=k+1),aF,R1]
   show some (HO.lst (tI ((List.range (k+1)).map λi=>2 ^ i)++[V.int (2*((2 ^ k:Nat):Int))]))=some (HO.lst (tI ((List.range (k+1)).map λi=>2 ^ i)++[V.int ((2 ^ (k+1):Nat):Int)]))
   rw[e2]
  ·rw[bS,cJ,show 2*(q' / 2)=q' by lia]
   exact hk
 ·have g1:Nat.gcd q' 2=1:=by rw[be,Nat.gcd_rec,ho];rfl
  rw[g1,cI,decide_eq_false (by lia)]
  refine o5 ?_
  refine⟨_,rfl,l,_,rfl,.inl (SqL.of e4),rfl,_,rfl,?_⟩
  rw[v0,aa,az,p0]
  by_cases h0:k=0
  ·subst h0
   rw[decide_eq_true (show(((0+1:Nat)):Int)=1 from rfl)]
   refine i0 ⟨(by show 1<=eU;decide),λl2 hl2=>?_⟩
   exact q l2 0 q' _ ⟨hk,ho⟩ (by decide) (s4.trans (y3 hl2 _)) z3
  ·rw[decide_eq_false (by lia)]
   refine o5 ⟨_,rfl,_,rfl,l,_,rfl,SqL.of e4,λl2 hl2=>?_⟩
   refine q l2 k q' _ ⟨hk,ho⟩ hk6 (s4.trans (y3 hl2 _)) ?_
   rw[z3]
   congr 2
   rw[List.range_succ_eq_map,aT]
   refine(xd9 (tI _) (V.int _)).trans ?_
   unfold n8
   rw[if_neg h0,ca]
   rfl
theorem zz7 {pos:Pos}{q:Str}{H:Hp}{P:Addr}(h:TbO pos q H P):∃ps,H P=some (.tbl ps):=by
 rcases h with h|⟨c,h,_⟩ <;> exact⟨_,h⟩
theorem K1 {pos:Pos}{q:Str}{H H':Hp}{P y:Addr}{ps:Array Value}(h:TbO pos q H P)(fr:y1 [y] H H')(hy:H y=some (.tbl ps))(hn:P≠y):TbO pos q H' P:=by
 rcases h with h|⟨c,h,h2⟩
 ·exact .inl (fr _ _ (λz=>hn (ae.mp z)) h)
 ·exact .inr ⟨c,fr _ _ (λz=>hn (ae.mp z)) h,J1 fr hy (.inl ⟨_,rfl⟩) h2⟩
theorem A9 {K:W.Frag}{H H':Hp}{a y:Addr}{xs:List V}{ps:Array Value}(h:SqL K H a xs)(fr:y1 [y] H H')(hy:H y=some (.tbl ps)):SqL K H' a xs:=by
 have kp:∀{b:Addr} {o:HO},H b=some o->(∀ps,o≠.tbl ps)->H' b=some o:=λ{b o} e ne=>fr b o (λz=>by rw[ae.mp z,hy]at e;cases e;exact ne _ rfl) e
 rcases h with (h|⟨o,h⟩)|h
 ·exact .inl (.inl (kp h nofun))
 ·exact .inl (.inr ⟨o,kp h nofun⟩)
 ·exact .inr h
structure G9 (K:PySem.W.Frag) (cG cC cB cS pS pL sc g lu ld sa ls:Addr) (n:Nat) (xs:List V) (ts:List (List Nat)) (S:ChS) (uas das:List Addr) (ugs dgs:List (List (List Nat))) (W sh:List Nat) (H:Hp):Prop where
 sq:SqL K H sc xs
 g':x0 cG cC cB cS n H g ts S
 u:H lu=some (.lst (uas.map V.ref))
 uc:C3 cG cC cB cS n H uas ugs
 d:H ld=some (.lst (das.map V.ref))
 dc:C3 cG cC cB cS n H das dgs
 s:H sa=some (.tup (tI W))
 l:H ls=some (.lst (tI sh))
 a:TbO (Q0 f7) (zo6 "stairs") H pS
 b:TbO (Q0 i6) (zo6 "slopes") H pL
section
variable {K:PySem.W.Frag}{cG cC cB cS pS pL sc g lu ld sa ls y:Addr}{n:Nat}{xs:List V}{ts:List (List Nat)}{S:ChS}{uas das:List Addr}{ugs dgs:List (List (List Nat))}{W sh:List Nat}{H H':Hp}{ps:Array Value}
theorem G9.same (h:G9 K cG cC cB cS pS pL sc g lu ld sa ls n xs ts S uas das ugs dgs W sh H)(s:y2 H H'):G9 K cG cC cB cS pS pL sc g lu ld sa ls n xs ts S uas das ugs dgs W sh H' :=
 ⟨s.seq h.sq,h.g'.same s,s _ _ h.u,h.uc.same s,s _ _ h.d,h.dc.same s,s _ _ h.s,s _ _ h.l,R3 h.a s,R3 h.b s⟩
theorem G9.step (h:G9 K cG cC cB cS pS pL sc g lu ld sa ls n xs ts S uas das ugs dgs W sh H)(fr:y1 [y] H H')(hy:H y=some (.tbl ps))(a:TbO (Q0 f7) (zo6 "stairs") H' pS)(b:TbO (Q0 i6) (zo6 "slopes") H' pL):G9 K cG cC cB cS pS pL sc g lu ld sa ls n xs ts S uas das ugs dgs W sh H':=by
 have kp:∀{b:Addr} {o:HO},H b=some o->(∀ps,o≠.tbl ps)->H' b=some o:=λ{b o} e ne=>fr b o (λz=>by rw[ae.mp z,hy]at e;cases e;exact ne _ rfl) e
 exact⟨A9 h.sq fr hy,h.g'.keepA fr hy (.inl ⟨_,rfl⟩),kp h.u nofun,h.uc.keepA fr hy (.inl ⟨_,rfl⟩),kp h.d nofun,h.dc.keepA fr hy (.inl ⟨_,rfl⟩),kp h.s nofun,kp h.l nofun,a,b⟩
end
theorem yc9 {s n:Nat}{F:List Nat->List Nat}(hF:TM.Hom s n F){gs fs:List (List (List Nat))}(hl:gs.length=fs.length)(h:∀(i:Nat) (t f:List (List Nat)),gs[i]?=some t->fs[i]?=some f->TM.Alk s n F t f):gs.map (TM.gM n)=fs.map (TM.gM s):=by
 apply bM
 intro i
 rw[ag,ag]
 by_cases hi:i<gs.length
 ·have e1:=ac hi
  have e2:=ac (show i<fs.length by lia)
  rw[e1,e2]
  exact congrArg some ((h i _ _ e1 e2).size hF)
 ·rw[aP (by lia),aP (by lia)]
  rfl
theorem yx4 {s v q:Nat}(hs:0<s)(hv:TM.Pw s v q):(List.range (max 1 v)).map (λi=>TM.gM s (TM.slp s i))=(n8 v).map λx=>s / x:=by
 unfold n8
 by_cases h:v=0
 ·subst h
  rw[if_pos rfl]
  have o:s % 2=1:=by rw[hv.e,Nat.pow_zero,cx];exact hv.o
  show [TM.gM s [TM.dh s 2 1]]=[s / 1]
  rw[TM.gM_even hs,show Nat.gcd s 2=1 by rw[be,Nat.gcd_rec,o];rfl]
 ·rw[if_neg h,show max 1 v=v by lia,ca]
  refine bA λi hi=>?_
  exact TM.gM_slp hs hv (aG.mp hi)
theorem Alk.at' {s n:Nat}{F:List Nat->List Nat}(hF:TM.Hom s n F){t f:List (List Nat)}(a:TM.Alk s n F t f){x:List Nat}(hx:TM.IsT s x):TM.Grp n (λz=>z∈t) (F x)↔TM.Grp s (λz=>z∈f) x:=by
 rw[a.al]
 exact⟨λ⟨y,hy,e⟩=>by rw[hF.inj x y hx (hy.isT a.fT) e];exact hy,λh=>⟨x,h,rfl⟩⟩
theorem yo8 {v j:Nat}(hj:j<max 1 v):(n8 v)[j]?=some (if v=0 then 1 else 2 ^ (j+1)):=by
 unfold n8
 by_cases h:v=0
 ·subst h
  obtain rfl:j=0:=by lia
  rfl
 ·rw[if_neg h,if_neg h,ag,aM (by lia)]
  rfl
theorem i9:y4 ["_law_script","_law_number","_law_long","_law_many","_law_spots","_law_makers_here","_law_cell","_law_group","_law_up","_law_down","_law_shares_here","_law_half","_law_lows","_law_steps","_law_one","_law_at","_law_calm"] ["_law_script"] (z8 zb1):=scq
theorem yx7 {cG cC cB cS c1 c2 pS pL:Addr}(D:Def K mg "law" zb1 ["_law_script"] f fd)(B:Blt mg)(t1:PySem.W.tabIn K "stairs"=some (c1,pS))(t2:PySem.W.tabIn K "slopes"=some (c2,pL))(hpp:pS≠pL)(cg:p7 K cG Z7)(KG:zn4 P w K mg base 7 cG "Group" ["self","many","makers"] (zi4 cG cC cB cS))(MS:h7 P w K mg base 2 cG "size" ["self"] (L9 cG cC cB cS))(MH:h7 P w K mg base 4 cG "has" ["self","thing"] (yo9 cG cC cB cS))
  (KC:Known P w K mg base 1 "_law_cell_at" ["_law_script","_law_k"] (zv0 K)) (KT:Known P w K mg base 1 "_law_turning" ["_law_cell","_law_many"] zn0) (KDi:Known P w K mg base 1 "_law_divisor" ["_law_one","_law_other"] zd1) (KR:Known P w K mg base 1 "_law_round" ["_law_steps","_law_mirror","_law_long","_law_spots"] A8) (KMk:Known P w K mg base 3 "_law_makers" ["_law_number","_law_long","_law_spots"] zi5) (KSh:Known P w K mg base 2 "_law_shares" ["_law_long"] zi6)
  (KSt:Known P w K mg base 14 "stairs" ["group"] (R0 "stairs" f7 pS (λn _=>TM.nxS n) cG cC cB cS)) (KSl:Known P w K mg base 14 "slopes" ["group"] (R0 "slopes" i6 pL TM.nxD cG cC cB cS)) (KTa:Known P w K mg base 15 "is_tame" ["group"] (zr1 "stairs" f7 pS (λn _=>TM.nxS n) cG cC cB cS)) (KCa:Known P w K mg base 15 "is_calm" ["group"] (zr1 "slopes" i6 pL TM.nxD cG cC cB cS)):v1 P w K mg base CX0 16 f fd ["_law_script"] (zz1 ["stairs","slopes"] K):=by
 refine D.F.ok i9 (λvs H Q E h=>?_) (λcdv A outer s H vs Q E hr h=>?_)
 ·obtain⟨a,ns,rfl,_⟩:=h
  rfl
 obtain⟨a,ns,rfl,hS,h63,hbits,htb,q⟩:=h
 have hp1:H pS=some (.tbl #[]):=htb "stairs" (by simp) _ _ t1
 have hp2:H pL=some (.tbl #[]):=htb "slopes" (by simp) _ _ t2
 refine⟨_,DSs.h (p4 (DS.mk (x9 (i:=1) i9.nd rfl (Or.inl rfl) (w8 p8 (w8 B4 (w8 p8 (u4 KC hr rfl (z0 (pv 0) (z0 z9 z4))) (w8 J7 z9 z9)) z9) z9)))
  (p4 (DS.mk (x9 (i:=2) i9.nd rfl (Or.inr rfl) (w8 Q1 z9 (w8 p8 (pv 1) z9))))
  (p4 (DS.mk (n6 (p6 W2 (w8 p8 (w8 X8 (pv 1) z9) z9) z9 (u3 _)) (z7 (x9 (i:=2) i9.nd rfl (Or.inr rfl) (w8 Q1 z9 (w8 p8 (w8 X8 (pv 1) z9) z9)))) u6))
  (p4 (DS.mk (x9 (i:=3) i9.nd rfl (Or.inl rfl) (v8 (ye9 rfl) rfl B.min yv8 (z0 z9 (z0 (w8 Q1 (pv 2) (w8 p8 (w8 X8 (pv 1) z9) z9)) z4)))))
  (p4 (DS.mk (x9 (i:=4) i9.nd rfl (Or.inl rfl) (u4 KT hr rfl (z0 (u4 KC hr rfl (z0 (pv 0) (z0 z9 z4))) (z0 (pv 3) z4)))))
  (p4 (DS.mk (x9 (i:=5) i9.nd rfl (Or.inl rfl) (u4 KMk hr rfl (z0 (w8 p8 (w8 B4 (w8 p8 (u4 KC hr rfl (z0 (pv 0) (z0 z9 z4))) (w8 J7 z9 z9)) z9) z9) (z0 (pv 2) (z0 (pv 4) z4))))))
  (p4 (DS.mk (Q3 PassesOwn.never rfl (d6 (D1 zd0 (pv 0) (L7 z9) (L7 z9))) (k8 (i:=6) i9.nd rfl (Or.inl rfl))
   (z7 (p5 (U8 PySem.F.plainAttrs_list PySem.F.slot_list_append PySem.F.type_list_append d0 (pv 5) (z0 (u4 KR hr rfl (z0 (w8 X8 (w8 p8 (pv 6) (w8 J7 z9 z9)) z9) (z0 (l7 W2 (w8 p8 (pv 6) z9) z9 (u3 _)) (z0 (pv 2) (z0 (pv 4) z4))))) z4))))))
  (p4 (DS.mk (x9 (i:=7) i9.nd rfl (Or.inl rfl) (J8 KG hr rfl (z0 (pv 3) (z0 (pv 5) z4)))))
  (p4 (DS.mk (x9 (i:=8) i9.nd rfl (Or.inl rfl) (u4 KSt hr rfl (z0 (pv 7) z4))))
  (p4 (DS.mk (x9 (i:=9) i9.nd rfl (Or.inl rfl) (u4 KSl hr rfl (z0 (pv 7) z4))))
  (p4 (DS.mk (x9 (i:=10) i9.nd rfl (Or.inl rfl) (u4 KSh hr rfl (z0 (pv 2) z4))))
  (p4 (DS.mk (x9 (i:=11) i9.nd rfl (Or.inl rfl) (w8 X8 (pv 2) (u4 KDi hr rfl (z0 (pv 2) (z0 z9 z4))))))
  (p4 (DS.mk (x9 (i:=12) i9.nd rfl (Or.inl rfl) (w8 yy1 (c9 (z0 (w8 B4 z9 (pv 2)) z4)) (i5 [2] ["_law_share","_law_long"] rfl (d6 (pv 10)) (λ_ _ _ _=>w8 X8 (pv 1) (pv 0))))))
  (p4 (DS.mk (n6 (PW.pt (zu5 (T2 (Z9 (v8 d9 rfl B.isinstance n4 (z0 (pv 8) (z0 (Q2 (v:=.ty "list") rfl B.list X5 rfl) z4))))) (zh5 (p6 (yn4 hr.units) (i5 [] ["_law_one"] rfl (d6 (pv 8)) (λ_ _ _ _=>c3 cg.cls MS hr (pv 0))) (c9 (z0 (w8 B4 z9 (pv 2)) (z0 (pv 11) (z0 z9 z4)))) (u3 _))))) (z7 (y9 V0)) u6))
  (p4 (DS.mk (n6 (PW.pt (zu5 (T2 (Z9 (v8 d9 rfl B.isinstance n4 (z0 (pv 9) (z0 (Q2 (v:=.ty "list") rfl B.list X5 rfl) z4))))) (zh5 (p6 (yn4 hr.units) (i5 [] ["_law_one"] rfl (d6 (pv 9)) (λ_ _ _ _=>c3 cg.cls MS hr (pv 0))) (pv 12) (u3 _))))) (z7 (y9 V0)) u6))
  (p4 (DS.mk (Q3 PassesOwn.never rfl (d6 (D1 zd0 (pv 0) (L7 z9) (L7 z9))) (k8 (i:=6) i9.nd rfl (Or.inl rfl))
   (z6 (x9 (i:=13) i9.nd rfl (Or.inl rfl) (w8 X8 (w8 p8 (pv 6) (w8 J7 z9 z9)) z9))
   (z6 (x9 (i:=14) i9.nd rfl (Or.inl rfl) (u4 KR hr rfl (z0 (pv 13) (z0 (l7 W2 (w8 p8 (pv 6) z9) z9 (u3 _)) (z0 (pv 2) (z0 (pv 4) z4))))))
   (z6 (x9 (i:=15) i9.nd rfl (Or.inl rfl) (w8 p8 (w8 X8 (pv 13) z9) (v8 u7 rfl B.len Y8 (z0 (pv 9) z4))))
   (z6 (n6 (p6 zg6 (c7 cg.cls MH hr (o4 t9 (pv 9) (pv 15) (λ_ _=>rfl)) (z0 (pv 14) z4)) (xb8 (l7 W2 (pv 15) z9 (u3 _)) (M2 (M1 (l7 zg6 (w8 p8 (pv 6) z9) z9 (u3 _)) (M2 (l7 W2 (w8 p8 (pv 13) (o4 t9 (pv 10) (w8 zg7 (pv 15) z9) (λ_ _=>rfl))) z9 (u3 _)))))) (u3 _)) (z7 (y9 V0)) u6)
   (z7 (n6 (p6 zg6 (c7 cg.cls MH hr (o4 t9 (pv 8) z9 (λ_ _=>rfl)) (z0 (pv 14) z4)) (M1 (l7 zg6 (w8 p8 (pv 6) z9) z9 (u3 _)) (M2 (l7 W2 (w8 p8 (pv 13) (u4 KDi hr rfl (z0 (pv 2) (z0 z9 z4)))) z9 (u3 _)))) (u3 _)) (z7 (y9 V0)) u6))))))))
  (p4 (DS.mk (x9 (i:=16) i9.nd rfl (Or.inl rfl) (u4 KCa hr rfl (z0 (pv 7) z4))))
  (DSs.mk (z7 (y9 (M1 (l7 yn2 (u4 KTa hr rfl (z0 (pv 7) z4)) V0 (u3 _)) (M1 (v8 d9 rfl B.isinstance n4 (z0 (pv 16) (z0 (Q2 (v:=.ty "bool") rfl B.bool ya4 rfl) z4))) (M2 (l7 W2 (pv 16) (l7 W2 (o4 t9 (pv 10) (zg9 G7 z9) (λ_ _=>rfl)) (pv 2) (u3 _)) (u3 _))))))))))))))))))))))))),?_⟩
 have seqS:∀H2:Hp,y2 H H2->SqL K H2 a (ns.map V.int):=λH2 s2=>s2.seq hS
 refine⟨_,rfl,a,ns,0,rfl,hS,_,_,rfl,rfl,⟨by decide,by decide,by decide⟩,_,_,rfl,rfl,(by show(0:Int)<10 ^ Int.toNat 60;decide),_,_,rfl,rfl,.inr ⟨by decide,by decide⟩,_,_,rfl,rfl,(by show(0:Int)<2147483647;decide),?_⟩
 dsimp only[u9]
 obtain⟨z,hz⟩:∃z:Int,z=ns.getD 0 0 % 10 ^ Int.toNat 60*48271 % 2147483647:=⟨_,rfl⟩
 rw[←hz]
 obtain⟨k22,ek22,hk22⟩:=yl6 (c:=z) (k:=22) (by decide)
 have ek22:z % 22=(k22:Int):=ek22
 refine⟨_,rfl,_,_,rfl,rfl,(by show(0:Int)<22;decide),_,_,rfl,rfl,?_⟩
 dsimp only[u9]
 rw[ek22]
 obtain⟨k58,ek58,hk58⟩:=yl6 (c:=z / 176) (k:=58) (by decide)
 have ek58:z / 176 % 58=(k58:Int):=ek58
 refine D0 (λσ Hx=>∃s:Nat,σ=[some (.ref a),some (.int z),some (.int s),none,none,none,none,none,none,none,none,none,none,none,none,none,none]/\Hx=H/\3<=s/\s<=60) ?_ λNx hNx=>?_
 rotate_left
 ·refine⟨_,rfl,_,_,rfl,rfl,⟨by decide,by decide⟩,_,_,rfl,rfl,(by show(0:Int)<8;decide),rfl,_,rfl,yf9 (λ_=>?_) λ_=>?_⟩
  ·refine⟨_,rfl,_,_,rfl,rfl,⟨by decide,by decide⟩,_,_,rfl,rfl,(by show(0:Int)<58;decide),_,_,rfl,rfl,?_⟩
   dsimp only[u9]
   rw[ek58]
   exact hNx _ _ ⟨3+k58,by rw[bW];rfl,rfl,by lia,by lia⟩
  ·exact hNx _ _ ⟨3+k22,by rw[bW];rfl,rfl,by lia,by lia⟩
 rintro σ Hx ⟨s,rfl,hHx,h3,h60⟩
 subst hHx
 have hs:0<s:=by lia
 obtain⟨b4,eb4,hb4⟩:=yl6 (c:=z / 10208) (k:=4) (by decide)
 have eb4:z / 10208 % 4=(b4:Int):=eb4
 refine⟨_,rfl,_,rfl,_,_,rfl,rfl,⟨by decide,by decide⟩,_,_,rfl,rfl,(by show(0:Int)<4;decide),_,_,rfl,rfl,_,_,rfl,?_⟩
 dsimp only[u9]
 obtain⟨n,hn⟩:∃n:Nat,n=min 60 (s+b4):=⟨_,rfl⟩
 rw[eb4,show(if (s:Int)+(b4:Int)<60 then(s:Int)+(b4:Int) else 60)=((n:Nat):Int) by split <;> lia]
 have hsn:s<=n:=by lia
 have hn60:n<=60:=by lia
 refine⟨_,rfl,a,ns,1,rfl,hS,_,rfl,_,n,rfl,by lia,λsa H2 W hsa0 s2 hW hsa=>?_⟩
 dsimp only[u9]
 refine⟨_,rfl,a,ns,1,rfl,seqS _ s2,_,_,rfl,rfl,⟨by decide,by decide,by decide⟩,_,_,rfl,rfl,(by show(0:Int)<10 ^ Int.toNat 60;decide),_,_,rfl,rfl,.inr ⟨by decide,by decide⟩,_,_,rfl,rfl,(by show(0:Int)<2147483587;decide),_,rfl,_,rfl,sa,_,s,n,W,rfl,hsa,hW,h3,hsn,hn60,λml mas0 rs0 H3 hml0' s3 hml hmas tw=>?_⟩
 dsimp only[u9]
 have s03:=s2.trans s3
 have hml0:=s2.free hml0'
 have hWt:(W.take s).Nodup:=List.Nodup.sublist (cF _ _) hW.nodup
 have hWlt:∀x∈W.take s,x<n:=λx hx=>hW.lt (bH hx)
 have hTl:(W.take s).length=s:=by rw[bj,hW.length];lia
 have hF:TM.Hom s n (TM.sp n (W.take s)):=by
  have:=TM.sp_hom hWt hWlt
  rwa [hTl]at this
 obtain⟨ms2,ems2,hms2⟩:∃ms:List Int,zb5 (ns.map V.int) (some 2) (some 5)=ms.map V.int/\ms.length<=63:=by
  unfold zb5
  rw[←eK,←eJ]
  exact⟨_,rfl,by rw[bj,cu];lia⟩
 refine⟨_,rfl,_,rfl,_,rfl,a,_,rfl,seqS _ s03,λl9 hl9=>?_⟩
 dsimp only at hl9 ⊢
 rw[ems2]
 have s9:=y3 hl9 (.lst (ms2.map V.int))
 have e9:(upd H3 l9 (.lst (ms2.map V.int))) l9=some (.lst (ms2.map V.int)):=z3
 generalize upd H3 l9 (.lst (ms2.map V.int))=H9 at s9 e9 ⊢
 have l9m:l9≠ml:=λz=>by rw[z,hml]at hl9;cases hl9
 refine⟨l9,rfl,⟨_,SqL.of e9⟩,O6 (D:=⟨_,_,λ_ _=>True,λ_ _=>True⟩) (K:=K) (a:=l9) (xs:=ms2.map V.int) (λi σ H4=>∃(as:List Addr) (ex:List (List Nat)) (v6:Option V),σ=[some (.ref a),some (.int z),some (.int s),some (.int n),some (.ref sa),some (.ref ml),v6,none,none,none,none,none,none,none,none,none,none]/\y2 Hx H4/\H4 sa=some (.tup (tI W))/\H4 l9=some (.lst (ms2.map V.int))/\H4 ml=some (.lst (as.map V.ref))/\h8 H4 as ((rs0++ex).map (TM.sp n (W.take s)))/\(∀x∈ex,TM.DD s x)/\ex.length<=i)
  ⟨mas0,[],none,rfl,s03.trans s9,(s3.trans s9) _ _ hsa,e9,s9 _ _ hml,by rw[bp];exact hmas.same s9,λx hx=>(by cases hx),aq _⟩ (λi σ H4 _ ⟨_,_,_,_,_,_,h9,_⟩=>SqL.of h9) ?_ ?_⟩
 ·rintro i x σ H4 hi ⟨as,ex,v6,rfl,s4,sa4,l94,m4,t4,hex,hel⟩
  rw[ag]at hi
  cases e:ms2[i]? with
  | none=>rw[e]at hi;cases hi
  | some c =>
  rw[e]at hi
  cases hi
  have him:i<ms2.length:=(ap.mp e).1
  obtain⟨bw,hbw⟩:∃bw:Bool,bw=decide (V.int (c % 2)=V.int 1):=⟨_,rfl⟩
  refine⟨_,rfl,.inl ⟨rfl,_,SqL.of m4⟩,_,rfl,_,_,rfl,rfl,⟨by decide,by decide,by decide⟩,_,_,rfl,rfl,(by show(0:Int)<10 ^ Int.toNat 60;decide),_,_,rfl,rfl,⟨by decide,by decide⟩,_,rfl,_,_,rfl,rfl,(by show(0:Int)<2;decide),rfl,_,rfl,_,rfl,sa,_,bw,s,n,W,by rw[hbw];rfl,sa4,hW,hs,hsn,hn60,λr H6 hr0 s6 hr6=>?_⟩
  have m6:=s6 _ _ m4
  have lm:as.length=rs0.length+ex.length:=by rw[Paired.length t4,aa,af]
  have tw2:=tw.len
  have nt:∀xs,H6 ml≠some (.tup xs):=λxs z=>by rw[m6]at z;cases z
  refine⟨ml,_,_,rfl,rfl,m6,by rw[aa];exact bX (show as.length<=66 by lia) (by decide),?_⟩
  refine⟨as++[r],ex++[TM.dh s (c % 10 ^ Int.toNat 60 / 2) (sgn bw)],_,rfl,o7 (s4.trans s6) hml0 _,by rw[z5 (λz=>by rw[z,m4]at sa4;cases sa4)];exact s6 _ _ sa4,by rw[z5 l9m];exact s6 _ _ l94,by rw[z3,aF];rfl,?_,?_,by rw[af];exact Nat.succ_le_succ hel⟩
  ·rw[←cH,aF]
   exact Paired.snoc ((t4.same s6).upd nt) (by rw[z5 (λz=>by rw[z,m6]at hr6;cases hr6)];exact hr6)
  ·intro x hx
   rcases aB.mp hx with h|h
   ·exact hex x h
   ·rw[ae.mp h]
    exact⟨_,_,P4 _,rfl⟩
 rintro σ H4 ⟨as,ex,v6,rfl,s4,sa4,l94,m4,t4,hex,hel⟩
 have hall:∀x∈rs0++ex,TM.DD s x:=λx hx=>(aB.mp hx).elim (tw.dd x) (hex x)
 have hrT:∀x∈rs0++ex,TM.IsT s x:=λx hx=>TM.DD.isT hs (hall x hx)
 obtain⟨st,cc,hg,hr1,hr2⟩:=tw.all
 have lift:∀{x:List Nat},TM.Grp s (λz=>z∈rs0) x->TM.Grp s (λz=>z∈rs0++ex) x:=λh=>TM.Grp.mono hrT (λy hy=>TM.Grp.of hrT (aE _ hy)) h
 have hDD:=TM.gen_DD hs hall hg (lift hr1) (lift hr2)
 have hlen:(rs0++ex).length<=65:=by
  rw[af,tw.len]
  rw[aa]at hel
  lia
 clear lift hr1 hr2 hg hall hex hel hmas tw hms2
 generalize rs0++ex=rs at t4 hrT hDD hlen
 have hT6:∀t∈rs.map (TM.sp n (W.take s)),TM.IsT n t:=λt ht=>by
  obtain⟨u,hu,rfl⟩:=ah.mp ht
  exact hF.isT u (hrT u hu)
 have a0:TM.Alk s n (TM.sp n (W.take s)) (rs.map (TM.sp n (W.take s))) rs:=⟨hT6,hrT,λy=>hF.grp hrT y⟩
 have hgm:TM.gM n (rs.map (TM.sp n (W.take s)))=2*s:=by rw[TM.Alk.size hF a0,TM.gM_DD hs h3 hDD]
 have hl200:(rs.map (TM.sp n (W.take s))).length<=200:=by rw[aa];lia
 generalize rs.map (TM.sp n (W.take s))=ts at t4 hT6 a0 hgm hl200
 refine⟨_,rfl,_,rfl,?_⟩
 refine λg dg hg hdg hne=>⟨g,dg,ml,n,as,ts,rfl,z3,by lia,by lia,yk9 hg hdg m4,tsU hg hdg t4,hl200,hT6,λS H8 fr8 gg _=>⟨rfl,?_⟩⟩
 have s8:=xc1 hg hdg fr8
 dsimp only[u9]
 have s08:=s4.trans s8
 have hsz:S.chn.many n n<8192:=by
  rw[gg.gM]
  lia
 have hps1:H8 pS=some (.tbl #[]):=s08 _ _ hp1
 refine⟨_,rfl,g,n,ts,S,rfl,gg,hsz,.inl hps1,λlu uas ugs ut ulo HA frA hTA hlu hugs hD1 hx1 hle1=>?_⟩
 dsimp only[u9]
 have sqA:SqL K HA a (ns.map V.int):=A9 (seqS _ s08) frA hps1
 have ggA:=gg.keepA frA hps1 (.inl ⟨_,rfl⟩)
 have hp2A:TbO (Q0 i6) (zo6 "slopes") HA pL:=K1 (.inl (s08 _ _ hp2)) frA hps1 (Ne.symm hpp)
 have saA:HA sa=some (.tup (tI W)):=frA _ _ (λz=>by rw[ae.mp z]at sa4;rw[s4 _ _ hp1]at sa4;cases sa4) (s8 _ _ sa4)
 obtain⟨ps2,hps2⟩:=zz7 hp2A
 refine⟨_,rfl,g,n,ts,S,rfl,ggA,hsz,hp2A,λld das dgs dt dlo HB frB hTB hld hdgs hD2 hx2 hle2=>?_⟩
 dsimp only[u9]
 have ne2:∀{b:Addr} {o:HO},HA b=some o->(∀ps,o≠.tbl ps)->HB b=some o:=λ{b o} e ne=>frB b o (λz=>by rw[ae.mp z,hps2]at e;cases e;exact ne _ rfl) e
 refine⟨_,rfl,s,rfl,hs,h60,λls v qv HC hv hv6 sC hls=>?_⟩
 dsimp only[u9]
 have N0:G9 K cG cC cB cS pS pL a g lu ld sa ls n (ns.map V.int) ts S uas das ugs dgs W (n8 v) HC:=⟨sC.seq (A9 sqA frB hps2),(ggA.keepA frB hps2 (.inl ⟨_,rfl⟩)).same sC,sC _ _ (ne2 hlu nofun),(hugs.keepA frB hps2 (.inl ⟨_,rfl⟩)).same sC,sC _ _ hld,hdgs.same sC,sC _ _ (ne2 saA nofun),hls,R3 (K1 hTA frB hps2 hpp) sC,R3 hTB sC⟩
 clear hps1 sqA ggA hp2A saA hps2 frA frB hTA hTB hlu hld hugs hdgs gg s8 fr8 s08 m4 t4 ne2 hls sC
 obtain⟨uDn,uNx⟩:=TM.stairs_dn hs h3 hrT hDD
 obtain⟨dDn,dNx,dLe⟩:=TM.slopes_dn hs h3 hv hrT hDD
 have up:∀{gs:List (List (List Nat))} {t lo:List (List Nat)},TM.Dn n (TM.nxS n) ts gs t->TM.nxS n t lo->TM.gM n t<=TM.gM n lo->gs.length=3/\∀(i:Nat) (t f:List (List Nat)),gs[i]?=some t->[rs,[TM.dh s 2 1],[TM.dh s 0 1]][i]?=some f->TM.Alk s n (TM.sp n (W.take s)) t f:=λ{gs t lo} h1 h2 h3 =>
  TM.two_downs h1 h2 h3 uDn uNx (aq _) a0 (λt f u v r k1 k2=>r.stair hF k1 k2) λt f r=>r.size hF
 have dw:∀{gs:List (List (List Nat))} {t lo:List (List Nat)},TM.Dn n (TM.nxD n ts) ts gs t->TM.nxD n ts t lo->TM.gM n t<=TM.gM n lo->gs.length=(rs::(List.range (max 1 v)).map (TM.slp s)).length/\∀(i:Nat) (t f:List (List Nat)),gs[i]?=some t->(rs::(List.range (max 1 v)).map (TM.slp s))[i]?=some f->TM.Alk s n (TM.sp n (W.take s)) t f:=λ{gs t lo} h1 h2 h3=>by
  obtain⟨k1,k2⟩:=TM.two_downs (R:=λt f=>TM.Alk s n (TM.sp n (W.take s)) t f/\∀x∈f,TM.Grp s (λz=>z∈rs) x) h1 h2 h3 dDn dNx dLe ⟨a0,λx hx=>TM.Grp.of hrT hx⟩ (λt f u v r k1 k2=>by
   refine⟨TM.Alk.down hF a0 r.1 r.2 k1 k2,λx hx=>TM.nc_in hrT (TM.mxs_isT hrT r.1.fT) (λt ht=>?_) ((k2.2 x).mp (TM.Grp.of k2.1 hx))⟩
   obtain⟨m,hm,o,ho,rfl⟩:=TM.mxs_mem.mp ht
   exact TM.Grp.mx hrT (TM.Grp.of hrT hm) (r.2 o ho)) λt f r=>r.1.size hF
  exact⟨k1,λi t f h1 h2=>(k2 i t f h1 h2).1⟩
 obtain⟨lenU,alU⟩:=up hD1 hx1 hle1
 obtain⟨lenD,alD⟩:=dw hD2 hx2 hle2
 have szU:ugs.map (TM.gM n)=[2*s,s / Nat.gcd s 2,1]:=by
  rw[yc9 hF lenU alU]
  show [TM.gM s rs,TM.gM s [TM.dh s 2 1],TM.gM s [TM.dh s 0 1]]=_
  rw[TM.gM_DD hs h3 hDD,TM.gM_even hs,TM.gM_still hs]
 have szD:dgs.map (TM.gM n)=2*s::(n8 v).map λx=>s / x:=by
  rw[yc9 hF lenD alD,aT,ca,TM.gM_DD hs h3 hDD]
  exact congrArg _ (yx4 hs hv)
 have lU:uas.length=ugs.length:=Paired.length N0.uc
 have lD:das.length=dgs.length:=Paired.length N0.dc
 rw[aQ,aa,az]at lenD
 have g0:0<Nat.gcd s 2:=Nat.gcd_pos_of_pos_left _ hs
 have g2:Nat.gcd s 2<=2:=Nat.gcd_le_right _ (by decide)
 refine⟨_,rfl,_,rfl,s,2,rfl,_,_,rfl,rfl,⟨by lia,by lia⟩,?_⟩
 dsimp only[u9]
 rw[show(s:Int) / ((Nat.gcd s 2:Nat):Int)=((s / Nat.gcd s 2:Nat):Int) from(eG _ _).symm]
 have hshp:∀x∈n8 v,0<x/\x<=64:=λx hx=>by
  unfold n8 at hx
  split at hx
  ·rw[ae.mp hx];decide
  ·obtain⟨i,hi,rfl⟩:=ah.mp hx
   have:=aG.mp hi
   have h6:2 ^ (i+1)<=2 ^ 6:=bN (by decide) (by lia)
   exact⟨Nat.two_pow_pos _,h6⟩
 have shl:(n8 v).length<=6:=by
  unfold n8
  split
  ·decide
  ·rw[aa,az];lia
 refine⟨_,rfl,_,_,rfl,rfl,.inl ⟨by decide,by decide⟩,(by show 1<=eU;decide),λp1 hp1'=>?_⟩
 have sD:=y3 hp1' (.lst [V.int (2*(s:Int))])
 have pD:(upd HC p1 (.lst [V.int (2*(s:Int))])) p1=some (.lst [V.int (2*(s:Int))]):=z3
 generalize upd HC p1 (.lst [V.int (2*(s:Int))])=HD at sD pD ⊢
 have N1:=N0.same sD
 refine⟨_,rfl,ls,rfl,⟨_,SqL.of N1.l⟩,V7 (SqL.of N1.l) (tI ((n8 v).map λx=>s / x)) (by rw[v0,v0,aa]) (by rw[v0];exact small (by lia)) ?_ ?_⟩
 ·intro i H' x hx s' _ _ _ _
  obtain⟨u,hu,rfl⟩:=K0 hx
  have hup:=hshp u (aw hu)
  refine⟨_,rfl,_,rfl,_,_,rfl,rfl,⟨by lia,by lia⟩,y2.refl _,?_⟩
  have:(tI ((n8 v).map λx=>s / x))[i]?=some (V.int ((s / u:Nat):Int)):=zv6 (by rw[ag,hu];rfl)
  rw[this]
  exact congrArg (λz=>some (V.int z)) (eG _ _)
 intro nm HE hnm sE hnmE
 refine⟨p1,nm,_,_,rfl,rfl,sE _ _ pD,hnmE,by rw[aR,v0,aa];exact small (by lia),λp2 hp2'=>?_⟩
 have sF:=y3 hp2' (.lst ([V.int (2*(s:Int))]++tI ((n8 v).map λx=>s / x)))
 have pF:(upd HE p2 (.lst ([V.int (2*(s:Int))]++tI ((n8 v).map λx=>s / x)))) p2=some (.lst (tI (2*s::(n8 v).map λx=>s / x))):=by
  rw[z3]
  show some (HO.lst (V.int (2*(s:Int))::tI ((n8 v).map λx=>s / x)))=some (HO.lst (V.int ((2*s:Nat):Int)::tI ((n8 v).map λx=>s / x)))
  rw[show((2*s:Nat):Int)=2*(s:Int) by lia]
 generalize upd HE p2 (.lst ([V.int (2*(s:Int))]++tI ((n8 v).map λx=>s / x)))=HF at sF pF ⊢
 have N2:=N1.same (sE.trans sF)
 clear N0 N1 sD pD hnm sE hnmE
 dsimp only[u9]
 have sizes:∀{Hy:Hp} {as:List Addr} {gs:List (List (List Nat))},C3 cG cC cB cS n Hy as gs->∀(i:Nat) (H':Hp) (x:V),(as.map V.ref)[i]?=some x->y2 Hy H'->∃(b dx:Addr) (fs:List (Str×V)) (t:List (List Nat)) (Sb:ChS),x=V.ref b/\H' b=some (.ins cG dx fs)/\fs.lookup ("size":Str)=none/\x0 cG cC cB cS n H' b t Sb/\(tI (gs.map (TM.gM n)))[i]?=some (V.int ((Sb.chn.many n n:Nat):Int)):=λ{Hy as gs} hg i H' x hx s'=>by
  obtain⟨b,hb,rfl⟩:=S8 hx
  obtain⟨t,ht,Sb,gb⟩:=q9 (hg.same s') i b hb
  obtain⟨dxb,mab,Ab,masb,hb1,_⟩:=gb.at'
  exact⟨b,dxb,_,t,Sb,rfl,hb1,rfl,gb,by rw[gb.gM];exact zv6 (by rw[ag,ht];rfl)⟩
 refine⟨_,rfl,_,_,_,_,rfl,P9.lst N2.u,O7 R9,_,rfl,o5 ?_⟩
 refine⟨_,rfl,lu,rfl,⟨_,SqL.of N2.u⟩,V7 (SqL.of N2.u) (tI (ugs.map (TM.gM n))) (by rw[v0,aa,aa,lU]) (by rw[aa,lU];exact small (by lia)) ?_ ?_⟩
 ·intro i H' x hx s' _ _ _ _
  obtain⟨b,dxb,fs',t,Sb,rfl,hb1,hb2,gb,e⟩:=sizes N2.uc i H' x hx s'
  exact⟨_,rfl,b,dxb,fs',rfl,hb1,hb2,b,n,t,Sb,rfl,gb,y2.refl _,e⟩
 intro nm HG hnm sG hnmG
 refine⟨_,rfl,_,_,rfl,rfl,.inl ⟨by decide,by decide⟩,_,rfl,(by show 3<=eU;decide),λp3 hp3=>?_⟩
 have sH:=y3 hp3 (.lst [V.int (2*(s:Int)),V.int ((s / Nat.gcd s 2:Nat):Int),V.int 1])
 have pH:(upd HG p3 (.lst [V.int (2*(s:Int)),V.int ((s / Nat.gcd s 2:Nat):Int),V.int 1])) p3=some (.lst (tI [2*s,s / Nat.gcd s 2,1])):=by
  rw[z3]
  show _=some (HO.lst [V.int ((2*s:Nat):Int),V.int ((s / Nat.gcd s 2:Nat):Int),V.int ((1:Nat):Int)])
  rw[show((2*s:Nat):Int)=2*(s:Int) by lia]
  rfl
 generalize upd HG p3 (.lst [V.int (2*(s:Int)),V.int ((s / Nat.gcd s 2:Nat):Int),V.int 1])=HH at sH pH ⊢
 rw[szU]at hnmG
 refine⟨nm,p3,[2*s,s / Nat.gcd s 2,1].map λ(x:Nat)=>(x:Int),[2*s,s / Nat.gcd s 2,1].map λ(x:Nat)=>(x:Int),rfl,rfl,SqL.of (by rw[←D9];exact sH _ _ hnmG),SqL.of (by rw[←D9];exact pH),_,rfl,?_⟩
 rw[decide_eq_true rfl]
 refine o5 ?_
 have N3:=N2.same (sG.trans sH)
 have pF3:=(sG.trans sH) _ _ pF
 clear N2 sG sH hnm hnmG pH pF
 refine⟨_,rfl,_,_,_,_,rfl,P9.lst N3.d,O7 R9,_,rfl,o5 ?_⟩
 refine⟨_,rfl,ld,rfl,⟨_,SqL.of N3.d⟩,V7 (SqL.of N3.d) (tI (dgs.map (TM.gM n))) (by rw[v0,aa,aa,lD]) (by rw[aa,lD];exact small (by lia)) ?_ ?_⟩
 ·intro i H' x hx s' _ _ _ _
  obtain⟨b,dxb,fs',t,Sb,rfl,hb1,hb2,gb,e⟩:=sizes N3.dc i H' x hx s'
  exact⟨_,rfl,b,dxb,fs',rfl,hb1,hb2,b,n,t,Sb,rfl,gb,y2.refl _,e⟩
 intro nm HI hnm sI hnmI
 rw[szD]at hnmI
 refine⟨_,rfl,nm,p2,(2*s::(n8 v).map λx=>s / x).map λ(x:Nat)=>(x:Int),(2*s::(n8 v).map λx=>s / x).map λ(x:Nat)=>(x:Int),rfl,rfl,SqL.of (by rw[←D9];exact hnmI),SqL.of (by rw[←D9];exact sI _ _ pF3),_,rfl,?_⟩
 rw[decide_eq_true rfl]
 refine o5 ?_
 have N4:=N3.same sI
 clear N3 sI hnm hnmI pF3
 obtain⟨ms3,ems3⟩:∃ms:List Int,zb5 (ns.map V.int) (some 1) (some 24)=ms.map V.int:=by
  unfold zb5
  rw[←eK,←eJ]
  exact⟨_,rfl⟩
 refine⟨_,rfl,_,rfl,_,rfl,a,_,rfl,N4.sq,λl8 hl8=>?_⟩
 dsimp only at hl8 ⊢
 rw[ems3]
 have s8:=y3 hl8 (.lst (ms3.map V.int))
 have e8:(upd HI l8 (.lst (ms3.map V.int))) l8=some (.lst (ms3.map V.int)):=z3
 generalize upd HI l8 (.lst (ms3.map V.int))=HJ at s8 e8 ⊢
 refine⟨l8,rfl,⟨_,SqL.of e8⟩,O6 (D:=⟨_,_,λ_ _=>True,λ_ _=>True⟩) (K:=K) (a:=l8) (xs:=ms3.map V.int) (λi σ Hh=>∃v6 v13 v14 v15:Option V,σ=[some (.ref a),some (.int z),some (.int s),some (.int n),some (.ref sa),some (.ref ml),v6,some (.ref g),some (.ref lu),some (.ref ld),some (.ref ls),some (.int ((s / Nat.gcd s 2:Nat):Int)),some (.ref p2),v13,v14,v15,none]/\y2 HJ Hh/\G9 K cG cC cB cS pS pL a g lu ld sa ls n (ns.map V.int) ts S uas das ugs dgs W (n8 v) Hh)
  ⟨_,none,none,none,rfl,y2.refl _,N4.same s8⟩ (λi σ Hh _ ⟨_,_,_,_,_,sh,_⟩=>SqL.of (sh _ _ e8)) ?_ ?_⟩
 ·rintro i x σ Hh hi ⟨v6',v13,v14,v15,rfl,sh,N⟩
  rw[ag]at hi
  cases e:ms3[i]? with
  | none=>rw[e]at hi;cases hi
  | some c =>
  rw[e]at hi
  cases hi
  refine⟨_,rfl,_,_,rfl,rfl,⟨by decide,by decide,by decide⟩,_,_,rfl,rfl,(by show(0:Int)<10 ^ Int.toNat 60;decide),_,_,rfl,rfl,⟨by decide,by decide⟩,?_⟩
  dsimp only[u9]
  obtain⟨st',hst⟩:∃x:Int,x=c % 10 ^ Int.toNat 60 / 4:=⟨_,rfl⟩
  rw[←hst]
  obtain⟨mi,hmi⟩:∃b:Bool,b=decide (V.int (c % 4)=V.int 3):=⟨_,rfl⟩
  refine⟨_,rfl,_,rfl,_,_,rfl,rfl,(by show(0:Int)<4;decide),rfl,_,rfl,_,rfl,sa,_,mi,s,n,W,by rw[hmi];rfl,N.s,hW,hs,hsn,hn60,λr H6 hr0 s6 hr6=>?_⟩
  dsimp only[u9]
  have N':=N.same s6
  have xT:TM.IsT s (TM.dh s st' (sgn mi)):=TM.dh_isT hs _ (P4 _)
  obtain⟨m,em,hm⟩:=yl6 (c:=st' / 7) (k:=dgs.length) (by lia)
  refine⟨_,rfl,_,_,rfl,rfl,⟨by decide,by decide⟩,_,rfl,ld,_,rfl,.inl (SqL.of N'.d),_,_,rfl,rfl,(by rw[aa,lD];lia),?_⟩
  dsimp only[u9]
  rw[aa,lD,em]
  obtain⟨t,ht⟩:∃t,dgs[m]?=some t:=⟨_,ac hm⟩
  obtain⟨b1,hb1,S1,g1⟩:=i4 N'.dc m t ht
  obtain⟨dx1,ma1,A1,mas1,hg1,_⟩:=g1.at'
  refine D0 (λσ Hx'=>σ=[some (.ref a),some (.int z),some (.int s),some (.int n),some (.ref sa),some (.ref ml),some (.int c),some (.ref g),some (.ref lu),some (.ref ld),some (.ref ls),some (.int ((s / Nat.gcd s 2:Nat):Int)),some (.ref p2),some (.int st'),some (.ref r),some (.int m),none]/\y2 H6 Hx') ?_ λNx hNx=>?_
  rotate_left
  refine⟨_,rfl,_,rfl,ld,_,_,_,rfl,rfl,SqL.of N'.d,yz0 hb1,b1,dx1,_,rfl,hg1,rfl,_,rfl,b1,r,n,t,S1,_,rfl,g1,hr6,hF.isT _ xT,λb H7 s7 hb=>?_⟩
  have N7:=N'.same s7
  have cond:(b=true↔(m=0∨(mi=false/\st' % ((if v=0 then 1 else 2 ^ (m-1+1):Nat):Int)=0))):=by
   refine hb.trans ?_
   cases m with
   | zero =>
    have f0:(rs::(List.range (max 1 v)).map (TM.slp s))[0]?=some rs:=rfl
    rw[Alk.at' hF (alD 0 t rs ht f0) xT]
    exact⟨λ_=>.inl rfl,λ_=>(hDD _).mpr ⟨_,_,P4 _,rfl⟩⟩
   | succ j =>
    have hj:j<max 1 v:=by lia
    have f1:(rs::(List.range (max 1 v)).map (TM.slp s))[j+1]?=some (TM.slp s j):=by rw[dO,ag,aM hj];rfl
    rw[Alk.at' hF (alD (j+1) t _ ht f1) xT]
    cases mi with
    | false=>exact(TM.slp_has hs hv hj st').trans ⟨λh=>.inr ⟨rfl,h⟩,λh=>h.elim (λz=>(by cases z)) λz=>z.2⟩
    | true=>exact⟨λh=>absurd h (TM.rot_no hs h3),λh=>h.elim (λz=>(by cases z)) λz=>(by cases z.1)⟩
  refine⟨_,rfl,rfl,_,rfl,?_⟩
  rw[p0]
  by_cases m0:m=0
  ·rw[decide_eq_true (show((m:Nat):Int)=0 by rw[m0];rfl)]
   refine i0 ⟨rfl,_,rfl,?_⟩
   rw[cond.mpr (.inl m0),decide_eq_true rfl]
   exact o5 (hNx _ _ ⟨rfl,s7⟩)
  rw[decide_eq_false (by lia)]
  refine o5 ⟨_,rfl,_,_,rfl,rfl,(by show(0:Int)<4;decide),rfl,_,rfl,?_⟩
  have hm1:m-1<max 1 v:=by lia
  obtain⟨sh1,hsh1⟩:∃x:Nat,x=if v=0 then 1 else 2 ^ (m-1+1):=⟨_,rfl⟩
  rw[←hsh1]at cond
  have hat:=yo8 hm1
  rw[←hsh1]at hat
  have hsp:=(hshp _ (aw hat)).1
  rw[←hmi]
  cases mi with
  | true =>
   refine o5 ⟨rfl,_,rfl,?_⟩
   rw[show b=false from bJ.mpr λh=>(cond.mp h).elim m0 λz=>(by cases z.1),decide_eq_true rfl]
   exact o5 (hNx _ _ ⟨rfl,s7⟩)
  | false =>
   refine i0 ⟨_,rfl,_,rfl,_,rfl,_,_,rfl,rfl,ls,_,_,V.int sh1,rfl,rfl,SqL.of N7.l,?_,_,_,rfl,rfl,(by lia),rfl,rfl,_,rfl,?_⟩
   ·rw[show((m:Nat):Int)-1=((m-1:Nat):Int) by lia]
    exact zb4 hat
   ·rw[p0,show b=decide (st' % (sh1:Int)=0) by
     cases hb':b with
     | true=>exact(decide_eq_true ((cond.mp hb').elim (λz=>absurd z m0) λz=>z.2)).symm
     | false=>exact(decide_eq_false λz=>aJ (hb'.symm.trans (cond.mpr (.inr ⟨rfl,z⟩)))).symm,decide_eq_true rfl]
    exact o5 (hNx _ _ ⟨rfl,s7⟩)
  rintro σ Hy ⟨rfl,sy⟩
  have Ny:=N'.same sy
  obtain⟨t',ht'⟩:∃t,ugs[1]?=some t:=⟨_,ac (by rw[lenU];decide)⟩
  obtain⟨b2,hb2,S2,g2'⟩:=i4 Ny.uc 1 t' ht'
  obtain⟨dx2,ma2,A2,mas2,hg2,_⟩:=g2'.at'
  have al1:=alU 1 t' _ ht' rfl
  have stay:∀H7,y2 Hy H7->∃v6 v13 v14 v15:Option V,([some (.ref a),some (.int z),some (.int s),some (.int n),some (.ref sa),some (.ref ml),some (.int c),some (.ref g),some (.ref lu),some (.ref ld),some (.ref ls),some (.int ((s / Nat.gcd s 2:Nat):Int)),some (.ref p2),some (.int st'),some (.ref r),some (.int m),none]:St)=[some (.ref a),some (.int z),some (.int s),some (.int n),some (.ref sa),some (.ref ml),v6,some (.ref g),some (.ref lu),some (.ref ld),some (.ref ls),some (.int ((s / Nat.gcd s 2:Nat):Int)),some (.ref p2),v13,v14,v15,none]/\y2 HJ H7/\G9 K cG cC cB cS pS pL a g lu ld sa ls n (ns.map V.int) ts S uas das ugs dgs W (n8 v) H7:=λH7 s7=>⟨_,_,_,_,rfl,sh.trans (s6.trans (sy.trans s7)),Ny.same s7⟩
  refine⟨_,rfl,lu,_,_,_,rfl,rfl,SqL.of Ny.u,m7 (j:=1) (yo2 hb2),b2,dx2,_,rfl,hg2,rfl,_,rfl,b2,r,n,t',S2,_,rfl,g2',sy _ _ hr6,hF.isT _ xT,λb H7 s7 hb=>?_⟩
  refine⟨_,rfl,_,_,rfl,rfl,(by show(0:Int)<4;decide),rfl,_,rfl,?_⟩
  rw[←hmi]
  cases mi with
  | true =>
   refine o5 ⟨rfl,_,rfl,?_⟩
   rw[show b=false from bJ.mpr λh=>TM.rot_no hs h3 ((Alk.at' hF al1 xT).mp (hb.mp h)),decide_eq_true rfl]
   exact o5 (stay _ s7)
  | false =>
   refine i0 ⟨_,rfl,_,rfl,s,2,rfl,_,_,rfl,rfl,(by lia),rfl,rfl,_,rfl,?_⟩
   have c2:=hb.trans ((Alk.at' hF al1 xT).trans (TM.even_has hs st'))
   rw[p0,show b=decide (st' % ((Nat.gcd s 2:Nat):Int)=0) by
    cases hb':b with
    | true=>exact(decide_eq_true (c2.mp hb')).symm
    | false=>exact(decide_eq_false λz=>aJ (hb'.symm.trans (c2.mpr z))).symm,decide_eq_true rfl]
   exact o5 (stay _ s7)
 rintro σ HK ⟨v6',v13,v14,v15,rfl,sh,N5⟩
 obtain⟨ps3,hps3⟩:=zz7 N5.b
 refine⟨_,rfl,g,n,ts,S,rfl,N5.g',hsz,N5.b,λgs5 t5 lo5 HL frL hTL hD5 hx5 hle5=>?_⟩
 dsimp only[u9]
 have N6:=N5.step frL hps3 (K1 N5.a frL hps3 hpp) hTL
 obtain⟨len5,al5⟩:=dw hD5 hx5 hle5
 have sz5:TM.gM n t5=TM.gM s (TM.slp s (max 1 v-1)):=(al5 _ _ _ hD5.end_ (by rw[len5];exact dDn.end_)).size hF
 obtain⟨ps4,hps4⟩:=zz7 N6.a
 refine⟨_,rfl,g,n,ts,S,rfl,N6.g',hsz,N6.a,λgs6 t6 lo6 HM frM hTM hD6 hx6 hle6=>?_⟩
 have N7:=N6.step frM hps4 hTM (K1 N6.b frM hps4 (Ne.symm hpp))
 obtain⟨len6,al6⟩:=up hD6 hx6 hle6
 have sz6:TM.gM n t6=1:=by
  rw[(al6 _ _ _ hD6.end_ (by rw[len6];exact uDn.end_)).size hF]
  exact TM.gM_still hs
 rw[sz6]
 have lastS:atI (tI (n8 v)) (-1)=some (V.int ((if v=0 then 1 else 2 ^ (max 1 v-1+1):Nat):Int)):=by
  have hl:(n8 v).length=max 1 v:=by
   unfold n8
   split
   ·rename_i h;rw[h];rfl
   ·rw[aa,az];lia
  have:=yo8 (v:=v) (j:=max 1 v-1) (by lia)
  have e:=zv6 this
  have e2:ixN (tI (n8 v)).length (-1)=some (max 1 v-1):=by
   unfold ixN
   rw[v0,hl,if_neg (by decide),if_pos (by lia)]
   congr 1
   lia
  unfold atI
  rw[e2]
  exact e
 have fin:(TM.gM s (TM.slp s (max 1 v-1))=1↔(if v=0 then 1 else 2 ^ (max 1 v-1+1):Nat)=s):=by
  by_cases h0:v=0
  ·rw[if_pos h0]
   have o:s % 2=1:=by rw[hv.e,h0,Nat.pow_zero,cx];exact hv.o
   have:TM.gM s (TM.slp s (max 1 v-1))=s:=by
    rw[h0]
    show TM.gM s [TM.dh s 2 1]=s
    rw[TM.gM_even hs,show Nat.gcd s 2=1 by rw[be,Nat.gcd_rec,o];rfl,Nat.div_one]
   rw[this]
   constructor <;> intro <;> lia
  ·rw[if_neg h0,TM.gM_slp hs hv (by lia),show max 1 v-1+1=v by lia]
   have hp:=Nat.two_pow_pos v
   have e:s / 2 ^ v=qv:=by
    conv=>lhs;rw[hv.e]
    exact Nat.mul_div_cancel_left _ hp
   rw[e]
   constructor
   ·intro h
    have h':=hv.e
    rw[h,cI]at h'
    exact h'.symm
   ·intro h
    have h':=hv.e
    rw[←h]at h'
    exact(Nat.eq_of_mul_eq_mul_left hp (by rw[cI];exact h')).symm
 refine⟨_,_,rfl,rfl,_,rfl,i0 ⟨_,rfl,_,_,_,_,rfl,P9.bl _,O7 zo5,_,rfl,i0 ⟨_,rfl,_,rfl,_,rfl,ls,_,_,_,rfl,rfl,SqL.of N7.l,lastS,_,rfl,rfl,rfl,?_⟩⟩⟩
 rw[show decide (V.bl (decide (TM.gM n t5=1))=V.bl (decide (V.int ((if v=0 then 1 else 2 ^ (max 1 v-1+1):Nat):Int)=V.int s)))=true by
  rw[p0,sz5]
  exact decide_eq_true (congrArg V.bl (by congr 1;exact propext (fin.trans ⟨λh=>by rw[h],λh=>Int.ofNat.inj h⟩)))]
 exact q _
end
def DI (K:W.Frag)(x:Str)(st:Stmt):Prop:=∃f fd,Fun K x x st f fd/\W.nsIn K mainGlobals x=some (some (.ref f))
def MI (K:W.Frag)(c:Addr)(m q:Str)(st:Stmt):Prop:=∃f fd,Fun K m q st f fd/\W.findIn K (.ref c) m=some (some (.ref f))/\W.isFn K (.ref f)=true
def yx6 (K:W.Frag)(c:Addr)(f:Str):Bool:=match W.findIn K (.ref c) f with|some none=>true|_=>false
def BA (x q:Str)(st:Stmt)(ps:List Str):Prop:=∀(kV doc pm:Value) (an:Option Addr) (cdv ct:Value) (us:List Value),us.length=ps.length->bindArgs (W.fnOf x q (V5 st) (d3 st) (z8 st) .none kV doc pm an cdv ct) ⟨us,[]⟩=pure (ps.zip us)
structure CI (K:W.Frag) (c:Addr) (x:Str) (fs:List Str):Prop where
 n:W.nsIn K mainGlobals x=some (some (.ref c))
 cc:Cls K c
 ma:W.makesIn K c=true
 kp:W.keepIn K (.ref c)=true
 no:fs.all (yx6 K c)=true
structure EI (K:W.Frag) (x:Str) (C:Addr) (tl:List Value):Prop where
 n:W.nsIn K mainGlobals x=some (some (.ref C))
 c:zr9 K C tl "ValueError.__new__"
structure EO (K:W.Frag) (x:Str) (C TE:Addr):Prop where
 e:EI K x C (.ref TE::bmV)
 i:W.isIn K (.ref C) TE=true
structure ZZ (P:eV) (w:eZ) (K:W.Frag) (mg:Str->Option Value) (base:Heap):Prop where
 mg:∀{x:Str} {v:Value},W.nsIn K mainGlobals x=some (some v)->mg x=some v
section
variable {P:eV}{w:eZ}{K:W.Frag}{mg:Str->Option Value}{base:Heap}{x m q:Str}{st:Stmt}{ps fs:List Str}{k:Nat}{sp:Sp}{c C TE:Addr}{tl:List Value}
section
variable {f:Addr}{oc:Value}{od an:Option Addr}{sl:Array (Option Value)}{kV dc pm cd ct:Value}
theorem DI.of (a:W.nsIn K mainGlobals x=some (some (.ref f)))(l:K.lookup f=some ⟨oc,od,.func (W.fnOf x x (V5 st) (d3 st) (z8 st) .none kV dc pm an cd ct),sl⟩)(h:W.codeIn K cd x=true)(k:W.keepIn K (.ref f)=true):DI K x st:=⟨f,_,zo1 l h k,a⟩
theorem MI.of (a:W.findIn K (.ref c) m=some (some (.ref f)))(l:K.lookup f=some ⟨oc,od,.func (W.fnOf m q (V5 st) (d3 st) (z8 st) .none kV dc pm an cd ct),sl⟩)(h:W.codeIn K cd q=true)(k:W.keepIn K (.ref f)=true)(i:W.isFn K (.ref f)=true):MI K c m q st:=⟨f,_,zo1 l h k,a,i⟩
end
theorem CI.of (a:W.nsIn K mainGlobals x=some (some (.ref c)))(pg:W.plainGet K c Str.empty=true)(hd:W.hasDictIn K c=true)(po:W.plainOver K c=true)(sa:W.findIn K (.ref c) "__setattr__"=some (some (.builtin "object.__setattr__")))(mk:W.makesIn K c=true)(kp:W.keepIn K (.ref c)=true)(no:fs.all (yx6 K c)=true):CI K c x fs:=⟨a,⟨pg,hd,po,sa⟩,mk,kp,no⟩
theorem CI.f (I:CI K c x fs):p7 K c fs:=⟨I.cc,λf hf=>by
 have h:=bo.mp I.no f hf
 unfold yx6 at h
 split at h
 ·assumption
 ·cases h⟩
theorem EI.of {nm qn:Str}{N:Addr}{bs:List Value}{hdct:Bool}{sn:List Str}{sub:List Value}{ab:Bool}{col:Option Bool}{dd:Option Addr}{k0 k1 k2 k3 k5:Option Value}{oN:Obj}(a:W.nsIn K mainGlobals x=some (some (.ref C)))
  (l:K.lookup C=some (excClassObj nm qn C N bs tl hdct sn sub ab col dd k0 k1 k2 k3 k5 "ValueError.__new__")) (n:K.lookup N=some oN) (o:W.nsOkIn K N=true) (i:W.nsIn K N "__init__"=some none) (t:W.tailIn K bmV tl=true):EI K x C tl:=⟨a,zr9.mk' l n o i t⟩
theorem EO.at (I:EO K x C TE)(Z:ZZ P w K mg base):yu1 K mg TE x C:=⟨Z.mg I.e.n,I.e.c,I.i⟩
theorem DI.kn (I:DI K x st)(Z:ZZ P w K mg base)(G:∀{f fd},Def K mg x st ps f fd->v1 P w K mg base CX0 k f fd ps sp)
  (h:BA x x st ps:=by trivial):Known P w K mg base k x ps sp:=by
 obtain⟨f,fd,F,a⟩:=I
 exact Def.known ⟨F,F.binds h,Z.mg a⟩ (G ⟨F,F.binds h,Z.mg a⟩)
theorem DI.kx {R:Prop}(I:DI K x st)(Z:ZZ P w K mg base)(G:∀{f fd},Def K mg x st ps f fd->R)
  (h:BA x x st ps:=by trivial):R:=by
 obtain⟨f,fd,F,a⟩:=I
 exact G ⟨F,F.binds h,Z.mg a⟩
theorem MI.kn (I:MI K c m q st)(Z:ZZ P w K mg base)(G:∀{f fd},Fun K m q st f fd->v1 P w K mg base CX0 k f fd ps sp)
  (h:BA m q st ps:=by trivial):h7 P w K mg base k c m ps sp:=by
 obtain⟨f,fd,F,a,i⟩:=I
 exact⟨f,fd,G F,⟨a,i,F.kp⟩,F.binds h⟩
theorem MI.kx (I:MI K c m q st)(Z:ZZ P w K mg base)(G:∀{f fd},Fun K m q st f fd->v1 P w K mg base (CX1 P w) k f fd ps sp)
  (h:BA m q st ps:=by trivial):xd7 P w K mg base k c m ps sp:=by
 obtain⟨f,fd,F,a,i⟩:=I
 exact⟨f,fd,G F,⟨a,i,F.kp⟩,F.binds h⟩
theorem MI.mak (I:MI K c "__init__" q st)(Z:ZZ P w K mg base)(N:CI K c x fs)(G:∀{f fd},Fun K "__init__" q st f fd->v1 P w K mg base CX0 k f fd ps sp)
  (h:BA "__init__" q st ps:=by trivial):zn4 P w K mg base k c x ps sp:=by
 obtain⟨f,fd,F,a,i⟩:=I
 exact⟨f,fd,G F,⟨N.ma,a,i,N.kp⟩,Z.mg N.n,F.binds h⟩
end
def yp9 (K:W.Frag)(x y:Str):Bool:=match W.tabIn K x,W.tabIn K y with|some (_,p),some (_,q)=>decide (p≠q)|_,_=>false
theorem yq0 {K:W.Frag}{x y:Str}(h:yp9 K x y=true):∃c p d q,W.tabIn K x=some (c,p)/\W.tabIn K y=some (d,q)/\p≠q:=by
 unfold yp9 at h
 split at h
 ·rename_i h1 h2
  exact⟨_,_,_,_,h1,h2,of_decide_eq_true h⟩
 ·cases h
theorem DI.kt {P:eV}{w:eZ}{K:W.Frag}{mg:Str->Option Value}{base:Heap}{x:Str}{st:Stmt}{ps:List Str}{k:Nat}{sp:Sp}{c p:Addr}(I:DI K x st)(Z:ZZ P w K mg base)(t:W.tabIn K x=some (c,p))(G:∀{f fd},Def K mg x st ps f fd->fd.code=.ref c->v1 P w K mg base CX0 k f fd ps sp)
  (h:BA x x st ps:=by trivial):Known P w K mg base k x ps sp:=by
 obtain⟨f,fd,F,a⟩:=I
 have hc:fd.code=.ref c:=by
  obtain⟨oc,od,kV,doc,pm,an,cdv,ct,osl,rfl,lk,hcd⟩:=F.ex
  exact yj2 t a lk
 exact Def.known ⟨F,F.binds h,Z.mg a⟩ (G ⟨F,F.binds h,Z.mg a⟩ hc)
def MF (K:W.Frag)(f:Addr)(oc:Value)(od:Option Addr)(sl:Array (Option Value))(kV dc pm:Value)(an:Option Addr)(cd ct:Value)(m q:Str)(st:Stmt):Prop:=K.lookup f=some ⟨oc,od,.func (W.fnOf m q (V5 st) (d3 st) (z8 st) .none kV dc pm an cd ct),sl⟩
theorem all_mk {l:W.OpenLaw}{w:eZ}{K:W.Frag}{h:Heap}{mg:Str->Option Value}{fa fL:Addr}(X:K.In h)(G:h.Ns mainGlobals mg)(hfa:mg "law"=some (.ref fa))
  (a0:DI K "is_whole" G1) (a1:DI K "is_turning" P1) (a2:DI K "is_turning_of" W7) (a3:DI K "still" zq3) (a4:DI K "behind" zh6) (a5:DI K "back" zy5) (a6:DI K "turned" zh7) (a7:DI K "need_group" P3) (a8:DI K "is_part" B9) (a9:DI K "need_part" M4) (a10:DI K "least_kept" P2) (a11:DI K "mix" yo6) (a12:DI K "mixed" zq2) (a13:DI K "going_down" P0) (a14:DI K "stairs" f7) (a15:DI K "slopes" i6) (a16:DI K "is_tame" A3) (a17:DI K "is_calm" B8) (a18:DI K "_law_cell_at" U2) (a19:DI K "_law_turning" U4) (a20:DI K "_law_divisor" U3) (a21:DI K "_law_round" Q9) (a22:DI K "_law_first" Q8) (a23:DI K "_law_makers" T6) (a24:DI K "_law_shares" T7)
  {od an:Option Addr} {sl:Array (Option Value)} {oc kV dc pm cd ct:Value} (aL:W.nsIn K mainGlobals "law"=some (some (.ref fL))) (lL:MF K fL oc od sl kV dc pm an cd ct "law" "law" zb1) (cL:W.codeIn K cd "law"=true) (kL:W.keepIn K (.ref fL)=true)
  {tk0 tk1 tk2:Tok} (gc0:W.nsIn K mainGlobals "MOST_PLACES"=some (some (.int 60 tk0))) (gc1:W.nsIn K mainGlobals "MOST_MAKERS"=some (some (.int 200 tk1))) (gc2:W.nsIn K mainGlobals "STILL_LINE"=some (some (.int 0 tk2)))
  {cBook:Addr} (nBook:CI K cBook "Book" za3) {cStep:Addr} (nStep:CI K cStep "Step" M9) {cChain:Addr} (nChain:CI K cChain "Chain" Z2) {cGroup:Addr} (nGroup:CI K cGroup "Group" Z7) {cGrowth:Addr} (nGrowth:CI K cGrowth "Growth" zm0) (iBookinit:MI K cBook "__init__" "Book.__init__" W5) (iBookput:MI K cBook "put" "Book.put" I0) (iBookput_behind:MI K cBook "put_behind" "Book.put_behind" Y0) (iBookput_back:MI K cBook "put_back" "Book.put_back" b9) (iStepinit:MI K cStep "__init__" "Step.__init__" W6) (iStepput_mover:MI K cStep "put_mover" "Step.put_mover" X4) (iStepput_place:MI K cStep "put_place" "Step.put_place" c6) (iStepnext_pair:MI K cStep "next_pair" "Step.next_pair" X3) (iChaininit:MI K cChain "__init__" "Chain.__init__" X1) (iChainsifted:MI K cChain "sifted" "Chain.sifted" Y2) (iChainholds:MI K cChain "holds" "Chain.holds" T3) (iChainfound_mover:MI K cChain "found_mover" "Chain.found_mover" k9) (iChainsettle:MI K cChain "settle" "Chain.settle" U0) (iChaintake:MI K cChain "take" "Chain.take" Q5) (iChainsize:MI K cChain "size" "Chain.size" Q4) (iGroupinit:MI K cGroup "__init__" "Group.__init__" X2) (iGrouptold:MI K cGroup "told" "Group.told" Q7) (iGroupsize:MI K cGroup "size" "Group.size" Q6) (iGrouphas:MI K cGroup "has" "Group.has" M3) (iChainmovers_at:MI K cChain "movers_at" "Chain.movers_at" Y1) (iGrouplean_makers:MI K cGroup "lean_makers" "Group.lean_makers" b0) (iGrowthinit:MI K cGrowth "__init__" "Growth.__init__" Y3) (iGrowthtake:MI K cGrowth "take" "Growth.take" T5) (iGrowthsize:MI K cGrowth "size" "Growth.size" T4) (iGrowthwhole:MI K cGrowth "whole" "Growth.whole" U1) {xC0:Addr} (xe0:EI K "TurnError" xC0 bmV) {xC1:Addr} (xe1:EO K "NotPart" xC1 xC0) (xv:W.nsIn K mainGlobals "ValueError"=some none) (tt:yp9 K "stairs" "slopes"=true)
  (zz:(["len","range","list","tuple","isinstance","int","bool","str","enumerate","sorted","sum","all","set","reversed","divmod","max","min"]:List Str).all (λx=>match W.nsIn K mainGlobals x with|some none=>true|_=>false)=true) :
  ∃fd:fk,(∀(s:eS) (v:Value),BindsTo s fd ⟨[v],[]⟩ [("_law_script",v)])/\∀base:Heap,K.In base->base.Ns mainGlobals mg->Bm mg base->(∀y∈(["stairs","slopes"]:List Str),∀c P,W.tabIn K y=some (c,P)->W.CodeHd base c P)->v1 l.prog w K mg base CX0 16 fa fd ["_law_script"] (zz1 ["stairs","slopes"] K):=by
 cases hfa.symm.trans (W.mg_of X G aL)
 have bi:∀x∈(["len","range","list","tuple","isinstance","int","bool","str","enumerate","sorted","sum","all","set","reversed","divmod","max","min"]:List Str),mg x=none:=λx hx=>W.mg_none_of X G (by have h:=bo.mp zz x hx;split at h <;> first|assumption|cases h)
 have B:Blt mg:=by constructor <;> exact bi _ (by simp)
 have j17:zj1 mg "MOST_PLACES" (.int 60):=⟨_,W.mg_of X G gc0,⟨_,rfl⟩⟩
 have j41:zj1 mg "MOST_MAKERS" (.int 200):=⟨_,W.mg_of X G gc1,⟨_,rfl⟩⟩
 have j12:zj1 mg "STILL_LINE" (.int 0):=⟨_,W.mg_of X G gc2,⟨_,rfl⟩⟩
 refine⟨W.fnOf "law" "law" (V5 zb1) (d3 zb1) (z8 zb1) .none kV dc pm an cd ct,λs v=>.of_eq rfl,λbase _ _ hB hC=>?_⟩
 obtain⟨c1,pS,c2,pL,t1,t2,hpp⟩:=yq0 tt
 have ev:=λ(base:Heap) =>
  have Z:ZZ l.prog w K mg base:=⟨λa=>W.mg_of X G a⟩
  have j62:yv4 K mg xC0:=⟨Z.mg xe0.n,xe0.c,W.mg_none_of X G xv⟩
  have j30:=xe1.at Z
  have j4:=nBook.f
  have j2:=nStep.f
  have j1:=nChain.f
  have j0:=nGroup.f
  have j5:=nGrowth.f
  have j26:=a0.kn Z λD=>zu1 D B
  have j55:=a1.kn Z λD=>zk1 D B j26 j17
  have j25:=a2.kn Z λD=>B3 D B j55
  have j29:=a3.kn Z λD=>yn0 D B
  have j8:=a4.kn Z λD=>yg8 D B
  have j14:=a5.kn Z λD=>ys1 D B
  have j61:=a6.kn Z λD=>yh1 D B
  have j59:=a7.kn Z λD=>zk3 D B j26 j25 j17 j41
  have j44:=iBookinit.mak Z nBook λF=>zp0 F B j4 j29 j12
  have j9:=iBookput.kn Z λF=>zu0 F B j4
  have j33:=iBookput_behind.kn Z λF=>J5 F B j4 j9 j8 j12
  have j32:=iBookput_back.kn Z λF=>B2 F B j4 j9 j14
  have j46:=iStepinit.mak Z nStep λF=>zp2 F B j2 j29 j12
  have j18:=iStepput_mover.kn Z λF=>E8 F B j2
  have j43:=iStepput_place.kn Z λF=>E9 F B j2 j14
  have j42:=iStepnext_pair.kn Z λF=>E7 F B j2
  have j20:=iChaininit.mak Z nChain λF=>zj2 F B j1 j44 j46
  have j37:=iChainsifted.kn (sp:=zz3 cChain cBook cStep) Z λF=>zb9 F B j1 j2 j8
  have j10:=iChainholds.kn Z λF=>zg0 F B j1 j37
  have j34:=iChainfound_mover.kn Z λF=>N8 F B j1 j4 j2 j8 j43 j33 j32 j18 j10
  have j36:=iChainsettle.kn Z λF=>zb8 F B j1 j2 j42 j34
  have j16:=iChaintake.kn Z λF=>zj4 F B j1 j4 j2 j9 j18 j10 j36
  have j15:=iChainsize.kn (sp:=zq9 cChain cBook cStep) Z λF=>zj3 F B j1 j2
  have j7:=iGroupinit.mak Z nGroup λF=>zj5 F B j0 j1 j59 j20 j16
  have j63:=iGrouptold.kn (sp:=yp5 cGroup cChain cBook cStep) Z λF=>zj7 F B j0
  have j3:=iGroupsize.kn Z λF=>zj6 F B j0 j1 j15
  have j6:=iGrouphas.kn Z λF=>zp1 F B j0 j1 j25 j10
  have j35:=iChainmovers_at.kn Z λF=>J6 F B j1 j4 j2
  have j11:=iGrouplean_makers.kn Z λF=>N9 F B j0 j1 j35
  have j45:=iGrowthinit.mak Z nGrowth λF=>zg1 F B j5 j20
  have j39:=iGrowthtake.kn Z λF=>zg3 F B j5 j1 j16
  have j38:=iGrowthsize.kn Z λF=>zg2 F B j5 j1 j15
  have j40:=iGrowthwhole.kn Z λF=>zc0 F B j5 j0 j7
  have j31:=yg4 j11
  have j53:=a8.kn Z λD=>zx8 D B j0 j31 j6
  have j60:=a9.kx Z λD=>zp3 D B j53 j30
  have j56:=a10.kn Z λD=>zk2 D B j0 j5 j45 j39 j38 j40 j3 j11 j61
  have j57:=a11.kn Z λD=>yx8 D B j8 j14
  have j58:=a12.kx Z λD=>ym9 D B j0 j11 j60 j56 j57
  have j19:=zx4 j58
  have j24:=a13.kn Z λD=>zk0 D B j0 j3
  And.intro j0 (And.intro j7 (And.intro j3 (And.intro j6 (And.intro j19 (j24)))))
 have Z:ZZ l.prog w K mg base:=⟨λa=>W.mg_of X G a⟩
 obtain⟨j0,j7,j3,j6,j19,j24⟩:=ev base
 have j21:=λ(b:Heap) (_:L2.Mod K mg b)=>(ev b).2.2.2.2.1
 have j22:=λ(b:Heap) (_:L2.Mod K mg b)=>(ev b).2.2.2.2.2
 have j28:=a14.kt Z t1 λD hc=>yh0 D B hc (hC "stairs" (by simp) _ _ t1) hB j21 j22
 have j27:=a15.kt Z t2 λD hc=>yg9 D B hc (hC "slopes" (by simp) _ _ t2) hB j21 j22
 have j54:=a16.kn Z λD=>zx9 D B j0 j3 j28
 have j52:=a17.kn Z λD=>zx7 D B j0 j3 j27
 have j47:=a18.kn Z λD=>zc1 D B
 have j51:=a19.kn Z λD=>zc3 D B
 have j13:=a20.kn Z λD=>zc2 D B
 have j23:=a21.kn Z λD=>zj9 D B
 have j48:=a22.kn Z λD=>zj8 D B j13
 have j49:=a23.kn Z λD=>zg4 D B j48 j23
 have j50:=a24.kn Z λD=>zg5 D B j13
 exact yx7 ⟨zo1 (st:=zb1) lL cL kL,(zo1 (st:=zb1) lL cL kL).binds (ps:=["_law_script"]) λ_ _ _ _ _ _ us hl=>match us,hl with|[_],_=>rfl,W.mg_of X G aL⟩ B t1 t2 hpp j0 j7 j3 j6 j47 j51 j13 j23 j49 j50 j28 j27 j54 j52
end Tb
open PySem PySem.W PyProof.Rows
set_option maxRecDepth 100000 in
set_option maxHeartbeats 0 in
theorem PySem.Challenge.cw_turnbase_k66_whole_rings_and_mirrors_holds : PySem.Challenge.rw_turnbase_k66_whole_rings_and_mirrors.Holds := by
 refine Tb.early.2 Tb.early2 Tb.early3 Tb.early4 Tb.early5 ?_
 refine Tb.walkT (l := PySem.Challenge.rw_turnbase_k66_whole_rings_and_mirrors) (k := 16) (x := "_law_script") ["stairs", "slopes"] rfl rfl ⟨rfl, by decide, by decide⟩ (fun w h Y => PySem.W.kIn_of Y) (by kernel_rfl) (fun w => by kernel_rfl) ?F
 case F =>
  intro w mg fa h KX G hmg
  refine' Tb.all_mk KX G hmg ?a0 ?a1 ?a2 ?a3 ?a4 ?a5 ?a6 ?a7 ?a8 ?a9 ?a10 ?a11 ?a12 ?a13 ?a14 ?a15 ?a16 ?a17 ?a18 ?a19 ?a20 ?a21 ?a22 ?a23 ?a24 ?aL ?lL ?cL ?kL ?gc0 ?gc1 ?gc2 ?nBook ?nStep ?nChain ?nGroup ?nGrowth ?iBookinit ?iBookput ?iBookput_behind ?iBookput_back ?iStepinit ?iStepput_mover ?iStepput_place ?iStepnext_pair ?iChaininit ?iChainsifted ?iChainholds ?iChainfound_mover ?iChainsettle ?iChaintake ?iChainsize ?iGroupinit ?iGrouptold ?iGroupsize ?iGrouphas ?iChainmovers_at ?iGrouplean_makers ?iGrowthinit ?iGrowthtake ?iGrowthsize ?iGrowthwhole ?xe0 ?xe1 ?xv ?tt ?zz
  (case a0 | a1 | a2 | a3 | a4 | a5 | a6 | a7 | a8 | a9 | a10 | a11 | a12 | a13 | a14 | a15 | a16 | a17 | a18 | a19 | a20 | a21 | a22 | a23 | a24 => refine' Tb.DI.of ?x1 ?x2 ?x3 ?x4; (case x1 | x2 | x3 | x4 => first | k_is | kernel_rfl | (unfold Tb.MF; k_is)))
  (case nBook | nStep | nChain | nGroup | nGrowth => refine' Tb.CI.of ?x1 ?x2 ?x3 ?x4 ?x5 ?x6 ?x7 ?x8; (case x1 | x2 | x3 | x4 | x5 | x6 | x7 | x8 => first | k_is | kernel_rfl | (unfold Tb.MF; k_is)))
  (case iBookinit | iBookput | iBookput_behind | iBookput_back | iStepinit | iStepput_mover | iStepput_place | iStepnext_pair | iChaininit | iChainsifted | iChainholds | iChainfound_mover | iChainsettle | iChaintake | iChainsize | iGroupinit | iGrouptold | iGroupsize | iGrouphas | iChainmovers_at | iGrouplean_makers | iGrowthinit | iGrowthtake | iGrowthsize | iGrowthwhole => refine' Tb.MI.of ?x1 ?x2 ?x3 ?x4 ?x5; (case x1 | x2 | x3 | x4 | x5 => first | k_is | kernel_rfl | (unfold Tb.MF; k_is)))
  (case xe0 => refine' Tb.EI.of ?x1 ?x2 ?x3 ?x4 ?x5 ?x6; (case x1 | x2 | x3 | x4 | x5 | x6 => first | k_is | kernel_rfl | (unfold Tb.MF; k_is)))
  (case xe1 => refine' ⟨Tb.EI.of ?x1 ?x2 ?x3 ?x4 ?x5 ?x6, ?x7⟩; (case x1 | x2 | x3 | x4 | x5 | x6 | x7 => first | k_is | kernel_rfl | (unfold Tb.MF; k_is)))
  (case aL | lL | cL | kL | gc0 | gc1 | gc2 | xv | tt | zz => first | k_is | kernel_rfl | (unfold Tb.MF; k_is))

