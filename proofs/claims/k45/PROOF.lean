import PyProof.Rows.All
import KE.KDictList
import KE.KIsAll
import KE.KSortTup
import KE.LcSums
import KE.KItem
import Lean
import PySem.Challenge.RW_turnbase_k45_too_many_things
open Array renaming length_toList → aP, getElem?_toList → bC, append_assoc → eZ, toList_map → fm, toList_inj → fq
open Bool renaming false_ne_true → aE, false_eq_true → bM, and_eq_true → bV, eq_false_iff → cz, eq_iff_iff → dD, false_and → eD, and_false → eE, or_true → eQ
open Int renaming le_of_lt → bH, not_lt → bN, toNat_natCast → bQ, emod_nonneg → bR, le_trans → ck, le_refl → dh, emod_lt_of_pos → dz, toNat_of_nonneg → dL, natCast_nonneg → dN, le_antisymm → dZ, fmod_eq_emod_of_nonneg → eM, fdiv_eq_ediv_of_nonneg → eN, natCast_emod → fv, natCast_mul → fz
open List renaming getElem?_eq_getElem → aa, length_map → ae, length_append → af, getElem?_eq_some_iff → ag, mem_singleton → ao, mem_cons → aq, getElem?_map → ar, mem_of_getElem? → au, mem_map → av, mem_cons_of_mem → aw, getD_eq_getElem?_getD → ax, mem_cons_self → ay, size_toArray → aB, length_cons → aC, mem_append → aD, mem_flatten → aF, map_append → aG, getElem?_eq_none → aH, map_cons → aI, mem_append_left → aJ, mem_append_right → aK, length_range → aN, getElem?_append_left → aS, take_add_one → aT, getElem?_append_right → aU, mem_nil_iff → aV, getElem?_of_mem → aW, mem_range → aX, append_assoc → aY, nodup_cons → aZ, getElem?_range → bg, length_take → bj, pairwise_map → bn, nodup_append → bo, map_congr_left → bp, append_nil → bu, mem_of_mem_take → bv, not_mem_nil → bx, getElem_mem → bz, take_of_length_le → bA, mem_filterMap → bB, length_singleton → bD, map_map → bE, take_length → bG, pairwise_iff_getElem → bI, take_append_of_le_length → bJ, take_append_drop → bK, length_set → bL, getElem?_set_ne → bO, all_eq_true → bP, mem_flatMap → bS, lookup_cons → bT, length_drop → bU, mem_iff_getElem → bW, take_sublist → bY, flatten_cons → bZ, ext_getElem? → cf, getElem?_set_self → ci, drop_eq_getElem_cons → cn, map_nil → cq, take_zero → cu, nodup_range → cv, length_replicate → cy, getElem_inj → cD, toList_toArray → cE, find?_cons → cF, length_eq_zero_iff → cK, getElem?_replicate → cM, find?_cons_of_pos → cN, find?_cons_of_neg → cO, drop_of_length_le → cQ, map_id → df, length_nil → di, flatten_append → dv, getElem?_drop → dw, getElem?_take_of_lt → dA, filter_cons → dC, flatMap_append → dG, filterMap_cons → dH, sum_cons → dI, map_take → dJ, find?_append → dO, cons_ne_nil → dQ, of_mem_zip → dW, mem_filter → dX, forIn_cons → dY, nodup_nil → eA, mem_or_eq_of_mem_set → eJ, getElem?_eq_none_iff → eK, length_erase_of_mem → eO, any_cons → eP, mem_of_mem_drop → eV, contains_cons → ff, getElem_take → fj, flatMap_cons → fk, mem_reverse → ft, drop_zero → fx, drop_drop → fy, all_cons → fA, all_map → fC
open Nat renaming le_refl → ah, lt_of_lt_of_le → aM, ne_of_lt → aO, le_trans → aQ, zero_le → aR, lt_irrefl → bh, le_of_lt → bF, le_succ → bX, mod_eq_of_lt → cm, le_add_right → cw, lt_of_le_of_ne → cH, lt_of_le_of_lt → cJ, zero_add → cT, sub_self → cU, ne_of_gt → cV, lt_succ_of_lt → cW, lt_or_ge → cX, lt_succ_self → cZ, le_of_not_lt → de, not_lt_zero → dq, le_antisymm → du, min_eq_left → dE, mod_lt → dM, succ_pos → dP, one_pos → dR, one_mul → dS, mul_one → dU, mul_le_mul → eF, sub_zero → eR, le_total → eS, le_of_eq → eT, add_zero → eU, pow_le_pow_right → eX, mul_le_mul_right → eY, max_eq_right → fu, mul_assoc → fB, pow_succ → fD, mod_self → fE, lt_trans → fF, add_comm → fH, mul_pos → fI, add_mul → fJ
open Option renaming toList_some → cx, getD_some → cY, map_eq_some_iff → dB, isSome_iff_exists → eg, isSome_map → eW, getD_none → fc, map_some → fh
open PySem.Heap renaming get?_push_of_some → al, lt_size → az, get?_push_size → aA, size_push → dF
set_option Elab.async false
set_option linter.all false
namespace Tb
open PySem PySem.W
def yx2 (st:SharedT->Thread->Option (SharedT×Thread))(ok thr:Thread->Bool):Nat->SharedT->Thread->Option SharedT
 | 0,_,_=>none
 | n+1,s,t=>match thr t with
  | true=>some s
  | false=>match ok t with
   | false=>none
   | true=>match st s t with
    | some (s',t')=>yx2 st ok thr n s' t'
    | none=>none
theorem yl7 {tb:String->Option Builtin}{p:Program}{w:World}{n₀:Nat}{ann:Option Value}:∀{n:Nat} {s r:SharedT} {t:Thread},yx2 (stepT (denote tb) p w) (stepOk n₀ ann) through n s t=some r->topRun tb p w n₀ ann n s.abs t=some r.abs
 | 0,_,_,_,h=>by cases h
 | n+1,s,r,t,h=>by
  unfold yx2 at h
  unfold topRun
  cases ht:through t with
  | true=>rw [ht] at h;cases h;rfl
  | false =>
   rw [ht] at h
   cases hk:stepOk n₀ ann t with
   | false=>rw [hk] at h;cases h
   | true =>
    rw [hk] at h
    cases hs:stepT (denote tb) p w s t with
    | none=>rw [hs] at h;cases h
    | some q =>
     obtain ⟨s₂,t₂⟩:=q
     rw [hs] at h
     rw [stepT_spec hs]
     exact yl7 h
def ze5:List Obj->Nat->BT->Option BT
 | [],_,T=>some T
 | o::r,k,T=>match ((T.ins k o).get k).isSome with
  | true=>ze5 r (k+1) (T.ins k o)
  | false=>none
theorem zn6 {life:Life}:∀{l:List Obj} {k:Nat} {T T':BT},ze5 l k T=some T'->(absHeap T' (k+l.length) life).objs=(absHeap T k life).objs++l.toArray
 | [],k,T,T',h=>by
  cases h
  simp
 | o::r,k,T,T',h=>by
  unfold ze5 at h
  cases hs:((T.ins k o).get k).isSome with
  | false=>rw [hs] at h;cases h
  | true =>
   rw [hs] at h
   have ih:=zn6 (life:=life) h
   rw [absHeap_ins hs] at ih
   rw [aC,show k+(r.length+1)=k+1+r.length by omega,ih]
   show ((absHeap T k life).objs.push o)++r.toArray=_
   simp
theorem yd6 {h:Heap}{T:BT}(e:ze5 h.objs.toList 0 .nil=some T):absHeap T h.objs.size h.life=h:=by
 have q:=zn6 (life:=h.life) e
 rw [cT,aP] at q
 have q0:(absHeap BT.nil 0 h.life).objs=#[]:=by
  apply Array.ext_getElem?
  intro i
  rw [absHeap_at]
  simp
 rw [q0] at q
 have:(absHeap T h.objs.size h.life).objs=h.objs:=by rw [q];simp
 show Heap.mk _ _=h
 rw [show h=Heap.mk h.objs h.life from rfl]
 exact congrArg (Heap.mk · h.life) this
def ys9 (fo:Option Shared)(st:SharedT->Thread->Option (SharedT×Thread))(ok:Nat->Option Value->Thread->Bool)(p:Program)(N:Nat):Option (Shared×SharedT) :=
 match fo with
 | none=>none
 | some s₀=>match ze5 s₀.heap.objs.toList 0 .nil with
  | none=>none
  | some T=>match yx2 st (ok s₀.heap.objs.size (s₀.heap.nsMap mainGlobals "__annotations__")) through N ⟨T,s₀.heap.objs.size,s₀.heap.life,s₀.gens,s₀.drawn,s₀.toks,s₀.os⟩ (topStub p) with
   | none=>none
   | some s₁=>some (s₀,s₁)
def yn1 {β:Type}:Nat->List β->List β
 | 0,_=>[]
 | _+1,[]=>[]
 | n+1,x::l=>x::yn1 n l
def zz2 {β:Type}:Nat->List β->List β
 | 0,l=>l
 | _+1,[]=>[]
 | n+1,_::l=>zz2 n l
theorem yd5 {β:Type}:∀(n:Nat) (l:List β),yn1 n l=l.take n
 | 0,_=>rfl
 | _+1,[]=>rfl
 | n+1,x::l=>congrArg (x :: ·) (yd5 n l)
theorem B0 {β:Type}:∀(n:Nat) (l:List β),zz2 n l=l.drop n
 | 0,_=>rfl
 | _+1,[]=>rfl
 | n+1,_::l=>B0 n l
theorem leftC {p q:Program}{loose:List Str}{Xt:Shared->Bool}{β:Type}{Yf:Shared->List β}{Ya:World->List β}{N:Nat}{g0:Bool}(n:Nat)(e:opening p=plainProg p.main.scope.names)(hN:Nat.ble 600 N=true)(f:∀s,fenceModules? p s=some s)
  (hA:∀w os,(ys9 (some ⟨boot_heap w.params,Array.mk [],boot_drawn,boot_toks,os⟩) (stepT (denote treeTable) p w) stepOk p N).map (λr=>(r.1.heap.isNs mainGlobals&&r.1.gens.size==0,staticsOk (importedModules p.main.body) r.1.heap r.2.abs.heap&&namesBound p r.2.abs.heap&&gensDone r.2.abs&&laidKept r.1.heap r.2.abs.heap,openSeen q loose (importedModules p.main.body) Xt g0 r.2.abs))=some (true,true,openGood q loose))
  (hB:∀w os,(ys9 (some ⟨boot_heap w.params,Array.mk [],boot_drawn,boot_toks,os⟩) (stepT (denote treeTable) p w) stepOk p N).map (λr=>(Yf r.2.abs).take n)=some (yn1 n (Ya w)))
  (hC:∀w os,(ys9 (some ⟨boot_heap w.params,Array.mk [],boot_drawn,boot_toks,os⟩) (stepT (denote treeTable) p w) stepOk p N).map (λr=>((Yf r.2.abs).drop n).take n)=some (yn1 n (zz2 n (Ya w))))
  (hD:∀w os,(ys9 (some ⟨boot_heap w.params,Array.mk [],boot_drawn,boot_toks,os⟩) (stepT (denote treeTable) p w) stepOk p N).map (λr=>((Yf r.2.abs).drop n).drop n)=some (zz2 n (zz2 n (Ya w)))):LeftO p q loose Xt Yf Ya N g0:=λw=>by
 obtain ⟨s₀,hs,hv⟩:=dB.mp (boot_open e hN f w)
 have es:(⟨boot_heap w.params,Array.mk [],boot_drawn,boot_toks,s₀.os⟩:Shared)=s₀:=by
  obtain ⟨h1,h2⟩:=Prod.mk.inj hv
  obtain ⟨h2,h3⟩:=Prod.mk.inj h2
  obtain ⟨h3,h4⟩:=Prod.mk.inj h3
  rw [←h1,←h2,←h3,←h4]
 have a:=hA w s₀.os
 have b:=hB w s₀.os
 have c:=hC w s₀.os
 have d:=hD w s₀.os
 rw [es] at a b c d
 clear es hv
 unfold openEnds
 rw [hs]
 unfold ys9 at a b c d
 dsimp only at a b c d
 cases ht:ze5 s₀.heap.objs.toList 0 .nil with
 | none=>rw [ht] at a;cases a
 | some T =>
  rw [ht] at a b c d
  dsimp only at a b c d
  cases hr:yx2 (stepT (denote treeTable) p w) (stepOk s₀.heap.objs.size (s₀.heap.nsMap mainGlobals "__annotations__")) through N ⟨T,s₀.heap.objs.size,s₀.heap.life,s₀.gens,s₀.drawn,s₀.toks,s₀.os⟩ (topStub p) with
  | none=>rw [hr] at a;cases a
  | some s₁ =>
   rw [hr] at a b c d
   have a:=Option.some.inj a
   have b:=Option.some.inj b
   have c:=Option.some.inj c
   have d:=Option.some.inj d
   dsimp only at a b c d
   rw [yd5] at b c
   rw [B0] at c
   rw [B0,B0] at d
   have c':(Yf s₁.abs).drop n=(Ya w).drop n:=by rw [←bK n ((Yf s₁.abs).drop n),c,d,bK]
   have b':Yf s₁.abs=Ya w:=by rw [←bK n (Yf s₁.abs),b,c',bK]
   have e1:=(Prod.mk.inj a).1
   have e2:=(Prod.mk.inj (Prod.mk.inj a).2).1
   have e3:=(Prod.mk.inj (Prod.mk.inj a).2).2
   have r:=yl7 hr
   have ab:(SharedT.mk T s₀.heap.objs.size s₀.heap.life s₀.gens s₀.drawn s₀.toks s₀.os).abs=s₀:=by
    show Shared.mk (absHeap T s₀.heap.objs.size s₀.heap.life) s₀.gens s₀.drawn s₀.toks s₀.os=s₀
    rw [yd6 ht]
   rw [ab] at r
   show Option.map _ (topFrom treeTable p w N s₀)=_
   unfold topFrom
   rw [e1]
   dsimp only
   rw [r]
   show Option.map _ (match staticsOk (importedModules p.main.body) s₀.heap s₁.abs.heap&&namesBound p s₁.abs.heap&&gensDone s₁.abs&&laidKept s₀.heap s₁.abs.heap with|true=>some s₁.abs|false=>none)=_
   rw [e2]
   exact congrArg some (Prod.ext e3 b')
end Tb
section
open PySem PySem.W PyProof.Rows
namespace Tb
def seenQ:Program:=view PySem.Challenge.pw_turnbase_k45_too_many_things [0,2,3,4,5,6,8,9,10,11,12,13,14,15,17,18,19,20,22,23,24,26,28,29,30,31,32,33,34,35,37,38,39,40,41,42,43,44,45,46,47]
end Tb
local macro_rules | `(tactic| o_head $H:term)=>`(tactic| refine W.holds_open (q:=Tb.seenQ) (loose:=[]) (Xt:=λs=>xlAt Tb.seenQ [] s&&recOk (RowW.records (OpenRow.toRowW PySem.Challenge.rw_turnbase_k45_too_many_things.row)) s) (XP:=XL Tb.seenQ []) (Yf:=Hook.obs $H) (Ya:=Hook.val $H) (YP:=Hook.says $H) (N:=10470) ?hl (Hook.of $H) (Hook.keeps $H) (λs e=>xl_of s (Bool.and_eq_true_iff.mp e).1) XL.keeps (by rfl) (by rfl) (by rfl) (λs e=>recFacts_of (Bool.and_eq_true_iff.mp e).2) (by rfl) (by assumption) (by decide +kernel) ⟨rfl,rfl,rfl,rfl,rfl,by decide +kernel⟩ ?hw ?hc)
set_option maxRecDepth 100000 in
set_option maxHeartbeats 0 in
def Tb.early:PSigma (λT:Prop×Prop×Prop×Prop×Prop=>T.1->T.2.1->T.2.2.1->T.2.2.2.1->T.2.2.2.2->PySem.Challenge.rw_turnbase_k45_too_many_things.Holds):=by
 refine ⟨(∀w os,(?A:World->OsState->Prop) w os,∀w os,(?B:World->OsState->Prop) w os,∀w os,(?C:World->OsState->Prop) w os,∀w os,(?D:World->OsState->Prop) w os,?T),λha hb hc hd he=>?m⟩
 (case m =>
  w_on;refine W.holds_law (by kernel_rfl) λsaid=>?_;k_head
  (case hl =>
  refine Tb.leftC (β:=Option Obj) 190 (by kernel_rfl) (by decide) (λs=>by kernel_rfl) ?_ ?_ ?_ ?_ <;> intro w os <;> (try unfold Tb.seenQ) <;> (repeat (first|rw [PySem.W.Fast.te10274390034422433532]|rw [PySem.W.Fast.te14289696077712309145]|rw [PySem.W.Fast.te10156331382660048174]|rw [PySem.W.Fast.te6613529449190102663]|rw [PySem.W.Fast.te11892475500146522536]|rw [PySem.W.Fast.te4187177175401517315]|rw [PySem.W.Fast.te14364793385576792824]|rw [PySem.W.Fast.te1435165496053646825]|rw [PySem.W.Fast.te5923862056798008813]))
  ·exact ha w os
  ·exact hb w os
  ·exact hc w os
  ·exact hd w os)
  (case hw=>w_witness2)
  k_fill
  exact he)
set_option maxRecDepth 100000 in
set_option maxHeartbeats 0 in
theorem Tb.early2:Tb.early.1.1:=by
 refine λw os=>?_
 kernel_rfl
set_option maxRecDepth 100000 in
set_option maxHeartbeats 0 in
theorem Tb.early3:Tb.early.1.2.1:=by
 refine λw os=>?_
 kernel_rfl
set_option maxRecDepth 100000 in
set_option maxHeartbeats 0 in
theorem Tb.early4:Tb.early.1.2.2.1:=by
 refine λw os=>?_
 kernel_rfl
set_option maxRecDepth 100000 in
set_option maxHeartbeats 0 in
theorem Tb.early5:Tb.early.1.2.2.2.1:=by
 refine λw os=>?_
 kernel_rfl
end
set_option Elab.async false
set_option linter.all false
set_option maxRecDepth 100000
namespace L2
open PySem PySem.Spec PyProof.Rows
abbrev Key:=Sum Int Str
def zk3 : Key -> Value -> Bool
  | .inl k,v=>Value.isInt k v
  | .inr x,v=>Value.isStrOf x v
def xu3 (w : World) : Key -> Int
  | .inl k=>hashInt k
  | .inr x=>hashStr w x
theorem i5 : ∀{k : Key} {v : Value}, zk3 k v = true -> (∃i t, k = Sum.inl i /\ v = Value.int i t)∨(∃x t, k = Sum.inr x /\ v = Value.str x t)
  | .inl i,v,h=>by
    obtain ⟨t,e⟩:=Value.isInt_shape (k:=i) (v:=v) h
    exact .inl ⟨i,t,rfl,e⟩
  | .inr x,v,h=>by
    obtain ⟨t,e⟩:=Value.isStrOf_shape (x:=x) (v:=v) h
    exact .inr ⟨x,t,rfl,e⟩
theorem yo6 (i:Int)(t:Tok):zk3 (.inl i) (.int i t)=true:=by simp [zk3,Value.isInt]
theorem yo7 (x:Str)(t:Tok):zk3 (.inr x) (.str x t)=true:=by simp [zk3,Value.isStrOf]
theorem xk9 (a b:Int):decide ((Sum.inl a:Key)=Sum.inl b)=(a==b):=by
  by_cases e:a=b
  . subst e;simp
  . have h : ¬(Sum.inl a : Key) = Sum.inl b := λq => e (Sum.inl.inj q)
    rw [decide_eq_false h]
    exact (beq_eq_false_iff_ne.mpr e).symm
theorem xl2 (a b:Str):decide ((Sum.inr a:Key)=Sum.inr b)=decide (a=b):=by
  by_cases e:a=b
  . subst e;simp
  . have h : ¬(Sum.inr a : Key) = Sum.inr b := λq => e (Sum.inr.inj q)
    rw [decide_eq_false h,decide_eq_false e]
theorem xl0 (a:Int)(b:Str):decide ((Sum.inl a:Key)=Sum.inr b)=false:=decide_eq_false (λq=>nomatch q)
theorem xl1 (a:Str)(b:Int):decide ((Sum.inr a:Key)=Sum.inl b)=false:=decide_eq_false (λq=>nomatch q)
def f7 (prog:Program)(w:World):PySem.KeyKind prog w Key where
  is:=zk3
  hash:=xu3 w
  inj:=λv a b ha hb=>by
    rcases i5 ha with ⟨i,t,rfl,rfl⟩|⟨x,t,rfl,rfl⟩
    . rcases i5 hb with ⟨j, u, rfl, e⟩|⟨y, u, rfl, e⟩
      . injection e with e1 _;rw [e1]
      . exact nomatch e
    . rcases i5 hb with ⟨j, u, rfl, e⟩|⟨y, u, rfl, e⟩
      . exact nomatch e
      . injection e with e1 _;rw [e1]
  byValue:=λk v h=>by
    rcases i5 h with ⟨i,t,rfl,rfl⟩|⟨x,t,rfl,rfl⟩ <;> rfl
  pyHash:=λhv h=>by
    rcases i5 hv with ⟨i,t,rfl,rfl⟩|⟨x,t,rfl,rfl⟩
    . exact wpAny_pyHash_int h
    . exact wpAny_pyHash_str h
  eqBool:=λhu hv h=>by
    rcases i5 hu with ⟨i,t,rfl,rfl⟩|⟨x,t,rfl,rfl⟩
    . rcases i5 hv with ⟨j, u, rfl, rfl⟩|⟨y, u, rfl, rfl⟩
      . rw [xk9] at h;exact wpAny_eqBool_int h
      . rw [xl0] at h;exact SeqAt.EqAt.int_str i t y u _ _ _ _ h
    . rcases i5 hv with ⟨j, u, rfl, rfl⟩|⟨y, u, rfl, rfl⟩
      . rw [xl1] at h;exact SeqAt.EqAt.str_int x t j u _ _ _ _ h
      . rw [xl2] at h;exact wpAny_eqBool_str h
  «strs»:=λk x t v h=>by
    rcases i5 h with ⟨i,u,rfl,e⟩|⟨y,u,rfl,e⟩
    . exact nomatch e
    . injection e with e1 _
      subst e1
      cases v <;> rfl
theorem ya4 (prog:Program)(w:World)(i:Int)(t:Tok):(f7 prog w).is (.inl i) (.int i t)=true:=yo6 i t
theorem ya5 (prog:Program)(w:World)(x:Str)(t:Tok):(f7 prog w).is (.inr x) (.str x t)=true:=yo7 x t
inductive V where
  | non|bl (b:Bool)|int (i:Int)|str (x:Str)|byt (b:Array UInt8)|flt (b:UInt64)|ref (a:Addr)|ty (n:String)
  deriving DecidableEq
def p0 : V -> Value -> Prop
  | .non,u=>u=Value.none
  | .bl b,u=>u=Value.bool b
  | .int i,u=>∃t,u=Value.int i t
  | .str x,u=>∃t,u=Value.str x t
  | .byt b,u=>∃t,u=Value.bytes b t
  | .flt b,u=>∃t,u=Value.float b t
  | .ref a,u=>u=Value.ref a
  | .ty n,u=>u=Value.type n
abbrev t9:List V->List Value->Prop:=Paired p0
theorem t9.length {xs:List V}{us:List Value}(r:t9 xs us):xs.length=us.length:=Paired.length r
theorem t9.get : ∀{xs : List V} {us : List Value} {i : Nat} {x : V}, t9 xs us -> xs[i]? = some x -> ∃u, us[i]? = some u /\ p0 x u
  | _,_,_,_,.nil,e=>by simp at e
  | _,_,0,_,.cons r _,e=>by simp at e;subst e;exact ⟨_,rfl,r⟩
  | _,_,i+1,x,.cons _ t,e=>by
    obtain ⟨u,h1,h2⟩:=t9.get (i:=i) (x:=x) t (by simpa using e)
    exact ⟨u,by simpa using h1,h2⟩
theorem t9.set {x : V}{u : Value}(r : p0 x u) : ∀{xs : List V} {us : List Value} (i : Nat), t9 xs us -> t9 (xs.set i x) (us.set i u)
  | _,_,_,.nil=>.nil
  | _,_,0,.cons _ t=>.cons r t
  | _,_,i+1,.cons q t=>.cons q (t9.set r i t)
theorem t9.append : ∀{xs ys : List V} {us ws : List Value}, t9 xs us -> t9 ys ws -> t9 (xs ++ ys) (us ++ ws)
  | _,_,_,_,.nil,s=>s
  | _,_,_,_,.cons r t,s=>.cons r (t9.append t s)
theorem t9.take : ∀{xs : List V} {us : List Value} (n : Nat), t9 xs us -> t9 (xs.take n) (us.take n)
  | _,_,0,_=>.nil
  | _,_,_+1,.nil=>.nil
  | _,_,n+1,.cons r t=>.cons r (t9.take n t)
theorem t9.drop : ∀{xs : List V} {us : List Value} (n : Nat), t9 xs us -> t9 (xs.drop n) (us.drop n)
  | _,_,0,r=>r
  | _,_,_+1,.nil=>.nil
  | _,_,n+1,.cons _ t=>t9.drop n t
def E2 : Option V -> Option Value -> Prop
  | some v,some u=>p0 v u
  | none,none=>True
  | _,_=>False
def KV {κ:Type}:List (κ×V)->List (κ×Value)->Prop:=Paired λ(p:κ×V) (q:κ×Value)=>p.1=q.1/\p0 p.2 q.2
def kV : Key -> V
  | .inl i=>.int i
  | .inr x=>.str x
inductive HO where
  | lst (xs:List V)
  | tup (xs:List V)
  | dK (kvs:List (Key×V))|dT (kvs:List (List Key×V))
  | set (S:Int->Bool) (n:Nat)
  | ins (C dx:Addr) (fs:List (Str×V))
  | own (x:Addr)
  | xd (fs:List (Str×V))
  | met (f x:Addr)
  | rng (lo hi:Int)
  | frz (o:Obj) (u:HO)
  | tbl (ps:Array Value)
  | ext (φ:Heap->Prop)
abbrev Hp:=Addr->Option HO
def upd (H:Hp)(a:Addr)(o:HO):Hp:=λb=>if b=a then some o else H b
theorem z4 {H:Hp}{a:Addr}{o:HO}:upd H a o a=some o:=by unfold upd;rw [if_pos rfl]
theorem z6 {H:Hp}{a b:Addr}{o:HO}(h:b≠a):upd H a o b=H b:=by unfold upd;rw [if_neg h]
theorem i6 {H:Hp}{a b:Addr}{o u:HO}(h:H a=some o)(h':H b=some u)(d:o≠u):a≠b:=by
  intro e;subst e;rw [h] at h';exact d (Option.some.inj h')
theorem y9 {H:Hp}{a b:Addr}{o:HO}(h:H a=some o)(h':H b=none):a≠b:=by
  intro e;subst e;rw [h] at h';cases h'
def zs7 (h:Heap)(a:Addr)(items:Array Value):Prop:=∃o,h.get? a=some o/\o.cls=.type "tuple"/\∃n,o.data=.seq items n/\o.dict=none
theorem zs7.new (h:Heap)(items:Array Value):zs7 (h.push { cls:=.type "tuple",data:=.seq items }) h.objs.size items:=⟨_,aA _ rfl,rfl,_,rfl,rfl⟩
theorem zs7.is {h:Heap}{a:Addr}{items:Array Value}(x:zs7 h a items):IsTup h a items:=let ⟨o,h1,h2,n,h3,_⟩:=x;⟨o,h1,h2,n,h3⟩
section
variable (P:Program)(w:World)
def p9 (H : Hp)(h : Heap)(a : Addr) : HO -> Prop
  | .lst xs=>xs.length<=sizeLine/\∃(its:List Value) (n:Nat),t9 xs its/\h.get? a=some { cls:=.type "list",data:=.seq its.toArray n }
  | .tup xs=>xs.length<=sizeLine/\∃its:List Value,t9 xs its/\zs7 h a its.toArray
  | .dK kvs=>kvs.length<=sizeLine/\(a==sysModules)=false/\∃vs,KV kvs vs/\h.DictOf (f7 P w) a vs
  | .dT kvs=>kvs.length<=sizeLine/\(a==sysModules)=false/\∃xs:List (List Key×Addr×Value),
      Paired (λ(p:List Key×V) (q:List Key×Addr×Value)=>p.1=q.1/\H q.2.1=some (.tup (p.1.map kV))/\p0 p.2 q.2.2) kvs xs /\
      ∃o es ep,h.get? a=some o/\o.ExactDict/\o.data=.dict es ep/\es.toList=xs.map (entryOfKey (tupleKind (f7 P w)))/\(xs.map (·.1)).Nodup
  | .set S n=>h.SetOf (intKind P w) a S n
  | .ins C dx fs=>H dx=some (.own a)/\fs.length<=1000/\dx≠a/\h.get? a=some (W.instObj C dx) /\
      ∃mA,h.Ns1 dx mA/\(∀f,E2 (fs.lookup f) (mA f))/\PySem.Within mA (fs.map (·.1))
  | .own _=>∃o,h.get? a=some o
  | .xd fs=>∃mA,h.Ns1 a mA/\∀f,E2 (fs.lookup f) (mA f)
  | .rng lo hi=>∃t u v,h.get? a=some { cls:=.type "range",data:=.fields #[.int lo t,.int hi u,.int 1 v] }
  | .frz o u=>h.get? a=some o/\p9 H h a u
  | .tbl ps=>h.get? a=some { cls:=.none,data:=.fields ps }
  | .met f x=>h.get? a=some (W.methodObj (.ref f) (.ref x))
  | .ext φ=>φ h/\(∃o,h.get? a=some o)/\∀h1 h2:Heap,φ h1->(∀o,h1.get? a=some o->h2.get? a=some o)->φ h2
def HOk (H:Hp)(h:Heap):Prop:=∀a o,H a=some o->p9 P w H h a o
end
section
variable {P:Program}{w:World}{H H':Hp}{h h':Heap}{a:Addr}{o:HO}
theorem p9.lt (x:p9 P w H h a o):a<h.objs.size:=by
  cases o with
  | lst xs=>obtain ⟨_,_,_,_,e⟩:=x;exact az e
  | tup xs=>obtain ⟨_,_,_,p⟩:=x;exact p.is.lt
  | dK kvs=>obtain ⟨_,_,_,_,o,_,_,e,_⟩:=x;exact az e
  | dT kvs=>obtain ⟨_,_,_,_,o,_,_,e,_⟩:=x;exact az e
  | set S n=>obtain ⟨o,_,_,_,e,_⟩:=x;exact az e
  | ins C dx fs=>obtain ⟨_,_,_,e,_⟩:=x;exact az e
  | own y=>obtain ⟨_,e⟩:=x;exact az e
  | xd fs=>obtain ⟨_,⟨_,_,_,e,_⟩,_⟩:=x;exact az e
  | rng lo hi=>obtain ⟨_,_,_,e⟩:=x;exact az e
  | frz ob u=>obtain ⟨e,_⟩:=x;exact az e
  | tbl ps=>exact az (show h.get? a=some _ from x)
  | met f y=>exact az (show h.get? a=some _ from x)
  | ext φ=>obtain ⟨_,⟨_,e⟩,_⟩:=x;exact az e
theorem Paired.mapP {α β : Type}{F G : α -> β -> Prop} : ∀{l₁ : List α} {l₂ : List β}, Paired F l₁ l₂ -> (∀a b, F a b -> G a b) -> Paired G l₁ l₂
  | _,_,.nil,_=>.nil
  | _,_,.cons r t,f=>.cons (f _ _ r) (Paired.mapP t f)
theorem Paired.imp' {α β:Type}{F G:α->β->Prop}(f:∀a b,F a b->G a b){l₁:List α}{l₂:List β}(r:Paired F l₁ l₂):Paired G l₁ l₂:=Paired.mapP r f
theorem p9.stay (x : p9 P w H h a o)(k : ∀b u, (b = a∨H b = some (.own a)) -> h.get? b = some u -> h'.get? b = some u)
    (ho:∀b,H b=some (.own a)->H' b=some (.own a)) (ht:∀b xs,H b=some (.tup xs)->H' b=some (.tup xs)):p9 P w H' h' a o:=by
  induction o with
  | lst xs=>obtain ⟨z,its,n,r,e⟩:=x;exact ⟨z,its,n,r,k _ _ (.inl rfl) e⟩
  | tup xs=>obtain ⟨z,its,r,ob,e,c⟩:=x;exact ⟨z,its,r,ob,k _ _ (.inl rfl) e,c⟩
  | dK kvs=>obtain ⟨z,y,vs,r,ob,es,ep,e,c⟩:=x;exact ⟨z,y,vs,r,ob,es,ep,k _ _ (.inl rfl) e,c⟩
  | dT kvs =>
    obtain ⟨z,y,xs,r,ob,es,ep,e,c⟩:=x
    exact ⟨z,y,xs,Paired.mapP r λp q z=>⟨z.1,ht _ _ z.2.1,z.2.2⟩,ob,es,ep,k _ _ (.inl rfl) e,c⟩
  | set S n=>obtain ⟨ob,es,ep,t,e,c⟩:=x;exact ⟨ob,es,ep,t,k _ _ (.inl rfl) e,c⟩
  | ins C dx fs =>
    obtain ⟨d,z,ne,e,mA,⟨od,es,ep,e2,c⟩,r⟩:=x
    exact ⟨ho _ d,z,ne,k _ _ (.inl rfl) e,mA,⟨od,es,ep,k _ _ (.inr d) e2,c⟩,r⟩
  | own y=>obtain ⟨ob,e⟩:=x;exact ⟨ob,k _ _ (.inl rfl) e⟩
  | xd fs=>obtain ⟨mA,⟨od,es,ep,e,c⟩,r⟩:=x;exact ⟨mA,⟨od,es,ep,k _ _ (.inl rfl) e,c⟩,r⟩
  | rng lo hi=>obtain ⟨t,u,v,e⟩:=x;exact ⟨t,u,v,k _ _ (.inl rfl) e⟩
  | frz ob u ih=>obtain ⟨e,q⟩:=x;exact ⟨k _ _ (.inl rfl) e,ih q⟩
  | tbl ps =>
    have e:h.get? a=some { cls:=.none,data:=.fields ps }:=x
    show h'.get? a=some { cls:=.none,data:=.fields ps }
    exact k a _ (.inl rfl) e
  | met f y =>
    have e:h.get? a=some (W.methodObj (.ref f) (.ref y)):=x
    show h'.get? a=some (W.methodObj (.ref f) (.ref y))
    exact k a _ (.inl rfl) e
  | ext φ=>obtain ⟨p,⟨o,e⟩,st⟩:=x;exact ⟨st _ _ p λo q=>k _ _ (.inl rfl) q,⟨o,k _ _ (.inl rfl) e⟩,st⟩
theorem HOk.lt (x:HOk P w H h)(e:H a=some o):a<h.objs.size:=(x a o e).lt
theorem HOk.fresh (x:HOk P w H h)(e:h.objs.size<=a):H a=none:=by
  cases q:H a with
  | none=>rfl
  | some u=>exact absurd (aM (x.lt q) e) (bh _)
theorem HOk.kept (x:HOk P w H h)(k:∀b u,h.get? b=some u->h'.get? b=some u):HOk P w H h':=λa o e =>
  (x a o e).stay (λb u _ q=>k b u q) (λ_ q=>q) λ_ _ q=>q
theorem HOk.laid (x:HOk P w H h)(k:∀b u,h.get? b=some u->h'.get? b=some u)(hp:h.objs.size<=a)(new:p9 P w (upd H a o) h' a o):HOk P w (upd H a o) h':=λb u e=>by
  have hn:=x.fresh hp
  by_cases hb:b=a
  . subst hb;rw [z4] at e;cases e;exact new
  . rw [z6 hb] at e
    exact (x b u e).stay (λc v _ q=>k c v q) (λc q=>by rw [z6 (y9 q hn)];exact q) λc xs q=>by rw [z6 (y9 q hn)];exact q
end
def Rd (H:Hp)(a:Addr)(u:HO):Prop:=H a=some u∨∃o,H a=some (.frz o u)
theorem Rd.ok {P:Program}{w:World}{H:Hp}{h:Heap}{a:Addr}{u:HO}(r:Rd H a u)(x:HOk P w H h):p9 P w H h a u:=by
  rcases r with r|⟨o,r⟩
  . exact x a u r
  . obtain ⟨_, q⟩ := x a _ r
    exact q
def Mut : Option HO -> Prop
  | some (.lst _)=>True
  | some (.dK _)=>True
  | some (.dT _)=>True
  | some (.set _ _)=>True
  | some (.ins _ _ _)=>True
  | some (.ext _)=>True
  | _=>False
section
variable {P:Program}{w:World}{H:Hp}{h h':Heap}{x e:Addr}{o':HO}
theorem HOk.write (ok : HOk P w H h)(mu : Mut (H x))(he : e = x∨H e = some (.own x))(k : ∀b u, b ≠ e -> h.get? b = some u -> h'.get? b = some u)(heo : ∃u, h'.get? e = some u)
    (new:p9 P w (upd H x o') h' x o'):HOk P w (upd H x o') h':=λb u q=>by
  have nown:∀c y,H c=some (.own y)->c≠x:=λc y r z=>by subst z;rw [r] at mu;exact mu
  have ntup:∀c xs,H c=some (.tup xs)->c≠x:=λc xs r z=>by subst z;rw [r] at mu;exact mu
  by_cases hb:b=x
  . subst hb;rw [z4] at q;cases q;exact new
  . rw [z6 hb] at q
    by_cases hbe:b=e
    . have q':H b=some (.own x):=by
        rcases he with z|z
        . exact absurd (hbe.trans z) hb
        . rw [hbe];exact z
      rw [q] at q';cases q'
      obtain ⟨v,hv⟩:=heo
      exact ⟨v,by rw [hbe];exact hv⟩
    . refine (ok b u q).stay (λc v hc r => k c v ?_ r) (λc r => by rw [z6 (nown c b r)]; exact r) λc xs r => by rw [z6 (ntup c xs r)]; exact r
      rcases hc with rfl|hc
      . exact hbe
      . rintro rfl
        rcases he with z|z
        . exact nown c b hc z
        . rw [hc] at z;cases z;exact hb rfl
end
structure Un (fs ex:List Addr) (H H':Hp) (h h':Heap):Prop where
  keep:∀b o,h.get? b=some o->H b=none->b∉fs->b∉ex->h'.get? b=some o
  slot:∀b o,h.get? b=some o->H b=none->b∈fs->b∉ex->∃sl,h'.get? b=some { o with slots:=sl }
  free:∀b o,h.get? b=some o->H b=none->b∉ex->H' b=none
  there:∀b o,h.get? b=some o->b∉ex->∃o',h'.get? b=some o'
  tups:∀b xs,H b=some (.tup xs)->H' b=some (.tup xs)
  frzs:∀b o u,H b=some (.frz o u)->H' b=some (.frz o u)
  tbls:∀b ps,H b=some (.tbl ps)->∃more,H' b=some (.tbl (ps++more))
section
variable {fs fs' ex ex':List Addr}{H H1 H2:Hp}{h h1 h2 h':Heap}{a x e:Addr}{o:HO}
theorem Un.any (u:Un fs ex H H1 h h1){b:Addr}{ob:Obj}(q:h.get? b=some ob)(n:H b=none)(hx:b∉ex):∃sl,h1.get? b=some { ob with slots:=sl }:=by
  by_cases hb:b∈fs
  . exact u.slot b ob q n hb hx
  . exact ⟨ob.slots,u.keep b ob q n hb hx⟩
theorem Un.kept (k:∀b u,h.get? b=some u->h'.get? b=some u):Un fs ex H H h h' :=
  ⟨λb ob q _ _ _=>k b ob q,λb ob q _ _ _=>⟨ob.slots,k b ob q⟩,λ_ _ _ n _=>n,λb ob q _=>⟨ob,k b ob q⟩,λ_ _ q=>q,λ_ _ _ q=>q,λ_ ps q=>⟨#[],by rw [q];simp⟩⟩
theorem Un.refl:Un fs ex H H h h:=Un.kept λ_ _ q=>q
theorem Un.laid (k:∀b u,h.get? b=some u->h'.get? b=some u)(hp:h.objs.size<=a)(hn:H a=none):Un fs ex H (upd H a o) h h' where
  keep:=λb u q _ _ _=>k b u q
  slot:=λb u q _ _ _=>⟨u.slots,k b u q⟩
  free:=λb u q n _=>by rw [z6 (aO (aM (az q) hp))];exact n
  there:=λb u q _=>⟨u,k b u q⟩
  tups:=λb xs q=>by rw [z6 (y9 q hn)];exact q
  frzs:=λb u xs q=>by rw [z6 (y9 q hn)];exact q
  tbls:=λb ps q=>⟨#[],by rw [z6 (y9 q hn),q];simp⟩
theorem Un.write (mu:Mut (H x))(he:e=x∨H e=some (.own x))(k:∀b u,b≠e->h.get? b=some u->h'.get? b=some u)(heo:∃u,h'.get? e=some u):Un fs ex H (upd H x o) h h':=by
  have hx:∀b,H b=none->b≠x:=λb n z=>by subst z;rw [n] at mu;exact mu
  have hb:∀b,H b=none->b≠e:=λb n z=>by
    subst z
    rcases he with r|r
    . exact hx b n r
    . rw [n] at r;cases r
  have hm:∀b u,H b=some u->¬Mut (some u)->b≠x:=λb u q nm z=>by subst z;rw [q] at mu;exact nm mu
  refine ⟨λb u q n _ _=>k b u (hb b n) q,λb u q n _ _=>⟨u.slots,k b u (hb b n) q⟩,λb u q n _=>by rw [z6 (hx b n)];exact n,λb u q _=>?_,
    λb xs q=>by rw [z6 (hm b _ q λz=>z)];exact q,λb u xs q=>by rw [z6 (hm b _ q λz=>z)];exact q,λb ps q=>⟨#[],by rw [z6 (hm b _ q λz=>z),q];simp⟩⟩
  by_cases hbe:b=e
  . subst hbe;exact heo
  . exact ⟨u,k b u hbe q⟩
end
def trk (h:Heap)(H:Hp):List Addr:=(List.range h.objs.size).filter λa=>(H a).isSome
def zt9 (h:Heap)(H:Hp):Heap:=W.hideAll h (trk h H)
theorem yo3 (h:Heap)(H:Hp):(zt9 h H).objs.size=h.objs.size:=W.hideAll_size _ _
theorem yt5 {h:Heap}{H:Hp}{b:Addr}{o:Obj}(e:h.get? b=some o)(n:H b=none):(zt9 h H).get? b=some o :=
  W.hideAll_get _ e λhm=>by
    have q:(H b).isSome=true:=(dX.mp hm).2
    rw [n] at q;simp at q
theorem xd1 {h:Heap}{H:Hp}{b:Addr}{o:Obj}(e:(zt9 h H).get? b=some o):h.get? b=some o/\H b=none:=by
  have e':h.get? b=some o:=W.of_hideAll (trk h H) e
  refine ⟨e',?_⟩
  cases q:H b with
  | none=>rfl
  | some x =>
    have hm:b∈trk h H:=dX.mpr ⟨aX.mpr (az e'),by simp [q]⟩
    have z:(zt9 h H).get? b=none:=W.hideAll_none (trk h H) hm
    rw [z] at e;cases e
def yz9 (g h:Heap)(L:Addr):List (Addr×Obj):=(List.range h.objs.size).filterMap λa=>if a=L∨(g.get? a).isSome=true then none else (h.get? a).map λo=>(a,o)
def D7 (g h:Heap)(L d:Addr):List (Addr×Obj):=(yz9 g h L).filter λp=>decide (p.1≠d)
structure Mod (K:W.Frag) (mg:Str->Option Value) (base:Heap):Prop where
  kin:K.In base
  glob:base.Ns mainGlobals mg
  blt:∃mb,base.Ns builtinsNs mb/\∀x:Str,x≠"__name__"->mb x=bootBuiltins x
  nolimit:base.NoLimit
structure Cx where
  prog:Program
  w:World
  K:W.Frag
  mg:Str->Option Value
  base:Heap
  A:Around
  N:List Str
  s₀:Shared
  H₀:Hp
  env:Env
  outer:List Env
  stack:List Env
  ex:List Addr
  fn:Str->Bool
  calm:Bool
  pn:List (Addr×Obj)
  xe:Value->Shared->Prop
def frs (l:List Env):List Addr:=l.filterMap (·.frame)
abbrev Cx.fs (X:Cx):List Addr:=frs X.outer
def Vis (sc:Scope)(x:Str):Prop:=sc.names.lookup x=some .local∨sc.names.lookup x=some .cell∨sc.names.lookup x=some .free
def Loc (sc:Scope)(x:Str):Prop:=sc.names.lookup x=some .local∨sc.names.lookup x=some .cell
def xt2 (env:Env)(h:Heap)(m:Str->Option Value)(x:Str)(u:Value):Prop :=
  (env.kindOf x=some .local/\m x=some u)∨((env.kindOf x=some .cell∨env.kindOf x=some .free)/\∃c,env.cells.lookup x=some c/\h.IsCell c (some u))
structure Cx.Ok (X:Cx):Prop where
  mod:Mod X.K X.mg X.base
  kind:X.env.scope.kind=.function
  glob:X.env.globals=mainGlobals
  blt:X.env.builtins=builtinsNs
  above:X.s₀.heap.objs.size<=X.env.locals
  inj:∀x y c,X.env.cells.lookup x=some c->X.env.cells.lookup y=some c->x=y
  has:∀x,(X.env.kindOf x=some .cell∨X.env.kindOf x=some .free)->∃c,X.env.cells.lookup x=some c
  cab:∀x c,X.fn x=true->X.env.cells.lookup x=some c->X.s₀.heap.objs.size<=c
  hd:X.calm=true->X.A.handled=none
  frames:X.A.frames=some X.stack
  stk:X.stack=X.outer∨(X.stack=X.env::X.outer/\X.env.frame=some X.env.locals)
  exf:∀b∈X.ex,b≠X.env.locals/\∀x c,X.env.cells.lookup x=some c->c≠b
  bs:∀b o,X.base.get? b=some o->X.s₀.heap.get? b=some o/\X.H₀ b=none
  bsz:X.base.objs.size<=X.s₀.heap.objs.size
  noex:∀b o,X.base.get? b=some o->b∉X.ex
  exfs:∀b∈X.ex,b∉X.fs
  funs:X.s₀.heap.FunFrames X.base X.outer
  frf:∀b∈X.fs,X.H₀ b=none
structure Inv (X:Cx) (pins:List (Addr×Obj)) (σ:List (Option V)) (H:Hp) (s:Shared):Prop where
  ok:X.Ok
  os:s.os=X.s₀.os
  bare:AllBare s.gens
  base:Un X.fs X.ex X.H₀ H X.s₀.heap s.heap
  loc:∃m,s.heap.Ns X.env.locals m/\∀(i:Nat) (x:Str) (v:V),X.N[i]?=some x->σ[i]?=some (some v)->Vis X.env.scope x->∃u,p0 v u/\xt2 X.env s.heap m x u
  cell:∀x c,X.env.cells.lookup x=some c->∃v,s.heap.IsCell c v
  free:H X.env.locals=none
  freeC:∀x c,X.env.cells.lookup x=some c->H c=none
  pin:∀p∈X.pn++pins,s.heap.get? p.1=some p.2/\H p.1=none/\p.1≠X.env.locals/\p.1∉X.fs/\∀v,p.2.data≠.cell v
  hok:HOk X.prog X.w H s.heap
  len:σ.length=X.N.length
section
variable {X:Cx}{pins:List (Addr×Obj)}{σ:List (Option V)}{H H':Hp}{s:Shared}{h':Heap}
theorem Cx.Ok.nofr (ok:X.Ok){b:Addr}{o:Obj}(e:X.base.get? b=some o):b∉X.fs:=λhb=>by
  have:=(ok.funs.mem hb).1
  rw [e] at this;cases this
theorem Inv.bs (I:Inv X pins σ H s):∀b o,X.base.get? b=some o->s.heap.get? b=some o/\H b=none:=λb o e =>
  ⟨I.base.keep b o (I.ok.bs b o e).1 (I.ok.bs b o e).2 (I.ok.nofr e) (I.ok.noex b o e),I.base.free b o (I.ok.bs b o e).1 (I.ok.bs b o e).2 (I.ok.noex b o e)⟩
theorem Inv.bk (I:Inv X pins σ H s):∀b o,X.base.get? b=some o->s.heap.get? b=some o:=λb o e=>(I.bs b o e).1
theorem Inv.mod (I:Inv X pins σ H s):Mod X.K X.mg X.base:=I.ok.mod
theorem Inv.kIn (I:Inv X pins σ H s):X.K.In s.heap:=I.ok.mod.kin.keeps I.bk
theorem Inv.fr (I:Inv X pins σ H s):∃m,Fr X.base X.env.locals s.heap m :=
  let ⟨m,hn,_⟩:=I.loc
  ⟨m,hn,I.bk,aQ I.ok.bsz I.ok.above⟩
theorem Inv.lt (I:Inv X pins σ H s):X.env.locals<s.heap.objs.size:=let ⟨_,hn,_⟩:=I.loc;hn.lt
theorem Inv.sz (I:Inv X pins σ H s):X.s₀.heap.objs.size<=s.heap.objs.size:=aQ I.ok.above (bF I.lt)
theorem Inv.nofs (I:Inv X pins σ H s){a:Addr}(h:s.heap.objs.size<=a):a∉X.fs:=λhb=>by
  obtain ⟨_,o,ho,_⟩:=I.ok.funs.mem hb
  exact absurd (aM (az ho) (aQ I.sz h)) (bh _)
theorem Inv.cne (I:Inv X pins σ H s):∀x c,X.env.cells.lookup x=some c->c≠X.env.locals:=λx c e z=>by
  obtain ⟨v,o,ho,hd⟩:=I.cell x c e
  obtain ⟨m,⟨o',es,ep,ho',hd',_⟩,_⟩:=I.loc
  rw [z,ho'] at ho;cases ho;rw [hd'] at hd;cases hd
theorem Inv.funs (I:Inv X pins σ H s):s.heap.FunFrames X.base X.outer:=by
  have all:∀(l:List Env),(∀b∈frs l,b∈X.fs)->X.s₀.heap.FunFrames X.base l->s.heap.FunFrames X.base l:=by
    intro l
    induction l with
    | nil=>intro _ _;trivial
    | cons env r ih =>
      intro hs hl
      obtain ⟨hk,⟨L,o,hf,hn,ho,hd⟩,hr⟩:=hl
      have hL:L∈X.fs:=hs L (by unfold frs;rw [dH,hf];exact ay)
      obtain ⟨sl,e⟩:=I.base.slot L o ho (I.ok.frf L hL) hL λz=>I.ok.exfs L z hL
      exact ⟨hk,⟨L,_,hf,hn,e,hd⟩,ih (λb hb=>hs b (by unfold frs;rw [dH,hf];exact aw _ hb)) hr⟩
  exact all X.outer (λ_ hb=>hb) I.ok.funs
theorem Inv.stack (I:Inv X pins σ H s):s.heap.FunFrames X.base X.stack:=by
  rcases I.ok.stk with e|⟨e,hf⟩
  . rw [e];exact I.funs
  . rw [e]
    obtain ⟨m,hn,_⟩:=I.loc
    refine .cons (by rw [I.ok.kind];decide) hf hn ?_ I.funs
    exact Heap.get?_none_of_le (aQ I.ok.bsz I.ok.above)
theorem Inv.stkSub (I:Inv X pins σ H s):∀b∈frs X.stack,b∈X.env.locals::X.fs:=λb hb=>by
  rcases I.ok.stk with e|⟨e,hf⟩
  . rw [e] at hb;exact aw _ hb
  . rw [e] at hb
    unfold frs at hb
    rw [dH,hf] at hb
    exact hb
theorem Inv.stkFree (I:Inv X pins σ H s):∀b∈frs X.stack,H b=none:=λb hb=>by
  rcases aq.mp (I.stkSub b hb) with e|hb
  . rw [e];exact I.free
  . obtain ⟨_, o, ho, _⟩ := I.ok.funs.mem hb
    exact I.base.free b o ho (I.ok.frf b hb) λz=>I.ok.exfs b z hb
theorem Inv.step {g' : Array GenState}{t' : Nat}{d' : Drawn}{ch : List Addr}(I : Inv X pins σ H s)
    (hch:∀b∈ch,(b∈X.ex∨X.s₀.heap.objs.size<=b)/\b≠X.env.locals/\(∀x c,X.env.cells.lookup x=some c->c≠b)/\∀p∈X.pn++pins,p.1≠b)
    (keep:∀b o,b≠X.env.locals->b∉X.fs->b∉ch->s.heap.get? b=some o->H b=none->h'.get? b=some o)
    (slot:∀b o,b≠X.env.locals->b∈X.fs->b∉ch->s.heap.get? b=some o->H b=none->∃sl,h'.get? b=some { o with slots:=sl }) (free:∀b o,b∉ch->s.heap.get? b=some o->H b=none->H' b=none)
    (there:∀b o,b∉ch->s.heap.get? b=some o->∃o',h'.get? b=some o')
    (tups:∀b xs,H b=some (.tup xs)->H' b=some (.tup xs)) (frzs:∀b o u,H b=some (.frz o u)->H' b=some (.frz o u)) (tbls:∀b ps,H b=some (.tbl ps)->∃more,H' b=some (.tbl (ps++more)))
    (ns:∀m,s.heap.Ns X.env.locals m->h'.Ns X.env.locals m) (hok:HOk X.prog X.w H' h') (hg:AllBare g') :
    Inv X pins σ H' { s with heap:=h',gens:=g',drawn:=d',toks:=t' }:=by
  have neL:∀b o,X.s₀.heap.get? b=some o->b≠X.env.locals:=λb o e=>aO (aM (az e) I.ok.above)
  have neC:∀b o,X.s₀.heap.get? b=some o->b∉X.ex->b∉ch:=λb o e hx hb=>by
    rcases (hch b hb).1 with z|z
    . exact hx z
    . exact absurd (aM (az e) z) (bh _)
  have cellK:∀x c,X.env.cells.lookup x=some c->∀v,s.heap.IsCell c v->h'.IsCell c v:=λx c e v ⟨o,ho,hd⟩=>by
    have nch:c∉ch:=λz=>(hch c z).2.2.1 x c e rfl
    by_cases hc:c∈X.fs
    . obtain ⟨sl, q⟩ := slot c o (I.cne x c e) hc nch ho (I.freeC x c e)
      exact ⟨_,q,hd⟩
    . exact ⟨o,keep c o (I.cne x c e) hc nch ho (I.freeC x c e),hd⟩
  refine ⟨I.ok,I.os,hg,⟨λb o e n hb hx=>?_,λb o e n hb hx=>?_,λb o e n hx=>?_,λb o e hx=>?_,λb xs e=>tups b xs (I.base.tups b xs e),λb o xs e=>frzs b o xs (I.base.frzs b o xs e),λb ps e=>?_⟩,?_,λx c e=>?_,?_,λx c e=>?_,λp hp=>?_,hok,I.len⟩
  . exact keep b o (neL b o e) hb (neC b o e hx) (I.base.keep b o e n hb hx) (I.base.free b o e n hx)
  . obtain ⟨sl, e1⟩ := I.base.slot b o e n hb hx
    obtain ⟨sl',e2⟩:=slot b _ (neL b o e) hb (neC b o e hx) e1 (I.base.free b o e n hx)
    exact ⟨sl',e2⟩
  . obtain ⟨o', e1⟩ := I.base.there b o e hx
    exact free b o' (neC b o e hx) e1 (I.base.free b o e n hx)
  . obtain ⟨o', e1⟩ := I.base.there b o e hx
    exact there b o' (neC b o e hx) e1
  . obtain ⟨m1, e1⟩ := I.base.tbls b ps e
    obtain ⟨m2,e2⟩:=tbls b _ e1
    exact ⟨m1++m2,by rw [e2,eZ]⟩
  . obtain ⟨m, hn, hl⟩ := I.loc
    refine ⟨m,ns m hn,λi x v e1 e2 e3=>?_⟩
    obtain ⟨u,r,l⟩:=hl i x v e1 e2 e3
    refine ⟨u,r,?_⟩
    rcases l with l|⟨k,c,e,z⟩
    . exact .inl l
    . exact .inr ⟨k,c,e,cellK x c e _ z⟩
  . obtain ⟨v, z⟩ := I.cell x c e
    exact ⟨v,cellK x c e v z⟩
  . obtain ⟨m, ⟨o, _, _, ho, _⟩, _⟩ := I.loc
    exact free _ o (λz=>(hch _ z).2.1 rfl) ho I.free
  . obtain ⟨v, o, ho, hd⟩ := I.cell x c e
    exact free c o (λz=>(hch c z).2.2.1 x c e rfl) ho (I.freeC x c e)
  . obtain ⟨e, n, ne, nf, d⟩ := I.pin p hp
    have nch:p.1∉ch:=λz=>(hch p.1 z).2.2.2 p hp rfl
    exact ⟨keep p.1 p.2 ne nf nch e n,free p.1 p.2 nch e n,ne,nf,d⟩
theorem Inv.un {t':Nat}(I:Inv X pins σ H s)(u:Un X.fs [] H H' s.heap h')(hok:HOk X.prog X.w H' h'):Inv X pins σ H' { s with heap:=h',toks:=t' }:=by
  obtain ⟨m,⟨o,es,ep,ho,r⟩,_⟩:=id I.loc
  obtain ⟨sl,hL⟩:=u.any ho I.free (by simp)
  exact I.step (g':=s.gens) (d':=s.drawn) (ch:=[]) (λ_ z=>nomatch z) (λb o _ hb _ e n=>u.keep b o e n hb (by simp)) (λb o _ hb _ e n=>u.slot b o e n hb (by simp)) (λb o _ e n=>u.free b o e n (by simp)) (λb o _ e=>u.there b o e (by simp)) u.tups u.frzs u.tbls (λm' hm=>by
    obtain ⟨o',es',ep',ho',r'⟩:=hm
    rw [ho] at ho';cases ho'
    exact ⟨_,es',ep',hL,r'⟩) hok I.bare
theorem Inv.call {g' : Array GenState}{t' : Nat}{d' : Drawn}{ch : List Addr}(I : Inv X pins σ H s)(u : Un (frs X.stack) ch H H' s.heap h')(hok : HOk X.prog X.w H' h')(hg : AllBare g')
    (hch:∀b∈ch,(b∈X.ex∨X.s₀.heap.objs.size<=b)/\b≠X.env.locals/\(∀x c,X.env.cells.lookup x=some c->c≠b)/\∀p∈X.pn++pins,p.1≠b) :
    Inv X pins σ H' { s with heap:=h',gens:=g',drawn:=d',toks:=t' }:=by
  obtain ⟨m,⟨o,es,ep,ho,r⟩,_⟩:=id I.loc
  obtain ⟨sl,hL⟩:=u.any ho I.free λz=>(hch _ z).2.1 rfl
  exact I.step (ch:=ch) hch (λb o hL hb hc e n=>u.keep b o e n (λz=>(aq.mp (I.stkSub b z)).elim hL hb) hc) (λb o _ _ hc e n=>u.any e n hc) (λb o hc e n=>u.free b o e n hc) (λb o hc e=>u.there b o e hc) u.tups u.frzs u.tbls (λm' hm=>by
    obtain ⟨o',es',ep',ho',r'⟩:=hm
    rw [ho] at ho';cases ho'
    exact ⟨_,es',ep',hL,r'⟩) hok hg
theorem Inv.turned {t' : Nat}{it : Addr}(I : Inv X pins σ H s)(k : ∀b o, b ≠ it -> s.heap.get? b = some o -> h'.get? b = some o)(hn : H it = none)(hL : it ≠ X.env.locals)
    (h1:it∈X.ex∨X.s₀.heap.objs.size<=it) (h2:∀x c,X.env.cells.lookup x=some c->c≠it) (h3:∀p∈X.pn++pins,p.1≠it):Inv X pins σ H { s with heap:=h',toks:=t' }:=by
  have nit:∀b u,H b=some u->b≠it:=λb u e z=>by rw [z,hn] at e;cases e
  refine I.step (g' := s.gens) (d' := s.drawn) (ch := [it]) (λb hb => ?_) (λb o _ _ hc e _ => k b o (λz => hc (by simp [z])) e) (λb o _ _ hc e _ => ⟨o.slots, k b o (λz => hc (by simp [z])) e⟩) (λ_ _ _ _ n => n)
    (λb o hc e=>⟨o,k b o (λz=>hc (by simp [z])) e⟩) (λ_ _ e=>e) (λ_ _ _ e=>e) (λb ps e=>⟨#[],by rw [e];simp⟩) (λm hm=>?_) (λb u e=>?_) I.bare
  . have e : b = it := by simpa using hb
    subst e
    exact ⟨h1,hL,h2,h3⟩
  . obtain ⟨o, es, ep, ho, r⟩ := hm
    exact ⟨o,es,ep,k _ o (Ne.symm hL) ho,r⟩
  . refine (I.hok b u e).stay (λc v hc q => k c v ?_ q) (λ_ q => q) λ_ _ q => q
    rcases hc with z|z
    . rw [z];exact nit b u e
    . exact nit c _ z
theorem Inv.tok (I:Inv X pins σ H s)(t:Nat):Inv X pins σ H { s with toks:=t }:=I.un (h':=s.heap) (t':=t) Un.refl I.hok
theorem Inv.kept {t':Nat}(I:Inv X pins σ H s)(k:∀b u,s.heap.get? b=some u->h'.get? b=some u):Inv X pins σ H { s with heap:=h',toks:=t' }:=I.un (Un.kept k) (I.hok.kept k)
theorem Inv.laid {a : Addr}{o : HO}{t' : Nat}(I : Inv X pins σ H s)(k : ∀b u, s.heap.get? b = some u -> h'.get? b = some u)(hp : s.heap.objs.size <= a)(new : p9 X.prog X.w (upd H a o) h' a o) :
    Inv X pins σ (upd H a o) { s with heap:=h',toks:=t' }:=I.un (Un.laid k hp (I.hok.fresh hp)) (I.hok.laid k hp new)
theorem Inv.write {x e : Addr}{o : HO}{t' : Nat}(I : Inv X pins σ H s)(mu : Mut (H x))(he : e = x∨H e = some (.own x))(k : ∀b u, b ≠ e -> s.heap.get? b = some u -> h'.get? b = some u)(heo : ∃u, h'.get? e = some u)
    (new:p9 X.prog X.w (upd H x o) h' x o):Inv X pins σ (upd H x o) { s with heap:=h',toks:=t' }:=I.un (Un.write mu he k heo) (I.hok.write mu he k heo new)
theorem Inv.pins_of {pins':List (Addr×Obj)}(I:Inv X pins σ H s)(h:∀p∈pins',s.heap.get? p.1=some p.2/\H p.1=none/\p.1≠X.env.locals/\p.1∉X.fs/\∀v,p.2.data≠.cell v):Inv X pins' σ H s :=
  ⟨I.ok,I.os,I.bare,I.base,I.loc,I.cell,I.free,I.freeC,λp hp=>(aD.mp hp).elim (λz=>I.pin p (aJ _ z)) (h p),I.hok,I.len⟩
theorem zk6 {N:List Str}(hN:N.Nodup){i j:Nat}{x:Str}(a:N[i]?=some x)(b:N[j]?=some x):i=j:=by
  obtain ⟨h1,e1⟩:=ag.mp a
  obtain ⟨h2,e2⟩:=ag.mp b
  exact (cD hN).mp (e1.trans e2.symm)
theorem ze4 {M : Model}{A : Around}{E : Value -> Shared -> Prop}{i : Nat}{x : Str}{v : V}{u : Value}{Q : Unit -> Shared -> Prop}(I : Inv X pins σ H s)(hN : X.N.Nodup)(hi : X.N[i]? = some x)(hx : Loc X.env.scope x)(r : p0 v u)
    (h:∀s',Inv X pins (σ.set i (some v)) H s'->(∃a,Heap.SameBut a s.heap s'.heap/\(a=X.env.locals∨X.env.cells.lookup x=some a))->Q () s') (hf:X.fn x=true∨X.env.scope.names.lookup x=some .local:=by first|exact .inl rfl|exact .inr rfl|assumption):wpAny M A (storeName X.env x u) Q E s:=by
  obtain ⟨m,hn,hl⟩:=id I.loc
  have hcls:(X.env.scope.kind == .class || (X.env.scope.kind == .module&&X.env.locals != X.env.globals))=false:=by rw [I.ok.kind];rfl
  have hiσ:i<σ.length:=by rw [I.len];exact (ag.mp hi).1
  have cne:=I.cne
  have tracked:∀{a:Addr} {h':Heap},(∃o,s.heap.get? a=some o/\H a=none)->Heap.SameBut a s.heap h'->HOk X.prog X.w H h':=λ{a h'} ha hs b ob e=>by
    obtain ⟨_,_,hfree⟩:=ha
    refine (I.hok b ob e).stay (λc w' hc q=>(hs.2 c ?_).trans q) (λ_ q=>q) λ_ _ q=>q
    rintro rfl
    rcases hc with rfl|hc
    . rw [hfree] at e;cases e
    . rw [hfree] at hc;cases hc
  rcases hx with hk|hk
  . refine wpAny_storeName_local hk hn (λh' hn' hs => ?_) hcls
    obtain ⟨oL,_,_,hoL,_⟩:=id hn
    refine h _ ⟨I.ok,I.os,I.bare,⟨λb o e n hb hx=>?_,λb o e n hb hx=>?_,I.base.free,λb o e hx=>?_,I.base.tups,I.base.frzs,I.base.tbls⟩,⟨_,hn',λj y v' e1 e2 e3=>?_⟩,λy c e=>?_,I.free,I.freeC,λp hp=>?_,tracked ⟨oL,hoL,I.free⟩ hs,by simpa using I.len⟩ ⟨_,hs,.inl rfl⟩
    . exact (hs.2 b (aO (aM (az e) I.ok.above))).trans (I.base.keep b o e n hb hx)
    . obtain ⟨sl, e1⟩ := I.base.slot b o e n hb hx
      exact ⟨sl,(hs.2 b (aO (aM (az e) I.ok.above))).trans e1⟩
    . obtain ⟨o', e1⟩ := I.base.there b o e hx
      exact ⟨o',(hs.2 b (aO (aM (az e) I.ok.above))).trans e1⟩
    . by_cases hj : j = i
      . subst hj
        rw [hi] at e1;cases e1
        rw [ci hiσ] at e2
        cases e2
        exact ⟨u,r,.inl ⟨hk,by simp⟩⟩
      . rw [bO (Ne.symm hj)] at e2
        obtain ⟨u',r',q⟩:=hl j y v' e1 e2 e3
        refine ⟨u',r',?_⟩
        rcases q with ⟨k,e⟩|⟨k,c,e,z⟩
        . refine .inl ⟨k, ?_⟩
          have:y≠x:=λe=>hj (zk6 hN e1 (e ▸ hi))
          simp [this,e]
        . exact .inr ⟨k,c,e,z.sameBut hs (cne y c e)⟩
    . obtain ⟨w', z⟩ := I.cell y c e
      exact ⟨w',z.sameBut hs (cne y c e)⟩
    . obtain ⟨e, n, ne, nf, d⟩ := I.pin p hp
      exact ⟨(hs.2 p.1 ne).trans e,n,ne,nf,d⟩
  . have hfn:X.fn x=true:=by
      rcases hf with z|z
      . exact z
      . rw [z] at hk;cases hk
    obtain ⟨c,hc⟩:=I.ok.has x (.inl hk)
    obtain ⟨w',z⟩:=I.cell x c hc
    refine wpAny_storeName_cell I.ok.kind hk hc z (λh' hc' hs=>?_)
    obtain ⟨oc,hoc,hocd⟩:=id z
    refine h { s with heap:=h' } ⟨I.ok,I.os,I.bare,⟨λb o e n hb hx=>?_,λb o e n hb hx=>?_,I.base.free,λb o e hx=>?_,I.base.tups,I.base.frzs,I.base.tbls⟩,⟨m,hn.sameBut hs (Ne.symm (cne x c hc)),λj y v' e1 e2 e3=>?_⟩,λy c' e=>?_,I.free,I.freeC,λp hp=>?_,tracked ⟨oc,hoc,I.freeC x c hc⟩ hs,by simpa using I.len⟩ ⟨c,hs,.inr hc⟩
    . exact (hs.2 b (aO (aM (az e) (I.ok.cab x c hfn hc)))).trans (I.base.keep b o e n hb hx)
    . obtain ⟨sl, e1⟩ := I.base.slot b o e n hb hx
      exact ⟨sl,(hs.2 b (aO (aM (az e) (I.ok.cab x c hfn hc)))).trans e1⟩
    . obtain ⟨o', e1⟩ := I.base.there b o e hx
      exact ⟨o',(hs.2 b (aO (aM (az e) (I.ok.cab x c hfn hc)))).trans e1⟩
    . by_cases hj : j = i
      . subst hj
        rw [hi] at e1;cases e1
        rw [ci hiσ] at e2
        cases e2
        exact ⟨u,r,.inr ⟨.inl hk,c,hc,hc'⟩⟩
      . rw [bO (Ne.symm hj)] at e2
        obtain ⟨u',r',q⟩:=hl j y v' e1 e2 e3
        refine ⟨u',r',?_⟩
        rcases q with q|⟨k,c',e,z'⟩
        . exact .inl q
        . refine .inr ⟨k, c', e, z'.sameBut hs ?_⟩
          rintro rfl
          exact hj (zk6 hN e1 (I.ok.inj _ _ _ e hc ▸ hi))
    . by_cases hcc : c' = c
      . subst hcc;exact ⟨_,hc'⟩
      . obtain ⟨w2, z2⟩ := I.cell y c' e
        exact ⟨w2,z2.sameBut hs hcc⟩
    . obtain ⟨e, n, ne, nf, d⟩ := I.pin p hp
      refine ⟨(hs.2 p.1 ?_).trans e,n,ne,nf,d⟩
      intro q
      rw [q,hoc] at e
      have q':oc=p.2:=Option.some.inj e
      exact d w' (by rw [←q'];exact hocd)
theorem zn5 {M : Model}{A : Around}{E : Value -> Shared -> Prop}{i : Nat}{x : Str}{v : V}{u : Value}{Q : Unit -> Shared -> Prop}(I : Inv X pins σ H s)(hN : X.N.Nodup)(hi : X.N[i]? = some x)(hx : Loc X.env.scope x)(r : p0 v u)
    (h:∀s',Inv X pins (σ.set i (some v)) H s'->Q () s') (hf:X.fn x=true∨X.env.scope.names.lookup x=some .local:=by first|exact .inl rfl|exact .inr rfl|assumption):wpAny M A (storeName X.env x u) Q E s :=
  ze4 I hN hi hx r (λs' I' _=>h s' I') hf
theorem Inv.call' {s' : Shared}{ch : List Addr}(I : Inv X pins σ H s)(ho : s'.os = s.os)(u : Un (frs X.stack) ch H H' s.heap s'.heap)(hok : HOk X.prog X.w H' s'.heap)(hg : AllBare s'.gens)
    (hch:∀b∈ch,(b∈X.ex∨X.s₀.heap.objs.size<=b)/\b≠X.env.locals/\(∀x c,X.env.cells.lookup x=some c->c≠b)/\∀p∈X.pn++pins,p.1≠b):Inv X pins σ H' s':=by
  obtain ⟨h',g',d',t',o'⟩:=s'
  have e:o'=s.os:=ho
  subst e
  exact I.call (g':=g') (t':=t') (d':=d') u hok hg hch
end
abbrev XK:=Value->Option Addr->Hp->Prop
abbrev St:=List (Option V)
abbrev VK:=V->Hp->Prop
abbrev TE:=St->Hp->VK->Prop
abbrev TT:=St->Hp->(Bool->Hp->Prop)->Prop
abbrev TA:=St->Hp->(List V->Hp->Prop)->Prop
structure zb6 where
  nx:St->Hp->Prop
  rt:VK
  bk:St->Hp->Prop:=λ_ _=>False
  ct:St->Hp->Prop:=λ_ _=>False
abbrev TS:=zb6->St->Hp->Prop
def EP (X:Cx)(pins:List (Addr×Obj))(σ:St)(Q:VK)(u:Value)(s':Shared):Prop:=∃v H',Inv X pins σ H' s'/\p0 v u/\Q v H'
def TP (X:Cx)(pins:List (Addr×Obj))(σ:St)(Q:Bool->Hp->Prop)(b:Bool)(s':Shared):Prop:=∃H',Inv X pins σ H' s'/\Q b H'
def AP (X:Cx)(pins:List (Addr×Obj))(σ:St)(Q:List V->Hp->Prop)(us:List Value)(s':Shared):Prop:=∃vs H',Inv X pins σ H' s'/\t9 vs us/\Q vs H'
def SP (X:Cx)(pins:List (Addr×Obj))(D:zb6)(f:Flow)(s':Shared):Prop :=
  match f with
  | .next=>∃σ' H',Inv X pins σ' H' s'/\D.nx σ' H'
  | .brk=>∃σ' H',Inv X pins σ' H' s'/\D.bk σ' H'
  | .cont=>∃σ' H',Inv X pins σ' H' s'/\D.ct σ' H'
  | .ret u=>∃v σ' H',Inv X pins σ' H' s'/\p0 v u/\D.rt v H'
def PE (X:Cx)(e:Expr)(t:TE):Prop :=
  ∀(pins:List (Addr×Obj)) (s:Shared) (σ:St) (H:Hp) (Q:VK),Inv X pins σ H s->t σ H Q->wpAny (model X.prog X.w) X.A (eval e X.env) (EP X pins σ Q) X.xe s
def PT (X:Cx)(e:Expr)(t:TT):Prop :=
  ∀(pins:List (Addr×Obj)) (s:Shared) (σ:St) (H:Hp) (Q:Bool->Hp->Prop),Inv X pins σ H s->t σ H Q->wpAny (model X.prog X.w) X.A (isTrue e X.env (eval e X.env)) (TP X pins σ Q) X.xe s
def PW (X:Cx)(e:Expr)(t:TT):Prop :=
  ∀(whole:Sem Value) (pins:List (Addr×Obj)) (s:Shared) (σ:St) (H:Hp) (Q:Bool->Hp->Prop),Inv X pins σ H s->t σ H Q->wpAny (model X.prog X.w) X.A (isTrue e X.env whole) (TP X pins σ Q) X.xe s
theorem PW.pt {X:Cx}{e:Expr}{t:TT}(h:PW X e t):PT X e t:=h _
def PA (X:Cx)(es:List Expr)(t:TA):Prop :=
  ∀(pos:Pos) (pins:List (Addr×Obj)) (s:Shared) (σ:St) (H:Hp) (Q:List V->Hp->Prop),Inv X pins σ H s->t σ H Q->wpAny (model X.prog X.w) X.A (spliced (backTo pos (starEach es X.env))) (AP X pins σ Q) X.xe s
def PS (X:Cx)(st:Stmt)(t:TS):Prop :=
  ∀(pins:List (Addr×Obj)) (s:Shared) (σ:St) (H:Hp) (D:zb6),Inv X pins σ H s->t D σ H->wpAny (model X.prog X.w) X.A (exec st X.env) (SP X pins D) X.xe s
def PSs (X:Cx)(st:List Stmt)(t:TS):Prop :=
  ∀(pins:List (Addr×Obj)) (s:Shared) (σ:St) (H:Hp) (D:zb6),Inv X pins σ H s->t D σ H->wpAny (model X.prog X.w) X.A (execs st X.env) (SP X pins D) X.xe s
theorem thn {α:Type}{t:Sem α}{Q Q':α->Shared->Prop}{M:Model}{A:Around}{E:Value->Shared->Prop}{s:Shared}(h:wpAny M A t Q E s)(hQ:∀a s,Q a s->Q' a s):wpAny M A t Q' E s:=wpAny_mono h hQ λ_ _ x=>x
section
variable {X:Cx}
def yq3 (i:Nat):TE:=λσ H Q=>∃v,σ[i]?=some (some v)/\Q v H
def tC (v:V):TE:=λ_ H Q=>Q v H
theorem xm3 {i:Nat}{x:Str}{pos:Pos}(hN:X.N[i]?=some x)(hv:Vis X.env.scope x)(hd:(x==("__debug__":Str))=false:=by decide) (hcd:(x==("__classdict__":Str))=false:=by decide):PE X (.Name x pos) (yq3 i):=by
  intro pins s σ H Q I h
  obtain ⟨v,e,h⟩:=h
  obtain ⟨m,hn,hl⟩:=I.loc
  obtain ⟨u,r,l⟩:=hl i x v hN e hv
  have fin:EP X pins σ Q u s:=⟨v,H,I,r,h⟩
  rcases l with ⟨hk,hm⟩|⟨hk,c,hc,hcell⟩
  . exact wpAny_Name (wpAny_loadName_local I.ok.kind hk hn hm fin) hd
  . rcases hk with hk|hk
    . exact wpAny_Name (wpAny_loadName_cell I.ok.kind hk hc hcell fin) hd
    . exact wpAny_Name (wpAny_loadName_free I.ok.kind hk hc hcell fin hcd) hd
theorem y6 {i j pos}:PE X (.Constant (.int i) j pos) (tC (.int i)):=λ_ _ _ H _ I h=>wpAny_Constant_int ⟨.int i,H,I.tok _,⟨_,rfl⟩,h⟩
theorem i9 {b j pos}:PE X (.Constant (.bool b) j pos) (tC (.bl b)):=λ_ _ _ H _ I h=>Constant_bool ⟨.bl b,H,I,rfl,h⟩
theorem yg8 {j pos}:PE X (.Constant .none j pos) (tC .non):=λ_ _ _ H _ I h=>Constant_none ⟨.non,H,I,rfl,h⟩
theorem M1 {x j pos}:PE X (.Constant (.str x) j pos) (tC (.str x)):=λ_ _ _ H _ I h=>Calls.Constant_str ⟨.str x,H,I.tok _,⟨_,rfl⟩,h⟩
def Gl (X:Cx)(x:Str):Prop:=X.env.kindOf x=some .globalImplicit
theorem N9 {E : Value -> Shared -> Prop}{pins : List (Addr×Obj)}{s : Shared}{σ : St}{H : Hp}{x : Str}{u : Value}{pos : Pos}{Q : Value -> Shared -> Prop}(I : Inv X pins σ H s)(hg : Gl X x)(hm : X.mg x = some u)(h : Q u s)
    (hd:(x==("__debug__":Str))=false:=by decide):wpAny (model X.prog X.w) X.A (eval (.Name x pos) X.env) Q E s :=
  Calls.Name_function_global I.ok.kind hg (Calls.loadGlobal_global (by rw [I.ok.glob];exact I.mod.glob.keeps I.bk) hm h) hd
theorem zc9 {E : Value -> Shared -> Prop}{pins : List (Addr×Obj)}{s : Shared}{σ : St}{H : Hp}{x : Str}{u : Value}{pos : Pos}{Q : Value -> Shared -> Prop}(I : Inv X pins σ H s)(hg : Gl X x)(hm : X.mg x = none)(hv : bootBuiltins x = some u)(h : Q u s)
    (hn:x≠"__name__":=by decide) (hd:(x==("__debug__":Str))=false:=by decide):wpAny (model X.prog X.w) X.A (eval (.Name x pos) X.env) Q E s:=by
  obtain ⟨mb,h1,h2⟩:=I.mod.blt
  exact Calls.Name_function_global I.ok.kind hg (Calls.loadGlobal_builtin (by rw [I.ok.glob];exact I.mod.glob.keeps I.bk) hm (by rw [I.ok.blt];exact h1.keeps I.bk) ((h2 x hn).trans hv) h) hd
theorem zh4 {x:Str}{v:V}{u:Value}{pos:Pos}(hg:Gl X x)(hm:X.mg x=some u)(r:p0 v u)(hd:(x==("__debug__":Str))=false:=by decide):PE X (.Name x pos) (tC v) :=
  λ_ _ _ H _ I h=>N9 I hg hm ⟨v,H,I,r,h⟩ hd
theorem W5 {x:Str}{v:V}{u:Value}{pos:Pos}(hg:Gl X x)(hm:X.mg x=none)(hv:bootBuiltins x=some u)(r:p0 v u)(hn:x≠"__name__":=by decide) (hd:(x==("__debug__":Str))=false:=by decide):PE X (.Name x pos) (tC v) :=
  λ_ _ _ H _ I h=>zc9 I hg hm hv ⟨v,H,I,r,h⟩ hn hd
variable {a b:Expr}{ta tb:TE}{pos:Pos}
def PC (X:Cx)(op:CmpOp)(a b:Expr)(t:TE):Prop :=
  ∀(pins:List (Addr×Obj)) (s:Shared) (σ:St) (H:Hp) (Q:VK),Inv X pins σ H s->t σ H Q ->
    wpAny (model X.prog X.w) X.A (eval a X.env) (λv s₁=>wpAny (model X.prog X.w) X.A (eval b X.env) (λu s₂=>wpAny (model X.prog X.w) X.A (compareOp op v u) (EP X pins σ Q) X.xe s₂) X.xe s₁) X.xe s
theorem yv3 (b:Expr){op:CmpOp}(h:op≠.In)(h2:op≠.NotIn):behindInMarks op b=false:=by
  have e1:(op==CmpOp.In)=false:=by cases op <;> first|rfl|exact absurd rfl h
  have e2:(op==CmpOp.NotIn)=false:=by cases op <;> first|rfl|exact absurd rfl h2
  cases b <;> simp [behindInMarks,e1,e2]
def xv3 (ta:TE):TE:=λσ H Q=>ta σ H λx H1=>Q (.bl (decide (x=.non))) H1
theorem p0.none_iff {x:V}{v:Value}(r:p0 x v):(v==Value.none)=decide (x=.non):=by
  cases x with
  | non=>cases r;rfl
  | bl _=>cases r;rfl
  | int _=>obtain ⟨t,rfl⟩:=r;rfl
  | str _=>obtain ⟨t,rfl⟩:=r;rfl
  | byt _=>obtain ⟨t,rfl⟩:=r;rfl
  | flt _=>obtain ⟨t,rfl⟩:=r;rfl
  | ref _=>cases r;rfl
  | ty _=>cases r;rfl
theorem xm2 {j pos'}(ha:PE X a ta):PC X .Is a (.Constant .none j pos') (xv3 ta):=by
  intro pins s σ H Q I h
  refine thn (ha pins s σ H _ I h) λv s1 ⟨x,H1,I1,r1,q1⟩=>?_
  exact Constant_none (is_none_gen ⟨.bl _,H1,I1,by rw [r1.none_iff];rfl,q1⟩)
def tB (t:TE):TT:=λσ H Q=>t σ H λx H1=>∃c,x=.bl c/\Q c H1
theorem zl9 {op:CmpOp}{t:TE}(h:PC X op a b t)(h1:behindInMarks op b=false:=by first|exact yv3 _ (by decide) (by decide)|rfl):PT X (.Compare a [op] [b] pos) (tB t):=by
  intro pins s σ H Q I hw
  refine wpAny_isTrue_Compare1 (thn (h pins s σ H _ I hw) λv s1 h1=>thn h1 λu s2 h2=>thn h2 λc s3 ⟨x,H1,I1,r1,q1⟩=>?_) h1
  obtain ⟨d,rfl,q⟩:=q1
  cases r1
  exact wpAny_truthy_bool ⟨H1,I1,q⟩
theorem X8 {e:Expr}{t:TE}(h:PE X e t)(he:∀whole,isTrue e X.env whole=(do let v ←whole;standAt e.pos;holding [v] (truthy v)):=by intro _;rfl):PT X e (tB t):=by
  intro pins s σ H Q I hw
  refine isTrue_plain (thn (h pins s σ H _ I hw) λv s1 ⟨x,H1,I1,r1,q1⟩=>?_) (he _)
  obtain ⟨d,rfl,q⟩:=q1
  cases r1
  exact wpAny_truthy_bool ⟨H1,I1,q⟩
variable {tA tB':TT}{D7:List Expr}
def xu9 (t u:TT):TT:=λσ H Q=>t σ H λc H1=>if c=true then u σ H1 Q else Q false H1
def tOr (t u:TT):TT:=λσ H Q=>t σ H λc H1=>if c=true then Q true H1 else u σ H1 Q
def xv4 (t:TT):TT:=λσ H Q=>t σ H λc H1=>Q (!c) H1
theorem xe6 (ha:PT X a tA):PW X (.BoolOp .And [a] pos) tA:=by
  intro wh pins s σ H Q I h
  refine isTrue_and (thn (ha pins s σ H Q I h) λc s1 e=>?_)
  cases c with
  | true=>exact isTrue_and_nil e
  | false=>exact e
theorem D6 (ha:PT X a tA):PW X (.BoolOp .Or [a] pos) tA:=by
  intro wh pins s σ H Q I h
  refine isTrue_or (thn (ha pins s σ H Q I h) λc s1 e=>?_)
  cases c with
  | false=>exact isTrue_or_nil e
  | true=>exact e
theorem xm7 (ha:PT X a tA)(hb:PW X (.BoolOp .And (b::D7) pos) tB'):PW X (.BoolOp .And (a::b::D7) pos) (xu9 tA tB'):=by
  intro wh pins s σ H Q I h
  refine isTrue_and (thn (ha pins s σ H _ I h) λc s1 ⟨H1,I1,q1⟩=>?_)
  cases c with
  | true=>exact hb wh pins s1 σ H1 Q I1 q1
  | false=>exact ⟨H1,I1,q1⟩
theorem zm1 (ha:PT X a tA)(hb:PW X (.BoolOp .Or (b::D7) pos) tB'):PW X (.BoolOp .Or (a::b::D7) pos) (tOr tA tB'):=by
  intro wh pins s σ H Q I h
  refine isTrue_or (thn (ha pins s σ H _ I h) λc s1 ⟨H1,I1,q1⟩=>?_)
  cases c with
  | true=>exact ⟨H1,I1,q1⟩
  | false=>exact hb wh pins s1 σ H1 Q I1 q1
theorem W7 (ha:PT X a tA):PT X (.UnaryOp .Not a pos) (xv4 tA):=by
  intro pins s σ H Q I h
  exact isTrue_not (ha pins s σ H (λc H1=>Q (!c) H1) I h)
def xs1 (ta tb:TE):TE:=λσ H Q=>ta σ H λx H1=>∃c,x=.bl c/\if c=true then tb σ H1 Q else Q (.bl false) H1
def xs7 (ta:TE):TE:=λσ H Q=>ta σ H λx H1=>∃c,x=.bl c/\Q (.bl (!c)) H1
theorem zw5 {op}{t:TE}(h:PE X a t):PE X (.BoolOp op [a] pos) t:=λpins s σ H Q I hw=>BoolOp_one (h pins s σ H Q I hw)
theorem zw2 (ha:PE X a ta)(hb:PE X (.BoolOp .And (b::D7) pos) tb):PE X (.BoolOp .And (a::b::D7) pos) (xs1 ta tb):=by
  intro pins s σ H Q I h
  refine BoolOp_and (thn (ha pins s σ H _ I h) λv s1 ⟨x,H1,I1,r1,q1⟩=>?_)
  obtain ⟨c,rfl,q1⟩:=q1
  cases r1
  refine wpAny_truthy_bool ?_
  cases c with
  | true=>exact hb pins s1 σ H1 Q I1 q1
  | false=>exact ⟨.bl false,H1,I1,rfl,q1⟩
theorem yw3 (ha:PE X a ta):PE X (.UnaryOp .Not a pos) (xs7 ta):=by
  intro pins s σ H Q I h
  refine UnaryOp_ (thn (ha pins s σ H _ I h) λv s1 ⟨x,H1,I1,r1,q1⟩=>?_)
  obtain ⟨c,rfl,q1⟩:=q1
  cases r1
  exact not_of (wpAny_truthy_bool ⟨.bl (!c),H1,I1,rfl,q1⟩)
end
def SqL (K:W.Frag)(H:Hp)(a:Addr)(xs:List V):Prop :=
  Rd H a (.lst xs) ∨
    ∃(o:Obj) (its:Array Value) (n:Nat),K.lookup a=some o/\o.cls=.type "list"/\o.dict=none/\o.data=.seq its n/\its.size<=sizeLine/\t9 xs its.toList
def SqT (K:W.Frag)(H:Hp)(a:Addr)(xs:List V):Prop :=
  Rd H a (.tup xs) ∨
    ∃(o:Obj) (its:Array Value) (n:Nat),K.lookup a=some o/\o.cls=.type "tuple"/\o.data=.seq its n/\its.size<=sizeLine/\t9 xs its.toList
def xt3 : Value -> Option V
  | .none=>some .non
  | .bool b=>some (.bl b)
  | .int i _=>some (.int i)
  | .str x _=>some (.str x)
  | .bytes b _=>some (.byt b)
  | .float b _=>some (.flt b)
  | .ref a=>some (.ref a)
  | .type n=>some (.ty n)
  | _=>none
theorem p0.abs {x:V}{u:Value}(r:p0 x u):xt3 u=some x:=by
  cases x with
  | non=>cases r;rfl
  | bl _=>cases r;rfl
  | int _=>obtain ⟨t,rfl⟩:=r;rfl
  | str _=>obtain ⟨t,rfl⟩:=r;rfl
  | byt _=>obtain ⟨t,rfl⟩:=r;rfl
  | flt _=>obtain ⟨t,rfl⟩:=r;rfl
  | ref _=>cases r;rfl
  | ty _=>cases r;rfl
theorem p0.inj {x y:V}{u:Value}(r:p0 x u)(q:p0 y u):x=y:=Option.some.inj (r.abs.symm.trans q.abs)
theorem t9.inj : ∀{xs ys : List V} {us : List Value}, t9 xs us -> t9 ys us -> xs = ys
  | _,_,_,.nil,.nil=>rfl
  | _,_,_,.cons r t,.cons r' t'=>by rw [r.inj r',t9.inj t t']
section
variable {X:Cx}{pins:List (Addr×Obj)}{σ:St}{H:Hp}{s:Shared}{a:Addr}{xs ys:List V}
theorem SqL.of {K:W.Frag}(h:H a=some (.lst xs)):SqL K H a xs:=.inl (.inl h)
theorem SqT.of {K:W.Frag}(h:H a=some (.tup xs)):SqT K H a xs:=.inl (.inl h)
theorem Inv.list (I:Inv X pins σ H s)(h:SqL X.K H a xs):∃its:List Value,t9 xs its/\PlainL s.heap a its.toArray/\xs.length<=sizeLine:=by
  rcases h with h|⟨o,its,n,hk,hc,hd,hs,hz,r⟩
  . obtain ⟨z, its, n, r, e⟩ := h.ok I.hok
    exact ⟨its,r,⟨_,n,e,rfl,rfl,rfl⟩,z⟩
  . refine ⟨its.toList, r, ⟨o, n, I.kIn a o hk, hc, hd, by simpa using hs⟩, ?_⟩
    have e:=r.length
    simp only [aP] at e
    omega
theorem Inv.tuple (I:Inv X pins σ H s)(h:SqT X.K H a xs):∃its:List Value,t9 xs its/\IsTup s.heap a its.toArray/\xs.length<=sizeLine:=by
  rcases h with h|⟨o,its,n,hk,hc,hs,hz,r⟩
  . obtain ⟨z, its, r, p⟩ := h.ok I.hok
    exact ⟨its,r,p.is,z⟩
  . refine ⟨its.toList, r, ⟨o, I.kIn a o hk, hc, n, by simpa using hs⟩, ?_⟩
    have e:=r.length
    simp only [aP] at e
    omega
theorem Inv.list_inj (I:Inv X pins σ H s)(h:SqL X.K H a xs)(h':SqL X.K H a ys):xs=ys:=by
  obtain ⟨its,r,⟨o,n,e,_,_,d⟩,_⟩:=I.list h
  obtain ⟨its',r',⟨o',n',e',_,_,d'⟩,_⟩:=I.list h'
  rw [e] at e';cases e'
  rw [d] at d'
  injection d' with d1 _
  have:its=its':=by simpa using congrArg Array.toList d1
  subst this
  exact r.inj r'
theorem Inv.tuple_inj (I:Inv X pins σ H s)(h:SqT X.K H a xs)(h':SqT X.K H a ys):xs=ys:=by
  obtain ⟨its,r,⟨o,e,_,n,d⟩,_⟩:=I.tuple h
  obtain ⟨its',r',⟨o',e',_,n',d'⟩,_⟩:=I.tuple h'
  rw [e] at e';cases e'
  rw [d] at d'
  injection d' with d1 _
  have:its=its':=by simpa using congrArg Array.toList d1
  subst this
  exact r.inj r'
end
abbrev Cx.wish (X:Cx) (E:Value->Shared->Prop):Cx:={ X with xe:=E }
abbrev Cx.nox (X:Cx):Cx:=X.wish λ_ _=>False
theorem Cx.Ok.wish {X:Cx}(ok:X.Ok)(E:Value->Shared->Prop):(X.wish E).Ok :=
  ⟨ok.mod,ok.kind,ok.glob,ok.blt,ok.above,ok.inj,ok.has,ok.cab,ok.hd,ok.frames,ok.stk,ok.exf,ok.bs,ok.bsz,ok.noex,ok.exfs,ok.funs,ok.frf⟩
theorem Cx.Ok.unwish {X:Cx}{E:Value->Shared->Prop}(ok:(X.wish E).Ok):X.Ok :=
  ⟨ok.mod,ok.kind,ok.glob,ok.blt,ok.above,ok.inj,ok.has,ok.cab,ok.hd,ok.frames,ok.stk,ok.exf,ok.bs,ok.bsz,ok.noex,ok.exfs,ok.funs,ok.frf⟩
section
variable {X:Cx}{pins:List (Addr×Obj)}{σ:St}{H:Hp}{s:Shared}{E:Value->Shared->Prop}
theorem Inv.wish (I:Inv X pins σ H s)(E:Value->Shared->Prop):Inv (X.wish E) pins σ H s:=⟨I.ok.wish E,I.os,I.bare,I.base,I.loc,I.cell,I.free,I.freeC,I.pin,I.hok,I.len⟩
theorem Inv.unwish (I:Inv (X.wish E) pins σ H s):Inv X pins σ H s:=⟨I.ok.unwish,I.os,I.bare,I.base,I.loc,I.cell,I.free,I.freeC,I.pin,I.hok,I.len⟩
theorem SP.unwish {D:zb6}{f:Flow}{s':Shared}(h:SP (X.wish E) pins D f s'):SP X pins D f s':=by
  cases f with
  | next=>obtain ⟨σ',H',I,q⟩:=h;exact ⟨σ',H',I.unwish,q⟩
  | brk=>obtain ⟨σ',H',I,q⟩:=h;exact ⟨σ',H',I.unwish,q⟩
  | cont=>obtain ⟨σ',H',I,q⟩:=h;exact ⟨σ',H',I.unwish,q⟩
  | ret u=>obtain ⟨v,σ',H',I,r,q⟩:=h;exact ⟨v,σ',H',I.unwish,r,q⟩
theorem PSs.nox {st:List Stmt}{t:TS}(h:PSs X.nox st t):PSs X st t:=λpins s σ H D I hw =>
  wpAny_mono (h pins s σ H D (I.wish _) hw) (λ_ _ q=>q.unwish) λ_ _ z=>False.elim z
end
section
variable {X:Cx}{st:Stmt}{D7:List Stmt}{t u:TS}{e:Expr}{te:TE}{pos:Pos}
def xi4:TS:=λD σ H=>D.nx σ H
def xo2 (t u:TS):TS:=λD σ H=>t { D with nx:=u D } σ H
theorem u0:PSs X [] xi4:=λ_ _ σ H _ I h=>wpAny_execs_nil ⟨σ,H,I,h⟩
theorem y0 (h1:PS X st t)(h2:PSs X D7 u):PSs X (st::D7) (xo2 t u):=by
  intro pins s σ H D I h
  refine wpAny_execs_cons (thn (h1 pins s σ H { D with nx:=u D } I h) λf s1 q=>?_)
  cases f with
  | next =>
    obtain ⟨σ',H',I',q⟩:=q
    exact h2 pins s1 σ' H' D I' q
  | ret v=>exact q
  | brk=>exact q
  | cont=>exact q
theorem z8 (h1:PS X st t):PSs X [st] t:=by
  intro pins s σ H D I h
  refine wpAny_execs_cons (thn (h1 pins s σ H D I h) λf s1 q=>?_)
  cases f with
  | next=>exact wpAny_execs_nil q
  | ret v=>exact q
  | brk=>exact q
  | cont=>exact q
theorem Inv.quiet {pins:List (Addr×Obj)}{σ:St}{H:Hp}{s:Shared}(I:Inv X pins σ H s):interactive X.env=false:=by simp [interactive,I.ok.kind]
def xs4 (te:TE):TS:=λD σ H=>te σ H λ_ H1=>D.nx σ H1
theorem l8 (he:PE X e te)(hs:swapsWith e none pos.line X.env=pure false:=by rfl):PS X (.Expr e pos) (xs4 te):=by
  intro pins s σ H D I h
  exact wpAny_Expr_any (thn (he pins s σ H _ I h) λv s1 ⟨x,H1,I1,r1,q1⟩=>⟨σ,H1,I1,q1⟩) I.quiet hs
def xo1 (te:TE):TS:=λD σ H=>te σ H D.rt
theorem v1 (he:PE X e te):PS X (.Return (some e) pos) (xo1 te):=by
  intro pins s σ H D I h
  exact wpAny_Return_some (thn (he pins s σ H _ I h) λv s1 ⟨x,H1,I1,r1,q1⟩=>⟨x,σ,H1,I1,r1,q1⟩)
def xs5 (c:TT)(t u:TS):TS:=λD σ H=>c σ H λb H1=>if b=true then t D σ H1 else u D σ H1
theorem n6 {c:Expr}{a b:List Stmt}{tc:TT}(hc:PT X c tc)(ha:PSs X a t)(hb:PSs X b u):PS X (.If c a b pos) (xs5 tc t u):=by
  intro pins s σ H D I h
  refine wpAny_If (thn (hc pins s σ H _ I h) λd s1 ⟨H1,I1,q1⟩=>?_)
  cases d with
  | true=>exact ha pins s1 σ H1 D I1 q1
  | false=>exact hb pins s1 σ H1 D I1 q1
def xo0:TS:=λ_ _ _=>False
theorem zl7:PS X st xo0:=λ_ _ _ _ _ _ h=>h.elim
end
abbrev TG:=V->St->Hp->(St->Hp->Prop)->Prop
abbrev TGs:=List V->St->Hp->(St->Hp->Prop)->Prop
def PG (X:Cx)(target:Expr)(t:TG):Prop :=
  ∀(pins:List (Addr×Obj)) (s:Shared) (σ:St) (H:Hp) (v:V) (u:Value) (Q:St->Hp->Prop),Inv X pins σ H s->p0 v u->t v σ H Q ->
    wpAny (model X.prog X.w) X.A (assign target X.env u) (λ_ s'=>∃σ' H',Inv X pins σ' H' s'/\Q σ' H') X.xe s
def PGs (X:Cx)(ts:List Expr)(t:TGs):Prop :=
  ∀(pins:List (Addr×Obj)) (s:Shared) (σ:St) (H:Hp) (vs:List V) (us:List Value) (Q:St->Hp->Prop),Inv X pins σ H s->t9 vs us->t vs σ H Q ->
    wpAny (model X.prog X.w) X.A (assignInOrder ((assignEach ts X.env).map (·.2)) us) (λ_ s'=>∃σ' H',Inv X pins σ' H' s'/\Q σ' H') X.xe s
abbrev xj0:=V->V->V->Hp->(Hp->Prop)->Prop
def xp1 (X:Cx)(t:xj0):Prop :=
  ∀(pins:List (Addr×Obj)) (s:Shared) (σ:St) (H:Hp) (o i v:V) (ov iv u:Value) (Q:Hp->Prop),Inv X pins σ H s->p0 o ov->p0 i iv->p0 v u->t o i v H Q ->
    wpAny (model X.prog X.w) X.A (setItem ov iv u) (λ_ s'=>∃H',Inv X pins σ H' s'/\Q H') X.xe s
abbrev TIp:=V->V->Hp->VK->Prop
def PIp (X:Cx)(op:Operator)(t:TIp):Prop :=
  ∀(pins:List (Addr×Obj)) (s:Shared) (σ:St) (H:Hp) (x y:V) (v u:Value) (Q:VK),Inv X pins σ H s->p0 x v->p0 y u->t x y H Q ->
    wpAny (model X.prog X.w) X.A (inplaceOp op v u) (EP X pins σ Q) X.xe s
section
variable {X:Cx}{pos:Pos}
def O3 (i:Nat):TG:=λv σ H Q=>Q (σ.set i (some v)) H
theorem l5 {i:Nat}{x:Str}(hN:X.N.Nodup)(hi:X.N[i]?=some x)(hx:Loc X.env.scope x)(hf:X.fn x=true∨X.env.scope.names.lookup x=some .local:=by first|exact .inl rfl|exact .inr rfl|assumption):PG X (.Name x pos) (O3 i):=by
  intro pins s σ H v u Q I r h
  exact wpAny_assign_Name (zn5 I hN hi hx r (λs' I'=>⟨_,H,I',h⟩) hf)
def xt6:TGs:=λvs σ H Q=>vs=[]/\Q σ H
def xp9 (t:TG)(u:TGs):TGs:=λvs σ H Q=>∃v r,vs=v::r/\t v σ H λσ' H'=>u r σ' H' Q
theorem A8:PGs X [] xt6:=by
  intro pins s σ H vs us Q I r h
  obtain ⟨e,h⟩:=h
  subst e
  cases r
  exact assignInOrder_nil ⟨σ,H,I,h⟩
theorem Y6 {e : Expr}{es : List Expr}{t : TG}{u : TGs}(h1 : PG X e t)(h2 : PGs X es u)
    (hs:(assignEach (e::es) X.env).map (·.2)=assign e X.env::(assignEach es X.env).map (·.2):=by rfl):PGs X (e::es) (xp9 t u):=by
  intro pins s σ H vs us Q I r h
  obtain ⟨v,vr,e1,h⟩:=h
  subst e1
  cases r with
  | cons r rr =>
    rw [hs]
    refine assignInOrder_cons (thn (h1 pins s σ H _ _ _ I r h) λ_ s1 ⟨σ1,H1,I1,q1⟩=>?_)
    exact h2 pins s1 σ1 H1 _ _ Q I1 rr q1
def xt8 (K:W.Frag)(n:Nat)(t:TGs):TG:=λv σ H Q=>∃a xs,v=.ref a/\SqT K H a xs/\xs.length=n/\t xs σ H Q
theorem zl4 {es : List Expr}{k : Nat}{t : TGs}{n : Nat}(hc : X.calm = true)(h : PGs X es t)
    (hn:(assignEach es X.env).length=n:=by rfl) (hst:(assignEach es X.env).findIdx? (·.1)=none:=by rfl):PG X (.Tuple es k pos) (xt8 X.K n t):=by
  intro pins s σ H v u Q I r hw
  obtain ⟨a,xs,e1,hq,hl,hw⟩:=hw
  subst e1
  cases r
  obtain ⟨its,rv,ht,hz⟩:=I.tuple hq
  refine assign_Tuple_tuple (I.ok.hd hc) ht (by simp [hn,←hl,rv.length]) hst λh' hx=>?_
  have I1:Inv X pins σ H { s with heap:=h' }:=I.kept (t':=s.toks) λb o e=>hx b o (aO (az e)) e
  exact h pins _ σ H xs _ Q I1 (by simpa using rv) hw
def xt7 (to ti:TE)(t:xj0):TG:=λv σ H Q=>to σ H λo H1=>ti σ H1 λi H2=>t o i v H2 λH3=>Q σ H3
theorem yw4 {o i : Expr}{to ti : TE}{t : xj0}(ho : PE X o to)(hi : PE X i ti)(hs : xp1 X t)
    (ha : ∀v, assign (.Subscript o i pos) X.env v = (do
      let ov ←holding [v] (eval o X.env)
      let iv ←holding [v,ov] (eval i X.env)
      standAt pos
      holding [v,ov,iv] (setItem ov iv v)
      release [v,ov,iv] []):=by intro _;rfl):PG X (.Subscript o i pos) (xt7 to ti t):=by
  intro pins s σ H v u Q I r h
  rw [ha]
  refine wpAny_bind (wpAny_holding (thn (ho pins s σ H _ I h) λov s1 ⟨x,H1,I1,r1,q1⟩=>?_))
  refine wpAny_bind (wpAny_holding (thn (hi pins s1 σ H1 _ I1 q1) λiv s2 ⟨y,H2,I2,r2,q2⟩=>?_))
  refine wpAny_bind (wpAny_standAt (wpAny_bind (wpAny_holding (thn (hs pins s2 σ H2 x y v ov iv u _ I2 r1 r2 r q2) λ_ s3 ⟨H3,I3,q3⟩=>?_))))
  exact wpAny_release ⟨σ,H3,I3,q3⟩
def xg2 (te:TE)(g:TG):TS:=λD σ H=>te σ H λx H1=>g x σ H1 D.nx
theorem zw9 {tg e : Expr}{te : TE}{g : TG}(he : PE X e te)(hg : PG X tg g)(hs : swapsWithSole [tg] e pos.line X.env = pure false := by rfl)(hw : swappedStores [tg] e X.env = pure none := by rfl)
    (h1:(assignEach [tg] X.env).map (·.2)=[assign tg X.env]:=by rfl):PS X (.Assign [tg] e pos) (xg2 te g):=by
  intro pins s σ H D I h
  refine wpAny_Assign_stores (thn (he pins s σ H _ I h) λv s1 ⟨x,H1,I1,r1,q1⟩=>?_) hs hw
  rw [h1]
  exact thn (hg pins s1 σ H1 x v _ I1 r1 q1) λ_ s2 q=>q
theorem u5 {i : Nat}{x : Str}{e : Expr}{te : TE}{pos' : Pos}(hN : X.N.Nodup)(hi : X.N[i]? = some x)(hx : Loc X.env.scope x)(he : PE X e te)(hs : swapsWith e (some (.Name x pos')) pos.line X.env = pure false := by rfl)(hf : X.fn x = true∨X.env.scope.names.lookup x = some .local := by first|exact .inl rfl|exact .inr rfl|assumption) :
    PS X (.Assign [.Name x pos'] e pos) (xg2 te (O3 i)):=by
  intro pins s σ H D I h
  refine wpAny_Assign_Name (thn (he pins s σ H _ I h) λv s1 ⟨y,H1,I1,r1,q1⟩=>?_) hs
  exact zn5 I1 hN hi hx r1 (λs2 I2=>⟨_,H1,I2,q1⟩) hf
def xv0 (i:Nat)(te:TE)(ti:TIp):TS:=λD σ H=>∃x,σ[i]?=some (some x)/\te σ H λy H1=>ti x y H1 λz H2=>D.nx (σ.set i (some z)) H2
theorem yw7 {i : Nat}{x : Str}{e : Expr}{te : TE}{op : Operator}{ti : TIp}{pos' : Pos}(hN : X.N.Nodup)(hi : X.N[i]? = some x)(hx : Loc X.env.scope x)(he : PE X e te)(ho : PIp X op ti)(hf : X.fn x = true∨X.env.scope.names.lookup x = some .local := by first|exact .inl rfl|exact .inr rfl|assumption) :
    PS X (.AugAssign (.Name x pos') op e pos) (xv0 i te ti):=by
  intro pins s σ H D I h
  obtain ⟨v,e1,h⟩:=h
  obtain ⟨m,hn,hl⟩:=I.loc
  have vis:Vis X.env.scope x:=by rcases hx with k|k;exact .inl k;exact .inr (.inl k)
  obtain ⟨u,r,l⟩:=hl i x v hi e1 vis
  refine wpAny_AugAssign_Name ?_
  have go:wpAny (model X.prog X.w) X.A (eval e X.env) (λw s₂=>wpAny (model X.prog X.w) X.A (inplaceOp op u w) (λr s₃=>wpAny (model X.prog X.w) X.A (storeName X.env x r) (λ_=>SP X pins D .next) X.xe s₃) X.xe s₂) X.xe s:=by
    refine thn (he pins s σ H _ I h) λw s1 ⟨y,H1,I1,r1,q1⟩=>?_
    refine thn (ho pins s1 σ H1 v y u w _ I1 r r1 q1) λz s2 ⟨zv,H2,I2,r2,q2⟩=>?_
    exact zn5 I2 hN hi hx r2 (λs3 I3=>⟨_,H2,I3,q2⟩) hf
  rcases l with ⟨hk,hm⟩|⟨hk,c,hc,hcell⟩
  . exact wpAny_loadName_local I.ok.kind hk hn hm go
  . rcases hk with hk|hk
    . exact wpAny_loadName_cell I.ok.kind hk hc hcell go
    . rcases hx with k|k
      . have : X.env.scope.names.lookup x = some .free := hk
        rw [k] at this;cases this
      . have : X.env.scope.names.lookup x = some .free := hk
        rw [k] at this;cases this
def ipI (f:Int->Int->Int):TIp:=λx y H Q=>∃i j,x=.int i/\y=.int j/\Q (.int (f i j)) H
theorem xj8:PIp X .Add (ipI λi j=>i+j):=by
  intro pins s σ H x y v u Q I r1 r2 h
  obtain ⟨i,j,e1,e2,q⟩:=h
  subst e1;subst e2
  obtain ⟨t,rfl⟩:=r1
  obtain ⟨t',rfl⟩:=r2
  exact iadd_int ⟨.int _,H,I.tok _,⟨_,rfl⟩,q⟩
theorem xj9:PIp X .Sub (ipI λi j=>i-j):=by
  intro pins s σ H x y v u Q I r1 r2 h
  obtain ⟨i,j,e1,e2,q⟩:=h
  subst e1;subst e2
  obtain ⟨t,rfl⟩:=r1
  obtain ⟨t',rfl⟩:=r2
  exact isub_int ⟨.int _,H,I.tok _,⟨_,rfl⟩,q⟩
end
section
variable {X:Cx}{pos:Pos}
def xo3 (c:TT)(tb:TS):TS:=λD σ H=>∃W:Nat->St->Hp->Prop,(∃m,W m σ H)/\∀m σ H,W m σ H ->
  c σ H λb H1=>if b=true then ∃N:St->Hp->Prop,(∀σ' H',N σ' H'->∃m',m'<m/\W m' σ' H')/\tb { D with nx:=N,ct:=N,bk:=D.nx } σ H1 else D.nx σ H1
theorem yb8 {c:Expr}{body:List Stmt}{tc:TT}{tb:TS}(hp:PassesOwn (model X.prog X.w) X.A X.env X.xe)(hc:PT X c tc)(hb:PSs X body tb):PS X (.While c body [] pos) (xo3 tc tb):=by
  intro pins s σ H D I h
  obtain ⟨W,⟨m0,w0⟩,turn⟩:=h
  refine wpAny_While (codeAny_whileLoop (λn s'=>∃σ' H',Inv X pins σ' H' s'/\W n σ' H') ?_ m0 ⟨σ,H,I,w0⟩)
  rintro n s1 ⟨σ1,H1,I1,w1⟩
  refine wpAny_passesOwn hp (thn (hc pins s1 σ1 H1 _ I1 (turn n σ1 H1 w1)) λb s2 ⟨H2,I2,q2⟩=>?_)
  cases b with
  | true =>
    obtain ⟨N,hN,q2⟩:=q2
    rw [if_pos rfl]
    refine wpAny_passesOwn hp (thn (hb pins s2 σ1 H2 _ I2 q2) λf s3 q3=>?_)
    cases f with
    | next =>
      obtain ⟨σ3,H3,I3,n3⟩:=q3
      obtain ⟨m',hm,w3⟩:=hN σ3 H3 n3
      exact ⟨m',hm,σ3,H3,I3,w3⟩
    | cont =>
      obtain ⟨σ3,H3,I3,n3⟩:=q3
      obtain ⟨m',hm,w3⟩:=hN σ3 H3 n3
      exact ⟨m',hm,σ3,H3,I3,w3⟩
    | brk=>exact q3
    | ret v=>exact q3
  | false =>
    rw [if_neg aE]
    exact wpAny_execs_nil ⟨σ1,H2,I2,q2⟩
end
structure It where
  go:Nat->Hp->Prop
  yld:Nat->Hp->V->Hp->Prop
  stop:Nat->Hp->Prop
def zb7 (X:Cx)(pins:List (Addr×Obj))(H:Hp)(b:Addr):Prop :=
  H b=none/\b≠X.env.locals/\b∉X.fs/\(b∈X.ex∨X.s₀.heap.objs.size<=b)/\(∀x c,X.env.cells.lookup x=some c->c≠b)/\∀p∈X.pn++pins,p.1≠b
theorem Inv.fpOk {X:Cx}{pins:List (Addr×Obj)}{σ:St}{H H':Hp}{s:Shared}{b:Addr}(I:Inv X pins σ H s)(hb:s.heap.objs.size<=b)(hn:H' b=none):zb7 X pins H' b:=by
  refine ⟨hn,cV (aM I.lt hb),I.nofs hb,.inr (aQ I.sz hb),λx c e z=>?_,λp hp z=>?_⟩
  . obtain ⟨v, q⟩ := I.cell x c e
    exact absurd (aM q.lt (by rw [z];exact hb)) (bh _)
  . exact absurd (aM (az (I.pin p hp).1) (by rw [z];exact hb)) (bh _)
structure ye3 (P:Program) (w:World) (K:W.Frag) (tg:Expr) (J:It) (fp:List Addr) (it:Addr) (tn:Nat->Heap->Prop):Prop where
  mem:it∈fp
  obj:∀i h,tn i h->∀b∈fp,∃o,h.get? b=some o/\∀v,o.data≠.cell v
  keep:∀i h h',tn i h->(∀b∈fp,∀o,h.get? b=some o->h'.get? b=some o)->tn i h'
  item:∀(X:Cx),X.prog=P->X.w=w->X.K=K->X.calm=true->∀(i:Nat) (pins:List (Addr×Obj)) (s:Shared) (σ:St) (H:Hp) (E:Value->Shared->Prop),Inv X pins σ H s->(∀b∈fp,zb7 X pins H b)->tn i s.heap->J.go i H ->
    wpAny (model P w) X.A (pyNext (.ref it)) (λr s1=>∃u,r=some u /\
      wpAny (model P w) X.A (letOwnedTupleGo tg (.ref it) u) (λ_ s2=>∃x H',Inv X pins σ H' s2/\p0 x u/\J.yld i H x H'/\tn (i+1) s2.heap/\∀b∈fp,H' b=none) E s1) E s
  done:∀(X:Cx),X.prog=P->X.w=w->X.K=K->X.calm=true->∀(i:Nat) (pins:List (Addr×Obj)) (s:Shared) (σ:St) (H:Hp) (E:Value->Shared->Prop),Inv X pins σ H s->(∀b∈fp,zb7 X pins H b)->tn i s.heap->J.stop i H ->
    wpAny (model P w) X.A (pyNext (.ref it)) (λr s1=>r=none/\Inv X pins σ H s1) E s
  self:∀(A:Around) (i:Nat) (s:Shared) (Q:Value->Shared->Prop) (E:Value->Shared->Prop),tn i s.heap->Q (.ref it) s->wpAny (model P w) A (pyIter (.ref it)) Q E s
abbrev TI:=St->Hp->(It->Hp->Prop)->Prop
def PIE (X:Cx)(pins:List (Addr×Obj))(σ:St)(tg:Expr)(R:It->Hp->Prop)(itv:Value)(s2:Shared):Prop :=
  ∃(it:Addr) (fp:List Addr) (tn:Nat->Heap->Prop) (J:It) (H':Hp),itv=.ref it/\Inv X pins σ H' s2/\ye3 X.prog X.w X.K tg J fp it tn/\tn 0 s2.heap/\(∀b∈fp,zb7 X pins H' b)/\R J H'
def PI (X:Cx)(tg iter:Expr)(wi:TI):Prop :=
  ∀(pins:List (Addr×Obj)) (s:Shared) (σ:St) (H:Hp) (R:It->Hp->Prop),Inv X pins σ H s->wi σ H R ->
    wpAny (model X.prog X.w) X.A (eval iter X.env) (λv s1=>wpAny (model X.prog X.w) X.A (pyIter v) (PIE X pins σ tg R) X.xe s1) X.xe s
theorem yk0 {M : Model}{A : Around}{E : Value -> Shared -> Prop}{s : Shared}{tg : Expr}{it : Addr}{u : Value}{o : Obj}{n : String}{vs : Array Value}{Q : Unit -> Shared -> Prop}(ho : s.heap.get? it = some o)(hc : o.cls = .type n)(hd : o.data = .fields vs)
    (hn:["enumerate","zip","dict_itemiterator","dict_reverseitemiterator","odict_iterator","itertools.zip_longest","itertools.pairwise"].contains n=false) (hQ:Q () s):wpAny M A (letOwnedTupleGo tg (.ref it) u) Q E s:=by
  unfold letOwnedTupleGo
  cases tg <;> first
    | exact wpAny_pure hQ
    | (cases u <;> first
        | exact wpAny_pure hQ
        | (refine wpAny_bind (wpAny_load ho ?_)
           rw [hc,hd]
           show wpAny M A (if (["enumerate","zip","dict_itemiterator","dict_reverseitemiterator","odict_iterator","itertools.zip_longest","itertools.pairwise"].contains n&&vs[0]?==some (rawInt _))=true then _ else _) Q E s
           rw [if_neg (by intro h;rw [hn,eD] at h;cases h)]
           exact wpAny_pure hQ))
def Itl (K:W.Frag)(a:Addr):It :=
  ⟨λi H=>∃xs x,SqL K H a xs/\xs[i]?=some x,λi H x H'=>H'=H/\∀xs,SqL K H a xs->xs[i]?=some x,λi H=>∃xs,SqL K H a xs/\xs.length<=i⟩
def Itt (K:W.Frag)(a:Addr):It :=
  ⟨λi H=>∃xs x,SqT K H a xs/\xs[i]?=some x,λi H x H'=>H'=H/\∀xs,SqT K H a xs->xs[i]?=some x,λi H=>∃xs,SqT K H a xs/\xs.length<=i⟩
def Itr (lo:Int)(n:Nat):It:=⟨λi _=>i<n,λi H x H'=>H'=H/\x=.int (lo+i),λi _=>n<=i⟩
theorem zs2 {P:Program}{w:World}{K:W.Frag}{tg:Expr}(a it:Addr):ye3 P w K tg (Itl K a) [it] it (λi h=>h.IsListIter it a i) where
  mem:=by simp
  obj:=λi h st b hb=>by
    have e:b=it:=by simpa using hb
    subst e
    obtain ⟨o,e,c,d⟩:=st
    exact ⟨o,e,λv z=>by rw [d] at z;cases z⟩
  keep:=λi h h' st k=>st.at λo e=>k it (by simp) o e
  item:=by
    intro X hP hw hK hc i pins s σ H E I hf st hg
    subst hP hw hK
    obtain ⟨xs,x,hq,hx⟩:=hg
    obtain ⟨its,rv,p,hz⟩:=I.list hq
    obtain ⟨u,hu,ru⟩:=rv.get hx
    obtain ⟨f0,f1,f2,f3,f4,f5⟩:=hf it (by simp)
    refine wpAny_pyNext_list_item st p.isList (x:=u) (by simpa using hu) λh' st' sb=>?_
    have I1:Inv X pins σ H { s with heap:=h' }:=I.turned (t':=s.toks) (λb o hb e=>(sb.2 b hb).trans e) f0 f1 f3 f4 f5
    obtain ⟨o,e,c,d⟩:=id st'
    exact ⟨u,rfl,yk0 (s:={ s with heap:=h' }) e c d (by decide) ⟨x,H,I1,ru,⟨rfl,λys hy=>by rw [I.list_inj hy hq];exact hx⟩,st',λb hb=>(hf b hb).1⟩⟩
  done:=by
    intro X hP hw hK hc i pins s σ H E I hf st hg
    subst hP hw hK
    obtain ⟨xs,hq,hx⟩:=hg
    obtain ⟨its,rv,p,hz⟩:=I.list hq
    obtain ⟨f0,f1,f2,f3,f4,f5⟩:=hf it (by simp)
    have hl:=rv.length
    exact wpAny_pyNext_list_end (I.ok.hd hc) st p.isList (by simp;omega) λh' eb=>⟨rfl,I.turned (t':=s.toks) (λb o hb e=>eb b o hb e) f0 f1 f3 f4 f5⟩
  self:=λ_ _ _ _ _ st h=>wpAny_pyIter_listiter st h
theorem zn8 {P:Program}{w:World}{K:W.Frag}{tg:Expr}(a it:Addr):ye3 P w K tg (Itt K a) [it] it (λi h=>h.IsTupleIter it a i) where
  mem:=by simp
  obj:=λi h st b hb=>by
    have e:b=it:=by simpa using hb
    subst e
    obtain ⟨o,e,c,d⟩:=st
    exact ⟨o,e,λv z=>by rw [d] at z;cases z⟩
  keep:=λi h h' st k=>st.at λo e=>k it (by simp) o e
  item:=by
    intro X hP hw hK hc i pins s σ H E I hf st hg
    subst hP hw hK
    obtain ⟨xs,x,hq,hx⟩:=hg
    obtain ⟨its,rv,p,hz⟩:=I.tuple hq
    obtain ⟨u,hu,ru⟩:=rv.get hx
    obtain ⟨f0,f1,f2,f3,f4,f5⟩:=hf it (by simp)
    refine wpAny_pyNext_tuple_item st (show s.heap.IsTuple a its.toArray from p) (x:=u) (by simpa using hu) λh' st' sb=>?_
    have I1:Inv X pins σ H { s with heap:=h' }:=I.turned (t':=s.toks) (λb o hb e=>(sb.2 b hb).trans e) f0 f1 f3 f4 f5
    obtain ⟨o,e,c,d⟩:=id st'
    exact ⟨u,rfl,yk0 (s:={ s with heap:=h' }) e c d (by decide) ⟨x,H,I1,ru,⟨rfl,λys hy=>by rw [I.tuple_inj hy hq];exact hx⟩,st',λb hb=>(hf b hb).1⟩⟩
  done:=by
    intro X hP hw hK hc i pins s σ H E I hf st hg
    subst hP hw hK
    obtain ⟨xs,hq,hx⟩:=hg
    obtain ⟨its,rv,p,hz⟩:=I.tuple hq
    obtain ⟨f0,f1,f2,f3,f4,f5⟩:=hf it (by simp)
    have hl:=rv.length
    exact wpAny_pyNext_tuple_end (I.ok.hd hc) st (show s.heap.IsTuple a its.toArray from p) (by simp;omega) λh' eb=>⟨rfl,I.turned (t':=s.toks) (λb o hb e=>eb b o hb e) f0 f1 f3 f4 f5⟩
  self:=λ_ _ _ _ _ st h=>wpAny_pyIter_tupleiter st h
theorem yi7 {P:Program}{w:World}{K:PySem.W.Frag}{tg:Expr}(it:Addr)(lo:Int)(n:Nat):ye3 P w K tg (Itr lo n) [it] it (λi h=>IsRangeIter h it (lo+(i:Nat)*1) ((n:Int)-(i:Nat)) 1) where
  mem:=by simp
  obj:=λi h st b hb=>by
    have e:b=it:=by simpa using hb
    subst e
    exact ⟨_,st,λv z=>by
      have z':Data.fields _=Data.cell v:=z
      cases z'⟩
  keep:=λi h h' st k=>k it (by simp) _ st
  item:=by
    intro X hP hw hK hc i pins s σ H E I hf st hg
    subst hP hw hK
    obtain ⟨f0,f1,f2,f3,f4,f5⟩:=hf it (by simp)
    have W:=Walks.range (prog:=X.prog) (w:=X.w) (I.ok.hd hc) it lo 1 n
    refine W.item i s _ _ hg st λv h' tk hv st' kk=>?_
    obtain ⟨t,rfl⟩:=hv
    have I1:Inv X pins σ H { s with heap:=h',toks:=tk }:=I.turned (λb o hb e=>kk b o (by simpa using hb) e) f0 f1 f3 f4 f5
    refine ⟨_,rfl,yk0 (s:={ s with heap:=h',toks:=tk }) (n:="range_iterator") st' rfl rfl (by decide) ⟨.int (lo+i),H,I1,⟨t,?_⟩,⟨rfl,rfl⟩,st',λb hb=>(hf b hb).1⟩⟩
    rw [Int.mul_one]
  done:=by
    intro X hP hw hK hc i pins s σ H E I hf st hg
    subst hP hw hK
    obtain ⟨f0,f1,f2,f3,f4,f5⟩:=hf it (by simp)
    exact wpAny_pyNext_range_end (I.ok.hd hc) st (by have:n<=i:=hg;omega) λh' eb=>⟨rfl,I.turned (t':=s.toks) (λb o hb e=>eb b o hb e) f0 f1 f3 f4 f5⟩
  self:=λ_ _ _ _ _ st h=>wpAny_pyIter_rangeiter st h
section
variable {X:Cx}{tg:Expr}
def xq6 (K:W.Frag)(tl:TE):TI:=λσ H R=>tl σ H λx H1=>∃a,x=.ref a/\(∃xs,SqL K H1 a xs)/\R (Itl K a) H1
def xu2 (K:W.Frag)(tl:TE):TI:=λσ H R=>tl σ H λx H1=>∃a,x=.ref a/\(∃xs,SqT K H1 a xs)/\R (Itt K a) H1
theorem Y9 {l:Expr}{tl:TE}(hl:PE X l tl):PI X tg l (xq6 X.K tl):=by
  intro pins s σ H R I h
  refine thn (hl pins s σ H _ I h) λv s1 ⟨x,H1,I1,r1,q1⟩=>?_
  obtain ⟨a,e,⟨xs,hq⟩,q⟩:=q1
  subst e
  cases r1
  obtain ⟨its,rv,p,hz⟩:=I1.list hq
  refine wpAny_pyIter_list p.isList ?_
  refine ⟨s1.heap.objs.size,[s1.heap.objs.size],_,_,H1,rfl,I1.kept (t':=s1.toks) λb o e=>al _ e,zs2 a _,⟨_,aA _ rfl,rfl,rfl⟩,λb hb=>?_,q⟩
  have e:b=s1.heap.objs.size:=by simpa using hb
  subst e
  exact I1.fpOk (ah _) (I1.hok.fresh (ah _))
theorem zw6 {l:Expr}{tl:TE}(hl:PE X l tl):PI X tg l (xu2 X.K tl):=by
  intro pins s σ H R I h
  refine thn (hl pins s σ H _ I h) λv s1 ⟨x,H1,I1,r1,q1⟩=>?_
  obtain ⟨a,e,⟨xs,hq⟩,q⟩:=q1
  subst e
  cases r1
  obtain ⟨its,rv,p,hz⟩:=I1.tuple hq
  refine wpAny_pyIter_tuple (show s1.heap.IsTuple a its.toArray from p) ?_
  refine ⟨s1.heap.objs.size,[s1.heap.objs.size],_,_,H1,rfl,I1.kept (t':=s1.toks) λb o e=>al _ e,zn8 a _,⟨_,aA _ rfl,rfl,rfl⟩,λb hb=>?_,q⟩
  have e:b=s1.heap.objs.size:=by simpa using hb
  subst e
  exact I1.fpOk (ah _) (I1.hok.fresh (ah _))
theorem yx0 {pins : List (Addr×Obj)}{σ : St}{H : Hp}{s : Shared}{R : It -> Hp -> Prop}{E : Value -> Shared -> Prop}{lo hi : Int}{t u v : Tok}{tk : Nat}(I : Inv X pins σ H s)(h1 : -(2 ^ 62) <= lo)(h2 : lo<2 ^ 62)(h3 : -(2 ^ 62) <= hi)(h4 : hi<2 ^ 62)
    (q:R (Itr lo (hi-lo).toNat) H):wpAny (model X.prog X.w) X.A (pyIter (.ref s.heap.objs.size)) (PIE X pins σ tg R) E { s with heap:=s.heap.push { cls:=.type "range",data:=.fields #[.int lo t,.int hi u,.int 1 v] },toks:=tk }:=by
  refine wpAny_pyIter_range (IsRange.new ..) (small_one h1 h2 h3 h4) ?_
  have I1:Inv X pins σ H { s with heap:=s.heap.push { cls:=.type "range",data:=.fields #[.int lo t,.int hi u,.int 1 v] },toks:=tk }:=I.kept λb o e=>al _ e
  refine ⟨(s.heap.push { cls:=.type "range",data:=.fields #[.int lo t,.int hi u,.int 1 v] }).objs.size,[(s.heap.push { cls:=.type "range",data:=.fields #[.int lo t,.int hi u,.int 1 v] }).objs.size],_,_,H,rfl,
    I1.kept (t':=tk) λb o e=>al _ e,yi7 _ lo (hi-lo).toNat,?_,λb hb=>?_,q⟩
  . have e1 : lo+((0 : Nat) : Int)*1 = lo := by simp
    have e2:(((hi-lo).toNat:Nat):Int)-((0:Nat):Int)=Builtin.Range.rangeSize lo hi 1:=by rw [rangeSize_one];split <;> omega
    show IsRangeIter _ _ (lo+((0:Nat):Int)*1) ((((hi-lo).toNat:Nat):Int)-((0:Nat):Int)) 1
    rw [e1,e2]
    exact aA _ rfl
  . have e : b = (s.heap.push { cls := .type "range", data := .fields #[.int lo t, .int hi u, .int 1 v] }).objs.size := by simpa using hb
    subst e
    exact I1.fpOk (ah _) (I1.hok.fresh (ah _))
def xq7 (ta:TA):TI:=λσ H R=>ta σ H λvs H1=>∃j:Int,vs=[.int j]/\-(2 ^ 62)<=j/\j<2 ^ 62/\R (Itr 0 j.toNat) H1
theorem zd4 {a:Expr}{ta:TA}{p pos:Pos}(hg:Gl X "range") (hm:X.mg "range"=none) (ha:PA X [a] ta) (hs:starEach [a] X.env=[(false,eval a X.env)]:=by rfl):PI X tg (.Call (.Name "range" p) [a] [] pos) (xq7 ta):=by
  intro pins s σ H R I h
  refine Call_ (zc9 I hg hm boot_range (PyProof.Rows.callWith_type1 (thn (ha pos pins s σ H _ I h) λus s1 ⟨vs,H1,I1,r1,q1⟩=>?_) hs rfl))
  obtain ⟨j,e,q1,q2,q⟩:=q1
  subst e
  cases r1 with
  | cons r rr =>
    cases rr
    obtain ⟨t,rfl⟩:=r
    exact call_range_1 (yx0 I1 (by omega) (by omega) q1 q2 (by simpa using q))
def xv2 (wi:TI)(g:TG)(tb:TS):TS:=λD σ H=>wi σ H λJ H1=>∃W:Nat->Nat->St->Hp->Prop,(∃m,W 0 m σ H1)/\∀i m σ H,W i m σ H ->
  (J.stop i H/\D.nx σ H)∨(J.go i H/\∃N:St->Hp->Prop,(∀σ' H',N σ' H'->∃m',m'<m/\W (i+1) m' σ' H')/\∀x H',J.yld i H x H'->g x σ H' λσ2 H2=>tb { D with nx:=N,ct:=N,bk:=D.nx } σ2 H2)
def zw7 (fp:List Addr)(h:Heap):List (Addr×Obj):=fp.filterMap λb=>(h.get? b).map λo=>(b,o)
theorem D4 {fp:List Addr}{h:Heap}{b:Addr}{o:Obj}(hb:b∈fp)(e:h.get? b=some o):(b,o)∈zw7 fp h:=bB.mpr ⟨b,hb,by rw [e];rfl⟩
theorem yp1 {fp:List Addr}{h:Heap}{p:Addr×Obj}(hp:p∈zw7 fp h):p.1∈fp/\h.get? p.1=some p.2:=by
  obtain ⟨b,hb,e⟩:=bB.mp hp
  cases q:h.get? b with
  | none=>rw [q] at e;cases e
  | some o =>
    rw [q] at e
    have e':(b,o)=p:=Option.some.inj e
    subst e'
    exact ⟨hb,q⟩
theorem Inv.pinned {pins:List (Addr×Obj)}{σ:St}{H:Hp}{s:Shared}{fp:List Addr}(I:Inv X pins σ H s)(hf:∀b∈fp,zb7 X pins H b)(ho:∀b∈fp,∃o,s.heap.get? b=some o/\∀v,o.data≠.cell v):Inv X (pins++zw7 fp s.heap) σ H s :=
  I.pins_of λp hp=>(aD.mp hp).elim (λz=>I.pin p (aK _ z)) λz=>by
    obtain ⟨hb,e⟩:=yp1 z
    obtain ⟨f0,f1,f2,_⟩:=hf p.1 hb
    obtain ⟨o,e',d⟩:=ho p.1 hb
    rw [e] at e';cases e'
    exact ⟨e,f0,f1,f2,d⟩
theorem Inv.unpinned {pins pl:List (Addr×Obj)}{σ:St}{H:Hp}{s:Shared}(I:Inv X (pins++pl) σ H s):Inv X pins σ H s:=I.pins_of λp hp=>I.pin p (aK _ (aJ _ hp))
theorem U1 {iter : Expr}{body : List Stmt}{wi : TI}{g : TG}{tb : TS}{pos : Pos}(hp : PassesOwn (model X.prog X.w) X.A X.env X.xe)(hc : X.calm = true)(hi : PI X tg iter wi)(hg : PG X tg g)(hb : PSs X body tb)
    (hs:∀x,foldedSetIterable iter X.env x=pure x:=by intro _;rfl):PS X (.For tg iter body [] pos) (xv2 wi g tb):=by
  intro pins s σ H D I h
  refine wpAny_For (thn (hi pins s σ H _ I h) λv s1 h1=>thn h1 λitv s2 h2=>?_) hs
  obtain ⟨it,fp,tn,J,H2,e,I2,T,st2,f2,W,⟨m0,w0⟩,turn⟩:=h2
  subst e
  have stat:∀{H':Hp},(∀b∈fp,H' b=none)->∀b∈fp,zb7 X pins H' b:=λhn b hb=>⟨hn b hb,(f2 b hb).2⟩
  refine codeAny_forLoop_any (λn s'=>∃i σ' H',Inv X pins σ' H' s'/\tn i s'.heap/\(∀b∈fp,H' b=none)/\W i n σ' H') ?_ m0 ⟨0,σ,H2,I2,st2,λb hb=>(f2 b hb).1,w0⟩
  rintro n s3 ⟨i,σ3,H3,I3,st3,fr3,w3⟩
  rcases turn i n σ3 H3 w3 with ⟨stop,qn⟩|⟨go,N,hN,step⟩
  . refine wpAny_passesOwn hp (thn (T.done X rfl rfl rfl hc i pins s3 σ3 H3 X.xe I3 (stat fr3) st3 stop) λr s4 ⟨hr, I4⟩ => ?_)
    subst hr
    exact wpAny_execs_nil ⟨σ3,H3,I4,qn⟩
  . refine wpAny_passesOwn hp (thn (T.item X rfl rfl rfl hc i pins s3 σ3 H3 X.xe I3 (stat fr3) st3 go) λr s4 ⟨u, hr, h4⟩ => ?_)
    subst hr
    refine wpAny_passesOwn hp (thn h4 λ_ s5 ⟨x,H5,I5,r5,y5,st5,fr5⟩=>?_)
    have I5':=I5.pinned (stat fr5) (T.obj _ _ st5)
    refine wpAny_passesOwn hp (thn (hg _ s5 σ3 H5 x u _ I5' r5 (step x H5 y5)) λ_ s6 ⟨σ6,H6,I6,q6⟩=>?_)
    refine wpAny_passesOwn hp (thn (hb _ s6 σ6 H6 _ I6 q6) λf s7 q7=>?_)
    have again:∀{σ7:St} {H7:Hp},Inv X (pins++zw7 fp s5.heap) σ7 H7 s7->N σ7 H7->∃m,m<n/\∃i σ' H',Inv X pins σ' H' s7/\tn i s7.heap/\(∀b∈fp,H' b=none)/\W i m σ' H':=λ{σ7 H7} I7 n7=>by
      obtain ⟨m',hm,w7⟩:=hN σ7 H7 n7
      refine ⟨m',hm,i+1,σ7,H7,I7.unpinned,T.keep _ _ _ st5 λb hb o e=>(I7.pin (b,o) (aK _ (aK _ (D4 hb e)))).1,λb hb=>?_,w7⟩
      obtain ⟨o,e,d⟩:=T.obj _ _ st5 b hb
      exact (I7.pin (b,o) (aK _ (aK _ (D4 hb e)))).2.1
    cases f with
    | next=>obtain ⟨σ7,H7,I7,n7⟩:=q7;exact again I7 n7
    | cont=>obtain ⟨σ7,H7,I7,n7⟩:=q7;exact again I7 n7
    | brk=>obtain ⟨σ7,H7,I7,q7⟩:=q7;exact ⟨σ7,H7,I7.unpinned,q7⟩
    | ret v=>obtain ⟨x7,σ7,H7,I7,r7,q7⟩:=q7;exact ⟨x7,σ7,H7,I7.unpinned,r7,q7⟩
end
theorem T1 {K : PySem.W.Frag}{a : Addr}{xs : List V}{g : TG}{tb : TS}{D : zb6}{σ : St}{H : Hp}(Pv : Nat -> St -> Hp -> Prop)(h0 : Pv 0 σ H)(hl : ∀i σ H, i <= xs.length -> Pv i σ H -> SqL K H a xs)
    (hs:∀i x σ H,xs[i]?=some x->Pv i σ H->g x σ H λσ2 H2=>tb { D with nx:=Pv (i+1),ct:=Pv (i+1),bk:=D.nx } σ2 H2) (hd:∀σ H,Pv xs.length σ H->D.nx σ H) :
    ∃W:Nat->Nat->St->Hp->Prop,(∃m,W 0 m σ H)/\∀i m σ H,W i m σ H ->
      ((Itl K a).stop i H/\D.nx σ H)∨((Itl K a).go i H/\∃N:St->Hp->Prop,(∀σ' H',N σ' H'->∃m',m'<m/\W (i+1) m' σ' H')/\∀x H',(Itl K a).yld i H x H'->g x σ H' λσ2 H2=>tb { D with nx:=N,ct:=N,bk:=D.nx } σ2 H2):=by
  refine ⟨λi m σ H=>m=xs.length-i/\i<=xs.length/\Pv i σ H,⟨xs.length,by simp,aR _,h0⟩,?_⟩
  rintro i m σ H ⟨rfl,hi,p⟩
  have q:=hl i σ H hi p
  by_cases hlt:i<xs.length
  . refine .inr ⟨⟨xs, xs[i], q, by simp [hlt]⟩, Pv (i+1), λσ' H' p' => ⟨xs.length-(i+1), by omega, rfl, hlt, p'⟩, λx H' y => ?_⟩
    obtain ⟨e,y⟩:=y
    subst e
    exact hs i x σ _ (y xs q) p
  . have e : i = xs.length := by omega
    subst e
    exact .inl ⟨⟨xs,q,ah _⟩,hd σ H p⟩
theorem xb8 {K : PySem.W.Frag}{a : Addr}{xs : List V}{g : TG}{tb : TS}{D : zb6}{σ : St}{H : Hp}(Pv : Nat -> St -> Hp -> Prop)(h0 : Pv 0 σ H)(hl : ∀i σ H, i <= xs.length -> Pv i σ H -> SqT K H a xs)
    (hs:∀i x σ H,xs[i]?=some x->Pv i σ H->g x σ H λσ2 H2=>tb { D with nx:=Pv (i+1),ct:=Pv (i+1),bk:=D.nx } σ2 H2) (hd:∀σ H,Pv xs.length σ H->D.nx σ H) :
    ∃W:Nat->Nat->St->Hp->Prop,(∃m,W 0 m σ H)/\∀i m σ H,W i m σ H ->
      ((Itt K a).stop i H/\D.nx σ H)∨((Itt K a).go i H/\∃N:St->Hp->Prop,(∀σ' H',N σ' H'->∃m',m'<m/\W (i+1) m' σ' H')/\∀x H',(Itt K a).yld i H x H'->g x σ H' λσ2 H2=>tb { D with nx:=N,ct:=N,bk:=D.nx } σ2 H2):=by
  refine ⟨λi m σ H=>m=xs.length-i/\i<=xs.length/\Pv i σ H,⟨xs.length,by simp,aR _,h0⟩,?_⟩
  rintro i m σ H ⟨rfl,hi,p⟩
  have q:=hl i σ H hi p
  by_cases hlt:i<xs.length
  . refine .inr ⟨⟨xs, xs[i], q, by simp [hlt]⟩, Pv (i+1), λσ' H' p' => ⟨xs.length-(i+1), by omega, rfl, hlt, p'⟩, λx H' y => ?_⟩
    obtain ⟨e,y⟩:=y
    subst e
    exact hs i x σ _ (y xs q) p
  . have e : i = xs.length := by omega
    subst e
    exact .inl ⟨⟨xs,q,ah _⟩,hd σ H p⟩
theorem zr5 {lo : Int}{n : Nat}{g : TG}{tb : TS}{D : zb6}{σ : St}{H : Hp}(Pv : Nat -> St -> Hp -> Prop)(h0 : Pv 0 σ H)
    (hs:∀i σ H,i<n->Pv i σ H->g (.int (lo+i)) σ H λσ2 H2=>tb { D with nx:=Pv (i+1),ct:=Pv (i+1),bk:=D.nx } σ2 H2) (hd:∀σ H,Pv n σ H->D.nx σ H) :
    ∃W:Nat->Nat->St->Hp->Prop,(∃m,W 0 m σ H)/\∀i m σ H,W i m σ H ->
      ((Itr lo n).stop i H/\D.nx σ H)∨((Itr lo n).go i H/\∃N:St->Hp->Prop,(∀σ' H',N σ' H'->∃m',m'<m/\W (i+1) m' σ' H')/\∀x H',(Itr lo n).yld i H x H'->g x σ H' λσ2 H2=>tb { D with nx:=N,ct:=N,bk:=D.nx } σ2 H2):=by
  refine ⟨λi m σ H=>m=n-i/\i<=n/\Pv i σ H,⟨n,by simp,aR _,h0⟩,?_⟩
  rintro i m σ H ⟨rfl,hi,p⟩
  by_cases hlt:i<n
  . refine .inr ⟨hlt, Pv (i+1), λσ' H' p' => ⟨n-(i+1), by omega, rfl, hlt, p'⟩, λx H' y => ?_⟩
    obtain ⟨e,y⟩:=y
    subst e y
    exact hs i σ _ hlt p
  . have e : i = n := by omega
    subst e
    exact .inl ⟨ah _,hd σ H p⟩
abbrev R2:=V->V->Hp->VK->Prop
def OpR (X:Cx)(f:Value->Value->Sem Value)(r:R2):Prop :=
  ∀(pins:List (Addr×Obj)) (s:Shared) (σ:St) (H:Hp) (x y:V) (v u:Value) (Q:VK),Inv X pins σ H s->p0 x v->p0 y u->r x y H Q ->
    wpAny (model X.prog X.w) X.A (f v u) (EP X pins σ Q) X.xe s
def UnR (X:Cx)(f:Value->Sem Value)(r:V->Hp->VK->Prop):Prop :=
  ∀(pins:List (Addr×Obj)) (s:Shared) (σ:St) (H:Hp) (x:V) (v:Value) (Q:VK),Inv X pins σ H s->p0 x v->r x H Q ->
    wpAny (model X.prog X.w) X.A (f v) (EP X pins σ Q) X.xe s
def W1 (X:Cx)(f:Value)(r:List V->Hp->VK->Prop):Prop :=
  ∀(pins:List (Addr×Obj)) (s:Shared) (σ:St) (H:Hp) (xs:List V) (us:List Value) (Q:VK),Inv X pins σ H s->t9 xs us->r xs H Q ->
    wpAny (model X.prog X.w) X.A (call f us) (EP X pins σ Q) X.xe s
def tOp (r:R2)(ta tb:TE):TE:=λσ H Q=>ta σ H λx H1=>tb σ H1 λy H2=>r x y H2 Q
def tUn (r:V->Hp->VK->Prop)(ta:TE):TE:=λσ H Q=>ta σ H λx H1=>r x H1 Q
def rI (C:Int->Int->Prop)(g:Int->Int->V):R2:=λx y H Q=>∃i j,x=.int i/\y=.int j/\C i j/\Q (g i j) H
def rI0 (g:Int->Int->V):R2:=λx y H Q=>∃i j,x=.int i/\y=.int j/\Q (g i j) H
def rU (g:Int->V):V->Hp->VK->Prop:=λx H Q=>∃i,x=.int i/\Q (g i) H
section
variable {X:Cx}{a b c:Expr}{ta tb tc:TE}{pos:Pos}
theorem xj1 (ha : PE X a ta)(hb : PE X b tb){pins : List (Addr×Obj)}{s : Shared}{σ : St}{H : Hp}{R : V -> V -> Hp -> Prop}(I : Inv X pins σ H s)
    (h:ta σ H λx H1=>tb σ H1 λy H2=>R x y H2) {Q:Value->Shared->Prop} {f:Value->Value->Sem Value}
    (hf:∀v u s2 x y H2,Inv X pins σ H2 s2->p0 x v->p0 y u->R x y H2->wpAny (model X.prog X.w) X.A (f v u) Q X.xe s2) :
    wpAny (model X.prog X.w) X.A (eval a X.env) (λv s₁=>wpAny (model X.prog X.w) X.A (eval b X.env) (λu s₂=>wpAny (model X.prog X.w) X.A (f v u) Q X.xe s₂) X.xe s₁) X.xe s:=by
  refine thn (ha pins s σ H _ I h) λv s1 ⟨x,H1,I1,r1,q1⟩=>?_
  refine thn (hb pins s1 σ H1 _ I1 q1) λu s2 ⟨y,H2,I2,r2,q2⟩=>?_
  exact hf v u s2 x y H2 I2 r1 r2 q2
theorem u9 {op:Operator}{r:R2}(ho:OpR X (binaryOp op) r)(ha:PE X a ta)(hb:PE X b tb):PE X (.BinOp a op b pos) (tOp r ta tb):=by
  intro pins s σ H Q I h
  exact wpAny_BinOp (xj1 ha hb I h λv u s2 x y H2 I2 rx ry q=>ho pins s2 σ H2 x y v u Q I2 rx ry q)
theorem xr3 {op:UnaryOp}{r:V->Hp->VK->Prop}(ho:UnR X (unaryOp op) r)(ha:PE X a ta):PE X (.UnaryOp op a pos) (tUn r ta):=by
  intro pins s σ H Q I h
  exact UnaryOp_ (thn (ha pins s σ H _ I h) λv s1 ⟨x,H1,I1,r1,q1⟩=>ho pins s1 σ H1 x v Q I1 r1 q1)
theorem opI {f : Value -> Value -> Sem Value}{C : Int -> Int -> Prop}{g : Int -> Int -> Int}
    (rule:∀(i j:Int) (t u:Tok) (s:Shared) (Q:Value->Shared->Prop) (E:Value->Shared->Prop),C i j->Q (.int (g i j) s.toks) { s with toks:=s.toks+1 }->wpAny (model X.prog X.w) X.A (f (.int i t) (.int j u)) Q E s) :
    OpR X f (rI C λi j=>.int (g i j)):=by
  intro pins s σ H x y v u Q I rx ry h
  obtain ⟨i,j,rfl,rfl,hc,q⟩:=h
  obtain ⟨t,rfl⟩:=rx
  obtain ⟨t',rfl⟩:=ry
  exact rule i j t t' s _ _ hc ⟨.int (g i j),H,I.tok _,⟨_,rfl⟩,q⟩
theorem xm0 {f : Value -> Value -> Sem Value}{g : Int -> Int -> Int}
    (rule:∀(i j:Int) (t u:Tok) (s:Shared) (Q:Value->Shared->Prop) (E:Value->Shared->Prop),Q (.int (g i j) s.toks) { s with toks:=s.toks+1 }->wpAny (model X.prog X.w) X.A (f (.int i t) (.int j u)) Q E s) :
    OpR X f (rI0 λi j=>.int (g i j)):=by
  intro pins s σ H x y v u Q I rx ry h
  obtain ⟨i,j,rfl,rfl,q⟩:=h
  obtain ⟨t,rfl⟩:=rx
  obtain ⟨t',rfl⟩:=ry
  exact rule i j t t' s _ _ ⟨.int (g i j),H,I.tok _,⟨_,rfl⟩,q⟩
theorem xd3 {f : Value -> Value -> Sem Value}{g : Int -> Int -> Bool}
    (rule:∀(i j:Int) (t u:Tok) (s:Shared) (Q:Value->Shared->Prop) (E:Value->Shared->Prop),Q (.bool (g i j)) s->wpAny (model X.prog X.w) X.A (f (.int i t) (.int j u)) Q E s) :
    OpR X f (rI0 λi j=>.bl (g i j)):=by
  intro pins s σ H x y v u Q I rx ry h
  obtain ⟨i,j,rfl,rfl,q⟩:=h
  obtain ⟨t,rfl⟩:=rx
  obtain ⟨t',rfl⟩:=ry
  exact rule i j t t' s _ _ ⟨.bl (g i j),H,I,rfl,q⟩
def xo8 (i j:Int):Prop:=0<j/\j<1073741824
def xi7 (i j:Int):Prop:=(-(2 ^ 64)<i/\i<2 ^ 64)∨(-(2 ^ 64)<j/\j<2 ^ 64)
theorem xi7.ok {i j:Int}(h:xi7 i j):IntMulOk i j:=by
  rcases h with ⟨h1,h2⟩|⟨h1,h2⟩
  . exact .of_left (intBits_le_64 h1 h2)
  . exact .of_right (intBits_le_64 h1 h2)
theorem X6:OpR X (binaryOp .Add) (rI0 λi j=>.int (i+j)):=xm0 λ_ _ _ _ _ _ _ q=>add_int q
theorem zl3:OpR X (binaryOp .Sub) (rI0 λi j=>.int (i-j)):=xm0 λ_ _ _ _ _ _ _ q=>sub_int q
theorem yv9:OpR X (binaryOp .Mult) (rI xi7 λi j=>.int (i*j)):=opI λ_ _ _ _ _ _ _ hc q=>mul_int q hc.ok
theorem R6:OpR X (binaryOp .FloorDiv) (rI xo8 λi j=>.int (i / j)):=opI λi j _ _ _ _ _ hc q=>by
  have h1:(0:Int)<j:=hc.1
  have h2:j<1073741824:=hc.2
  exact floordiv_int (by omega) (by rw [eN i (by omega)];exact q) (.inl (PyProof.noPylong_small (by omega)))
theorem d3:OpR X (binaryOp .Mod) (rI (λ_ j=>0<j) λi j=>.int (i % j)):=opI λi j _ _ _ _ _ hc q=>by
  have h1:(0:Int)<j:=hc
  exact mod_int' (by omega) (by rw [eM i (by omega)];exact q)
theorem xc0:OpR X (inplaceOp .Add) (rI0 λi j=>.int (i+j)):=xm0 λ_ _ _ _ _ _ _ q=>iadd_int q
theorem unI {f : Value -> Sem Value}{g : Int -> Int}
    (rule:∀(i:Int) (t:Tok) (s:Shared) (Q:Value->Shared->Prop) (E:Value->Shared->Prop),Q (.int (g i) s.toks) { s with toks:=s.toks+1 }->wpAny (model X.prog X.w) X.A (f (.int i t)) Q E s) :
    UnR X f (rU λi=>.int (g i)):=by
  intro pins s σ H x v Q I rx h
  obtain ⟨i,rfl,q⟩:=h
  obtain ⟨t,rfl⟩:=rx
  exact rule i t s _ _ ⟨.int (g i),H,I.tok _,⟨_,rfl⟩,q⟩
theorem xo6:UnR X (unaryOp .USub) (rU λi=>.int (-i)):=unI λ_ _ _ _ _ q=>neg_int q
end
def xr9 : V -> V -> Bool
  | .non,.non=>true | .non,.int _=>true | .int _,.non=>true | .non,.bl _=>true | .bl _,.non=>true | .non,.str _=>true | .str _,.non=>true
  | .int _,.int _=>true | .bl _,.bl _=>true | .str _,.str _=>true | .byt _,.byt _=>true
  | .int _,.str _=>true | .str _,.int _=>true | .bl _,.str _=>true | .str _,.bl _=>true
  | _,_=>false
def rEq:R2:=λx y H Q=>xr9 x y=true/\Q (.bl (decide (x=y))) H
def rNe:R2:=λx y H Q=>xr9 x y=true/\Q (.bl (!decide (x=y))) H
theorem yj4 {i j:Int}:decide (V.int i=V.int j)=(i==j):=by
  rw [dD]
  simp
theorem ys2 {i j:Bool}:decide (V.bl i=V.bl j)=(i==j):=by
  rw [dD]
  simp
theorem yj5 {i j:Str}:decide (V.str i=V.str j)=(i==j):=by
  rw [dD]
  simp
theorem yj3 {i j:Array UInt8}:decide (V.byt i=V.byt j)=(i.toList==j.toList):=by
  rw [dD]
  cases i
  cases j
  simp
section
variable {X:Cx}{a b c:Expr}{ta tb tc:TE}{pos:Pos}
theorem o5 {pins:List (Addr×Obj)}{σ:St}{H:Hp}{s:Shared}{Q:VK}{k k':Bool}(I:Inv X pins σ H s)(q:Q (.bl k) H)(e:k=k'):EP X pins σ Q (.bool k') s:=by
  subst e
  exact ⟨.bl k,H,I,rfl,q⟩
theorem O5:OpR X (compareOp .Eq) rEq:=by
  intro pins s σ H x y v u Q I rx ry h
  obtain ⟨hs,q⟩:=h
  cases x with
  | non =>
    cases rx
    cases y with
    | non=>cases ry;exact PySem.EqNone.eq_none_none (o5 I q (by simp))
    | bl j=>cases ry;exact PySem.EqNone.eq_none_bool (o5 I q (by simp))
    | int j=>obtain ⟨t',rfl⟩:=ry;exact PySem.EqNone.eq_none_int (o5 I q (by simp))
    | str j=>obtain ⟨t',rfl⟩:=ry;exact PySem.EqNone.eq_none_str (o5 I q (by simp))
    | _=>exact absurd (show false=true from hs) aE
  | bl i =>
    cases rx
    cases y with
    | non=>cases ry;exact PySem.EqNone.eq_bool_none (o5 I q (by simp))
    | bl j=>cases ry;exact eq_bool (o5 I q ys2)
    | str j=>obtain ⟨t',rfl⟩:=ry;exact PySem.EqMixed.eq_bool_str (o5 I q (by simp))
    | _=>exact absurd (show false=true from hs) aE
  | int i =>
    obtain ⟨t,rfl⟩:=rx
    cases y with
    | non=>cases ry;exact PySem.EqNone.eq_int_none (o5 I q (by simp))
    | int j=>obtain ⟨t',rfl⟩:=ry;exact eq_int (o5 I q yj4)
    | str j=>obtain ⟨t',rfl⟩:=ry;exact PySem.EqMixed.eq_int_str (o5 I q (by simp))
    | _=>exact absurd (show false=true from hs) aE
  | str i =>
    obtain ⟨t,rfl⟩:=rx
    cases y with
    | non=>cases ry;exact PySem.EqNone.eq_str_none (o5 I q (by simp))
    | bl j=>cases ry;exact PySem.EqMixed.eq_str_bool (o5 I q (by simp))
    | int j=>obtain ⟨t',rfl⟩:=ry;exact PySem.EqMixed.eq_str_int (o5 I q (by simp))
    | str j=>obtain ⟨t',rfl⟩:=ry;exact eq_str (o5 I q yj5)
    | _=>exact absurd (show false=true from hs) aE
  | byt i =>
    obtain ⟨t,rfl⟩:=rx
    cases y with
    | byt j=>obtain ⟨t',rfl⟩:=ry;exact W.eq_bytes (o5 I q yj3)
    | _=>exact absurd (show false=true from hs) aE
  | _=>cases y <;> exact absurd (show false=true from hs) aE
theorem yl0:OpR X (compareOp .NotEq) rNe:=by
  intro pins s σ H x y v u Q I rx ry h
  obtain ⟨hs,q⟩:=h
  cases x with
  | non =>
    cases rx
    cases y with
    | non=>cases ry;exact PySem.EqNone.ne_none_none (o5 I q (by simp))
    | bl j=>cases ry;exact PySem.EqNone.ne_none_bool (o5 I q (by simp))
    | int j=>obtain ⟨t',rfl⟩:=ry;exact PySem.EqNone.ne_none_int (o5 I q (by simp))
    | str j=>obtain ⟨t',rfl⟩:=ry;exact PySem.EqNone.ne_none_str (o5 I q (by simp))
    | _=>exact absurd (show false=true from hs) aE
  | bl i =>
    cases rx
    cases y with
    | non=>cases ry;exact PySem.EqNone.ne_bool_none (o5 I q (by simp))
    | bl j=>cases ry;exact ne_bool (o5 I q (congrArg not ys2))
    | str j=>obtain ⟨t',rfl⟩:=ry;exact PySem.EqMixed.ne_bool_str (o5 I q (by simp))
    | _=>exact absurd (show false=true from hs) aE
  | int i =>
    obtain ⟨t,rfl⟩:=rx
    cases y with
    | non=>cases ry;exact PySem.EqNone.ne_int_none (o5 I q (by simp))
    | int j=>obtain ⟨t',rfl⟩:=ry;exact ne_int (o5 I q (congrArg not yj4))
    | str j=>obtain ⟨t',rfl⟩:=ry;exact PySem.EqMixed.ne_int_str (o5 I q (by simp))
    | _=>exact absurd (show false=true from hs) aE
  | str i =>
    obtain ⟨t,rfl⟩:=rx
    cases y with
    | non=>cases ry;exact PySem.EqNone.ne_str_none (o5 I q (by simp))
    | bl j=>cases ry;exact PySem.EqMixed.ne_str_bool (o5 I q (by simp))
    | int j=>obtain ⟨t',rfl⟩:=ry;exact PySem.EqMixed.ne_str_int (o5 I q (by simp))
    | str j=>obtain ⟨t',rfl⟩:=ry;exact ne_str (o5 I q (congrArg not yj5))
    | _=>exact absurd (show false=true from hs) aE
  | byt i =>
    obtain ⟨t,rfl⟩:=rx
    cases y with
    | byt j=>obtain ⟨t',rfl⟩:=ry;exact W.ne_bytes (o5 I q (congrArg not yj3))
    | _=>exact absurd (show false=true from hs) aE
  | _=>cases y <;> exact absurd (show false=true from hs) aE
theorem yk9:OpR X (compareOp .Lt) (rI0 λi j=>.bl (decide (i<j))):=xd3 λ_ _ _ _ _ _ _ q=>lt_int q
theorem yb2:OpR X (compareOp .LtE) (rI0 λi j=>.bl (decide (i<=j))):=xd3 λ_ _ _ _ _ _ _ q=>le_int q
theorem yk8:OpR X (compareOp .Gt) (rI0 λi j=>.bl (decide (j<i))):=xd3 λ_ _ _ _ _ _ _ q=>gt_int q
theorem xi0:OpR X (compareOp .GtE) (rI0 λi j=>.bl (decide (j<=i))):=xd3 λ_ _ _ _ _ _ _ q=>ge_int q
theorem xd5:OpR X (compareOp .IsNot) (λx y H Q=>y=.non/\Q (.bl (!decide (x=.non))) H):=by
  intro pins s σ H x y v u Q I rx ry h
  obtain ⟨rfl,q⟩:=h
  cases ry
  refine isnot_none_gen (o5 I q ?_)
  cases x <;> first
    | (cases rx;rfl)
    | (obtain ⟨t,rfl⟩:=rx;rfl)
theorem o7 (b:Expr){op:CmpOp}(h:op≠.In:=by decide)(h2:op≠.NotIn:=by decide):behindInMarks op b=false:=by
  have e1:(op==CmpOp.In)=false:=by cases op <;> first|rfl|exact absurd rfl h
  have e2:(op==CmpOp.NotIn)=false:=by cases op <;> first|rfl|exact absurd rfl h2
  cases b <;> simp [behindInMarks,e1,e2]
theorem A6 {op:CmpOp}{r:R2}(ho:OpR X (compareOp op) r)(ha:PE X a ta)(hb:PE X b tb)(hm:behindInMarks op b=false):PE X (.Compare a [op] [b] pos) (tOp r ta tb):=by
  intro pins s σ H Q I h
  exact wpAny_Compare1 (xj1 ha hb I h λv u s2 x y H2 I2 rx ry q=>ho pins s2 σ H2 x y v u Q I2 rx ry q) hm
def xi5 (t:TE):TT:=λσ H Q=>t σ H λx H'=>∃k,x=.bl k/\Q k H'
theorem p7 {op:CmpOp}{r:R2}(ho:OpR X (compareOp op) r)(ha:PE X a ta)(hb:PE X b tb)(hm:behindInMarks op b=false):PT X (.Compare a [op] [b] pos) (xi5 (tOp r ta tb)):=by
  intro pins s σ H Q I h
  refine wpAny_isTrue_Compare1 (thn (ha pins s σ H _ I h) λv s1 ⟨x,H1,I1,r1,q1⟩=>thn (hb pins s1 σ H1 _ I1 q1) λu s2 ⟨y,H2,I2,r2,q2⟩ =>
    thn (ho pins s2 σ H2 x y v u _ I2 r1 r2 q2) λc s3 ⟨z,H3,I3,r3,k,e,q3⟩=>?_) hm
  subst e
  cases r3
  exact wpAny_truthy_bool ⟨H3,I3,q3⟩
def yy9 (r r':R2)(ta tb tc:TE):TE:=λσ H Q=>ta σ H λx H1=>tb σ H1 λy H2=>r x y H2 λz H3=>∃k,z=.bl k /\
  (if k=true then tc σ H3 λw' H4=>r' y w' H4 Q else Q (.bl false) H3)
theorem yw0 {op op' : CmpOp}{r r' : R2}(ho : OpR X (compareOp op) r)(ho' : OpR X (compareOp op') r')(ha : PE X a ta)(hb : PE X b tb)(hc : PE X c tc)
    (hm:lastMarks [op,op'] [b,c]=false:=by with_unfolding_all rfl):PE X (.Compare a [op,op'] [b,c] pos) (yy9 r r' ta tb tc):=by
  intro pins s σ H Q I h
  refine Compare_chain (thn (ha pins s σ H _ I h) λv s1 ⟨x,H1,I1,r1,q1⟩=>chain_link (thn (hb pins s1 σ H1 _ I1 q1) λu s2 ⟨y,H2,I2,r2,q2⟩ =>
    thn (ho pins s2 σ H2 x y v u _ I2 r1 r2 q2) λd s3 ⟨z,H3,I3,r3,k,e,q3⟩=>?_)) hm
  subst e
  cases r3
  refine wpAny_truthy_bool ?_
  cases k with
  | false=>exact ite_ff ⟨.bl false,H3,I3,rfl,q3⟩
  | true=>exact ite_tt (chain_last (thn (hc pins s3 σ H3 _ I3 q3) λw' s4 ⟨z',H4,I4,r4,q4⟩=>ho' pins s4 σ H4 y z' u w' Q I4 r2 r4 q4))
theorem zl8 {op op' : CmpOp}{r r' : R2}(ho : OpR X (compareOp op) r)(ho' : OpR X (compareOp op') r')(ha : PE X a ta)(hb : PE X b tb)(hc : PE X c tc)
    (hm:lastMarks [op,op'] [b,c]=false:=by with_unfolding_all rfl):PT X (.Compare a [op,op'] [b,c] pos) (xi5 (yy9 r r' ta tb tc)):=by
  intro pins s σ H Q I h
  refine isTrue_chain (thn (ha pins s σ H _ I h) λv s1 ⟨x,H1,I1,r1,q1⟩=>test_link (thn (hb pins s1 σ H1 _ I1 q1) λu s2 ⟨y,H2,I2,r2,q2⟩ =>
    thn (ho pins s2 σ H2 x y v u _ I2 r1 r2 q2) λd s3 ⟨z,H3,I3,r3,k,e,q3⟩=>?_)) hm
  subst e
  cases r3
  refine wpAny_truthy_bool ?_
  cases k with
  | false =>
    obtain ⟨k',e',q'⟩:=q3
    cases e'
    exact ite_ff ⟨H3,I3,q'⟩
  | true =>
    refine ite_tt (test_last (thn (hc pins s3 σ H3 _ I3 q3) λw' s4 ⟨z',H4,I4,r4,q4⟩=>thn (ho' pins s4 σ H4 y z' u w' _ I4 r2 r4 q4) λd' s5 ⟨z2,H5,I5,r5,k2,e2,q5⟩=>?_))
    subst e2
    cases r5
    exact wpAny_truthy_bool ⟨H5,I5,q5⟩
theorem zu7:(sizeLine:Nat)<2 ^ 63:=by rw [sizeLine_eq];decide
theorem L7 {x:V}{us:List Value}(r:t9 [x] us):∃u,us=[u]/\p0 x u:=by
  cases r with
  | cons r1 r2=>cases r2;exact ⟨_,rfl,r1⟩
theorem zs3 {x y:V}{us:List Value}(r:t9 [x,y] us):∃u w',us=[u,w']/\p0 x u/\p0 y w':=by
  cases r with
  | cons r1 r2 =>
    cases r2 with
    | cons r3 r4=>cases r4;exact ⟨_,_,rfl,r1,r3⟩
theorem yn5 (hc:X.calm=true):W1 X (.builtin "min") (λxs H Q=>∃i j,xs=[.int i,.int j]/\Q (.int (if j<i then j else i)) H):=by
  intro pins s σ H xs us Q I r h
  obtain ⟨i,j,rfl,q⟩:=h
  obtain ⟨u,w',rfl,⟨t,rfl⟩,⟨t',rfl⟩⟩:=zs3 r
  refine min_two_ints (I.ok.hd hc) λh' tk k=>⟨_,H,I.kept k,?_,q⟩
  by_cases hj:j<i
  . rw [if_pos hj,if_pos hj];exact ⟨_,rfl⟩
  . rw [if_neg hj,if_neg hj];exact ⟨_,rfl⟩
theorem ze9:W1 X (.builtin "divmod") (λxs H Q=>∃i j,xs=[.int i,.int j]/\xo8 i j/\∀p,H p=none->Q (.ref p) (upd H p (.tup [.int (i / j),.int (i % j)]))):=by
  intro pins s σ H xs us Q I r h
  obtain ⟨i,j,rfl,⟨h1,h2⟩,q⟩:=h
  obtain ⟨u,w',rfl,⟨t,rfl⟩,⟨t',rfl⟩⟩:=zs3 r
  refine divmod_int (by omega) ?_ (.inl (PyProof.noPylong_small (by omega)))
  rw [eN i (by omega),eM i (by omega)]
  have hn:H s.heap.objs.size=none:=I.hok.fresh (ah _)
  refine ⟨.ref s.heap.objs.size,_,?_,rfl,q _ hn⟩
  refine I.laid (λb o e=>al _ e) (ah _) ⟨by simp only [aC,di];rw [sizeLine_eq];decide,[.int (i / j) s.toks,.int (i % j) (s.toks+1)],.cons ⟨_,rfl⟩ (.cons ⟨_,rfl⟩ .nil),?_⟩
  exact ⟨_,aA s.heap rfl,rfl,0,rfl,rfl⟩
end
structure ye2 (h:Heap) (x dx C:Addr) (mA:Str->Option Value):Prop where
  obj:h.get? x=some (W.instObj C dx)
  ns:h.Ns1 dx mA
  ne:dx≠x
theorem yp0 {h:Heap}{dx:Addr}{mA:Str->Option Value}(n:h.Ns1 dx mA):∃od,h.get? dx=some od/\∀name,W.lookIn name od=some (mA name):=by
  obtain ⟨o,es,ep,ho,hd,hk,_,hm⟩:=n
  refine ⟨o,ho,λname=>?_⟩
  have e:=hm name
  unfold nsFind findBy at e
  rw [←Array.find?_toList] at e
  unfold W.lookIn
  rw [hd]
  dsimp only
  split
  . rename_i y q
    rw [q] at e
    exact congrArg some e
  . rename_i q
    rw [q] at e
    have a:es.toList.any (·.refKey)=false:=by
      rw [List.any_eq_false]
      intro y hy
      obtain ⟨z,t,hkey⟩:=hk y (Array.mem_toList_iff.mp hy)
      simp [DictEntry.refKey,hkey]
    have a':¬es.toList.any (·.refKey)=true:=by rw [a];exact aE
    rw [if_neg a']
    exact congrArg some e
theorem ye2.look {h:Heap}{x dx C:Addr}{mA:Str->Option Value}(I:ye2 h x dx C mA):∃od,W.InstAt h x (W.instObj C dx) C (some od)/\∀name,W.lookIn name od=some (mA name) :=
  let ⟨od,ho,hl⟩:=yp0 I.ns
  ⟨od,⟨I.obj,rfl,rfl,ho⟩,hl⟩
section
variable {prog:Program}{w:World}{A:Around}{E:Value->Shared->Prop}{s:Shared}{K:W.Frag}{x dx C f:Addr}{mA:Str->Option Value}{name:Str}{v:Value}
theorem xb9 {expr : Bool}{Q : Value -> Shared -> Prop}(X : K.In s.heap)(I : ye2 s.heap x dx C mA)(hg : W.plainGet K C name = true)(hh : W.hasDictIn K C = true)
    (ha:W.findIn K (.ref C) name=some none) (hv:mA name=some v) (hv':W.handedIn v=true) (h:Q v { s with toks:=s.toks+1 }) :
    wpAny (model prog w) A (getAttr (.ref x) name expr) Q E s:=by
  obtain ⟨od,J,hl⟩:=I.look
  exact W.get_value X J (W.plainGet_of hg).1 (W.findObj_own hh ha rfl (by rw [hl,hv])) hv' h
theorem yt3 {pl : Sem Bool}{Q : Value×List Value -> Shared -> Prop}(X : K.In s.heap)(I : ye2 s.heap x dx C mA)(hg : W.plainGet K C name = true)
    (hf:W.findIn K (.ref C) name=some (some (.ref f))) (ht:W.isFn K (.ref f)=true) (hv:mA name=none) (h:Q (.ref f,[.ref x]) s) :
    wpAny (model prog w) A (getMethod (.ref x) name pl) Q E s:=by
  obtain ⟨od,J,hl⟩:=I.look
  exact W.method_fn X J (W.plainGet_of hg).1 (W.plainGet_of hg).2 hf (beq_iff_eq.mp ht) (by show (W.lookIn name od).map (·.isSome)=some false;rw [hl,hv];rfl) h
theorem xg0 {ns : List Str}{Q : Unit -> Shared -> Prop}(X : K.In s.heap)(I : ye2 s.heap x dx C mA)
    (hs:W.findIn K (.ref C) "__setattr__"=some (some (.builtin "object.__setattr__"))) (hp:W.plainOver K C=true) (ht:W.takerIn K C name=some none) (hh:W.hasDictIn K C=true)
    (hw:PySem.Within mA ns) (hsz:ns.length<=sizeLine)
    (h:∀h',ye2 h' x dx C (λy=>if y=name then some v else mA y)->Heap.SameBut dx s.heap h'->Q () { s with heap:=h',toks:=s.toks+2 }) :
    wpAny (model prog w) A (setAttr (.ref x) name v) Q E s:=by
  obtain ⟨od,J,hl⟩:=I.look
  refine W.set_plain X J hs (W.osa_open (s:={ s with toks:=s.toks+1 }) (r:=none) X J hp ht λb=>?_)
  obtain ⟨cd,hc,hd'⟩:=W.any_some hh
  have hx:s.heap.get? x=some ⟨.ref C,some dx,.plain,#[]⟩:=I.obj
  refine wpAny_bind (wpAny_pure (wpAny_bind (wpAny_bind (wpAny_loadPart hx (wpAny_bind (W.Looks.here (s:={ s with toks:=s.toks+1 }) (W.looks_clsIn X hc) ?_))))))
  rw [hd']
  refine wpAny_pure (a:=some dx) (wpAny_bind (wpAny_pure (wpAny_bind ?_)))
  refine wpAny_nsSet1 (s:={ s with toks:=s.toks+1 }) I.ns λh' hn2 hs2=>?_
  obtain ⟨oD,esD,epD,hoD,hdD,hcD⟩:=hn2.count (PySem.Within.cons name v hw)
  refine wpAny_bind (wpAny_lookBehind hoD (by rw [hdD];exact pastItsLine_dict (aQ hcD (by rw [aC];omega))) ?_)
  exact wpAny_pure (h _ ⟨(hs2.2 _ (Ne.symm I.ne)).trans I.obj,hn2,I.ne⟩ hs2)
theorem ya2 {R : Result -> Shared -> Prop}{vs : List Value}{kw : List (Str×Value)}(X : K.In s.heap)(hm : W.makesIn K C = true)
    (hi:W.findIn K (.ref C) "__init__"=some (some (.ref f))) (hf:W.typeIn K (.ref f)=some (.type "function"))
    (h : codeAny (model prog w) (A.under (.builtin "type.__call__" ⟨.ref C::vs, kw⟩)) (.call (.ref f) ⟨.ref (s.heap.objs.size+1)::vs, kw⟩) (W.InitBack (s.heap.objs.size+1) R)
      { s with heap:=(s.heap.push W.emptyDict).push (W.instObj C s.heap.objs.size) }) :
    codeAny (model prog w) A (.call (.ref C) ⟨vs,kw⟩) R s:=by
  obtain ⟨hh,g,d,t,os⟩:=s
  exact W.make_core (W.makes_of X hm) (W.looks_findIn X hi) (λself=>W.bind_fn X self hf) (.inl rfl) h
end
def Y0 (f : Str)(v : V) : List (Str×V) -> List (Str×V)
  | []=>[(f,v)]
  | (g,x)::r=>if g=f then (g,v)::r else (g,x)::Y0 f v r
theorem zf2 (f g : Str)(v : V) : ∀fs : List (Str×V), (Y0 f v fs).lookup g = if g = f then some v else fs.lookup g
  | []=>by
    show List.lookup g [(f,v)]=_
    by_cases h:g=f
    . have hb : (g==f) = true := beq_iff_eq.mpr h
      simp only [List.lookup,hb,if_pos h]
    . have hb : (g==f) = false := beq_eq_false_iff_ne.mpr h
      simp only [List.lookup,hb,if_neg h]
  | (k,x)::r=>by
    have ih:=zf2 f g v r
    rw [show Y0 f v ((k,x)::r)=(if k=f then (k,v)::r else (k,x)::Y0 f v r) from rfl]
    by_cases hk:k=f
    . rw [if_pos hk]
      by_cases h:g=k
      . have hb : (g==k) = true := beq_iff_eq.mpr h
        simp only [List.lookup,hb,if_pos (h.trans hk)]
      . have hb : (g==k) = false := beq_eq_false_iff_ne.mpr h
        simp only [List.lookup,hb,if_neg (λe:g=f=>h (e.trans hk.symm))]
    . rw [if_neg hk]
      by_cases h:g=k
      . have hb : (g==k) = true := beq_iff_eq.mpr h
        simp only [List.lookup,hb,if_neg (λe:g=f=>hk (h.symm.trans e))]
      . have hb : (g==k) = false := beq_eq_false_iff_ne.mpr h
        simp only [List.lookup,hb]
        exact ih
theorem zc7 (f : Str)(v : V) : ∀fs : List (Str×V), f ∈ (Y0 f v fs).map (·.1) /\ ∀g, g ∈ fs.map (·.1) -> g ∈ (Y0 f v fs).map (·.1)
  | []=>⟨by simp [Y0],λg h=>by simp at h⟩
  | (k,x)::r=>by
    obtain ⟨i1,i2⟩:=zc7 f v r
    rw [show Y0 f v ((k,x)::r)=(if k=f then (k,v)::r else (k,x)::Y0 f v r) from rfl]
    by_cases hk:k=f
    . rw [if_pos hk]
      subst hk
      exact ⟨by simp,λg h=>by simpa using h⟩
    . rw [if_neg hk]
      refine ⟨?_,λg h=>?_⟩
      . rw [aI]
        exact aw _ i1
      . rw [aI] at h ⊢
        rcases aq.mp h with e|e
        . exact aq.mpr (.inl e)
        . exact aw _ (i2 g e)
theorem zf1 (f : Str)(v : V) : ∀fs : List (Str×V), (Y0 f v fs).length <= fs.length+1
  | []=>by simp [Y0]
  | (k,x)::r=>by
    have ih:=zf1 f v r
    rw [show Y0 f v ((k,x)::r)=(if k=f then (k,v)::r else (k,x)::Y0 f v r) from rfl]
    by_cases hk:k=f
    . rw [if_pos hk,aC,aC];omega
    . rw [if_neg hk,aC,aC];omega
theorem E2.some_of {v:V}{o:Option Value}(r:E2 (some v) o):∃u,o=some u/\p0 v u:=by
  cases o with
  | none=>exact (show False from r).elim
  | some u=>exact ⟨u,rfl,r⟩
theorem E2.none_of {o:Option Value}(r:E2 none o):o=none:=by
  cases o with
  | none=>rfl
  | some u=>exact (show False from r).elim
theorem yo2 {v:V}{u:Value}(r:p0 v u):W.handedIn u=true:=by
  cases v with
  | non=>cases (show u=Value.none from r);rfl
  | bl b=>cases (show u=Value.bool b from r);rfl
  | int i=>obtain ⟨t,e⟩:=(show ∃t,u=Value.int i t from r);cases e;rfl
  | str x=>obtain ⟨t,e⟩:=(show ∃t,u=Value.str x t from r);cases e;rfl
  | byt b=>obtain ⟨t,e⟩:=(show ∃t,u=Value.bytes b t from r);cases e;rfl
  | flt b=>obtain ⟨t,e⟩:=(show ∃t,u=Value.float b t from r);cases e;rfl
  | ref a=>cases (show u=Value.ref a from r);rfl
  | ty n=>cases (show u=Value.type n from r);rfl
section
variable {P:Program}{w:World}{H H':Hp}{h h':Heap}{a C dx:Addr}{fs fs':List (Str×V)}
theorem B3 (hok:HOk P w H h)(e:H a=some (.ins C dx fs)):∃mA,ye2 h a dx C mA/\(∀f,E2 (fs.lookup f) (mA f))/\PySem.Within mA (fs.map (·.1))/\fs.length<=1000/\H dx=some (.own a):=by
  obtain ⟨d,z,ne,ob,mA,n,r,q⟩:=(show p9 P w H h a (.ins C dx fs) from hok a _ e)
  exact ⟨mA,⟨ob,n,ne⟩,r,q,z,d⟩
end
structure Cls (K:W.Frag) (C:Addr):Prop where
  pg:W.plainGet K C Str.empty=true
  hd:W.hasDictIn K C=true
  po:W.plainOver K C=true
  sa:W.findIn K (.ref C) "__setattr__"=some (some (.builtin "object.__setattr__"))
theorem Cls.get {K:W.Frag}{C:Addr}(c:Cls K C)(f:Str):W.plainGet K C f=true:=c.pg
def K0 (K:W.Frag)(C:Addr)(f:Str):Prop:=W.findIn K (.ref C) f=some none
theorem K0.taker {K:W.Frag}{C:Addr}{f:Str}(n:K0 K C f):W.takerIn K C f=some none:=by
  unfold W.takerIn
  rw [show W.findIn K (.ref C) f=some none from n]
  rfl
structure yr1 (K:W.Frag) (C:Addr) (m:Str) (f:Addr):Prop where
  at_:W.findIn K (.ref C) m=some (some (.ref f))
  fn:W.isFn K (.ref f)=true
  kp:W.keepIn K (.ref f)=true
section
variable {X:Cx}{pins:List (Addr×Obj)}{σ:St}{H:Hp}{s:Shared}{a C dx:Addr}{fs:List (Str×V)}{f:Str}{v:V}{A:Around}{E:Value->Shared->Prop}
theorem zk0 {b : Bool}{Q : Value -> Shared -> Prop}(I : Inv X pins σ H s)(e : H a = some (.ins C dx fs))(c : Cls X.K C)(n : K0 X.K C f)(l : fs.lookup f = some v)
    (h:∀u s',Inv X pins σ H s'->p0 v u->Q u s'):wpAny (model X.prog X.w) A (getAttr (.ref a) f b) Q E s:=by
  obtain ⟨mA,O,r,_,_,_⟩:=B3 I.hok e
  obtain ⟨u,hu,ru⟩:=E2.some_of (v:=v) (o:=mA f) (by rw [←l];exact r f)
  exact xb9 I.kIn O (c.get f) c.hd n hu (yo2 ru) (h u _ (I.tok _) ru)
theorem zk1 {m : Str}{g : Addr}{pl : Sem Bool}{Q : Value×List Value -> Shared -> Prop}(I : Inv X pins σ H s)(e : H a = some (.ins C dx fs))(c : Cls X.K C)(k : yr1 X.K C m g)(l : fs.lookup m = none)
    (h:Q (.ref g,[.ref a]) s):wpAny (model X.prog X.w) A (getMethod (.ref a) m pl) Q E s:=by
  obtain ⟨mA,O,r,_,_,_⟩:=B3 I.hok e
  have hn:mA m=none:=E2.none_of (by rw [←l];exact r m)
  exact yt3 I.kIn O (c.get m) k.at_ k.fn hn h
theorem zm7 {y : V}{u : Value}{Q : Unit -> Shared -> Prop}(I : Inv X pins σ H s)(e : H a = some (.ins C dx fs))(c : Cls X.K C)(n : K0 X.K C f)(hl : fs.length<1000)(ry : p0 y u)
    (h:∀s',Inv X pins σ (upd H a (.ins C dx (Y0 f y fs))) s'->Q () s'):wpAny (model X.prog X.w) A (setAttr (.ref a) f u) Q E s:=by
  obtain ⟨mA,O,r,wi,_,ho⟩:=B3 I.hok e
  have hz:(fs.map (·.1)).length<=sizeLine:=by rw [ae,sizeLine_eq];omega
  refine xg0 I.kIn O c.sa c.po n.taker c.hd wi hz λh' O' sb=>h _ ?_
  have hd:∃o,h'.get? dx=some o:=let ⟨o,_,_,e',_⟩:=O'.ns;⟨o,e'⟩
  refine I.write (x:=a) (e:=dx) (by rw [e];exact True.intro) (.inr ho) (λb q hb z=>(sb.2 b hb).trans z) hd ?_
  refine ⟨by rw [z6 O.ne];exact ho,?_,O.ne,O'.obj,_,O'.ns,λg=>?_,λg hg=>?_⟩
  . have:=zf1 f y fs;omega
  . show E2 ((Y0 f y fs).lookup g) (if g = f then some u else mA g)
    rw [zf2]
    by_cases q:g=f
    . rw [if_pos q,if_pos q];exact ry
    . rw [if_neg q,if_neg q];exact r g
  . by_cases q : g = f
    . rw [q];exact (zc7 f y fs).1
    . refine (zc7 f y fs).2 g (wi g λz => hg ?_)
      show (if g=f then some u else mA g)=none
      rw [if_neg q];exact z
theorem Inv.made (I : Inv X pins σ H s) : Inv X pins σ (upd (upd H s.heap.objs.size (.own (s.heap.objs.size+1))) (s.heap.objs.size+1) (.ins C s.heap.objs.size []))
    { s with heap:=(s.heap.push W.emptyDict).push (W.instObj C s.heap.objs.size) }:=by
  have e1:(s.heap.push W.emptyDict).get? s.heap.objs.size=some W.emptyDict:=aA s.heap rfl
  have e2:((s.heap.push W.emptyDict).push (W.instObj C s.heap.objs.size)).get? (s.heap.objs.size+1)=some (W.instObj C s.heap.objs.size):=by
    have:=aA (s.heap.push W.emptyDict) (o:=W.instObj C s.heap.objs.size) rfl
    rwa [dF] at this
  have e3:(s.heap.push W.emptyDict).Ns s.heap.objs.size (λ_=>none):=⟨W.emptyDict,#[],_,e1,rfl,(λe he=>absurd he (by simp)),λ_=>rfl⟩
  have I1:=I.laid (a:=s.heap.objs.size) (o:=.own (s.heap.objs.size+1)) (h':=s.heap.push W.emptyDict) (t':=s.toks) (λb u q=>al _ q) (ah _) ⟨_,e1⟩
  refine I1.laid (a:=s.heap.objs.size+1) (o:=.ins C s.heap.objs.size []) (t':=s.toks) (λb u q=>al _ q) (eT (dF _ _)) ?_
  have ne:s.heap.objs.size≠s.heap.objs.size+1:=aO (cZ _)
  refine ⟨by rw [z6 ne,z4],aR _,ne,e2,λ_=>none,(Heap.Ns1.of_empty e3).at λo q=>al _ q,λ_=>True.intro,λy hy=>absurd rfl hy⟩
theorem xa8 {prog : Program}{w : World}{env : Env}{e : Expr}{f : Str}{pos : Pos}{s : Shared}{Q : Value -> Shared -> Prop}(hb : attributeBase e f env (eval e env) = eval e env)
    (h:wpAny (model prog w) A (eval e env) (λo s₁=>wpAny (model prog w) A (getAttr o f true) Q E s₁) E s):wpAny (model prog w) A (eval (.Attribute e f pos) env) Q E s :=
  Attribute_any_ h (by rw [arm_eval_Attribute,hb])
end
def xv1 (K:W.Frag)(ta:TE)(f:Str):TE:=λσ H Q=>ta σ H λx H1=>∃a C dx fs v,x=.ref a/\H1 a=some (.ins C dx fs)/\Cls K C/\K0 K C f/\fs.lookup f=some v/\Q v H1
def xu8 (K:W.Frag)(ta tv:TE)(f:Str):TS:=λD σ H=>tv σ H λy H1=>ta σ H1 λx H2=>∃a C dx fs,x=.ref a/\H2 a=some (.ins C dx fs)/\Cls K C/\K0 K C f/\fs.length<1000 /\
  D.nx σ (upd H2 a (.ins C dx (Y0 f y fs)))
def xt1 (X:Cx)(op:Operator)(rd:V->V->Hp->VK->Prop):Prop :=
  ∀(pins:List (Addr×Obj)) (s:Shared) (σ:St) (H:Hp) (x y:V) (u v:Value) (Q:VK),Inv X pins σ H s->p0 x u->p0 y v->rd x y H Q->wpAny (model X.prog X.w) X.A (inplaceOp op u v) (EP X pins σ Q) X.xe s
def xf8 (K:W.Frag)(ta tv:TE)(rd:V->V->Hp->VK->Prop)(f:Str):TS:=λD σ H=>ta σ H λx H1=>∃a C dx fs v,x=.ref a/\H1 a=some (.ins C dx fs)/\Cls K C/\K0 K C f/\fs.lookup f=some v /\
  tv σ H1 λy H2=>rd v y H2 λz H3=>∃dx' fs',H3 a=some (.ins C dx' fs')/\fs'.length<1000/\D.nx σ (upd H3 a (.ins C dx' (Y0 f z fs')))
section
variable {X:Cx}{o e value:Expr}{f:Str}{pos pos' tpos:Pos}{ta tv:TE}
theorem w8 (he:PE X e ta)(hb:attributeBase e f X.env (eval e X.env)=eval e X.env):PE X (.Attribute e f pos) (xv1 X.K ta f):=by
  intro pins s σ H Q I h
  refine xa8 hb (thn (he pins s σ H _ I h) λu s1 ⟨x,H1,I1,rx,a,C,dx,fs,v,ex,ea,c,n,l,q⟩=>?_)
  subst ex
  obtain rfl:u=Value.ref a:=rx
  exact zk0 I1 ea c n l λu' s2 I2 ru=>⟨v,H1,I2,ru,q⟩
theorem d6 (ha:PE X o ta)(hv:PE X value tv)(hs:swapsWith value (some (.Attribute o f pos')) pos.line X.env=pure false):PS X (.Assign [.Attribute o f pos'] value pos) (xu8 X.K ta tv f):=by
  intro pins s σ H D I h
  refine plainObj_wpAny_Assign_Attribute (thn (hv pins s σ H _ I h) λu s1 ⟨y,H1,I1,ry,q⟩=>thn (ha pins s1 σ H1 _ I1 q) λov s2 ⟨x,H2,I2,rx,a,C,dx,fs,ex,ea,c,n,l,q2⟩=>?_) hs
  subst ex
  obtain rfl:ov=Value.ref a:=rx
  exact zm7 I2 ea c n l ry λs3 I3=>⟨σ,_,I3,q2⟩
theorem yp4 {op:Operator}{rd:V->V->Hp->VK->Prop}(ha:PE X o ta)(hv:PE X value tv)(hop:xt1 X op rd):PS X (.AugAssign (.Attribute o f tpos) op value pos) (xf8 X.K ta tv rd f):=by
  intro pins s σ H D I h
  refine wpAny_AugAssign_AttributeAny (thn (ha pins s σ H _ I h) λov s1 ⟨x,H1,I1,rx,a,C,dx,fs,v,ex,ea,c,n,l,q⟩=>?_)
  subst ex
  obtain rfl:ov=Value.ref a:=rx
  refine zk0 I1 ea c n l λu s2 I2 ru=>thn (hv pins s2 σ H1 _ I2 q) λw3 s3 ⟨y,H2,I3,ry,q3⟩=>thn (hop pins s3 σ H2 v y u w3 _ I3 ru ry q3) λw4 s4 ⟨z,H3,I4,rz,dx',fs',ea',l',q4⟩=>?_
  exact zm7 I4 ea' c n l' rz λs5 I5=>⟨σ,_,I5,q4⟩
end
section
variable {X:Cx}{pins:List (Addr×Obj)}{σ:St}{H:Hp}{s:Shared}{A:Around}{E:Value->Shared->Prop}{Q:Value->Shared->Prop}{c:Value}{b:Bool}
inductive N6 (K:W.Frag) (H:Hp):V->Value->Prop where
  | non:N6 K H .non (.type "NoneType")
  | bl (x:Bool):N6 K H (.bl x) (.type "bool")
  | int (i:Int):N6 K H (.int i) (.type "int")
  | str (x:Str):N6 K H (.str x) (.type "str")
  | flt (x:UInt64):N6 K H (.flt x) (.type "float")
  | lst {a:Addr} {xs:List V} (e:H a=some (.lst xs)):N6 K H (.ref a) (.type "list")
  | frz {a:Addr} {o:Obj} {xs:List V} (e:H a=some (.frz o (.lst xs))):N6 K H (.ref a) (.type "list")
  | tup {a:Addr} {xs:List V} (e:H a=some (.tup xs)):N6 K H (.ref a) (.type "tuple")
  | dK {a:Addr} {kvs:List (Key×V)} (e:H a=some (.dK kvs)):N6 K H (.ref a) (.type "dict")
  | dT {a:Addr} {kvs:List (List Key×V)} (e:H a=some (.dT kvs)):N6 K H (.ref a) (.type "dict")
  | ins {a C dx : Addr} {fs : List (Str×V)} (e : H a = some (.ins C dx fs)) (cl : Cls K C) (ha : W.findIn K (.ref C) "__class__" = some (some (.builtin "object.__class__")))
      (hn:W.specialIn K (.builtin "object.__class__") "__get__"=some (some (.builtin "getset_descriptor.__get__"))) (htk:W.takesIn K (.builtin "object.__class__")=some true)
      (hm:W.mroIn K C (.type "object")=some true):N6 K H (.ref a) (.ref C)
theorem yo5 {x : V}{u t : Value}(I : Inv X pins σ H s)(rx : p0 x u)(ty : N6 X.K H x t)(e : W.kitOne X.K t c = some b)(h : ∀tk, Q (.bool b) { s with toks := tk }) :
    wpAny (model X.prog X.w) A (call (.builtin "isinstance") [u,c]) Q E s:=by
  cases ty with
  | non=>cases (show u=Value.none from rx);exact W.kia_one W.kitx_none I.kIn True.intro e (λz=>nomatch z) h
  | bl y=>cases (show u=Value.bool y from rx);exact W.kia_one W.kitx_bool I.kIn True.intro e (λz=>nomatch z) h
  | int i=>obtain ⟨t,q⟩:=(show ∃t,u=Value.int i t from rx);cases q;exact W.kia_one W.kitx_int I.kIn True.intro e (λz=>nomatch z) h
  | str y=>obtain ⟨t,q⟩:=(show ∃t,u=Value.str y t from rx);cases q;exact W.kia_one W.kitx_str I.kIn True.intro e (λz=>nomatch z) h
  | flt y=>obtain ⟨t,q⟩:=(show ∃t,u=Value.float y t from rx);cases q;exact W.kia_one W.kitx_float I.kIn True.intro e (λz=>nomatch z) h
  | @lst a xs ea =>
    cases (show u=Value.ref a from rx)
    obtain ⟨_,_,n,_,h1⟩:=(show p9 X.prog X.w H s.heap a (.lst xs) from I.hok a _ ea)
    exact W.kia_one W.kitx_list I.kIn ⟨_,h1,rfl⟩ e (λz=>nomatch z) h
  | @frz a ob xs ea =>
    cases (show u=Value.ref a from rx)
    obtain ⟨_,_,_,n,_,h1⟩:=(show p9 X.prog X.w H s.heap a (.frz ob (.lst xs)) from I.hok a _ ea)
    exact W.kia_one W.kitx_list I.kIn ⟨_,h1,rfl⟩ e (λz=>nomatch z) h
  | @tup a xs ea =>
    cases (show u=Value.ref a from rx)
    obtain ⟨_,_,_,p⟩:=(show p9 X.prog X.w H s.heap a (.tup xs) from I.hok a _ ea)
    obtain ⟨o,h1,h2,_⟩:=p
    exact W.kia_one W.kitx_tuple I.kIn ⟨o,h1,h2⟩ e (λz=>nomatch z) h
  | @dK a kvs ea =>
    cases (show u=Value.ref a from rx)
    obtain ⟨_,_,vs,_,p⟩:=(show p9 X.prog X.w H s.heap a (.dK kvs) from I.hok a _ ea)
    obtain ⟨o,es,ep,h1,h2,_⟩:=p
    exact W.kia_one W.kitx_dict I.kIn ⟨o,h1,h2.1⟩ e (λz=>nomatch z) h
  | @dT a kvs ea =>
    cases (show u=Value.ref a from rx)
    obtain ⟨_,_,xs,_,o,es,ep,h1,h2,_⟩:=(show p9 X.prog X.w H s.heap a (.dT kvs) from I.hok a _ ea)
    exact W.kia_one W.kitx_dict I.kIn ⟨o,h1,h2.1⟩ e (λz=>nomatch z) h
  | @ins a C dx fs ea cl ha hn htk hm =>
    cases (show u=Value.ref a from rx)
    obtain ⟨mA,O,_⟩:=B3 I.hok ea
    obtain ⟨od,J,_⟩:=O.look
    exact W.kia_one (W.kitx_own (cl.get _) cl.hd ha hn htk hm) I.kIn J e (λz=>nomatch z) h
end
structure c4 (k:Nat) (A:Around):Prop where
  hd:A.handled=none
  dp:A.depth+3*k+5<recursionLimit
  un:A.units+16*k+200<cLine
theorem c4.mono {j k:Nat}{A:Around}(r:c4 k A)(h:j<=k):c4 j A:=⟨r.hd,by have:=r.dp;omega,by have:=r.un;omega⟩
theorem c4.deeper {k:Nat}{A:Around}(r:c4 (k+1) A)(env:Env):c4 k (A.deeper env) :=
  ⟨r.hd,by have:=r.dp;show A.depth+1+3*k+5<_;omega,by have:=r.un;show A.units+3+16*k+200<_;omega⟩
theorem yg1 {A:Around}{C:Addr}{us:List Value}{kw:List (Str×Value)}:(A.under (.builtin "type.__call__" ⟨.ref C::us,kw⟩)).depth=A.depth+1:=by
  first|rfl|simp [Around.under,Code.weight,Code.isCreation,Code.isGuard,Code.isCaller,Code.frames,Code.isFrame,guardIds]
theorem yg2 {A:Around}{C:Addr}{us:List Value}{kw:List (Str×Value)}:(A.under (.builtin "type.__call__" ⟨.ref C::us,kw⟩)).units=A.units+1:=by
  first|rfl|simp [Around.under,Code.cUnits,Code.frames,Code.isFrame]
theorem c4.make {k:Nat}{A:Around}(r:c4 (k+1) A)(C:Addr)(us:List Value)(kw:List (Str×Value)):c4 k (A.under (.builtin "type.__call__" ⟨.ref C::us,kw⟩)) :=
  ⟨r.hd,by have:=r.dp;rw [yg1];omega,by have:=r.un;rw [yg2];omega⟩
theorem c4.depth {k:Nat}{A:Around}(r:c4 k A):A.depth<recursionLimit:=by have:=r.dp;omega
theorem c4.units {k:Nat}{A:Around}(r:c4 k A):A.units+64<cLine:=by have:=r.un;omega
def yq2:TA:=λ_ H Q=>Q [] H
def E7 (ta:TE)(tr:TA):TA:=λσ H Q=>ta σ H λx H1=>tr σ H1 λxs H2=>Q (x::xs) H2
section
variable {X:Cx}{e:Expr}{es:List Expr}{te:TE}{t:TA}{pos:Pos}
theorem z5:PA X [] yq2:=λ_ _ _ _ H Q I h=>Calls.spliced_nil ⟨[],H,I,.nil,h⟩
theorem z0 (ha:PE X e te)(hr:PA X es t)(hs:starEach (e::es) X.env=(false,eval e X.env)::starEach es X.env:=by rfl):PA X (e::es) (E7 te t):=by
  intro pos pins s σ H Q I h
  rw [hs]
  show wpAny _ _ (spliced ((false,eval e X.env)::backTo pos (starEach es X.env))) _ _ s
  refine Calls.spliced_cons (thn (ha pins s σ H _ I h) λu s1 ⟨x,H1,I1,r1,q1⟩=>?_)
  exact thn (hr pos pins s1 σ H1 _ I1 q1) λus s2 ⟨xs,H2,I2,r2,q2⟩=>⟨x::xs,H2,I2,.cons r1 r2,q2⟩
def xv5 (t:TA):TE:=λσ H Q=>t σ H λxs H1=>xs.length<=sizeLine/\∀p,H1 p=none->Q (.ref p) (upd H1 p (.tup xs))
def xs6 (t:TA):TE:=λσ H Q=>t σ H λxs H1=>xs.length<=sizeLine/\∀p,H1 p=none->Q (.ref p) (upd H1 p (.lst xs))
theorem Q1 {x1}(h:PA X es t):PE X (.Tuple es x1 pos) (xv5 t):=by
  intro pins s σ H Q I hq
  refine wpAny_Tuple_spliced (thn (h pos pins s σ H _ I hq) λus s1 ⟨xs,H1,I1,r,z,q⟩=>⟨by rw [←r.length];exact z,?_⟩)
  have hf:H1 s1.heap.objs.size=none:=I1.hok.fresh (ah _)
  refine ⟨.ref s1.heap.objs.size,upd H1 s1.heap.objs.size (.tup xs),I1.laid (t':=s1.toks) (λb u e=>al _ e) (ah _) ?_,rfl,q _ hf⟩
  exact ⟨z,us,r,⟨_,aA _ rfl,rfl,_,rfl,rfl⟩⟩
theorem l7 (h:PA X es t):PE X (.List es pos) (xs6 t):=by
  intro pins s σ H Q I hq
  refine wpAny_List_spliced (thn (h pos pins s σ H _ I hq) λus s1 ⟨xs,H1,I1,r,z,q⟩=>⟨by rw [←r.length];exact z,?_⟩)
  have hf:H1 s1.heap.objs.size=none:=I1.hok.fresh (ah _)
  refine ⟨.ref s1.heap.objs.size,upd H1 s1.heap.objs.size (.lst xs),I1.laid (t':=s1.toks) (λb u e=>al _ e) (ah _) ?_,rfl,q _ hf⟩
  exact ⟨z,us,0,r,aA _ rfl⟩
end
abbrev Sp:=List V->Hp->VK->XK->Prop
abbrev CXT:=List Env->Hp->Shared->XK->Value->Shared->Prop
structure yd8 (P:Program) (w:World) (K:W.Frag) (mg:Str->Option Value) (base:Heap) (A:Around) (outer:List Env) (s:Shared) (H:Hp):Prop where
  frames:A.frames=some outer
  mod:Mod K mg base
  bs:∀b o,base.get? b=some o->s.heap.get? b=some o/\H b=none
  bsz:base.objs.size<=s.heap.objs.size
  funs:s.heap.FunFrames base outer
  frf:∀b∈frs outer,H b=none
  hok:HOk P w H s.heap
  bare:AllBare s.gens
def CE (outer:List Env)(P:Program)(w:World)(H:Hp)(s:Shared)(Q:VK)(u:Value)(s':Shared):Prop :=
  ∃v H',s'.os=s.os/\AllBare s'.gens/\Un (frs outer) [] H H' s.heap s'.heap/\HOk P w H' s'.heap/\p0 v u/\Q v H'
def CR (CX:CXT)(outer:List Env)(P:Program)(w:World)(H:Hp)(s:Shared)(Q:VK)(E:XK)(r:Result)(s':Shared):Prop :=
  match r with
  | .ok (.ret u)=>CE outer P w H s Q u s'
  | .ok _=>False
  | .error e=>CX outer H s E e s'
structure u6 (P:Program) (w:World) (K:W.Frag) (mg:Str->Option Value) (base:Heap) (CX:CXT) (k:Nat) (f:Addr) (fd:FuncData) (ps:List Str) (sp:Sp):Prop where
  len:∀vs H Q E,sp vs H Q E->vs.length=ps.length
  run:∀(A:Around) (outer:List Env) (s:Shared) (H:Hp) (args:Args) (us:List Value) (vs:List V) (Q:VK) (E:XK),c4 k A->yd8 P w K mg base A outer s H->BindsTo s fd args (ps.zip us)->t9 vs us->sp vs H Q E ->
    codeAny (model P w) A (.call (.ref f) args) (CR CX outer P w H s Q E) s
theorem u6.mono {P : Program}{w : World}{K : W.Frag}{mg : Str -> Option Value}{base : Heap}{CX : CXT}{j k : Nat}{f : Addr}{fd : FuncData}{ps : List Str}{sp : Sp}(F : u6 P w K mg base CX j f fd ps sp)(h : j <= k) :
    u6 P w K mg base CX k f fd ps sp:=⟨F.len,λA outer s H args us vs Q E hr=>F.run A outer s H args us vs Q E (hr.mono h)⟩
theorem u6.imp {P : Program}{w : World}{K : W.Frag}{mg : Str -> Option Value}{base : Heap}{CX : CXT}{k : Nat}{f : Addr}{fd : FuncData}{ps : List Str}{sp sp' : Sp}(F : u6 P w K mg base CX k f fd ps sp)
    (h:∀vs H Q E,sp' vs H Q E->sp vs H Q E):u6 P w K mg base CX k f fd ps sp' :=
  ⟨λvs H Q E q=>F.len vs H Q E (h _ _ _ _ q),λA outer s H args us vs Q E hr he hb hv hs=>F.run A outer s H args us vs Q E hr he hb hv (h _ _ _ _ hs)⟩
theorem yd8.make {P : Program}{w : World}{K : W.Frag}{mg : Str -> Option Value}{base : Heap}{A : Around}{outer : List Env}{s : Shared}{H : Hp}(e : yd8 P w K mg base A outer s H)(C : Addr)(us : List Value)(kw : List (Str×Value)) :
    yd8 P w K mg base (A.under (.builtin "type.__call__" ⟨.ref C::us,kw⟩)) outer s H:=⟨by first|exact e.frames|(simpa [Around.under,Code.envs,Code.isFrame,pushEnvs] using e.frames),e.mod,e.bs,e.bsz,e.funs,e.frf,e.hok,e.bare⟩
section
variable {X:Cx}{pins:List (Addr×Obj)}{σ:St}{H:Hp}{s s':Shared}
theorem Inv.env0 (I:Inv X pins σ H s):yd8 X.prog X.w X.K X.mg X.base X.A X.stack s H :=
  ⟨I.ok.frames,I.ok.mod,I.bs,aQ I.ok.bsz I.sz,I.stack,I.stkFree,I.hok,I.bare⟩
theorem Inv.after {Q:VK}{u:Value}(I:Inv X pins σ H s)(h:CE X.stack X.prog X.w H s Q u s'):EP X pins σ Q u s':=by
  obtain ⟨v,H',os,bare,un,hok,r,q⟩:=h
  obtain ⟨hh,g,d,t,os'⟩:=s'
  obtain rfl:os'=s.os:=os
  exact ⟨v,H',I.call (h':=hh) (g':=g) (d':=d) (t':=t) (ch:=[]) un hok bare (λb z=>absurd z (by simp)),r,q⟩
end
def ym8 (sp:Sp)(dvs:List V)(E:XK)(t:TA):TE:=λσ H Q=>t σ H λvs H1=>sp (vs++dvs) H1 Q E
def yd4 (C:Addr)(m:Str)(sp:Sp)(dvs:List V)(E:XK)(ta:TE)(t:TA):TE:=λσ H Q=>ta σ H λx H1=>∃a dx fs,x=.ref a/\H1 a=some (.ins C dx fs)/\fs.lookup m=none /\
  t σ H1 λvs H2=>sp (x::(vs++dvs)) H2 Q E
def yz1 (C:Addr)(sp:Sp)(dvs:List V)(E:XK)(t:TA):TE:=λσ H Q=>t σ H λvs H1=>∀x dx,H1 x=none->H1 dx=none->dx≠x ->
  sp (.ref x::(vs++dvs)) (upd (upd H1 dx (.own x)) x (.ins C dx [])) (λv H2=>v=.non/\Q (.ref x) H2) E
def V6 (K:W.Frag)(fd:FuncData)(ps:List Str)(ds:List Value):Prop :=
  ∀(s:Shared) (us:List Value),K.In s.heap->(us++ds).length=ps.length->BindsTo s fd ⟨us,[]⟩ (ps.zip (us++ds))
theorem V6.all {K:W.Frag}{fd:FuncData}{ps:List Str}(h:∀us:List Value,us.length=ps.length->bindArgs fd ⟨us,[]⟩=pure (ps.zip us)):V6 K fd ps []:=λs us _ hl=>by
  rw [bu] at hl ⊢
  exact .of_eq (h us hl)
def P3 (CX:CXT)(X:Cx)(E:XK):Prop:=∀(pins:List (Addr×Obj)) (σ:St) (H:Hp) (s:Shared) (e:Value) (s':Shared),Inv X pins σ H s->CX X.stack H s E e s'->X.xe e s'
section
variable {X:Cx}{CX:CXT}{k:Nat}{f C:Addr}{fd:FuncData}{ps:List Str}{sp:Sp}{dvs:List V}{ds:List Value}{E:XK}{x m:Str}{p pos apos:Pos}{e o:Expr}{es:List Expr}{ta:TE}{t:TA}
theorem yh1 {pins : List (Addr×Obj)}{σ : St}{H : Hp}{s : Shared}{Q : VK}{us : List Value}{vs : List V}(F : u6 X.prog X.w X.K X.mg X.base CX k f fd ps sp)(hr : c4 k X.A)(hb : V6 X.K fd ps ds)(hd : t9 dvs ds)(hx : P3 CX X E)
    (I:Inv X pins σ H s) (r:t9 vs us) (h:sp (vs++dvs) H Q E):wpAny (model X.prog X.w) X.A (call (.ref f) us) (EP X pins σ Q) X.xe s:=by
  have r2:t9 (vs++dvs) (us++ds):=r.append hd
  have hl:(us++ds).length=ps.length:=by rw [←r2.length];exact F.len _ _ _ _ h
  refine wpAny_call (codeAny_mono (F.run X.A X.stack s H ⟨us,[]⟩ (us++ds) (vs++dvs) Q E hr I.env0 (hb s us I.kIn hl) r2 h) λr s' hq=>?_)
  cases r with
  | error e=>exact hx pins σ H s e s' I hq
  | ok fl =>
    cases fl with
    | ret u=>exact I.after hq
    | next=>exact False.elim hq
    | brk=>exact False.elim hq
    | cont=>exact False.elim hq
theorem yl3 (F : u6 X.prog X.w X.K X.mg X.base CX k f fd ps sp)(hr : c4 k X.A)(hg : Gl X x)(hm : X.mg x = some (.ref f))(hk : W.keepIn X.K (.ref f) = true)(hb : V6 X.K fd ps ds)(hd : t9 dvs ds)(hx : P3 CX X E)
    (ha:PA X (e::es) t) (hdb:(x==("__debug__":Str))=false:=by decide) (he:starEach (e::es) X.env=(false,eval e X.env)::starEach es X.env:=by rfl) (hpl:(backTo pos (starEach es X.env)).any (·.1)=false:=by rfl) :
    PE X (.Call (.Name x p) (e::es) [] pos) (ym8 sp dvs E t):=by
  intro pins s σ H Q I h
  refine wpAny_Call_Name_kw (N9 I hg hm ?_ hdb)
  refine W.callWith_K (h₀:=X.base) I.ok.mod.kin hk (thn (ha pos pins s σ H _ I h) λus s1 ⟨vs,H1,I1,r,q⟩=>⟨I1.kIn,?_⟩) he hpl
  exact yh1 F hr hb hd hx I1 r q
theorem yl6 {pl : Sem Bool}(he : PE X o ta)(c : Cls X.K C)(hm : yr1 X.K C m f)(F : u6 X.prog X.w X.K X.mg X.base CX k f fd ps sp)(hr : c4 k X.A)(hb : V6 X.K fd ps ds)(hd : t9 dvs ds)(hx : P3 CX X E)(ha : PA X (e::es) t)
    (hst:starEach (e::es) X.env=(false,eval e X.env)::starEach es X.env:=by rfl) (hpl:(backTo pos (starEach es X.env)).any (·.1)=false:=by rfl)
    (ht : eval (.Call (.Attribute o m apos) (e::es) [] pos) X.env = (do
      let ov ←eval o X.env
      standAt apos.atName
      let (f,first) ←holding [ov] (getMethod ov m pl)
      callWith pos f first (backTo pos (starEach (e::es) X.env)) (backToKw pos (keywordEach [] X.env))):=by rfl) :
    PE X (.Call (.Attribute o m apos) (e::es) [] pos) (yd4 C m sp dvs E ta t):=by
  intro pins s σ H Q I h
  refine W.methodCall_KW (pl:=pl) (thn (he pins s σ H _ I h) λu s1 ⟨x,H1,I1,rx,a,dx,fs,ex,ea,l,q⟩=>?_) ht
  subst ex
  obtain rfl:u=Value.ref a:=rx
  refine zk1 I1 ea c hm l ?_
  refine W.callWith_K (first:=[.ref a]) (h₀:=X.base) I.ok.mod.kin hm.kp (thn (ha pos pins s1 σ H1 _ I1 q) λus s2 ⟨vs,H2,I2,r,q2⟩=>⟨I2.kIn,?_⟩) hst hpl
  exact yh1 (us:=.ref a::us) (vs:=.ref a::vs) F hr hb hd hx I2 (.cons rfl r) q2
theorem yw2 {pl : Sem Bool}(he : PE X o ta)(c : Cls X.K C)(hm : yr1 X.K C m f)(F : u6 X.prog X.w X.K X.mg X.base CX k f fd ps sp)(hr : c4 k X.A)(hb : V6 X.K fd ps ds)(hd : t9 dvs ds)(hx : P3 CX X E)
    (ht : eval (.Call (.Attribute o m apos) [] [] pos) X.env = (do
      let ov ←eval o X.env
      standAt apos.atName
      let (f,first) ←holding [ov] (getMethod ov m pl)
      callWith pos f first (backTo pos (starEach [] X.env)) (backToKw pos (keywordEach [] X.env))):=by rfl) :
    PE X (.Call (.Attribute o m apos) [] [] pos) (yd4 C m sp dvs E ta yq2):=by
  intro pins s σ H Q I h
  refine W.methodCall_KW (pl:=pl) (thn (he pins s σ H _ I h) λu s1 ⟨x,H1,I1,rx,a,dx,fs,ex,ea,l,q⟩=>?_) ht
  subst ex
  obtain rfl:u=Value.ref a:=rx
  refine zk1 I1 ea c hm l ?_
  exact W.callWith_K0 (first:=[.ref a]) I1.kIn hm.kp (yh1 (us:=[.ref a]) (vs:=[.ref a]) F hr hb hd hx I1 (.cons rfl .nil) q)
structure Mk (K:W.Frag) (C f:Addr):Prop where
  makes:W.makesIn K C=true
  init:W.findIn K (.ref C) "__init__"=some (some (.ref f))
  fn:W.isFn K (.ref f)=true
  kp:W.keepIn K (.ref C)=true
theorem yx3 {pins : List (Addr×Obj)}{σ : St}{H : Hp}{s : Shared}{Q : VK}{us : List Value}{vs : List V}(M : Mk X.K C f)(F : u6 X.prog X.w X.K X.mg X.base CX k f fd ps sp)(hr : c4 (k+1) X.A)(hb : V6 X.K fd ps ds)(hd : t9 dvs ds)
    (hx:P3 CX X E) (I:Inv X pins σ H s) (r:t9 vs us)
    (h:∀x dx,H x=none->H dx=none->dx≠x->sp (.ref x::(vs++dvs)) (upd (upd H dx (.own x)) x (.ins C dx [])) (λv H2=>v=.non/\Q (.ref x) H2) E) :
    wpAny (model X.prog X.w) X.A (call (.ref C) us) (EP X pins σ Q) X.xe s:=by
  have hq:=h (s.heap.objs.size+1) s.heap.objs.size (I.hok.fresh (bX _)) (I.hok.fresh (ah _)) (aO (cZ _))
  have I2:=Inv.made (C:=C) I
  have r2:t9 (V.ref (s.heap.objs.size+1)::(vs++dvs)) (Value.ref (s.heap.objs.size+1)::(us++ds)):=.cons rfl (r.append hd)
  have hl:(Value.ref (s.heap.objs.size+1)::us++ds).length=ps.length:=by
    have e:=r2.length
    rw [F.len _ _ _ _ hq] at e
    exact e.symm
  refine wpAny_call (ya2 (f := f) I.kIn M.makes M.init (beq_iff_eq.mp M.fn) (codeAny_mono (F.run _ X.stack _ _ ⟨Value.ref (s.heap.objs.size+1)::us, []⟩ (Value.ref (s.heap.objs.size+1)::(us ++ ds)) _ _ E (hr.make C us [])
    (I2.env0.make C us []) (hb _ (Value.ref (s.heap.objs.size+1)::us) I2.kIn hl) r2 hq) λr s' hq'=>?_))
  cases r with
  | error e=>exact hx pins σ _ _ e s' I2 hq'
  | ok fl =>
    cases fl with
    | ret u =>
      obtain ⟨v,H',I3,rv,ev,q3⟩:=I2.after hq'
      subst ev
      exact ⟨rv,⟨V.ref (s.heap.objs.size+1),H',I3,rfl,q3⟩⟩
    | next=>exact False.elim hq'
    | brk=>exact False.elim hq'
    | cont=>exact False.elim hq'
theorem yl5 (M : Mk X.K C f)(F : u6 X.prog X.w X.K X.mg X.base CX k f fd ps sp)(hr : c4 (k+1) X.A)(hg : Gl X x)(hm : X.mg x = some (.ref C))(hb : V6 X.K fd ps ds)(hd : t9 dvs ds)(hx : P3 CX X E)
    (ha:PA X (e::es) t) (hdb:(x==("__debug__":Str))=false:=by decide) (he:starEach (e::es) X.env=(false,eval e X.env)::starEach es X.env:=by rfl) (hpl:(backTo pos (starEach es X.env)).any (·.1)=false:=by rfl) :
    PE X (.Call (.Name x p) (e::es) [] pos) (yz1 C sp dvs E t):=by
  intro pins s σ H Q I h
  refine wpAny_Call_Name_kw (N9 I hg hm ?_ hdb)
  refine W.callWith_K (h₀:=X.base) I.ok.mod.kin M.kp (thn (ha pos pins s σ H _ I h) λus s1 ⟨vs,H1,I1,r,q⟩=>⟨I1.kIn,?_⟩) he hpl
  exact yx3 M F hr hb hd hx I1 r q
end
def PK (X:Cx)(kws:List Keyword)(t:TA):Prop :=
  ∀(pos:Pos) (pins:List (Addr×Obj)) (s:Shared) (σ:St) (H:Hp) (Q:List V->Hp->Prop),Inv X pins σ H s->t σ H Q->wpAny (model X.prog X.w) X.A (evalAll ((backToKw pos (keywordEach kws X.env)).map (·.2))) (AP X pins σ Q) X.xe s
section
variable {X:Cx}{CX:CXT}{k:Nat}{f C:Addr}{fd:FuncData}{ps ks:List Str}{sp:Sp}{E:XK}{x m:Str}{p pos apos kpos:Pos}{e o:Expr}{es:List Expr}{kws:List Keyword}{te ta:TE}{t tk:TA}{nm:Option Str}
theorem xm5:PK X [] yq2:=λ_ _ _ _ H Q I h=>wpAny_evalAll_nil ⟨[],H,I,.nil,h⟩
theorem xd9 (ha:PE X e te)(hr:PK X kws t):PK X (⟨nm,e,kpos⟩::kws) (E7 te t):=by
  intro pos pins s σ H Q I h
  show wpAny _ _ (evalAll ((do let v ←eval e X.env;standAt pos;pure v)::(backToKw pos (keywordEach kws X.env)).map (·.2))) _ _ s
  refine wpAny_evalAll_cons (wpAny_bind (thn (ha pins s σ H _ I h) λu s1 ⟨x,H1,I1,r1,q1⟩=>wpAny_bind (wpAny_standAt (wpAny_pure ?_))))
  exact thn (hr pos pins s1 σ H1 _ I1 q1) λus s2 ⟨xs,H2,I2,r2,q2⟩=>⟨x::xs,H2,I2,.cons r1 r2,q2⟩
variable {g:List Value->List Value->List Value}{gV:List V->List V->List V}
end
structure x9 (N P:List Str) (sc:Scope):Prop where
  kind:sc.kind=.function
  co:sc.isCoroutine=false
  gen:sc.isGenerator=false
  nd:N.Nodup
  pre:N.take P.length=P
  par:∀x∈P,sc.names.lookup x=some .local∨sc.names.lookup x=some .cell
  nofree:∀y∈sc.names,y.2≠.free
theorem zq7 {kindOf : Str -> Option NameKind}{x : Str} : ∀{binds : List (Str×Value)} {m : Str -> Option Value}, (∀v, (x, v) ∉ binds) -> bindL kindOf binds m x = m x
  | [],_,_=>rfl
  | (n,v)::r,m,h=>by
    unfold bindL
    rw [zq7 λw hw=>h w (aw _ hw)]
    split
    . have : x ≠ n := by rintro rfl; exact h v ay
      simp [this]
    . rfl
theorem zq5 {kindOf : Str -> Option NameKind}{x : Str} : ∀{binds : List (Str×Value)} {m : Str -> Option Value}, (∀v, (x, v) ∉ binds) -> bindC kindOf binds m x = m x
  | [],_,_=>rfl
  | (n,v)::r,m,h=>by
    unfold bindC
    rw [zq5 λw hw=>h w (aw _ hw)]
    split
    . rfl
    . have : x ≠ n := by rintro rfl; exact h v ay
      simp [this]
theorem zq6 {kindOf:Str->Option NameKind}{x:Str}{v:Value}:∀{P:List Str} {vs:List Value} {i:Nat} {m:Str->Option Value},P.Nodup->P[i]?=some x->vs[i]?=some v->kindOf x=some .local ->
    bindL kindOf (P.zip vs) m x=some v
  | [],_,_,_,_,h,_,_=>by simp at h
  | _::_,[],_,_,_,_,h,_=>by simp at h
  | p::P,w::vs,0,m,nd,h1,h2,hk=>by
    simp at h1 h2;subst h1;subst h2
    show bindL kindOf ((p,w)::P.zip vs) m p=_
    unfold bindL
    rw [zq7 λv hv=>(aZ.mp nd).1 (dW hv).1,if_pos hk]
    simp
  | p::P,w::vs,i+1,m,nd,h1,h2,hk=>by
    show bindL kindOf ((p,w)::P.zip vs) m x=_
    unfold bindL
    exact zq6 (i:=i) (aZ.mp nd).2 (by simpa using h1) (by simpa using h2) hk
theorem zq4 {kindOf:Str->Option NameKind}{x:Str}{v:Value}:∀{P:List Str} {vs:List Value} {i:Nat} {m:Str->Option Value},P.Nodup->P[i]?=some x->vs[i]?=some v->kindOf x≠some .local ->
    bindC kindOf (P.zip vs) m x=some v
  | [],_,_,_,_,h,_,_=>by simp at h
  | _::_,[],_,_,_,_,h,_=>by simp at h
  | p::P,w::vs,0,m,nd,h1,h2,hk=>by
    simp at h1 h2;subst h1;subst h2
    show bindC kindOf ((p,w)::P.zip vs) m p=_
    unfold bindC
    rw [zq5 λv hv=>(aZ.mp nd).1 (dW hv).1,if_neg hk]
    simp
  | p::P,w::vs,i+1,m,nd,h1,h2,hk=>by
    show bindC kindOf ((p,w)::P.zip vs) m x=_
    unfold bindC
    exact zq4 (i:=i) (aZ.mp nd).2 (by simpa using h1) (by simpa using h2) hk
def start (N:List Str)(vs:List V):St:=vs.map some++List.replicate (N.length-vs.length) none
def Z8 (CX:CXT)(P:Program)(w:World)(K:W.Frag)(mg:Str->Option Value)(base:Heap)(N:List Str)(qual:Str)(scope:Scope)(f:Addr)(cd:Value)(A:Around)(outer:List Env)(s:Shared)(H:Hp)(E:XK):Cx where
  prog:=P
  w:=w
  K:=K
  mg:=mg
  base:=base
  A:=A.deeper (envOfC qual scope s.heap.objs.size f cd)
  N:=N
  s₀:=s
  H₀:=H
  env:=envOfC qual scope s.heap.objs.size f cd
  outer:=outer
  stack:=envOfC qual scope s.heap.objs.size f cd::outer
  ex:=[]
  calm:=true
  fn:=λ_=>true
  pn:=[]
  xe:=λe s'=>wpAny (model P w) (A.deeper (envOfC qual scope s.heap.objs.size f cd)) (leaving (envOfC qual scope s.heap.objs.size f cd) e) (λ_ s''=>CX outer H s E e s'') (λe' s''=>CX outer H s E e' s'') s'
theorem zy6 {sc:Scope}{n:Nat}{x:Str}(h:sc.names.lookup x=some .cell):∃c,(cellsFrom n sc.names []).lookup x=some c:=by
  have q:=W.cellsFrom_some sc.names n [] (.inl h)
  exact eg.mp q
theorem yo4 {CX : CXT}{P : Program}{w : World}{K : W.Frag}{mg : Str -> Option Value}{base : Heap}{N ps : List Str}{qual : Str}{scope : Scope}{f : Addr}{cd : Value}{A : Around}{outer : List Env}{s s1 : Shared}{H : Hp}{E : XK}{us : List Value}{vs : List V}
    (S:x9 N ps scope) (hd:A.handled=none) (e0:yd8 P w K mg base A outer s H) (hl:vs.length=ps.length) (r:t9 vs us)
    (x:InCallC s s.heap.objs.size (bindL (envOfC qual scope s.heap.objs.size f cd).kindOf (ps.zip us) λ_=>none) (cellsFrom (s.heap.objs.size+1) scope.names []) (bindC (envOfC qual scope s.heap.objs.size f cd).kindOf (ps.zip us) λ_=>none) s1) :
    Inv (Z8 CX P w K mg base N qual scope f cd A outer s H E) [] (start N vs) H s1:=by
  have hpl:ps.length<=N.length:=by have:=congrArg List.length S.pre;rw [bj] at this;omega
  obtain ⟨h1,tk,rfl,hk⟩:=x.done
  have noA:∀b:Addr,b∉(Z8 CX P w K mg base N qual scope f cd A outer s H E).ex:=λb z=>absurd (show b∈([]:List Addr) from z) (by simp)
  refine ⟨⟨e0.mod,S.kind,rfl,rfl,ah _,λy z c h1 h2=>?_,λy hy=>?_,λy c _ h=>?_,λ_=>hd,Around.frames_deeper e0.frames,.inr ⟨rfl,rfl⟩,λb z=>absurd z (noA b),e0.bs,e0.bsz,λb _ _=>noA b,λb z=>absurd z (noA b),e0.funs,e0.frf⟩,
    rfl,e0.bare,Un.kept hk,⟨_,x.toInCall.ns,λi y v h1 h2 h3=>?_⟩,λy c h=>⟨_,x.cell y c h⟩,e0.hok.fresh (ah _),λy c h=>?_,λp hp=>absurd (show p∈([]:List (Addr×Obj)) from hp) (by simp),e0.hok.kept hk,?_⟩
  . exact name_of_addr x.apart (PySem.mem_of_lookup h1) (PySem.mem_of_lookup h2)
  . have hy : scope.names.lookup y = some .cell∨scope.names.lookup y = some .free := hy
    rcases hy with hy|hy
    . exact zy6 hy
    . exact absurd rfl (S.nofree _ (PySem.mem_of_lookup hy))
  . exact bF (x.above y c (PySem.mem_of_lookup h))
  . have hi:i<vs.length:=by
      unfold start at h2
      by_cases hi:i<vs.length
      . exact hi
      . rw [aU (by simpa using hi)] at h2
        rw [cM] at h2
        split at h2 <;> cases h2
    have ha:vs[i]?=some v:=by
      unfold start at h2
      rw [aS (by simpa using hi),ar] at h2
      cases e:vs[i]? with
      | none=>rw [e] at h2;cases h2
      | some a=>rw [e] at h2;cases h2;rfl
    obtain ⟨u,hu,rv⟩:=r.get ha
    have hp:ps[i]?=some y:=by
      rw [←S.pre,dA (by omega)];exact h1
    have ndP:ps.Nodup:=by rw [←S.pre];exact S.nd.sublist (bY _ _)
    refine ⟨u,rv,?_⟩
    rcases S.par y (au hp) with k|k
    . exact .inl ⟨k,zq6 ndP hp hu k⟩
    . obtain ⟨c, e⟩ := zy6 (n := s.heap.objs.size+1) k
      refine .inr ⟨.inl k,c,e,?_⟩
      have q:=x.cell y c e
      rw [zq4 ndP hp hu (by show scope.names.lookup y≠_;rw [k];decide)] at q
      exact q
  . exact e0.hok.fresh (bF (x.above y c (PySem.mem_of_lookup h)))
  . unfold start
    show _=N.length
    rw [af,ae,cy]
    omega
theorem yt2 {CX : CXT}{P : Program}{w : World}{K : W.Frag}{mg : Str -> Option Value}{base : Heap}{k : Nat}{f : Addr}{name qual : Str}{params : Arguments}{body : List Stmt}{scope : Scope}{dV kV doc pm cdv ct oc : Value}{an od : Option Addr}
    {osl:Array (Option Value)} {N ps:List Str} {sp:Sp} (lk:K.lookup f=some ⟨oc,od,.func (W.fnOf name qual params body scope dV kV doc pm an cdv ct),osl⟩) (hcd:W.codeIn K cdv qual=true) (S:x9 N ps scope)
    (len:∀vs H Q E,sp vs H Q E->vs.length=ps.length)
    (hbody:∀(A:Around) (outer:List Env) (s:Shared) (H:Hp) (vs:List V) (Q:VK) (E:XK),c4 k (A.deeper (envOfC qual scope s.heap.objs.size f cdv))->sp vs H Q E ->
      ∃t,PSs (Z8 CX P w K mg base N qual scope f cdv A outer s H E) body t/\t { nx:=λ_ H'=>Q .non H',rt:=Q } (start N vs) H) :
    u6 P w K mg base CX (k+1) f (W.fnOf name qual params body scope dV kV doc pm an cdv ct) ps sp:=by
  refine ⟨len,λA outer s H args us vs Q E hr e0 hb r hsp=>?_⟩
  have hl:=len _ _ _ _ hsp
  have KX:K.In s.heap:=e0.mod.kin.keeps λb o e=>(e0.bs b o e).1
  have lim:s.heap.NoLimit:=e0.mod.nolimit.keeps λb o e=>(e0.bs b o e).1
  have hkind:∀y∈ps.zip us,scope.names.lookup y.1=some .local∨(scope.names.lookup y.1=some .cell/\((cellsFrom (s.heap.objs.size+1) scope.names []).lookup y.1).isSome=true):=λ⟨n,v⟩ hy=>by
    rcases S.par n (dW hy).1 with q|q
    . exact .inl q
    . exact .inr ⟨q,W.cellsFrom_some _ _ _ (.inl q)⟩
  refine codeAny_call_function hr.depth (KX _ _ lk) rfl S.co S.gen rfl (W.codeRec_of KX hcd) (hb _ _ _ _ ?_)
  refine wpAny_newFunctionEnv_cells S.kind hkind λenv he s1 x=>?_
  subst he
  refine ⟨lim.keeps x.toInCall.keep,codeAny_func ?_⟩
  obtain ⟨t,ht,hq⟩:=hbody A outer s H vs Q E (hr.deeper _) hsp
  have I:Inv (Z8 CX P w K mg base N qual scope f cdv A outer s H E) [] (start N vs) H s1:=yo4 S hr.hd e0 hl r x
  refine wpAny_mono (ht [] s1 (start N vs) H _ I hq) (λfl s' hs=>?_) λe s' hs=>hs
  have fin:∀{σ':St} {H':Hp} {v:V} {u:Value},Inv (Z8 CX P w K mg base N qual scope f cdv A outer s H E) [] σ' H' s'->p0 v u->Q v H'->CE outer P w H s Q u s' :=
    λ{σ' H' v u} J rv q=>⟨v,H',J.os,J.bare,J.base,J.hok,rv,q⟩
  cases fl with
  | ret u =>
    obtain ⟨v,σ',H',J,rv,q⟩:=hs
    exact fin J rv q
  | next =>
    obtain ⟨σ',H',J,q⟩:=hs
    exact fin (v:=V.non) (u:=Value.none) J rfl q
  | brk =>
    obtain ⟨_,_,_,q⟩:=hs
    exact False.elim q
  | cont =>
    obtain ⟨_,_,_,q⟩:=hs
    exact False.elim q
section
variable {X:Cx}{x:Str}{p pos:Pos}{e:Expr}{es:List Expr}{t:TA}{id T:String}{r:List V->Hp->VK->Prop}
def tCB (r:List V->Hp->VK->Prop)(t:TA):TE:=λσ H Q=>t σ H λvs H1=>r vs H1 Q
theorem v8 (hc : W1 X (.builtin id) r)(hg : Gl X x)(hm : X.mg x = none)(hv : bootBuiltins x = some (.builtin id))(ha : PA X (e::es) t)(hn : x ≠ "__name__" := by decide) (hdb : (x==("__debug__" : Str)) = false := by decide)
    (he:starEach (e::es) X.env=(false,eval e X.env)::starEach es X.env:=by rfl) (hpl:(backTo pos (starEach es X.env)).any (·.1)=false:=by rfl):PE X (.Call (.Name x p) (e::es) [] pos) (tCB r t):=by
  intro pins s σ H Q I h
  refine wpAny_Call_Name_kw (zc9 I hg hm hv ?_ hn hdb)
  exact PyProof.Rows.callWith_builtin1 (thn (ha pos pins s σ H _ I h) λus s1 ⟨vs,H1,I1,r1,q1⟩=>hc pins s1 σ H1 vs us Q I1 r1 q1) he hpl
theorem o9 (hc : W1 X (.type T) r)(hg : Gl X x)(hm : X.mg x = none)(hv : bootBuiltins x = some (.type T))(ha : PA X (e::es) t)(hn : x ≠ "__name__" := by decide) (hdb : (x==("__debug__" : Str)) = false := by decide)
    (he:starEach (e::es) X.env=(false,eval e X.env)::starEach es X.env:=by rfl) (hpl:(backTo pos (starEach es X.env)).any (·.1)=false:=by rfl):PE X (.Call (.Name x p) (e::es) [] pos) (tCB r t):=by
  intro pins s σ H Q I h
  refine wpAny_Call_Name_kw (zc9 I hg hm hv ?_ hn hdb)
  exact PyProof.Rows.callWith_type1 (thn (ha pos pins s σ H _ I h) λus s1 ⟨vs,H1,I1,r1,q1⟩=>hc pins s1 σ H1 vs us Q I1 r1 q1) he hpl
end
end L2
namespace HT
open PySem PyProof.Rows
def lexLt : List Int -> List Int -> Bool
  | [],[]=>false
  | [],_::_=>true
  | _::_,[]=>false
  | x::xs,y::ys=>if x=y then lexLt xs ys else decide (x<y)
theorem lexLt_cons (x y:Int)(xs ys:List Int):lexLt (x::xs) (y::ys)=if x=y then lexLt xs ys else decide (x<y):=rfl
theorem lexLt_nil_cons (y:Int)(ys:List Int):lexLt [] (y::ys)=true:=rfl
section
open PySem.SeqAt
open PySem.AutoSeq1 (wpAny_loadPart')
open PySem.MeetsSeq PySem.MeetsSeq2 PySem.MeetsSeq3
end
section
variable {prog:Program}{w:World}{A:Around}{E:Value->Shared->Prop}{s:Shared}
theorem cat_tup {t b : Addr}{vs ws : List Value}{Q : Value -> Shared -> Prop}(ht : IsTup s.heap t vs.toArray)(hb : IsTup s.heap b ws.toArray)(hv : vs ≠ [])
    (h1:ws=[]->Q (.ref t) s) (h2:ws≠[]->Q (.ref s.heap.objs.size) { s with heap:=s.heap.push { cls:=.type "tuple",data:=.seq (vs++ws).toArray } })
    (hsz:vs.length+ws.length<=sizeLine):wpAny (model prog w) A (binaryOp .Add (.ref t) (.ref b)) Q E s:=by
  obtain ⟨⟨cls,dd,data,sl⟩,ho,hc,n,hd⟩:=id ht
  obtain ⟨⟨cls2,dd2,data2,sl2⟩,ho2,hc2,n2,hd2⟩:=id hb
  simp only at hc hd hc2 hd2
  subst hc hd hc2 hd2
  have e:vs.toArray++ws.toArray=(vs++ws).toArray:=by simp
  by_cases hw:ws=[]
  . exact concat_meets ⟨_, ho, rfl⟩ ⟨_, ho2, rfl⟩ noFill_tuple_add seq_tuple_add PySem.F.slot_tuple_add PySem.F.entry_tuple_add (PySem.F.args_tuple_add_2 _ _)
      (tuple_addW1 t b vs.toArray ws.toArray n n2 dd dd2 sl sl2 (by simpa using hv) (by simp [hw])) ⟨ho,ho2,h1 hw⟩
  . refine concat_meets ⟨_, ho, rfl⟩ ⟨_, ho2, rfl⟩ noFill_tuple_add seq_tuple_add PySem.F.slot_tuple_add PySem.F.entry_tuple_add (PySem.F.args_tuple_add_2 _ _)
      (tuple_addW2 t b vs.toArray ws.toArray n n2 dd dd2 sl sl2 (by simpa using hv) (by simpa using hw) (by rw [aB,aB];exact hsz)) ⟨ho,ho2,?_⟩
    rw [e]
    exact h2 hw
def sIx (n d : Nat) : Option Int -> Nat
  | none=>d
  | some v=>if v<0 then (v+(n:Int)).toNat else min v.toNat n
theorem sIx_none (n d:Nat):sIx n d none=d:=rfl
theorem sIx_nat (n d k:Nat):sIx n d (some (k:Int))=min k n:=by
  show (if (k:Int)<0 then ((k:Int)+(n:Int)).toNat else min (k:Int).toNat n)=min k n
  rw [if_neg (by omega),bQ]
end
end HT
namespace L2
open PySem PySem.Spec PyProof.Rows
abbrev TO:=St->Hp->(Option Int->Hp->Prop)->Prop
def PO (X:Cx)(e:Option Expr)(t:TO):Prop :=
  ∀(pins:List (Addr×Obj)) (s:Shared) (σ:St) (H:Hp) (Q:Option Int->Hp->Prop),Inv X pins σ H s->t σ H Q ->
    wpAny (model X.prog X.w) X.A (evalPart e X.env) (λu s'=>∃o H',Inv X pins σ H' s'/\IsPart u o/\Q o H') X.xe s
def xg6:TO:=λ_ H Q=>Q none H
def xs8 (t:TE):TO:=λσ H Q=>t σ H λx H1=>∃i,x=.int i/\Q (some i) H1
theorem D3 {ns:List Int}:∀{us:List Value},t9 (ns.map V.int) us->IntsAre us ns:=by
  induction ns with
  | nil=>intro us r;rw [cq] at r;cases r;exact .nil
  | cons n ns ih =>
    intro us r
    rw [aI] at r
    cases r with
    | cons r1 r2 =>
      obtain ⟨t,e⟩:=r1
      subst e
      exact .cons n t (ih r2)
section
variable {X:Cx}{e:Expr}{te:TE}{lo hi:Option Expr}{tl th:TO}{pos p2:Pos}
theorem za0:PO X none xg6:=by
  intro pins s σ H Q I h
  rw [evalPart_none]
  exact wpAny_pure ⟨none,H,I,.none,h⟩
theorem W6 (h:PE X e te):PO X (some e) (xs8 te):=by
  intro pins s σ H Q I hw
  rw [evalPart_some]
  refine thn (h pins s σ H _ I hw) λu s1 ⟨x,H1,I1,r1,q1⟩=>?_
  obtain ⟨i,rfl,q⟩:=q1
  obtain ⟨t,rfl⟩:=r1
  exact ⟨some i,H1,I1,.int i t,q⟩
def SlR (X:Cx)(r:V->Option Int->Option Int->Hp->VK->Prop):Prop :=
  ∀(pins:List (Addr×Obj)) (s:Shared) (σ:St) (H:Hp) (x:V) (v vl vu:Value) (lo hi:Option Int) (sl:Addr) (Q:VK),Inv X pins σ H s->p0 x v->s.heap.IsSliceOf sl vl vu .none->IsPart vl lo->IsPart vu hi->r x lo hi H Q ->
    ∃T id,typeLookup (.type T) "__getitem__"=pure (some (.builtin id))/\s.TypeIs v T/\wpAny (model X.prog X.w) X.A (getItem v (.ref sl)) (EP X pins σ Q) X.xe s
def tSl (r:V->Option Int->Option Int->Hp->VK->Prop)(te:TE)(tl th:TO):TE:=λσ H Q=>te σ H λx H1=>tl σ H1 λl H2=>th σ H2 λu H3=>r x l u H3 Q
theorem T2 {r:V->Option Int->Option Int->Hp->VK->Prop}(hr:SlR X r)(he:PE X e te)(hl:PO X lo tl)(hu:PO X hi th):PE X (.Subscript e (.Slice lo hi none p2) pos) (tSl r te tl th):=by
  intro pins s σ H Q I h
  refine Subscript_ (thn (he pins s σ H _ I h) λv s1 ⟨x,H1,I1,r1,q1⟩=>?_)
  refine wpAny_Slice (thn (hl pins s1 σ H1 _ I1 q1) λvl s2 ⟨l,H2,I2,pl,q2⟩=>thn (hu pins s2 σ H2 _ I2 q2) λvu s3 ⟨u,H3,I3,pu,q3⟩=>?_)
  rw [evalPart_none]
  refine wpAny_pure ?_
  have I4:Inv X pins σ H3 { s3 with heap:=s3.heap.push { cls:=.type "slice",data:=.fields #[vl,vu,.none] } }:=I3.kept (t':=s3.toks) λb ob q=>al _ q
  obtain ⟨T,id,hT,ht,hg⟩:=hr pins { s3 with heap:=s3.heap.push { cls:=.type "slice",data:=.fields #[vl,vu,.none] } } σ H3 x v vl vu l u s3.heap.objs.size Q I4 r1 (Heap.IsSliceOf.new ..) pl pu q3
  show wpAny (model X.prog X.w) X.A (subscriptTail e (.Slice lo hi none p2) v (.ref s3.heap.objs.size)) (EP X pins σ Q) X.xe { s3 with heap:=s3.heap.push { cls:=.type "slice",data:=.fields #[vl,vu,.none] } }
  exact tail_any (ops:=[.ref s3.heap.objs.size,v]) ht hT hg (by with_unfolding_all rfl)
def O2 (xs:List V)(lo hi:Option Int):List V:=(xs.drop (HT.sIx xs.length 0 lo)).take (HT.sIx xs.length xs.length hi-HT.sIx xs.length 0 lo)
theorem zz0 (xs:List V)(lo hi:Option Int):(O2 xs lo hi).length<=xs.length:=by
  unfold O2
  rw [bj,bU]
  omega
def xr6 (K:W.Frag):R2:=λx y H Q=>∃a b xs ys,x=.ref a/\y=.ref b/\SqT K H a xs/\SqT K H b ys/\xs≠[]/\xs.length+ys.length<=sizeLine /\
  (ys=[]->Q (.ref a) H)/\(ys≠[]->∀p,H p=none->Q (.ref p) (upd H p (.tup (xs++ys))))
theorem t9.nil_iff {xs:List V}{us:List Value}(r:t9 xs us):us=[]↔xs=[]:=by
  cases r with
  | nil=>simp
  | cons _ _=>simp
theorem xd4:OpR X (binaryOp .Add) (xr6 X.K):=by
  intro pins s σ H x y v u Q I rx ry h
  obtain ⟨a,b,xs,ys,rfl,rfl,ha,hb,hx,hz,q1,q2⟩:=h
  cases rx
  cases ry
  obtain ⟨its,r1,p1,_⟩:=I.tuple ha
  obtain ⟨its2,r2,p2,_⟩:=I.tuple hb
  refine HT.cat_tup p1 p2 (λz=>hx (r1.nil_iff.mp z)) (λz=>⟨.ref a,H,I,rfl,q1 (r2.nil_iff.mp z)⟩) (λz=>?_) (by rw [←r1.length,←r2.length];exact hz)
  refine ⟨.ref s.heap.objs.size,_,I.laid (t':=s.toks) (o:=.tup (xs++ys)) (λb ob q=>al _ q) (ah _) ?_,rfl,q2 (λw=>z (r2.nil_iff.mpr w)) _ (I.hok.fresh (ah _))⟩
  exact ⟨by rw [af];exact hz,_,r1.append r2,zs7.new _ _⟩
end
def ixN (n:Nat)(i:Int):Option Nat:=if 0<=i then (if i<n then some i.toNat else none) else if -(n:Int)<=i then some (i+n).toNat else none
def atI {α:Type}(xs:List α)(i:Int):Option α:=(ixN xs.length i).bind λj=>xs[j]?
theorem zu1 {n:Nat}{i:Int}{j:Nat}(h:ixN n i=some j):seqIndex? i n=some j/\j<n/\-(n:Int)<=i/\i<n:=by
  unfold ixN at h
  by_cases h0:0<=i
  . rw [if_pos h0] at h
    by_cases h1:i<n
    . rw [if_pos h1] at h
      have e:i.toNat=j:=Option.some.inj h
      exact ⟨by rw [seqIndex_of h0 h1,e],by omega,by omega,h1⟩
    . rw [if_neg h1] at h;cases h
  . rw [if_neg h0] at h
    by_cases h1:-(n:Int)<=i
    . rw [if_pos h1] at h
      have e:(i+n).toNat=j:=Option.some.inj h
      exact ⟨by rw [seqIndex_neg (by omega) h1,e],by omega,h1,by omega⟩
    . rw [if_neg h1] at h;cases h
theorem yj1 {α:Type}{xs:List α}{i:Int}{v:α}(h:atI xs i=some v):∃j,seqIndex? i xs.length=some j/\xs[j]?=some v/\j<xs.length/\-(xs.length:Int)<=i/\i<xs.length:=by
  unfold atI at h
  cases e:ixN xs.length i with
  | none=>rw [e] at h;cases h
  | some j =>
    rw [e] at h
    obtain ⟨h1,h2,h3,h4⟩:=zu1 e
    exact ⟨j,h1,h,h2,h3,h4⟩
theorem k8 {α:Type}{xs:List α}{j:Nat}{v:α}(h:xs[j]?=some v):atI xs (j:Int)=some v:=by
  have hj:j<xs.length:=(ag.mp h).1
  have e:ixN xs.length (j:Int)=some j:=by
    unfold ixN
    rw [if_pos (by omega),if_pos (by omega)];simp
  unfold atI;rw [e];exact h
def yi9 (b:Expr):Prop:=∀o i,subscripted b false o i=operate [o,i] (getItem o i)
def IxR (X:Cx)(r:R2):Prop :=
  ∀(value slice:Expr) (pins:List (Addr×Obj)) (s:Shared) (σ:St) (H:Hp) (x y:V) (v u:Value) (Q:VK),Inv X pins σ H s->p0 x v->p0 y u->r x y H Q ->
    subscripted slice false v u=operate [v,u] (getItem v u)->wpAny (model X.prog X.w) X.A (subscriptTail value slice v u) (EP X pins σ Q) X.xe s
def MtR (X:Cx)(id:String)(r:V->List V->Hp->VK->Prop):Prop :=
  ∀(pins:List (Addr×Obj)) (s:Shared) (σ:St) (H:Hp) (x:V) (xs:List V) (v:Value) (us:List Value) (Q:VK),Inv X pins σ H s->p0 x v->t9 xs us->r x xs H Q ->
    wpAny (model X.prog X.w) X.A (call (.builtin id) (v::us)) (EP X pins σ Q) X.xe s
section
variable {X:Cx}{a b:Expr}{ta tb:TE}{pos:Pos}
theorem i4 {r:R2}(hr:IxR X r)(ha:PE X a ta)(hb:PE X b tb)(hs:yi9 b):PE X (.Subscript a b pos) (tOp r ta tb):=by
  intro pins s σ H Q I h
  exact Subscript_ (xj1 ha hb I h λv u s2 x y H2 I2 rx ry q=>hr a b pins s2 σ H2 x y v u Q I2 rx ry q (hs _ _))
def xu5 (K:W.Frag):R2:=λx y H Q=>∃p xs i v,x=.ref p/\y=.int i/\SqL K H p xs/\atI xs i=some v/\Q v H
def xu6 (K:W.Frag):R2:=λx y H Q=>∃p xs i v,x=.ref p/\y=.int i/\SqT K H p xs/\atI xs i=some v/\Q v H
theorem p5:IxR X (xu5 X.K):=by
  intro value slice pins s σ H x y v u Q I rx ry h hs
  obtain ⟨p,xs,i,z,rfl,rfl,hq,he,q⟩:=h
  cases rx
  obtain ⟨t,rfl⟩:=ry
  obtain ⟨its,r,pl,hz⟩:=I.list hq
  obtain ⟨j,h1,h2,h3,h4,h5⟩:=yj1 he
  obtain ⟨w,ew,rw'⟩:=r.get h2
  have hl:=r.length
  have hn:=zu7
  have fin:EP X pins σ Q w s:=⟨z,H,I,rw',q⟩
  by_cases h0:0<=i
  . have hj:i.toNat=j:=by
      rw [seqIndex_of h0 h5] at h1
      exact Option.some.inj h1
    exact item_listR pl.isList h0 (by omega) (by rw [hj];simpa using ew) fin hs
  . have hj:(i+(its.toArray.size:Int)).toNat=j:=by
      rw [seqIndex_neg (by omega) h4] at h1
      rw [aB,←hl]
      exact Option.some.inj h1
    exact subscriptTail_builtinR (x := w) pl.isList.typeIs slot_list_getitem.lookup
      (wpAny_getItem_list_neg (Q:=λr s'=>r=w/\EP X pins σ Q r s') pl.isList (by omega) (by rw [aB] <;> omega) (by omega) (by rw [hj];simpa using ew) ⟨rfl,fin⟩) hs
theorem zc6:IxR X (xu6 X.K):=by
  intro value slice pins s σ H x y v u Q I rx ry h hs
  obtain ⟨p,xs,i,z,rfl,rfl,hq,he,q⟩:=h
  cases rx
  obtain ⟨t,rfl⟩:=ry
  obtain ⟨its,r,pl,hz⟩:=I.tuple hq
  obtain ⟨j,h1,h2,h3,h4,h5⟩:=yj1 he
  obtain ⟨w,ew,rw'⟩:=r.get h2
  have hl:=r.length
  have hn:=zu7
  have fin:EP X pins σ Q w s:=⟨z,H,I,rw',q⟩
  exact subscriptTail_builtinR (x := w) pl.typeIs slot_tuple_getitem.lookup
    (getItem_tuple (j:=j) (Q:=λr s'=>r=w/\EP X pins σ Q r s') pl (by omega) (by omega) (by rw [aB,←hl];exact h1) (by simpa using ew) ⟨rfl,fin⟩) hs
theorem yg3 (its:List Value)(n j:Nat)(u:Value):Obj.mapSeq (·.setIfInBounds j u) { cls:=.type "list",data:=.seq its.toArray n }={ cls:=.type "list",data:=.seq (its.set j u).toArray n }:=by
  simp [Obj.mapSeq]
theorem Inv.lst {pins : List (Addr×Obj)}{σ : St}{H : Hp}{s : Shared}{p : Addr}{xs : List V}(I : Inv X pins σ H s)(h : H p = some (.lst xs)) :
    ∃(its:List Value) (n:Nat),t9 xs its/\s.heap.get? p=some { cls:=.type "list",data:=.seq its.toArray n }/\xs.length<=sizeLine:=by
  obtain ⟨z,its,n,r,e⟩:=I.hok p _ h
  exact ⟨its,n,r,e,z⟩
theorem Inv.lstUpd {pins : List (Addr×Obj)}{σ : St}{H : Hp}{s : Shared}{p : Addr}{xs ys : List V}{its its' : List Value}{n n' : Nat}{f : Obj -> Obj}(I : Inv X pins σ H s)(h : H p = some (.lst xs))
    (ho:s.heap.get? p=some { cls:=.type "list",data:=.seq its.toArray n }) (hf:f { cls:=.type "list",data:=.seq its.toArray n }={ cls:=.type "list",data:=.seq its'.toArray n' }) (r:t9 ys its') (hz:ys.length<=sizeLine) (t:Nat) :
    Inv X pins σ (upd H p (.lst ys)) { s with heap:=s.heap.update p f,toks:=t }:=by
  have e:(s.heap.update p f).get? p=some { cls:=.type "list",data:=.seq its'.toArray n' }:=by
    rw [Heap.get?_update_self f ho (by rw [hf] <;> rfl),hf]
  refine I.write (x:=p) (e:=p) (by rw [h];trivial) (.inl rfl) (λb u hb q=>(Heap.get?_update_other _ _ (Ne.symm hb)).trans q) ⟨_,e⟩ ?_
  exact ⟨hz,its',n',r,e⟩
def xr7:V->V->V->Hp->(Hp->Prop)->Prop:=λo i v H Q=>∃p xs k j,o=.ref p/\i=.int k/\H p=some (.lst xs)/\ixN xs.length k=some j/\Q (upd H p (.lst (xs.set j v)))
theorem yc6:xp1 X xr7:=by
  intro pins s σ H o i v ov iv u Q I ro ri rv h
  obtain ⟨p,xs,k,j,rfl,rfl,hp,hj,q⟩:=h
  cases ro
  obtain ⟨t,rfl⟩:=ri
  obtain ⟨its,n,r,ho,hz⟩:=I.lst hp
  obtain ⟨h1,h2,h3,h4⟩:=zu1 hj
  have hl:=r.length
  have hn:=zu7
  have I':Inv X pins σ (upd H p (.lst (xs.set j v))) { s with heap:=s.heap.update p (Obj.mapSeq (·.setIfInBounds j u)) } :=
    I.lstUpd hp ho (yg3 its n j u) (r.set rv j) (by rw [bL];exact hz) s.toks
  by_cases h0:0<=k
  . have hk:k.toNat=j:=by
      rw [seqIndex_of h0 h4] at h1
      exact Option.some.inj h1
    exact W.ki_setAt ho h0 (by omega) (by rw [aB,←hl];exact h4) (by rw [hk];exact ⟨_,I',q⟩)
  . have hk:(k+(its.toArray.size:Int)).toNat=j:=by
      rw [seqIndex_neg (by omega) h3] at h1
      rw [aB,←hl]
      exact Option.some.inj h1
    exact W.ki_setBack ho (by omega) (by rw [aB,←hl];exact h3) (by omega) (by rw [hk];exact ⟨_,I',q⟩)
theorem zx8 (lo hi:Option Int)(n:Nat):(sliceBounds lo hi none n).1=((HT.sIx n 0 lo:Nat):Int)/\(sliceBounds lo hi none n).2.1=((HT.sIx n n hi:Nat):Int)/\(sliceBounds lo hi none n).2.2=1:=by
  refine ⟨?_,?_,rfl⟩
  . cases lo with
    | none=>simp [sliceBounds,HT.sIx]
    | some i =>
      simp only [sliceBounds,HT.sIx,fc,show (1:Int) > 0 by decide,if_true]
      by_cases h:i<0
      . simp only [h,if_true] <;> omega
      . simp only [h,if_false] <;> omega
  . cases hi with
    | none=>simp [sliceBounds,HT.sIx]
    | some i =>
      simp only [sliceBounds,HT.sIx,fc,show (1:Int) > 0 by decide,if_true]
      by_cases h:i<0
      . simp only [h,if_true] <;> omega
      . simp only [h,if_false] <;> omega
theorem zq0 (its:List Value)(lo hi:Option Int):slicePick its.toArray lo hi none=((its.drop (HT.sIx its.length 0 lo)).take (HT.sIx its.length its.length hi-HT.sIx its.length 0 lo)).toArray:=by
  obtain ⟨h1,h2,h3⟩:=zx8 lo hi its.toArray.size
  unfold slicePick
  rw [h1,h2,h3]
  simp only [sliceRange_one,pick_run,aB] <;> rfl
def xu7 (K:W.Frag):V->Option Int->Option Int->Hp->VK->Prop:=λx lo hi H Q=>∃a xs,x=.ref a/\SqL K H a xs/\∀p,H p=none->Q (.ref p) (upd H p (.lst (O2 xs lo hi)))
theorem P0:SlR X (xu7 X.K):=by
  intro pins s σ H x v vl vu lo hi sl Q I rx hs pl pu h
  obtain ⟨a,xs,rfl,hx,q⟩:=h
  cases rx
  obtain ⟨its,r,ht,hz⟩:=I.list hx
  have hlen:=r.length
  refine ⟨"list",_,slot_list_getitem.lookup,ht.isList.typeIs,?_⟩
  refine wpAny_getItem_list_slice ht.isList hs pl pu .none (by simp) ?_ (by rw [aB] <;> omega)
  rw [zq0,←hlen]
  refine ⟨.ref s.heap.objs.size,_,I.laid (t':=s.toks) (o:=.lst (O2 xs lo hi)) (λb ob q=>al _ q) (ah _) ?_,rfl,q _ (I.hok.fresh (ah _))⟩
  exact ⟨aQ (zz0 xs lo hi) hz,_,0,(r.drop (HT.sIx xs.length 0 lo)).take (HT.sIx xs.length xs.length hi-HT.sIx xs.length 0 lo),aA _ rfl⟩
theorem q9:W1 X (.builtin "len") (λxs H Q=>∃p ys,xs=[.ref p]/\(SqL X.K H p ys∨SqT X.K H p ys)/\Q (.int ys.length) H):=by
  intro pins s σ H xs us Q I r h
  obtain ⟨p,ys,rfl,hq,q⟩:=h
  obtain ⟨u,rfl,rx⟩:=L7 r
  cases rx
  have hn:=zu7
  rcases hq with hq|hq
  . obtain ⟨its, r', pl, hz⟩ := I.list hq
    have hlen:=r'.length
    exact Calls.call_len_list pl.isList (by simp only [aB] <;> omega) ⟨.int ys.length,H,I.tok _,⟨s.toks+1,by rw [aB,hlen]⟩,q⟩
  . obtain ⟨its, r', pl, hz⟩ := I.tuple hq
    have hlen:=r'.length
    exact len_tuple pl (by simp only [aB] <;> omega) ⟨.int ys.length,H,I.tok _,⟨s.toks+1,by rw [aB,hlen]⟩,q⟩
theorem C7:W1 X (.type "list") (λxs H Q=>∃p ys,xs=[.ref p]/\(SqL X.K H p ys∨SqT X.K H p ys)/\∀l,H l=none->Q (.ref l) (upd H l (.lst ys))):=by
  intro pins s σ H xs us Q I r h
  obtain ⟨p,ys,rfl,hq,q⟩:=h
  obtain ⟨u,rfl,rx⟩:=L7 r
  cases rx
  have fin:∀(its:List Value),t9 ys its->ys.length<=sizeLine->∀(h':Heap) (c':Nat),(∀b o',s.heap.get? b=some o'->h'.get? b=some o') ->
      h'.get? s.heap.objs.size=some { cls:=.type "list",dict:=none,data:=.seq its.toArray c',slots:=#[] }->EP X pins σ Q (.ref s.heap.objs.size) { s with heap:=h' }:=λits r' hz h' c' kp e =>
    ⟨.ref s.heap.objs.size,_,I.laid (t':=s.toks) kp (ah _) (show p9 X.prog X.w _ h' _ (.lst ys) from ⟨hz,its,c',r',e⟩),rfl,q _ (I.hok.fresh (ah _))⟩
  rcases hq with hq|hq
  . obtain ⟨its, r', pl, hz⟩ := I.list hq
    have hlen:=r'.length
    obtain ⟨o,ho,hc,n,hd⟩:=pl.isList
    exact call_list_seq p (.inl rfl) ho hc hd (λh' c' kp e=>fin its r' hz h' c' kp e) (by simp only [aB] <;> omega)
  . obtain ⟨its, r', pl, hz⟩ := I.tuple hq
    have hlen:=r'.length
    obtain ⟨o,ho,hc,n,hd⟩:=pl
    exact call_list_seq p (.inr rfl) ho hc hd (λh' c' kp e=>fin its r' hz h' c' kp e) (by simp only [aB] <;> omega)
theorem g9:W1 X (.type "tuple") (λxs H Q=>∃p ys,xs=[.ref p]/\((SqL X.K H p ys/\∀l,H l=none->Q (.ref l) (upd H l (.tup ys)))∨(SqT X.K H p ys/\Q (.ref p) H))):=by
  intro pins s σ H xs us Q I r h
  obtain ⟨p,ys,rfl,h⟩:=h
  obtain ⟨u,rfl,rx⟩:=L7 r
  cases rx
  rcases h with ⟨hq,q⟩|⟨hq,q⟩
  . obtain ⟨its, r', pl, hz⟩ := I.list hq
    have hlen:=r'.length
    refine call_tuple_list pl.isList (λh' kp=>?_) (by simp only [aB] <;> omega)
    have I1:Inv X pins σ H { s with heap:=h' }:=I.kept (t':=s.toks) kp
    have I2:Inv X pins σ (upd H h'.objs.size (.tup ys)) { s with heap:=h'.push { cls:=.type "tuple",data:=.seq its.toArray } } :=
      I1.laid (t':=s.toks) (λb o e=>al _ e) (ah _) (show p9 X.prog X.w _ _ _ (.tup ys) from ⟨hz,its,r',zs7.new _ _⟩)
    exact ⟨.ref h'.objs.size,_,I2,rfl,q _ (I1.hok.fresh (ah _))⟩
  . obtain ⟨its, r', pl, hz⟩ := I.tuple hq
    exact call_tuple_same pl ⟨.ref p,H,I,rfl,q⟩
def tyV (K:W.Frag)(T:String)(x:V)(H:Hp):Prop:=match x with
  | .str _=>T="str"
  | .int _=>T="int"
  | .ref p => (T = "list" /\ ∃xs, SqL K H p xs)∨(T = "tuple" /\ ∃o, K.lookup p = some o /\ o.cls = .type "tuple" /\ o.dict = none) ∨
      (T="dict"/\((∃kvs,H p=some (.dK kvs))∨∃kvs,H p=some (.dT kvs)))∨(T="set"/\∃S n,H p=some (.set S n))
  | _=>False
theorem xo5 {pins : List (Addr×Obj)}{σ : St}{H : Hp}{s : Shared}{T : String}{x : V}{v : Value}(I : Inv X pins σ H s)(r : p0 x v)(ty : tyV X.K T x H) :
    s.TypeIs v T/\∀a,v=.ref a->∃ob,s.heap.get? a=some ob/\ob.dict=none:=by
  cases x with
  | str z =>
    obtain ⟨t,rfl⟩:=r
    cases (show T="str" from ty)
    exact ⟨typeIs_str s z t,λ_ e=>nomatch e⟩
  | int i =>
    obtain ⟨t,rfl⟩:=r
    cases (show T="int" from ty)
    exact ⟨typeIs_int s i t,λ_ e=>nomatch e⟩
  | ref p =>
    cases r
    rcases ty with ⟨rfl,xs,hq⟩|⟨rfl,o,hk,hc,hd⟩|⟨rfl,hk⟩|⟨rfl,S,n,hk⟩
    . obtain ⟨its, _, pl, _⟩ := I.list hq
      refine ⟨pl.isList.typeIs,λa e=>?_⟩
      cases e
      obtain ⟨o,n,e,c,hd,_⟩:=pl
      exact ⟨o,e,hd⟩
    . refine ⟨⟨o, I.kIn p o hk, hc⟩, λa e => ?_⟩
      cases e
      exact ⟨o,I.kIn _ o hk,hd⟩
    . have z:∃o,s.heap.get? p=some o/\o.ExactDict:=by
        rcases hk with ⟨kvs,hk⟩|⟨kvs,hk⟩
        . obtain ⟨_, _, _, _, o, _, _, e, ex, _⟩ := I.hok p _ hk
          exact ⟨o,e,ex⟩
        . obtain ⟨_, _, _, _, o, _, _, e, ex, _⟩ := I.hok p _ hk
          exact ⟨o,e,ex⟩
      obtain ⟨o,e,ex⟩:=z
      refine ⟨⟨o,e,ex.1⟩,λa e2=>?_⟩
      cases e2
      exact ⟨o,e,ex.2.1⟩
    . obtain ⟨o, _, _, _, e, ex, _⟩ := I.hok p _ hk
      refine ⟨⟨o,e,ex.1⟩,λa e2=>?_⟩
      cases e2
      exact ⟨o,e,ex.2.1⟩
  | _=>exact False.elim ty
def tBM (K:W.Frag)(T:String)(r:V->List V->Hp->VK->Prop)(to:TE)(t:TA):TE:=λσ H Q=>to σ H λx H1=>tyV K T x H1/\t σ H1 λxs H2=>r x xs H2 Q
variable {o e:Expr}{es:List Expr}{to:TE}{t:TA}{name:Str}{apos cpos:Pos}{T id:String}{r:V->List V->Hp->VK->Prop}
theorem J0 (pa : PlainAttrs T)(slot : Slot T name id)(hty : typeOf (.builtin id) = pure (.type "method_descriptor")) (hm : MtR X id r) (ho : PE X o to) (ha : PA X (e::es) t)
    (hbase:attributeBase o name X.env (eval o X.env)=eval o X.env:=by rfl)
    (hfew : ((backTo cpos (starEach (e::es) X.env)).all (λx => !x.1)&&(backToKw cpos (keywordEach [] X.env)).all (λx => x.1.isSome)
      && decide ((e::es).length+([]:List Keyword).length+(if ([]:List Keyword).isEmpty then 0 else 1)<30))=true:=by rfl)
    (hline:(apos.endLine==cpos.line)=true:=by rfl) (hs:starEach (e::es) X.env=(false,eval e X.env)::starEach es X.env:=by rfl) (hplain:(backTo cpos (starEach es X.env)).any (·.1)=false:=by rfl) :
    PE X (.Call (.Attribute o name apos) (e::es) [] cpos) (tBM X.K T r to t):=by
  intro pins s σ H Q I h
  refine wpAny_Call_method_late hbase hfew hline rfl (thn (ho pins s σ H _ I h) λv s1 ⟨x,H1,I1,r1,ty,q1⟩=>?_)
  obtain ⟨h1,h2⟩:=xo5 I1 r1 ty
  refine ⟨T,id,pa,slot,hty,h1,h2,?_⟩
  have hA:=ha cpos pins s1 σ H1 _ I1 q1
  rw [hs] at hA ⊢
  refine Calls.callWith_builtin (by show (false || (backTo cpos (starEach es X.env)).any (·.1))=false;rw [hplain] <;> rfl) (Calls.evalArgs_plain ?_)
  exact thn hA λus s2 ⟨vs,H2,I2,r2,q2⟩=>hm pins s2 σ H2 x vs v us Q I2 r1 r2 q2
end
def MtM (X:Cx)(id:String)(r:V->List V->Hp->VK->Prop):Prop :=
  ∀(pins:List (Addr×Obj)) (s:Shared) (σ:St) (H:Hp) (x:V) (xs:List V) (v:Value) (us:List Value) (Q:VK),Inv X pins σ H s->p0 x v->t9 xs us->r x xs H Q ->
    wpAny (model X.prog X.w) X.A (call (.builtin id) (v::us)) (EP X pins σ Q) X.xe s
theorem t9.one : ∀{x : V} {us : List Value}, t9 [x] us -> ∃u, us = [u] /\ p0 x u
  | _,_,.cons r .nil=>⟨_,rfl,r⟩
theorem t9.eraseIdx : ∀{xs : List V} {us : List Value} (i : Nat), t9 xs us -> t9 (xs.eraseIdx i) (us.eraseIdx i)
  | _,_,_,.nil=>.nil
  | _,_,0,.cons _ t=>t
  | _,_,i+1,.cons r t=>.cons r (t9.eraseIdx i t)
theorem zr7 {α : Type} : ∀(l : List α) (i : Nat), (l.eraseIdx i).length <= l.length
  | [],_=>ah _
  | _::_,0=>bX _
  | _::r,i+1=>Nat.succ_le_succ (zr7 r i)
section
variable {X:Cx}{pins:List (Addr×Obj)}{σ:St}{H:Hp}{s:Shared}{l b:Addr}{xs ys zs:List V}
theorem Inv.lset {its its' : List Value}{n : Nat}{f : Array Value -> Array Value}{t' : Nat}(I : Inv X pins σ H s)(hH : H l = some (.lst xs))
    (e:s.heap.get? l=some { cls:=.type "list",data:=.seq its.toArray n }) (hf:f its.toArray=its'.toArray) (hv:t9 ys its') (hz:ys.length<=sizeLine) :
    Inv X pins σ (upd H l (.lst ys)) { s with heap:=s.heap.update l (Obj.mapSeq f),toks:=t' }:=by
  have q:=PySem.IsL.update e f
  rw [hf] at q
  refine I.write (x:=l) (e:=l) (by rw [hH];exact trivial) (.inl rfl) (λb' u hb hu=>(Heap.get?_update_other s.heap (Obj.mapSeq f) (Ne.symm hb)).trans hu) ⟨_,q⟩ ?_
  exact ⟨hz,its',_,hv,q⟩
theorem Inv.lnew {its : List Value}{t' : Nat}(I : Inv X pins σ H s)(hv : t9 ys its)(hz : ys.length <= sizeLine) :
    Inv X pins σ (upd H s.heap.objs.size (.lst ys)) { s with heap:=s.heap.push { cls:=.type "list",data:=.seq its.toArray },toks:=t' } :=
  I.laid (λ_ _ q=>al _ q) (ah _) ⟨hz,its,0,hv,aA _ rfl⟩
theorem Inv.lstM (I:Inv X pins σ H s)(hH:H l=some (.lst xs)):xs.length<=sizeLine/\∃(its:List Value) (n:Nat),t9 xs its/\xs.length=its.length/\s.heap.get? l=some { cls:=.type "list",data:=.seq its.toArray n }:=by
  obtain ⟨z,its,n,r,e⟩:=I.hok l _ hH
  exact ⟨z,its,n,r,r.length,e⟩
theorem yv4 {n:Nat}(h:n<=sizeLine):Builtin.List.listTooLong n=false:=by
  unfold Builtin.List.listTooLong
  exact decide_eq_false (by omega)
end
section
variable {X:Cx}
def xe7:V->List V->Hp->VK->Prop:=λx vs H Q=>∃l xs y,x=.ref l/\vs=[y]/\H l=some (.lst xs)/\xs.length<sizeLine/\Q .non (upd H l (.lst (xs++[y])))
theorem X9:MtM X "list.append" xe7:=by
  intro pins s σ H x vs v us Q I rx rv h
  obtain ⟨l,xs,y,rfl,rfl,hH,hz,q⟩:=h
  cases rx
  obtain ⟨u,rfl,ru⟩:=rv.one
  obtain ⟨z,its,n,r,hl,e⟩:=I.lstM hH
  refine call_meets F.slot_list_append ⟨_,e,rfl⟩ F.entry_list_append (F.args_list_append_2 _ _) (PySem.list_append l its.toArray n u (by rw [aB];omega)) ⟨e,?_⟩
  refine ⟨.non,_,I.lset (its':=its++[u]) hH e (by simp) (r.append (.cons ru .nil)) ?_,rfl,q⟩
  rw [af,bD]
  omega
def xe8:V->List V->Hp->VK->Prop:=λx vs H Q=>∃l b xs zs,x=.ref l/\vs=[.ref b]/\H l=some (.lst xs)/\H b=some (.lst zs)/\xs.length+zs.length<=sizeLine/\Q .non (upd H l (.lst (xs++zs)))
theorem zd0:MtM X "list.extend" xe8:=by
  intro pins s σ H x vs v us Q I rx rv h
  obtain ⟨l,b,xs,zs,rfl,rfl,hH,hB,hz,q⟩:=h
  cases rx
  obtain ⟨u,rfl,ru⟩:=rv.one
  cases ru
  obtain ⟨z,its,n,r,hl,e⟩:=I.lstM hH
  obtain ⟨z2,its2,n2,r2,hl2,e2⟩:=I.lstM hB
  have hsz:its.toArray.size+its2.toArray.size<=sizeLine:=by rw [aB,aB];omega
  have hlong:¬(!its.toArray.isEmpty&&Builtin.List.listTooLong (its.toArray.size+its2.toArray.size))=true:=by
    rw [yv4 hsz,eE]
    exact aE
  refine call_meets F.slot_list_extend ⟨_, e, rfl⟩ F.entry_list_extend (F.args_list_extend_2 _ _)
    (AutoSeq1.list_extend_list_list_0 l its.toArray n b its2.toArray n2 hlong (by rw [aB];omega) (by omega)) ⟨e,e2,?_⟩
  refine ⟨.non,_,I.lset (its':=its++its2) hH e (by simp) (r.append r2) ?_,rfl,q⟩
  rw [af]
  omega
def xm8:V->List V->Hp->VK->Prop:=λx vs H Q=>∃l xs i k y,x=.ref l/\vs=[.int i]/\H l=some (.lst xs)/\-(2 ^ 63)<=i/\i<2 ^ 63/\seqIndex? i xs.length=some k/\xs[k]?=some y/\Q y (upd H l (.lst (xs.eraseIdx k)))
theorem yv1:MtM X "list.pop" xm8:=by
  intro pins s σ H x vs v us Q I rx rv h
  obtain ⟨l,xs,i,k,y,rfl,rfl,hH,h1,h2,hk,hy,q⟩:=h
  cases rx
  obtain ⟨u,rfl,ru⟩:=rv.one
  obtain ⟨t,rfl⟩:=ru
  obtain ⟨z,its,n,r,hl,e⟩:=I.lstM hH
  obtain ⟨w,hw,rw'⟩:=r.get hy
  refine call_meets F.slot_list_pop ⟨_, e, rfl⟩ F.entry_list_pop (F.args_list_pop_2 _ _)
    (MeetsSeq.list_pop_at l its.toArray n i t k w (fitsIndex_both h1 h2) (by rw [aB,←hl];exact hk) (by rw [←bC];exact hw) (by rw [aB];omega)) ⟨e,?_⟩
  refine ⟨y,_,I.lset (its':=its.eraseIdx k) hH e ?_ (r.eraseIdx k) ?_,rw',q⟩
  . show its.toArray.eraseIdxIfInBounds k = (its.eraseIdx k).toArray
    rw [List.eraseIdxIfInBounds_toArray]
  . have := zr7 xs k
    omega
end
section
variable {prog:Program}{w:World}{A:Around}{E:Value->Shared->Prop}{s:Shared}
end
section
variable {X:Cx}
end
section
variable {κ:Type}[DecidableEq κ]
def L5 (kvs:List (κ×V))(k:κ):Option V:=(kvs.find? λkv=>decide (kv.1=k)).map (·.2)
def putK (kvs:List (κ×V))(k:κ)(v:V):List (κ×V) :=
  if (kvs.any λkv=>decide (kv.1=k))=true then kvs.map (λkv=>if kv.1=k then (kv.1,v) else kv) else kvs++[(k,v)]
theorem N3 {p:κ×V}{r:List (κ×V)}{k:κ}(e:p.1=k):L5 (p::r) k=some p.2:=by simp [L5,cF,e]
theorem T4 {p:κ×V}{r:List (κ×V)}{k:κ}(e:¬p.1=k):L5 (p::r) k=L5 r k:=by simp [L5,cF,e]
theorem N2 (k : κ) : ∀kvs : List (κ×V), (kvs.any λkv => decide (kv.1 = k)) = (L5 kvs k).isSome
  | []=>rfl
  | p::r=>by
    rw [eP]
    by_cases e:p.1=k
    . simp only [N3 e,decide_eq_true e,Bool.true_or,Option.isSome_some]
    . rw [T4 e,decide_eq_false e,Bool.false_or];exact N2 k r
theorem K7 (kvs:List (κ×V))(k:κ)(v:V):(putK kvs k v).length<=kvs.length+1:=by
  unfold putK
  split
  . rw [ae];omega
  . rw [af,aC,di];omega
theorem zm0 {kvs:List (κ×V)}{k:κ}(v:V)(h:L5 kvs k=none):putK kvs k v=kvs++[(k,v)]:=by
  unfold putK
  rw [N2,h]
  exact if_neg (by decide)
theorem E2.isSome_eq {o:Option V}{u:Option Value}(r:E2 o u):o.isSome=u.isSome:=by
  cases o with
  | none=>cases u with
    | none=>rfl
    | some _=>exact (show False from r).elim
  | some _=>cases u with
    | none=>exact (show False from r).elim
    | some _=>rfl
theorem KV.val {kvs:List (κ×V)}{vs:List (κ×Value)}(r:KV kvs vs)(k:κ):E2 (L5 kvs k) (valueAt vs k):=by
  unfold KV at r
  induction r with
  | nil=>exact True.intro
  | @cons p q ps qs h t ih =>
    obtain ⟨h1,h2⟩:=h
    by_cases e:p.1=k
    . have e' : q.1 = k := h1.symm.trans e
      have b:valueAt (q::qs) k=some q.2:=by simp [valueAt,cF,e']
      rw [N3 e,b];exact h2
    . have e' : ¬q.1 = k := λz => e (h1.trans z)
      have b:valueAt (q::qs) k=valueAt qs k:=by simp [valueAt,cF,e']
      rw [T4 e,b];exact ih
theorem KV.any {kvs:List (κ×V)}{vs:List (κ×Value)}(r:KV kvs vs)(k:κ):(kvs.any λkv=>decide (kv.1=k))=vs.any λkv=>decide (kv.1=k):=by
  unfold KV at r
  induction r with
  | nil=>rfl
  | cons h t ih=>rw [eP,eP,ih,h.1]
theorem KV.repl {kvs : List (κ×V)}{vs : List (κ×Value)}(r : KV kvs vs)(k : κ){y : V}{u : Value}(ry : p0 y u) :
    KV (kvs.map λkv=>if kv.1=k then (kv.1,y) else kv) (vs.map λkv=>if kv.1=k then (kv.1,u) else kv):=by
  unfold KV at r ⊢
  induction r with
  | nil=>exact .nil
  | @cons p q ps qs h t ih =>
    rw [aI,aI]
    refine .cons ?_ ih
    obtain ⟨h1,h2⟩:=h
    by_cases e:p.1=k
    . rw [if_pos e,if_pos (h1.symm.trans e)];exact ⟨h1,ry⟩
    . rw [if_neg e,if_neg (λz=>e (h1.trans z))];exact ⟨h1,h2⟩
theorem KV.put {kvs:List (κ×V)}{vs:List (κ×Value)}(r:KV kvs vs)(k:κ){y:V}{u:Value}(ry:p0 y u):KV (putK kvs k y) (stored vs k u):=by
  unfold putK stored
  rw [r.any k]
  by_cases e:(vs.any λkv=>decide (kv.1=k))=true
  . rw [if_pos e,if_pos e];exact r.repl k ry
  . rw [if_neg e,if_neg e];exact Paired.snoc r ⟨rfl,ry⟩
theorem KV.length {kvs:List (κ×V)}{vs:List (κ×Value)}(r:KV kvs vs):kvs.length=vs.length:=Paired.length r
end
theorem zz8 {P:Program}{w:World}{k:Key}{u:Value}(r:p0 (kV k) u):(f7 P w).is k u=true:=by
  cases k with
  | inl i=>obtain ⟨t,e⟩:=(show ∃t,u=Value.int i t from r);subst e;exact ya4 P w i t
  | inr x=>obtain ⟨t,e⟩:=(show ∃t,u=Value.str x t from r);subst e;exact ya5 P w x t
theorem zr6 {P : Program}{w : World} : ∀{ks : List Key} {us : List Value}, t9 (ks.map kV) us -> ItemsAre (f7 P w) ks us
  | [],_,r=>by rw [cq] at r;cases r;exact .nil
  | k::ks,_,r=>by
    rw [aI] at r
    cases r with
    | cons h t=>exact .cons (zz8 h) (zr6 t)
abbrev KT (H:Hp):List (List Key×V)->List (List Key×Addr×Value)->Prop:=Paired λp q=>p.1=q.1/\H q.2.1=some (.tup (p.1.map kV))/\p0 p.2 q.2.2
theorem KT.val {H:Hp}{kvs:List (List Key×V)}{xs:List (List Key×Addr×Value)}(r:KT H kvs xs)(k:List Key):E2 (L5 kvs k) ((atKey xs k).map (·.2)):=by
  induction r with
  | nil=>exact True.intro
  | @cons p q ps qs h t ih =>
    obtain ⟨h1,_,h2⟩:=h
    by_cases e:p.1=k
    . have e' : q.1 = k := h1.symm.trans e
      have b:atKey (q::qs) k=some q.2:=by simp [atKey,cF,e']
      rw [N3 e,b];exact h2
    . have e' : ¬q.1 = k := λz => e (h1.trans z)
      have b:atKey (q::qs) k=atKey qs k:=by simp [atKey,cF,e']
      rw [T4 e,b];exact ih
theorem KT.repl {H : Hp}{kvs : List (List Key×V)}{xs : List (List Key×Addr×Value)}(r : KT H kvs xs)(k : List Key){y : V}{u : Value}(ry : p0 y u) :
    KT H (kvs.map λkv=>if kv.1=k then (kv.1,y) else kv) (xs.map (putAt k u)):=by
  induction r with
  | nil=>exact .nil
  | @cons p q ps qs h t ih =>
    rw [aI,aI]
    refine .cons ?_ ih
    obtain ⟨h1,h2,h3⟩:=h
    unfold putAt
    by_cases e:p.1=k
    . rw [if_pos e,if_pos (h1.symm.trans e)];exact ⟨h1,h2,ry⟩
    . rw [if_neg e,if_neg (λz=>e (h1.trans z))];exact ⟨h1,h2,h3⟩
theorem KT.put {H : Hp}{kvs : List (List Key×V)}{xs : List (List Key×Addr×Value)}(r : KT H kvs xs)(k : List Key){b : Addr}{y : V}{u : Value}(hb : H b = some (.tup (k.map kV)))(ry : p0 y u) :
    KT H (putK kvs k y) (storedH xs k b u):=by
  have e:(kvs.any λkv=>decide (kv.1=k))=(atKey xs k).isSome:=by
    rw [N2,(r.val k).isSome_eq,eW]
  unfold putK storedH
  rw [e]
  by_cases q:(atKey xs k).isSome=true
  . rw [if_pos q,if_pos q];exact r.repl k ry
  . rw [if_neg q,if_neg q];exact Paired.snoc r ⟨rfl,hb,ry⟩
theorem KT.keeps {H H':Hp}{kvs:List (List Key×V)}{xs:List (List Key×Addr×Value)}(r:KT H kvs xs)(ht:∀b ys,H b=some (.tup ys)->H' b=some (.tup ys)):KT H' kvs xs :=
  Paired.mapP r λ_ _ z=>⟨z.1,ht _ _ z.2.1,z.2.2⟩
section
variable {P:Program}{w:World}{H:Hp}{h:Heap}{a:Addr}
theorem xi2 {u:HO}(ok:HOk P w H h)(e:Rd H a u):p9 P w H h a u:=e.ok ok
theorem yj7 {kvs:List (Key×V)}(ok:HOk P w H h)(e:Rd H a (.dK kvs)):kvs.length<=sizeLine/\(a==sysModules)=false/\∃vs,KV kvs vs/\h.DictOf (f7 P w) a vs :=
  show p9 P w H h a (.dK kvs) from xi2 ok e
theorem ys5 {kvs:List (Key×V)}(ok:HOk P w H h)(e:H a=some (.dK kvs)):kvs.length<=sizeLine/\(a==sysModules)=false/\∃vs,KV kvs vs/\h.DictOf (f7 P w) a vs:=yj7 ok (.inl e)
theorem zu4 {ks:List Key}(ok:HOk P w H h)(e:H a=some (.tup (ks.map kV))):(tupleKind (f7 P w)).is h ks a:=by
  obtain ⟨_,its,r,o,h1,h2,n,h3⟩:=(show p9 P w H h a (.tup (ks.map kV)) from ok a _ e)
  exact ⟨o,its.toArray,n,h1,h2,h3.1,by simpa using zr6 r⟩
theorem yj8 {kvs:List (List Key×V)}(ok:HOk P w H h)(e:Rd H a (.dT kvs)):kvs.length<=sizeLine/\(a==sysModules)=false /\
    ∃xs,KT H kvs xs/\h.DictOfH (tupleKind (f7 P w)) a xs:=by
  obtain ⟨z,y,xs,r,o,es,ep,h1,h2,h3,h4,h5⟩:=(show p9 P w H h a (.dT kvs) from xi2 ok e)
  refine ⟨z,y,xs,r,o,es,ep,h1,h2,h3,h4,λx hx=>?_,h5⟩
  have all:∀{l:List (List Key×V)} {m:List (List Key×Addr×Value)},KT H l m->∀x∈m,(tupleKind (f7 P w)).is h x.1 x.2.1:=by
    intro l m q
    induction q with
    | nil=>intro x hx;exact nomatch hx
    | @cons p q ps qs hq t ih =>
      intro x hx
      rcases aq.mp hx with e|hx
      . subst e
        exact zu4 ok (by rw [←hq.1];exact hq.2.1)
      . exact ih x hx
  exact all r x hx
theorem xh4 {kvs:List (List Key×V)}(ok:HOk P w H h)(e:H a=some (.dT kvs)):kvs.length<=sizeLine/\(a==sysModules)=false /\
    ∃xs,KT H kvs xs/\h.DictOfH (tupleKind (f7 P w)) a xs:=yj8 ok (.inl e)
end
def V5 (H:Hp)(a:Addr)(y:V)(r:Option V):Prop :=
  (∃kvs k,Rd H a (.dK kvs)/\y=kV k/\r=L5 kvs k)∨∃kvs k b,Rd H a (.dT kvs)/\y=.ref b/\H b=some (.tup (k.map kV))/\r=L5 kvs k
def zs5 (H:Hp)(a:Addr)(y v:V)(H':Hp):Prop :=
  (∃kvs k,H a=some (.dK kvs)/\y=kV k/\kvs.length<sizeLine/\H'=upd H a (.dK (putK kvs k v))) ∨
  ∃kvs k b,H a=some (.dT kvs)/\y=.ref b/\H b=some (.tup (k.map kV))/\kvs.length<sizeLine/\H'=upd H a (.dT (putK kvs k v))
theorem V5.k {H:Hp}{a:Addr}{kvs:List (Key×V)}{k:Key}(e:H a=some (.dK kvs)):V5 H a (kV k) (L5 kvs k):=.inl ⟨kvs,k,.inl e,rfl,rfl⟩
theorem V5.t {H:Hp}{a b:Addr}{kvs:List (List Key×V)}{k:List Key}(e:H a=some (.dT kvs))(eb:H b=some (.tup (k.map kV))):V5 H a (.ref b) (L5 kvs k):=.inr ⟨kvs,k,b,.inl e,rfl,eb,rfl⟩
theorem zs5.k {H:Hp}{a:Addr}{kvs:List (Key×V)}{k:Key}{v:V}(e:H a=some (.dK kvs))(hl:kvs.length<sizeLine):zs5 H a (kV k) v (upd H a (.dK (putK kvs k v))):=.inl ⟨kvs,k,e,rfl,hl,rfl⟩
theorem zs5.t {H : Hp}{a b : Addr}{kvs : List (List Key×V)}{k : List Key}{v : V}(e : H a = some (.dT kvs))(eb : H b = some (.tup (k.map kV)))(hl : kvs.length<sizeLine) :
    zs5 H a (.ref b) v (upd H a (.dT (putK kvs k v))):=.inr ⟨kvs,k,b,e,rfl,eb,hl,rfl⟩
section
variable {X:Cx}{pins:List (Addr×Obj)}{σ:St}{H:Hp}{s:Shared}{a:Addr}{y v:V}{u r:Value}{o:Option V}{A:Around}{E:Value->Shared->Prop}
theorem Inv.big (I:Inv X pins σ H s):sysModules<s.heap.objs.size:=by
  have h:mainGlobals<s.heap.objs.size:=(I.mod.glob.keeps I.bk).lt
  exact fF (by decide) h
theorem yn7 {Q : Value -> Shared -> Prop}(hu : A.units+1<cLine)(I : Inv X pins σ H s)(g : V5 H a y (some v))(ry : p0 y u)(h : ∀w' s', Inv X pins σ H s' -> p0 v w' -> Q w' s') :
    wpAny (model X.prog X.w) A (getItem (.ref a) u) Q E s:=by
  rcases g with ⟨kvs,k,e,ey,l⟩|⟨kvs,k,b,e,ey,eb,l⟩
  . subst ey
    obtain ⟨z,hd,vs,rel,dd⟩:=yj7 I.hok e
    obtain ⟨w',hw,rw'⟩:=E2.some_of (v:=v) (o:=valueAt vs k) (by rw [l];exact rel.val k)
    exact wpAny_getItem_of (zz8 ry) dd.mapOf hw (h w' _ (I.tok _) rw')
  . subst ey
    cases (show u=Value.ref b from ry)
    obtain ⟨z,hd,xs,rel,dd⟩:=yj8 I.hok e
    obtain ⟨w',hw,rw'⟩:=E2.some_of (v:=v) (o:=(atKey xs k).map (·.2)) (by rw [l];exact rel.val k)
    obtain ⟨p,hp,hp2⟩:=dB.mp hw
    refine wpAny_getItem_heap (tupleKind_room_in1 hu) (zu4 I.hok eb) dd hp ?_
    rw [hp2]
    exact h w' _ (I.tok _) rw'
theorem xa9 {Q : Value -> Shared -> Prop}(hu : A.units+1<cLine)(I : Inv X pins σ H s)(g : V5 H a y o)(ry : p0 y u)(h : ∀s', Inv X pins σ H s' -> Q (.bool (!o.isSome)) s') :
    wpAny (model X.prog X.w) A (compareOp .NotIn u (.ref a)) Q E s:=by
  rcases g with ⟨kvs,k,e,ey,l⟩|⟨kvs,k,b,e,ey,eb,l⟩
  . subst ey
    obtain ⟨z,hd,vs,rel,dd⟩:=yj7 I.hok e
    refine wpAny_notIn_of (zz8 ry) hd dd.mapOf ?_
    rw [←(rel.val k).isSome_eq,←l]
    exact h _ (I.tok _)
  . subst ey
    cases (show u=Value.ref b from ry)
    obtain ⟨z,hd,xs,rel,dd⟩:=yj8 I.hok e
    refine wpAny_notIn_heap (tupleKind_room_in1 hu) (zu4 I.hok eb) hd dd ?_
    have q:=(rel.val k).isSome_eq
    rw [eW] at q
    rw [←q,←l]
    exact h _ (I.tok _)
theorem zt5 {h' : Heap}{t' : Nat}{ob : HO}(I : Inv X pins σ H s)(mu : Mut (H a))(hs : Heap.SameBut a s.heap h')(he : ∃q, h'.get? a = some q)(new : p9 X.prog X.w (upd H a ob) h' a ob) :
    Inv X pins σ (upd H a ob) { s with heap:=h',toks:=t' } :=
  I.write (x:=a) (e:=a) mu (.inl rfl) (λb q hb z=>(hs.2 b hb).trans z) he new
theorem ys4 {P : Program}{w : World}{H' : Hp}{h' : Heap}{kvs : List (Key×V)}{vs : List (Key×Value)}(z : kvs.length <= sizeLine)(hd : (a==sysModules) = false)(rel : KV kvs vs)(dd : h'.DictOf (f7 P w) a vs) :
    p9 P w H' h' a (.dK kvs):=⟨z,hd,vs,rel,dd⟩
theorem yn8 {H' : Hp}{Q : Unit -> Shared -> Prop}(hu : A.units+1<cLine)(I : Inv X pins σ H s)(g : zs5 H a y v H')(ry : p0 y u)(rv : p0 v r)(h : ∀s', Inv X pins σ H' s' -> Q () s') :
    wpAny (model X.prog X.w) A (setItem (.ref a) u r) Q E s:=by
  rcases g with ⟨kvs,k,e,ey,l,eH⟩|⟨kvs,k,b,e,ey,eb,l,eH⟩
  . subst ey eH
    obtain ⟨z,hd,vs,rel,dd⟩:=ys5 I.hok e
    have hz:vs.length<=sizeLine:=by rw [←rel.length];exact z
    have hl:(putK kvs k v).length<=sizeLine:=by have:=K7 kvs k v;omega
    refine wpAny_setItem_pairs (hsz:=hz) (zz8 ry) dd λh' dd' hs=>h _ ?_
    have he:∃q,h'.get? a=some q:=let ⟨q,_,_,hq,_⟩:=dd';⟨q,hq⟩
    exact zt5 I (by rw [e];exact True.intro) hs he (ys4 hl hd (rel.put k rv) dd')
  . subst ey eH
    cases (show u=Value.ref b from ry)
    obtain ⟨z,hd,xs,rel,dd⟩:=xh4 I.hok e
    have hz:xs.length<=sizeLine:=by rw [←Paired.length rel];exact z
    have hl:(putK kvs k v).length<=sizeLine:=by have:=K7 kvs k v;omega
    refine wpAny_setItem_heap (hsz:=hz) (tupleKind_room_in1 hu) (zu4 I.hok eb) dd λh' dd' hs=>h _ ?_
    obtain ⟨q,es,ep,hq,h2,h3,h4,_,h5⟩:=dd'
    refine zt5 I (by rw [e];exact True.intro) hs ⟨q,hq⟩ ⟨hl,hd,_,(rel.put k eb rv).keeps λc ys ec=>?_,q,es,ep,hq,h2,h3,h4,h5⟩
    rw [z6 (i6 ec e (λz=>nomatch z))]
    exact ec
end
section
variable {X:Cx}{pins:List (Addr×Obj)}{σ:St}{H:Hp}{s:Shared}{a:Addr}{kvs:List (Key×V)}{k:Key}{u:Value}{A:Around}{E:Value->Shared->Prop}
end
def xp0 (i:Expr):Prop:=∀ov iv,subscripted i false ov iv=operate [ov,iv] (getItem ov iv)
theorem xg1 {prog : Program}{w : World}{A : Around}{E : Value -> Shared -> Prop}{s : Shared}{env : Env}{value slice : Expr}{pos : Pos}{T id : String}{Q : Value -> Shared -> Prop}
    (hl:typeLookup (.type T) "__getitem__"=pure (some (.builtin id))) (hs:xp0 slice)
    (h:wpAny (model prog w) A (eval value env) (λo s₁=>wpAny (model prog w) A (eval slice env) (λi s₂=>s₂.TypeIs o T/\wpAny (model prog w) A (getItem o i) Q E s₂) E s₁) E s) :
    wpAny (model prog w) A (eval (.Subscript value slice pos) env) Q E s:=by
  refine Subscript_ (wpAny_mono h (λo s₁ h₁=>wpAny_mono h₁ (λi s₂ h₂=>?_) λ_ _ x=>x) λ_ _ x=>x)
  obtain ⟨hT,h₂⟩:=h₂
  unfold subscriptTail
  refine wpAny_bind ?_
  rw [getitemInPython_of_ne hT.not_modules]
  refine wpAny_bind (wpAny_specialOf hT hl ?_)
  have fin:wpAny (model prog w) A (subscripted slice false o i) (λr s₃=>wpAny (model prog w) A (letTemporaryGo value o r >>= λ_=>pure r) Q E s₃) E s₂:=by
    rw [hs o i]
    exact wpAny_operating (wpAny_mono h₂ (λr s₃ h₃=>wpAny_bind (wpAny_letTemporaryGo (wpAny_pure h₃))) λ_ _ x=>x)
  first
    | exact wpAny_pure (wpAny_bind fin)
    | exact wpAny_bind (wpAny_pure (wpAny_bind fin))
    | exact wpAny_bind fin
theorem zz1 {X:Cx}{pins:List (Addr×Obj)}{σ:St}{H:Hp}{s:Shared}{a:Addr}{y:V}{o:Option V}(I:Inv X pins σ H s)(g:V5 H a y o):s.TypeIs (.ref a) "dict":=by
  rcases g with ⟨kvs,k,e,_,_⟩|⟨kvs,k,b,e,_,_,_⟩
  . obtain ⟨_, _, vs, _, dd⟩ := yj7 I.hok e
    exact dd.typeIs
  . obtain ⟨_, _, xs, _, dd⟩ := yj8 I.hok e
    exact dd.typeIs
def xs2 (td ty:TE):TE:=λσ H Q=>td σ H λx H1=>ty σ H1 λy H2=>∃a v,x=.ref a/\V5 H2 a y (some v)/\Q v H2
def xg3 (ty td:TE):TE:=λσ H Q=>ty σ H λy H1=>td σ H1 λx H2=>∃a o,x=.ref a/\V5 H2 a y o/\Q (.bl (!o.isSome)) H2
def xr8 (td ty tv:TE):TS:=λD σ H=>tv σ H λv H1=>td σ H1 λx H2=>ty σ H2 λy H3=>∃a H4,x=.ref a/\zs5 H3 a y v H4/\D.nx σ H4
section
variable {X:Cx}{o i e value:Expr}{pos pos' tpos:Pos}{td ty tv:TE}
theorem Q9 (hu:X.A.units+1<cLine)(ho:PE X o td)(hi:PE X i ty)(hs:xp0 i):PE X (.Subscript o i pos) (xs2 td ty):=by
  intro pins s σ H Q I h
  refine xg1 PySem.F.slot_dict_getitem.lookup hs (thn (ho pins s σ H _ I h) λu s1 ⟨x,H1,I1,rx,q1⟩=>thn (hi pins s1 σ H1 _ I1 q1) λiv s2 ⟨y,H2,I2,ry,a,v,ex,g,q2⟩=>?_)
  subst ex
  obtain rfl:u=Value.ref a:=rx
  exact ⟨zz1 I2 g,yn7 hu I2 g ry λw' s3 I3 rw'=>⟨v,H2,I3,rw',q2⟩⟩
theorem F0 (hu:X.A.units+1<cLine)(hi:PE X i ty)(ho:PE X o td):PC X .NotIn i o (xg3 ty td):=by
  intro pins s σ H Q I h
  refine thn (hi pins s σ H _ I h) λiv s1 ⟨y,H1,I1,ry,q1⟩=>thn (ho pins s1 σ H1 _ I1 q1) λu s2 ⟨x,H2,I2,rx,a,ov,ex,g,q2⟩=>?_
  subst ex
  obtain rfl:u=Value.ref a:=rx
  exact xa9 hu I2 g ry λs3 I3=>⟨.bl (!ov.isSome),H2,I3,rfl,q2⟩
theorem za1 (hu : X.A.units+1<cLine)(ho : PE X o td)(hi : PE X i ty)(hv : PE X value tv)(hs : swapsWith value (some (.Subscript o i pos')) pos.line X.env = pure false) :
    PS X (.Assign [.Subscript o i pos'] value pos) (xr8 td ty tv):=by
  intro pins s σ H D I h
  refine wpAny_Assign_Subscript (thn (hv pins s σ H _ I h) λr s1 ⟨v,H1,I1,rv,q1⟩=>thn (ho pins s1 σ H1 _ I1 q1) λu s2 ⟨x,H2,I2,rx,q2⟩=>thn (hi pins s2 σ H2 _ I2 q2) λiv s3 ⟨y,H3,I3,ry,a,H4,ex,g,q3⟩=>?_) hs
  subst ex
  obtain rfl:u=Value.ref a:=rx
  exact yn8 hu I3 g ry rv λs4 I4=>⟨σ,H4,I4,q3⟩
end
theorem ys3 {P:Program}{w:World}{H:Hp}(h:Heap)(hb:sysModules<h.objs.size):p9 P w H (h.push { cls:=.type "dict",data:=.dict #[] }) h.objs.size (.dK []) :=
  ⟨aR _,beq_eq_false_iff_ne.mpr (Ne.symm (aO hb)),[],.nil,Heap.DictOf.new h⟩
theorem ys7 {P:Program}{w:World}{H:Hp}(h:Heap)(hb:sysModules<h.objs.size):p9 P w H (h.push { cls:=.type "dict",data:=.dict #[] }) h.objs.size (.dT []) :=
  ⟨aR _,beq_eq_false_iff_ne.mpr (Ne.symm (aO hb)),[],.nil,_,#[],0,aA _ rfl,⟨rfl,rfl,rfl⟩,rfl,rfl,eA⟩
def xn9:TE:=λ_ H Q=>∀p,H p=none->Q (.ref p) (upd H p (.dT []))
section
variable {X:Cx}{pos:Pos}
theorem yb3:PE X (.Dict [] [] pos) xn9:=λpins s σ H Q I h =>
  wpAny_Dict_empty ⟨.ref s.heap.objs.size,_,I.laid (a:=s.heap.objs.size) (o:=.dT []) (t':=s.toks) (λ_ _ q=>al _ q) (ah _) (ys7 s.heap I.big),rfl,h _ (I.hok.fresh (ah _))⟩
end
def yi4 : List (TE×TE) -> St -> Hp -> (List (V×V) -> Hp -> Prop) -> Prop
  | [],_,H,Q=>Q [] H
  | (tk,tv)::r,σ,H,Q=>tk σ H λx H1=>tv σ H1 λy H2=>yi4 r σ H2 λps H3=>Q ((x,y)::ps) H3
abbrev VV:List (V×V)->List (Value×Value)->Prop:=Paired λp q=>p0 p.1 q.1/\p0 p.2 q.2
def PPs (X:Cx)(pos:Pos)(keys:List (Option Expr))(values:List Expr)(trs:List (TE×TE)):Prop :=
  ∀(pins:List (Addr×Obj)) (s:Shared) (σ:St) (H:Hp) (Q:List (V×V)->Hp->Prop),Inv X pins σ H s->yi4 trs σ H Q ->
    wpAny (model X.prog X.w) X.A (evalPairs (pairTrees keys values X.env pos)) (λvs s'=>∃ps H',Inv X pins σ H' s'/\VV ps vs/\Q ps H') X.xe s
theorem zw8 {X:Cx}{pos:Pos}:PPs X pos [] [] []:=λpins s σ H Q I h=>pairTrees_nil_walk ⟨[],H,I,.nil,h⟩
theorem zl5 {X : Cx}{pos : Pos}{k v : Expr}{ks : List (Option Expr)}{vs : List Expr}{tk tv : TE}{trs : List (TE×TE)}(hk : PE X k tk)(hv : PE X v tv)(hr : PPs X pos ks vs trs) :
    PPs X pos (some k::ks) (v::vs) ((tk,tv)::trs):=λpins s σ H Q I h =>
  pairTrees_cons_walk (thn (hk pins s σ H _ I h) λu s1 ⟨x,H1,I1,rx,q1⟩=>thn (hv pins s1 σ H1 _ I1 q1) λw2 s2 ⟨y,H2,I2,ry,q2⟩ =>
    thn (hr pins s2 σ H2 _ I2 q2) λws s3 ⟨ps,H3,I3,rel,q3⟩=>⟨(x,y)::ps,H3,I3,.cons ⟨rx,ry⟩ rel,q3⟩)
def X5 (kvs more:List (Key×V)):List (Key×V):=more.foldl (λacc kv=>putK acc kv.1 kv.2) kvs
theorem KV.merge:∀{more:List (Key×V)} {rs:List (Key×Value)} {kvs:List (Key×V)} {vs:List (Key×Value)},KV more rs->KV kvs vs->KV (X5 kvs more) (merged vs rs):=by
  intro more rs kvs vs r
  unfold KV at r
  induction r generalizing kvs vs with
  | nil=>intro q;exact q
  | @cons p q ps qs h t ih =>
    intro r0
    have e:KV (putK kvs p.1 p.2) (stored vs q.1 q.2):=by
      have:=r0.put p.1 h.2
      rw [←h.1];exact this
    exact ih e
theorem E5 : ∀(more kvs : List (Key×V)), (X5 kvs more).length <= kvs.length+more.length
  | [],kvs=>by show kvs.length<=kvs.length+0;omega
  | p::r,kvs=>by
    have h1:=E5 r (putK kvs p.1 p.2)
    have h2:=K7 kvs p.1 p.2
    show (X5 (putK kvs p.1 p.2) r).length<=_
    rw [aC];omega
theorem zi9 {P : Program}{w : World} : ∀{kvs : List (Key×V)} {ws : List (Value×Value)}, VV (kvs.map λkv => (kV kv.1, kv.2)) ws -> ∃rs, Carries (f7 P w) ws rs /\ KV kvs rs
  | [],_,r=>by rw [cq] at r;cases r;exact ⟨[],True.intro,.nil⟩
  | p::kvs,_,r=>by
    rw [aI] at r
    cases r with
    | @cons a b as bs h t =>
      obtain ⟨rs,c,q⟩:=zi9 (P:=P) (w:=w) t
      obtain ⟨b1,b2⟩:=b
      exact ⟨(p.1,b2)::rs,⟨zz8 h.1,rfl,c⟩,.cons ⟨rfl,h.2⟩ q⟩
def xs3 (trs:List (TE×TE)):TE:=λσ H Q=>∀p,H p=none->yi4 trs σ (upd H p (.dK [])) λps H2=>H2 p=some (.dK [])/\∃kvs:List (Key×V),ps=kvs.map (λkv=>(kV kv.1,kv.2))/\kvs.length<=15/\Q (.ref p) (upd H2 p (.dK (X5 [] kvs)))
theorem zw3 {X : Cx}{pos : Pos}{keys : List (Option Expr)}{values : List Expr}{trs : List (TE×TE)}(h : PPs X pos keys values trs)(hall : keys.all (·.isSome) = true)(hl : keys.length = values.length)(h0 : keys ≠ [])
    (h15:keys.length<=15):PE X (.Dict keys values pos) (xs3 trs):=by
  intro pins s σ H Q I q
  have hn:=I.hok.fresh (ah s.heap.objs.size)
  have I1:=I.laid (a:=s.heap.objs.size) (o:=.dK []) (h':=s.heap.push { cls:=.type "dict",data:=.dict #[] }) (t':=s.toks) (λ_ _ q=>al _ q) (ah _) (ys3 s.heap I.big)
  refine wpAny_Dict_walk (knd:=f7 X.prog X.w) hall hl h0 h15 (thn (h pins _ σ _ _ I1 (q _ hn)) λws s2 ⟨ps,H2,I2,rel,e,kvs,ep,lk,q2⟩=>?_)
  subst ep
  obtain ⟨rs,c,rk⟩:=zi9 (P:=X.prog) (w:=X.w) rel
  obtain ⟨z,hd,vs0,r0,dd⟩:=ys5 I2.hok e
  cases r0
  refine ⟨rs,c,dd,λh' dd' hs=>⟨.ref s.heap.objs.size,_,?_,rfl,q2⟩⟩
  have hz:(X5 [] kvs).length<=sizeLine:=by
    have h1:=E5 kvs []
    rw [di] at h1
    rw [sizeLine_eq];omega
  have he:∃q,h'.get? s.heap.objs.size=some q:=let ⟨q,_,_,hq,_⟩:=dd';⟨q,hq⟩
  exact zt5 I2 (by rw [e];exact True.intro) hs he (ys4 hz hd (rk.merge .nil) dd')
section
variable {X:Cx}{pins:List (Addr×Obj)}{σ:St}{H:Hp}{s:Shared}{a:Addr}{y d:V}{u r:Value}{o:Option V}{A:Around}{E:Value->Shared->Prop}
end
section
variable {X:Cx}{o e f:Expr}{apos cpos:Pos}{td ty tx:TE}
end
section
variable {X:Cx}{pins:List (Addr×Obj)}{σ:St}{H:Hp}{s:Shared}{a:Addr}{kvs:List (Key×V)}{A:Around}{E:Value->Shared->Prop}
end
section
variable {X:Cx}{pins:List (Addr×Obj)}{σ:St}{H:Hp}{s:Shared}{a:Addr}{y:V}{u:Value}{A:Around}{E:Value->Shared->Prop}
end
end L2
namespace Att
open PySem PySem.W PySem.Calls PyProof.Rows
theorem zg0 {P:Params}{h:Heap}:∀(ns:List Int) (vs:List Value),WellAll P h vs (ns.map WData.int)->IntsAre vs ns:=by
  intro ns
  induction ns with
  | nil =>
    intro vs w
    rw [cq] at w
    cases w
    exact .nil
  | cons n ns ih =>
    intro vs w
    rw [aI] at w
    cases w with
    | cons a b =>
      cases a
      exact .cons _ _ (ih _ b)
theorem yq0 {l : OpenLaw}{n : Nat}(hn : l.most = some n){P : Params}{h : Heap}{args : List WData}{vals : List Value}
    (hpre:l.row.toRowW.claim.pre args=true) (hwl:WellAll P h vals args) :
    ∃a vs ns,vals=[Value.ref a]/\args=[WData.list (ns.map WData.int)]/\h.get? a=some { cls:=.type "list",data:=.seq vs.toArray }/\IntsAre vs ns/\ns.length<=n:=by
  have hsh:WShape.hasAll [] args [.list .int]=true:=(pre_splitW hpre).1
  have hc:l.pre.holds [] { args:=args }=true:=(pre_splitW hpre).2
  obtain ⟨d,r,rfl,h1,h2⟩:=hasAllW_cons hsh
  obtain rfl:=hasAllW_nil h2
  obtain ⟨xs,rfl,h3⟩:=hasW_list h1
  obtain ⟨ns,rfl⟩:=items_int h3
  have hlen:ns.length<=n:=by
    unfold OpenLaw.pre at hc
    have h4:(WTm.not (.lt (.lit (.int n)) (.len (.arg 0)))).holds [] { args:=[.list (ns.map .int)] }=true:=by
      have h4:=(holds_andW hc).1
      rw [hn] at h4
      exact h4
    have h5:=condW_of h4 (w_not (w_lt w_lit (w_len_list (w_arg rfl))))
    rw [ae] at h5
    refine de λq=>?_
    have q':(n:Int)<((ns.length:Nat):Int):=by omega
    first
      | (rw [decide_eq_true q'] at h5;exact absurd h5 (by decide))
      | (simp at h5;omega)
  cases hwl with
  | cons w1 w2 =>
    cases w2
    cases w1 with
    | list ho hall=>exact ⟨_,_,ns,rfl,rfl,ho,zg0 ns _ hall,hlen⟩
theorem yp3 (l:OpenLaw)(args:List WData):l.row.toRowW.claim.post args (.bool true) args=true :=
  postW_of (r := l.row.toRowW) (X := (true==true))
    (show WShape.has [] (.bool true) .bool=true by first|rfl|decide|simp [WShape.has,WShape.arms,WShape.armsAll])
    (show (WTm.eq .res (.lit (.bool true))).value [] { args:=args,res:=some (.bool true),after:=args }=some (.bool (true==true)) from w_eq_bool (w_res rfl) w_lit) rfl
section
variable {prog:Program}{w:World}{A:Around}{E:Value->Shared->Prop}{s:Shared}{K:Frag}
end
end Att
namespace L2
open PySem PySem.Spec PyProof.Rows
theorem ze7 : ∀{vs : List Value} {ns : List Int}, IntsAre vs ns -> t9 (ns.map V.int) vs
  | _,_,.nil=>.nil
  | _,_,.cons n t h=>.cons ⟨t,rfl⟩ (ze7 h)
def yz8 (H:Hp):Prop:=∀b,H b=none∨∃o xs,H b=some (.frz o (.lst xs))
theorem yu4 {P : Program}{w : World}{K : W.Frag}{mg mb : Str -> Option Value}{CX : CXT}{k : Nat}{fa a : Addr}{fd : FuncData}{x : Str}{sp : Sp}{s₁ : Shared}{vs : List Value}{ns : List Int}
    (KX:K.In s₁.heap) (hns:s₁.heap.Ns mainGlobals mg) (hb:s₁.heap.Ns builtinsNs mb) (hbb:∀x:Str,x≠"__name__"->mb x=bootBuiltins x) (hlim:s₁.heap.NoLimit) (hg:s₁.gens=#[])
    (ha:s₁.heap.get? a=some { cls:=.type "list",data:=.seq vs.toArray }) (hi:IntsAre vs ns) (hl:ns.length<=sizeLine) (hr:c4 k callerA)
    (F:∀base:Heap,K.In base->base.Ns mainGlobals mg->u6 P w K mg base CX k fa fd [x] sp) (hbind:∀(s:Shared) (u:Value),BindsTo s fd ⟨[u],[]⟩ [(x,u)])
    (hsp:∀H:Hp,yz8 H->SqL K H a (ns.map V.int)->sp [.ref a] H (λv _=>v=.bl true) λ_ _ _=>False)
    (hCX:∀H e s',CX [] H s₁ (λ_ _ _=>False) e s'->False) :
    codeAny (model P w) callerA (.call (.ref fa) ⟨[.ref a],[]⟩) (λr s'=>r=.ok (.ret (.bool true))/\OldK s₁.heap s'.heap/\s'.os=s₁.os/\AllBare s'.gens) s₁:=by
  have rv:=ze7 hi
  have lenV:=hi.length
  have core:∀H:Hp,yz8 H->SqL K H a (ns.map V.int)->HOk P w H s₁.heap->(∀b,H b≠none->b=a)->(H a≠none->K.lookup a=none) ->
      codeAny (model P w) callerA (.call (.ref fa) ⟨[.ref a],[]⟩) (λr s'=>r=.ok (.ret (.bool true))/\OldK s₁.heap s'.heap/\s'.os=s₁.os/\AllBare s'.gens) s₁:=by
    intro H hO hS hok hA hK
    have base_of:∀{b:Addr} {o:Obj},s₁.heap.get? b=some o->H b=none->(zt9 s₁.heap H).get? b=some o:=λe n=>yt5 e n
    have noA:∀{b:Addr} {o:Obj} {es:Array DictEntry} {ep:Nat},s₁.heap.get? b=some o->o.data=.dict es ep->H b=none:=λ{b o es ep} e d=>by
      cases q:H b with
      | none=>rfl
      | some u =>
        have e':b=a:=hA b (by rw [q];simp)
        subst e'
        rw [ha] at e;cases e
        have d':Data.seq vs.toArray _=Data.dict es ep:=d
        cases d'
    have nsK:∀{b:Addr} {m:Str->Option Value},s₁.heap.Ns b m->(zt9 s₁.heap H).Ns b m:=λ{b m} ⟨o,es,ep,e,d,r⟩=>⟨o,es,ep,base_of e (noA e d),d,r⟩
    have hKb:K.In (zt9 s₁.heap H):=λb o e=>base_of (KX b o e) (by
      cases q:H b with
      | none=>rfl
      | some u =>
        have e':b=a:=hA b (by rw [q];simp)
        subst e'
        rw [hK (by rw [q];simp)] at e;cases e)
    have hM:Mod K mg (zt9 s₁.heap H):=⟨hKb,nsK hns,⟨mb,nsK hb,hbb⟩,let ⟨mc,h1,h2⟩:=hlim;⟨mc,nsK h1,h2⟩⟩
    have e0:yd8 P w K mg (zt9 s₁.heap H) callerA [] s₁ H:=⟨rfl,hM,λb o e=>xd1 e,eT (yo3 _ _),trivial,λb hb=>absurd (show b∈([]:List Addr) from hb) (by simp),hok,.of_eq hg⟩
    refine codeAny_mono ((F _ hKb (nsK hns)).run callerA [] s₁ H ⟨[.ref a],[]⟩ [.ref a] [.ref a] _ _ hr e0 (hbind s₁ (.ref a)) (.cons rfl .nil) (hsp H hO hS)) λr s' h=>?_
    cases r with
    | error e=>exact (hCX H e s' h).elim
    | ok fl =>
      cases fl with
      | next=>exact False.elim h
      | brk=>exact False.elim h
      | cont=>exact False.elim h
      | ret u =>
        obtain ⟨v,H',os,bare,un,hok',r',q⟩:=h
        have q':v=.bl true:=q
        subst q'
        obtain rfl:u=Value.bool true:=r'
        refine ⟨rfl,OldK.of_keep λb o e=>?_,os,bare⟩
        cases q:H b with
        | none=>exact un.keep b o e q (by intro z;exact absurd (show b∈([]:List Addr) from z) (by simp)) (by simp)
        | some u =>
          rcases hO b with z|⟨ob,xs,z⟩
          . rw [q] at z;cases z
          . have z2 := un.frzs b ob _ z
            obtain ⟨e1,_⟩:=hok b _ z
            obtain ⟨e2,_⟩:=hok' b _ z2
            rw [e] at e1;cases e1
            exact e2
  cases hk:K.lookup a with
  | some o =>
    have e:=KX a o hk
    rw [ha] at e
    cases e
    refine core (λ_=>none) (λ_=>.inl rfl) (.inr ⟨_,vs.toArray,_,hk,rfl,rfl,rfl,by rw [aB,lenV];exact hl,by simpa using rv⟩) (λb u z=>by have z':(none:Option HO)=some u:=z;cases z') (λb z=>absurd rfl z) λz=>absurd rfl z
  | none =>
    refine core (λb=>if b=a then some (.frz { cls:=.type "list",data:=.seq vs.toArray } (.lst (ns.map V.int))) else none) (λb=>?_) (.inl (.inr ⟨{ cls:=.type "list",data:=.seq vs.toArray },if_pos rfl⟩)) (λb u z=>?_) (λb z=>?_) λ_=>hk
    . by_cases hb : b = a
      . exact .inr ⟨_,_,if_pos hb⟩
      . exact .inl (if_neg hb)
    . by_cases hb : b = a
      . have z' := (if_pos hb).symm.trans z
        cases z'
        subst hb
        exact ⟨ha,by rw [ae];exact hl,vs,_,rv,ha⟩
      . have z' := (if_neg hb).symm.trans z
        cases z'
    . by_cases hb : b = a
      . exact hb
      . exact absurd (if_neg hb) z
end L2
namespace L2
open PySem PySem.Spec PyProof.Rows
def W2 (s:Stmt):Arguments:=match s with
  | .FunctionDef _ a _ _ _ _ _ _ _ _=>a
  | _=>{ posonlyargs:=[],args:=[],vararg:=none,kwonlyargs:=[],kw_defaults:=[],kwarg:=none,defaults:=[] }
def Z5 (s:Stmt):List Stmt:=match s with
  | .FunctionDef _ _ b _ _ _ _ _ _ _=>b
  | _=>[]
def z9 (s:Stmt):Scope:=match s with
  | .FunctionDef _ _ _ _ _ _ sc _ _ _=>sc
  | _=>{ kind:=.function,names:=[],isGenerator:=false,isCoroutine:=false }
abbrev CX0:CXT:=λ_ _ _ _ _ _=>False
abbrev E0:XK:=λ_ _ _=>False
theorem yl1 {X:Cx}:P3 CX0 X E0:=λ_ _ _ _ _ _ _ h=>h.elim
structure Fun (K:W.Frag) (x qual:Str) (st:Stmt) (f:Addr) (fd:FuncData):Prop where
  ex:∃(oc:Value) (od:Option Addr) (kV doc pm:Value) (an:Option Addr) (cdv ct:Value) (osl:Array (Option Value)),
    fd=W.fnOf x qual (W2 st) (Z5 st) (z9 st) .none kV doc pm an cdv ct/\K.lookup f=some ⟨oc,od,.func fd,osl⟩/\W.codeIn K cdv qual=true
  kp:W.keepIn K (.ref f)=true
section
variable {P:Program}{w:World}{K:W.Frag}{mg:Str->Option Value}{base:Heap}
theorem Fun.ok {x qual : Str}{st : Stmt}{f : Addr}{fd : FuncData}{N ps : List Str}{k : Nat}{sp : Sp}(F : Fun K x qual st f fd)(S : x9 N ps (z9 st))(len : ∀vs H Q E, sp vs H Q E -> vs.length = ps.length)
    (hbody:∀(cdv:Value) (A:Around) (outer:List Env) (s:Shared) (H:Hp) (vs:List V) (Q:VK) (E:XK),c4 k (A.deeper (envOfC qual (z9 st) s.heap.objs.size f cdv))->sp vs H Q E ->
      ∃t,PSs (Z8 CX0 P w K mg base N qual (z9 st) f cdv A outer s H E).nox (Z5 st) t/\t { nx:=λ_ H'=>Q .non H',rt:=Q } (start N vs) H):u6 P w K mg base CX0 (k+1) f fd ps sp:=by
  obtain ⟨oc,od,kV,doc,pm,an,cdv,ct,osl,rfl,lk,hcd⟩:=F.ex
  refine yt2 lk hcd S len λA outer s H vs Q E hr hsp=>?_
  obtain ⟨t,h,q⟩:=hbody cdv A outer s H vs Q E hr hsp
  exact ⟨t,h.nox,q⟩
theorem Fun.binds {x qual : Str}{st : Stmt}{f : Addr}{fd : FuncData}{ps : List Str}(F : Fun K x qual st f fd)
    (h:∀(kV doc pm:Value) (an:Option Addr) (cdv ct:Value) (us:List Value),us.length=ps.length->bindArgs (W.fnOf x qual (W2 st) (Z5 st) (z9 st) .none kV doc pm an cdv ct) ⟨us,[]⟩=pure (ps.zip us)):V6 K fd ps []:=by
  obtain ⟨oc,od,kV,doc,pm,an,cdv,ct,osl,rfl,lk,hcd⟩:=F.ex
  exact .all (h kV doc pm an cdv ct)
theorem zt8 {x qual : Str}{st : Stmt}{f : Addr}{oc : Value}{od an : Option Addr}{osl : Array (Option Value)}{kV doc pm cdv ct : Value}(l : K.lookup f = some ⟨oc, od, .func (W.fnOf x qual (W2 st) (Z5 st) (z9 st) .none kV doc pm an cdv ct), osl⟩)
    (c:W.codeIn K cdv qual=true) (k:W.keepIn K (.ref f)=true):Fun K x qual st f (W.fnOf x qual (W2 st) (Z5 st) (z9 st) .none kV doc pm an cdv ct):=⟨⟨oc,od,kV,doc,pm,an,cdv,ct,osl,rfl,l,c⟩,k⟩
end
theorem xh6 {A:Around}{k:Nat}(hr:c4 k A):A.units+1<cLine:=cJ (Nat.add_le_add_left (by decide:1<=64) _) hr.units
theorem ze3 {n:Nat}(h:n<=1000):n<sizeLine:=cJ h (by decide)
section
variable {X:Cx}
theorem pv (i : Nat){x : Str}{pos : Pos}(hN : X.N[i]? = some x := by rfl)(hv : Vis X.env.scope x := by first|exact Or.inl rfl|exact Or.inr (Or.inl rfl)|exact Or.inr (Or.inr rfl))(hd : (x==("__debug__" : Str)) = false := by decide)
    (hcd:(x==("__classdict__":Str))=false:=by decide):PE X (.Name x pos) (yq3 i):=xm3 hN hv hd hcd
end
theorem m9 {A B:Prop}(h:B):if false=true then A else B:=by
  rw [if_neg aE]
  exact h
theorem i7 {A B:Prop}(h:A):if true=true then A else B:=by
  rw [if_pos rfl]
  exact h
theorem xc2 {c A B:Prop}[Decidable c](h1:c->A)(h2:¬c->B):if c then A else B:=by
  by_cases h:c
  . rw [if_pos h]
    exact h1 h
  . rw [if_neg h]
    exact h2 h
def y4 (H H':Hp):Prop:=∀b o,H b=some o->H' b=some o
theorem y4.refl (H:Hp):y4 H H:=λ_ _ h=>h
theorem y4.trans {H H1 H2:Hp}(a:y4 H H1)(b:y4 H1 H2):y4 H H2:=λc o h=>b c o (a c o h)
theorem y4.free {H H':Hp}(e:y4 H H'){l:Addr}(h:H' l=Option.none):H l=Option.none:=by
  cases q:H l with
  | none=>rfl
  | some o =>
    rw [e l o q] at h
    cases h
theorem y4.seq {K:W.Frag}{H H':Hp}{a:Addr}{xs:List V}(e:y4 H H')(h:SqL K H a xs):SqL K H' a xs:=by
  rcases h with (h|⟨o,h⟩)|h
  . exact .inl (.inl (e _ _ h))
  . exact .inl (.inr ⟨o,e _ _ h⟩)
  . exact .inr h
section
variable {X:Cx}
end
section
variable {κ:Type}[DecidableEq κ]
end
end L2
set_option maxHeartbeats 4000000
namespace Att
open PySem PySem.W PySem.Calls PyProof.Rows
theorem yn4 {ns:List Int}{z:Int}(h:(WData.list (ns.map WData.int)).layable=true)(hz:z∈ns):Builtin.Int.intBits z<=2 ^ 20:=by
 have h1:=layableW_item h (WData.int z) (av.mpr ⟨z,hz,rfl⟩)
 obtain ⟨_,_,h3⟩:=layableW_iff.mp h1
 simpa only [WData.weight,Builtin.Int.intBits] using h3
theorem attach_callB {l:OpenLaw}{n:Nat}{q:Program}{loose:List Str}{XP:(Str->Option Value)->Heap->Prop}{YP:World->Heap->Prop}{d:DefRec}
  (hn:l.most=some n) (hdf:d.params.defaults=[])
  (call:∀(w:World) (s₀ s₁:Shared) (mg mb:Str->Option Value) (fa:Addr) (o:Obj) (pm cd doc:Value) (a:Addr) (vs:List Value) (ns:List Int),
   Ground q loose [] XP w s₀ mg mb s₁.heap->YP w s₁.heap ->
   s₁.heap.get? fa=some o->o.data=.func (docDef d.name d.params d.body d.scope pm cd doc)->s₁.heap.CodeRec cd d.name->mg d.name=some (.ref fa) ->
   s₁.heap.get? a=some { cls:=.type "list",data:=.seq vs.toArray }->IntsAre vs ns->ns.length<=n->(∀z∈ns,Builtin.Int.intBits z<=2 ^ 20)->s₁.gens=#[] ->
   codeAny (model l.prog w) callerA (.call (.ref fa) ⟨[.ref a],[]⟩) (λr s'=>r=.ok (.ret (.bool true))/\OldK s₁.heap s'.heap/\s'.os=s₁.os/\AllBare s'.gens) s₁) :
  WalkO q loose XP YP l.row.toRowW d [] (λf vs=>PySem.call f vs):=by
 intro w s₀ s₁ mg mb G Y fa o pm cd doc dV kV ho hd hcd hD hmg hg args vals as hpre hlay hrd hwl hlo
 obtain rfl:dV=.none:=Dflts.none hD hdf
 obtain rfl:kV=.none:=Dflts.noKw hD
 obtain ⟨a,vs,ns,rfl,rfl,hobj,hints,hlen⟩:=yq0 hn hpre hwl
 have hbits:∀z∈ns,Builtin.Int.intBits z<=2 ^ 20:=λz hz=>yn4 (layableW_arg hlay _ ay) hz
 refine enter_call (codeAny_mono (call w s₀ s₁ mg mb fa o pm cd doc a vs ns G Y ho (fd_plain hd) hcd hmg hobj hints hlen hbits hg) λr s' hq=>?_)
 obtain ⟨rfl,h2,h3,h4⟩:=hq
 exact ⟨.inl ⟨.bool true,.bool true,[],rfl,λ_=>rfl,.bool true,yp3 l _,λ_=>⟨List.Pairwise.nil,λ_ hm=>(nomatch hm)⟩⟩,h2,h3,h4⟩
end Att
namespace L2
open PySem PySem.Spec PyProof.Rows
theorem walk_ofB {l:W.OpenLaw}{n k:Nat}{q:Program}{loose:List Str}{XP:(Str->Option Value)->Heap->Prop}{YP:World->Heap->Prop}{d:DefRec}{K:Params->W.Frag}{CX:CXT}{sp:W.Frag->Sp}{x:Str}
  (hn:l.most=some n) (hn2:n<=sizeLine) (hdf:d.params.defaults=[]) (hr:c4 k callerA)
  (hY:∀(w:World) (h:Heap),YP w h->(K w.params).In h)
  (F:∀(w:World) (mg:Str->Option Value) (fa:Addr) (h:Heap),(K w.params).In h->h.Ns mainGlobals mg->mg d.name=some (.ref fa) ->
   ∃fd:FuncData,(∀(s:Shared) (u:Value),BindsTo s fd ⟨[u],[]⟩ [(x,u)]) /\
    ∀base:Heap,(K w.params).In base->base.Ns mainGlobals mg->u6 l.prog w (K w.params) mg base CX k fa fd [x] (sp (K w.params)))
  (hsp:∀(K:W.Frag) (H:Hp) (a:Addr) (ns:List Int),ns.length<=n->(∀z∈ns,Builtin.Int.intBits z<=2 ^ 20)->yz8 H->SqL K H a (ns.map V.int)->sp K [.ref a] H (λv _=>v=.bl true) λ_ _ _=>False)
  (hCX:∀(H:Hp) (s:Shared) (e:Value) (s':Shared),CX [] H s (λ_ _ _=>False) e s'->False) :
  W.WalkO q loose XP YP l.row.toRowW d [] (λf vs=>PySem.call f vs):=by
 refine Att.attach_callB hn hdf λw s₀ s₁ mg mb fa o pm cd doc a vs ns G Y ho hd hcd hmg hobj hints hlen hbits hg=>?_
 have KX:=hY w _ Y
 obtain ⟨fd,hb,hF⟩:=F w mg fa _ KX G.T.g hmg
 exact yu4 KX G.T.g G.T.b G.T.builtins G.T.nolimit hg hobj hints (aQ hlen hn2) hr hF hb (λH hO hS=>hsp (K w.params) H a ns hlen hbits hO hS) λH e s'=>hCX H s₁ e s'
section
variable {X:Cx}
end
theorem yo1 {α β:Type}{l:List α}{f:α->β->Sem (ForInStep β)}{g:β->α->β}:∀(c:β),(∀x∈l,∀c,f x c=pure (.yield (g c x)))->forIn l c f=pure (l.foldl g c):=by
 induction l with
 | nil=>intro c _;rfl
 | cons x l ih =>
  intro c h
  rw [dY,h x ay,pure_bind]
  exact ih _ λy hy=>h y (aw _ hy)
def c9 (cells:List (Str×Addr))(cs:List (Str×Addr))(x:Str×NameKind):List (Str×Addr):=if (x.2==NameKind.free)=true then (x.1,(cells.lookup x.1).getD 0)::cs else cs
def yr8 (cells:List (Str×Addr))(names:List (Str×NameKind)):List (Str×Addr):=names.foldl (c9 cells) []
theorem zj0 {scope:Scope}{env:Env}(h:∀y∈scope.names,y.2=.free->∃c,env.cells.lookup y.1=some c):closureFor scope env=pure (yr8 env.cells scope.names):=by
 simp only [closureFor]
 rw [yo1 (g:=c9 env.cells) [] (λx hx c=>by
  obtain ⟨n,k⟩:=x
  by_cases hk:k=.free
  ·subst hk
   obtain ⟨a,ha⟩:=h _ hx rfl
   have ha':env.cells.lookup n=some a:=ha
   simp only [c9,beq_self_eq_true,if_true,cellOf,ha',cY,pure_bind]
  ·have hb:(k==NameKind.free)=false:=by simpa using hk
   simp only [c9,hb,bM,if_false])]
 rfl
theorem zq9 {cells:List (Str×Addr)}:∀{names:List (Str×NameKind)} {cs:List (Str×Addr)},(∀y∈names,y.2=.free->∃c,cells.lookup y.1=some c)->(∀x c,cs.lookup x=some c->cells.lookup x=some c) ->
  ∀x c,(names.foldl (c9 cells) cs).lookup x=some c->cells.lookup x=some c
 | [],cs,_,h,x,c,e=>h x c e
 | (n,k)::r,cs,hn,h,x,c,e=>by
  refine zq9 (names:=r) (λy hy=>hn y (aw _ hy)) (λx c e=>?_) x c e
  by_cases hk:k=.free
  ·subst hk
   obtain ⟨a,ha⟩:=hn (n,.free) ay rfl
   have ha':cells.lookup n=some a:=ha
   simp only [c9,beq_self_eq_true,if_true,ha',cY,bT] at e
   cases q:x==n with
   | true =>
    rw [q] at e
    have q':x=n:=by simpa using q
    rw [q',ha']
    exact e
   | false =>
    rw [q] at e
    exact h x c e
  ·have hb:(k==NameKind.free)=false:=by simpa using hk
   simp only [c9,hb,bM,if_false] at e
   exact h x c e
theorem zc3 {cells:List (Str×Addr)}{x:Str}:∀{names:List (Str×NameKind)} {cs:List (Str×Addr)},((x,NameKind.free)∈names∨∃c,cs.lookup x=some c)->∃c,(names.foldl (c9 cells) cs).lookup x=some c
 | [],cs,h=>by
  rcases h with h|h
  ·cases h
  ·exact h
 | (n,k)::r,cs,h=>by
  refine zc3 (names:=r) (cs:=c9 cells cs (n,k)) ?_
  rcases h with h|⟨c,h⟩
  ·rcases aq.mp h with e|e
   ·cases e
    right
    simp [c9]
   ·exact .inl e
  ·right
   by_cases hk:k=.free
   ·subst hk
    simp only [c9,beq_self_eq_true,if_true,bT]
    cases x==n with
    | true=>exact ⟨_,rfl⟩
    | false=>exact ⟨c,h⟩
   ·have hb:(k==NameKind.free)=false:=by simpa using hk
    simp only [c9,hb,bM,if_false]
    exact ⟨c,h⟩
def zc4 (sc osc:Scope)(fr:List Str):Bool :=
 sc.kind == .function&&(sc.names.all λy=>y.2 != .cell)&&(sc.names.all λy=>y.2 != .local || sc.names.lookup y.1==some .local) &&
 (sc.names.all λy=>y.2 != .free || (osc.names.lookup y.1==some .cell || osc.names.lookup y.1==some .free))&&(fr.all λx=>sc.names.lookup x==some .free)
structure yd7 (sc osc:Scope) (fr:List Str):Prop where
 kind:sc.kind=.function
 cell:∀y∈sc.names,y.2≠.cell
 loc:∀y∈sc.names,y.2=.local->sc.names.lookup y.1=some .local
 free:∀y∈sc.names,y.2=.free->osc.names.lookup y.1=some .cell∨osc.names.lookup y.1=some .free
 fr:∀x∈fr,sc.names.lookup x=some .free
theorem zr0 {sc osc:Scope}{fr:List Str}(h:zc4 sc osc fr=true):yd7 sc osc fr:=by
 unfold zc4 at h
 rw [bV,bV,bV,bV] at h
 obtain ⟨⟨⟨⟨h1,h2⟩,h3⟩,h4⟩,h5⟩:=h
 refine ⟨by simpa using h1,λy hy=>?_,λy hy e=>?_,λy hy e=>?_,λx hx=>?_⟩
 ·simpa using bP.mp h2 y hy
 ·have:=bP.mp h3 y hy
  rw [e] at this
  simpa using this
 ·have:=bP.mp h4 y hy
  rw [e] at this
  simpa using this
 ·simpa using bP.mp h5 x hx
theorem mem_of_lookup {x:Str}{k:NameKind}:∀{l:List (Str×NameKind)},l.lookup x=some k->(x,k)∈l
 | [],h=>by cases h
 | (n,j)::r,h=>by
  rw [bT] at h
  cases q:x==n with
  | true =>
   rw [q] at h
   have q':x=n:=by simpa using q
   cases h
   rw [q']
   exact ay
  | false =>
   rw [q] at h
   exact aw _ (mem_of_lookup h)
theorem S7 {env:Env}:∀{names:List (Str×NameKind)} {x:Str},names.lookup x=some .free ->
  (names.map λ(n,k)=>if (k==NameKind.free&&env.scope.kind == .function&&env.kindOf n==some .cell) then (n,NameKind.cell) else (n,k)).lookup x=some .cell ∨
  (names.map λ(n,k)=>if (k==NameKind.free&&env.scope.kind == .function&&env.kindOf n==some .cell) then (n,NameKind.cell) else (n,k)).lookup x=some .free
 | [],_,h=>by cases h
 | (n,k)::r,x,h=>by
  have ih:=@S7 env r x
  show List.lookup x ((if (k==NameKind.free&&env.scope.kind == .function&&env.kindOf n==some .cell)=true then (n,NameKind.cell) else (n,k))::_)=_∨List.lookup x ((if (k==NameKind.free&&env.scope.kind == .function&&env.kindOf n==some .cell)=true then (n,NameKind.cell) else (n,k))::_)=_
  rw [bT] at h
  by_cases hc:(k==NameKind.free&&env.scope.kind == .function&&env.kindOf n==some .cell)=true
  ·rw [if_pos hc]
   simp only [bT]
   cases hx:x==n with
   | true=>exact .inl rfl
   | false=>rw [hx] at h;exact ih h
  ·rw [if_neg hc]
   simp only [bT]
   cases hx:x==n with
   | true=>rw [hx] at h;exact .inr h
   | false=>rw [hx] at h;exact ih h
def Y2 (X:Cx)(N':List Str)(scope:Scope)(C:Addr)(s₃:Shared)(H₃:Hp)(fp:List Addr):Cx where
 prog:=X.prog
 w:=X.w
 K:=X.K
 mg:=X.mg
 base:=X.base
 A:=X.A
 N:=N'
 s₀:=s₃
 H₀:=H₃
 env:=compEnvC scope (yr8 X.env.cells scope.names) C X.env
 outer:=X.stack
 stack:=X.stack
 ex:=fp
 fn:=λ_=>false
 calm:=X.calm
 pn:=[]
 xe:=λ_ _=>False
def L4 (own:Nat)(fr:List Nat)(σ:St):St:=List.replicate own none++fr.map λj=>(σ[j]?).getD none
section
variable {X:Cx}{pins:List (Addr×Obj)}{σ:St}{H:Hp}{s:Shared}
theorem yt7 {N':List Str}{own:Nat}{fr:List Nat}{scope:Scope}{fp:List Addr}{h₁:Heap}{m:Str->Option Value}{t:Nat}{oD:Obj}(I:Inv X pins σ H s)(hf:∀b∈fp,zb7 X pins H b)(hob:∀b∈fp,∃o,s.heap.get? b=some o)
  (hok:yd7 scope X.env.scope (N'.drop own)) (hfr:fr.map (λj=>X.N[j]?)=(N'.drop own).map some) (hown:own<=N'.length)
  (hn:h₁.Ns s.heap.objs.size m) (hsb:Heap.SameBut s.heap.objs.size (s.heap.push oD) h₁) :
  Inv (Y2 X N' scope s.heap.objs.size s H fp) [] (L4 own fr σ) H { s with heap:=h₁,toks:=t }:=by
 have cellsSub:∀x c,(yr8 X.env.cells scope.names).lookup x=some c->X.env.cells.lookup x=some c:=λx c e =>
  zq9 (λy hy hk=>I.ok.has y.1 (hok.free y hy hk)) (λx c e=>by cases e) x c e
 have up:∀b o,s.heap.get? b=some o->h₁.get? b=some o:=λb o e=>(hsb.2 b (aO (az e))).trans (al _ e)
 have hlen:fr.length=(N'.drop own).length:=by
  have:=congrArg List.length hfr
  simpa using this
 have okX:(Y2 X N' scope s.heap.objs.size s H fp).Ok :=
  {mod:=I.ok.mod
   kind:=hok.kind
   glob:=I.ok.glob
   blt:=I.ok.blt
   above:=ah _
   inj:=λx y c e1 e2=>I.ok.inj x y c (cellsSub x c e1) (cellsSub y c e2)
   has:=λx hk=>by
    have hk':(relabel scope X.env).names.lookup x=some .cell∨(relabel scope X.env).names.lookup x=some .free:=hk
    have key:(x,NameKind.free)∈scope.names:=by
     have all:∀(l:List (Str×NameKind)),(∀y∈l,y.2≠.cell)->((l.map λ(n,k)=>if (k==NameKind.free&&X.env.scope.kind == .function&&X.env.kindOf n==some .cell) then (n,NameKind.cell) else (n,k)).lookup x=some .cell ∨
       (l.map λ(n,k)=>if (k==NameKind.free&&X.env.scope.kind == .function&&X.env.kindOf n==some .cell) then (n,NameKind.cell) else (n,k)).lookup x=some .free)->(x,NameKind.free)∈l:=by
      intro l
      induction l with
      | nil=>intro _ h;rcases h with h|h <;> cases h
      | cons p r ih =>
       obtain ⟨n,k⟩:=p
       intro hc h
       have hr:∀y∈r,y.2≠.cell:=λy hy=>hc y (aw _ hy)
       have hkc:k≠.cell:=hc (n,k) ay
       rw [aI] at h
       by_cases hx:(x==n)=true
       ·have hx':x=n:=by simpa using hx
        subst hx'
        by_cases hk:k=.free
        ·subst hk
         exact ay
        ·exfalso
         have hb:(k==NameKind.free)=false:=by simpa using hk
         simp [hb,bT] at h
         rcases h with h|h
         ·exact hkc h
         ·exact hk h
       ·have hx0:(x==n)=false:=by simpa using hx
        refine aw _ (ih hr ?_)
        by_cases hc:(k==NameKind.free&&X.env.scope.kind == .function&&X.env.kindOf n==some .cell)=true
        ·simp only [hc,if_true,bT,hx0] at h
         exact h
        ·have hc':(k==NameKind.free&&X.env.scope.kind == .function&&X.env.kindOf n==some .cell)=false:=by simpa using hc
         simp only [hc',bM,if_false,bT,hx0] at h
         exact h
     exact all scope.names hok.cell hk'
    exact zc3 (.inl key)
   cab:=λx c e=>by cases e
   hd:=I.ok.hd
   frames:=I.ok.frames
   stk:=.inl rfl
   exf:=λb hb=>⟨λe=>by
     obtain ⟨o,ho⟩:=hob b hb
     exact absurd (az ho) (by rw [e];exact bh _),λx c e=>(hf b hb).2.2.2.2.1 x c (cellsSub x c e)⟩
   bs:=I.bs
   bsz:=aQ I.ok.bsz I.sz
   noex:=λb o e hb=>by
    rcases (hf b hb).2.2.2.1 with z|z
    ·exact I.ok.noex b o e z
    ·exact absurd (az (I.ok.bs b o e).1) (Nat.not_lt.mpr z)
   exfs:=λb hb z=>by
    rcases aq.mp (I.stkSub b z) with e|e
    ·exact (hf b hb).2.1 e
    ·exact (hf b hb).2.2.1 e
   funs:=I.stack
   frf:=I.stkFree }
 refine ⟨okX,rfl,I.bare,Un.kept up,⟨m,hn,λi x v e1 e2 e3=>?_⟩,λx c e=>?_,I.hok.fresh (ah _),λx c e=>I.freeC x c (cellsSub x c e),λp hp=>(by cases hp),I.hok.kept up,?_⟩
 ·have e2':(List.replicate own none++fr.map λj=>(σ[j]?).getD none)[i]?=some (some v):=e2
  by_cases hi:i<own
  ·rw [aS (by simpa using hi),cM] at e2'
   rw [if_pos hi] at e2'
   cases e2'
  ·rw [aU (by simpa using de hi),cy,ar] at e2'
   cases hj:fr[i-own]? with
   | none=>rw [hj] at e2';cases e2'
   | some j =>
    rw [hj] at e2'
    have e4:(σ[j]?).getD none=some v:=by simpa using e2'
    have e5:σ[j]?=some (some v):=by
     cases q:σ[j]? with
     | none=>rw [q] at e4;cases e4
     | some z=>rw [q] at e4;simpa using e4
    have e6:N'[own+(i-own)]?=some x:=by
     rw [show own+(i-own)=i by lia]
     exact e1
    have e7:(N'.drop own)[i-own]?=some x:=by rw [dw];exact e6
    have e8:X.N[j]?=some x:=by
     have q:=congrArg (λl=>l[i-own]?) hfr
     simp only [ar,hj,e7,fh] at q
     simpa using q
    have hx:=hok.fr x (au e7)
    have hmem:=mem_of_lookup hx
    have hout:=hok.free _ hmem rfl
    obtain ⟨mX,_,hl⟩:=I.loc
    obtain ⟨u,r,l⟩:=hl j x v e8 e5 (.inr hout)
    refine ⟨u,r,?_⟩
    rcases l with ⟨k,_⟩|⟨_,c,ec,z⟩
    ·have k':X.env.scope.names.lookup x=some .local:=k
     rcases hout with q|q <;> (have q':X.env.scope.names.lookup x=_:=q;rw [k'] at q';cases q')
    ·obtain ⟨c',ec'⟩:=zc3 (cells:=X.env.cells) (cs:=[]) (.inl hmem)
     have q:=cellsSub x c' ec'
     rw [ec] at q
     cases q
     obtain ⟨o,ho,hd⟩:=z
     exact .inr ⟨S7 hx,c,ec',o,up c o ho,hd⟩
 ·obtain ⟨v,o,ho,hd⟩:=I.cell x c (cellsSub x c e)
  exact ⟨v,o,up c o ho,hd⟩
 ·show (List.replicate own none++fr.map λj=>(σ[j]?).getD none).length=N'.length
  rw [af,cy,ae,hlen,bU]
  lia
end
section
variable {prog:Program}{w:World}{A:Around}{s:Shared}
theorem K4 {elt target iter:Expr}{scope:Scope}{pos:Pos}{it acc:Value}{env:Env}{R:Result->Shared->Prop}(I:Nat->Shared->Prop)
  (turn:∀n s,I n s->wpAny (model prog w) A (pyNext it) (λr s₁=>match r with
   | none=>R (.ok .next) s₁
   | some v=>wpAny (model prog w) A (letOwnedTupleGo target it v) (λ_ s₁'=>wpAny (model prog w) A (assign target env v) (λ_ s₂=>wpAny (model prog w) A (eval elt env) (λx s₃ =>
     wpAny (model prog w) A (call (.builtin "list.append") [acc,x]) (λ_ s₄=>∃m,m<n/\I m s₄) (notedBy (model prog w) A env λe s'=>R (.error e) s') s₃)
     (notedBy (model prog w) A env λe s'=>R (.error e) s') s₂) (notedBy (model prog w) A env λe s'=>R (.error e) s') s₁') (notedBy (model prog w) A env λe s'=>R (.error e) s') s₁) (notedBy (model prog w) A env λe s'=>R (.error e) s') s)
  (n:Nat) (h:I n s):codeAny (model prog w) A (.compLoop (.ListComp elt [⟨target,iter,[],0⟩] scope pos) 0 it acc env) R s:=by
 refine codeAny_loop rfl I (λn s hI=>?_) n h
 show wpAny _ _ ((compTurn (.ListComp elt [⟨target,iter,[],0⟩] scope pos) 0 it acc env).onRaise (λx=>do noteFrame x env;theTreesLotGoes x)) _ _ s
 refine wpAny_noted ?_
 rw [compTurn_list1]
 refine wpAny_bind (wpAny_standAt (wpAny_bind (wpAny_mono (turn n s hI) (λr s₁ h₁=>?_) λ_ _ h'=>h')))
 cases r with
 | none=>exact wpAny_pure h₁
 | some v =>
  refine wpAny_bind (wpAny_mono h₁ (λ_ s₁' h₁'=>?_) λ_ _ h'=>h')
  exact wpAny_bind (wpAny_mono h₁' (λ_ s₂ h₂=>wpAny_bind (wpAny_bind (wpAny_mono h₂ (λx s₃ h₃=>wpAny_bind (wpAny_mono h₃
   (λ_ s₄ h₄=>wpAny_pure (wpAny_pure ⟨rfl,h₄⟩)) λ_ _ h'=>h')) λ_ _ h'=>h'))) λ_ _ h'=>h')
end
abbrev CT (α:Type):=Addr->Shared->Hp->List Addr->α
def yz0 (own:Nat)(fr:List Nat)(wi:TI)(g:CT TG)(te:CT TE)(σ:St)(H:Hp)(Q:Addr->Hp->Prop):Prop:=wi σ H λJ H1=>∀D,H1 D=none ->
 ∃W:Nat->Nat->St->Hp->Prop,(∃m,W 0 m (L4 own fr σ) (upd H1 D (.lst [])))/\∀i m σ' H',W i m σ' H' ->
  (J.stop i H'/\Q D H')∨(J.go i H'/\∀x H2,J.yld i H' x H2->∀C₀ s₀ H₀ fp,g C₀ s₀ H₀ fp x σ' H2 λσ3 H3=>∃N:VK,te C₀ s₀ H₀ fp σ3 H3 N/\∀y H4,N y H4 ->
   ∃ys m',H4 D=some (.lst ys)/\ys.length<sizeLine/\m'<m/\W (i+1) m' σ3 (upd H4 D (.lst (ys++[y]))))
def ym9 (own:Nat)(fr:List Nat)(wi:TI)(g:CT TG)(te:CT TE):TE:=λσ H Q=>yz0 own fr wi g te σ H λD H'=>Q (.ref D) H'
def xp4 (X:Cx)(pins:List (Addr×Obj))(H:Hp)(C:Addr):Prop :=
 H C=none/\C≠X.env.locals/\X.s₀.heap.objs.size<=C/\(∀x c,X.env.cells.lookup x=some c->c≠C)/\∀p∈X.pn++pins,p.1≠C
section
variable {X:Cx}{own:Nat}{fr:List Nat}{N':List Str}{tg iter elt:Expr}{scope:Scope}{pos:Pos}{wi:TI}{g:CT TG}{te:CT TE}
theorem zy9 {pins:List (Addr×Obj)}{s:Shared}{σ:St}{H:Hp}{Q:Addr->Hp->Prop}{use:Option (Value->Sem Unit)}{Q':Value->Shared->Prop}{pos':Pos}(hc:X.calm=true)(hi:PI X tg iter wi)(hg:∀C s₃ H₃ fp,PG (Y2 X N' scope C s₃ H₃ fp) tg (g C s₃ H₃ fp))(he:∀C s₃ H₃ fp,PE (Y2 X N' scope C s₃ H₃ fp) elt (te C s₃ H₃ fp))
  (hok:yd7 scope X.env.scope (N'.drop own)) (hfr:fr.map (λj=>X.N[j]?)=(N'.drop own).map some) (hown:own<=N'.length) (hs:∀x,foldedSetIterable iter X.env x=pure x)
  (I:Inv X pins σ H s) (h:yz0 own fr wi g te σ H Q)
  (fin:∀D C m H' s',Inv X pins σ H' s'->s'.heap.Ns C m->xp4 X pins H' C->Q D H'->compPost (model X.prog X.w) X.A X.xe use Q' (.ref D) C (.ok .next) s') :
  wpAny (model X.prog X.w) X.A (comprehension (.ListComp elt [⟨tg,iter,[],0⟩] scope pos) scope X.env pos' (newList []) false (eval iter X.env) use) Q' X.xe s:=by
 refine wpAny_comprehension_free rfl hs (zj0 λy hy hk=>I.ok.has y.1 (hok.free y hy hk)) hok.kind hok.loc (thn (hi pins s σ H _ I h) λxv s1 h1=>thn h1 λitv s2 h2=>?_)
 obtain ⟨it,fp,tn,J,H2,e,I2,T,st2,f2,body⟩:=h2
 subst e
 refine wpAny_newList (items:=[]) ?_
 have hD:H2 s2.heap.objs.size=none:=I2.hok.fresh (ah _)
 have I3:Inv X pins σ (upd H2 s2.heap.objs.size (.lst [])) { s2 with heap:=s2.heap.push { cls:=.type "list",data:=.seq ([]:List Value).toArray } }:=I2.lnew (its:=[]) (t':=s2.toks) .nil (by decide)
 obtain ⟨W,⟨m0,w0⟩,turn⟩:=body _ hD
 generalize hDD:s2.heap.objs.size=D at hD I3 w0 turn ⊢
 have up3:∀b o,s2.heap.get? b=some o->(s2.heap.push { cls:=.type "list",data:=.seq ([]:List Value).toArray }).get? b=some o:=λb o e=>al _ e
 have st3:tn 0 (s2.heap.push { cls:=.type "list",data:=.seq ([]:List Value).toArray }):=T.keep _ _ _ st2 λb _ o e=>up3 b o e
 have fpne:∀b∈fp,b≠D:=λb hb e=>by
  obtain ⟨o,ho,_⟩:=T.obj _ _ st2 b hb
  rw [e,←hDD] at ho
  exact absurd (az ho) (bh _)
 have f3:∀b∈fp,zb7 X pins (upd H2 D (.lst [])) b:=λb hb=>⟨by rw [z6 (fpne b hb)];exact (f2 b hb).1,(f2 b hb).2⟩
 generalize hs3:({ s2 with heap:=s2.heap.push { cls:=.type "list",data:=.seq ([]:List Value).toArray } }:Shared)=s3 at I3 ⊢
 have st3':tn 0 s3.heap:=by rw [←hs3];exact st3
 generalize upd H2 D (.lst [])=H3 at I3 f3 w0
 have hob:∀b∈fp,∃o,s3.heap.get? b=some o:=λb hb=>let ⟨o,ho,_⟩:=T.obj _ _ st3' b hb;⟨o,ho⟩
 refine wpAny_newFunctionEnv hok.cell (by intro y hy;simp at hy) (λh₁ hns₁ hsb₁=>?_) hok.kind
 have up4:∀b o,s3.heap.get? b=some o->h₁.get? b=some o:=λb o e=>(hsb₁.2 b (aO (az e))).trans (al _ e)
 have I4:=yt7 (N':=N') (own:=own) (fr:=fr) (scope:=scope) (t:=s3.toks+([]:List (Str×Value)).length) I3 f3 hob hok hfr hown hns₁ hsb₁
 have st4:tn 0 h₁:=T.keep _ _ _ st3' λb _ o e=>up4 b o e
 have stat:∀{H':Hp} ,(∀b∈fp,H' b=none)->∀b∈fp,zb7 (Y2 X N' scope s3.heap.objs.size s3 H3 fp) [] H' b:=λhn b hb=>by
  refine ⟨hn b hb,(I4.ok.exf b hb).1,I4.ok.exfs b hb,.inl hb,(I4.ok.exf b hb).2,λp hp=>by cases hp⟩
 have loop:codeAny (model X.prog X.w) X.A (.compLoop (.ListComp elt [⟨tg,iter,[],0⟩] scope pos) 0 (.ref it) (.ref D) (Y2 X N' scope s3.heap.objs.size s3 H3 fp).env)
   (compPost (model X.prog X.w) X.A X.xe use Q' (.ref D) s3.heap.objs.size) { s3 with heap:=h₁,toks:=s3.toks+([]:List (Str×Value)).length }:=by
  refine K4 (λn s'=>∃i σ' H',Inv (Y2 X N' scope s3.heap.objs.size s3 H3 fp) [] σ' H' s'/\tn i s'.heap/\(∀b∈fp,H' b=none)/\W i n σ' H') ?_ m0 ⟨0,_,H3,I4,st4,λb hb=>(f3 b hb).1,w0⟩
  rintro n s5 ⟨i,σ5,H5,I5,st5,fr5,w5⟩
  rcases turn i n σ5 H5 w5 with ⟨stop,q⟩|⟨go,step⟩
  ·refine thn (T.done (Y2 X N' scope s3.heap.objs.size s3 H3 fp) rfl rfl rfl hc i [] s5 σ5 H5 _ I5 (stat fr5) st5 stop) λr s6 ⟨hr,I6⟩=>?_
   subst hr
   obtain ⟨m6,hn6,_⟩:=I6.loc
   have I7:Inv X pins σ H5 s6:=I3.call' (ch:=fp) (by have:=I6.os;exact this) I6.base I6.hok I6.bare λb hb=>⟨(f3 b hb).2.2.2.1,(f3 b hb).2.1,(f3 b hb).2.2.2.2.1,(f3 b hb).2.2.2.2.2⟩
   refine fin D s3.heap.objs.size m6 H5 s6 I7 hn6 ⟨I6.free,cV I3.lt,I3.sz,λx c e z=>?_,λp hp z=>?_⟩ q
   ·obtain ⟨v,z1⟩:=I3.cell x c e
    exact absurd z1.lt (by rw [z];exact bh _)
   ·exact absurd (az (I3.pin p hp).1) (by rw [z];exact bh _)
  ·refine thn (T.item (Y2 X N' scope s3.heap.objs.size s3 H3 fp) rfl rfl rfl hc i [] s5 σ5 H5 _ I5 (stat fr5) st5 go) λr s6 ⟨u,hr,h6⟩=>?_
   subst hr
   refine thn h6 λ_ s7 ⟨x,H7,I7,r7,y7,st7,fr7⟩=>?_
   have I7':=I7.pinned (stat fr7) (T.obj _ _ st7)
   refine wpAny_mono (hg _ _ _ _ _ s7 σ5 H7 x u _ I7' r7 (step x H7 y7 _ _ _ _)) (λ_ s8 ⟨σ8,H8,I8,N,q8,hN⟩=>?_) λ_ _ z=>z.elim
   refine wpAny_mono (he _ _ _ _ _ s8 σ8 H8 N I8 q8) (λyv s9 ⟨y,H9,I9,r9,n9⟩=>?_) λ_ _ z=>z.elim
   obtain ⟨ys,m',hD9,hlt,hm,w9⟩:=hN y H9 n9
   refine wpAny_mono (X9 (X:=Y2 X N' scope s3.heap.objs.size s3 H3 fp) _ s9 σ8 H9 (.ref D) [y] (.ref D) [yv] (λ_ H'=>H'=upd H9 D (.lst (ys++[y]))) I9 rfl (.cons r9 .nil) ⟨D,ys,y,rfl,rfl,hD9,hlt,rfl⟩) (λ_ s10 ⟨_,H10,I10,_,q10⟩=>?_) λ_ _ z=>z.elim
   subst q10
   have pin:=λb hb o e=>I10.pin (b,o) (aK _ (aK _ (D4 (h:=s7.heap) (fp:=fp) hb e)))
   refine ⟨m',hm,i+1,σ8,_,I10.unpinned,T.keep _ _ _ st7 λb hb o e=>(pin b hb o e).1,λb hb=>?_,w9⟩
   obtain ⟨o,e,d⟩:=T.obj _ _ st7 b hb
   exact (pin b hb o e).2.1
 exact codeAny_compStart_list loop (T.self X.A 0 _ _ _ st4 loop)
theorem xd6 (own:Nat)(fr:List Nat)(N':List Str)(hc:X.calm=true)(hi:PI X tg iter wi)(hg:∀C s₃ H₃ fp,PG (Y2 X N' scope C s₃ H₃ fp) tg (g C s₃ H₃ fp))(he:∀C s₃ H₃ fp,PE (Y2 X N' scope C s₃ H₃ fp) elt (te C s₃ H₃ fp))
  (hok:zc4 scope X.env.scope (N'.drop own)=true:=by rfl) (hfr:fr.map (λj=>X.N[j]?)=(N'.drop own).map some:=by rfl) (hown:own<=N'.length:=by decide) (hs:∀x,foldedSetIterable iter X.env x=pure x:=by intro _;rfl) :
  PE X (.ListComp elt [⟨tg,iter,[],0⟩] scope pos) (ym9 own fr wi g te):=by
 intro pins s σ H Q I h
 rw [eval_ListComp]
 refine zy9 (use:=none) hc hi hg he (zr0 hok) hfr hown hs I h λD C m H' s' I' hn sp q=>?_
 refine ⟨m,hn,λh' sb=>⟨.ref D,H',?_,rfl,q⟩⟩
 exact I'.turned (t':=s'.toks) (λb o hb e=>(sb.2 b hb).trans e) sp.1 sp.2.1 (.inr sp.2.2.1) sp.2.2.2.1 sp.2.2.2.2
theorem yg9 {i:Nat}{y:Str}{py spos:Pos}(own:Nat)(fr:List Nat)(N':List Str)(hN:X.N.Nodup)(hy:X.N[i]?=some y)(hl:X.env.scope.names.lookup y=some .local)(hc:X.calm=true)(hi:PI X tg iter wi)(hg:∀C s₃ H₃ fp,PG (Y2 X N' scope C s₃ H₃ fp) tg (g C s₃ H₃ fp))(he:∀C s₃ H₃ fp,PE (Y2 X N' scope C s₃ H₃ fp) elt (te C s₃ H₃ fp))
  (hsw:swapsWith (.ListComp elt [⟨tg,iter,[],0⟩] scope pos) (some (.Name y py)) spos.line X.env=pure true:=by rfl)
  (hok:zc4 scope X.env.scope (N'.drop own)=true:=by rfl) (hfr:fr.map (λj=>X.N[j]?)=(N'.drop own).map some:=by rfl) (hown:own<=N'.length:=by decide) (hs:∀x,foldedSetIterable iter X.env x=pure x:=by intro _;rfl) :
  PS X (.Assign [.Name y py] (.ListComp elt [⟨tg,iter,[],0⟩] scope pos) spos) (xg2 (ym9 own fr wi g te) (O3 i)):=by
 intro pins s σ H D I h
 rw [exec_Assign_Name_used _ _ _ _ hsw]
 refine wpAny_bind (wpAny_standAt (wpAny_bind ?_))
 show wpAny _ X.A (do let _ ←comprehension (.ListComp elt [⟨tg,iter,[],0⟩] scope pos) scope X.env _ (newList []) false (eval iter X.env) (some (assign (.Name y py) X.env))) _ _ s
 refine wpAny_bind (wpAny_mono (zy9 (use:=some (assign (.Name y py) X.env)) (Q':=λ_ s'=>SP X pins D .next s') hc hi hg he (zr0 hok) hfr hown hs I h λDl C m H' s' I' hn sp q=>?_) (λ_ s' hq=>wpAny_pure (wpAny_pure hq)) λ_ _ e=>e)
 show wpAny _ X.A (assign (.Name y py) X.env (.ref Dl)) _ _ _
 refine wpAny_assign_Name (ze4 (v:=.ref Dl) I' hN hy (.inl hl) rfl (λs2 I2 ⟨a,sb,ha⟩=>?_) (.inr hl))
 have hCa:C≠a:=by
  rcases ha with e|e
  ·rw [e];exact sp.2.1
  ·exact λz=>sp.2.2.2.1 y a e z.symm
 refine ⟨m,hn.sameBut sb hCa,λh' sb'=>⟨_,H',?_,q⟩⟩
 exact I2.turned (t':=s2.toks) (λb o hb e=>(sb'.2 b hb).trans e) sp.1 sp.2.1 (.inr sp.2.2.1) sp.2.2.2.1 sp.2.2.2.2
theorem Y5 {x:Str}{px:Pos}(fr:List Nat)(N':List Str)(hc:X.calm=true)(hi:PI X (.Name x px) iter wi)(he:∀C s₃ H₃ fp,PE (Y2 X N' scope C s₃ H₃ fp) elt (te C s₃ H₃ fp))(hN:N'.Nodup:=by decide +kernel)(h0:N'[0]?=some x:=by rfl)(hx:scope.names.lookup x=some .local:=by rfl)
  (hok:zc4 scope X.env.scope (N'.drop 1)=true:=by rfl) (hfr:fr.map (λj=>X.N[j]?)=(N'.drop 1).map some:=by rfl) (hown:1<=N'.length:=by decide) (hs:∀x,foldedSetIterable iter X.env x=pure x:=by intro _;rfl) :
  PE X (.ListComp elt [⟨.Name x px,iter,[],0⟩] scope pos) (ym9 1 fr wi (λ_ _ _ _=>O3 0) te) :=
 xd6 1 fr N' hc hi (λ_ _ _ _=>l5 hN h0 (.inl (lookup_relabel_local hx)) (.inr (lookup_relabel_local hx))) he hok hfr hown hs
theorem yb7 {i:Nat}{x y:Str}{px py spos:Pos}(fr:List Nat)(N':List Str)(hNd:X.N.Nodup)(hy:X.N[i]?=some y)(hl:X.env.scope.names.lookup y=some .local)(hc:X.calm=true)(hi:PI X (.Name x px) iter wi)(he:∀C s₃ H₃ fp,PE (Y2 X N' scope C s₃ H₃ fp) elt (te C s₃ H₃ fp))
  (hsw:swapsWith (.ListComp elt [⟨.Name x px,iter,[],0⟩] scope pos) (some (.Name y py)) spos.line X.env=pure true:=by rfl) (hN:N'.Nodup:=by decide +kernel) (h0:N'[0]?=some x:=by rfl) (hx:scope.names.lookup x=some .local:=by rfl)
  (hok:zc4 scope X.env.scope (N'.drop 1)=true:=by rfl) (hfr:fr.map (λj=>X.N[j]?)=(N'.drop 1).map some:=by rfl) (hown:1<=N'.length:=by decide) (hs:∀x,foldedSetIterable iter X.env x=pure x:=by intro _;rfl) :
  PS X (.Assign [.Name y py] (.ListComp elt [⟨.Name x px,iter,[],0⟩] scope pos) spos) (xg2 (ym9 1 fr wi (λ_ _ _ _=>O3 0) te) (O3 i)) :=
 yg9 1 fr N' hNd hy hl hc hi (λ_ _ _ _=>l5 hN h0 (.inl (lookup_relabel_local hx)) (.inr (lookup_relabel_local hx))) he hsw hok hfr hown hs
end
end L2
namespace PySem
open Sem (wp)
section
variable {prog:Program}{w:World}{A:Around}{E:Value->Shared->Prop}{s:Shared}
theorem E3 {Q:List Value->Shared->Prop}{r:Addr}{a b c:Int}{t u v:Tok}{n:Nat}(hh:A.handled=none)(hr:IsRange s.heap r a b c t u v)(hsmall:Builtin.Range.small a b c=true)
  (hn:Builtin.Range.rangeSize a b c=n) (hlen:n<=2 ^ 24)
  (hQ:∀h' tk acc,(∀b o,s.heap.get? b=some o->h'.get? b=some o)->ItemsOf (λi v=>∃t,v=.int (a+i*c) t) acc n->Q acc.toList { s with heap:=h',toks:=tk }) :
  wpAny (model prog w) A (collect (.ref r)) Q E s:=by
 unfold collect
 refine wpAny_bind (wpAny_runValue (codeAny_builtin F.entry_proto_collect ?_))
 rw [Around.under_plainId F.plain_proto_collect _]
 show wpAny _ A.in1 (newList [] >>= λl=>again (.builtin "list.__iadd__" ⟨[l,.ref r],[]⟩)) _ _ s
 refine wpAny_bind (wpAny_newObj_type ?_)
 refine wpAny_pure ⟨plainId_quiet F.plain_list_iadd _,codeAny_builtin F.entry_list_iadd ?_⟩
 rw [Around.under_plainId F.plain_list_iadd _]
 show wpAny _ A.in1 (Builtin.List.listExtendWith (.ref s.heap.objs.size) (.ref r) (.ref s.heap.objs.size)) _ _ _
 have key:∀(r₁:Result) (s₁:Shared),(r₁=.ok (.ret (.ref s.heap.objs.size))/\∃h' tk acc' c',s₁={ s with heap:=h',toks:=tk }/\(∀b o,s.heap.get? b=some o->h'.get? b=some o)/\h'.get? s.heap.objs.size=some { cls:=.type "list",dict:=none,data:=.seq acc' c',slots:=#[] }/\ItemsOf (λi v=>∃t,v=.int (a+i*c) t) acc' n) ->
   (match r₁ with
    | .ok (.ret v)=>wpAny (model prog w) A (match v with
      | .ref a=>do
       match (←load a).data with
       | .seq xs _=>pure xs.toList
       | _=>unsupported "internal:collect"
      | _=>unsupported "internal:collect") Q E s₁
    | .ok _=>False
    | .error e=>E e s₁):=by
  rintro r₁ s₁ ⟨rfl,h',tk,acc',c',rfl,hk,hS',hacc⟩
  show wpAny _ A (load s.heap.objs.size >>= _) _ _ _
  refine wpAny_bind (wpAny_load hS' ?_)
  exact wpAny_pure (hQ h' tk acc' hk hacc)
 refine wpAny_mono (wpAny_extend_range (s:={ s with heap:=s.heap.push { cls:=.type "list",data:=.seq ([]:List Value).toArray } }) (A:=A)
  (R:=λr₁ s₁=>r₁=.ok (.ret (.ref s.heap.objs.size))/\∃h' tk acc' c',s₁={ s with heap:=h',toks:=tk }/\(∀b o,s.heap.get? b=some o->h'.get? b=some o)/\h'.get? s.heap.objs.size=some { cls:=.type "list",dict:=none,data:=.seq acc' c',slots:=#[] }/\ItemsOf (λi v=>∃t,v=.int (a+i*c) t) acc' n)
  hh (al _ hr) hsmall hn hlen s.heap.objs.size (.ref s.heap.objs.size) 0 (aA _ rfl) λh' tk acc' c' hk hS' hacc=>⟨rfl,h',tk,acc',c',rfl,λb o e=>hk b o (aO (az e)) (al _ e),hS',hacc⟩) (λfin s₁ h₁=>?_) λe s₁ h₁=>key _ _ h₁
 cases fin with
 | done f=>exact key _ _ h₁
 | again c'=>exact ⟨h₁.1,codeAny_mono h₁.2 λr₂ s₂ h₂=>key _ _ h₂⟩
open AutoSeq1 (wpAny_loadPart')
theorem L8 {r:Addr}{a b c:Int}{t u v:Tok}{n:Nat}(hsmall:Builtin.Range.small a b c=true)(hn:Builtin.Range.rangeSize a b c=n)(hlen:n<=2 ^ 24)(hsz:n<=sizeLine) :
  Meets (Builtin.«tuple.__new__» ⟨[.type "tuple",.ref r],[]⟩)
   (λA R s=>A.handled=none/\IsRange s.heap r a b c t u v/\∀(h':Heap) (tk:Nat) (acc:Array Value),(∀b o,s.heap.get? b=some o->h'.get? b=some o)->ItemsOf (λi v=>∃t,v=.int (a+i*c) t) acc n ->
    R (.ok (.ret (.ref h'.objs.size))) { s with heap:=h'.push { cls:=.type "tuple",data:=.seq acc },toks:=tk }) :=
 .of_wp λprog w A R s h=>by
  obtain ⟨hh,hr,h⟩:=h
  have hsub:=sub_tuple_self
  have hinit:=init_tuple_lookup
  have hmh:=madeHere_tuple
  have hT:s.TypeIs (.ref r) "range":=⟨_,hr,rfl⟩
  have hh1:A.in1.handled=none:=hh
  wp_walk using wpAny_typeOf hT,E3 hh1 hr hsmall hn hlen
  intro h' tk acc hk hacc
  show wpAny _ _ (Builtin.Tuple.tupleExact acc.toList.toArray >>= λv=>ret v) _ _ _
  unfold Builtin.Tuple.tupleExact
  refine wpAny_bind (wpAny_newObj_type ?_ (show acc.toList.toArray.size<=sizeLine by simp only [Array.toArray_toList];rw [hacc.1];exact hsz))
  refine wpAny_pure ⟨_,rfl,?_⟩
  have e:acc.toList.toArray=acc:=by simp
  rw [e]
  exact h h' tk acc hk hacc
theorem zc2 {Q:Value->Shared->Prop}{r:Addr}{a b c:Int}{t u v:Tok}{n:Nat}(hh:A.handled=none)(hr:IsRange s.heap r a b c t u v)(hsmall:Builtin.Range.small a b c=true)
  (hn:Builtin.Range.rangeSize a b c=n) (hlen:n<=2 ^ 24) (hsz:n<=sizeLine)
  (h:∀(h':Heap) (tk:Nat) (acc:Array Value),(∀b o,s.heap.get? b=some o->h'.get? b=some o)->ItemsOf (λi v=>∃t,v=.int (a+i*c) t) acc n->Q (.ref h'.objs.size) { s with heap:=h'.push { cls:=.type "tuple",data:=.seq acc },toks:=tk }) :
  wpAny (model prog w) A (call (.type "tuple") [.ref r]) Q E s :=
 callType_new F.called_tuple (by decide) (F.typeCall_tuple_1 _) (F.newCall_tuple_1 _) (λobj=>F.args_object_init_2 obj _) F.entry_tuple_new
  (L8 hsmall hn hlen hsz) ⟨hh,hr,λh' tk acc hk hacc=>⟨⟨_,aA _ rfl,rfl⟩,h h' tk acc hk hacc⟩⟩
end
end PySem
namespace L2
open PySem PySem.Spec PyProof.Rows
theorem E9:∀{xs:List V} {us:List Value},xs.length=us.length->(∀(i:Nat) x u,xs[i]?=some x->us[i]?=some u->p0 x u)->t9 xs us
 | [],[],_,_=>.nil
 | [],_::_,h,_=>by cases h
 | _::_,[],h,_=>by cases h
 | x::xs,u::us,h,r=>.cons (r 0 x u rfl rfl) (E9 (by simpa using h) λi y w e1 e2=>r (i+1) y w (by simpa using e1) (by simpa using e2))
def W3 (lo:Int)(n:Nat):List V:=(List.range n).map λi=>V.int (lo+(i:Nat))
theorem U9 (lo:Int)(n:Nat):(W3 lo n).length=n:=by unfold W3;rw [ae,aN]
theorem zn9 {acc:Array Value}{lo:Int}{n:Nat}(h:ItemsOf (λi v=>∃t,v=.int (lo+i*1) t) acc n):t9 (W3 lo n) acc.toList:=by
 obtain ⟨h1,h2⟩:=h
 refine E9 (by rw [U9,aP,h1]) λi x u e1 e2=>?_
 have hi:i<n:=by
  have:=(ag.mp e1).1
  rwa [U9] at this
 obtain ⟨t,rfl⟩:=h2 i u (by simpa using e2)
 unfold W3 at e1
 rw [ar,bg hi] at e1
 cases e1
 exact ⟨t,by rw [Int.mul_one]⟩
section
variable {X:Cx}
theorem G0:W1 X (.type "range") (λxs H Q=>∃j,xs=[.int j]/\∀p,H p=none->Q (.ref p) (upd H p (.rng 0 j))):=by
 intro pins s σ H xs us Q I r h
 obtain ⟨j,rfl,q⟩:=h
 obtain ⟨u,rfl,t,rfl⟩:=L7 r
 exact call_range_1 ⟨.ref s.heap.objs.size,_,I.laid (λb o e=>al _ e) (ah _) (show p9 X.prog X.w _ _ _ (.rng 0 j) from ⟨_,_,_,aA _ rfl⟩),rfl,q _ (I.hok.fresh (ah _))⟩
def yr3 (lo hi:Int):Prop:=-(2 ^ 62)<=lo/\lo<2 ^ 62/\-(2 ^ 62)<=hi/\hi<2 ^ 62/\(hi-lo).toNat<=1000000
theorem u7:1000000<=sizeLine:=by decide
theorem P5 (hc:X.calm=true):W1 X (.type "list") (λxs H Q=>∃p lo hi,xs=[.ref p]/\H p=some (.rng lo hi)/\yr3 lo hi/\∀l,H l=none->Q (.ref l) (upd H l (.lst (W3 lo (hi-lo).toNat)))):=by
 intro pins s σ H xs us Q I r h
 obtain ⟨p,lo,hi,rfl,hp,⟨s1,s2,s3,s4,s5⟩,q⟩:=h
 obtain ⟨u,rfl,rx⟩:=L7 r
 cases rx
 obtain ⟨t,u,v,hr⟩:=I.hok p _ hp
 have hz:=u7
 refine call_list_range (n:=(hi-lo).toNat) (I.ok.hd hc) hr (small_one s1 s2 s3 s4) (by rw [rangeSize_one];split <;> lia) (by lia) λh' tk acc' c' kp hS hacc=>?_
 refine ⟨.ref s.heap.objs.size,_,I.laid (t':=tk) kp (ah _) (show p9 X.prog X.w _ h' _ (.lst (W3 lo (hi-lo).toNat)) from ⟨by rw [U9];lia,acc'.toList,c',zn9 hacc,by simpa using hS⟩),rfl,q _ (I.hok.fresh (ah _))⟩
theorem zi8 (hc:X.calm=true):W1 X (.type "tuple") (λxs H Q=>∃p lo hi,xs=[.ref p]/\H p=some (.rng lo hi)/\yr3 lo hi/\∀l,H l=none->Q (.ref l) (upd H l (.tup (W3 lo (hi-lo).toNat)))):=by
 intro pins s σ H xs us Q I r h
 obtain ⟨p,lo,hi,rfl,hp,⟨s1,s2,s3,s4,s5⟩,q⟩:=h
 obtain ⟨u,rfl,rx⟩:=L7 r
 cases rx
 obtain ⟨t,u,v,hr⟩:=I.hok p _ hp
 have hz:=u7
 refine zc2 (n:=(hi-lo).toNat) (I.ok.hd hc) hr (small_one s1 s2 s3 s4) (by rw [rangeSize_one];split <;> lia) (by lia) (by lia) λh' tk acc kp hacc=>?_
 have I1:Inv X pins σ H { s with heap:=h',toks:=tk }:=I.kept kp
 have I2:Inv X pins σ (upd H h'.objs.size (.tup (W3 lo (hi-lo).toNat))) { s with heap:=h'.push { cls:=.type "tuple",data:=.seq acc },toks:=tk } :=
  I1.laid (t':=tk) (λb o e=>al _ e) (ah _) (show p9 X.prog X.w _ _ _ (.tup (W3 lo (hi-lo).toNat)) from ⟨by rw [U9];lia,acc.toList,zn9 hacc,by simpa using zs7.new h' acc⟩)
 exact ⟨.ref h'.objs.size,_,I2,rfl,q _ (I1.hok.fresh (ah _))⟩
theorem c0:W1 X (.builtin "isinstance") (λxs H Q=>∃x t c b,xs=[x,.ty c]/\N6 X.K H x t/\W.kitOne X.K t (.type c)=some b/\Q (.bl b) H):=by
 intro pins s σ H xs us Q I r h
 obtain ⟨x,t,c,b,rfl,ty,e,q⟩:=h
 obtain ⟨u,w',rfl,rx,rc⟩:=zs3 r
 cases (show w'=Value.type c from rc)
 exact yo5 I rx ty e λtk=>⟨.bl b,H,I.tok tk,rfl,q⟩
theorem zr2 {J:It}{fr:List Nat}{te:CT TE}{σ:St}{H1:Hp}{Q:Addr->Hp->Prop}{n:Nat}(ys:List V)(hn:ys.length=n)(hz:n<=sizeLine)
  (hstop:∀H,y4 H1 H->J.stop n H) (hgo:∀i H,i<n->y4 H1 H->J.go i H)
  (turn:∀i H x H2,i<n->y4 H1 H->J.yld i H x H2->H2=H/\∀C₀ s₀ H₀ fp,te C₀ s₀ H₀ fp (some x::fr.map λj=>(σ[j]?).getD none) H λy H4=>y4 H H4/\ys[i]?=some y)
  (fin:∀D H,H1 D=none->y4 H1 H->H D=some (.lst ys)->Q D H) :
  ∀D,H1 D=none->∃W:Nat->Nat->St->Hp->Prop,(∃m,W 0 m (L4 1 fr σ) (upd H1 D (.lst [])))/\∀i m σ' H',W i m σ' H' ->
  (J.stop i H'/\Q D H')∨(J.go i H'/\∀x H2,J.yld i H' x H2->∀C₀ s₀ H₀ fp,O3 0 x σ' H2 λσ3 H3=>∃N:VK,te C₀ s₀ H₀ fp σ3 H3 N/\∀y H4,N y H4 ->
   ∃ys m',H4 D=some (.lst ys)/\ys.length<sizeLine/\m'<m/\W (i+1) m' σ3 (upd H4 D (.lst (ys++[y])))):=by
 intro D hD
 have s0:∀o,y4 H1 (upd H1 D o):=λo b u e=>by rw [z6 (y9 e hD)];exact e
 refine ⟨λi m σ' H'=>m=n-i/\i<=n/\y4 H1 H'/\H' D=some (.lst (ys.take i))/\∃z,σ'=z::fr.map λj=>(σ[j]?).getD none,⟨n,rfl,aR _,s0 _,by rw [z4];rfl,none,rfl⟩,?_⟩
 rintro i m σ' H' ⟨rfl,hi,sm,hl,z,rfl⟩
 by_cases hlt:i<n
 ·refine .inr ⟨hgo i H' hlt sm,λx H2 y C₀ s₀ H₀ fp=>?_⟩
  obtain ⟨e,q⟩:=turn i H' x H2 hlt sm y
  subst e
  refine ⟨_,q C₀ s₀ H₀ fp,λy H4 ⟨s4,e4⟩=>⟨ys.take i,n-(i+1),s4 _ _ hl,?_,by lia,rfl,hlt,?_,?_,_,rfl⟩⟩
  ·rw [bj];lia
  ·intro b u e
   rw [z6 (y9 e hD)]
   exact s4 _ _ (sm _ _ e)
  ·rw [z4,aT,e4]
   rfl
 ·have e:i=n:=by lia
  subst e
  refine .inl ⟨hstop H' sm,fin D H' hD sm ?_⟩
  rw [hl,bA (by lia)]
theorem y4.seqT {K:W.Frag}{H H':Hp}{a:Addr}{xs:List V}(e:y4 H H')(h:SqT K H a xs):SqT K H' a xs:=by
 rcases h with (h|⟨o,h⟩)|h
 ·exact .inl (.inl (e _ _ h))
 ·exact .inl (.inr ⟨o,e _ _ h⟩)
 ·exact .inr h
theorem C8 {K:PySem.W.Frag}{a:Addr}{xs:List V}{fr:List Nat}{te:CT TE}{σ:St}{H1:Hp}{Q:Addr->Hp->Prop}(hS:SqT K H1 a xs)(ys:List V)(hn:ys.length=xs.length)(hz:xs.length<=sizeLine)
  (turn:∀(i:Nat) H x,xs[i]?=some x->y4 H1 H->∀C₀ s₀ H₀ fp,te C₀ s₀ H₀ fp (some x::fr.map λj=>(σ[j]?).getD none) H λy H4=>y4 H H4/\ys[i]?=some y)
  (fin:∀D H,H1 D=none->y4 H1 H->H D=some (.lst ys)->Q D H) :
  ∀D,H1 D=none->∃W:Nat->Nat->St->Hp->Prop,(∃m,W 0 m (L4 1 fr σ) (upd H1 D (.lst [])))/\∀i m σ' H',W i m σ' H' ->
  ((Itt K a).stop i H'/\Q D H')∨((Itt K a).go i H'/\∀x H2,(Itt K a).yld i H' x H2->∀C₀ s₀ H₀ fp,O3 0 x σ' H2 λσ3 H3=>∃N:VK,te C₀ s₀ H₀ fp σ3 H3 N/\∀y H4,N y H4 ->
   ∃ys m',H4 D=some (.lst ys)/\ys.length<sizeLine/\m'<m/\W (i+1) m' σ3 (upd H4 D (.lst (ys++[y])))) :=
 zr2 ys hn hz (λH s=>⟨xs,s.seqT hS,ah _⟩) (λi H hi s=>⟨xs,xs[i],s.seqT hS,by simp [hi]⟩) (λi H x H2 hi s y=>⟨y.1,turn i H x (y.2 xs (s.seqT hS)) s⟩) fin
theorem zr1 {K:PySem.W.Frag}{a:Addr}{xs:List V}{fr:List Nat}{te:CT TE}{σ:St}{H1:Hp}{Q:Addr->Hp->Prop}(hS:SqL K H1 a xs)(ys:List V)(hn:ys.length=xs.length)(hz:xs.length<=sizeLine)
  (turn:∀(i:Nat) H x,xs[i]?=some x->y4 H1 H->∀C₀ s₀ H₀ fp,te C₀ s₀ H₀ fp (some x::fr.map λj=>(σ[j]?).getD none) H λy H4=>y4 H H4/\ys[i]?=some y)
  (fin:∀D H,H1 D=none->y4 H1 H->H D=some (.lst ys)->Q D H) :
  ∀D,H1 D=none->∃W:Nat->Nat->St->Hp->Prop,(∃m,W 0 m (L4 1 fr σ) (upd H1 D (.lst [])))/\∀i m σ' H',W i m σ' H' ->
  ((Itl K a).stop i H'/\Q D H')∨((Itl K a).go i H'/\∀x H2,(Itl K a).yld i H' x H2->∀C₀ s₀ H₀ fp,O3 0 x σ' H2 λσ3 H3=>∃N:VK,te C₀ s₀ H₀ fp σ3 H3 N/\∀y H4,N y H4 ->
   ∃ys m',H4 D=some (.lst ys)/\ys.length<sizeLine/\m'<m/\W (i+1) m' σ3 (upd H4 D (.lst (ys++[y])))) :=
 zr2 ys hn hz (λH s=>⟨xs,s.seq hS,ah _⟩) (λi H hi s=>⟨xs,xs[i],s.seq hS,by simp [hi]⟩) (λi H x H2 hi s y=>⟨y.1,turn i H x (y.2 xs (s.seq hS)) s⟩) fin
end
end L2
namespace PySem
open Sem (wp)
open AutoSeq1 (wpAny_loadPart')
section
variable {prog:Program}{w:World}{A:Around}{E:Value->Shared->Prop}{s:Shared}
theorem N4 {it t:Addr}{i:Nat}{items}{x:Value}{Q:Value->Shared->Prop}(hit:s.heap.IsTupleIter it t i)(ht:s.heap.IsTuple t items)(hx:items[i]?=some x)
  (hQ:∀h',h'.IsTupleIter it t (i+1)->Heap.SameBut it s.heap h'->Q x { s with heap:=h' }):wpAny (model prog w) A (Builtin.SmallTypes.nextOf (.ref it)) Q E s:=by
 obtain ⟨o,ho,hc,hd⟩:=id hit
 obtain ⟨ol,hol,_,nl,hdl⟩:=ht
 unfold Builtin.SmallTypes.nextOf
 refine wpAny_bind (wpAny_callSpecial?_slot (name:=Str.ofString "__next__") hit.typeIs F.slot_tuple_iterator_next
  (wpAny_call_entry F.slot_tuple_iterator_next hit.typeIs F.entry_tuple_iterator_next ?_ (F.args_tuple_iterator_next_1 _)))
 show wpAny _ _ (field (.ref it) 0 >>= _) _ _ s
 refine wpAny_bind (wpAny_field ho hd (x:=.ref t) rfl ?_)
 show wpAny _ _ (if (Value.ref t==Value.none)=true then _ else _) _ _ s
 rw [if_neg (show ¬((Value.ref t==Value.none)=true) from aE)]
 show wpAny _ _ (field (.ref it) 1 >>= _) _ _ s
 refine wpAny_bind (wpAny_field ho hd (x:=.int i 0) rfl ?_)
 show wpAny _ _ (seqItems? (.ref t) >>= _) _ _ s
 refine wpAny_bind (wpAny_seqItems hol hdl ?_)
 simp only [bQ,hx]
 refine wpAny_bind (wpAny_setField ho hd (by simp) (wpAny_pure ⟨x,rfl,wpAny_pure (hQ _ ?_ (Heap.SameBut.update ..))⟩))
 exact ⟨_,Heap.get?_update_self _ ho (Obj.isFreed_of_fields (Obj.data_mapFields hd _)),(Obj.cls_mapFields ..).trans hc,by
  rw [Obj.data_mapFields hd];simp [rawInt]⟩
theorem V4 {it t:Addr}{i:Nat}{items}{Q:Value->Shared->Prop}(hh:A.handled=none)
  (hit:s.heap.IsTupleIter it t i) (ht:s.heap.IsTuple t items) (hx:items[i]?=none)
  (hE:∀h' e,Heap.ExtBut it s.heap h'->(∃o,h'.get? e=some o/\o.cls=.type "StopIteration")->E (.ref e) { s with heap:=h' }) :
  wpAny (model prog w) A (Builtin.SmallTypes.nextOf (.ref it)) Q E s:=by
 obtain ⟨o,ho,hc,hd⟩:=id hit
 obtain ⟨ol,hol,_,nl,hdl⟩:=ht
 unfold Builtin.SmallTypes.nextOf
 refine wpAny_bind (wpAny_callSpecial?_slot (name:=Str.ofString "__next__") hit.typeIs F.slot_tuple_iterator_next
  (wpAny_call_entry F.slot_tuple_iterator_next hit.typeIs F.entry_tuple_iterator_next ?_ (F.args_tuple_iterator_next_1 _)))
 show wpAny _ _ (field (.ref it) 0 >>= _) _ _ s
 refine wpAny_bind (wpAny_field ho hd (x:=.ref t) rfl ?_)
 show wpAny _ _ (if (Value.ref t==Value.none)=true then _ else _) _ _ s
 rw [if_neg (show ¬((Value.ref t==Value.none)=true) from aE)]
 show wpAny _ _ (field (.ref it) 1 >>= _) _ _ s
 refine wpAny_bind (wpAny_field ho hd (x:=.int i 0) rfl ?_)
 show wpAny _ _ (seqItems? (.ref t) >>= _) _ _ s
 refine wpAny_bind (wpAny_seqItems hol hdl ?_)
 simp only [bQ,hx]
 refine wpAny_bind (wpAny_rule (wpAny_bind (wpAny_setField ho hd (by simp) ?_)))
 show wpAny _ _ (newExc (.type "StopIteration") [] >>= _) _ _ _
 refine wpAny_bind ?_
 simp only [newExc,newTuple]
 refine wpAny_bind (wpAny_newObj_type ?_ (by size_fits))
 refine wpAny_bind (m:=firstArgMember _ _) (wpAny_of_eq (a:=Value.none) (by first|rfl|(simp only [firstArgMember];rfl)) ?_)
 refine wpAny_newObj_type ?_ (by size_fits)
 simp only [raiseNew]
 refine wpAny_bind (wpAny_handled ?_)
 first|rw [show A.in1.handled=none from hh]|rw [hh]
 refine wpAny_bind (wpAny_pure (wpAny_throw ?_))
 exact hE _ _ (((Heap.SameBut.update ..).extBut.push _).push _) ⟨_,aA _ rfl,rfl⟩
end
theorem Draws.tuple {prog:Program}{w:World}{A:Around}(hh:A.handled=none)(it l:Addr)(hne:l≠it)(items:Array Value) :
  Draws prog w A it [it,l] items.size (λi v=>items[i]?=some v) (λi h=>h.IsTupleIter it l i/\h.IsTuple l items) where
 live:=λ_ _ st=>let ⟨o,ho,_⟩:=st.1;⟨o,ho⟩
 frame:=λ_ _ _ st hk=>⟨st.1.at λo e=>hk it (by simp) o e,let ⟨o,ho,r⟩:=st.2;⟨o,hk l (by simp) o ho,r⟩⟩
 item:=λi s Q E hi st hQ=>by
  refine N4 st.1 st.2 (x:=items[i]) (by simp [hi]) λh' hit' hs'=>?_
  exact hQ _ h' s.toks (by simp [hi]) ⟨hit',st.2.extBut hs'.extBut hne⟩ hs'
 done:=λs Q E st hE=>V4 hh st.1 st.2 (by simp) hE
theorem K8 (l:Addr)(items:Array Value)(n:Nat)(dct:Option Addr)(sl:Array (Option Value)) :
  Meets (Builtin.«enumerate.__new__» ⟨[.type "enumerate",.ref l],[]⟩) (λ_ R s=>s.heap.get? l=some { cls:=.type "tuple",dict:=dct,data:=.seq items n,slots:=sl } /\
   R (.ok (.ret (.ref (s.heap.push { cls:=.type "tuple_iterator",data:=.fields #[.ref l,.int 0 0] }).objs.size)))
    {s with heap:=(s.heap.push { cls:=.type "tuple_iterator",data:=.fields #[.ref l,.int 0 0] }).push { cls:=.type "enumerate",data:=.fields #[.none,.bool false,.ref s.heap.objs.size,rawInt 0,.none,.none] } }) :=
 .of_wp λprog w A R s h=>by
  obtain ⟨hp,g,d,tk,os⟩:=s;obtain ⟨hl,h⟩:=h
  have hsub:=sub_enumerate
  have hL:Heap.IsTuple (Shared.heap ⟨hp,g,d,tk,os⟩) l items:=⟨_,hl,rfl,n,rfl⟩
  wp_walk using wpAny_loadPart' hl
  refine wpAny_stack_any λst=>wpAny_pure ?_
  split
  ·rename_i c _ _ _ _ _
   cases (c==Value.type "enumerate")
   ·wp_walk using wpAny_loadPart' hl,wpAny_pyIter_tuple hL
    exact ⟨_,rfl,h⟩
   ·wp_walk using wpAny_loadPart' hl,wpAny_pyIter_tuple hL
    exact ⟨_,rfl,h⟩
  ·wp_walk using wpAny_loadPart' hl,wpAny_pyIter_tuple hL
   exact ⟨_,rfl,h⟩
section
variable {prog:Program}{w:World}{A:Around}{E:Value->Shared->Prop}{s:Shared}
theorem K2 {l:Addr}{items:Array Value}{Q:Value->Shared->Prop}(hL:s.heap.IsTuple l items)
  (h:∀h',IsEnum h' (s.heap.objs.size+1) s.heap.objs.size 0 .none->h'.IsTupleIter s.heap.objs.size l 0->h'.objs.size=s.heap.objs.size+2 ->
   (∀b o,s.heap.get? b=some o->h'.get? b=some o)->Q (.ref (s.heap.objs.size+1)) { s with heap:=h' }) :
  wpAny (model prog w) A (call (.type "enumerate") [.ref l]) Q E s:=by
 obtain ⟨⟨c,dct,dt,sl⟩,hl,hc,n,hd⟩:=hL
 replace hc:c=.type "tuple":=hc
 replace hd:dt=.seq items n:=hd
 subst hc hd
 refine callType_new F.called_enumerate (by decide) (F.typeCall_enumerate_1 _) (F.newCall_enumerate_1 _) (λobj=>F.args_object_init_2 obj _) F.entry_enumerate_new
  (K8 l items n dct sl) ⟨hl,?_⟩
 have hz:(s.heap.push { cls:=.type "tuple_iterator",data:=.fields #[.ref l,.int 0 0] }).objs.size=s.heap.objs.size+1:=dF ..
 show _/\_
 rw [hz]
 have he:IsEnum ((s.heap.push { cls:=.type "tuple_iterator",data:=.fields #[.ref l,.int 0 0] }).push
   {cls:=.type "enumerate",data:=.fields #[.none,.bool false,.ref s.heap.objs.size,rawInt 0,.none,.none] }) (s.heap.objs.size+1) s.heap.objs.size 0 .none:=by
  have:=aA (s.heap.push { cls:=.type "tuple_iterator",data:=.fields #[.ref l,.int 0 0] })
   (o:={ cls:=.type "enumerate",data:=.fields #[.none,.bool false,.ref s.heap.objs.size,rawInt 0,.none,.none] }) rfl
  rw [hz] at this;exact this
 refine ⟨⟨_,he,rfl⟩,h _ he ⟨_,al _ (aA _ rfl),rfl,rfl⟩ (by rw [dF,hz]) λb o x=>al _ (al _ x)⟩
end
end PySem
namespace L2
open PySem PySem.Spec PyProof.Rows
section
variable {X:Cx}
theorem Inv.pair {pins:List (Addr×Obj)}{σ:St}{H:Hp}{s:Shared}{h':Heap}{t':Nat}{e it:Addr}{xs:List V}{its:List Value}(I:Inv X pins σ H s)(fe:zb7 X pins H e)(fi:zb7 X pins H it)
  (k:∀b o,b≠e->b≠it->s.heap.get? b=some o->h'.get? b=some o) (hT:zs7 h' s.heap.objs.size its.toArray) (hv:t9 xs its) (hz:xs.length<=sizeLine) :
  Inv X pins σ (upd H s.heap.objs.size (.tup xs)) { s with heap:=h',toks:=t' }:=by
 have fT:zb7 X pins H s.heap.objs.size:=I.fpOk (ah _) (I.hok.fresh (ah _))
 have nT:∀b o,H b=some o->b≠s.heap.objs.size:=λb o q z=>by rw [z,fT.1] at q;cases q
 have ne:∀b o,H b=some o->b≠e:=λb o q z=>by rw [z,fe.1] at q;cases q
 have ni:∀b o,H b=some o->b≠it:=λb o q z=>by rw [z,fi.1] at q;cases q
 have ok:∀b∈[e,it,s.heap.objs.size],zb7 X pins H b:=λb hb=>by
  simp only [aq,aV,or_false] at hb
  rcases hb with rfl|rfl|rfl
  ·exact fe
  ·exact fi
  ·exact fT
 have out:∀b,b∉[e,it,s.heap.objs.size]->b≠e/\b≠it/\b≠s.heap.objs.size:=λb hb=>by
  simp only [aq,aV,or_false,not_or] at hb
  exact hb
 refine I.step (g':=s.gens) (d':=s.drawn) (ch:=[e,it,s.heap.objs.size]) (λb hb=>⟨(ok b hb).2.2.2.1,(ok b hb).2.1,(ok b hb).2.2.2.2.1,(ok b hb).2.2.2.2.2⟩)
  (λb o _ _ hc q _=>k b o (out b hc).1 (out b hc).2.1 q) (λb o _ _ hc q _=>⟨o.slots,k b o (out b hc).1 (out b hc).2.1 q⟩) (λb o hc q n=>by rw [z6 (out b hc).2.2];exact n)
  (λb o hc q=>⟨o,k b o (out b hc).1 (out b hc).2.1 q⟩) (λb ys q=>by rw [z6 (nT b _ q)];exact q) (λb o u q=>by rw [z6 (nT b _ q)];exact q) (λb ps q=>⟨#[],by rw [z6 (nT b _ q),q];simp⟩)
  (λm hm=>?_) (λb u q=>?_) I.bare
 ·obtain ⟨o,es,ep,ho,r⟩:=hm
  exact ⟨o,es,ep,k _ o (Ne.symm fe.2.1) (Ne.symm fi.2.1) ho,r⟩
 ·by_cases hb:b=s.heap.objs.size
  ·subst hb
   rw [z4] at q
   cases q
   exact ⟨hz,its,hv,hT⟩
  ·rw [z6 hb] at q
   refine (I.hok b u q).stay (λc v hc z=>k c v ?_ ?_ z) (λc z=>by rw [z6 (nT c _ z)];exact z) λc ys z=>by rw [z6 (nT c _ z)];exact z
   ·rcases hc with z|z
    ·rw [z];exact ne b u q
    ·exact ne c _ z
   ·rcases hc with z|z
    ·rw [z];exact ni b u q
    ·exact ni c _ z
def Ite (Sq:Hp->List V->Prop):It :=
 ⟨λi H=>∃xs x,Sq H xs/\xs[i]?=some x,λi H x H'=>∃T v,H T=none/\x=.ref T/\H'=upd H T (.tup [.int (i:Nat),v])/\∀xs,Sq H xs->xs[i]?=some v,λi H=>∃xs,Sq H xs/\xs.length<=i⟩
theorem yi6 {P:Program}{w:World}{K:W.Frag}{elts:List Expr}{x1:Nat}{tp:Pos}(a e it:Addr)(hei:e≠it):ye3 P w K (.Tuple elts x1 tp) (Ite λH xs=>SqT K H a xs) [e,it] e (λi h=>(∃old,IsEnum h e it i old)/\h.IsTupleIter it a i) where
 mem:=by simp
 obj:=λi h st b hb=>by
  obtain ⟨⟨old,he⟩,o,ho,c,d⟩:=st
  rcases aq.mp hb with z|z
  ·subst z
   exact ⟨_,he,λv q=>by have q':Data.fields _=Data.cell v:=q;cases q'⟩
  ·have z':b=it:=by simpa using z
   subst z'
   exact ⟨o,ho,λv q=>by rw [d] at q;cases q⟩
 keep:=λi h h' st k=>⟨let ⟨old,he⟩:=st.1;⟨old,k e (by simp) _ he⟩,st.2.at λo q=>k it (by simp) o q⟩
 item:=by
  intro X hP hw hK hc i pins s σ H E I hf st hg
  subst hP hw hK
  obtain ⟨xs,x,hq,hx⟩:=hg
  obtain ⟨its,rv,p,hz⟩:=I.tuple hq
  obtain ⟨u,hu,ru⟩:=rv.get hx
  obtain ⟨⟨old,he⟩,hit⟩:=st
  have fe:=hf e (by simp)
  have fi:=hf it (by simp)
  have hlt:i<its.toArray.size:=by
   have:=(ag.mp hu).1
   simpa using this
  obtain ⟨oa,hoa,hca,na,hda⟩:=id p
  have hai:a≠it:=λz=>by
   obtain ⟨o,ho,c,d⟩:=id hit
   rw [z,ho] at hoa
   cases hoa
   rw [c] at hca
   exact absurd hca (by decide)
  have hae:e∉[it,a]:=by
   intro z
   simp only [aq,aV,or_false] at z
   rcases z with z|z
   ·exact hei z
   ·rw [←z,he] at hoa
    cases hoa
    exact absurd (show Value.type "enumerate"=Value.type "tuple" from hca) (by decide)
  refine wpAny_pyNext_enum_itemD (Draws.tuple (A:=X.A.in1) (I.ok.hd hc) it a hai its.toArray) he ⟨hit,p⟩ hlt hei hae λy h' tk hP ho hst hT hsz kk=>?_
  obtain rfl:y=u:=by
   have:its.toArray[i]?=some u:=by simpa using hu
   rw [this] at hP
   exact (Option.some.inj hP).symm
  have I1:Inv X pins σ (upd H s.heap.objs.size (.tup [.int (i:Nat),x])) { s with heap:=h',toks:=tk+1 }:=I.pair (its:=[.int i tk,y]) fe fi kk ⟨_,hT,rfl,_,rfl,rfl⟩ (.cons ⟨tk,rfl⟩ (.cons ru .nil)) (by show 2<=sizeLine;decide)
  have neT:∀b∈[e,it],b≠s.heap.objs.size:=λb hb z=>by
   rcases aq.mp hb with q|q
   ·rw [←q,z] at he
    exact absurd (az he) (bh _)
   ·have q':b=it:=by simpa using q
    obtain ⟨o,hi2,_⟩:=hit
    rw [←q',z] at hi2
    exact absurd (az hi2) (bh _)
  have fr:∀b∈[e,it],(upd H s.heap.objs.size (.tup [.int (i:Nat),x])) b=none:=λb hb=>by rw [z6 (neT b hb)];exact (hf b hb).1
  refine ⟨_,rfl,wpAny_letOwnedTupleGo_enum (s:={ s with heap:=h',toks:=tk+1 }) ho λh'' he'' hs''=>?_⟩
  have I2:Inv X pins σ (upd H s.heap.objs.size (.tup [.int (i:Nat),x])) { s with heap:=h'',toks:=tk+1 }:=I1.turned (t':=tk+1) (λb o hb q=>(hs''.2 b hb).trans q) (fr e (by simp)) fe.2.1 fe.2.2.2.1 fe.2.2.2.2.1 fe.2.2.2.2.2
  refine ⟨.ref s.heap.objs.size,_,I2,rfl,⟨s.heap.objs.size,x,I.hok.fresh (ah _),rfl,rfl,λys hy=>by rw [I.tuple_inj hy hq];exact hx⟩,⟨⟨y,by simpa using he''⟩,hst.1.at λo q=>(hs''.2 it (Ne.symm hei)).trans q⟩,fr⟩
 done:=by
  intro X hP hw hK hc i pins s σ H E I hf st hg
  subst hP hw hK
  obtain ⟨xs,hq,hx⟩:=hg
  obtain ⟨its,rv,p,hz⟩:=I.tuple hq
  obtain ⟨⟨old,he⟩,hit⟩:=st
  have fi:=hf it (by simp)
  have hT:s.TypeIs (.ref e) "enumerate":=⟨_,he,rfl⟩
  unfold pyNext
  refine wpAny_bind (wpAny_attempt (wpAny_callSpecial?_slot (name:=Str.ofString "__next__") hT F.slot_enumerate_next
   (wpAny_call_entry F.slot_enumerate_next hT F.entry_enumerate_next ?_ (F.args_enumerate_next_1 _))))
  show wpAny _ _ (field (.ref e) 2 >>= _) _ _ _
  refine wpAny_bind (wpAny_field he rfl (x:=.ref it) rfl ?_)
  have hl:=rv.length
  refine wpAny_bind (V4 (A:=_) (I.ok.hd hc) hit p (by simp;lia) λh' x he' hx'=>?_)
  obtain ⟨o,ho,hcl⟩:=hx'
  refine wpAny_bind (wpAny_isInstance (T:="StopIteration") (b:=true) ⟨o,ho,hcl⟩ isSubtype_stop ?_)
  exact wpAny_pure ⟨rfl,I.turned (t':=s.toks) (λb o hb q=>he' b o hb q) fi.1 fi.2.1 fi.2.2.2.1 fi.2.2.2.2.1 fi.2.2.2.2.2⟩
 self:=λ_ _ _ _ _ st h=>let ⟨_,he⟩:=st.1;wpAny_pyIter_enum he h
theorem yi5 {P:Program}{w:World}{K:W.Frag}{elts:List Expr}{x1:Nat}{tp:Pos}(a e it:Addr)(hei:e≠it):ye3 P w K (.Tuple elts x1 tp) (Ite λH xs=>SqL K H a xs) [e,it] e (λi h=>(∃old,IsEnum h e it i old)/\h.IsListIter it a i) where
 mem:=by simp
 obj:=λi h st b hb=>by
  obtain ⟨⟨old,he⟩,o,ho,c,d⟩:=st
  rcases aq.mp hb with z|z
  ·subst z
   exact ⟨_,he,λv q=>by have q':Data.fields _=Data.cell v:=q;cases q'⟩
  ·have z':b=it:=by simpa using z
   subst z'
   exact ⟨o,ho,λv q=>by rw [d] at q;cases q⟩
 keep:=λi h h' st k=>⟨let ⟨old,he⟩:=st.1;⟨old,k e (by simp) _ he⟩,st.2.at λo q=>k it (by simp) o q⟩
 item:=by
  intro X hP hw hK hc i pins s σ H E I hf st hg
  subst hP hw hK
  obtain ⟨xs,x,hq,hx⟩:=hg
  obtain ⟨its,rv,p,hz⟩:=I.list hq
  obtain ⟨u,hu,ru⟩:=rv.get hx
  obtain ⟨⟨old,he⟩,hit⟩:=st
  have fe:=hf e (by simp)
  have fi:=hf it (by simp)
  have hlt:i<its.toArray.size:=by
   have:=(ag.mp hu).1
   simpa using this
  obtain ⟨oa,hoa,hca,na,hda⟩:=id p.isList
  have hai:a≠it:=λz=>by
   obtain ⟨o,ho,c,d⟩:=id hit
   rw [z,ho] at hoa
   cases hoa
   rw [c] at hca
   exact absurd hca (by decide)
  have hae:e∉[it,a]:=by
   intro z
   simp only [aq,aV,or_false] at z
   rcases z with z|z
   ·exact hei z
   ·rw [←z,he] at hoa
    cases hoa
    exact absurd (show Value.type "enumerate"=Value.type "list" from hca) (by decide)
  refine wpAny_pyNext_enum_itemD (Draws.list (A:=X.A.in1) (I.ok.hd hc) it a hai its.toArray) he ⟨hit,p.isList⟩ hlt hei hae λy h' tk hP ho hst hT hsz kk=>?_
  obtain rfl:y=u:=by
   have:its.toArray[i]?=some u:=by simpa using hu
   rw [this] at hP
   exact (Option.some.inj hP).symm
  have I1:Inv X pins σ (upd H s.heap.objs.size (.tup [.int (i:Nat),x])) { s with heap:=h',toks:=tk+1 }:=I.pair (its:=[.int i tk,y]) fe fi kk ⟨_,hT,rfl,_,rfl,rfl⟩ (.cons ⟨tk,rfl⟩ (.cons ru .nil)) (by show 2<=sizeLine;decide)
  have neT:∀b∈[e,it],b≠s.heap.objs.size:=λb hb z=>by
   rcases aq.mp hb with q|q
   ·rw [←q,z] at he
    exact absurd (az he) (bh _)
   ·have q':b=it:=by simpa using q
    obtain ⟨o,hi2,_⟩:=hit
    rw [←q',z] at hi2
    exact absurd (az hi2) (bh _)
  have fr:∀b∈[e,it],(upd H s.heap.objs.size (.tup [.int (i:Nat),x])) b=none:=λb hb=>by rw [z6 (neT b hb)];exact (hf b hb).1
  refine ⟨_,rfl,wpAny_letOwnedTupleGo_enum (s:={ s with heap:=h',toks:=tk+1 }) ho λh'' he'' hs''=>?_⟩
  have I2:Inv X pins σ (upd H s.heap.objs.size (.tup [.int (i:Nat),x])) { s with heap:=h'',toks:=tk+1 }:=I1.turned (t':=tk+1) (λb o hb q=>(hs''.2 b hb).trans q) (fr e (by simp)) fe.2.1 fe.2.2.2.1 fe.2.2.2.2.1 fe.2.2.2.2.2
  refine ⟨.ref s.heap.objs.size,_,I2,rfl,⟨s.heap.objs.size,x,I.hok.fresh (ah _),rfl,rfl,λys hy=>by rw [I.list_inj hy hq];exact hx⟩,⟨⟨y,by simpa using he''⟩,hst.1.at λo q=>(hs''.2 it (Ne.symm hei)).trans q⟩,fr⟩
 done:=by
  intro X hP hw hK hc i pins s σ H E I hf st hg
  subst hP hw hK
  obtain ⟨xs,hq,hx⟩:=hg
  obtain ⟨its,rv,p,hz⟩:=I.list hq
  obtain ⟨⟨old,he⟩,hit⟩:=st
  have fi:=hf it (by simp)
  have hT:s.TypeIs (.ref e) "enumerate":=⟨_,he,rfl⟩
  unfold pyNext
  refine wpAny_bind (wpAny_attempt (wpAny_callSpecial?_slot (name:=Str.ofString "__next__") hT F.slot_enumerate_next
   (wpAny_call_entry F.slot_enumerate_next hT F.entry_enumerate_next ?_ (F.args_enumerate_next_1 _))))
  show wpAny _ _ (field (.ref e) 2 >>= _) _ _ _
  refine wpAny_bind (wpAny_field he rfl (x:=.ref it) rfl ?_)
  have hl:=rv.length
  refine wpAny_bind (wpAny_nextOf_list_end (A:=_) (I.ok.hd hc) hit p.isList (by simp;lia) λh' x he' hx'=>?_)
  obtain ⟨o,ho,hcl⟩:=hx'
  refine wpAny_bind (wpAny_isInstance (T:="StopIteration") (b:=true) ⟨o,ho,hcl⟩ isSubtype_stop ?_)
  exact wpAny_pure ⟨rfl,I.turned (t':=s.toks) (λb o hb q=>he' b o hb q) fi.1 fi.2.1 fi.2.2.2.1 fi.2.2.2.2.1 fi.2.2.2.2.2⟩
 self:=λ_ _ _ _ _ st h=>let ⟨_,he⟩:=st.1;wpAny_pyIter_enum he h
def xj7 (K:W.Frag)(ta:TA):TI:=λσ H R=>ta σ H λvs H1=>∃a,vs=[.ref a]/\(∃xs,SqT K H1 a xs)/\R (Ite λH xs=>SqT K H a xs) H1
def xj6 (K:W.Frag)(ta:TA):TI:=λσ H R=>ta σ H λvs H1=>∃a,vs=[.ref a]/\(∃xs,SqL K H1 a xs)/\R (Ite λH xs=>SqL K H a xs) H1
theorem yb5 {elts:List Expr}{x1:Nat}{tp:Pos}{a:Expr}{ta:TA}{p pos:Pos}(hg:Gl X "enumerate") (hm:X.mg "enumerate"=none) (ha:PA X [a] ta) (hs:starEach [a] X.env=[(false,eval a X.env)]:=by rfl):PI X (.Tuple elts x1 tp) (.Call (.Name "enumerate" p) [a] [] pos) (xj7 X.K ta):=by
 intro pins s σ H R I h
 refine Call_ (zc9 I hg hm boot_enumerate (PyProof.Rows.callWith_type1 (thn (ha pos pins s σ H _ I h) λus s1 ⟨vs,H1,I1,r1,q1⟩=>?_) hs rfl))
 obtain ⟨b,e,⟨xs,hq⟩,q⟩:=q1
 subst e
 cases r1 with
 | cons r rr =>
  cases rr
  cases r
  obtain ⟨its,rv,pl,hz⟩:=I1.tuple hq
  refine K2 pl λh' he hit hsz kk=>?_
  have I2:Inv X pins σ H1 { s1 with heap:=h' }:=I1.kept (t':=s1.toks) kk
  refine wpAny_pyIter_enum he ⟨s1.heap.objs.size+1,[s1.heap.objs.size+1,s1.heap.objs.size],_,_,H1,rfl,I2,yi6 b _ _ (cV (cZ _)),⟨⟨.none,by simpa using he⟩,hit⟩,λc hc=>?_,q⟩
  have hle:s1.heap.objs.size<=c:=by
   simp only [aq,aV,or_false] at hc
   rcases hc with rfl|rfl
   ·exact bX _
   ·exact ah _
  exact I1.fpOk hle (I1.hok.fresh hle)
theorem yw5 {elts:List Expr}{x1:Nat}{tp:Pos}{a:Expr}{ta:TA}{p pos:Pos}(hg:Gl X "enumerate") (hm:X.mg "enumerate"=none) (ha:PA X [a] ta) (hs:starEach [a] X.env=[(false,eval a X.env)]:=by rfl):PI X (.Tuple elts x1 tp) (.Call (.Name "enumerate" p) [a] [] pos) (xj6 X.K ta):=by
 intro pins s σ H R I h
 refine Call_ (zc9 I hg hm boot_enumerate (PyProof.Rows.callWith_type1 (thn (ha pos pins s σ H _ I h) λus s1 ⟨vs,H1,I1,r1,q1⟩=>?_) hs rfl))
 obtain ⟨b,e,⟨xs,hq⟩,q⟩:=q1
 subst e
 cases r1 with
 | cons r rr =>
  cases rr
  cases r
  obtain ⟨its,rv,pl,hz⟩:=I1.list hq
  refine call_enumerate_list pl.isList λh' he hit hsz kk=>?_
  have I2:Inv X pins σ H1 { s1 with heap:=h' }:=I1.kept (t':=s1.toks) kk
  refine wpAny_pyIter_enum he ⟨s1.heap.objs.size+1,[s1.heap.objs.size+1,s1.heap.objs.size],_,_,H1,rfl,I2,yi5 b _ _ (cV (cZ _)),⟨⟨.none,by simpa using he⟩,hit⟩,λc hc=>?_,q⟩
  have hle:s1.heap.objs.size<=c:=by
   simp only [aq,aV,or_false] at hc
   rcases hc with rfl|rfl
   ·exact bX _
   ·exact ah _
  exact I1.fpOk hle (I1.hok.fresh hle)
theorem zj8 {Sq:Hp->List V->Prop}{xs:List V}{g:TG}{tb:TS}{D:zb6}{σ:St}{H:Hp}(Pv:Nat->St->Hp->Prop)(h0:Pv 0 σ H)(hl:∀i σ H,i<=xs.length->Pv i σ H->Sq H xs)
  (hs:∀i x σ H T,xs[i]?=some x->Pv i σ H->H T=none->g (.ref T) σ (upd H T (.tup [.int (i:Nat),x])) λσ2 H2=>tb { D with nx:=Pv (i+1),ct:=Pv (i+1),bk:=D.nx } σ2 H2) (hd:∀σ H,Pv xs.length σ H->D.nx σ H) :
  ∃W:Nat->Nat->St->Hp->Prop,(∃m,W 0 m σ H)/\∀i m σ H,W i m σ H ->
   ((Ite Sq).stop i H/\D.nx σ H)∨((Ite Sq).go i H/\∃N:St->Hp->Prop,(∀σ' H',N σ' H'->∃m',m'<m/\W (i+1) m' σ' H')/\∀x H',(Ite Sq).yld i H x H'->g x σ H' λσ2 H2=>tb { D with nx:=N,ct:=N,bk:=D.nx } σ2 H2):=by
 refine ⟨λi m σ H=>m=xs.length-i/\i<=xs.length/\Pv i σ H,⟨xs.length,by simp,aR _,h0⟩,?_⟩
 rintro i m σ H ⟨rfl,hi,p⟩
 have q:=hl i σ H hi p
 by_cases hlt:i<xs.length
 ·refine .inr ⟨⟨xs,xs[i],q,by simp [hlt]⟩,Pv (i+1),λσ' H' p'=>⟨xs.length-(i+1),by lia,rfl,hlt,p'⟩,λx H' y=>?_⟩
  obtain ⟨T,v,hT,rfl,rfl,hv⟩:=y
  exact hs i v σ H T (hv xs q) p hT
 ·have e:i=xs.length:=by lia
  subst e
  exact .inl ⟨⟨xs,q,ah _⟩,hd σ H p⟩
end
section
variable {X:Cx}
end
section
variable {X:Cx}
end
section
variable {X:Cx}
end
section
variable {X:Cx}
end
end L2
namespace L2
open PySem PySem.Spec PyProof.Rows PyProof.Rows.LSm
mutual
inductive RdD (K:W.Frag) (H:Hp):V->PyData->Prop
 | non:RdD K H .non .none
 | bl (b:Bool):RdD K H (.bl b) (.bool b)
 | int (i:Int):RdD K H (.int i) (.int i)
 | str (x:Str):RdD K H (.str x) (.str x)
 | lst {a:Addr} {xs:List V} {ds:List PyData}:SqL K H a xs->D1 K H xs ds->RdD K H (.ref a) (.list ds)
 | tup {a:Addr} {xs:List V} {ds:List PyData}:SqT K H a xs->D1 K H xs ds->RdD K H (.ref a) (.tuple ds)
inductive D1 (K:W.Frag) (H:Hp):List V->List PyData->Prop
 | nil:D1 K H [] []
 | cons {x:V} {d:PyData} {xs:List V} {ds:List PyData}:RdD K H x d->D1 K H xs ds->D1 K H (x::xs) (d::ds)
end
theorem D1.ints {K:W.Frag}{H:Hp}:∀(ns:List Int),D1 K H (ns.map V.int) (ns.map PyData.int)
 | []=>.nil
 | n::r=>.cons (.int n) (D1.ints r)
section
variable {X:Cx}{pins:List (Addr×Obj)}{σ:St}{H:Hp}{s:Shared}
mutual
theorem RdD.reads (I:Inv X pins σ H s):∀{x:V} {d:PyData},RdD X.K H x d->∀u,p0 x u->∃as,Reads s.heap u d as
 | _,_,.non,u,r=>by cases (show u=Value.none from r);exact ⟨_,.none⟩
 | _,_,.bl b,u,r=>by cases (show u=Value.bool b from r);exact ⟨_,.bool b⟩
 | _,_,.int i,u,r=>by obtain ⟨t,rfl⟩:=(show ∃t,u=Value.int i t from r);exact ⟨_,.int i t⟩
 | _,_,.str x,u,r=>by obtain ⟨t,rfl⟩:=(show ∃t,u=Value.str x t from r);exact ⟨_,.str x t⟩
 | _,_,.lst h hs,u,r=>by
  cases (show u=Value.ref _ from r)
  obtain ⟨its,rv,p,_⟩:=I.list h
  obtain ⟨o,ho,hc,n,hd⟩:=p.isList
  obtain ⟨as,ha⟩:=D1.reads I hs its rv
  exact ⟨_,.list ho hc hd (by simpa using ha)⟩
 | _,_,.tup h hs,u,r=>by
  cases (show u=Value.ref _ from r)
  obtain ⟨its,rv,p,_⟩:=I.tuple h
  obtain ⟨o,ho,hc,n,hd⟩:=p
  obtain ⟨as,ha⟩:=D1.reads I hs its rv
  exact ⟨_,.tuple ho hc hd (by simpa using ha)⟩
theorem D1.reads (I:Inv X pins σ H s):∀{xs:List V} {ds:List PyData},D1 X.K H xs ds->∀us,t9 xs us->∃as,ReadsAll s.heap us ds as
 | _,_,.nil,us,r=>by cases r;exact ⟨_,.nil⟩
 | _,_,.cons h hs,us,r=>by
  cases r with
  | cons r1 r2 =>
   obtain ⟨as,ha⟩:=RdD.reads I h _ r1
   obtain ⟨bs,hb⟩:=D1.reads I hs _ r2
   exact ⟨_,.cons ha hb⟩
end
end
section
variable {X:Cx}
theorem xm1 (hu:X.A.units+64<cLine):OpR X (compareOp .Eq) (λx y H Q=>∃d e,RdD X.K H x d/\RdD X.K H y e/\PySem.SeqAt.shaped d=true/\PySem.SeqAt.shaped e=true/\Q (.bl (PyData.eqv d e)) H):=by
 intro pins s σ H x y v u Q I rx ry h
 obtain ⟨d,e,hd,he,s1,s2,q⟩:=h
 obtain ⟨as,ra⟩:=hd.reads I v rx
 obtain ⟨bs,rb⟩:=he.reads I u ry
 exact eq_dataH ra rb s1 s2 hu ⟨.bl _,H,I,rfl,q⟩
theorem ze8:∀{bs:List Bool} {us:List Value},t9 (bs.map V.bl) us->BoolsAre us bs
 | [],_,r=>by cases r;exact .nil
 | b::bs,_,r=>by
  cases r with
  | cons a c =>
   cases (show _=Value.bool b from a)
   exact .cons b (ze8 c)
theorem zc1 (hc:X.calm=true):W1 X (.builtin "all") (λxs H Q=>∃(p:Addr) (bs:List Bool),xs=[.ref p]/\SqL X.K H p (bs.map V.bl)/\Q (.bl (bs.all id)) H):=by
 intro pins s σ H xs us Q I r h
 obtain ⟨p,bs,rfl,hq,q⟩:=h
 obtain ⟨u,rfl,rx⟩:=L7 r
 cases rx
 obtain ⟨its,r1,p1,hz⟩:=I.list hq
 obtain ⟨m,F⟩:=I.fr
 have hb:=ze8 r1
 have hl:=p1.isList
 have hlt:p<s.heap.objs.size:=by obtain ⟨_,e,_⟩:=hl;exact az e
 refine call_all_walk (wpAny_pyIter_list hl ?_)
 refine ⟨s.heap.objs.size,[s.heap.objs.size,p],[s.heap.objs.size],its.toArray.size,_,_,λi=>(bs[i]?).getD true,rfl,Walks.list (A:=X.A.in1) (I.ok.hd hc) _ p (aO hlt) its.toArray,
  ⟨⟨_,aA _ rfl,rfl,rfl⟩,hl.push _⟩,λi v s' Q' E' hP hQ=>?_,λh' tk hk=>?_⟩
 ·obtain ⟨b,e,rfl⟩:=hb.get i v (by simpa using hP)
  simp only [e,cY] at hQ
  exact wpAny_truthy_bool hQ
 ·have e:((List.range its.toArray.size).all λi=>(bs[i]?).getD true)=bs.all id:=by
   rw [aB,hb.length];exact range_all bs
  rw [e]
  exact ⟨.bl _,H,I.kept (kept_iter hk),rfl,q⟩
end
end L2
namespace L2
open PySem PySem.Spec PyProof.Rows
section
variable {X:Cx}
end
section
variable {X:Cx}{tg:Expr}
end
section
variable {X:Cx}
end
def CX1 (P:Program)(w:World):CXT:=λouter H s E e s'=>∃(ea C:Addr) (a0:Value) (B:Heap) (H':Hp),e=.ref ea/\s'.os=s.os/\AllBare s'.gens/\HOk P w H' B/\Heap.FlyingW B outer ea (.ref C) a0 s'.heap /\
 (∀b o,s.heap.get? b=some o->H b=none->b∉frs outer->B.get? b=some o) /\
 (∀b o,s.heap.get? b=some o->H b=none->b∈frs outer->∃sl,s'.heap.get? b=some { o with slots:=sl }) /\
 (∀b o,s.heap.get? b=some o->H b=none->H' b=none) /\
 (∀b o,s.heap.get? b=some o->b∈frs outer∨∃o',B.get? b=some o') /\
 (∀b xs,H b=some (.tup xs)->H' b=some (.tup xs))/\(∀b o u,H b=some (.frz o u)->H' b=some (.frz o u)) /\
 (∀b ps,H b=some (.tbl ps)->∃more,H' b=some (.tbl (ps++more)))/\E (.ref C) none H'
theorem yt6 {P:Program}{w:World}{H:Hp}{h:Heap}{fs:List Addr}(x:HOk P w H h)(hf:∀b∈fs,H b=none):HOk P w H (W.hideAll h fs):=λa o e =>
 (x a o e).stay (λb u hb q=>W.hideAll_get _ q λhm=>by
  have hn:=hf b hm
  rcases hb with rfl|hb
  ·rw [e] at hn;cases hn
  ·rw [hb] at hn;cases hn) (λ_ q=>q) λ_ _ q=>q
section
variable {P:Program}{w:World}{K:W.Frag}{mg:Str->Option Value}{base:Heap}{N:List Str}{qual:Str}{scope:Scope}{f:Addr}{cd:Value}{A:Around}{outer:List Env}{s s1:Shared}{H H1:Hp}{E:XK}{pins:List (Addr×Obj)}{σ:St}
theorem yf9 {C e:Addr}{h':Heap}{args:List Value}(I:Inv (Z8 (CX1 P w) P w K mg base N qual scope f cd A outer s H E) pins σ H1 s1)(hx:Heap.MadeExcOf s1.heap h' e (.ref C) args)(hE:E (.ref C) none H1) :
  (Z8 (CX1 P w) P w K mg base N qual scope f cd A outer s H E).xe (.ref e) { s1 with heap:=h' }:=by
 have hst:=I.stack
 have hfree:=I.stkFree
 refine wpAny_leaves_madeW (base:=W.hideAll s1.heap (frs (envOfC qual scope s.heap.objs.size f cd::outer))) (h:=s1.heap) I.ok.frames rfl (λb o q=>W.of_hideAll _ q) (W.funFrames_hide hst λenv he a ha=>bB.mpr ⟨env,he,ha⟩) hx λh'' t x1 x2 x3 x4=>?_
 have notL:∀b o,s.heap.get? b=some o->b∉frs outer->b∉frs (envOfC qual scope s.heap.objs.size f cd::outer):=λb o hb hn hm=>by
  obtain ⟨env,he,ha⟩:=bB.mp hm
  rcases aq.mp he with rfl|he
  ·have e1:s.heap.objs.size=b:=Option.some.inj ha
   exact absurd (az hb) (by rw [e1];exact bh _)
  ·exact hn (bB.mpr ⟨env,he,ha⟩)
 refine ⟨e,C,.ref t,_,H1,rfl,I.os,I.bare,yt6 I.hok hfree,x1,λb o hb hn hf=>?_,λb o hb hn hf=>?_,λb o hb hn=>?_,λb o hb=>?_,I.base.tups,I.base.frzs,I.base.tbls,hE⟩
 ·exact W.hideAll_get _ (I.base.keep b o hb hn hf (by intro z;cases z)) (notL b o hb hf)
 ·obtain ⟨sl,q⟩:=I.base.slot b o hb hn hf (by intro z;cases z)
  obtain ⟨_,o2,ho2,hd⟩:=I.funs.mem hf
  have e2:o2={ o with slots:=sl }:=Option.some.inj (ho2.symm.trans q)
  subst e2
  obtain ⟨sl',q'⟩:=x4 b _ (hx.keeps _ _ q) hd
  exact ⟨sl',q'⟩
 ·exact I.base.free b o hb hn (by intro z;cases z)
 ·by_cases hf:b∈frs outer
  ·exact .inl hf
  ·obtain ⟨o',q⟩:=I.base.there b o hb (by intro z;cases z)
   exact .inr ⟨o',W.hideAll_get _ q (notL b o hb hf)⟩
theorem yu6 {e:Value}{s2:Shared}{E1:XK}(I:Inv (Z8 (CX1 P w) P w K mg base N qual scope f cd A outer s H E) pins σ H1 s1)(hx:CX1 P w (Z8 (CX1 P w) P w K mg base N qual scope f cd A outer s H E).stack H1 s1 E1 e s2)(hE:∀C a H',E1 C a H'->E C a H') :
  (Z8 (CX1 P w) P w K mg base N qual scope f cd A outer s H E).xe e s2:=by
 obtain ⟨ea,C,a0,B,H',rfl,hos,hbare,hok,hfl,k1,k2,k3,k4,k5,k6,k7,hE1⟩:=hx
 refine wpAny_leaves_onW I.ok.frames rfl hfl λh'' x1 x2=>?_
 have inB:∀b o,s.heap.get? b=some o->H b=none->b∉frs outer->B.get? b=some o:=λb o hb hn hf=>by
  have q:=I.base.keep b o hb hn hf (by intro z;cases z)
  refine k1 b o q (I.base.free b o hb hn (by intro z;cases z)) λhm=>?_
  obtain ⟨env,he,ha⟩:=bB.mp hm
  rcases aq.mp he with rfl|he
  ·have e1:s.heap.objs.size=b:=Option.some.inj ha
   exact absurd (az hb) (by rw [e1];exact bh _)
  ·exact hf (bB.mpr ⟨env,he,ha⟩)
 have sub:∀b,b∈frs outer->b∈frs (envOfC qual scope s.heap.objs.size f cd::outer):=λb hb=>by
  obtain ⟨env,he,ha⟩:=bB.mp hb
  exact bB.mpr ⟨env,aw _ he,ha⟩
 refine ⟨ea,C,a0,B,H',rfl,hos.trans I.os,hbare,hok,x1,inB,λb o hb hn hf=>?_,λb o hb hn=>?_,λb o hb=>?_,λb xs q=>k5 b xs (I.base.tups b xs q),λb o u q=>k6 b o u (I.base.frzs b o u q),λb ps q=>?_,hE _ _ _ hE1⟩
 ·obtain ⟨sl,q⟩:=I.base.slot b o hb hn hf (by intro z;cases z)
  have hn1:=I.base.free b o hb hn (by intro z;cases z)
  obtain ⟨sl2,q2⟩:=k2 b _ q hn1 (sub b hf)
  obtain ⟨_,o2,ho2,hd⟩:=I.funs.mem hf
  have e2:o2={ o with slots:=sl }:=Option.some.inj (ho2.symm.trans q)
  subst e2
  obtain ⟨sl',q'⟩:=x2 b _ q2 hd
  exact ⟨sl',q'⟩
 ·obtain ⟨o',q⟩:=I.base.there b o hb (by intro z;cases z)
  exact k3 b o' q (I.base.free b o hb hn (by intro z;cases z))
 ·by_cases hf:b∈frs outer
  ·exact .inl hf
  ·obtain ⟨o',q⟩:=I.base.there b o hb (by intro z;cases z)
   rcases k4 b o' q with hm|hm
   ·obtain ⟨env,he,ha⟩:=bB.mp hm
    rcases aq.mp he with rfl|he
    ·have e1:s.heap.objs.size=b:=Option.some.inj ha
     exact absurd (az hb) (by rw [e1];exact bh _)
    ·exact absurd (bB.mpr ⟨env,he,ha⟩) hf
   ·exact .inr hm
 ·obtain ⟨m1,q1⟩:=I.base.tbls b ps q
  obtain ⟨m2,q2⟩:=k7 b _ q1
  exact ⟨m1++m2,by rw [q2,eZ]⟩
end
section
variable {prog:Program}{w:World}{A:Around}{s:Shared}
end
section
variable {X:Cx}{own:Nat}{fr:List Nat}{N':List Str}{tg iter elt ce:Expr}{scope:Scope}{pos:Pos}{wi:TI}{g:CT TG}{te:CT TE}{tt:CT TT}
end
section
variable {X:Cx}
end
abbrev bmV:List Value:=[.type "ValueError",.type "Exception",.type "BaseException",.type "object"]
structure zb8 (K:W.Frag) (C:Addr) (tl:List Value) (newId:String):Prop where
 obj:∃nm qn N bs hdct sn sub ab col dd k0 k1 k2 k3 k5 oN,K.lookup C=some (excClassObj nm qn C N bs tl hdct sn sub ab col dd k0 k1 k2 k3 k5 newId)/\K.lookup N=some oN/\W.nsOkIn K N=true/\W.nsIn K N "__init__"=some none
 tail:W.tailIn K bmV tl=true
theorem zb8.mk' {K:W.Frag}{C:Addr}{tl:List Value}{newId:String}{nm qn:Str}{N:Addr}{bs:List Value}{hdct:Bool}{sn:List Str}{sub:List Value}{ab:Bool}{col:Option Bool}{dd:Option Addr}{k0 k1 k2 k3 k5:Option Value}{oN:Obj}
  (l:K.lookup C=some (excClassObj nm qn C N bs tl hdct sn sub ab col dd k0 k1 k2 k3 k5 newId)) (n:K.lookup N=some oN) (o:W.nsOkIn K N=true) (i:W.nsIn K N "__init__"=some none) (t:W.tailIn K bmV tl=true):zb8 K C tl newId :=
 ⟨⟨nm,qn,N,bs,hdct,sn,sub,ab,col,dd,k0,k1,k2,k3,k5,oN,l,n,o,i⟩,t⟩
theorem xt0 {K:W.Frag}{C:Addr}{tl:List Value}{newId:String}(x:zb8 K C tl newId):∃nm qn N bs hdct sn sub ab col dd k0 k1 k2 k3 k5 oN,
  K.lookup C=some (excClassObj nm qn C N bs tl hdct sn sub ab col dd k0 k1 k2 k3 k5 newId)/\K.lookup N=some oN/\∀h,K.In h->(∃mN,h.Ns N mN/\mN "__init__"=none)/\OwnTail h bmV tl:=by
 obtain ⟨⟨nm,qn,N,bs,hdct,sn,sub,ab,col,dd,k0,k1,k2,k3,k5,oN,l,n,o,i⟩,t⟩:=x
 exact ⟨nm,qn,N,bs,hdct,sn,sub,ab,col,dd,k0,k1,k2,k3,k5,oN,l,n,λh X=>⟨⟨_,.of_isNs (W.isNs_of_in X o),W.nsMap_none_of_in X o i⟩,W.tail_of_in X t⟩⟩
theorem xc8 {h h':Heap}{N:Addr}{o:Obj}{m:Str->Option Value}(e:h.get? N=some o)(e':h'.get? N=some o)(n:h.Ns N m):h'.Ns N m:=by
 obtain ⟨o1,es,ep,ho,r⟩:=n
 rw [e] at ho
 cases ho
 exact ⟨o,es,ep,e',r⟩
theorem OwnTail.base_in {h:Heap}{tl:List Value}(T:OwnTail h bmV tl):tl.contains (.type "BaseException")=true:=T.hasType (by decide)
def zo0 (ea C:Addr):HO:=.ext λh=>∃o,h.get? ea=some o/\o.cls=.ref C
section
variable {P:Program}{w:World}{K:W.Frag}{mg:Str->Option Value}{base:Heap}{N:List Str}{qual:Str}{scope:Scope}{f:Addr}{cd:Value}{A:Around}{outer:List Env}{s0:Shared}{H0:Hp}{E:XK}
theorem J2 {x:Str}{C:Addr}{tl:List Value}{Bn newId inN:String}{bmN:List Value}{e:Expr}{es:List Expr}{t:TA}{np cpos pos:Pos}(hm:mg x=some (.ref C))(hx:zb8 K C tl newId)(Fn:ExcBaseFacts Bn newId inN bmN)(hBn:bmV.contains (.type Bn)=true)
  (hg:Gl (Z8 (CX1 P w) P w K mg base N qual scope f cd A outer s0 H0 E) x) (ha:PA (Z8 (CX1 P w) P w K mg base N qual scope f cd A outer s0 H0 E) (e::es) t)
  (hd:(x==("__debug__":Str))=false:=by decide) (he:starEach (e::es) (envOfC qual scope s0.heap.objs.size f cd)=(false,eval e (envOfC qual scope s0.heap.objs.size f cd))::starEach es (envOfC qual scope s0.heap.objs.size f cd):=by rfl)
  (hpl:(backTo cpos (starEach es (envOfC qual scope s0.heap.objs.size f cd))).any (·.1)=false:=by rfl) :
  PS (Z8 (CX1 P w) P w K mg base N qual scope f cd A outer s0 H0 E) (.Raise (some (.Call (.Name x np) (e::es) [] cpos)) none pos) (λD σ H1=>t σ H1 λvs H2=>vs.length<=1000/\E (.ref C) none H2):=by
 intro pins s σ H D I h
 obtain ⟨nm,qn,Na,bs,hdct,sn,sub,ab,col,dd,k0,k1,k2,k3,k5,oN,lC,lN,all⟩:=xt0 hx
 obtain ⟨⟨mN,hN,hni⟩,T⟩:=all _ I.kIn
 refine wpAny_Raise_call_subU (C:=C) (nm:=nm) (q:=qn) (N:=Na) (bs:=bs) (bm:=tl) (hdct:=hdct) (sn:=sn) (sub:=sub) (ab:=ab) (col:=col) (dd:=dd) (k0:=k0) (k1:=k1) (k2:=k2) (k3:=k3) (k5:=k5)
  Fn hBn PySem.F.excBase_ValueError (mN:=mN) (OwnTail.base_in T) (I.ok.hd rfl) ?_ hni (N9 I hg hm ⟨rfl,?_⟩ hd)
 ·show (backTo cpos (starEach (e::es) (envOfC qual scope s0.heap.objs.size f cd))).any (·.1)=false
  rw [he]
  show (false || (backTo cpos (starEach es (envOfC qual scope s0.heap.objs.size f cd))).any (·.1))=false
  rw [hpl]
  rfl
 have hA:=ha cpos pins s σ H _ I h
 show wpAny _ _ (evalArgs (.ref C) true (backTo cpos (starEach (e::es) (envOfC qual scope s0.heap.objs.size f cd))) []) _ _ s
 have hA':wpAny (model P w) (Z8 (CX1 P w) P w K mg base N qual scope f cd A outer s0 H0 E).A (spliced (backTo cpos (starEach (e::es) (envOfC qual scope s0.heap.objs.size f cd)))) _ _ s:=hA
 rw [he] at hA' ⊢
 refine Calls.evalArgs_plain (thn hA' λus s2 ⟨vs,H2,I2,r,q1,q2⟩=>?_)
 refine ⟨rfl,?_,I2.kIn _ _ lC,xc8 (I.kIn _ _ lN) (I2.kIn _ _ lN) hN,(all _ I2.kIn).2,λh' ex hx=>yf9 I2 hx q2⟩
 rw [←r.length]
 exact aQ q1 (by decide)
theorem Fun.okX {x qual:Str}{st:Stmt}{f:Addr}{fd:FuncData}{N ps:List Str}{k:Nat}{sp:Sp}(F:Fun K x qual st f fd)(S:x9 N ps (z9 st))(len:∀vs H Q E,sp vs H Q E->vs.length=ps.length)
  (hbody:∀(cdv:Value) (A:Around) (outer:List Env) (s:Shared) (H:Hp) (vs:List V) (Q:VK) (E:XK),c4 k (A.deeper (envOfC qual (z9 st) s.heap.objs.size f cdv))->sp vs H Q E ->
   ∃t,PSs (Z8 (CX1 P w) P w K mg base N qual (z9 st) f cdv A outer s H E) (Z5 st) t/\t { nx:=λ_ H'=>Q .non H',rt:=Q } (start N vs) H):u6 P w K mg base (CX1 P w) (k+1) f fd ps sp:=by
 obtain ⟨oc,od,kV,doc,pm,an,cdv,ct,osl,rfl,lk,hcd⟩:=F.ex
 refine yt2 lk hcd S len λA outer s H vs Q E hr hsp=>?_
 obtain ⟨t,h,q⟩:=hbody cdv A outer s H vs Q E hr hsp
 exact ⟨t,h,q⟩
end
theorem p9.there {P:Program}{w:World}{H:Hp}{h:Heap}{a:Addr}{o:HO}(x:p9 P w H h a o):∃ob,h.get? a=some ob:=by
 cases o with
 | lst xs=>obtain ⟨_,_,_,_,e⟩:=x;exact ⟨_,e⟩
 | tup xs=>obtain ⟨_,_,_,o,e,_⟩:=x;exact ⟨_,e⟩
 | dK kvs=>obtain ⟨_,_,_,_,o,_,_,e,_⟩:=x;exact ⟨_,e⟩
 | dT kvs=>obtain ⟨_,_,_,_,o,_,_,e,_⟩:=x;exact ⟨_,e⟩
 | set S n=>obtain ⟨o,_,_,_,e,_⟩:=x;exact ⟨_,e⟩
 | ins C dx fs=>obtain ⟨_,_,_,e,_⟩:=x;exact ⟨_,e⟩
 | own y=>obtain ⟨_,e⟩:=x;exact ⟨_,e⟩
 | xd fs=>obtain ⟨_,⟨_,_,_,e,_⟩,_⟩:=x;exact ⟨_,e⟩
 | rng lo hi=>obtain ⟨_,_,_,e⟩:=x;exact ⟨_,e⟩
 | frz ob u=>obtain ⟨e,_⟩:=x;exact ⟨_,e⟩
 | tbl ps=>exact ⟨_,(show h.get? a=some _ from x)⟩
 | met f y=>exact ⟨_,(show h.get? a=some _ from x)⟩
 | ext φ=>obtain ⟨_,⟨_,e⟩,_⟩:=x;exact ⟨_,e⟩
theorem HOk.track {P:Program}{w:World}{H:Hp}{h:Heap}{a:Addr}{o:HO}(x:HOk P w H h)(hn:H a=none)(new:p9 P w (upd H a o) h a o):HOk P w (upd H a o) h:=λb u e=>by
 by_cases hb:b=a
 ·subst hb;rw [z4] at e;cases e;exact new
 ·rw [z6 hb] at e
  exact (x b u e).stay (λc v _ q=>q) (λc q=>by rw [z6 (y9 q hn)];exact q) λc xs q=>by rw [z6 (y9 q hn)];exact q
def Cgt (X:Cx)(pins:List (Addr×Obj))(σ:St)(H:Hp)(ea C:Addr)(s:Shared):Prop :=
 ∃(B:Heap) (a0:Value),Heap.FlyingW B X.stack ea (.ref C) a0 s.heap/\H ea=some (zo0 ea C)/\∀(h:Heap) (tk:Nat),Heap.FlyingW B X.stack ea (.ref C) a0 h->s.heap.UpToSlots h->Inv X pins σ H { s with heap:=h,toks:=tk }
theorem Cgt.inv {X:Cx}{pins:List (Addr×Obj)}{σ:St}{H:Hp}{ea C:Addr}{s:Shared}(x:Cgt X pins σ H ea C s):Inv X pins σ H s:=by
 obtain ⟨B,a0,f,e,all⟩:=x
 exact all s.heap s.toks f (Heap.UpToSlots.refl _)
theorem yr7 {X:Cx}{pins:List (Addr×Obj)}{σ:St}{H:Hp}{s s':Shared}{E:XK}{e:Value}{Q:Flow->Shared->Prop}{E':Value->Shared->Prop}{hs:List ExceptHandler}(I:Inv X pins σ H s)(hst:X.stack=X.env::X.outer)(hfr:X.env.frame=some X.env.locals)
  (hx:CX1 X.prog X.w X.stack H s E e s')
  (h:∀ea C H' s2,e=.ref ea->Cgt X pins σ (upd H' ea (zo0 ea C)) ea C s2->H' ea=none->E (.ref C) none H'->wpAny (model X.prog X.w) X.A (handleBy (.ref ea) X.env hs) Q E' s2) :
  wpAny (model X.prog X.w) X.A (noteFrame e X.env) (λ_ s2=>wpAny (model X.prog X.w) X.A (setFlight e none) (λ_ s3=>wpAny (model X.prog X.w) X.A (handleBy e X.env hs) Q E' s3) E' s2) E' s':=by
 obtain ⟨ea,C,a0,B,H',rfl,hos,hbare,hok,hfl,k1,k2,k3,k4,k5,k6,k7,hE⟩:=hx
 have hen:H' ea=none:=by
  cases q:H' ea with
  | none=>rfl
  | some o =>
   obtain ⟨ob,z⟩:=p9.there (hok ea o q)
   rw [hfl.2.1] at z
   cases z
 have hfl0:=hfl
 rw [hst] at hfl
 refine wpAny_looks_onW (hst ▸ I.ok.frames) hfr hfl λh1 held u1=>?_
 refine wpAny_landsW held λh2 fl2 u2=>?_
 have u12:s'.heap.UpToSlots h2:=u1.trans u2
 rw [←hst] at fl2
 refine h ea C H' _ rfl ⟨B,a0,fl2,z4,λhh tk flh uh=>?_⟩ hen hE
 have u3:s'.heap.UpToSlots hh:=u12.trans uh
 have nea:∀b o,s.heap.get? b=some o->b≠ea:=λb o hb z=>by
  subst z
  rcases k4 b o hb with hm|⟨o',q⟩
  ·obtain ⟨_,o2,ho2,hd⟩:=hfl0.2.2.1.mem hm
   obtain ⟨oe,vs,he,_,hde,_⟩:=hfl0.first
   rw [he] at ho2
   cases ho2
   exact hd vs hde
  ·rw [hfl0.2.1] at q
   cases q
 obtain ⟨oe,vs,he,hc,hde,_⟩:=flh.first
 have k2':∀b o,s.heap.get? b=some o->H b=none->b∈frs X.stack->∃sl,hh.get? b=some { o with slots:=sl }:=λb o q n hf=>by
  obtain ⟨sl,q1⟩:=k2 b o q n hf
  obtain ⟨_,o2,ho2,hd⟩:=hfl0.2.2.1.mem hf
  have e2:o2={ o with slots:=sl }:=Option.some.inj (ho2.symm.trans q1)
  subst e2
  obtain ⟨sl',q'⟩:=u3 b _ q1 hd
  exact ⟨sl',q'⟩
 have Hok:HOk X.prog X.w (upd H' ea (zo0 ea C)) hh:=HOk.track (hok.kept λb u q=>flh.1 _ _ q) hen ⟨⟨oe,he,hc⟩,⟨oe,he⟩,λh1 h2 ⟨o,ho,r⟩ k=>⟨o,k o ho,r⟩⟩
 refine I.call' (s':={ s' with heap:=hh,toks:=tk }) (ch:=[]) hos ⟨λb o q n hf _=>flh.1 _ _ (k1 b o q n hf),λb o q n hf _=>k2' b o q n hf,λb o q n _=>by rw [z6 (nea b o q)];exact k3 b o q n,λb o q _=>?_,λb xs q=>by rw [z6 (y9 (k5 b xs q) hen)];exact k5 b xs q,λb o u q=>by rw [z6 (y9 (k6 b o u q) hen)];exact k6 b o u q,λb ps q=>by
   obtain ⟨more,z⟩:=k7 b ps q
   exact ⟨more,by rw [z6 (y9 z hen)];exact z⟩⟩ Hok hbare (λb z=>absurd z (by simp))
 rcases k4 b o q with hm|⟨o',q'⟩
 ·obtain ⟨_,o2,ho2,_⟩:=I.stack.mem hm
  obtain ⟨sl,q2⟩:=k2' b o2 ho2 (I.stkFree b hm) hm
  exact ⟨_,q2⟩
 ·exact ⟨o',flh.1 _ _ q'⟩
section
variable {M:Model}{A:Around}{E:Value->Shared->Prop}{s:Shared}
theorem yf1 {α β:Type}{cs:List α}{b:β}{f:α->β->Sem (ForInStep β)}{Q:β->Shared->Prop}(hf:∀c∈cs,∀Q':ForInStep β->Shared->Prop,Q' (.yield b) s->wpAny M A (f c b) Q' E s)(h:Q b s):wpAny M A (forIn cs b f) Q E s:=by
 induction cs with
 | nil=>exact wpAny_pure h
 | cons c r ih =>
  rw [dY]
  exact wpAny_bind (hf c ay _ (ih λd hd=>hf d (aw _ hd)))
def XAt (h:Heap)(D:Addr)(tl:List Value):Prop:=∃nm qn N bs hdct sn sub ab col dd k0 k1 k2 k3 k5 newId,h.get? D=some (excClassObj nm qn D N bs tl hdct sn sub ab col dd k0 k1 k2 k3 k5 newId)
theorem zb8.at {K:W.Frag}{C:Addr}{tl:List Value}{newId:String}(x:zb8 K C tl newId){h:Heap}(X:K.In h):XAt h C tl/\tl.contains (.type "BaseException")=true:=by
 obtain ⟨nm,qn,N,bs,hdct,sn,sub,ab,col,dd,k0,k1,k2,k3,k5,oN,l,n,all⟩:=xt0 x
 exact ⟨⟨nm,qn,N,bs,hdct,sn,sub,ab,col,dd,k0,k1,k2,k3,k5,newId,X _ _ l⟩,OwnTail.base_in (all _ X).2⟩
theorem yi1 {D:Addr}{tl:List Value}{v:Value}{Q:Bool->Shared->Prop}(x:XAt s.heap D tl)(q:Q ((Value.ref D::tl).contains v) s):wpAny M A (isSubtype (.ref D) v) Q E s:=by
 obtain ⟨nm,qn,N,bs,hdct,sn,sub,ab,col,dd,k0,k1,k2,k3,k5,newId,l⟩:=x
 obtain ⟨h,g,d,t,os⟩:=s
 exact wpAny_isSubtype_exc l q
theorem yt8 {D:Addr}{tl:List Value}{Q:Bool->Shared->Prop}(x:XAt s.heap D tl)(b:tl.contains (.type "BaseException")=true) (q:Q true s):wpAny M A (isExcClass (.ref D)) Q E s:=by
 obtain ⟨nm,qn,N,bs,hdct,sn,sub,ab,col,dd,k0,k1,k2,k3,k5,newId,l⟩:=id x
 unfold isExcClass isType loadHead
 refine wpAny_bind (wpAny_bind (wpAny_loadPart l (wpAny_pure ?_)))
 dsimp only
 rw [if_pos rfl]
 refine yi1 x ?_
 rw [ff,b,eQ]
 exact q
theorem ze6 {e:Addr}{oe:Obj}{C:Addr}{Q:Value->Shared->Prop}(he:s.heap.get? e=some oe)(hc:oe.cls=.ref C)(q:Q (.ref C) s):wpAny M A (typeOf (.ref e)) Q E s:=by
 obtain ⟨h,g,d,t,os⟩:=s
 unfold typeOf
 refine wpAny_bind (wpAny_loadPart he (wpAny_pure ?_))
 rw [hc]
 exact q
theorem ya3 {e D C:Addr}{oe:Obj}{tl tlD:List Value}{Q:Bool->Shared->Prop}(he:s.heap.get? e=some oe)(hc:oe.cls=.ref C)(hC:XAt s.heap C tl)(hD:XAt s.heap D tlD)(hb:tlD.contains (.type "BaseException")=true)
  (hm:(Value.ref C::tl).contains (.ref D)=true) (q:Q true s):wpAny M A (excMatches (.ref e) (.ref D)) Q E s:=by
 obtain ⟨nm,qn,N,bs,hdct,sn,sub,ab,col,dd,k0,k1,k2,k3,k5,newId,l⟩:=id hD
 unfold excMatches
 refine wpAny_bind (wpAny_isInstance (T:="type") (b:=false) (show s.TypeIs (.ref D) "type" from ⟨_,l,rfl⟩) (by rw [isSubtype_type];kernel_rfl) ?_)
 dsimp only
 rw [if_neg aE]
 try (refine wpAny_bind (wpAny_pure ?_))
 refine wpAny_bind (yf1 (λc hcm Q' hq=>?_) ?_)
 ·obtain rfl:=ao.mp hcm
  refine wpAny_bind (yt8 hD hb ?_)
  rw [if_neg (by decide)]
  exact wpAny_pure hq
 refine wpAny_bind (ze6 he hc ?_)
 rw [dY]
 refine wpAny_bind (wpAny_bind (wpAny_bind (yi1 hC ?_)))
 rw [hm,if_pos rfl]
 exact wpAny_pure (wpAny_pure (wpAny_pure q))
end
abbrev yy8 (X:Cx) (ea:Addr):Cx:={ X with A:=X.A.mark (some (.ref ea)),calm:=false,xe:=λ_ _=>False }
theorem Inv.sx {X:Cx}{pins:List (Addr×Obj)}{σ:St}{H:Hp}{s:Shared}(I:Inv X pins σ H s)(ea:Addr):Inv (yy8 X ea) pins σ H s :=
 ⟨⟨I.ok.mod,I.ok.kind,I.ok.glob,I.ok.blt,I.ok.above,I.ok.inj,I.ok.has,I.ok.cab,(λz=>by cases z),I.ok.frames,I.ok.stk,I.ok.exf,I.ok.bs,I.ok.bsz,I.ok.noex,I.ok.exfs,I.ok.funs,I.ok.frf⟩,I.os,I.bare,I.base,I.loc,I.cell,I.free,I.freeC,I.pin,I.hok,I.len⟩
theorem Inv.unsx {X:Cx}{pins:List (Addr×Obj)}{σ:St}{H:Hp}{s:Shared}{ea:Addr}(ok:X.Ok)(I:Inv (yy8 X ea) pins σ H s):Inv X pins σ H s :=
 ⟨ok,I.os,I.bare,I.base,I.loc,I.cell,I.free,I.freeC,I.pin,I.hok,I.len⟩
def PH (X:Cx)(hs:List ExceptHandler)(t:Addr->Addr->TS):Prop:=∀(pins:List (Addr×Obj)) (σ:St) (H:Hp) (ea C:Addr) (s:Shared) (D:zb6),Cgt X pins σ H ea C s->t ea C D σ H ->
 wpAny (model X.prog X.w) X.A (handleBy (.ref ea) X.env hs) (SP X pins D) X.xe s
section
variable {X:Cx}
end
theorem yq8 {X:Cx}{pins:List (Addr×Obj)}{σ:St}{H:Hp}{s:Shared}{M:Model}{A:Around}{E:Value->Shared->Prop}{i:Nat}{x:Str}{pos:Pos}{Q:Unit->Shared->Prop}(I:Inv X pins σ H s)(hN:X.N.Nodup)(hi:X.N[i]?=some x)(hk:X.env.scope.names.lookup x=some .local)
  (h:∀s',Inv X pins (σ.set i none) H s'->Q () s'):wpAny M A (do bindName X.env x .none;unbindBehindTheSuite X.env x pos) Q E s:=by
 obtain ⟨m,hn,hl⟩:=id I.loc
 have hcls:(X.env.scope.kind == .class || (X.env.scope.kind == .module&&X.env.locals != X.env.globals))=false:=by rw [I.ok.kind];rfl
 obtain ⟨oL,_,_,hoL,_⟩:=id hn
 have hiσ:i<σ.length:=by rw [I.len];exact (ag.mp hi).1
 refine wpAny_nameGoes_keeps hk hn hcls λh' v hn' sb=>h _ ?_
 have old:∀b o,X.s₀.heap.get? b=some o->h'.get? b=s.heap.get? b:=λb o e=>sb.2 b (aO (aM (az e) I.ok.above))
 refine ⟨I.ok,I.os,I.bare,⟨λb o e n hb hx=>(old b o e).trans (I.base.keep b o e n hb hx),λb o e n hb hx=>?_,I.base.free,λb o e hx=>?_,I.base.tups,I.base.frzs,I.base.tbls⟩,⟨_,hn',λj y v' e1 e2 e3=>?_⟩,λy c e=>?_,I.free,I.freeC,λp hp=>?_,λb ob e=>?_,by rw [bL];exact I.len⟩
 ·obtain ⟨sl,q⟩:=I.base.slot b o e n hb hx
  exact ⟨sl,(old b o e).trans q⟩
 ·obtain ⟨o',q⟩:=I.base.there b o e hx
  exact ⟨o',(old b o e).trans q⟩
 ·have hj:j≠i:=λz=>by
   subst z
   rw [ci hiσ] at e2
   cases e2
  rw [bO (Ne.symm hj)] at e2
  obtain ⟨u',r',q⟩:=hl j y v' e1 e2 e3
  refine ⟨u',r',?_⟩
  rcases q with ⟨k,e⟩|⟨k,c,e,z⟩
  ·have ne:y≠x:=λe=>hj (zk6 hN e1 (e ▸ hi))
   exact .inl ⟨k,by show (if y=x then v else m y)=some u';rw [if_neg ne];exact e⟩
  ·exact .inr ⟨k,c,e,z.sameBut sb (I.cne y c e)⟩
 ·obtain ⟨w',z⟩:=I.cell y c e
  exact ⟨w',z.sameBut sb (I.cne y c e)⟩
 ·obtain ⟨e,n,ne,nf,d⟩:=I.pin p hp
  exact ⟨(sb.2 p.1 ne).trans e,n,ne,nf,d⟩
 ·refine (I.hok b ob e).stay (λc w' hc q=>(sb.2 c ?_).trans q) (λ_ q=>q) λ_ _ q=>q
  rintro rfl
  have fr:=I.free
  rcases hc with rfl|hc
  ·rw [fr] at e;cases e
  ·rw [fr] at hc;cases hc
section
variable {X:Cx}
abbrev zz3 (i:Nat) (D:zb6):zb6:={ nx:=λσ H=>D.nx (σ.set i none) H,rt:=D.rt,bk:=λσ H=>D.bk (σ.set i none) H,ct:=λσ H=>D.ct (σ.set i none) H }
theorem xr4 {y n:Str}{i:Nat}{np pos:Pos}{b0:Stmt}{suite:List Stmt}{D7:List ExceptHandler}{ts:Addr->TS}{C0 D0:Addr}{tl0 tlD:List Value}{n0 nD:String}(h0:zb8 X.K C0 tl0 n0)(hD:zb8 X.K D0 tlD nD)(hc:(Value.ref C0::tl0).contains (.ref D0)=true)
  (hg:Gl X y) (hm:X.mg y=some (.ref D0)) (hN:X.N.Nodup) (hi:X.N[i]?=some n) (hk:X.env.scope.names.lookup n=some .local) (hs:∀ea,PSs (yy8 X ea) (b0::suite) (ts ea)) (hdb:(y==("__debug__":Str))=false:=by decide) :
  PH X (.ExceptHandler (some (.Name y np)) (some n) (b0::suite) pos::D7) (λea C D σ H=>C=C0/\ts ea (zz3 i D) (σ.set i (some (.ref ea))) H):=by
 rintro pins σ H ea C s D G ⟨rfl,h⟩
 have I:=G.inv
 have Is:=I.sx ea
 obtain ⟨B,a0,fl,hH,all⟩:=id G
 obtain ⟨oe,vs,he,hcl,_,_⟩:=fl.first
 refine wpAny_handleBy_cons (codeAny_handlers_test (N9 Is hg hm ?_ hdb)) (by intro q;cases q)
 refine ya3 he hcl (h0.at I.kIn).1 (hD.at I.kIn).1 (hD.at I.kIn).2 hc ?_
 refine codeAny_handlers_suite_as ?_
 refine lands_againW fl λh2 fl2 u2=>?_
 have I2:Inv X pins σ H { s with heap:=h2,toks:=s.toks }:=all h2 s.toks fl2 u2
 refine ze4 (X:=yy8 X ea) (v:=.ref ea) (I2.sx ea) hN hi (.inl hk) rfl (λs3 I3 _=>?_) (.inr hk)
 refine wpAny_mono (hs ea pins s3 _ H (zz3 i D) I3 h) (λf s4 h4=>?_) λ_ _ z=>z.elim
 have fin:∀{σ':St} {H':Hp} {R:St->Hp->Prop} {Q:Unit->Shared->Prop} {E:Value->Shared->Prop},Inv (yy8 X ea) pins σ' H' s4->R (σ'.set i none) H'->(∀s5,(∃σ5 H5,Inv X pins σ5 H5 s5/\R σ5 H5)->Q () s5)->wpAny (model X.prog X.w) X.A (do bindName X.env n .none;unbindBehindTheSuite X.env n pos) Q E s4 :=
  λI4 r q=>yq8 (I4.unsx I.ok) hN hi hk λs5 I5=>q s5 ⟨_,_,I5,r⟩
 cases f with
 | next =>
  obtain ⟨σ',H',I4,q4⟩:=h4
  exact fin (R:=D.nx) I4 q4 λs5 z=>z
 | brk =>
  obtain ⟨σ',H',I4,q4⟩:=h4
  exact fin (R:=D.bk) I4 q4 λs5 z=>z
 | cont =>
  obtain ⟨σ',H',I4,q4⟩:=h4
  exact fin (R:=D.ct) I4 q4 λs5 z=>z
 | ret u =>
  obtain ⟨v,σ',H',I4,r4,q4⟩:=h4
  refine fin (R:=λ_ H=>D.rt v H) I4 q4 λs5 ⟨σ5,H5,I5,q5⟩=>⟨v,σ5,H5,I5,r4,q5⟩
def V8 (P:Program)(w:World)(K:W.Frag)(mg:Str->Option Value)(base:Heap)(k:Nat)(x:Str)(ps:List Str)(sp:Sp):Prop :=
 ∃f fd,u6 P w K mg base (CX1 P w) k f fd ps sp/\W.keepIn K (.ref f)=true/\mg x=some (.ref f)/\V6 K fd ps []
theorem xe4 {x:Str}{p cpos epos pos:Pos}{e:Expr}{es:List Expr}{t:TA}{ps:List Str}{sp:Sp}{k j:Nat}{h0:ExceptHandler}{hs:List ExceptHandler}{th:Addr->Addr->TS}(kn:V8 X.prog X.w X.K X.mg X.base k x ps sp)(hr:c4 j X.A)(hg:Gl X x)(ha:PA X.nox (e::es) t)(hh:PH X (h0::hs) th)
  (hst:X.stack=X.env::X.outer) (hfr:X.env.frame=some X.env.locals) (hj:k<=j:=by decide) (hdb:(x==("__debug__":Str))=false:=by decide)
  (he:starEach (e::es) X.env=(false,eval e X.env)::starEach es X.env:=by rfl) (hpl:(backTo cpos (starEach es X.env)).any (·.1)=false:=by rfl) (hsw:swapsWith (.Call (.Name x p) (e::es) [] cpos) none epos.line X.env=pure false:=by rfl) :
  PS X (.Try [.Expr (.Call (.Name x p) (e::es) [] cpos) epos] (h0::hs) [] [] pos) (λD σ H=>∃E:XK,(t σ H λvs H1=>sp vs H1 (λ_ H2=>D.nx σ H2) E)/\∀(ea C:Addr) (H':Hp),E (.ref C) none H'->H' ea=none->th ea C D σ (upd H' ea (zo0 ea C))):=by
 rintro pins s σ H D I ⟨E,h1,h2⟩
 obtain ⟨f,fd,G,hk,hm,hb⟩:=kn
 refine wpAny_Try_except (wpAny_execs_cons (wpAny_Expr_any (wpAny_Call_Name_kw (N9 I hg hm ?_ hdb)) I.quiet hsw))
 refine W.callWith_K (h₀:=X.base) I.ok.mod.kin hk (wpAny_mono (ha cpos pins s σ H _ (I.wish _) h1) (λus s1 ⟨vs,H1,I1,r,q⟩=>⟨I1.kIn,?_⟩) λ_ _ z=>z.elim) he hpl
 have I1':Inv X pins σ H1 s1:=I1.unwish
 have hl:(us++[]).length=ps.length:=by rw [bu,←r.length];exact G.len _ _ _ _ q
 have bb:=hb s1 us I1'.kIn hl
 rw [bu] at bb
 refine wpAny_call (codeAny_mono (G.run X.A X.stack s1 H1 ⟨us,[]⟩ us vs _ E (hr.mono hj) I1'.env0 bb r q) λrr s' hq=>?_)
 cases rr with
 | error ex =>
  exact yr7 I1' hst hfr hq λea C H' s2 _ cg hn hE=>hh pins σ _ ea C s2 D cg (h2 ea C H' hE hn)
 | ok fl =>
  cases fl with
  | ret u =>
   obtain ⟨v,H',I2,_,q2⟩:=I1'.after hq
   exact wpAny_execs_nil (wpAny_execs_nil ⟨σ,H',I2,q2⟩)
  | next=>exact False.elim hq
  | brk=>exact False.elim hq
  | cont=>exact False.elim hq
theorem yt9 {M:Model}{A:Around}{E:Value->Shared->Prop}{s:Shared}{ea C:Addr}{oe:Obj}{tl:List Value}{T:String}{dep:Int}{tk:Tok}{Q:Fin->Shared->Prop}(he:s.heap.get? ea=some oe)(hc:oe.cls=.ref C)(hC:XAt s.heap C tl)(hT:typeOf (.type T)=pure (.type "type")) (hb:tl.contains (.type T)=true)
  (q:Q (.done (.ret (.bool true))) s):wpAny M A (Builtin.«isinstance.nested» ⟨[.ref ea,.type T,.int dep tk],[]⟩) Q E s:=by
 unfold Builtin.«isinstance.nested»
 refine wpAny_bind (ze6 he hc ?_)
 rw [if_neg (λz=>by cases z)]
 refine wpAny_bind (wpAny_of_eq hT ?_)
 rw [if_pos (by decide)]
 k_delta "plainIsInstance"
 refine wpAny_bind (wpAny_bind (wpAny_of_eq (a:=true) rfl ?_))
 rw [if_neg (by decide)]
 unfold isInstance
 refine wpAny_bind (wpAny_bind (ze6 he hc (yi1 hC ?_)))
 rw [ff,hb,eQ,if_pos rfl]
 exact wpAny_pure (wpAny_pure q)
theorem zt1 {T:String}(hT:typeOf (.type T)=pure (.type "type")):W1 X (.builtin "isinstance") (λxs H Q=>∃ea C tl n,xs=[.ref ea,.ty T]/\H ea=some (zo0 ea C)/\zb8 X.K C tl n/\tl.contains (.type T)=true/\Q (.bl true) H):=by
 intro pins s σ H xs us Q I r h
 obtain ⟨ea,C,tl,n,rfl,hH,hx,hi,q⟩:=h
 obtain ⟨u1,u2,rfl,r1,r2⟩:=zs3 r
 cases r1
 cases r2
 obtain ⟨⟨o,ho,hc⟩,_⟩:=I.hok ea _ hH
 exact call_isinstance (S:=λ_ R s'=>(s'.heap.get? ea=some o/\XAt s'.heap C tl)/\R (.ok (.ret (.bool true))) s') (λ_ _ _ _ _ hs=>isinstance_outer (yt9 hs.1.1 hc hs.1.2 hT hi hs.2) (λz=>nomatch z)) ⟨⟨ho,(hx.at I.kIn).1⟩,⟨.bl true,H,I,rfl,q⟩⟩
end
structure yd9 (K:W.Frag) (mg:Str->Option Value) (TE:Addr):Prop where
 m:mg "TurnError"=some (.ref TE)
 c:zb8 K TE bmV "ValueError.__new__"
 v:mg "ValueError"=none
structure O0 (K:W.Frag) (mg:Str->Option Value) (TE:Addr) (x:Str) (C:Addr):Prop where
 m:mg x=some (.ref C)
 c:zb8 K C (.ref TE::bmV) "ValueError.__new__"
 i:W.isIn K (.ref C) TE=true
theorem zo3:bootBuiltins "ValueError"=some (.type "ValueError"):=by decide +kernel
theorem zq1:typeOf (.type "ValueError")=pure (.type "type"):=by kernel_rfl
def kvD (x:Key×V):PyData×PyData:=(match x.1 with | .inl i=>.int i | .inr t=>.str t,match x.2 with | .int i=>.int i|_=>.none)
mutual
inductive Dt (H:Hp):V->PyData->Prop
 | non:Dt H .non .none
 | bl (b:Bool):Dt H (.bl b) (.bool b)
 | int (i:Int):Dt H (.int i) (.int i)
 | str (x:Str):Dt H (.str x) (.str x)
 | lst {a:Addr} {xs:List V} {ds:List PyData}:H a=some (.lst xs)->Dts H xs ds->Dt H (.ref a) (.list ds)
 | tup {a:Addr} {xs:List V} {ds:List PyData}:H a=some (.tup xs)->Dts H xs ds->Dt H (.ref a) (.tuple ds)
 | dct {a:Addr} {kvs:List (Key×V)}:H a=some (.dK kvs)->Dt H (.ref a) (.dict (kvs.map kvD))
inductive Dts (H:Hp):List V->List PyData->Prop
 | nil:Dts H [] []
 | cons {x:V} {d:PyData} {xs:List V} {ds:List PyData}:Dt H x d->Dts H xs ds->Dts H (x::xs) (d::ds)
end
mutual
theorem Dt.same {H H':Hp}(s:y4 H H'):∀{x:V} {d:PyData},Dt H x d->Dt H' x d
 | _,_,.non=>.non
 | _,_,.bl b=>.bl b
 | _,_,.int i=>.int i
 | _,_,.str x=>.str x
 | _,_,.lst h r=>.lst (s _ _ h) (Dts.same s r)
 | _,_,.tup h r=>.tup (s _ _ h) (Dts.same s r)
 | _,_,.dct h=>.dct (s _ _ h)
theorem Dts.same {H H':Hp}(s:y4 H H'):∀{xs:List V} {ds:List PyData},Dts H xs ds->Dts H' xs ds
 | _,_,.nil=>.nil
 | _,_,.cons h r=>.cons (Dt.same s h) (Dts.same s r)
end
theorem Dts.length {H:Hp}:∀{xs:List V} {ds:List PyData},Dts H xs ds->xs.length=ds.length
 | _,_,.nil=>rfl
 | _,_,.cons _ r=>by rw [aC,aC,Dts.length r]
theorem Dts.get {H:Hp}:∀{xs:List V} {ds:List PyData} {i:Nat} {x:V},Dts H xs ds->xs[i]?=some x->∃d,ds[i]?=some d/\Dt H x d
 | _,_,_,_,.nil,e=>by simp at e
 | _,_,0,_,.cons h _,e=>by simp at e;subst e;exact ⟨_,rfl,h⟩
 | _,_,i+1,x,.cons _ r,e=>by
  obtain ⟨d,h1,h2⟩:=Dts.get (i:=i) (x:=x) r (by simpa using e)
  exact ⟨d,by simpa using h1,h2⟩
def tyD:PyData->String
 | .none=>"NoneType"
 | .bool _=>"bool"
 | .int _=>"int"
 | .str _=>"str"
 | .list _=>"list"
 | .tuple _=>"tuple"
 | .dict _=>"dict"
theorem Dt.ty {K:W.Frag}{H:Hp}{x:V}{d:PyData}(h:Dt H x d):N6 K H x (.type (tyD d)):=by
 cases h with
 | non=>exact .non
 | bl b=>exact .bl b
 | int i=>exact .int i
 | str x=>exact .str x
 | lst h _=>exact .lst h
 | tup h _=>exact .tup h
 | dct h=>exact .dK h
section
variable {X:Cx}{e:Expr}{es:List Expr}{pos:Pos}{C:St->Hp->Prop}{d:PyData}{ds:List PyData}
def xh3 (C:St->Hp->Prop):Prop:=∀σ H H',y4 H H'->C σ H->C σ H'
theorem PE.weak {t t':TE}(h:PE X e t)(k:∀σ H Q,t' σ H Q->t σ H Q):PE X e t':=λpins s σ H Q I q=>h pins s σ H Q I (k σ H Q q)
theorem PA.weak {t t':TA}(h:PA X es t)(k:∀σ H Q,t' σ H Q->t σ H Q):PA X es t':=λpos pins s σ H Q I q=>h pos pins s σ H Q I (k σ H Q q)
structure DE (X:Cx) (e:Expr) (t:TE):Prop where
 h:PE X e t
structure DA (X:Cx) (es:List Expr) (t:TA):Prop where
 h:PA X es t
structure DS (X:Cx) (st:Stmt) (t:TS):Prop where
 h:PS X st t
structure DSs (X:Cx) (st:List Stmt) (t:TS):Prop where
 h:PSs X st t
theorem v0 {st:Stmt}{D7:List Stmt}{t u:TS}(h1:DS X st t)(h2:DSs X D7 u):DSs X (st::D7) (xo2 t u):=⟨@y0 _ _ _ _ _ h1.h h2.h⟩
theorem ya6 {H:Hp}{p:Addr}(hp:H p=none)(u:HO):y4 H (upd H p u):=λb o h=>by
 have hne:b≠p:=λz=>by rw [z,hp] at h;cases h
 show (if b=p then _ else _)=_
 rw [if_neg hne];exact h
theorem new_at {H:Hp}{p:Addr}(u:HO):upd H p u p=some u:=by show (if p=p then _ else _)=_;rw [if_pos rfl]
end
section
variable {prog:Program}{w:World}{A:Around}{E:Value->Shared->Prop}{s:Shared}
def gat (h:Heap)(vs:List Value):Heap:=(h.push (seqObj "list" #[] 0)).update h.objs.size (Obj.mapSeq (·++vs.toArray))
theorem zy7 {a:Addr}{vs:List Value}{R:List Value->Shared->Prop}(ht:IsTup s.heap a vs.toArray)(hz:vs.length<=sizeLine)(q:R vs { s with heap:=gat s.heap vs }):wpAny (model prog w) A (collect (.ref a)) R E s:=by
 obtain ⟨o,ho,hc,n,hd⟩:=ht
 have ho1:(s.heap.push (seqObj "list" #[] 0)).get? a=some o:=al _ ho
 have hn1:(s.heap.push (seqObj "list" #[] 0)).get? s.heap.objs.size=some (seqObj "list" #[] 0):=aA _ rfl
 unfold collect
 refine wpAny_bind (wpAny_runValue (codeAny_builtin entry_proto_collect' (wpAny_bind (m:=newList []) (wpAny_newList (wpAny_pure ⟨Code.quiet_builtin _ (by decide +kernel),codeAny_builtin entry_list_iadd' ?_⟩)))))
 show wpAny _ _ (Builtin.List.listExtendWith (.ref s.heap.objs.size) (.ref a) (.ref s.heap.objs.size)) _ _ { s with heap:=s.heap.push (seqObj "list" #[] 0) }
 (unfold Builtin.List.listExtendWith;refine wpAny_bind (wpAny_typeOf (T:="tuple") ⟨o,ho1,hc⟩ ?_))
 have hty:(Value.type "tuple" == Value.type "tuple")=true:=rfl
 rw [if_pos (show _=true by rw [hty,eQ])]
 refine wpAny_bind (listItems_at ho1 hd (wpAny_bind (listItems_at (xs:=#[]) (n:=0) hn1 rfl ?_)))
 rw [if_neg (show ¬_=true by simp)]
 refine wpAny_bind (listUpdate_at (xs:=#[]) (n:=0) hn1 rfl (wpAny_pure ?_) (aR _) (by simp only [Array.size_append,aB,di];show 0+vs.length<=_;lia))
 show wpAny (model prog w) A (load s.heap.objs.size >>= _) R E { s with heap:=gat s.heap vs }
 refine wpAny_bind (wpAny_load (get?_update_seq hn1 _) ?_)
 have e:((#[]:Array Value)++vs.toArray).toList=vs:=by simp
 exact wpAny_pure (e.symm ▸ q)
theorem zj9 (h:Heap)(vs:List Value):(gat h vs).objs.size=h.objs.size+1:=by unfold gat;rw [Heap.size_update,size_push']
theorem zh2 {h:Heap}{vs:List Value}{b:Addr}{o:Obj}(e:h.get? b=some o):(gat h vs).get? b=some o:=by
 have hlt:=az e
 unfold gat
 rw [Heap.get?_update_ne _ _ _ _ (aO hlt),Heap.get?_push_ne _ _ _ (aO hlt)]
 exact e
theorem yh6 {a:Addr}{vs:List Value}{ns:List Int}{R:Value->Shared->Prop}(ht:IsTup s.heap a vs.toArray)(hI:IntsAre vs ns)(h64:vs.length<64)
  (q:∀(out:Array Value) (ms:List Int),IntsAre out.toList ms->ms.Perm ns->ms.Pairwise (·<=·)->R (.ref (gat s.heap vs).objs.size) { s with heap:=sortedHeap ((gat s.heap vs).push (seqObj "list" vs.toArray 0)) (gat s.heap vs).objs.size vs out }) :
  wpAny (model prog w) A (call (.builtin "sorted") [.ref a]) R E s:=by
 have hn:((gat s.heap vs).push (seqObj "list" vs.toArray 0)).get? (gat s.heap vs).objs.size=some (seqObj "list" vs.toArray 0):=aA _ rfl
 refine Calls.call_function_entry kind_sorted plain_sorted entry_sorted (args_sorted1 (.ref a)) ?_
 unfold Builtin.«sorted»
 refine wpAny_bind (m:=checkCount "sorted" 1 1 _) (wpAny_pure (wpAny_bind (zy7 ht (by rw [sizeLine_eq];lia) (wpAny_bind (wpAny_newList ?_)))))
 show wpAny _ _ _ _ _ { s with heap:=(gat s.heap vs).push (seqObj "list" vs.toArray 0) }
 refine wpAny_bind (wpAny_holding (wpAny_call_entry slot_list_sort ⟨_,hn,rfl⟩ entry_list_sort (list_sort_tree hn hI h64 λout ms a1 a2 a3=>⟨_,rfl,wpAny_pure ⟨_,rfl,q out ms a1 a2 a3⟩⟩) (args_list_sort _)))
end
section
variable {X:Cx}
theorem zt3:W1 X (.builtin "sorted") (λxs H Q=>∃(p:Addr) (ns:List Int),xs=[.ref p]/\SqT X.K H p (ns.map V.int)/\ns.length<64/\∀(l:Addr) (ms:List Int),H l=none->ms.Perm ns->ms.Pairwise (·<=·)->Q (.ref l) (upd H l (.lst (ms.map V.int)))):=by
 intro pins s σ H xs us Q I r h
 obtain ⟨p,ns,rfl,hq,h64,q⟩:=h
 obtain ⟨u,rfl,rx⟩:=L7 r
 cases rx
 obtain ⟨its,r1,p1,hz⟩:=I.tuple hq
 have l1:=r1.length
 rw [ae] at l1 hz
 refine yh6 p1 (D3 r1) (by lia) λout ms a1 a2 a3=>?_
 have hl:=a2.length_eq
 have hsz:=zj9 s.heap its
 obtain ⟨e,he⟩:=sortedHeap_at (vs:=its) (out:=out) (n:=0) (show ((gat s.heap its).push (seqObj "list" its.toArray 0)).get? (gat s.heap its).objs.size=some (seqObj "list" its.toArray 0) from aA _ rfl)
 have hold:∀b o,s.heap.get? b=some o->(sortedHeap ((gat s.heap its).push (seqObj "list" its.toArray 0)) (gat s.heap its).objs.size its out).get? b=some o:=λb o z=>by
  have hlt:=az z
  have h1:b<(gat s.heap its).objs.size:=hsz.symm ▸ cW hlt
  rw [sortedHeap_old (aO h1) (by rw [size_push'];exact cW h1),Heap.get?_push_ne _ _ _ (aO h1)]
  exact zh2 z
 refine ⟨.ref (gat s.heap its).objs.size,_,I.laid (t':=s.toks) hold (by lia) (show p9 X.prog X.w _ _ _ (.lst (ms.map V.int)) from ⟨by rw [ae];lia,out.toList,e,ze7 a1,by simpa using he⟩),rfl,q _ ms (I.hok.fresh (by lia)) a2 a3⟩
end
section
variable {X:Cx}{pins:List (Addr×Obj)}{σ:St}{H:Hp}{s:Shared}
theorem yu2 {K:W.Frag}{t:Value}:∀{cs:List String} {us:List Value},t9 (cs.map V.ty) us->us=cs.map Value.type
 | [],_,r=>by cases r;rfl
 | c::cs,_,r=>by
  cases r with
  | cons a b =>
   cases (show _=Value.type c from a)
   rw [yu2 (K:=K) (t:=t) b];rfl
theorem yf3 {A:Around}{E:Value->Shared->Prop}{Q:Value->Shared->Prop}{b:Bool}{x:V}{u:Value}{tp:Addr}{its:List Value}(I:Inv X pins σ H s)(rx:p0 x u){d:PyData}(ty:Dt H x d)(ht:IsTup s.heap tp its.toArray)(e:W.kitAny X.K (.type (tyD d)) its=some b)(h:∀tk,Q (.bool b) { s with toks:=tk }) :
  wpAny (model X.prog X.w) A (call (.builtin "isinstance") [u,.ref tp]) Q E s:=by
 obtain ⟨o,ho,hc,n,hd⟩:=ht
 have ho':s.heap.get? tp=some ⟨.type "tuple",o.dict,.seq its.toArray n,o.slots⟩:=by rw [ho];cases o;cases hc;cases hd;rfl
 cases ty with
 | non=>cases (show u=Value.none from rx);exact W.kia_tup W.kitx_none I.kIn True.intro ho' e (λz=>nomatch z) h
 | bl y=>cases (show u=Value.bool y from rx);exact W.kia_tup W.kitx_bool I.kIn True.intro ho' e (λz=>nomatch z) h
 | int i=>obtain ⟨t,q⟩:=(show ∃t,u=Value.int i t from rx);cases q;exact W.kia_tup W.kitx_int I.kIn True.intro ho' e (λz=>nomatch z) h
 | str y=>obtain ⟨t,q⟩:=(show ∃t,u=Value.str y t from rx);cases q;exact W.kia_tup W.kitx_str I.kIn True.intro ho' e (λz=>nomatch z) h
 | @lst a xs ds ea _ =>
  cases (show u=Value.ref a from rx)
  obtain ⟨_,_,n,_,h1⟩:=(show p9 X.prog X.w H s.heap a (.lst xs) from I.hok a _ ea)
  exact W.kia_tup W.kitx_list I.kIn ⟨_,h1,rfl⟩ ho' e (λz=>nomatch z) h
 | @tup a xs ds ea _ =>
  cases (show u=Value.ref a from rx)
  obtain ⟨_,_,_,p⟩:=(show p9 X.prog X.w H s.heap a (.tup xs) from I.hok a _ ea)
  obtain ⟨o,h1,h2,_⟩:=p
  exact W.kia_tup W.kitx_tuple I.kIn ⟨o,h1,h2⟩ ho' e (λz=>nomatch z) h
 | @dct a kvs ea =>
  cases (show u=Value.ref a from rx)
  obtain ⟨_,_,vs,_,p⟩:=(show p9 X.prog X.w H s.heap a (.dK kvs) from I.hok a _ ea)
  obtain ⟨o,es,ep,h1,h2,_⟩:=p
  exact W.kia_tup W.kitx_dict I.kIn ⟨o,h1,h2.1⟩ ho' e (λz=>nomatch z) h
theorem zt0:W1 X (.builtin "isinstance") (λxs H Q=>∃(x:V) (d:PyData) (tp:Addr) (cs:List String) (b:Bool),xs=[x,.ref tp]/\Dt H x d/\SqT X.K H tp (cs.map V.ty)/\W.kitAny X.K (.type (tyD d)) (cs.map Value.type)=some b/\Q (.bl b) H):=by
 intro pins s σ H xs us Q I r h
 obtain ⟨x,d,tp,cs,b,rfl,ty,hq,e,q⟩:=h
 obtain ⟨u,w',rfl,rx,rc⟩:=zs3 r
 cases rc
 obtain ⟨its,r1,p1,hz⟩:=I.tuple hq
 rw [←yu2 (K:=X.K) (t:=.none) r1] at e
 exact yf3 I rx ty p1 e λtk=>⟨.bl b,H,I.tok tk,rfl,q⟩
def xu1 (K:W.Frag)(tl:TE):TI:=λσ H R=>tl σ H λx H1=>∃a,x=.ref a/\(((∃xs,SqL K H1 a xs)/\R (Itl K a) H1)∨((∃xs,SqT K H1 a xs)/\R (Itt K a) H1))
theorem xm4 {tg l:Expr}{tl:TE}(hl:PE X l tl):PI X tg l (xu1 X.K tl):=by
 intro pins s σ H R I h
 refine thn (hl pins s σ H _ I h) λv s1 ⟨x,H1,I1,r1,q1⟩=>?_
 obtain ⟨a,e,q1⟩:=q1
 subst e
 cases r1
 rcases q1 with ⟨⟨xs,hq⟩,q⟩|⟨⟨xs,hq⟩,q⟩
 ·obtain ⟨its,rv,p,hz⟩:=I1.list hq
  refine wpAny_pyIter_list p.isList ?_
  refine ⟨s1.heap.objs.size,[s1.heap.objs.size],_,_,H1,rfl,I1.kept (t':=s1.toks) λb o e=>al _ e,zs2 a _,⟨_,aA _ rfl,rfl,rfl⟩,λb hb=>?_,q⟩
  have e:b=s1.heap.objs.size:=by simpa using hb
  subst e
  exact I1.fpOk (ah _) (I1.hok.fresh (ah _))
 ·obtain ⟨its,rv,p,hz⟩:=I1.tuple hq
  refine wpAny_pyIter_tuple (show s1.heap.IsTuple a its.toArray from p) ?_
  refine ⟨s1.heap.objs.size,[s1.heap.objs.size],_,_,H1,rfl,I1.kept (t':=s1.toks) λb o e=>al _ e,zn8 a _,⟨_,aA _ rfl,rfl,rfl⟩,λb hb=>?_,q⟩
  have e:b=s1.heap.objs.size:=by simpa using hb
  subst e
  exact I1.fpOk (ah _) (I1.hok.fresh (ah _))
mutual
theorem Dt.reads (I:Inv X pins σ H s):∀{x:V} {d:PyData},Dt H x d->d.canLay0=true->∀u,p0 x u->∃as,Reads s.heap u d as
 | _,_,.non,_,u,r=>by cases (show u=Value.none from r);exact ⟨_,.none⟩
 | _,_,.bl b,_,u,r=>by cases (show u=Value.bool b from r);exact ⟨_,.bool b⟩
 | _,_,.int i,_,u,r=>by obtain ⟨t,rfl⟩:=(show ∃t,u=Value.int i t from r);exact ⟨_,.int i t⟩
 | _,_,.str x,_,u,r=>by obtain ⟨t,rfl⟩:=(show ∃t,u=Value.str x t from r);exact ⟨_,.str x t⟩
 | _,_,.lst h hs,c,u,r=>by
  cases (show u=Value.ref _ from r)
  obtain ⟨its,rv,p,_⟩:=I.list (SqL.of h)
  obtain ⟨o,ho,hc,n,hd⟩:=p.isList
  rw [PyData.canLay0] at c
  obtain ⟨as,ha⟩:=Dts.reads I hs c its rv
  exact ⟨_,.list ho hc hd (by simpa using ha)⟩
 | _,_,.tup h hs,c,u,r=>by
  cases (show u=Value.ref _ from r)
  obtain ⟨its,rv,p,_⟩:=I.tuple (SqT.of h)
  obtain ⟨o,ho,hc,n,hd⟩:=p
  rw [PyData.canLay0] at c
  obtain ⟨as,ha⟩:=Dts.reads I hs c its rv
  exact ⟨_,.tuple ho hc hd (by simpa using ha)⟩
 | _,_,.dct h,c,u,r=>by
  rw [PyData.canLay0] at c
  cases c
theorem Dts.reads (I:Inv X pins σ H s):∀{xs:List V} {ds:List PyData},Dts H xs ds->PyData.canLayAll0 ds=true->∀us,t9 xs us->∃as,ReadsAll s.heap us ds as
 | _,_,.nil,_,us,r=>by cases r;exact ⟨_,.nil⟩
 | _,_,.cons h hs,c,us,r=>by
  cases r with
  | cons r1 r2 =>
   rw [PyData.canLayAll0,bV] at c
   obtain ⟨as,ha⟩:=Dt.reads I h c.1 _ r1
   obtain ⟨bs,hb⟩:=Dts.reads I hs c.2 _ r2
   exact ⟨_,.cons ha hb⟩
end
def nw (H H':Hp):Hp:=λb=>match H b with
 | none=>H' b
 | some _=>none
theorem yv6 {H H':Hp}{b:Addr}(h:H b=none):nw H H' b=H' b:=by unfold nw;rw [h]
theorem zv0 {H H':Hp}{b:Addr}{o:HO}(h:nw H H' b=some o):H b=none/\H' b=some o:=by
 unfold nw at h
 cases e:H b with
 | none=>rw [e] at h;exact ⟨rfl,h⟩
 | some u=>rw [e] at h;cases h
theorem xc9 {H H':Hp}:y4 (nw H H') H':=λb o h=>(zv0 h).2
theorem yk6 {H H1 H2:Hp}(s:y4 H1 H2):y4 (nw H H1) (nw H H2):=λb o h=>by
 obtain ⟨h1,h2⟩:=zv0 h
 rw [yv6 h1]
 exact s _ _ h2
theorem xr1 {H0 H H':Hp}(s:y4 H0 H):y4 (nw H H') (nw H0 H'):=λb o h=>by
 obtain ⟨h1,h2⟩:=zv0 h
 have h0:H0 b=none:=by
  cases e:H0 b with
  | none=>rfl
  | some u=>rw [s _ _ e] at h1;cases h1
 rw [yv6 h0]
 exact h2
section
variable {e:Expr}{es:List Expr}{pos:Pos}{C:St->Hp->Prop}{d:PyData}{ds:List PyData}
def tNw (C:St->Hp->Prop)(d:PyData):TE:=λσ H Q=>C σ H/\∀v H',y4 H H'->Dt (nw H H') v d->Q v H'
def xg7 (C:St->Hp->Prop)(ds:List PyData):TA:=λσ H Q=>C σ H/\∀vs H',y4 H H'->Dts (nw H H') vs ds->Q vs H'
theorem M2 {i j pos}:DE X (.Constant (.int i) j pos) (tNw C (.int i)):=⟨y6.weak λ_ H _ q=>q.2 _ H (y4.refl _) (.int i)⟩
theorem xl7 {H H1:Hp}{p:Addr}(s:y4 H H1)(hp:H1 p=none)(u:HO):nw H (upd H1 p u) p=some u:=by
 have h0:H p=none:=by
  cases e:H p with
  | none=>rfl
  | some o=>rw [s _ _ e] at hp;cases hp
 rw [yv6 h0];exact new_at u
theorem zh7:DA X [] (xg7 C []):=⟨z5.weak λ_ H _ q=>q.2 [] H (y4.refl _) .nil⟩
theorem Z1 (hC:xh3 C)(he:DE X e (tNw C d))(hr:DA X es (xg7 C ds))(hs:starEach (e::es) X.env=(false,eval e X.env)::starEach es X.env:=by rfl):DA X (e::es) (xg7 C (d::ds)) :=
 ⟨(z0 he.h hr.h hs).weak λσ H Q q=>⟨q.1,λv H1 s1 hv=>⟨hC σ H H1 s1 q.1,λvs H2 s2 hvs=>q.2 (v::vs) H2 (s1.trans s2) (.cons (hv.same (yk6 s2)) (hvs.same (xr1 s1)))⟩⟩⟩
theorem zx0 (h:DA X es (xg7 C ds))(hz:ds.length<=sizeLine):DE X (.List es pos) (tNw C (.list ds)) :=
 ⟨(l7 h.h).weak λ_ _ _ q=>⟨q.1,λvs H1 s1 hvs=>⟨by rw [hvs.length];exact hz,λp hp=>q.2 _ _ (s1.trans (ya6 hp _)) (.lst (xl7 s1 hp _) (hvs.same (yk6 (ya6 hp _))))⟩⟩⟩
end
end
section
end
section
variable {P:Program}{w:World}{K:W.Frag}{mg:Str->Option Value}{base:Heap}{N:List Str}{qual:Str}{scope:Scope}{f:Addr}{cd:Value}{A:Around}{outer:List Env}{s s1:Shared}{H H1:Hp}{E:XK}{pins:List (Addr×Obj)}{σ:St}
theorem yl2:P3 (CX1 P w) (Z8 (CX1 P w) P w K mg base N qual scope f cd A outer s H E) E:=λ_ _ _ _ _ _ I hx=>yu6 I hx λ_ _ _ z=>z
end
section
variable {P:Program}{w:World}{K:W.Frag}{mg:Str->Option Value}{base:Heap}{N:List Str}{qual:Str}{scope:Scope}{f:Addr}{cd:Value}{A:Around}{outer:List Env}{s:Shared}{H:Hp}{E:XK}
theorem yg7 {x:Str}{p pos:Pos}{e:Expr}{es:List Expr}{t:TA}{ps:List Str}{sp:Sp}{k j:Nat}(kn:V8 P w K mg base k x ps sp)(hr:c4 j (A.deeper (envOfC qual scope s.heap.objs.size f cd)))(hg:Gl (Z8 (CX1 P w) P w K mg base N qual scope f cd A outer s H E) x)
  (ha:PA (Z8 (CX1 P w) P w K mg base N qual scope f cd A outer s H E) (e::es) t) (hj:k<=j:=by decide) (hdb:(x==("__debug__":Str))=false:=by decide)
  (he:starEach (e::es) (envOfC qual scope s.heap.objs.size f cd)=(false,eval e (envOfC qual scope s.heap.objs.size f cd))::starEach es (envOfC qual scope s.heap.objs.size f cd):=by rfl) (hpl:(backTo pos (starEach es (envOfC qual scope s.heap.objs.size f cd))).any (·.1)=false:=by rfl) :
  PE (Z8 (CX1 P w) P w K mg base N qual scope f cd A outer s H E) (.Call (.Name x p) (e::es) [] pos) (ym8 sp [] E t):=by
 obtain ⟨g,gd,G,hk,hm,hb⟩:=kn
 exact yl3 (X:=Z8 (CX1 P w) P w K mg base N qual scope f cd A outer s H E) G (hr.mono hj) hg hm hk hb .nil yl2 ha hdb he hpl
end
section
variable {M:Model}{A:Around}{E:Value->Shared->Prop}{s:Shared}{env:Env}
end
section
variable {X:Cx}{E:XK}{own:Nat}{fr:List Nat}{N':List Str}{tg iter elt:Expr}{scope:Scope}{pos:Pos}{wi:TI}{g:CT TG}{te:CT TE}
end
section
variable {X:Cx}
end
section
end
section
variable {X:Cx}
theorem yk7 (hu:X.A.units+64<cLine):OpR X (compareOp .Eq) (λx y H Q=>∃d e,Dt H x d/\Dt H y e/\PySem.SeqAt.shaped d=true/\PySem.SeqAt.shaped e=true/\Q (.bl (PyData.eqv d e)) H):=by
 intro pins s σ H x y v u Q I rx ry h
 obtain ⟨d,e,hd,he,s1,s2,q⟩:=h
 obtain ⟨as,ra⟩:=hd.reads I (PySem.SeqAt.canLay_of_shaped s1) v rx
 obtain ⟨bs,rb⟩:=he.reads I (PySem.SeqAt.canLay_of_shaped s2) u ry
 exact eq_dataH ra rb s1 s2 hu ⟨.bl _,H,I,rfl,q⟩
theorem zv9 (hu:X.A.units+64<cLine):OpR X (compareOp .NotEq) (λx y H Q=>∃d e,Dt H x d/\Dt H y e/\PySem.SeqAt.shaped d=true/\PySem.SeqAt.shaped e=true/\Q (.bl (!PyData.eqv d e)) H):=by
 intro pins s σ H x y v u Q I rx ry h
 obtain ⟨d,e,hd,he,s1,s2,q⟩:=h
 obtain ⟨as,ra⟩:=hd.reads I (PySem.SeqAt.canLay_of_shaped s1) v rx
 obtain ⟨bs,rb⟩:=he.reads I (PySem.SeqAt.canLay_of_shaped s2) u ry
 exact ne_dataH ra rb s1 s2 hu ⟨.bl _,H,I,rfl,q⟩
end
section
variable {X:Cx}{tg:Expr}
end
open PySem.W PySem.Builtin PySem.Builtin.ObjectAttr PySem.Builtin.Getset_descriptor
section
variable {X:Cx}
theorem xp7 {a b:Expr}{ta tb:TE}{r:R2}{pos:Pos}(hr:IxR X r)(ha:DE X a ta)(hb:PE X b tb)(hs:yi9 b):DE X (.Subscript a b pos) (tOp r ta tb):=⟨i4 hr ha.h hb hs⟩
theorem xj4 {e:Expr}{te:TE}{pos:Pos}(he:DE X e te):DS X (.Return (some e) pos) (xo1 te):=⟨v1 he.h⟩
theorem xp8 {c:Expr}{a b:List Stmt}{tc:TT}{t u:TS}{pos:Pos}(hc:PT X c tc)(ha:DSs X a t)(hb:DSs X b u):DS X (.If c a b pos) (xs5 tc t u):=⟨n6 hc ha.h hb.h⟩
theorem xb6 {st:Stmt}{t:TS}(h:DS X st t):DSs X [st] t:=⟨z8 h.h⟩
theorem xb5:DSs X [] xi4:=⟨u0⟩
end
structure zf9 (K:W.Frag) (C:Addr):Prop where
 ga:W.findIn K (.ref C) "__getattribute__"=some (some (.builtin "BaseException.__getattribute__"))
 no:W.findIn K (.ref C) "__getattr__"=some none
 cl:W.findIn K (.ref C) "__class__"=some (some (.builtin "object.__class__"))
 be:W.mroIn K C (.type "BaseException")=some true
 ob:W.mroIn K C (.type "object")=some true
 gt:W.specialIn K (.builtin "object.__class__") "__get__"=some (some (.builtin "getset_descriptor.__get__"))
 tk:W.takesIn K (.builtin "object.__class__")=some true
section
variable {prog:Program}{w:World}{A:Around}{E:Value->Shared->Prop}{s:Shared}{K:W.Frag}{x C:Addr}{o:Obj}
theorem zb5 {M:Model}{h:Heap}(hx:h.get? x=some o)(hc:o.cls=.ref C):W.Looks M h (typeOf (.ref x)) (.ref C):=hc ▸ (W.Looks.ld hx).andThen .now
theorem xh1 {M:Model}{h:Heap}(X:K.In h)(a:zf9 K C):W.Looks M h (Builtin.ObjectAttr.find (.ref x) (.ref C) "__class__") (.bind (.builtin "getset_descriptor.__get__") (.builtin "object.__class__")):=by
 have L3:=looks_takesIn (M:=M) X a.tk
 have g:W.Looks M h (Builtin.ObjectAttr.getOf (some (.builtin "object.__class__"))) (some (.builtin "getset_descriptor.__get__")):=looks_specialIn X a.gt
 refine (looks_findIn (M:=M) X a.cl).andThen (g.andThen ?_)
 exact (show W.Looks M h (Builtin.ObjectAttr.dataDescriptor? (some (.builtin "object.__class__")) (some (.builtin "getset_descriptor.__get__"))) (some (.builtin "getset_descriptor.__get__",.builtin "object.__class__")) from L3.andThen .now).andThen (Looks.tag .now)
theorem xo7 {R:Result->Shared->Prop}{tp:Value}(X:K.In s.heap)(a:zf9 K C)(hx:s.heap.get? x=some o)(hc:o.cls=.ref C)(h:R (.ok (.ret (.ref C))) s) :
  codeAny (model prog w) A (.call (.builtin "getset_descriptor.__get__") ⟨[.builtin "object.__class__",.ref x,tp],[]⟩) R s:=by
 obtain ⟨hh,g,dr,t,os⟩:=s
 have La:=zb5 (M:=model prog w) hx hc
 have Lb:=looks_mroIn (M:=model prog w) X a.ob
 refine codeAny_call_builtin KF.slot_gs.plain KF.entry_gs (KF.slot_gs.check _ _ _ _ _ _ _ _ KF.type_class (KF.args_gs _ _ _) (by
  unfold Builtin.«getset_descriptor.__get__» descrGet;rw [dga_obj]
  refine wpAny_bind (wpAny_pure ?_);unfold descrGetter descrCheckInstance descrNameAndClass isInstance;simp only [KF.owner_class]
  repeat lk
  refine ⟨Code.quiet_builtin _ (by decide +kernel),codeAny_builtin KF.entry_class (by unfold Builtin.«object.__class__» shownTypeOf;(repeat lk);exact h)⟩))
theorem yz7 {tk:Tok}{Q:Fin->Shared->Prop}(X:K.In s.heap)(a:zf9 K C)(hx:s.heap.get? x=some o)(hc:o.cls=.ref C)(h:Q (.done (.ret (.ref C))) s) :
  wpAny (model prog w) A (Builtin.«object.__getattribute__» ⟨[.ref x,.str "__class__" tk],[]⟩) Q E s:=by
 have La:=zb5 (M:=model prog w) hx hc
 have Lb:=xh1 (M:=model prog w) (x:=x) X a
 unfold Builtin.«object.__getattribute__»
 refine wpAny_bind (wpAny_pure ?_)
 dsimp only
 refine wpAny_bind (wpAny_pure ?_)
 obtain ⟨hh,g,dr,t,os⟩:=s
 refine wpAny_bind (La.at (wpAny_bind (Lb.at ?_)))
 dsimp only
 unfold Builtin.ObjectAttr.bindTo
 dsimp only
 refine wpAny_bind (wpAny_holding (wpAny_call (xo7 X a hx hc ?_)))
 exact wpAny_pure h
theorem yz6 {nameV:Value}{Q:Unit->Shared->Prop}(X:K.In s.heap)(a:zf9 K C)(hx:s.heap.get? x=some o)(hc:o.cls=.ref C)(h:Q () s):wpAny (model prog w) A (checkBuiltinCall "BaseException.__getattribute__" ⟨[.ref x,nameV],[]⟩) Q E s:=by
 have hk:builtinKind "BaseException.__getattribute__"=some .slot:=by decide +kernel
 have hs:splitId "BaseException.__getattribute__"=some ("BaseException","__getattribute__"):=by decide +kernel
 have La:=zb5 (M:=model prog w) hx hc
 have Lb:=looks_mroIn (M:=model prog w) X a.be
 have ha:=F.args_bexc_ga (.ref x) nameV
 obtain ⟨hh,g,dr,t,os⟩:=s
 simp only [checkBuiltinCall,hk,hs]
 unfold isInstance
 refine wpAny_bind (wpAny_bind (La.at (Lb.at ?_)))
 rw [if_neg (by decide)]
 unfold argsOk at ha
 exact wpAny_of_eq ha h
theorem xh0 {Q:Option Value->Shared->Prop}(X:K.In s.heap)(a:zf9 K C)(hx:s.heap.get? x=some o)(hc:o.cls=.ref C)(h:Q (some (.ref C)) { s with toks:=s.toks+1 }):wpAny (model prog w) A (getAttr? (.ref x) "__class__") Q E s:=by
 have La:=zb5 (M:=model prog w) hx hc
 have L1:=looks_findIn (M:=model prog w) X a.ga
 have L2:=looks_findIn (M:=model prog w) X a.no
 obtain ⟨hh,g,dr,t,os⟩:=s
 unfold getAttr? getAttrBy? getAttrBy
 refine wpAny_bind (wpAny_mkText (wpAny_bind (wpAny_attempt (wpAny_holding (wpAny_bind (La.at (wpAny_bind (L1.at ?_))))))))
 dsimp only
 rw [show (onTheHeap (Value.ref C)&&Value.builtin "BaseException.__getattribute__" == Value.builtin "object.__getattribute__")=false by rw [show (Value.builtin "BaseException.__getattribute__" == Value.builtin "object.__getattribute__")=false by decide +kernel];rfl,if_neg aE]
 unfold getAttrByItsOwn hookBefore
 rw [show onTheHeap (Value.ref C)=true from rfl,if_pos rfl]
 refine wpAny_bind (L2.at ?_)
 refine wpAny_bind (wpAny_attempt (wpAny_holding ?_))
 unfold callGetattribute boundAndCalled
 rw [if_neg (by decide)]
 rw [F.excAttr_ValueError.ga.bind (.ref x)]
 refine wpAny_bind (wpAny_pure ?_)
 refine wpAny_call (codeAny_call_builtin F.excAttr_ValueError.ga.plain F.entry_bexc_ga (yz6 X a hx hc (yz7 X a hx hc ?_)))
 exact handed_on rfl (wpAny_pure h)
theorem yu3 (a:zf9 K C):KitX K (.ref x) (.ref C) (λh=>∃o,h.get? x=some o/\o.cls=.ref C) where
 ty:=λ_ _ _ ⟨_,h1,h2⟩=>zb5 h1 h2
 it:=λ_ _ X _=>by
  obtain ⟨cd,hcd,_⟩:=Option.bind_eq_some_iff.mp a.ob
  unfold clsIn at hcd
  split at hcd
  ·rename_i ho
   intro A' Q' E' s' k q
   unfold isType loadHead;exact wpAny_bind (wpAny_loadPart (k _ _ (X _ _ ho)) (wpAny_pure q))
  ·cases hcd
 ne:=λh tp dd its n sl X htp=>by
  obtain ⟨cd,hcd,_⟩:=Option.bind_eq_some_iff.mp a.ob
  refine cz.mpr λq=>?_
  have e:C=tp:=Value.ref.inj (beq_iff_eq.mp q)
  subst e
  unfold clsIn at hcd
  split at hcd
  ·rename_i ho
   cases (X _ _ ho).symm.trans htp
  ·cases hcd
 ca:=λX ⟨_,h1,h2⟩ k=>xh0 X a h1 h2 k
end
section
variable {X:Cx}
end
end L2
namespace Tb.ST
open PySem PySem.SetTable
def adv (mask:Nat)(p:Probe):Probe:=if p.more > 0 then { p with j:=p.j+1,more:=p.more-1 } else
 {p with j:=(leap mask p.i p.perturb).1,more:=runEnd mask (leap mask p.i p.perturb).1-(leap mask p.i p.perturb).1,i:=(leap mask p.i p.perturb).1,perturb:=(leap mask p.i p.perturb).2 }
def start (mask:Nat)(h:Int):Probe:={ j:=bits h % (mask+1),more:=runEnd mask (bits h % (mask+1))-bits h % (mask+1),i:=bits h % (mask+1),perturb:=bits h,dummy:=none }
def go (mask:Nat):Nat->Probe->Probe
 | 0,p=>p
 | q+1,p=>go mask q (adv mask p)
def lc (M x:Nat):Nat:=(x*5+1) % M
def lcs (M:Nat):Nat->Nat->Nat
 | 0,x=>x
 | k+1,x=>lcs M k (lc M x)
def xi1 (M:Nat):Nat->Nat->List Nat
 | 0,_=>[]
 | k+1,x=>lc M x::xi1 M k (lc M x)
def zz6 (M:Nat):Bool:=((List.range M).all λe=>(xi1 M M 0).contains e)&&lcs M M 0==0
end Tb.ST
namespace Tb.ST
open PySem PySem.SetTable
theorem B3 {α:Type}{l:List α}{p i:Nat}{x:α}(hp:p<=l.length):(l.take p++x::l.drop p)[i]?=if i<p then l[i]? else if i=p then some x else l[i-1]?:=by
 have ht:(l.take p).length=p:=by rw [bj];lia
 by_cases h1:i<p
 ·rw [if_pos h1,aS (by lia),dA h1]
 ·rw [if_neg h1,aU (by lia),ht]
  by_cases h2:i=p
  ·rw [if_pos h2,h2,cU];rfl
  ·rw [if_neg h2,show i-p=(i-p-1)+1 by lia,List.getElem?_cons_succ,dw,show p+(i-p-1)=i-1 by lia]
end Tb.ST
namespace Tb.ST
open PySem PySem.SetTable
def Fr (owner:Array (Option Nat))(j:Nat):Prop:=(owner.getD j (some 0)).isNone=true
end Tb.ST
namespace L2
open PySem PySem.Spec PyProof.Rows
section
variable {prog:Program}{w:World}{K:Type}[DecidableEq K]{knd:KeyKind prog w K}{A:Around}{E:Value->Shared->Prop}{s:Shared}
end
section
variable {X:Cx}
theorem zs4:∀{as:List Addr} {us:List Value},t9 (as.map V.ref) us->us=as.map Value.ref
 | [],_,r=>by rw [cq] at r;cases r;rfl
 | a::as,_,r=>by
  rw [aI] at r
  cases r with
  | cons h t =>
   cases h
   rw [zs4 t]
   rfl
end
section
variable {prog:Program}{w:World}{A:Around}{E:Value->Shared->Prop}{s:Shared}
variable {I Z:Addr}{fp wr:List Addr}{G:Array GenState->Array GenState->Prop}{n:Nat}{P:Nat->Value->Prop}{St:Nat->Shared->Prop}{R:Result->Shared->Prop}
end
section
variable {X:Cx}
end
section
variable {prog:Program}{w:World}{A:Around}{E:Value->Shared->Prop}{s:Shared}
theorem u4 {α β:Type}{F:α->β->Prop}:∀{as:List α} {bs:List β},Paired F as bs->∀(i:Nat) (a:α) (b:β),as[i]?=some a->bs[i]?=some b->F a b
 | _,_,.nil,i,a,b,h,_=>by cases i <;> cases h
 | _,_,.cons f _,0,a,b,h,h'=>by
  cases h
  cases h'
  exact f
 | _,_,.cons _ r,i+1,a,b,h,h'=>u4 r i a b (by simpa using h) (by simpa using h')
end
section
variable {X:Cx}
end
def Q0 (P:Program)(w:World)(K:W.Frag)(mg:Str->Option Value)(base:Heap)(k:Nat)(C:Addr)(m:Str)(ps:List Str)(sp:Sp):Prop :=
 ∃f fd,u6 P w K mg base CX0 k f fd ps sp/\yr1 K C m f/\V6 K fd ps []
def ye1 (P:Program)(w:World)(K:W.Frag)(mg:Str->Option Value)(base:Heap)(k:Nat)(C:Addr)(m:Str)(ps:List Str)(sp:Sp):Prop :=
 ∃f fd,u6 P w K mg base (CX1 P w) k f fd ps sp/\yr1 K C m f/\V6 K fd ps []
section
variable {X:Cx}{C:Addr}{k j:Nat}{m:Str}{ps:List Str}{sp:Sp}{o e:Expr}{es:List Expr}{ta:TE}{t:TA}{apos pos cpos:Pos}{pl:Sem Bool}
theorem S8 (c:Cls X.K C)(kn:Q0 X.prog X.w X.K X.mg X.base k C m ps sp)(hr:c4 j X.A)(ho:PE X o ta)(ha:PA X (e::es) t)(hj:k<=j:=by decide)
  (hst:starEach (e::es) X.env=(false,eval e X.env)::starEach es X.env:=by rfl) (hpl:(backTo pos (starEach es X.env)).any (·.1)=false:=by rfl)
  (ht:eval (.Call (.Attribute o m apos) (e::es) [] pos) X.env=(do
   let v ←eval o X.env
   standAt apos.atName
   let (f,first) ←holding [v] (getMethod v m pl)
   callWith pos f first (backTo pos (starEach (e::es) X.env)) (backToKw pos (keywordEach [] X.env))):=by rfl):PE X (.Call (.Attribute o m apos) (e::es) [] pos) (yd4 C m sp [] E0 ta t):=by
 obtain ⟨f,fd,G,hm,hb⟩:=kn
 exact yl6 ho c hm G (hr.mono hj) hb .nil yl1 ha hst hpl ht
end
section
variable {P:Program}{w:World}{K:W.Frag}{mg:Str->Option Value}{base:Heap}{N:List Str}{qual:Str}{scope:Scope}{f:Addr}{cd:Value}{A:Around}{outer:List Env}{s:Shared}{H:Hp}{E:XK}
theorem yb4 {C:Addr}{k j:Nat}{m:Str}{ps:List Str}{sp:Sp}{o e:Expr}{es:List Expr}{ta:TE}{t:TA}{apos pos:Pos}{pl:Sem Bool}(c:Cls K C)(kn:ye1 P w K mg base k C m ps sp)(hr:c4 j (A.deeper (envOfC qual scope s.heap.objs.size f cd)))(ho:PE (Z8 (CX1 P w) P w K mg base N qual scope f cd A outer s H E) o ta)
  (ha:PA (Z8 (CX1 P w) P w K mg base N qual scope f cd A outer s H E) (e::es) t) (hj:k<=j:=by decide)
  (hst:starEach (e::es) (envOfC qual scope s.heap.objs.size f cd)=(false,eval e (envOfC qual scope s.heap.objs.size f cd))::starEach es (envOfC qual scope s.heap.objs.size f cd):=by rfl) (hpl:(backTo pos (starEach es (envOfC qual scope s.heap.objs.size f cd))).any (·.1)=false:=by rfl)
  (ht:eval (.Call (.Attribute o m apos) (e::es) [] pos) (envOfC qual scope s.heap.objs.size f cd)=(do
   let v ←eval o (envOfC qual scope s.heap.objs.size f cd)
   standAt apos.atName
   let (f',first) ←holding [v] (getMethod v m pl)
   callWith pos f' first (backTo pos (starEach (e::es) (envOfC qual scope s.heap.objs.size f cd))) (backToKw pos (keywordEach [] (envOfC qual scope s.heap.objs.size f cd)))):=by rfl) :
  PE (Z8 (CX1 P w) P w K mg base N qual scope f cd A outer s H E) (.Call (.Attribute o m apos) (e::es) [] pos) (yd4 C m sp [] E ta t):=by
 obtain ⟨g,gd,G,hm,hb⟩:=kn
 exact yl6 (X:=Z8 (CX1 P w) P w K mg base N qual scope f cd A outer s H E) ho c hm G (hr.mono hj) hb .nil yl2 ha hst hpl ht
end
section
variable {prog:Program}{w:World}{A:Around}{E:Value->Shared->Prop}{s:Shared}
end
section
variable {X:Cx}
end
section
variable {X:Cx}
end
section
variable {X:Cx}
end
section
variable {prog:Program}{w:World}{A:Around}{E:Value->Shared->Prop}{s:Shared}
def two (x y:Int)(i:Nat):Int:=if i=0 then x else y
end
section
variable {X:Cx}
end
section
variable {X:Cx}{pos:Pos}
end
section
variable {P:Program}{w:World}{K:W.Frag}{mg:Str->Option Value}{base:Heap}{f:Addr}{fd:FuncData}{ps:List Str}{k:Nat}
theorem u6.calm {sp:Sp}(F:u6 P w K mg base (CX1 P w) k f fd ps sp):u6 P w K mg base CX0 k f fd ps (λvs H Q _=>sp vs H Q E0) :=
 ⟨λvs H Q _ h=>F.len vs H Q E0 h,λA outer s H args us vs Q E hr he hb hv hs=>codeAny_mono (F.run A outer s H args us vs Q E0 hr he hb hv hs) λr s' h=>by
  cases r with
  | ok fl=>cases fl <;> exact h
  | error e =>
   obtain ⟨ea,C,a0,B,H',_,_,_,_,_,_,_,_,_,_,_,_,hE⟩:=h
   exact hE.elim⟩
end
theorem xq8 {k:Key}{u:Value}(h:zk3 k u=true):p0 (kV k) u:=by
 rcases i5 h with ⟨i,t,rfl,rfl⟩|⟨x,t,rfl,rfl⟩
 ·exact ⟨t,rfl⟩
 ·exact ⟨t,rfl⟩
section
variable {X:Cx}{pins:List (Addr×Obj)}{σ:St}{H:Hp}{s:Shared}
theorem Inv.freeze {a:Addr}{kvs:List (Key×V)}{ob:Obj}(I:Inv X pins σ H s)(e:H a=some (.dK kvs))(ho:s.heap.get? a=some ob):Inv X pins σ (upd H a (.frz ob (.dK kvs))) s:=by
 have mu:Mut (H a):=by rw [e];exact True.intro
 refine Inv.write (t':=s.toks) (o:=.frz ob (.dK kvs)) I mu (.inl rfl) (λ_ _ _ q=>q) ⟨ob,ho⟩ ⟨ho,?_⟩
 refine (I.hok a _ e).stay (λ_ _ _ q=>q) (λb q=>?_) λb xs q=>?_
 ·rw [z6 (i6 q e (by intro z;cases z))];exact q
 ·rw [z6 (i6 q e (by intro z;cases z))];exact q
theorem Inv.thaw {a:Addr}{kvs:List (Key×V)}{ob:Obj}(I:Inv X pins σ H s)(e:H a=some (.frz ob (.dK kvs)))(hnf:∀o u,X.H₀ a≠some (.frz o u)):Inv X pins σ (upd H a (.dK kvs)) s:=by
 have ne:∀b o,H b=some o->o≠.frz ob (.dK kvs)->b≠a:=λb o q d=>i6 q e d
 have nen:∀b,H b=none->b≠a:=λb q z=>by subst z;rw [q] at e;cases e
 refine ⟨I.ok,I.os,I.bare,⟨I.base.keep,I.base.slot,λb o q n hx=>?_,I.base.there,λb xs q=>?_,λb o u q=>?_,λb ps q=>?_⟩,I.loc,I.cell,?_,λx c q=>?_,λp hp=>?_,λb u q=>?_,I.len⟩
 ·have r:=I.base.free b o q n hx
  rw [z6 (nen b r)];exact r
 ·have r:=I.base.tups b xs q
  rw [z6 (ne b _ r (by intro z;cases z))];exact r
 ·have r:=I.base.frzs b o u q
  have hb:b≠a:=λz=>by subst z;exact hnf o u q
  rw [z6 hb];exact r
 ·obtain ⟨m,r⟩:=I.base.tbls b ps q
  exact ⟨m,by rw [z6 (ne b _ r (by intro z;cases z))];exact r⟩
 ·rw [z6 (nen _ I.free)];exact I.free
 ·rw [z6 (nen _ (I.freeC x c q))];exact I.freeC x c q
 ·obtain ⟨h1,h2,h3,h4,h5⟩:=I.pin p hp
  exact ⟨h1,by rw [z6 (nen _ h2)];exact h2,h3,h4,h5⟩
 ·by_cases hb:b=a
  ·subst hb
   rw [z4] at q
   cases q
   obtain ⟨_,r⟩:=I.hok b _ e
   refine r.stay (λ_ _ _ q=>q) (λc q=>?_) λc xs q=>?_
   ·rw [z6 (ne c _ q (by intro z;cases z))];exact q
   ·rw [z6 (ne c _ q (by intro z;cases z))];exact q
  ·rw [z6 hb] at q
   refine (I.hok b u q).stay (λ_ _ _ q=>q) (λc q=>?_) λc xs q=>?_
   ·rw [z6 (ne c _ q (by intro z;cases z))];exact q
   ·rw [z6 (ne c _ q (by intro z;cases z))];exact q
theorem Inv.nofrz {a:Addr}{kvs:List (Key×V)}(I:Inv X pins σ H s)(e:H a=some (.dK kvs)):∀o u,X.H₀ a≠some (.frz o u):=λo u q=>by
 have r:=I.base.frzs a o u q
 rw [e] at r
 cases r
end
def ItK (ob:Obj)(d:Addr)(kvs:List (Key×V)):It :=
 ⟨λi H=>H d=some (.frz ob (.dK kvs))/\i<kvs.length,λi H x H'=>H'=H/\∃k v,kvs[i]?=some (k,v)/\x=kV k,λi H=>H d=some (.frz ob (.dK kvs))/\kvs.length<=i⟩
theorem yj6 {P:Program}{w:World}{H:Hp}{h:Heap}{d:Addr}{ob:Obj}{kvs:List (Key×V)}{ep:Nat}(ok:HOk P w H h)(hep:∃es,ob.data=.dict es ep)(e:H d=some (.frz ob (.dK kvs))) :
  ∃vs,KV kvs vs/\h.DictAt (f7 P w) d vs ep:=by
 obtain ⟨ho,_,_,vs,rel,o,es,ep',ho',hx,hd,r⟩:=ok d _ e
 rw [ho] at ho'
 cases ho'
 obtain ⟨es',he⟩:=hep
 rw [he] at hd
 cases hd
 exact ⟨vs,rel,ob,_,ho,hx,he,r⟩
theorem xh9 {κ:Type}:∀{kvs:List (κ×V)} {vs:List (κ×Value)},KV kvs vs->∀{i:Nat} {k:κ} {v:V},kvs[i]?=some (k,v)->∃u,vs[i]?=some (k,u)/\p0 v u
 | _,_,.nil,i,k,v,h=>by cases i <;> cases h
 | _,_,.cons (b:=q) f _,0,k,v,h=>by
  obtain ⟨k',u⟩:=q
  cases h
  obtain ⟨e,r⟩:=f
  cases e
  exact ⟨u,rfl,r⟩
 | _,_,.cons _ r,i+1,k,v,h=>by
  obtain ⟨u,hu,f⟩:=xh9 r (i:=i) (by simpa using h)
  exact ⟨u,by simpa using hu,f⟩
theorem yq7 {P:Program}{w:World}{K:W.Frag}{tg:Expr}(ob:Obj)(d it:Addr)(kvs:List (Key×V))(ep:Nat)(hep:∃es,ob.data=.dict es ep):ye3 P w K tg (ItK ob d kvs) [it] it (λi h=>h.IsKeyIter it d i kvs.length ep) where
 mem:=by simp
 obj:=λi h st b hb=>by
  have e:b=it:=by simpa using hb
  subst e
  obtain ⟨o,e,c,d⟩:=st
  exact ⟨o,e,λv z=>by rw [d] at z;cases z⟩
 keep:=λi h h' st k=>by
  obtain ⟨o,e,r⟩:=st
  exact ⟨o,k it (by simp) o e,r⟩
 item:=by
  intro X hP hw hK hc i pins s σ H E I hf st hg
  subst hP hw hK
  obtain ⟨e,hi⟩:=hg
  obtain ⟨vs,rel,da⟩:=yj6 I.hok hep e
  have hx:kvs[i]?=some (kvs[i].1,kvs[i].2):=aa hi
  obtain ⟨u,hu,_⟩:=xh9 rel hx
  obtain ⟨f0,f1,f2,f3,f4,f5⟩:=hf it (by simp)
  have st2:s.heap.IsKeyIter it d i vs.length ep:=by rw [←rel.length];exact st
  refine wpAny_pyNext_dict_item st2 da hu λkey h' hk st' sb=>?_
  rw [←rel.length] at st'
  have I1:Inv X pins σ H { s with heap:=h' }:=I.turned (t':=s.toks) (λb o hb e=>(sb.2 b hb).trans e) f0 f1 f3 f4 f5
  obtain ⟨o,e2,c,dd⟩:=id st'
  exact ⟨key,rfl,yk0 (s:={ s with heap:=h' }) e2 c dd (by decide) ⟨kV kvs[i].1,H,I1,xq8 hk,⟨rfl,_,_,hx,rfl⟩,st',λb hb=>(hf b hb).1⟩⟩
 done:=by
  intro X hP hw hK hc i pins s σ H E I hf st hg
  subst hP hw hK
  obtain ⟨e,hi⟩:=hg
  obtain ⟨vs,rel,da⟩:=yj6 I.hok hep e
  obtain ⟨f0,f1,f2,f3,f4,f5⟩:=hf it (by simp)
  have st2:s.heap.IsKeyIter it d i vs.length ep:=by rw [←rel.length];exact st
  exact wpAny_pyNext_dict_end (I.ok.hd hc) st2 da (aH (by rw [←rel.length];exact hi)) λh' eb=>⟨rfl,I.turned (t':=s.toks) (λb o hb e=>eb b o hb e) f0 f1 f3 f4 f5⟩
 self:=λ_ _ _ _ _ st h=>wpAny_pyIter_keyiter st h
section
variable {X:Cx}{tg:Expr}
def xq5 (td:TE):TI:=λσ H R=>td σ H λx H1=>∃d kvs,x=.ref d/\H1 d=some (.dK kvs)/\∀ob,R (ItK ob d kvs) (upd H1 d (.frz ob (.dK kvs)))
theorem xd8 {l:Expr}{td:TE}(hl:PE X l td):PI X tg l (xq5 td):=by
 intro pins s σ H R I h
 refine thn (hl pins s σ H _ I h) λv s1 ⟨x,H1,I1,r1,q1⟩=>?_
 obtain ⟨d,kvs,e,hd,q⟩:=q1
 subst e
 cases r1
 obtain ⟨hz,hs,vs,rel,dd⟩:=ys5 I1.hok hd
 obtain ⟨ep,da⟩:=dd.dictAt
 obtain ⟨ob,es,ho,hx,hdat,r⟩:=id da
 have I2:=I1.freeze hd ho
 refine wpAny_pyIter_dict hs da ?_
 rw [←rel.length]
 refine ⟨s1.heap.objs.size,[s1.heap.objs.size],_,_,_,rfl,I2.kept (t':=s1.toks) λb o e=>al _ e,yq7 ob d _ kvs ep ⟨es,hdat⟩,⟨_,aA _ rfl,rfl,rfl⟩,λb hb=>?_,q ob⟩
 have e:b=s1.heap.objs.size:=by simpa using hb
 subst e
 exact I2.fpOk (ah _) (I2.hok.fresh (ah _))
def xs9 (t:TE):TE:=λσ H Q=>∃d kvs,H d=some (.dK kvs)/\t σ H λv H'=>(∃ob,H' d=some (.frz ob (.dK kvs)))/\Q v (upd H' d (.dK kvs))
theorem xd7 {e:Expr}{t:TE}(h:PE X e t):PE X e (xs9 t):=by
 intro pins s σ H Q I hw
 obtain ⟨d,kvs,hd,q⟩:=hw
 have nf:=I.nofrz hd
 refine thn (h pins s σ H _ I q) λv s1 ⟨x,H1,I1,r1,⟨ob,hf⟩,q1⟩=>?_
 exact ⟨x,_,I1.thaw hf nf,r1,q1⟩
end
def zi3 (P:Program)(w:World)(K:W.Frag)(mg:Str->Option Value)(base:Heap)(k:Nat)(C:Addr)(x:Str)(ps:List Str)(sp:Sp):Prop :=
 ∃f fd,u6 P w K mg base CX0 k f fd ps sp/\Mk K C f/\mg x=some (.ref C)/\V6 K fd ps []
section
variable {X:Cx}{C:Addr}{k j:Nat}{x:Str}{ps:List Str}{sp:Sp}{e:Expr}{es:List Expr}{t:TA}{p pos:Pos}
theorem M0 (kn:zi3 X.prog X.w X.K X.mg X.base k C x ps sp)(hr:c4 j X.A)(hg:Gl X x)(ha:PA X (e::es) t)(hj:k+1<=j:=by decide)(hdb:(x==("__debug__":Str))=false:=by decide)
  (he:starEach (e::es) X.env=(false,eval e X.env)::starEach es X.env:=by rfl) (hpl:(backTo pos (starEach es X.env)).any (·.1)=false:=by rfl):PE X (.Call (.Name x p) (e::es) [] pos) (yz1 C sp [] E0 t):=by
 obtain ⟨f,fd,G,hM,hm,hb⟩:=kn
 exact yl5 hM G (hr.mono hj) hg hm hb .nil yl1 ha hdb he hpl
end
section
variable {prog:Program}{w:World}{A:Around}{E:Value->Shared->Prop}{s:Shared}
end
section
variable {X:Cx}
end
end L2
namespace L2
open PySem PySem.Spec PyProof.Rows
section
variable {X:Cx}{C:Addr}{k j:Nat}{x:Str}{ps:List Str}{sp:Sp}{e:Expr}{es:List Expr}{t:TA}{p cpos pos:Pos}
theorem yw8 {st:List Stmt}:PSs X st (λ_ _ _=>False):=λ_ _ _ _ _ _ h=>h.elim
end
end L2
namespace L2
open PySem PySem.Spec PyProof.Rows PySem.Builtin
section
variable {X:Cx}
def yw9 (K:W.Frag):R2:=λx y H Q=>∃a b xs ys,x=.ref a/\y=.ref b/\SqT K H a xs/\SqT K H b ys/\xs.length+ys.length<=sizeLine /\
 (xs=[]->Q (.ref b) H)/\(xs≠[]->ys=[]->Q (.ref a) H)/\(xs≠[]->ys≠[]->∀p,H p=none->Q (.ref p) (upd H p (.tup (xs++ys))))
theorem yb1:OpR X (binaryOp .Add) (yw9 X.K):=by
 intro pins s σ H x y v u Q I rx ry h
 obtain ⟨a,b,xs,ys,rfl,rfl,ha,hb,hz,q0,q1,q2⟩:=h
 by_cases hx:xs=[]
 ·cases rx
  cases ry
  obtain ⟨its,r1,p1,_⟩:=I.tuple ha
  obtain ⟨its2,r2,p2,_⟩:=I.tuple hb
  obtain ⟨⟨cls,dd,data,sl⟩,ho,hc,n,hd⟩:=id p1
  obtain ⟨⟨cls2,dd2,data2,sl2⟩,ho2,hc2,n2,hd2⟩:=id p2
  simp only at hc hd hc2 hd2
  subst hc hd hc2 hd2
  have hv:its=[]:=r1.nil_iff.mpr hx
  exact concat_meets ⟨_,ho,rfl⟩ ⟨_,ho2,rfl⟩ noFill_tuple_add seq_tuple_add PySem.F.slot_tuple_add PySem.F.entry_tuple_add (PySem.F.args_tuple_add_2 _ _) (tuple_addW0 a b its.toArray its2.toArray n n2 dd dd2 sl sl2 (by simp [hv])) ⟨ho,ho2,⟨.ref b,H,I,rfl,q0 hx⟩⟩
 ·exact xd4 pins s σ H (.ref a) (.ref b) v u Q I rx ry ⟨a,b,xs,ys,rfl,rfl,ha,hb,hx,hz,q1 hx,q2 hx⟩
end
end L2
namespace L2
open PySem PyProof PyProof.Rows
section
variable {prog:Program}{w:World}{A:Around}{E:Value->Shared->Prop}{s:Shared}
end
section
variable {X:Cx}
end
end L2
namespace HT
open PySem PyProof.Rows
section
open PySem.SeqAt
open PySem.AutoSeq1 (wpAny_loadPart')
open PySem.MeetsSeq PySem.MeetsSeq2 PySem.MeetsSeq3
end
section
variable {prog:Program}{w:World}{A:Around}{E:Value->Shared->Prop}{s:Shared}
end
end HT
namespace L2
open PySem PySem.Spec PyProof.Rows
theorem yk4:∀xs:List Int,HT.lexLt xs xs=false
 | []=>rfl
 | x::xs=>by rw [HT.lexLt_cons,if_pos rfl,yk4 xs]
theorem yu8:∀{xs ys:List Int},HT.lexLt xs ys=true->HT.lexLt ys xs=false
 | [],[],h=>by cases h
 | [],y::ys,_=>rfl
 | x::xs,[],h=>by cases h
 | x::xs,y::ys,h=>by
  rw [HT.lexLt_cons] at h ⊢
  by_cases e:x=y
  ·rw [if_pos e] at h
   rw [if_pos e.symm]
   exact yu8 h
  ·rw [if_neg e] at h
   rw [if_neg (λz=>e z.symm)]
   have:=of_decide_eq_true h
   exact decide_eq_false (by lia)
theorem yg0:∀{xs ys zs:List Int},HT.lexLt ys xs=false->HT.lexLt zs ys=false->HT.lexLt zs xs=false
 | xs,ys,[],h1,h2=>by
  cases ys with
  | nil=>cases xs with
   | nil=>rfl
   | cons x xs=>rw [HT.lexLt_nil_cons] at h1;cases h1
  | cons y ys=>rw [HT.lexLt_nil_cons] at h2;cases h2
 | [],ys,z::zs,h1,h2=>rfl
 | x::xs,[],z::zs,h1,h2=>by rw [HT.lexLt_nil_cons] at h1;cases h1
 | x::xs,y::ys,z::zs,h1,h2=>by
  rw [HT.lexLt_cons] at h1 h2 ⊢
  by_cases e1:y=x
  ·rw [if_pos e1] at h1
   by_cases e2:z=y
   ·rw [if_pos e2] at h2
    rw [if_pos (e2.trans e1)]
    exact yg0 h1 h2
   ·rw [if_neg e2] at h2
    have:=of_decide_eq_false h2
    rw [if_neg (by lia)]
    exact decide_eq_false (by lia)
  ·rw [if_neg e1] at h1
   have h1:=of_decide_eq_false h1
   by_cases e2:z=y
   ·rw [if_neg (by lia)]
    exact decide_eq_false (by lia)
   ·rw [if_neg e2] at h2
    have:=of_decide_eq_false h2
    rw [if_neg (by lia)]
    exact decide_eq_false (by lia)
theorem ya1:∀{xs ys:List Int},HT.lexLt xs ys=false->HT.lexLt ys xs=false->xs=ys
 | [],[],_,_=>rfl
 | [],y::ys,h,_=>by rw [HT.lexLt_nil_cons] at h;cases h
 | x::xs,[],_,h=>by rw [HT.lexLt_nil_cons] at h;cases h
 | x::xs,y::ys,h1,h2=>by
  rw [HT.lexLt_cons] at h1 h2
  by_cases e:x=y
  ·rw [if_pos e] at h1
   rw [if_pos e.symm] at h2
   rw [e,ya1 h1 h2]
  ·rw [if_neg e] at h1
   rw [if_neg (λz=>e z.symm)] at h2
   have:=of_decide_eq_false h1
   have:=of_decide_eq_false h2
   lia
section
variable {X:Cx}
end
section
variable {prog:Program}{w:World}{A:Around}{R:Result->Shared->Prop}{I S:Addr}{fp wr:List Addr}{n:Nat}{P:Nat->Value->Prop}{St:Nat->Heap->Prop}{J:Heap->Prop}{bt:Nat->Nat->Bool}
end
section
variable {X:Cx}
end
section
variable {M:Model}{A:Around}{E:Value->Shared->Prop}{s:Shared}
end
section
variable {X:Cx}{pins:List (Addr×Obj)}{σ:St}{H:Hp}{s:Shared}
end
section
variable {X:Cx}{own:Nat}{fr:List Nat}{N':List Str}{tg iter elt:Expr}{scope:Scope}{pos:Pos}{wi:TI}{g:CT TG}{te:CT TE}
end
section
variable {pr:Program}{wd:World}{κ:Type}[DecidableEq κ]{kh:HeapKind pr wd κ}
theorem yz3 (d:Addr)(ne:(d==sysModules)=false):MeetsIn pr wd (Builtin.«dict.__len__» ⟨[.ref d],[]⟩) (λ_ R s=>∃xs,s.heap.DictOfH kh d xs/\R (.ok (.ret (.int xs.length s.toks))) { s with toks:=s.toks+1 }) :=
 .of_wp λA R s ⟨xs,hx,q⟩=>by
  obtain ⟨ob,en,ep,h1,h2,h3,h4,h5⟩:=hx
  show wpAny _ _ (dictSize d >>= _) _ _ s
  unfold dictSize
  refine wpAny_bind (wpAny_bind (wpAny_dictEntries h1 h3 (wpAny_pure ?_)))
  show wpAny _ _ (Builtin.Dict.pendingCount d >>= _) _ _ s
  refine wpAny_bind (wpAny_pendingCount_other ne (wpAny_ret_mkInt ?_))
  have e:en.size=xs.length:=size_of_entries h4
  rw [eU,e];exact q
theorem xg8 {A:Around}{E:Value->Shared->Prop}{s:Shared}{d:Addr}{xs:List (κ×Addr×Value)}{Q:Value->Shared->Prop}(ne:(d==sysModules)=false)(hx:s.heap.DictOfH kh d xs)(fit:(xs.length:Int)<2 ^ 63)(q:Q (.int xs.length (s.toks+1)) { s with toks:=s.toks+1+1 }) :
  wpAny (model pr wd) A (call (.builtin "len") [.ref d]) Q E s:=by
 refine Calls.call_function_entry kind_len plain_len entry_len (args_len1 _) ?_
 unfold Builtin.«len»
 refine wpAny_bind (m:=oneArg "len" _) (wpAny_pure ?_)
 refine wpAny_bind (m:=callSpecial? (.ref d) (Str.ofString "__len__")) (wpAny_callSpecial?_slot (name:=Str.ofString "__len__") hx.typeIs F.slot_dict_len (call_meetsIn F.slot_dict_len hx.typeIs F.entry_dict_len (F.args_dict_len_1 _) (yz3 (kh:=kh) d ne) ⟨xs,hx,?_⟩))
 show wpAny _ _ _ _ _ { s with toks:=s.toks+1 }
 refine wpAny_bind (wpAny_holding (wpAny_pure (wpAny_bind (wpAny_letGo ?_))))
 show wpAny _ _ (if ((xs.length:Nat):Int)<0 then _ else _) _ _ _
 rw [if_neg (show ¬((xs.length:Nat):Int)<0 by lia)]
 show wpAny _ _ (if ((xs.length:Nat):Int) ≥ 2 ^ 63 then _ else _) _ _ _
 rw [if_neg (show ¬((xs.length:Nat):Int) ≥ 2 ^ 63 by lia)]
 exact wpAny_bind (wpAny_mkInt (wpAny_pure ⟨_,rfl,q⟩))
end
section
variable {X:Cx}
theorem xl3 {H:Hp}{kvs:List (List Key×V)}{xs:List (List Key×Addr×Value)}(h:KT H kvs xs):kvs.length=xs.length:=Paired.length h
theorem zy5:W1 X (.builtin "len") (λxs H Q=>∃a kvs,xs=[V.ref a]/\H a=some (.dT kvs)/\Q (.int kvs.length) H):=by
 intro pins s σ H xs us Q I r h
 obtain ⟨a,kvs,rfl,ha,q⟩:=h
 obtain ⟨u,rfl,ru⟩:=L7 r
 cases ru
 obtain ⟨z,ne,ys,rel,dd⟩:=xh4 I.hok ha
 have hl:=xl3 rel
 refine xg8 ne dd (by rw [←hl];rw [sizeLine_eq] at z;lia) ⟨.int kvs.length,H,I.tok _,⟨_,by rw [hl]⟩,q⟩
theorem P4:W1 X (.builtin "isinstance") (λxs H Q=>∃(ea C D:Addr) (b:Bool),xs=[.ref ea,.ref D]/\H ea=some (zo0 ea C)/\zf9 X.K C/\W.kitOne X.K (.ref C) (.ref D)=some b/\Q (.bl b) H):=by
 intro pins s σ H xs us Q I r h
 obtain ⟨ea,C,D,b,rfl,hH,ask,e,q⟩:=h
 obtain ⟨u,w',rfl,rx,rc⟩:=zs3 r
 cases rc
 cases rx
 obtain ⟨⟨o,ho,hc⟩,_⟩:=I.hok ea _ hH
 exact W.kia_one (yu3 ask) I.kIn ⟨o,ho,hc⟩ e (λz=>nomatch z) λtk=>⟨.bl b,H,I.tok tk,rfl,q⟩
end
end L2
namespace Tb.SO
end Tb.SO
namespace L2
open PySem PySem.Spec PyProof.Rows
section
variable {prog:Program}{w:World}{A:Around}{E:Value->Shared->Prop}{s:Shared}
end
section
variable {X:Cx}{pins:List (Addr×Obj)}{σ:St}{H H':Hp}{s:Shared}{h':Heap}
end
section
variable {X:Cx}
end
section
variable {X:Cx}{pins:List (Addr×Obj)}{σ:St}{H:Hp}{s:Shared}
end
section
variable {X:Cx}{tg:Expr}
end
section
variable {prog:Program}{w:World}{A:Around}{E:Value->Shared->Prop}{s:Shared}
end
section
variable {X:Cx}{pins:List (Addr×Obj)}{σ:St}{H:Hp}{s:Shared}
end
section
variable {X:Cx}
end
namespace RepN
open PySem.Builtin
end RepN
section
variable {X:Cx}
end
end L2
namespace L2
open PySem PySem.Spec PyProof.Rows
section
variable {prog:Program}{w:World}{A:Around}{E:Value->Shared->Prop}{s:Shared}
theorem yv2 {it d:Addr}{i n ep:Nat}{es:Array DictEntry}{od:Obj}{en:DictEntry}{Q:Option Value->Shared->Prop}(hI:s.heap.IsKeyIter it d i n ep)(gd:s.heap.get? d=some od)(dd:od.data=.dict es ep)(zn:es.size=n)(gi:es[i]?=some en)
  (q:∀h',h'.IsKeyIter it d (i+1) n ep->Heap.SameBut it s.heap h'->Q (some en.key) { s with heap:=h' }):wpAny (model prog w) A (pyNext (.ref it)) Q E s:=by
 obtain ⟨o,ho,hc,hd⟩:=id hI
 have own:Builtin.Dict_items.ownsTuple "dict_keyiterator"=false:=by decide
 unfold pyNext
 refine wpAny_bind (wpAny_attempt (wpAny_callSpecial?_slot (name:=Str.ofString "__next__") hI.typeIs F.slot_dict_keyiterator_next (wpAny_call_entry F.slot_dict_keyiterator_next hI.typeIs F.entry_dict_keyiterator_next ?_ (F.args_dict_keyiterator_next_1 _))))
 refine wpAny_bind (wpAny_pure (wpAny_bind (wpAny_bind (wpAny_bind (wpAny_typeNameOfWhole_keyiter hI.typeIs (wpAny_pure (wpAny_bind (wpAny_fieldsOf ho hd ?_))))))))
 simp only [own,bM,if_false]
 show wpAny _ _ (if (Value.ref d==Value.none)=true then _ else _) _ _ s
 rw [if_neg (λz:(Value.ref d==Value.none)=true=>by cases z)]
 refine wpAny_bind (wpAny_pure (wpAny_bind (wpAny_dictEntries gd dd ?_)))
 rw [if_neg (by rw [zn];simp)]
 refine wpAny_bind (wpAny_pure (wpAny_bind (wpAny_dictEpoch gd dd ?_)))
 rw [if_neg (by simp)]
 refine wpAny_pure ?_
 simp only [show ¬((i:Int)<0) from bN.mpr (dN i),if_false,bQ,gi]
 refine wpAny_bind (wpAny_bind (wpAny_typeNameOfWhole_keyiter hI.typeIs (wpAny_pure (wpAny_bind (wpAny_isOneOf_keyiter hI.typeIs ?_)))))
 show wpAny _ _ (setField (.ref it) 1 (rawInt ((i:Int)+1)) >>= _) _ _ s
 refine wpAny_bind (wpAny_setField ho hd (by simp) ?_)
 have h2:(s.heap.update it (Obj.mapFields (·.setIfInBounds 1 (rawInt ((i:Int)+1))))).IsKeyIter it d (i+1) n ep :=
  ⟨_,Heap.get?_update_self _ ho (Obj.isFreed_of_fields (Obj.data_mapFields hd _)),(Obj.cls_mapFields ..).trans hc,by rw [Obj.data_mapFields hd];simp [rawInt]⟩
 refine wpAny_bind (wpAny_holding (wpAny_bind (wpAny_isOneOf_keyiter (s:={ s with heap:=s.heap.update it (Obj.mapFields (·.setIfInBounds 1 (rawInt ((i:Int)+1)))) }) h2.typeIs ?_)))
 show wpAny _ _ (pure en.key) _ _ _
 exact wpAny_pure (wpAny_pure ⟨_,rfl,wpAny_pure (q _ h2 (Heap.SameBut.update ..))⟩)
theorem xb7 {it d:Addr}{i n ep:Nat}{es:Array DictEntry}{od:Obj}{Q:Option Value->Shared->Prop}(hh:A.handled=none)(hI:s.heap.IsKeyIter it d i n ep)(gd:s.heap.get? d=some od)(dd:od.data=.dict es ep)(zn:es.size=n)(gi:es[i]?=none)
  (q:∀h',Heap.ExtBut it s.heap h'->Q none { s with heap:=h' }):wpAny (model prog w) A (pyNext (.ref it)) Q E s:=by
 obtain ⟨o,ho,hc,hd⟩:=id hI
 have own:Builtin.Dict_items.ownsTuple "dict_keyiterator"=false:=by decide
 unfold pyNext
 refine wpAny_bind (wpAny_attempt (wpAny_callSpecial?_slot (name:=Str.ofString "__next__") hI.typeIs F.slot_dict_keyiterator_next (wpAny_call_entry F.slot_dict_keyiterator_next hI.typeIs F.entry_dict_keyiterator_next ?_ (F.args_dict_keyiterator_next_1 _))))
 refine wpAny_bind (wpAny_pure (wpAny_bind (wpAny_bind (wpAny_bind (wpAny_typeNameOfWhole_keyiter hI.typeIs (wpAny_pure (wpAny_bind (wpAny_fieldsOf ho hd ?_))))))))
 simp only [own,bM,if_false]
 show wpAny _ _ (if (Value.ref d==Value.none)=true then _ else _) _ _ s
 rw [if_neg (λz:(Value.ref d==Value.none)=true=>by cases z)]
 refine wpAny_bind (wpAny_pure (wpAny_bind (wpAny_dictEntries gd dd ?_)))
 rw [if_neg (by rw [zn];simp)]
 refine wpAny_bind (wpAny_pure (wpAny_bind (wpAny_dictEpoch gd dd ?_)))
 rw [if_neg (by simp)]
 refine wpAny_pure ?_
 simp only [show ¬((i:Int)<0) from bN.mpr (dN i),if_false,bQ,gi]
 refine wpAny_bind (wpAny_bind (wpAny_typeNameOfWhole_keyiter hI.typeIs (wpAny_pure ?_)))
 show wpAny _ _ (setField (.ref it) 0 .none >>= _) _ _ s
 refine wpAny_bind (wpAny_setField ho hd (by simp) ?_)
 show wpAny _ _ (newExc (.type "StopIteration") [] >>= _) _ _ _
 refine wpAny_bind ?_
 simp only [newExc,newTuple]
 refine wpAny_bind (wpAny_newObj_type (wpAny_bind (m:=firstArgMember _ _) (wpAny_of_eq (a:=Value.none) (by first|rfl|(simp only [firstArgMember];rfl)) (wpAny_newObj_type ?_ (by size_fits)))) (by size_fits))
 simp only [raiseNew]
 refine wpAny_bind (wpAny_handled ?_)
 rw [show A.in1.handled=none from hh]
 refine wpAny_bind (wpAny_pure (wpAny_throw ?_))
 refine wpAny_bind (wpAny_isInstance (b:=true) (T:="StopIteration") ⟨_,aA _ rfl,rfl⟩ isSubtype_stop ?_)
 exact wpAny_pure (q _ (((Heap.SameBut.update ..).extBut.push _).push _))
theorem yu0 {d:Addr}{es:Array DictEntry}{od:Obj}{ep:Nat}{Q:Value->Shared->Prop}(lo:(d==sysModules)=false)(gd:s.heap.get? d=some od)(cd:od.cls=.type "dict") (dd:od.data=.dict es ep)
  (q:Q (.ref s.heap.objs.size) { s with heap:=s.heap.push { cls:=.type "dict_keyiterator",data:=.fields #[.ref d,.int 0 0,.int es.size 0,.int ep 0] } }):wpAny (model prog w) A (pyIter (.ref d)) Q E s:=by
 have tD:s.TypeIs (.ref d) "dict":=⟨_,gd,cd⟩
 refine wpAny_pyIter_slot tD F.slot_dict_iter (wpAny_call_entry F.slot_dict_iter tD F.entry_dict_iter ?_ (F.args_dict_iter_1 _))
 unfold Builtin.«dict.__iter__»
 refine wpAny_bind ?_
 unfold Builtin.Dict.dictSlotNone
 refine wpAny_bind (wpAny_notOrdered_dict tD ?_)
 show wpAny _ _ (pure (Value.ref d)) _ _ s
 refine wpAny_pure ?_
 show wpAny _ _ (Builtin.Dict.showsAll d >>= _) _ _ s
 unfold Builtin.Dict.showsAll
 rw [if_neg (λz=>by rw [lo] at z;cases z)]
 refine wpAny_bind (wpAny_pure (wpAny_bind (wpAny_dictEntries gd dd (wpAny_bind (wpAny_dictEpoch gd dd ?_)))))
 refine wpAny_bind (wpAny_newObj_type (wpAny_pure ⟨_,rfl,"dict_keyiterator",_,⟨_,aA _ rfl,rfl⟩,F.slot_dict_keyiterator_next.lookup,?_⟩))
 simpa [rawInt] using q
theorem yq9 {A:Around}(hh:A.handled=none)(I d:Addr)(hne:d≠I){es:Array DictEntry}{od:Obj}{ep:Nat}(dd:od.data=.dict es ep) :
  Walks prog w A I [I,d] [I] es.size (λi v=>∃e,es[i]?=some e/\v=e.key) (λi h=>h.IsKeyIter I d i es.size ep/\h.get? d=some od) where
 sub:=λb hb=>by simp at hb;simp [hb]
 frame:=λ_ _ _ st hk=>⟨let ⟨o,ho,r⟩:=st.1;⟨o,hk I (by simp) o ho,r⟩,hk d (by simp) od st.2⟩
 item:=λi s Q E hi st hQ=>by
  have hx:es[i]?=some es[i]:=by simp [hi]
  refine yv2 st.1 st.2 dd rfl hx λh' hit sb=>?_
  exact hQ _ h' s.toks ⟨_,hx,rfl⟩ ⟨hit,sb.extBut d od hne st.2⟩ λb o hb e=>sb.extBut b o (λh=>hb (by simp [h])) e
 done:=λs Q E st hQ=>xb7 hh st.1 st.2 dd rfl (by simp) λh' he'=>hQ h' s.toks λb o hb e=>he' b o (λh=>hb (by simp [h])) e
 self:=λ_ _ _ _ st hQ=>wpAny_pyIter_keyiter st.1 hQ
theorem yy6 {d:Addr}{es:Array DictEntry}{od:Obj}{ep:Nat}(lo:(d==sysModules)=false)(cd:od.cls=.type "dict") (dd:od.data=.dict es ep) :
  W.KdlSrc prog w "dict" d d es.size (λi v=>∃e,es[i]?=some e/\v=e.key) (λh=>h.get? d=some od) where
 type:=λ_ hm=>⟨_,hm,cd⟩
 there:=λ_ hm=>⟨az hm,az hm⟩
 keep:=λ_ _ hm hk=>hk d (.inl rfl) _ hm
 notList:=by decide
 notTuple:=by decide
 hint:=λ_ _ _ _ hm hq=>W.kdl_hint_dict ⟨_,hm,cd⟩ hq
 iter:=λ_ _ hh hm=>⟨_,_,(λ_ _ hq=>yu0 lo hm cd dd hq),yq9 hh _ d (aO (az hm)) dd,⟨⟨_,aA _ rfl,rfl,rfl⟩,al _ hm⟩⟩
end
theorem xc3 {H:Hp}{kvs:List (List Key×V)}{xs:List (List Key×Addr×Value)}(r:KT H kvs xs):Paired (λ(b:Addr) (k:List Key)=>H b=some (.tup (k.map kV))) (xs.map (·.2.1)) (kvs.map (·.1)):=by
 induction r with
 | nil=>exact .nil
 | cons h _ ih=>exact .cons h.2.1 ih
section
variable {X:Cx}
end
end L2
namespace SortG
open PySem PyProof.Rows
def B2:Bool->Keyed->Array Keyed->Nat->Nat->Nat->StateT SortSt Sem (Option Nat):=sortPriv% PySem.Builtin.gallop
def yv0:Array Keyed->Array Keyed->StateT SortSt Sem (Array Keyed):=sortPriv% PySem.Builtin.mergeLo
def yu9:Array Keyed->Array Keyed->StateT SortSt Sem (Array Keyed):=sortPriv% PySem.Builtin.mergeHi
section
variable {M:Model}{A:Around}{E:Value->Shared->Prop}{s:Shared}{κ:SortKind}{G:Keyed->Prop}{R:Keyed->Int}
structure Cmp (M:Model) (A:Around) (E:Value->Shared->Prop) (s:Shared) (κ:SortKind) (G:Keyed->Prop) (R:Keyed->Int):Prop where
 lt:∀{x y:Keyed} {st:SortSt} {Q:Option Bool->SortSt->Prop},G x->G y->kindOf st=κ->Q (some (decide (R x<R y))) st->wpS M A E s (lt' x y) Q st
abbrev dk:Keyed:=(Value.none,Value.none)
theorem n5 {arr:Array Keyed}{i:Nat}{Q:Keyed->SortSt->Prop}{st:SortSt}(hi:i<arr.size)(h:Q (arr.getD i dk) st):wpS M A E s (elem' arr i) Q st:=by
 rw [elem'_eq,show arr[i]?=some (arr.getD i dk) by simp [Array.getD,hi]]
 exact wpS_pure h
def Pre (B:Nat->Bool)(n k:Nat):Prop:=k<=n/\∀i,i<n->(B i=true↔i<k)
theorem Pre.no {f:Nat->Int}{x:Int}{g:Nat->Bool}{n k:Nat}(h:Pre (λi=>if (false:Bool)=true then g i else !decide (x<f i)) n k):k<=n/\∀i,i<n->(f i<=x↔i<k) :=
 ⟨h.1,λi hi=>by have:=h.2 i hi;simpa using this⟩
theorem Pre.yes {f:Nat->Int}{x:Int}{g:Nat->Bool}{n k:Nat}(h:Pre (λi=>if (true:Bool)=true then decide (f i<x) else g i) n k):k<=n/\∀i,i<n->(f i<x↔i<k) :=
 ⟨h.1,λi hi=>by have:=h.2 i hi;simpa using this⟩
theorem R9 (c:Cmp M A E s κ G R){left:Bool}{key:Keyed}{arr:Array Keyed}{base n hint:Nat}{st:SortSt}{Q:Option Nat->SortSt->Prop}(hk:kindOf st=κ)(hG:∀i,i<n->G (arr.getD (base+i) dk))(hkey:G key)(hsz:base+n<=arr.size)(hh:hint<n)
  (up:∀i j,i<=j->j<n->R (arr.getD (base+i) dk)<=R (arr.getD (base+j) dk))
  (h:∀k,Pre (λi=>if left then decide (R (arr.getD (base+i) dk)<R key) else !decide (R key<R (arr.getD (base+i) dk))) n k->Q (some k) st):wpS M A E s (B2 left key arr base n hint) Q st:=by
 obtain ⟨B,eB⟩:∃B:Nat->Bool,B=λi=>if left then decide (R (arr.getD (base+i) dk)<R key) else !decide (R key<R (arr.getD (base+i) dk)):=⟨_,rfl⟩
 rw [←eB] at h
 have mono:∀i j,i<=j->j<n->B j=true->B i=true:=λi j hij hj hb=>by
  rw [eB] at hb ⊢
  have:=up i j hij hj
  cases left with
  | true =>
   simp only [if_true,decide_eq_true_eq] at hb ⊢
   lia
  | false =>
   simp only [bM,if_false,Bool.not_eq_true',decide_eq_false_iff_not] at hb ⊢
   lia
 have beyond:∀(i:Nat) (Q':Option Bool->SortSt->Prop),i<n->Q' (some (B i)) st->wpS M A E s (elem' arr (base+i) >>= λx=>if left=true then lt' x key else (lt' key x >>= λr=>pure (r.map (λx=>!x)))) Q' st:=λi Q' hi hq=>by
  refine wpS_bind (n5 (by lia) ?_)
  have gi:=hG i hi
  rw [eB] at hq
  cases left with
  | true=>exact c.lt gi hkey hk hq
  | false=>exact wpS_bind (c.lt hkey gi hk (wpS_pure hq))
 have last:∀(lo hi:Nat),lo<=hi->hi<=n->(∀i,i<lo->B i=true)->(∀i,hi<=i->i<n->B i=false)->∀(f:Option (Option Nat)×Nat×Nat->StateT SortSt Sem (Option Nat)) (g:Nat->Option (Option Nat)×Nat×Nat->StateT SortSt Sem (ForInStep (Option (Option Nat)×Nat×Nat))),
   (∀l k,f (none,l,k)=pure (some k))->(∀x l k,l ≥ k->g x (none,l,k)=pure (.done (none,l,k)))->(∀x l k,l<k->k<=n->∀Q',Q' (.yield (if B (l+(k-l) / 2)=true then (none,l+(k-l) / 2+1,k) else (none,l,l+(k-l) / 2))) st->wpS M A E s (g x (none,l,k)) Q' st) ->
   wpS M A E s (forIn [:n] (none,lo,hi) g >>= f) Q st:=λlo hi h1 h2 h3 h4 f g hf hg1 hg2=>by
  refine wpS_bind (wpS_forRange (I:=λj q st'=>∃l k,q=(none,l,k)/\st'=st/\l<=k/\k<=n/\k-l<=n-j/\(∀i,i<l->B i=true)/\(∀i,k<=i->i<n->B i=false)) ?_ ?_ ⟨lo,hi,rfl,rfl,h1,h2,by lia,h3,h4⟩)
  ·rintro j q st' _ hj ⟨l,k,rfl,rfl,b1,b2,b3,b4,b5⟩
   by_cases hlk:l ≥ k
   ·rw [hg1 _ _ _ hlk]
    refine wpS_pure ?_
    dsimp only
    rw [hf]
    exact wpS_pure (h k ⟨b2,λi hi=>⟨λhb=>Nat.lt_of_not_le λz=>(by rw [b5 i z hi] at hb;cases hb),λhk'=>b4 i (by lia)⟩⟩)
   ·refine hg2 _ _ _ (by lia) b2 _ ?_
    cases e:B (l+(k-l) / 2) with
    | true=>exact ⟨_,_,rfl,rfl,by lia,b2,by lia,λi hi=>mono i (l+(k-l) / 2) (by lia) (by lia) e,b5⟩
    | false =>
     refine ⟨_,_,rfl,rfl,by lia,by lia,by lia,b4,λi hi hin=>?_⟩
     cases e':B i with
     | false=>rfl
     | true=>rw [mono (l+(k-l) / 2) i hi hin e'] at e;cases e
  ·rintro q st' ⟨l,k,rfl,rfl,b1,b2,b3,b4,b5⟩
   rw [hf]
   exact wpS_pure (h k ⟨b2,λi hi=>⟨λhb=>Nat.lt_of_not_le λz=>(by rw [b5 i z hi] at hb;cases hb),λhk'=>b4 i (by lia)⟩⟩)
 refine wpS_bind (beyond hint _ hh ?_)
 dsimp only
 cases eh:B hint with
 | true =>
  rw [if_pos rfl]
  refine wpS_bind (wpS_mono (Q:=λq st'=>∃l o,q=(none,l,o)/\st'=st/\l<o/\B (hint+l)=true/\hint+l<n/\(o ≥ n-hint∨B (hint+o)=false)) (wpS_forRange (I:=λj q st'=>∃l o,q=(none,l,o)/\st'=st/\j+1<=o/\l<o/\B (hint+l)=true/\hint+l<n) ?_ ?_ ⟨0,1,rfl,rfl,by lia,by lia,by simpa using eh,by lia⟩) ?_)
  ·rintro j q st' _ hj ⟨l,o,rfl,rfl,b1,b2,b3,b4⟩
   dsimp only
   by_cases ho:o ≥ n-hint
   ·rw [if_pos ho]
    exact wpS_pure ⟨_,_,rfl,rfl,b2,b3,b4,.inl ho⟩
   ·rw [if_neg ho]
    refine wpS_bind (beyond _ _ (by lia) ?_)
    dsimp only
    cases eo:B (hint+o) with
    | true =>
     rw [if_neg (by simp)]
     exact wpS_pure ⟨_,_,rfl,rfl,by lia,by lia,eo,by lia⟩
    | false =>
     rw [if_pos (by rfl)]
     exact wpS_pure ⟨_,_,rfl,rfl,b2,b3,b4,.inr eo⟩
  ·rintro q st' ⟨l,o,rfl,rfl,b1,b2,b3,b4⟩
   exact ⟨_,_,rfl,rfl,b2,b3,b4,.inl (by lia)⟩
  ·rintro q st' ⟨l,o,rfl,rfl,b2,b3,b4,b5⟩
   dsimp only
   refine last _ _ (by lia) (by lia) (λi hi=>mono i (hint+l) (by lia) b4 b3) (λi hi hin=>?_) _ _ (λl k=>rfl) (λx l k hlk=>if_pos hlk) (λx l k hlk hk' Q' hq=>?_)
   ·rcases b5 with b5|b5
    ·lia
    ·cases e:B i with
     | false=>rfl
     | true=>rw [mono (hint+o) i (by lia) hin e] at b5;cases b5
   ·dsimp only
    rw [if_neg (by lia)]
    refine wpS_bind (beyond _ _ (by lia) ?_)
    dsimp only
    cases e:B (l+(k-l) / 2) with
    | true=>rw [e] at hq;rw [if_pos rfl] at hq ⊢;exact wpS_pure hq
    | false=>rw [e] at hq;rw [if_neg aE] at hq ⊢;exact wpS_pure hq
 | false =>
  rw [if_neg aE]
  refine wpS_bind (wpS_mono (Q:=λq st'=>∃l o,q=(none,l,o)/\st'=st/\l<o/\l<=hint/\B (hint-l)=false/\(o ≥ hint+1∨B (hint-o)=true)) (wpS_forRange (I:=λj q st'=>∃l o,q=(none,l,o)/\st'=st/\j+1<=o/\l<o/\l<=hint/\B (hint-l)=false) ?_ ?_ ⟨0,1,rfl,rfl,by lia,by lia,by lia,by simpa using eh⟩) ?_)
  ·rintro j q st' _ hj ⟨l,o,rfl,rfl,b1,b2,b3,b4⟩
   dsimp only
   by_cases ho:o ≥ hint+1
   ·rw [if_pos ho]
    exact wpS_pure ⟨_,_,rfl,rfl,b2,b3,b4,.inl ho⟩
   ·rw [if_neg ho]
    refine wpS_bind (beyond _ _ (by lia) ?_)
    dsimp only
    cases eo:B (hint-o) with
    | true =>
     rw [if_pos rfl]
     exact wpS_pure ⟨_,_,rfl,rfl,b2,b3,b4,.inr eo⟩
    | false =>
     rw [if_neg aE]
     exact wpS_pure ⟨_,_,rfl,rfl,by lia,by lia,by lia,eo⟩
  ·rintro q st' ⟨l,o,rfl,rfl,b1,b2,b3,b4⟩
   exact ⟨_,_,rfl,rfl,b2,b3,b4,.inl (by lia)⟩
  ·rintro q st' ⟨l,o,rfl,rfl,b2,b3,b4,b5⟩
   dsimp only
   refine last _ _ (by lia) (by lia) (λi hi=>?_) (λi hi hin=>?_) _ _ (λl k=>rfl) (λx l k hlk=>if_pos hlk) (λx l k hlk hk' Q' hq=>?_)
   ·rcases b5 with b5|b5
    ·lia
    ·exact mono i (hint-o) (by lia) (by lia) b5
   ·cases e:B i with
    | false=>rfl
    | true=>rw [mono (hint-l) i (by lia) hin e] at b4;cases b4
   ·dsimp only
    rw [if_neg (by lia)]
    refine wpS_bind (beyond _ _ (by lia) ?_)
    dsimp only
    cases e:B (l+(k-l) / 2) with
    | true=>rw [e] at hq;rw [if_pos rfl] at hq ⊢;exact wpS_pure hq
    | false=>rw [e] at hq;rw [if_neg aE] at hq ⊢;exact wpS_pure hq
def SL (R:Keyed->Int)(l:List Keyed):Prop:=l.Pairwise λx y=>R x<=R y
structure Jn (R:Keyed->Int) (tot out ra rb:List Keyed):Prop where
 perm:(out++ra++rb).Perm tot
 so:SL R out
 sa:SL R ra
 sb:SL R rb
 la:∀x∈out,∀y∈ra,R x<=R y
 lb:∀x∈out,∀y∈rb,R x<=R y
theorem Jn.moveA {tot out ch ra rb:List Keyed}(j:Jn R tot out (ch++ra) rb)(h:∀x∈ch,∀y∈rb,R x<=R y):Jn R tot (out++ch) ra rb:=by
 have sa:=List.pairwise_append.mp j.sa
 refine ⟨by have:=j.perm;simpa [aY] using this,List.pairwise_append.mpr ⟨j.so,sa.1,λx hx y hy=>j.la x hx y (aJ _ hy)⟩,sa.2.1,j.sb,λx hx y hy=>?_,λx hx y hy=>?_⟩
 ·rcases aD.mp hx with z|z
  ·exact j.la x z y (aK _ hy)
  ·exact sa.2.2 x z y hy
 ·rcases aD.mp hx with z|z
  ·exact j.lb x z y hy
  ·exact h x z y hy
theorem Jn.swap {tot out ra rb:List Keyed}(j:Jn R tot out ra rb):Jn R tot out rb ra:=⟨by
 refine List.Perm.trans ?_ j.perm
 rw [aY,aY]
 exact List.Perm.append_left _ List.perm_append_comm,j.so,j.sb,j.sa,j.lb,j.la⟩
theorem Jn.fin {tot out ra rb:List Keyed}(j:Jn R tot out ra rb)(h:∀x∈ra,∀y∈rb,R x<=R y):(out++ra++rb).Perm tot/\SL R (out++ra++rb) :=
 ⟨j.perm,List.pairwise_append.mpr ⟨List.pairwise_append.mpr ⟨j.so,j.sa,j.la⟩,j.sb,λx hx y hy=>by
  rcases aD.mp hx with z|z
  ·exact j.lb x z y hy
  ·exact h x z y hy⟩⟩
structure Sg (st st':SortSt):Prop where
 k:kindOf st'=kindOf st
 a:arrOf st'=arrOf st
 p:pendingOf st'=pendingOf st
 f:failedOf st'=failedOf st
theorem yf4 {α:Type}{p:Prop}[Decidable p]{x y:StateT SortSt Sem α}{Q:α->SortSt->Prop}{st:SortSt}(h1:wpS M A E s x Q st)(h2:wpS M A E s y Q st):wpS M A E s (if p then x else y) Q st:=by
 split
 ·exact h1
 ·exact h2
theorem F7 {Q:Unit->SortSt->Prop}{st:SortSt}{x:String}(h:Q () st):wpS M A E s (liftM (rule x):StateT SortSt Sem Unit) Q st:=wpS_lift (wpAny_rule ⟨rfl,h⟩)
section
variable {a:Array Keyed}{i k:Nat}
theorem zj3 (h:i<a.size):a.toList.drop i=a.getD i dk::a.toList.drop (i+1):=by
 rw [cn (by simpa using h)]
 simp [Array.getD,h]
theorem B1:(a.extract i).toList=a.toList.drop i:=by
 rw [Array.toList_extract]
 simp [List.extract]
 rw [bA (by simp)]
theorem zj7:(a.extract i (i+k)).toList=(a.toList.drop i).take k:=by
 rw [Array.toList_extract]
 simp [List.extract]
theorem zb4 {x:Keyed}(hx:x∈(a.toList.drop i).take k):∃j,j<k/\i+j<a.size/\x=a.getD (i+j) dk:=by
 obtain ⟨j,hj,e⟩:=bW.mp hx
 rw [bj,bU,aP] at hj
 refine ⟨j,by lia,by lia,?_⟩
 rw [fj,List.getElem_drop] at e
 rw [←e]
 simp [Array.getD,show i+j<a.size by lia]
theorem D2 (i k:Nat):a.toList.drop i=(a.toList.drop i).take k++a.toList.drop (i+k):=by
 rw [←fy,bK]
theorem yt1 (h:i+k<=a.size):(a.extract i (i+k)).size=k:=by
 rw [Array.size_extract]
 lia
theorem p6 (h:i<a.size):a.getD i dk∈a.toList:=by
 simp [Array.getD,h]
theorem SL.get {R:Keyed->Int}(u:SL R a.toList){i j:Nat}(hij:i<=j)(hj:j<a.size):R (a.getD i dk)<=R (a.getD j dk):=by
 rcases cX i j with h|h
 ·have:=bI.mp u i j (by simp;lia) (by simpa using hj) h
  simpa [Array.getD,hj,show i<a.size by lia] using this
 ·rw [show i=j by lia]
  exact dh _
theorem ys6 {x:Keyed}(hx:x∈a.toList.drop i):∃j,i<=j/\j<a.size/\x=a.getD j dk:=by
 obtain ⟨j,hj,e⟩:=bW.mp hx
 rw [bU,aP] at hj
 refine ⟨i+j,by lia,by lia,?_⟩
 rw [List.getElem_drop] at e
 rw [←e]
 simp [Array.getD,show i+j<a.size by lia]
end
section
variable {α:Type}{x y:StateT SortSt Sem α}{Q:α->SortSt->Prop}{st:SortSt}
theorem O4 {p:Prop}[Decidable p](h1:p->wpS M A E s x Q st)(h2:¬p->wpS M A E s y Q st):wpS M A E s (if p then x else y) Q st:=by
 by_cases h:p
 ·rw [if_pos h];exact h1 h
 ·rw [if_neg h];exact h2 h
theorem W4 {m n:Nat}(h1:m=n->wpS M A E s x Q st)(h2:m≠n->wpS M A E s y Q st):wpS M A E s (if (m==n)=true then x else y) Q st:=O4 (λh=>h1 (beq_iff_eq.mp h)) (λh=>h2 λz=>h (beq_iff_eq.mpr z))
theorem zz7 {p:Prop}[Decidable p](h1:p->wpS M A E s x Q st)(h2:¬p->wpS M A E s y Q st):wpS M A E s (if decide p=true then x else y) Q st:=O4 (λh=>h1 (of_decide_eq_true h)) (λh=>h2 λz=>h (decide_eq_true z))
theorem yu1 {β:Type}{f:β->StateT SortSt Sem α}{p:Prop}[Decidable p]{x y:β}(h:∀z,wpS M A E s (f z) Q st):wpS M A E s (if p then f x else f y) Q st:=yf4 (h _) (h _)
theorem zu2 {β γ:Type}{f:β->γ->StateT SortSt Sem α}(P:β->γ->Prop)(h:∀b c,P b c->wpS M A E s (f b c) Q st)(k:(∀b c,P b c->wpS M A E s (f b c) Q st)->wpS M A E s x Q st):wpS M A E s x Q st:=k h
end
section
variable {a:Array Keyed}{ia:Nat}{key:Keyed}{st:SortSt}{Q:Option Nat->SortSt->Prop}
theorem xu0 (c:Cmp M A E s κ G R)(hk:kindOf st=κ)(ga:∀x∈a.toList,G x)(hkey:G key)(ua:SL R a.toList)(hia:ia<a.size)(h:∀k,ia+k<=a.size->(∀i,i<k->R (a.getD (ia+i) dk)<=R key)->(ia+k<a.size->R key<R (a.getD (ia+k) dk))->Q (some k) st):wpS M A E s (B2 false key a ia (a.size-ia) 0) Q st:=by
 refine R9 c hk (λi hi=>ga _ (p6 (by lia))) hkey (by lia) (by lia) (λi j hij hj=>ua.get (by lia) (by lia)) λk hp=>?_
 obtain ⟨h1,h2⟩:=hp.no
 exact h k (by lia) (λi hi=>(h2 i (by lia)).mpr hi) λz=>Int.not_le.mp λz'=>bh _ ((h2 k (by lia)).mp z')
theorem xt9 (c:Cmp M A E s κ G R)(hk:kindOf st=κ)(ga:∀x∈a.toList,G x)(hkey:G key)(ua:SL R a.toList)(hia:ia<a.size)(h:∀k,ia+k<=a.size->(∀i,i<k->R (a.getD (ia+i) dk)<R key)->(ia+k<a.size->R key<=R (a.getD (ia+k) dk))->Q (some k) st):wpS M A E s (B2 true key a ia (a.size-ia) 0) Q st:=by
 refine R9 c hk (λi hi=>ga _ (p6 (by lia))) hkey (by lia) (by lia) (λi j hij hj=>ua.get (by lia) (by lia)) λk hp=>?_
 obtain ⟨h1,h2⟩:=hp.yes
 exact h k (by lia) (λi hi=>(h2 i (by lia)).mpr hi) λz=>bN.mp λz'=>bh _ ((h2 k (by lia)).mp z')
end
structure LoI (R:Keyed->Int) (tot:List Keyed) (a b:Array Keyed) (n:Nat) (out:Array Keyed) (ia ib:Nat):Prop where
 jn:Jn R tot out.toList (a.toList.drop ia) (b.toList.drop ib)
 ua:SL R a.toList
 ub:SL R b.toList
 sz:out.size=ia+ib
 hn:n<=out.size
section
variable {a b out:Array Keyed}{n n' ia ib k:Nat}{tot:List Keyed}
theorem LoI.weak (h:LoI R tot a b n out ia ib)(w:n'<=n):LoI R tot a b n' out ia ib:=⟨h.jn,h.ua,h.ub,h.sz,aQ w h.hn⟩
theorem LoI.swap (h:LoI R tot a b n out ia ib):LoI R tot b a n out ib ia:=⟨h.jn.swap,h.ub,h.ua,h.sz.trans (fH _ _),h.hn⟩
theorem low {z:Int}(u:SL R a.toList)(hz:z<=R (a.getD ia dk)):∀x∈a.toList.drop ia,z<=R x:=λx hx=>by
 obtain ⟨j,h1,h2,rfl⟩:=ys6 hx
 exact ck hz (u.get h1 h2)
theorem LoI.pushA (h:LoI R tot a b n out ia ib)(ha:ia<a.size)(hr:R (a.getD ia dk)<=R (b.getD ib dk)):LoI R tot a b (n+1) (out.push (a.getD ia dk)) (ia+1) ib:=by
 have j:=h.jn
 rw [zj3 ha] at j
 refine ⟨?_,h.ua,h.ub,by rw [Array.size_push,h.sz,Nat.add_right_comm],by rw [Array.size_push];exact Nat.succ_le_succ h.hn⟩
 rw [Array.toList_push]
 exact Jn.moveA (ch:=[a.getD ia dk]) j λx hx y hy=>by rw [ao.mp hx];exact low h.ub hr y hy
theorem LoI.extA (h:LoI R tot a b n out ia ib)(hk:ia+k<=a.size)(hr:∀i,i<k->R (a.getD (ia+i) dk)<=R (b.getD ib dk)):LoI R tot a b n (out++a.extract ia (ia+k)) (ia+k) ib:=by
 have j:=h.jn
 rw [D2 ia k] at j
 refine ⟨?_,h.ua,h.ub,by rw [Array.size_append,yt1 hk,h.sz,Nat.add_right_comm],by rw [Array.size_append];exact aQ h.hn (cw _ _)⟩
 rw [Array.toList_append,zj7]
 refine j.moveA λz hz=>?_
 obtain ⟨i,h1,h2,rfl⟩:=zb4 hz
 exact low h.ub (hr i h1)
theorem LoI.fin1 (h:LoI R tot a b n out ia ib)(e:ib=b.size):(out++a.extract ia++b.extract ib).toList.Perm tot/\SL R (out++a.extract ia++b.extract ib).toList:=by
 rw [Array.toList_append,Array.toList_append,B1,B1]
 exact h.jn.fin (λx hx y hy=>by rw [e,List.drop_eq_nil_of_le (by simp)] at hy;cases hy)
theorem LoI.fin2 (h:LoI R tot a b n out ia ib)(e:ia+1=a.size)(hl:∀x∈b.toList,R x<R (a.getD (a.size-1) dk)):(out++b.extract ib++a.extract ia).toList.Perm tot/\SL R (out++b.extract ib++a.extract ia).toList:=by
 rw [Array.toList_append,Array.toList_append,B1,B1]
 refine h.jn.swap.fin (λx hx y hy=>?_)
 rw [zj3 (by lia),List.drop_eq_nil_of_le (by simp;lia)] at hy
 rw [ao.mp hy,show ia=a.size-1 by lia]
 exact bH (hl x (eV hx))
end
theorem yg6 (c:Cmp M A E s κ G R){a b:Array Keyed}{st:SortSt}{Q:Array Keyed->SortSt->Prop}(hk:kindOf st=κ)(ga:∀x∈a.toList,G x)(gb:∀x∈b.toList,G x)(ua:SL R a.toList)(ub:SL R b.toList)(na:0<a.size)(nb:0<b.size)
  (hf:∀x∈a.toList,R (b.getD 0 dk)<=R x) (hl:∀x∈b.toList,R x<R (a.getD (a.size-1) dk))
  (h:∀(out:Array Keyed) st',Sg st st'->out.toList.Perm (a.toList++b.toList)->SL R out.toList->Q out st'):wpS M A E s (yv0 a b) Q st:=by
 refine wpS_bind (F7 (wpS_bind (n5 nb ?_)))
 obtain ⟨tot,etot⟩:∃tot,tot=a.toList++b.toList:=⟨_,rfl⟩
 rw [←etot] at h
 have j0:LoI R tot a b 1 #[b.getD 0 dk] 0 1:=by
  refine LoI.swap (LoI.pushA (out:=#[]) (n:=0) (ia:=0) (ib:=0) ⟨⟨?_,.nil,ub,ua,λ_ h=>(by cases h),λ_ h=>(by cases h)⟩,ub,ua,rfl,aR _⟩ nb (hf _ (p6 na)))
  rw [etot]
  exact List.perm_append_comm
 have fin1:∀{st':SortSt} {out:Array Keyed} {n ia ib:Nat},Sg st st'->LoI R tot a b n out ia ib->ib=b.size->Q (out++a.extract ia++b.extract ib) st':=λsg j e=>h _ _ sg (j.fin1 e).1 (j.fin1 e).2
 have fin2:∀{st':SortSt} {out:Array Keyed} {n ia ib:Nat},Sg st st'->LoI R tot a b n out ia ib->ia+1=a.size->Q (out++b.extract ib++a.extract ia) st':=λsg j e=>h _ _ sg (j.fin2 e hl).1 (j.fin2 e hl).2
 have sg0:Sg st st:=⟨rfl,rfl,rfl,rfl⟩
 refine W4 (λh1=>wpS_pure (fin1 sg0 j0 h1)) λh1=>W4 (λh2=>wpS_pure (fin2 sg0 j0 h2)) λh2=>wpS_bind (wpS_get ?_)
 have lt1:∀{i n:Nat},i+1<n->i<n:=Nat.lt_of_succ_lt
 have lt2:∀{i n:Nat},i<n->i+1≠n->i+1<n:=cH
 refine wpS_bind (wpS_mono (Q:=λq st'=>∃r,q.1=some r/\Q r st') (wpS_forRange (I:=λj q st'=>∃out ia ib mg,q=(none,out,ia,ib,mg)/\Sg st st'/\LoI R tot a b (j+1) out ia ib/\ia+1<a.size/\ib<b.size) ?_ ?_ ⟨_,0,1,_,rfl,sg0,j0,lt2 na h2,lt2 nb h1⟩) ?_)
 ·rintro j q st' _ hj ⟨out,ia,ib,mg,rfl,sg,jn,hia,hib⟩
  dsimp -zeta only
  have hk':kindOf st'=κ:=sg.k.trans hk
  refine wpS_bind (wpS_mono (Q:=λq st2=>st2=st'/\((∃r,q.1=some r/\Q r st')∨∃out ia ib x y,q=(none,out,ia,ib,x,y)/\LoI R tot a b (j+2) out ia ib/\ia+1<a.size/\ib<b.size))
   (wpS_forRange (I:=λi q st2=>st2=st'/\∃out ia ib x y,q=(none,out,ia,ib,x,y)/\LoI R tot a b (j+1+(if i=0 then 0 else 1)) out ia ib/\ia+1<a.size/\ib<b.size) ?_ ?_ ⟨rfl,out,ia,ib,0,0,rfl,jn,hia,hib⟩) ?_)
  ·rintro i q st2 _ hi ⟨rfl,out,ia,ib,x,y,rfl,jn,hia,hib⟩
   dsimp only
   have w1:j+2<=j+1+(if i=0 then 0 else 1)+1:=Nat.succ_le_succ (cw _ _)
   have w2:j+1+(if i+1=0 then 0 else 1)<=j+1+(if i=0 then 0 else 1)+1:=by rw [if_neg (Nat.succ_ne_zero i)];exact w1
   refine wpS_bind (n5 hib (wpS_bind (n5 (lt1 hia) (wpS_bind (c.lt (gb _ (p6 hib)) (ga _ (p6 (lt1 hia))) hk' ?_)))))
   refine zz7 (λhlt=>wpS_bind (n5 hib ?_)) λhlt=>wpS_bind (n5 (lt1 hia) ?_)
   ·have jn':=(jn.swap.pushA hib (bH hlt)).swap
    exact W4 (λe1=>wpS_pure ⟨rfl,.inl ⟨_,rfl,fin1 sg jn' e1⟩⟩) λe1=>O4 (λe2=>wpS_pure ⟨rfl,.inr ⟨_,_,_,_,_,rfl,jn'.weak w1,hia,lt2 hib e1⟩⟩) λe2=>wpS_pure ⟨rfl,_,_,_,_,_,rfl,jn'.weak w2,hia,lt2 hib e1⟩
   ·have jn':=jn.pushA (lt1 hia) (bN.mp hlt)
    exact W4 (λe1=>wpS_pure ⟨rfl,.inl ⟨_,rfl,fin2 sg jn' e1⟩⟩) λe1=>O4 (λe2=>wpS_pure ⟨rfl,.inr ⟨_,_,_,_,_,rfl,jn'.weak w1,lt2 hia e1,hib⟩⟩) λe2=>wpS_pure ⟨rfl,_,_,_,_,_,rfl,jn'.weak w2,lt2 hia e1,hib⟩
  ·rintro q st2 ⟨rfl,out,ia,ib,x,y,rfl,jn,hia,hib⟩
   rw [if_neg (by lia)] at jn
   exact ⟨rfl,.inr ⟨_,_,_,_,_,rfl,jn,hia,hib⟩⟩
  rintro q st2 ⟨rfl,(⟨r,e,hq⟩|⟨out,ia,ib,x,y,rfl,jn,hia,hib⟩)⟩
  ·obtain ⟨q1,q2⟩:=q
   cases e
   exact wpS_pure ⟨_,rfl,hq⟩
  refine wpS_bind (F7 ?_)
  refine wpS_bind (wpS_mono (Q:=λq st2=>Sg st st2/\((∃r,q.1=some r/\Q r st2)∨∃out ia ib m x y,q=(none,out,ia,ib,m,x,y)/\LoI R tot a b (j+2) out ia ib/\ia+1<a.size/\ib<b.size))
   (wpS_forRange (I:=λi q st2=>Sg st st2/\∃out ia ib m x y,q=(none,out,ia,ib,m,x,y)/\LoI R tot a b (j+2) out ia ib/\ia+1<a.size/\ib<b.size) ?_ ?_ ⟨sg,out,ia,ib,_,_,_,rfl,jn,hia,hib⟩) ?_)
  ·rintro i q st2 _ hi ⟨sg2,out,ia,ib,m,x,y,rfl,jn,hia,hib⟩
   dsimp -zeta only
   extract_lets -underBinder +onlyGivenNames s1 o1 s2 i1 s3 b1 s4 m1 s5 ac bc jp
   refine yu1 (f:=jp ()) (x:=m-1) (y:=m) λm2=>?_
   dsimp -zeta only [jp,s1,o1,s2,i1,s3,b1,s4,m1,s5,ac,bc]
   clear jp ac bc s5 m1 s4 b1 s3 i1 s2 o1 s1
   have sg3:∀g:Nat,Sg st (SortSt.mk' (kindOf st2) (arrOf st2) (pendingOf st2) g (failedOf st2)):=λg=>⟨sg2.k,sg2.a,sg2.p,sg2.f⟩
   have hk2:=sg2.k.trans hk
   refine wpS_bind (wpS_modify (wpS_bind (n5 hib (wpS_bind (xu0 c hk2 ga (gb _ (p6 hib)) ua (lt1 hia) λk hk1 hle hlt=>?_)))))
   dsimp -zeta only
   extract_lets -underBinder +onlyGivenNames ac jp
   refine zu2 (f:=jp ()) (λo1 i1=>LoI R tot a b (j+2) o1 i1 ib/\i1+1<a.size/\R (b.getD ib dk)<R (a.getD i1 dk)) ?_ λJ=>?_
   ·rintro out1 ia1 ⟨jn1,hi1,hlt1⟩
    dsimp -zeta only [jp]
    clear jp
    have jn2:=(jn1.swap.pushA hib (bH hlt1)).swap
    refine wpS_bind (n5 hib ?_)
    refine W4 (λe2=>wpS_pure ⟨sg3 _,.inl ⟨_,rfl,fin1 (sg3 _) jn2 e2⟩⟩) λe2=>?_
    refine wpS_bind (n5 (lt1 hi1) (wpS_bind (xt9 c hk2 gb (ga _ (p6 (lt1 hi1))) ub (lt2 hib e2) λk1 hk3 hle3 hlt3=>?_)))
    dsimp -zeta only
    extract_lets -underBinder +onlyGivenNames bc jp
    refine zu2 (f:=jp ()) (λo3 i3=>LoI R tot a b (j+2) o3 ia1 i3/\i3<b.size/\R (a.getD ia1 dk)<=R (b.getD i3 dk)) ?_ λJ=>?_
    ·rintro out3 ib3 ⟨jn3,hib3,hge⟩
     dsimp -zeta only [jp]
     clear jp
     have jn4:=jn3.pushA (lt1 hi1) hge
     refine wpS_bind (n5 (lt1 hi1) ?_)
     refine W4 (λe5=>wpS_pure ⟨sg3 _,.inl ⟨_,rfl,fin2 (sg3 _) jn4 e5⟩⟩) λe5=>?_
     have jn5:=jn4.weak (bX _)
     exact yf4 (wpS_pure ⟨sg3 _,.inr ⟨_,_,_,_,_,_,rfl,jn5,lt2 hi1 e5,hib3⟩⟩) (wpS_pure ⟨sg3 _,_,_,_,_,_,_,rfl,jn5,lt2 hi1 e5,hib3⟩)
    ·clear_value jp
     have jn2':=jn2.weak (bX _)
     refine O4 (λe=>?_) λe=>?_
     ·have jn3:=(jn2'.swap.extA hk3 λi hi=>bH (hle3 i hi)).swap
      exact W4 (λe4=>wpS_pure ⟨sg3 _,.inl ⟨_,rfl,fin1 (sg3 _) jn3 e4⟩⟩) λe4=>J _ _ ⟨jn3,cH hk3 e4,hlt3 (cH hk3 e4)⟩
     ·obtain rfl:k1=0:=Nat.eq_zero_of_not_pos e
      exact J _ _ ⟨jn2',lt2 hib e2,hlt3 (lt2 hib e2)⟩
   ·clear_value jp
    have hkl:ia+k<a.size:=Nat.lt_of_not_le λz=>by
     have h1:=hle (a.size-1-ia) (by lia)
     rw [show ia+(a.size-1-ia)=a.size-1 by lia] at h1
     exact absurd (hl _ (p6 hib)) (bN.mpr h1)
    refine O4 (λe=>?_) λe=>?_
    ·have jn1:=jn.extA hk1 hle
     exact W4 (λe1=>wpS_pure ⟨sg3 _,.inl ⟨_,rfl,fin2 (sg3 _) jn1 e1⟩⟩) λe1=>W4 (λe2=>absurd e2 (aO hkl)) λ_=>J _ _ ⟨jn1,lt2 hkl e1,hlt hkl⟩
    ·obtain rfl:k=0:=Nat.eq_zero_of_not_pos e
     exact J _ _ ⟨jn,hia,hlt hkl⟩
  ·rintro q st2 ⟨sg2,out,ia,ib,m,x,y,rfl,jn,hia,hib⟩
   exact ⟨sg2,.inr ⟨_,_,_,_,_,_,rfl,jn,hia,hib⟩⟩
  ·rintro q st2 ⟨sg2,(⟨r,e,hq⟩|⟨out,ia,ib,m,x,y,rfl,jn,hia,hib⟩)⟩
   ·obtain ⟨q1,q2⟩:=q
    cases e
    exact wpS_pure ⟨_,rfl,hq⟩
   ·exact wpS_bind (wpS_modify (wpS_pure ⟨_,_,_,_,rfl,⟨sg2.k,sg2.a,sg2.p,sg2.f⟩,jn,hia,hib⟩))
 ·rintro q st' ⟨out,ia,ib,mg,rfl,sg,jn,hia,hib⟩
  have:=jn.hn
  have:=jn.sz
  lia
 ·rintro q st' ⟨r,e,hq⟩
  obtain ⟨q1,q2⟩:=q
  cases e
  exact wpS_pure hq
section
variable {a:Array Keyed}{i k:Nat}
def Rv (a:Array Keyed)(i:Nat):List Keyed:=(a.toList.take i).reverse
theorem xf6 (h:i<a.size):Rv a (i+1)=a.getD i dk::Rv a i:=by
 unfold Rv
 rw [aT,List.reverse_append,aa (by simpa using h)]
 simp [Array.getD,h]
theorem yx6 (h0:0<i)(h:i<=a.size):Rv a i=a.getD (i-1) dk::Rv a (i-1):=by
 have:=xf6 (a:=a) (i:=i-1) (by lia)
 rwa [show i-1+1=i by lia] at this
theorem yx5 {x:Keyed}(hx:x∈(a.extract k i).reverse.toList)(hi:i<=a.size):∃j,k<=j/\j<i/\x=a.getD j dk:=by
 rw [Array.toList_reverse,ft,Array.toList_extract] at hx
 simp only [List.extract] at hx
 obtain ⟨j,h1,h2,rfl⟩:=zb4 hx
 exact ⟨k+j,by lia,by lia,rfl⟩
theorem xf7 (h:i<=a.size):(a.extract k i).reverse.size=i-k:=by
 rw [Array.size_reverse,Array.size_extract]
 lia
theorem yh2 {x:Keyed}(hx:x∈Rv a i):∃j,j<i/\j<a.size/\x=a.getD j dk:=by
 unfold Rv at hx
 rw [ft] at hx
 have:=zb4 (a:=a) (i:=0) (k:=i) (by rwa [fx])
 simpa using this
theorem yx7 (h:k<=i)(hi:i<=a.size):Rv a i=(a.extract k i).reverse.toList++Rv a k:=by
 unfold Rv
 rw [Array.toList_reverse,Array.toList_extract,←List.reverse_append]
 simp only [List.extract]
 rw [show i=k+(i-k) by lia,List.take_add,show k+(i-k)-k=i-k by lia]
theorem SL.rv {R:Keyed->Int}(u:SL R a.toList):SL (λx=>-R x) (Rv a i):=by
 unfold Rv SL
 rw [List.pairwise_reverse]
 refine (List.Pairwise.sublist (bY _ _) u).imp λh=>?_
 show -R _<=-R _
 lia
theorem yt0:(a.extract 0 i).toList=(Rv a i).reverse:=by
 unfold Rv
 rw [List.reverse_reverse,Array.toList_extract]
 simp [List.extract]
end
section
variable {a:Array Keyed}{na:Nat}{key:Keyed}{st:SortSt}{Q:Option Nat->SortSt->Prop}
theorem xq1 (c:Cmp M A E s κ G R)(hk:kindOf st=κ)(ga:∀x∈a.toList,G x)(hkey:G key)(ua:SL R a.toList)(h0:0<na)(hna:na<=a.size)(h:∀k,k<=na->(∀i,i<k->R (a.getD i dk)<=R key)->(∀i,k<=i->i<na->R key<R (a.getD i dk))->Q (some k) st):wpS M A E s (B2 false key a 0 na (na-1)) Q st:=by
 refine R9 c hk (λi hi=>ga _ (p6 (by lia))) hkey (by lia) (by lia) (λi j hij hj=>ua.get (by lia) (by lia)) λk hp=>?_
 obtain ⟨h1,h2⟩:=hp.no
 simp only [cT] at h2
 exact h k h1 (λi hi=>(h2 i (by lia)).mpr hi) λi hi hi'=>Int.not_le.mp λz'=>Nat.not_lt_of_le hi ((h2 i hi').mp z')
theorem xq0 (c:Cmp M A E s κ G R)(hk:kindOf st=κ)(ga:∀x∈a.toList,G x)(hkey:G key)(ua:SL R a.toList)(h0:0<na)(hna:na<=a.size)(h:∀k,k<=na->(∀i,i<k->R (a.getD i dk)<R key)->(∀i,k<=i->i<na->R key<=R (a.getD i dk))->Q (some k) st):wpS M A E s (B2 true key a 0 na (na-1)) Q st:=by
 refine R9 c hk (λi hi=>ga _ (p6 (by lia))) hkey (by lia) (by lia) (λi j hij hj=>ua.get (by lia) (by lia)) λk hp=>?_
 obtain ⟨h1,h2⟩:=hp.yes
 simp only [cT] at h2
 exact h k h1 (λi hi=>(h2 i (by lia)).mpr hi) λi hi hi'=>bN.mp λz'=>Nat.not_lt_of_le hi ((h2 i hi').mp z')
end
structure HiI (R:Keyed->Int) (tot:List Keyed) (a b:Array Keyed) (n:Nat) (out:Array Keyed) (na nb:Nat):Prop where
 jn:Jn (λx=>-R x) tot out.toList (Rv a na) (Rv b nb)
 ua:SL R a.toList
 ub:SL R b.toList
 sz:out.size+na+nb=a.size+b.size
 hn:n<=out.size
 ha:na<=a.size
 hb:nb<=b.size
section
variable {a b out:Array Keyed}{n n' na nb k:Nat}{tot:List Keyed}
theorem HiI.weak (h:HiI R tot a b n out na nb)(w:n'<=n):HiI R tot a b n' out na nb:=⟨h.jn,h.ua,h.ub,h.sz,aQ w h.hn,h.ha,h.hb⟩
theorem HiI.swap (h:HiI R tot a b n out na nb):HiI R tot b a n out nb na:=⟨h.jn.swap,h.ub,h.ua,by have:=h.sz;lia,h.hn,h.hb,h.ha⟩
theorem xq4 {z:Int}(u:SL R a.toList)(hi:na<=a.size)(hz:R (a.getD (na-1) dk)<=z):∀x∈Rv a na,R x<=z:=λx hx=>by
 obtain ⟨j,h1,h2,rfl⟩:=yh2 hx
 exact ck (u.get (by lia) (by lia)) hz
theorem HiI.pushA (h:HiI R tot a b n out na nb)(h0:0<na)(hr:R (b.getD (nb-1) dk)<=R (a.getD (na-1) dk)):HiI R tot a b (n+1) (out.push (a.getD (na-1) dk)) (na-1) nb:=by
 have j:=h.jn
 have hs:=h.sz
 rw [yx6 h0 h.ha] at j
 refine ⟨?_,h.ua,h.ub,by rw [Array.size_push];lia,by rw [Array.size_push];exact Nat.succ_le_succ h.hn,aQ (Nat.sub_le _ _) h.ha,h.hb⟩
 rw [Array.toList_push]
 exact Jn.moveA (ch:=[a.getD (na-1) dk]) j λx hx y hy=>by rw [ao.mp hx];exact Int.neg_le_neg (xq4 h.ub h.hb hr y hy)
theorem HiI.extA (h:HiI R tot a b n out na nb)(hk:k<=na)(hr:∀i,k<=i->i<na->R (b.getD (nb-1) dk)<=R (a.getD i dk)):HiI R tot a b n (out++(a.extract k na).reverse) k nb:=by
 have j:=h.jn
 have hs:=h.sz
 rw [yx7 hk h.ha] at j
 refine ⟨?_,h.ua,h.ub,by rw [Array.size_append,xf7 h.ha];lia,by rw [Array.size_append];exact aQ h.hn (cw _ _),aQ hk h.ha,h.hb⟩
 rw [Array.toList_append]
 refine j.moveA λz hz y hy=>?_
 obtain ⟨i,h1,h2,rfl⟩:=yx5 hz h.ha
 exact Int.neg_le_neg (xq4 h.ub h.hb (hr i h1 h2) y hy)
theorem HiI.fin (h:HiI R tot a b n out na nb)(hh:∀x∈Rv b nb,∀y∈Rv a na,R y<=R x):(a.extract 0 na++b.extract 0 nb++out.reverse).toList.Perm tot/\SL R (a.extract 0 na++b.extract 0 nb++out.reverse).toList:=by
 have:=h.jn.swap.fin (λx hx y hy=>Int.neg_le_neg (hh x hx y hy))
 rw [show (a.extract 0 na++b.extract 0 nb++out.reverse).toList=(out.toList++Rv b nb++Rv a na).reverse by rw [Array.toList_append,Array.toList_append,yt0,yt0,Array.toList_reverse,List.reverse_append,List.reverse_append,aY]]
 refine ⟨(List.reverse_perm _).trans this.1,?_⟩
 unfold SL
 rw [List.pairwise_reverse]
 exact this.2.imp λh=>Int.le_of_neg_le_neg h
theorem HiI.fin1 (h:HiI R tot a b n out na nb)(e:na=0):(a.extract 0 na++b.extract 0 nb++out.reverse).toList.Perm tot/\SL R (a.extract 0 na++b.extract 0 nb++out.reverse).toList:=h.fin λx _ y hy=>by rw [e] at hy;cases hy
theorem HiI.fin2 (h:HiI R tot a b n out na nb)(e:nb=1)(hf:∀x∈a.toList,R (b.getD 0 dk)<R x):(b.extract 0 nb++a.extract 0 na++out.reverse).toList.Perm tot/\SL R (b.extract 0 nb++a.extract 0 na++out.reverse).toList:=h.swap.fin λx hx y hy=>by
 obtain ⟨i,h1,h2,rfl⟩:=yh2 hx
 obtain ⟨i',h1',h2',rfl⟩:=yh2 hy
 rw [show i'=0 by lia]
 exact bH (hf _ (p6 h2))
end
theorem yg5 (c:Cmp M A E s κ G R){a b:Array Keyed}{st:SortSt}{Q:Array Keyed->SortSt->Prop}(hk:kindOf st=κ)(ga:∀x∈a.toList,G x)(gb:∀x∈b.toList,G x)(ua:SL R a.toList)(ub:SL R b.toList)(na0:0<a.size)(nb0:0<b.size)
  (hf:∀x∈a.toList,R (b.getD 0 dk)<R x) (hl:∀x∈b.toList,R x<R (a.getD (a.size-1) dk))
  (h:∀(out:Array Keyed) st',Sg st st'->out.toList.Perm (a.toList++b.toList)->SL R out.toList->Q out st'):wpS M A E s (yu9 a b) Q st:=by
 have sub1:∀{i n:Nat},0<i->i<=n->i-1<n:=λh1 h2=>aM (Nat.sub_lt h1 Nat.zero_lt_one) h2
 refine wpS_bind (F7 (wpS_bind (n5 (sub1 na0 (ah _)) ?_)))
 obtain ⟨tot,etot⟩:∃tot,tot=a.toList++b.toList:=⟨_,rfl⟩
 rw [←etot] at h
 have j0:HiI R tot a b 1 #[a.getD (a.size-1) dk] (a.size-1) b.size:=by
  have zz6:∀x:Array Keyed,Rv x x.size=x.toList.reverse:=λx=>by unfold Rv;rw [bA (by simp)]
  refine HiI.pushA (out:=#[]) (n:=0) ⟨⟨?_,.nil,ua.rv,ub.rv,λ_ h=>(by cases h),λ_ h=>(by cases h)⟩,ua,ub,by rw [Array.size_empty,cT],aR _,ah _,ah _⟩ na0 (bH (hl _ (p6 (sub1 nb0 (ah _)))))
  rw [etot,zz6,zz6]
  exact List.Perm.append (List.reverse_perm _) (List.reverse_perm _)
 have fin1:∀{st':SortSt} {out:Array Keyed} {n na nb:Nat},Sg st st'->HiI R tot a b n out na nb->na=0->Q (a.extract 0 na++b.extract 0 nb++out.reverse) st':=λsg j e=>h _ _ sg (j.fin1 e).1 (j.fin1 e).2
 have fin2:∀{st':SortSt} {out:Array Keyed} {n na nb:Nat},Sg st st'->HiI R tot a b n out na nb->nb=1->Q (b.extract 0 nb++a.extract 0 na++out.reverse) st':=λsg j e=>h _ _ sg (j.fin2 e hf).1 (j.fin2 e hf).2
 have sg0:Sg st st:=⟨rfl,rfl,rfl,rfl⟩
 have gt1:∀{i:Nat},0<i->i≠1->1<i:=λh e=>cH h (Ne.symm e)
 have gt0:∀{i:Nat},1<i->0<i:=λh=>Nat.lt_of_succ_lt h
 have sub0:∀{i:Nat},1<i->0<i-1:=λh=>Nat.sub_pos_of_lt h
 refine W4 (λh1=>wpS_pure (fin1 sg0 j0 h1)) λh1=>W4 (λh2=>wpS_pure (fin2 sg0 j0 h2)) λh2=>wpS_bind (wpS_get ?_)
 refine wpS_bind (wpS_mono (Q:=λq st'=>∃r,q.1=some r/\Q r st') (wpS_forRange (I:=λj q st'=>∃na nb out mg,q=(none,na,nb,out,mg)/\Sg st st'/\HiI R tot a b (j+1) out na nb/\0<na/\1<nb) ?_ ?_ ⟨_,_,#[a.getD (a.size-1) dk],_,rfl,sg0,j0,Nat.pos_of_ne_zero h1,gt1 nb0 h2⟩) ?_)
 ·rintro j q st' _ hj ⟨na,nb,out,mg,rfl,sg,jn,hna,hnb⟩
  dsimp -zeta only
  have hk':kindOf st'=κ:=sg.k.trans hk
  refine wpS_bind (wpS_mono (Q:=λq st2=>st2=st'/\((∃r,q.1=some r/\Q r st')∨∃na nb out x y,q=(none,na,nb,out,x,y)/\HiI R tot a b (j+2) out na nb/\0<na/\1<nb))
   (wpS_forRange (I:=λi q st2=>st2=st'/\∃na nb out x y,q=(none,na,nb,out,x,y)/\HiI R tot a b (j+1+(if i=0 then 0 else 1)) out na nb/\0<na/\1<nb) ?_ ?_ ⟨rfl,na,nb,out,0,0,rfl,jn,hna,hnb⟩) ?_)
  ·rintro i q st2 _ hi ⟨rfl,na,nb,out,x,y,rfl,jn,hna,hnb⟩
   dsimp only
   have w1:j+2<=j+1+(if i=0 then 0 else 1)+1:=Nat.succ_le_succ (cw _ _)
   have w2:j+1+(if i+1=0 then 0 else 1)<=j+1+(if i=0 then 0 else 1)+1:=by rw [if_neg (Nat.succ_ne_zero i)];exact w1
   have la:=sub1 hna jn.ha
   have lb:=sub1 (gt0 hnb) jn.hb
   refine wpS_bind (n5 lb (wpS_bind (n5 la (wpS_bind (c.lt (gb _ (p6 lb)) (ga _ (p6 la)) hk' ?_)))))
   refine zz7 (λhlt=>wpS_bind (n5 la ?_)) λhlt=>wpS_bind (n5 lb ?_)
   ·have jn':=jn.pushA hna (bH hlt)
    exact W4 (λe1=>wpS_pure ⟨rfl,.inl ⟨_,rfl,fin1 sg jn' e1⟩⟩) λe1=>O4 (λe2=>wpS_pure ⟨rfl,.inr ⟨_,_,_,_,_,rfl,jn'.weak w1,Nat.pos_of_ne_zero e1,hnb⟩⟩) λe2=>wpS_pure ⟨rfl,_,_,_,_,_,rfl,jn'.weak w2,Nat.pos_of_ne_zero e1,hnb⟩
   ·have jn':=(jn.swap.pushA (gt0 hnb) (bN.mp hlt)).swap
    exact W4 (λe1=>wpS_pure ⟨rfl,.inl ⟨_,rfl,fin2 sg jn' e1⟩⟩) λe1=>O4 (λe2=>wpS_pure ⟨rfl,.inr ⟨_,_,_,_,_,rfl,jn'.weak w1,hna,gt1 (sub0 hnb) e1⟩⟩) λe2=>wpS_pure ⟨rfl,_,_,_,_,_,rfl,jn'.weak w2,hna,gt1 (sub0 hnb) e1⟩
  ·rintro q st2 ⟨rfl,na,nb,out,x,y,rfl,jn,hna,hnb⟩
   rw [if_neg (by lia)] at jn
   exact ⟨rfl,.inr ⟨_,_,_,_,_,rfl,jn,hna,hnb⟩⟩
  rintro q st2 ⟨rfl,(⟨r,e,hq⟩|⟨na,nb,out,x,y,rfl,jn,hna,hnb⟩)⟩
  ·obtain ⟨q1,q2⟩:=q
   cases e
   exact wpS_pure ⟨_,rfl,hq⟩
  refine wpS_bind (F7 ?_)
  refine wpS_bind (wpS_mono (Q:=λq st2=>Sg st st2/\((∃r,q.1=some r/\Q r st2)∨∃na nb out m x y,q=(none,na,nb,out,m,x,y)/\HiI R tot a b (j+2) out na nb/\0<na/\1<nb))
   (wpS_forRange (I:=λi q st2=>Sg st st2/\∃na nb out m x y,q=(none,na,nb,out,m,x,y)/\HiI R tot a b (j+2) out na nb/\0<na/\1<nb) ?_ ?_ ⟨sg,na,nb,out,_,_,_,rfl,jn,hna,hnb⟩) ?_)
  ·rintro i q st2 _ hi ⟨sg2,na,nb,out,m,x,y,rfl,jn,hna,hnb⟩
   dsimp -zeta only
   extract_lets -underBinder +onlyGivenNames s1 o1 s2 i1 s3 b1 s4 m1 s5 ac bc jp
   refine yu1 (f:=jp ()) (x:=m-1) (y:=m) λm2=>?_
   dsimp -zeta only [jp,s1,o1,s2,i1,s3,b1,s4,m1,s5,ac,bc]
   clear jp ac bc s5 m1 s4 b1 s3 i1 s2 o1 s1
   have sg3:∀g:Nat,Sg st (SortSt.mk' (kindOf st2) (arrOf st2) (pendingOf st2) g (failedOf st2)):=λg=>⟨sg2.k,sg2.a,sg2.p,sg2.f⟩
   have hk2:=sg2.k.trans hk
   have lb:=sub1 (gt0 hnb) jn.hb
   refine wpS_bind (wpS_modify (wpS_bind (n5 lb (wpS_bind (xq1 c hk2 ga (gb _ (p6 lb)) ua hna jn.ha λk hk1 hle hlt=>?_)))))
   dsimp -zeta only
   extract_lets -underBinder +onlyGivenNames k0 ac jp
   refine zu2 (f:=jp ()) (λi1 o1=>HiI R tot a b (j+2) o1 i1 nb/\0<i1/\R (a.getD (i1-1) dk)<=R (b.getD (nb-1) dk)) ?_ λJ=>?_
   ·rintro na1 out1 ⟨jn1,hi1,hle1⟩
    dsimp -zeta only [jp]
    clear jp
    have la:=sub1 hi1 jn1.ha
    have jn2:=(jn1.swap.pushA (gt0 hnb) hle1).swap
    refine wpS_bind (n5 lb ?_)
    refine W4 (λe2=>wpS_pure ⟨sg3 _,.inl ⟨_,rfl,fin2 (sg3 _) jn2 e2⟩⟩) λe2=>?_
    refine wpS_bind (n5 la (wpS_bind (xq0 c hk2 gb (ga _ (p6 la)) ub (sub0 hnb) jn2.hb λk1 hk3 hle3 hlt3=>?_)))
    dsimp -zeta only
    extract_lets -underBinder +onlyGivenNames k0 bc jp
    refine zu2 (f:=jp ()) (λi3 o3=>HiI R tot a b (j+2) o3 na1 i3/\1<i3/\R (b.getD (i3-1) dk)<=R (a.getD (na1-1) dk)) ?_ λJ=>?_
    ·rintro nb3 out3 ⟨jn3,hnb3,hge⟩
     dsimp -zeta only [jp]
     clear jp
     have jn4:=jn3.pushA hi1 hge
     refine wpS_bind (n5 la ?_)
     refine W4 (λe5=>wpS_pure ⟨sg3 _,.inl ⟨_,rfl,fin1 (sg3 _) jn4 e5⟩⟩) λe5=>?_
     have jn5:=jn4.weak (bX _)
     exact yf4 (wpS_pure ⟨sg3 _,.inr ⟨_,_,_,_,_,_,rfl,jn5,Nat.pos_of_ne_zero e5,hnb3⟩⟩) (wpS_pure ⟨sg3 _,_,_,_,_,_,_,rfl,jn5,Nat.pos_of_ne_zero e5,hnb3⟩)
    ·clear_value jp
     have jn2':=jn2.weak (bX _)
     have hk10:0<k1:=Nat.pos_of_ne_zero λe=>absurd (hf _ (p6 la)) (bN.mpr (hlt3 0 (eT e) (sub0 hnb)))
     have hr:R (b.getD (k1-1) dk)<=R (a.getD (na1-1) dk):=bH (hle3 _ (Nat.sub_lt hk10 Nat.zero_lt_one))
     refine O4 (λe=>?_) λe=>?_
     ·have jn3:=(jn2'.swap.extA hk3 hlt3).swap
      exact W4 (λe4=>wpS_pure ⟨sg3 _,.inl ⟨_,rfl,fin2 (sg3 _) jn3 e4⟩⟩) λe4=>W4 (λe5=>absurd e5 (cV hk10)) λ_=>J _ _ ⟨jn3,gt1 hk10 e4,hr⟩
     ·obtain rfl:nb-1=k1:=du (Nat.sub_eq_zero_iff_le.mp (Nat.eq_zero_of_not_pos e)) hk3
      exact J _ _ ⟨jn2',gt1 hk10 e2,hr⟩
   ·clear_value jp
    refine O4 (λe=>?_) λe=>?_
    ·have jn1:=jn.extA hk1 λi h1 h2=>bH (hlt i h1 h2)
     exact W4 (λe1=>wpS_pure ⟨sg3 _,.inl ⟨_,rfl,fin1 (sg3 _) jn1 e1⟩⟩) λe1=>J _ _ ⟨jn1,Nat.pos_of_ne_zero e1,hle _ (Nat.sub_lt (Nat.pos_of_ne_zero e1) Nat.zero_lt_one)⟩
    ·obtain rfl:na=k:=du (Nat.sub_eq_zero_iff_le.mp (Nat.eq_zero_of_not_pos e)) hk1
     exact J _ _ ⟨jn,hna,hle _ (Nat.sub_lt hna Nat.zero_lt_one)⟩
  ·rintro q st2 ⟨sg2,na,nb,out,m,x,y,rfl,jn,hna,hnb⟩
   exact ⟨sg2,.inr ⟨_,_,_,_,_,_,rfl,jn,hna,hnb⟩⟩
  ·rintro q st2 ⟨sg2,(⟨r,e,hq⟩|⟨na,nb,out,m,x,y,rfl,jn,hna,hnb⟩)⟩
   ·obtain ⟨q1,q2⟩:=q
    cases e
    exact wpS_pure ⟨_,rfl,hq⟩
   ·exact wpS_bind (wpS_modify (wpS_pure ⟨_,_,_,_,rfl,⟨sg2.k,sg2.a,sg2.p,sg2.f⟩,jn,hna,hnb⟩))
 ·rintro q st' ⟨na,nb,out,mg,rfl,sg,jn,hna,hnb⟩
  have:=jn.hn
  have:=jn.sz
  lia
 ·rintro q st' ⟨r,e,hq⟩
  obtain ⟨q1,q2⟩:=q
  cases e
  exact wpS_pure hq
end
end SortG
namespace SortG
open PySem PyProof.Rows
section
variable {M:Model}{A:Around}{E:Value->Shared->Prop}{s:Shared}{κ:SortKind}{G:Keyed->Prop}{R:Keyed->Int}
structure Seg (xs ys:Array Keyed) (lo hi:Nat):Prop where
 size:ys.size=xs.size
 perm:ys.toList.Perm xs.toList
 out:∀p,p<lo∨hi<=p->ys[p]?=xs[p]?
theorem Seg.refl (xs:Array Keyed)(lo hi:Nat):Seg xs xs lo hi:=⟨rfl,.refl _,λ_ _=>rfl⟩
theorem Seg.trans {xs ys zs:Array Keyed}{lo hi:Nat}(h:Seg xs ys lo hi)(h':Seg ys zs lo hi):Seg xs zs lo hi:=⟨h'.size.trans h.size,h'.perm.trans h.perm,λp hp=>(h'.out p hp).trans (h.out p hp)⟩
theorem Seg.mono {xs ys:Array Keyed}{lo hi lo' hi':Nat}(h:Seg xs ys lo hi)(h1:lo'<=lo)(h2:hi<=hi'):Seg xs ys lo' hi':=⟨h.size,h.perm,λp hp=>h.out p (by lia)⟩
abbrev Ky (R:Keyed->Int) (xs:Array Keyed) (i:Nat):Int:=R (xs.getD i dk)
theorem B6 {xs ys:Array Keyed}{i j:Nat}(h:ys[i]?=xs[j]?):Ky R ys i=Ky R xs j:=by
 have e:∀(zs:Array Keyed) (k:Nat),zs.getD k dk=zs[k]?.getD dk:=λzs k=>by simp
 unfold Ky
 rw [e,e,h]
theorem Seg.ky {xs ys:Array Keyed}{lo hi p:Nat}(h:Seg xs ys lo hi)(hp:p<lo∨hi<=p):Ky R ys p=Ky R xs p:=B6 (h.out p hp)
theorem yh4 {xs:Array Keyed}{i j:Nat}(hj:j<=xs.size)(hij:i<=j):Seg xs (mirror xs i j ((j-i) / 2)) i j:=by
 refine ⟨mirror_size _ _ _ _,(mirror_perm _ _ _ _).toList,λp hp=>?_⟩
 rw [getElem?_mirror hj _ (by lia),if_neg (by lia)]
theorem zc8 {xs:Array Keyed}{i j:Nat}(hj:j<=xs.size){p:Nat}(h1:i<=p)(h2:p<j):Ky R (mirror xs i j ((j-i) / 2)) p=Ky R xs (i+j-1-p):=by
 refine B6 ?_
 rw [getElem?_mirror hj _ (by lia)]
 split
 ·rfl
 ·congr 1
  lia
def UpS (R:Keyed->Int)(xs:Array Keyed)(lo n:Nat):Prop:=∀i j,lo<=i->i<=j->j<lo+n->Ky R xs i<=Ky R xs j
def DnS (R:Keyed->Int)(xs:Array Keyed)(lo n:Nat):Prop:=∀i j,lo<=i->i<=j->j<lo+n->Ky R xs j<=Ky R xs i
theorem UpS.succ {xs:Array Keyed}{lo n:Nat}(h:UpS R xs lo n)(h1:n=0∨Ky R xs (lo+n-1)<=Ky R xs (lo+n)):UpS R xs lo (n+1):=λi j hi hij hj=>by
 by_cases e:j=lo+n
 ·by_cases e2:i=j
  ·rw [e2];exact dh _
  ·rw [e]
   rcases h1 with h1|h1
   ·lia
   ·exact ck (h i (lo+n-1) hi (by lia) (by lia)) h1
 ·exact h i j hi hij (by lia)
theorem DnS.succ {xs:Array Keyed}{lo n:Nat}(h:DnS R xs lo n)(h1:n=0∨Ky R xs (lo+n)<=Ky R xs (lo+n-1)):DnS R xs lo (n+1):=λi j hi hij hj=>by
 by_cases e:j=lo+n
 ·by_cases e2:i=j
  ·rw [e2];exact dh _
  ·rw [e]
   rcases h1 with h1|h1
   ·lia
   ·exact ck h1 (h i (lo+n-1) hi (by lia) (by lia))
 ·exact h i j hi hij (by lia)
abbrev Sx (κ:SortKind) (xs:Array Keyed) (pd:Array (Nat×Nat×Nat)) (g:Nat):SortSt:=SortSt.mk' κ xs pd g none
variable {xs:Array Keyed}{pd:Array (Nat×Nat×Nat)}{g:Nat}
theorem B7 (c:Cmp M A E s κ G R){i j:Nat}{Q:Option Bool->SortSt->Prop}(hG:∀x∈xs.toList,G x)(hi:i<xs.size)(hj:j<xs.size)(h:Q (some (decide (Ky R xs i<Ky R xs j))) (Sx κ xs pd g)):wpS M A E s (ltAt' i j) Q (Sx κ xs pd g):=by
 rw [ltAt'_eq]
 refine wpS_bind (wpS_get (wpS_bind (n5 hi (wpS_bind (n5 hj ?_)))))
 exact c.lt (hG _ (p6 hi)) (hG _ (p6 hj)) rfl h
theorem zx1 {i j:Nat}{Q:Unit->SortSt->Prop}(h:Q () (Sx κ (mirror xs i j ((j-i) / 2)) pd g)):wpS M A E s (reverseSlice' i j) Q (Sx κ xs pd g):=by
 rw [reverseSlice'_eq]
 exact wpS_modify h
theorem xc7 {k l:Nat}{Q:Unit->SortSt->Prop}(h:Q () (Sx κ (bubble xs k (k-l)) pd g)):wpS M A E s (moveDown' k l) Q (Sx κ xs pd g):=by
 rw [moveDown'_eq]
 exact wpS_modify h
theorem xh8 {α β:Type}{f:β->StateT SortSt Sem α}{x:StateT SortSt Sem α}{Q:α->SortSt->Prop}{st0:SortSt}(P:SortSt->Prop)(h:∀b st,P st->wpS M A E s (f b) Q st)(k:(∀b st,P st->wpS M A E s (f b) Q st)->wpS M A E s x Q st0):wpS M A E s x Q st0:=k h
theorem Seg.mir {zs:Array Keyed}{lo hi i j:Nat}(hs:Seg xs zs lo hi)(hz:hi<=xs.size)(h1:lo<=i)(h2:i<=j)(h3:j<=hi):Seg xs (mirror zs i j ((j-i) / 2)) lo hi:=hs.trans ((yh4 (by rw [hs.size];exact aQ h3 hz) h2).mono h1 h3)
theorem zu5 {ys:Array Keyed}{i j:Nat}(hj:j<=ys.size)(he:∀p,i<=p->p<j->Ky R ys p=Ky R ys (j-1))(p:Nat):Ky R (mirror ys i j ((j-i) / 2)) p=Ky R ys p:=by
 by_cases hp:i<=p/\p<j
 ·rw [zc8 hj hp.1 hp.2,he _ (by lia) (by lia),he p hp.1 hp.2]
 ·refine B6 ?_
  rw [getElem?_mirror_all hj,if_neg hp]
theorem yr4 (c:Cmp M A E s κ G R){lo nrem n0:Nat}{ys:Array Keyed}(gy:∀x∈ys.toList,G x)(hz:lo+nrem<=ys.size)(h0:1<=n0)(h0':n0<=nrem)(hu:UpS R ys lo n0){Q:Option (Option Nat)×Nat->SortSt->Prop}{f:Nat->Option (Option Nat)×Nat->StateT SortSt Sem (ForInStep (Option (Option Nat)×Nat))}
  (hf:∀x n,∃k,f x (none,n)=ltAt' (lo+n) (lo+n-1) >>= k/\k (some true)=pure (.done (none,n))/\k (some false)=pure (.yield (none,n+1)))
  (hq:∀n,n0<=n->n<=nrem->UpS R ys lo n->(n<nrem->Ky R ys (lo+n)<Ky R ys (lo+n-1))->Q (none,n) (Sx κ ys pd g)):wpS M A E s (forIn [n0:nrem] (none,n0) f) Q (Sx κ ys pd g):=by
 refine wpS_forRange (I:=λi q st=>q=(none,i)/\st=Sx κ ys pd g/\UpS R ys lo i) ?_ ?_ ⟨rfl,rfl,hu⟩
 ·rintro i q st hi1 hi2 ⟨rfl,rfl,hu⟩
  obtain ⟨k,e,e1,e2⟩:=hf i i
  rw [e]
  refine wpS_bind (B7 c gy (by lia) (by lia) ?_)
  by_cases hlt:Ky R ys (lo+i)<Ky R ys (lo+i-1)
  ·rw [decide_eq_true hlt,e1]
   exact wpS_pure (hq i hi1 (bF hi2) hu λ_=>hlt)
  ·rw [decide_eq_false hlt,e2]
   exact wpS_pure ⟨rfl,rfl,hu.succ (.inr (bN.mp hlt))⟩
 ·rintro q st ⟨rfl,rfl,hu⟩
  rw [fu h0'] at hu ⊢
  exact hq nrem h0' (ah _) hu λz=>absurd z (bh _)
theorem yr9 (c:Cmp M A E s κ G R){lo nrem:Nat}{Q:Option Nat->SortSt->Prop}(hG:∀x∈xs.toList,G x)(h1:1<=nrem)(hz:lo+nrem<=xs.size)
  (h:∀m ys,1<=m->m<=nrem->Seg xs ys lo (lo+nrem)->UpS R ys lo m->Q (some m) (Sx κ ys pd g)):wpS M A E s (countRun' lo nrem) Q (Sx κ xs pd g):=by
 have gs:∀{ys:Array Keyed},Seg xs ys lo (lo+nrem)->∀x∈ys.toList,G x:=λhs x hx=>hG x (hs.perm.mem_iff.mp hx)
 have hzs:∀{ys:Array Keyed},Seg xs ys lo (lo+nrem)->lo+nrem<=ys.size:=λhs=>by rw [hs.size];exact hz
 have b1:∀{n:Nat} {ys:Array Keyed},Seg xs ys lo (lo+nrem)->n<nrem->lo+n<ys.size:=λhs hn=>aM (Nat.add_lt_add_left hn _) (hzs hs)
 have b2:∀{n:Nat} {ys:Array Keyed},Seg xs ys lo (lo+nrem)->n<nrem->lo+n-1<ys.size:=λhs hn=>cJ (Nat.sub_le _ _) (b1 hs hn)
 have b3:∀{n:Nat} {ys:Array Keyed},Seg xs ys lo (lo+nrem)->n<=nrem->lo+n<=ys.size:=λhs hn=>aQ (Nat.add_le_add_left hn _) (hzs hs)
 have lon:∀{n:Nat},n<=nrem->lo+n<=lo+nrem:=λhn=>Nat.add_le_add_left hn _
 refine wpS_bind (yr4 c hG hz (ah _) h1 (λi j hi hij hj=>by rw [show i=j by lia];exact dh _) (λx n=>⟨_,rfl,rfl,rfl⟩) λn hn1 hn2 hu hlt=>?_)
 refine W4 (λe1=>wpS_pure (h n xs hn1 hn2 (Seg.refl _ _ _) hu)) λe1=>?_
 have hn3:=cH hn2 e1
 have hlt:=hlt hn3
 have s0:=Seg.refl xs lo (lo+nrem)
 extract_lets -underBinder +onlyGivenNames jp
 refine xh8 (f:=jp) (λst=>∃ys,st=Sx κ ys pd g/\Seg xs ys lo (lo+nrem)/\DnS R ys lo (n+1)) ?_ λJ=>?_
 ·rintro _ _ ⟨ys,rfl,hs,hd⟩
  dsimp -zeta only [jp]
  clear jp
  refine wpS_bind (F7 ?_)
  refine wpS_bind (wpS_mono (Q:=λq st=>∃n neq zs,q=(none,n,neq)/\st=Sx κ zs pd g/\Seg xs zs lo (lo+nrem)/\1<=n/\n<=nrem/\neq<n/\DnS R zs lo n/\∀p,lo+n-(neq+1)<=p->p<lo+n->Ky R zs p=Ky R zs (lo+n-1)) (wpS_forRange (I:=λi q st=>∃neq zs,q=(none,i,neq)/\st=Sx κ zs pd g/\Seg xs zs lo (lo+nrem)/\neq<i/\DnS R zs lo i/\∀p,lo+i-(neq+1)<=p->p<lo+i->Ky R zs p=Ky R zs (lo+i-1)) ?_ ?_ ⟨0,ys,rfl,rfl,hs,dP _,hd,λp h1 h2=>by rw [du (Nat.le_sub_one_of_lt h2) h1]⟩) ?_)
  ·rintro i q st hi1 hi2 ⟨neq,zs,rfl,rfl,hs,hne,hd,ht⟩
   dsimp only
   have z1:∀{zs:Array Keyed} (p:Nat),lo+(i+1)-(0+1)<=p->p<lo+(i+1)->Ky R zs p=Ky R zs (lo+(i+1)-1):=λp h1 h2=>by rw [du (Nat.le_sub_one_of_lt h2) h1]
   refine wpS_bind (B7 c (gs hs) (b1 hs hi2) (b2 hs hi2) (zz7 (λhlt=>O4 (λe=>?_) λe=>wpS_pure ⟨0,zs,rfl,rfl,hs,dP _,hd.succ (.inr (bH hlt)),z1⟩) λhlt=>wpS_bind (B7 c (gs hs) (b2 hs hi2) (b1 hs hi2) (zz7 (λhgt=>wpS_pure ⟨i,neq,zs,rfl,rfl,hs,aQ (dP n) hi1,bF hi2,hne,hd,ht⟩) λhgt=>?_))))
   ·have ks:=zu5 (b3 hs (bF hi2)) ht
    exact wpS_bind (zx1 (wpS_pure ⟨0,_,rfl,rfl,hs.mir hz (by lia) (Nat.sub_le _ _) (lon (bF hi2)),dP _,DnS.succ (λi' j' h1 h2 h3=>by rw [ks,ks];exact hd i' j' h1 h2 h3) (.inr (by rw [ks,ks];exact bH hlt)),z1⟩))
   ·refine wpS_pure ⟨neq+1,zs,rfl,rfl,hs,Nat.succ_lt_succ hne,hd.succ (.inr (bN.mp hgt)),λp h1 h2=>?_⟩
    have ee:Ky R zs (lo+i-1)=Ky R zs (lo+i):=dZ (bN.mp hlt) (bN.mp hgt)
    show _=Ky R zs (lo+i)
    by_cases e:p=lo+i
    ·rw [e]
    ·rw [ht p (by lia) (by lia),ee]
  ·rintro q st ⟨neq,zs,rfl,rfl,hs,hne,hd,ht⟩
   rw [fu hn3] at hne hd ht ⊢
   exact ⟨nrem,neq,zs,rfl,rfl,hs,h1,ah _,hne,hd,ht⟩
  ·rintro q st ⟨n,neq,zs,rfl,rfl,hs,hn1,hn2,hne,hd,ht⟩
   extract_lets -underBinder +onlyGivenNames r1 s1 n1 q1
   dsimp -zeta only [r1,s1,n1,q1]
   extract_lets -underBinder +onlyGivenNames jp
   refine xh8 (f:=jp) (λst=>∃vs,st=Sx κ vs pd g/\Seg xs vs lo (lo+nrem)/\DnS R vs lo n) ?_ λJ=>?_
   ·rintro _ _ ⟨vs,rfl,hs,hd⟩
    dsimp -zeta only [jp]
    clear jp
    have hv:=b3 hs hn2
    have hs2:=hs.mir hz (ah _) (cw _ _) (lon hn2)
    exact wpS_bind (zx1 (wpS_bind (yr4 c (gs hs2) (hzs hs2) hn1 hn2 (λi j hi hij hj=>by rw [zc8 hv hi (cJ hij hj),zc8 hv (aQ hi hij) hj];exact hd _ _ (by lia) (by lia) (by lia)) (λx n=>⟨_,rfl,rfl,rfl⟩) λm hm1 hm2 hum _=>wpS_pure (h m _ (aQ hn1 hm1) hm2 hs2 hum))))
   ·clear_value jp
    refine O4 (λe=>?_) λe=>J _ _ ⟨zs,rfl,hs,hd⟩
    have ks:=zu5 (b3 hs hn2) ht
    exact wpS_bind (zx1 (J _ _ ⟨_,rfl,hs.mir hz (by lia) (Nat.sub_le _ _) (lon hn2),λi' j' h1 h2 h3=>by rw [ks,ks];exact hd i' j' h1 h2 h3⟩))
 ·clear_value jp
  refine O4 (λe2=>?_) λe2=>J _ _ ⟨xs,rfl,s0,DnS.succ (λi j hi hij hj=>by rw [show i=j by lia];exact dh _) (.inr (bH hlt))⟩
  refine wpS_bind (B7 c hG (b1 s0 h1) (b2 s0 hn3) (zz7 (λe3=>wpS_pure (h n xs hn1 hn2 s0 hu)) λe3=>wpS_bind (zx1 ?_)))
  have all:∀p,lo<=p->p<lo+n->Ky R xs p=Ky R xs (lo+n-1):=λp hp1 hp2=>dZ (hu p (lo+n-1) hp1 (by lia) (by lia)) (ck (bN.mp e3) (hu lo p (ah _) hp1 hp2))
  have ks:=zu5 (b3 s0 hn2) all
  exact J _ _ ⟨_,rfl,s0.mir hz (ah _) (cw _ _) (lon hn2),DnS.succ (λi j hi hij hj=>by rw [ks,ks,all i hi (cJ hij hj),all j (aQ hi hij) hj];exact dh _) (.inr (by rw [ks,ks];exact bH hlt))⟩
theorem xj2 (c:Cmp M A E s κ G R){lo n ok:Nat}{Q:Bool->SortSt->Prop}(hG:∀x∈xs.toList,G x)(h1:1<=ok)(h2:ok<=n)(hz:lo+n<=xs.size)(hu:UpS R xs lo ok)
  (h:∀ys,Seg xs ys lo (lo+n)->UpS R ys lo n->Q true (Sx κ ys pd g)):wpS M A E s (binarySort' lo n ok) Q (Sx κ xs pd g):=by
 refine wpS_bind (wpS_mono (Q:=λq st=>q=(none,())/\∃ys,st=Sx κ ys pd g/\Seg xs ys lo (lo+n)/\UpS R ys lo n) (wpS_forRange (I:=λk q st=>q=(none,())/\∃ys,st=Sx κ ys pd g/\Seg xs ys lo (lo+n)/\UpS R ys lo k) ?_ ?_ ⟨rfl,xs,rfl,Seg.refl _ _ _,by rw [show max ok 1=ok by lia];exact hu⟩) ?_)
 ·rintro k q st hk1 hk2 ⟨rfl,ys,rfl,hs,hu⟩
  have hz':lo+n<=ys.size:=by rw [hs.size];exact hz
  have gy:∀x∈ys.toList,G x:=λx hx=>hG x (hs.perm.mem_iff.mp hx)
  dsimp only
  refine wpS_bind (wpS_mono (Q:=λq st=>∃l r,q=(none,l,r)/\st=Sx κ ys pd g/\l<=k/\(∀i,i<l->Ky R ys (lo+i)<=Ky R ys (lo+k))/\∀i,l<=i->i<k->Ky R ys (lo+k)<Ky R ys (lo+i)) (wpS_forRange (I:=λj q st=>∃l r,q=(none,l,r)/\st=Sx κ ys pd g/\l<=r/\r<=k/\r-l<=k-j/\(∀i,i<l->Ky R ys (lo+i)<=Ky R ys (lo+k))/\∀i,r<=i->i<k->Ky R ys (lo+k)<Ky R ys (lo+i)) ?_ ?_ ⟨0,k,rfl,rfl,by lia,by lia,by lia,λi hi=>absurd hi (dq _),λi hi hi'=>absurd hi' (by lia)⟩) ?_)
  ·rintro j q st _ hj ⟨l,r,rfl,rfl,b1,b2,b3,b4,b5⟩
   dsimp only
   by_cases e:l ≥ r
   ·rw [if_pos e]
    exact wpS_pure ⟨l,r,rfl,rfl,by lia,b4,λi hi hi'=>b5 i (by lia) hi'⟩
   ·rw [if_neg e]
    refine wpS_bind (B7 c gy (by lia) (by lia) ?_)
    dsimp only
    by_cases hlt:Ky R ys (lo+k)<Ky R ys (lo+(l+r) / 2)
    ·rw [decide_eq_true hlt,if_pos rfl]
     exact wpS_pure ⟨l,_,rfl,rfl,by lia,by lia,by lia,b4,λi hi hi'=>by
      have:=hu (lo+(l+r) / 2) (lo+i) (by lia) (by lia) (by lia)
      lia⟩
    ·rw [decide_eq_false hlt,if_neg aE]
     exact wpS_pure ⟨_,r,rfl,rfl,by lia,by lia,by lia,λi hi=>by
      have:=hu (lo+i) (lo+(l+r) / 2) (by lia) (by lia) (by lia)
      lia,b5⟩
  ·rintro q st ⟨l,r,rfl,rfl,b1,b2,b3,b4,b5⟩
   exact ⟨l,r,rfl,rfl,by lia,b4,λi hi hi'=>b5 i (by lia) hi'⟩
  ·rintro q st ⟨l,r,rfl,rfl,b1,b2,b3⟩
   dsimp only
   refine wpS_bind (xc7 (wpS_pure ⟨rfl,_,rfl,hs.trans ⟨bubble_size _ _ _,(bubble_perm _ _ _).toList,λp hp=>?_⟩,?_⟩))
   ·rw [getElem?_bubble (by lia) _ (by lia),if_neg (by lia),if_neg (by lia)]
   ·have kb:∀p,Ky R (bubble ys (lo+k) (lo+k-(lo+l))) p=if p=lo+l then Ky R ys (lo+k) else if lo+l<p/\p<=lo+k then Ky R ys (p-1) else Ky R ys p:=λp=>by
     have e:=getElem?_bubble (xs:=ys) (src:=lo+k) (by lia) (lo+k-(lo+l)) (by lia) p
     rw [show lo+k-(lo+k-(lo+l))=lo+l by lia] at e
     split
     ·rename_i hp
      rw [if_pos hp] at e
      exact B6 e
     ·rename_i hp
      rw [if_neg hp] at e
      split
      ·rename_i hp'
       rw [if_pos hp'] at e
       exact B6 e
      ·rename_i hp'
       rw [if_neg hp'] at e
       exact B6 e
    intro i j hi hij hj
    rw [kb,kb]
    have c1:∀q,lo<=q->q<lo+l->Ky R ys q<=Ky R ys (lo+k):=λq h1 h2=>by
     have:=b2 (q-lo) (by lia)
     rwa [show lo+(q-lo)=q by lia] at this
    have c2:∀q,lo+l<=q->q<lo+k->Ky R ys (lo+k)<Ky R ys q:=λq h1 h2=>by
     have:=b3 (q-lo) (by lia) (by lia)
     rwa [show lo+(q-lo)=q by lia] at this
    by_cases i1:i=lo+l
    ·rw [if_pos i1]
     by_cases j1:j=lo+l
     ·rw [if_pos j1];exact dh _
     ·rw [if_neg j1,if_pos (by lia)]
      exact bH (c2 _ (by lia) (by lia))
    ·rw [if_neg i1]
     by_cases i2:lo+l<i/\i<=lo+k
     ·rw [if_pos i2,if_neg (by lia),if_pos (by lia)]
      exact hu _ _ (by lia) (by lia) (by lia)
     ·rw [if_neg i2]
      by_cases j1:j=lo+l
      ·rw [if_pos j1]
       exact c1 _ hi (by lia)
      ·rw [if_neg j1]
       by_cases j2:lo+l<j/\j<=lo+k
       ·rw [if_pos j2]
        exact hu _ _ (by lia) (by lia) (by lia)
       ·rw [if_neg j2]
        exact hu _ _ (by lia) (by lia) (by lia)
 ·rintro q st ⟨rfl,ys,rfl,hs,hu⟩
  rw [show max (max ok 1) n=n by lia] at hu
  exact ⟨rfl,ys,rfl,hs,hu⟩
 ·rintro q st ⟨rfl,ys,rfl,hs,hu⟩
  exact wpS_pure (h ys hs hu)
end
end SortG
namespace SortG
open PySem PyProof.Rows
section
variable {M:Model}{A:Around}{E:Value->Shared->Prop}{s:Shared}{κ:SortKind}{G:Keyed->Prop}{R:Keyed->Int}{xs:Array Keyed}{pd:Array (Nat×Nat×Nat)}{g:Nat}
theorem xn5 {st st':SortSt}{Q:PUnit->SortSt->Prop}(h:Q ⟨⟩ st'):wpS M A E s (set st':StateT SortSt Sem PUnit) Q st:=by
 unfold wpS
 rw [StateT.run_set]
 exact wpAny_pure ⟨rfl,h⟩
theorem yb9 {o:Nat}:∀(m:List Keyed) (n:Nat) (xs:Array Keyed),o+n+m.length<=xs.size->((m.zipIdx n).foldl (λa (q:Keyed×Nat)=>a.setIfInBounds (o+q.2) q.1) xs).toList=xs.toList.take (o+n)++m++xs.toList.drop (o+n+m.length)
 | [],n,xs,h=>by simp
 | p::m,n,xs,h=>by
  rw [List.zipIdx_cons,List.foldl_cons,yb9 m (n+1) _ (by simp at h ⊢;lia)]
  rw [aC] at h
  have e:(xs.setIfInBounds (o+n) p).toList=xs.toList.take (o+n)++p::xs.toList.drop (o+n+1):=by
   rw [Array.toList_setIfInBounds,List.set_eq_take_append_cons_drop,if_pos (by simp;lia)]
  have hl:(xs.toList.take (o+n)).length=o+n:=by simp;lia
  have hd:xs.toList.drop (o+n+(m.length+1))=(xs.toList.drop (o+n+1)).drop m.length:=by rw [fy];congr 1;lia
  rw [aC,hd]
  dsimp only
  rw [e]
  generalize xs.toList.take (o+n)=T at hl ⊢
  generalize xs.toList.drop (o+n+1)=D
  rw [show o+(n+1)+m.length=T.length+(m.length+1) by lia,show o+(n+1)=T.length+1 by lia,List.take_length_add_append,List.drop_length_add_append,List.drop_succ_cons]
  simp
theorem yz5 {lo hi:Nat}(hz:hi<=xs.size)(u:∀i j,lo<=i->i<=j->j<hi->Ky R xs i<=Ky R xs j):SL R (xs.extract lo hi).toList:=by
 unfold SL
 rw [bI]
 intro i j hi' hj' hij
 have hj:j<hi-lo:=by rw [aP,Array.size_extract] at hj';lia
 have:=u (lo+i) (lo+j) (by lia) (by lia) (by lia)
 unfold Ky at this
 have e:∀k (h:k<(xs.extract lo hi).toList.length),(xs.extract lo hi).toList[k]=xs.getD (lo+k) dk:=λk h=>by
  have hk:k<hi-lo:=by rw [aP,Array.size_extract] at h;lia
  rw [Array.getElem_toList,Array.getElem_extract]
  simp [Array.getD,show lo+k<xs.size by lia]
 rw [e,e]
 exact this
theorem G1 {lo hi:Nat}(hz:hi<=xs.size){x:Keyed}(h:x∈(xs.extract lo hi).toList):∃j,lo<=j/\j<hi/\x=xs.getD j dk:=by
 rw [Array.toList_extract] at h
 simp only [List.extract] at h
 obtain ⟨j,h1,h2,rfl⟩:=zb4 h
 exact ⟨lo+j,by lia,by lia,rfl⟩
theorem yj9 {lo hi k:Nat}(hz:hi<=xs.size)(hk:lo+k<hi):(xs.extract lo hi).getD k dk=xs.getD (lo+k) dk:=by
 have h:k<(xs.extract lo hi).size:=by rw [Array.size_extract];lia
 rw [Array.getD,dif_pos h,Array.getD,dif_pos (by lia)]
 exact Array.getElem_extract ..
theorem yg4 (c:Cmp M A E s κ G R){i sa na sb nb pw pw':Nat}{Q:Bool->SortSt->Prop}(hG:∀x∈xs.toList,G x)(hi:pd[i]?=some (sa,na,pw))(hi':pd[i+1]?=some (sb,nb,pw'))(e:sb=sa+na)(n0:0<na)(m0:0<nb)(hz:sb+nb<=xs.size)(u1:UpS R xs sa na)(u2:UpS R xs sb nb)
  (h:∀ys g',Seg xs ys sa (sb+nb)->UpS R ys sa (na+nb)->Q true (Sx κ ys ((pd.setIfInBounds i (sa,na+nb,pw)).eraseIdxIfInBounds (i+1)) g')):wpS M A E s (mergeAt' i) Q (Sx κ xs pd g):=by
 subst e
 refine wpS_bind (wpS_get ?_)
 dsimp only
 rw [show (pendingOf (Sx κ xs pd g))[i]?=some (sa,na,pw) from hi,show (pendingOf (Sx κ xs pd g))[i+1]?=some (sa+na,nb,pw') from hi']
 dsimp only
 refine wpS_bind (xn5 (wpS_bind (n5 (by lia) (wpS_bind (R9 c rfl (λi hi=>hG _ (p6 (by lia))) (hG _ (p6 (by lia))) (by lia) (by lia) (λi j hij hj=>u1 _ _ (by lia) (by lia) (by lia)) λk hpre=>?_)))))
 obtain ⟨hk1,hk2⟩:=hpre.no
 dsimp only
 generalize (pd.setIfInBounds i (sa,na+nb,pw)).eraseIdxIfInBounds (i+1)=pd' at h ⊢
 by_cases e1:na-k=0
 ·rw [if_pos (by simpa using e1)]
  refine wpS_pure (h xs g (Seg.refl _ _ _) λi j hi hij hj=>?_)
  by_cases h1:j<sa+na
  ·exact u1 i j hi hij h1
  ·by_cases h2:sa+na<=i
   ·exact u2 i j h2 hij (by lia)
   ·have a1:=(hk2 (i-sa) (by lia)).mpr (by lia)
    rw [show sa+(i-sa)=i by lia] at a1
    exact ck a1 (u2 _ j (ah _) (by lia) (by lia))
 rw [if_neg (by simpa using e1)]
 refine wpS_bind (n5 (by lia) (wpS_bind (R9 c rfl (λi hi=>hG _ (p6 (by lia))) (hG _ (p6 (by lia))) (by lia) (by lia) (λi j hij hj=>u2 _ _ (by lia) (by lia) (by lia)) λk1 hpre1=>?_)))
 obtain ⟨hm1,hm2⟩:=hpre1.yes
 rw [show sa+k+(na-k)-1=sa+na-1 by lia] at hm2
 dsimp only
 by_cases e2:k1=0
 ·rw [if_pos (by simpa using e2)]
  refine wpS_pure (h xs g (Seg.refl _ _ _) λi j hi hij hj=>?_)
  by_cases h1:j<sa+na
  ·exact u1 i j hi hij h1
  ·by_cases h2:sa+na<=i
   ·exact u2 i j h2 hij (by lia)
   ·have a1:¬_:=λz=>absurd ((hm2 0 m0).mp z) (by lia)
    have a2:=u1 i (sa+na-1) hi (by lia) (by lia)
    exact ck a2 (ck (bN.mp a1) (u2 _ j (by lia) (by lia) (by lia)))
 rw [if_neg (by simpa using e2)]
 have hzx:sa+na<=xs.size:=by lia
 have hzy:sa+na+k1<=xs.size:=by lia
 have gx:∀x∈(xs.extract (sa+k) (sa+na)).toList,G x:=λx hx=>by
  obtain ⟨j,h1,h2,rfl⟩:=G1 hzx hx
  exact hG _ (p6 (by lia))
 have gy:∀x∈(xs.extract (sa+na) (sa+na+k1)).toList,G x:=λx hx=>by
  obtain ⟨j,h1,h2,rfl⟩:=G1 hzy hx
  exact hG _ (p6 (by lia))
 have ux:SL R (xs.extract (sa+k) (sa+na)).toList:=yz5 hzx λi j h1 h2 h3=>u1 i j (by lia) h2 h3
 have uy:SL R (xs.extract (sa+na) (sa+na+k1)).toList:=yz5 hzy λi j h1 h2 h3=>u2 i j h1 h2 (by lia)
 have sx:(xs.extract (sa+k) (sa+na)).size=na-k:=by rw [Array.size_extract];lia
 have sy:(xs.extract (sa+na) (sa+na+k1)).size=k1:=by rw [Array.size_extract];lia
 have hf:∀x∈(xs.extract (sa+k) (sa+na)).toList,R ((xs.extract (sa+na) (sa+na+k1)).getD 0 dk)<R x:=λx hx=>by
  obtain ⟨j,h1,h2,rfl⟩:=G1 hzx hx
  rw [yj9 hzy (by lia)]
  have a1:¬_:=λz=>absurd ((hk2 (j-sa) (by lia)).mp z) (by lia)
  rw [show sa+(j-sa)=j by lia] at a1
  exact Int.not_le.mp a1
 have hl:∀x∈(xs.extract (sa+na) (sa+na+k1)).toList,R x<R ((xs.extract (sa+k) (sa+na)).getD ((xs.extract (sa+k) (sa+na)).size-1) dk):=λx hx=>by
  obtain ⟨j,h1,h2,rfl⟩:=G1 hzy hx
  rw [sx,yj9 hzx (by lia),show sa+k+(na-k-1)=sa+na-1 by lia]
  have:=(hm2 (j-(sa+na)) (by lia)).mpr (by lia)
  rwa [show sa+na+(j-(sa+na))=j by lia] at this
 have fin:∀(out:Array Keyed) (st':SortSt),Sg (Sx κ xs pd' g) st'->out.toList.Perm ((xs.extract (sa+k) (sa+na)).toList++(xs.extract (sa+na) (sa+na+k1)).toList)->SL R out.toList->∃g',st'=Sx κ xs pd' g'/\Q true (Sx κ (out.toList.zipIdx.foldl (λa (q:Keyed×Nat)=>a.setIfInBounds (sa+k+q.2) q.1) xs) pd' g'):=λout st' sg hp hs=>by
  have hlen:out.toList.length=na-k+k1:=by rw [hp.length_eq,af,aP,aP,sx,sy]
  have hosz:out.size=na-k+k1:=by rw [←aP];exact hlen
  refine ⟨gallopOf st',?_,?_⟩
  ·obtain ⟨a1,a2,a3,a4⟩:=sg
   cases st'
   cases a1;cases a2;cases a3;cases a4
   rfl
  have epl:=yb9 (o:=sa+k) out.toList 0 xs (by rw [hlen];lia)
  rw [eU,hlen,show sa+k+(na-k+k1)=sa+na+k1 by lia] at epl
  generalize out.toList.zipIdx.foldl (λa (q:Keyed×Nat)=>a.setIfInBounds (sa+k+q.2) q.1) xs=ys at epl ⊢
  have hys:ys.size=xs.size:=by
   have:=congrArg List.length epl
   simp only [af,bj,bU,aP,hosz] at this
   lia
  have at_:∀p,ys[p]?=if p<sa+k then xs[p]? else if p<sa+na+k1 then out[p-(sa+k)]? else xs[p]?:=λp=>by
   rw [←bC,epl]
   have hl1:(xs.toList.take (sa+k)).length=sa+k:=by simp;lia
   by_cases p1:p<sa+k
   ·rw [if_pos p1,aY,aS (by lia),dA p1,bC]
   ·rw [if_neg p1]
    by_cases p2:p<sa+na+k1
    ·rw [if_pos p2,aS (by rw [af,hl1,hlen];lia),aU (by lia),hl1,bC]
    ·rw [if_neg p2,aU (by rw [af,hl1,hlen];lia),dw,af,hl1,hlen,bC]
     congr 1
     lia
  have mem:∀z∈out.toList,∃j,sa+k<=j/\j<sa+na+k1/\z=xs.getD j dk:=λz hz=>by
   rcases aD.mp (hp.mem_iff.mp hz) with q|q
   ·obtain ⟨j,h1,h2,rfl⟩:=G1 hzx q
    exact ⟨j,h1,by lia,rfl⟩
   ·obtain ⟨j,h1,h2,rfl⟩:=G1 hzy q
    exact ⟨j,by lia,h2,rfl⟩
  refine h ys _ ⟨hys,?_,λp hp'=>?_⟩ ?_
  ·rw [epl]
   have ex:xs.toList=xs.toList.take (sa+k)++((xs.extract (sa+k) (sa+na)).toList++(xs.extract (sa+na) (sa+na+k1)).toList)++xs.toList.drop (sa+na+k1):=by
    have q1:=D2 (a:=xs) (sa+k) (na-k)
    have q2:=D2 (a:=xs) (sa+na) k1
    rw [←zj7,show sa+k+(na-k)=sa+na by lia] at q1
    rw [←zj7] at q2
    rw [aY,aY,←q2,←q1,bK]
   conv=>rhs;rw [ex]
   exact List.Perm.append_right _ (List.Perm.append_left _ hp)
  ·rw [at_]
   split
   ·rfl
   ·rw [if_neg (by lia)]
  ·
   have lowk:∀i,sa<=i->i<sa+k->∀j,i<=j->j<sa+na+nb->Ky R xs i<=Ky R xs j:=λi h1 h2 j h3 h4=>by
    by_cases q:j<sa+na
    ·exact u1 i j h1 h3 q
    ·have a1:=(hk2 (i-sa) (by lia)).mpr (by lia)
     rw [show sa+(i-sa)=i by lia] at a1
     exact ck a1 (u2 _ j (ah _) (by lia) (by lia))
   have highk:∀j,sa+na+k1<=j->j<sa+na+nb->∀i,sa<=i->i<=j->Ky R xs i<=Ky R xs j:=λj h1 h2 i h3 h4=>by
    by_cases q:sa+na<=i
    ·exact u2 i j q h4 (by lia)
    ·have a1:¬_:=λz=>absurd ((hm2 (j-(sa+na)) (by lia)).mp z) (by lia)
     rw [show sa+na+(j-(sa+na))=j by lia] at a1
     exact ck (u1 i (sa+na-1) h3 (by lia) (by lia)) (bN.mp a1)
   have kl:∀p,p<sa+k->Ky R ys p=Ky R xs p:=λp hp'=>B6 (by rw [at_,if_pos hp'])
   have kh:∀p,sa+na+k1<=p->Ky R ys p=Ky R xs p:=λp hp'=>B6 (by rw [at_,if_neg (by lia),if_neg (by lia)])
   have km:∀p,sa+k<=p->p<sa+na+k1->Ky R ys p=R (out.getD (p-(sa+k)) dk)/\out.getD (p-(sa+k)) dk∈out.toList:=λp h1 h2=>⟨B6 (R:=R) (xs:=out) (j:=p-(sa+k)) (by rw [at_,if_neg (by lia),if_pos h2]),p6 (by lia)⟩
   intro i j hi hij hj
   by_cases i1:i<sa+k
   ·rw [kl i i1]
    by_cases j1:j<sa+k
    ·rw [kl j j1]
     exact lowk i hi i1 j hij (by lia)
    ·by_cases j2:j<sa+na+k1
     ·obtain ⟨q1,q2⟩:=km j (by lia) j2
      obtain ⟨z,z1,z2,z3⟩:=mem _ q2
      rw [q1,z3]
      exact lowk i hi i1 z (by lia) (by lia)
     ·rw [kh j (by lia)]
      exact lowk i hi i1 j hij (by lia)
   ·by_cases i2:i<sa+na+k1
    ·obtain ⟨q1,q2⟩:=km i (by lia) i2
     by_cases j2:j<sa+na+k1
     ·obtain ⟨q3,q4⟩:=km j (by lia) j2
      rw [q1,q3]
      exact hs.get (by lia) (by lia)
     ·obtain ⟨z,z1,z2,z3⟩:=mem _ q2
      rw [q1,z3,kh j (by lia)]
      exact highk j (by lia) (by lia) z (by lia) (by lia)
    ·rw [kh i (by lia),kh j (by lia)]
     exact highk j (by lia) (by lia) i hi hij
 by_cases e3:na-k<=k1
 ·rw [if_pos e3]
  refine wpS_bind (yg6 c rfl gx gy ux uy (by lia) (by lia) (λx hx=>bH (hf x hx)) hl λout st' sg hp hs=>?_)
  obtain ⟨g',rfl,hq⟩:=fin out st' sg hp hs
  exact wpS_bind (wpS_modify (wpS_bind (wpS_get (wpS_pure hq))))
 ·rw [if_neg e3]
  refine wpS_bind (yg5 c rfl gx gy ux uy (by lia) (by lia) hf hl λout st' sg hp hs=>?_)
  obtain ⟨g',rfl,hq⟩:=fin out st' sg hp hs
  exact wpS_bind (wpS_modify (wpS_bind (wpS_get (wpS_pure hq))))
end
end SortG
namespace SortG
open PySem PyProof.Rows
section
variable {M:Model}{A:Around}{E:Value->Shared->Prop}{s:Shared}{κ:SortKind}{G:Keyed->Prop}{R:Keyed->Int}{xs ys:Array Keyed}{pd:Array (Nat×Nat×Nat)}{g:Nat}
def V9 (R:Keyed->Int)(xs:Array Keyed):List (Nat×Nat×Nat)->Nat->Nat->Prop
 | [],a,b=>a=b
 | (st,n,_)::r,a,b=>st=a/\0<n/\UpS R xs a n/\V9 R xs r (a+n) b
theorem V9.le:∀{l:List (Nat×Nat×Nat)} {a b:Nat},V9 R xs l a b->a+l.length<=b
 | [],a,b,h=>by cases h;exact ah _
 | (st,n,_)::r,a,b,h=>by
  have:=V9.le h.2.2.2
  have:=h.2.1
  rw [aC]
  lia
theorem J3:∀{l l':List (Nat×Nat×Nat)} {a b:Nat},V9 R xs (l++l') a b↔∃m,V9 R xs l a m/\V9 R xs l' m b
 | [],l',a,b=>⟨λh=>⟨a,rfl,h⟩,λ⟨m,h1,h2⟩=>by cases h1;exact h2⟩
 | (st,n,p)::r,l',a,b=>by
  constructor
  ·rintro ⟨h1,h2,h3,h4⟩
   obtain ⟨m,h5,h6⟩:=J3.mp h4
   exact ⟨m,⟨h1,h2,h3,h5⟩,h6⟩
  ·rintro ⟨m,⟨h1,h2,h3,h5⟩,h6⟩
   exact ⟨h1,h2,h3,J3.mpr ⟨m,h5,h6⟩⟩
theorem UpS.seg {lo n l h:Nat}(u:UpS R xs lo n)(hs:Seg xs ys l h)(ho:lo+n<=l∨h<=lo):UpS R ys lo n:=λi j h1 h2 h3=>by
 rw [hs.ky (by lia),hs.ky (by lia)]
 exact u i j h1 h2 h3
theorem V9.seg {l0 h0:Nat}(hs:Seg xs ys l0 h0):∀{l:List (Nat×Nat×Nat)} {a b:Nat},V9 R xs l a b->(b<=l0∨h0<=a)->V9 R ys l a b
 | [],a,b,h,_=>h
 | (st,n,_)::r,a,b,⟨h1,h2,h3,h4⟩,ho=>by
  have:=h4.le
  exact ⟨h1,h2,h3.seg hs (by lia),V9.seg hs h4 (by lia)⟩
theorem B9 (c:Cmp M A E s κ G R){i lo:Nat}{Q:Bool->SortSt->Prop}(hG:∀x∈xs.toList,G x)(hr:V9 R xs pd.toList 0 lo)(hlo:lo<=xs.size)(hi:i+1<pd.size)
  (h:∀ys pd' g',Seg xs ys 0 lo->V9 R ys pd'.toList 0 lo->pd'.size+1=pd.size->Q true (Sx κ ys pd' g')):wpS M A E s (mergeAt' i) Q (Sx κ xs pd g):=by
 obtain ⟨l1,X,Y,l2,e,e1⟩:∃l1 X Y l2,pd.toList=l1++X::Y::l2/\l1.length=i:=by
  refine ⟨pd.toList.take i,pd[i],pd[i+1],pd.toList.drop (i+1+1),?_,by simp;lia⟩
  rw [←Array.getElem_toList,←Array.getElem_toList,←cn (by simp;lia),←cn (by simp;lia),bK]
 obtain ⟨sa,na,pw⟩:=X
 obtain ⟨sb,nb,pw'⟩:=Y
 rw [e] at hr
 obtain ⟨m,r1,a1,a2,a3,b1,b2,b3,r2⟩:=J3.mp hr
 subst a1 b1
 have hle:=r2.le
 have hl1:=r1.le
 have p1:pd[i]?=some (sa,na,pw):=by rw [←bC,e,←e1];simp
 have p2:pd[i+1]?=some (sa+na,nb,pw'):=by rw [←bC,e,←e1];simp
 refine yg4 c hG p1 p2 rfl a2 b2 (by lia) a3 b3 λys g' hs hu=>?_
 have e2:((pd.setIfInBounds i (sa,na+nb,pw)).eraseIdxIfInBounds (i+1)).toList=l1++(sa,na+nb,pw)::l2:=by
  rw [Array.toList_eraseIdxIfInBounds,Array.toList_setIfInBounds,e,←e1,List.set_append_right _ _ (ah _),cU,List.set_cons_zero,List.eraseIdx_append_of_length_le (by lia),show l1.length+1-l1.length=1 by lia]
  rfl
 refine h ys _ g' (hs.mono (by lia) (by lia)) ?_ ?_
 ·rw [e2]
  exact J3.mpr ⟨sa,r1.seg hs (by lia),rfl,by lia,hu,by rw [show sa+(na+nb)=sa+na+nb by lia];exact r2.seg hs (by lia)⟩
 ·have:=congrArg List.length e2
  have h3:=congrArg List.length e
  simp only [af,aC,aP] at this h3
  lia
theorem yx4 {n:Nat}(hr:V9 R xs pd.toList 0 n)(h:pd.size<=1):UpS R xs 0 n:=by
 cases e:pd.toList with
 | nil =>
  rw [e] at hr
  cases hr
  exact λi j h1 h2 h3=>absurd h3 (by lia)
 | cons x l =>
  have hl:l=[]:=List.eq_nil_of_length_eq_zero (by have:=congrArg List.length e;rw [aC,aP] at this;lia)
  rw [e,hl] at hr
  obtain ⟨st,m,p⟩:=x
  obtain ⟨h1,h2,h3,h4⟩:=hr
  cases h4
  rwa [cT]
theorem yc1 {f:Nat×Nat×Nat->Nat×Nat×Nat}(hf:∀x,(f x).1=x.1/\(f x).2.1=x.2.1):∀{l:List (Nat×Nat×Nat)} {j a b:Nat},V9 R xs l a b->V9 R xs (l.modify j f) a b
 | [],j,a,b,h=>by simpa using h
 | x::l,0,a,b,h=>by
  obtain ⟨st,m,p⟩:=x
  rw [List.modify_zero_cons]
  obtain ⟨e1,e2⟩:=hf (st,m,p)
  generalize f (st,m,p)=y at e1 e2
  obtain ⟨st',m',p'⟩:=y
  cases e1
  cases e2
  exact h
 | x::l,j+1,a,b,h=>by
  obtain ⟨st,m,p⟩:=x
  rw [List.modify_succ_cons]
  exact ⟨h.1,h.2.1,h.2.2.1,yc1 hf h.2.2.2⟩
theorem sortRuns_ok (c:Cmp M A E s κ G R){Q:Unit->SortSt->Prop}(hG:∀x∈xs.toList,G x)
  (h:∀ys pd' g',ys.toList.Perm xs.toList->ys.size=xs.size->UpS R ys 0 xs.size->Q () (Sx κ ys pd' g')):wpS M A E s sortRuns' Q (Sx κ xs #[] g):=by
 rw [sortRuns'_eq]
 refine wpS_bind (wpS_get ?_)
 dsimp only
 rw [show (arrOf (Sx κ xs #[] g)).size=xs.size from rfl]
 generalize minRun' xs.size xs.size 0=mr
 refine wpS_bind (wpS_mono (Q:=λq st=>∃ys pd' g',q=(none,xs.size)/\st=Sx κ ys pd' g'/\Seg xs ys 0 xs.size/\V9 R ys pd'.toList 0 xs.size) (wpS_forRange (I:=λj q st=>∃lo ys pd' g',q=(none,lo)/\st=Sx κ ys pd' g'/\Seg xs ys 0 xs.size/\V9 R ys pd'.toList 0 lo/\lo<=xs.size/\j<=lo) ?_ ?_ ⟨0,xs,#[],g,rfl,rfl,Seg.refl _ _ _,rfl,aR _,ah _⟩) ?_)
 ·rintro j q st _ hj ⟨lo,ys,pd',g',rfl,rfl,hs,hr,hlo,hjl⟩
  dsimp only
  by_cases e1:lo ≥ xs.size
  ·rw [if_pos e1]
   obtain rfl:lo=xs.size:=by lia
   exact wpS_pure ⟨ys,pd',g',rfl,rfl,hs,hr⟩
  rw [if_neg e1]
  have gy:∀{zs:Array Keyed},Seg xs zs 0 xs.size->∀x∈zs.toList,G x:=λhs x hx=>hG x (hs.perm.mem_iff.mp hx)
  refine wpS_bind (yr9 c (gy hs) (by lia) (by rw [hs.size];lia) λm zs hm1 hm2 hsz hum=>?_)
  have hs1:Seg xs zs 0 xs.size:=hs.trans (hsz.mono (by lia) (by lia))
  have hr1:V9 R zs pd'.toList 0 lo:=hr.seg hsz (by lia)
  dsimp only
  rcases cX m mr with e2|e2
  all_goals first|rw [if_pos e2]|rw [if_neg (by lia)]
  all_goals first
   | (
     have e3:m<mr:=e2
     refine wpS_bind (F7 (wpS_bind (xj2 c (gy hs1) hm1 (by lia) (by rw [hs1.size];lia) hum λvs hv huv=>?_)))
     rw [if_neg (by simp)]
     have hs2:Seg xs vs 0 xs.size:=hs1.trans (hv.mono (by lia) (by lia))
     have hr2:V9 R vs pd'.toList 0 lo:=hr1.seg hv (by lia)
     have hN:0<min (xs.size-lo) mr/\lo+min (xs.size-lo) mr<=xs.size:=by lia
     generalize min (xs.size-lo) mr=N at huv hN ⊢)
   | (
     obtain ⟨vs,evs⟩:∃vs,vs=zs:=⟨_,rfl⟩
     rw [←evs] at hs1 hr1 hum ⊢
     have hs2:=hs1
     have hr2:=hr1
     have hN:0<m/\lo+m<=xs.size:=by lia
     have huv:=hum
     generalize m=N at huv hN ⊢)
  all_goals
   refine wpS_bind (wpS_get ?_)
   have last:∀{us:Array Keyed} {pd2:Array (Nat×Nat×Nat)},V9 R us pd2.toList 0 lo->UpS R us lo N->V9 R us (pd2.push (lo,N,0)).toList 0 (lo+N):=λhr hu=>by
    rw [Array.toList_push]
    exact J3.mpr ⟨lo,hr,rfl,hN.1,hu,rfl⟩
   have eb:(pendingOf (Sx κ vs pd' g')).back?=pd'.back?:=rfl
   rw [eb]
   cases pd'.back? with
   | none=>exact wpS_bind (wpS_modify (wpS_pure ⟨_,_,_,_,rfl,rfl,hs2,last hr2 huv,hN.2,by lia⟩))
   | some x =>
    obtain ⟨s1,n1,x⟩:=x
    dsimp only
    generalize power' xs.size (2*s1+n1) (2*s1+n1+n1+N) xs.size=pw
    refine wpS_bind (wpS_mono (Q:=λq st=>q=(none,())/\∃us pd2 g2,st=Sx κ us pd2 g2/\Seg xs us 0 xs.size/\V9 R us pd2.toList 0 lo/\UpS R us lo N) (wpS_forRange (I:=λ_ q st=>q=(none,())/\∃us pd2 g2,st=Sx κ us pd2 g2/\Seg xs us 0 xs.size/\V9 R us pd2.toList 0 lo/\UpS R us lo N) ?_ ?_ ⟨rfl,vs,pd',g',rfl,hs2,hr2,huv⟩) ?_)
    ·rintro j2 q st _ _ ⟨rfl,us,pd2,g2,rfl,hsu,hru,huu⟩
     refine wpS_bind (wpS_get ?_)
     have ep:pendingOf (Sx κ us pd2 g2)=pd2:=rfl
     rw [ep]
     cases eo:(if pd2.size > 1 then pd2[pd2.size-2]? else none) with
     | none=>exact wpS_pure ⟨rfl,us,pd2,g2,rfl,hsu,hru,huu⟩
     | some y =>
      obtain ⟨y1,y2,y3⟩:=y
      have hp2:pd2.size > 1:=Classical.byContradiction λz=>by rw [if_neg z] at eo;cases eo
      dsimp only
      by_cases e5:y3<=pw
      ·rw [if_pos e5]
       exact wpS_pure ⟨rfl,us,pd2,g2,rfl,hsu,hru,huu⟩
      ·rw [if_neg e5]
       refine wpS_bind (B9 c (gy hsu) hru (by rw [hsu.size];lia) (by lia) λws pd3 g3 hsw hrw _=>?_)
       rw [if_neg (by simp)]
       exact wpS_pure ⟨rfl,ws,pd3,g3,rfl,hsu.trans (hsw.mono (by lia) (by lia)),hrw,huu.seg hsw (by lia)⟩
    ·rintro q st hq
     exact hq
    ·rintro q st ⟨rfl,us,pd2,g2,rfl,hsu,hru,huu⟩
     refine wpS_bind (wpS_modify (wpS_bind (wpS_modify (wpS_pure ⟨_,us,_,g2,rfl,rfl,hsu,last ?_ huu,hN.2,by lia⟩))))
     show V9 R us (pd2.modify (pd2.size-1) _).toList 0 lo
     rw [Array.toList_modify]
     exact yc1 (f:=λx=>(x.1,x.2.1,pw)) (λx=>⟨rfl,rfl⟩) hru
 ·rintro q st ⟨lo,ys,pd',g',rfl,rfl,hs,hr,hlo,hjl⟩
  obtain rfl:lo=xs.size:=by lia
  exact ⟨ys,pd',g',rfl,rfl,hs,hr⟩
 ·rintro q st ⟨ys,pd',g',rfl,rfl,hs,hr⟩
  dsimp only
  have gy:∀{zs:Array Keyed},Seg xs zs 0 xs.size->∀x∈zs.toList,G x:=λhs x hx=>hG x (hs.perm.mem_iff.mp hx)
  have hlen:=hr.le
  rw [aP,cT] at hlen
  refine wpS_bind (wpS_mono (Q:=λq st=>q=(none,())/\∃us pd2 g2,st=Sx κ us pd2 g2/\Seg xs us 0 xs.size/\V9 R us pd2.toList 0 xs.size/\pd2.size<=1) (wpS_forRange (I:=λj q st=>q=(none,())/\∃us pd2 g2,st=Sx κ us pd2 g2/\Seg xs us 0 xs.size/\V9 R us pd2.toList 0 xs.size/\pd2.size+j<=xs.size) ?_ ?_ ⟨rfl,ys,pd',g',rfl,hs,hr,by lia⟩) ?_)
  ·rintro j q st _ hj ⟨rfl,us,pd2,g2,rfl,hsu,hru,hle⟩
   refine wpS_bind (wpS_get ?_)
   have ep:pendingOf (Sx κ us pd2 g2)=pd2:=rfl
   rw [ep]
   by_cases e1:pd2.size<=1
   ·rw [if_pos e1]
    exact wpS_pure ⟨rfl,us,pd2,g2,rfl,hsu,hru,e1⟩
   rw [if_neg e1]
   obtain ⟨i,ei,hi⟩:∃i,(if Option.any (λx=>decide (x<(pd2[pd2.size-2+1]?.elim 0 λx=>x.snd.fst))) (if pd2.size-2 > 0 then Option.map (λx=>x.snd.fst) pd2[pd2.size-2-1]? else none)=true then pd2.size-2-1 else pd2.size-2)=i/\i+1<pd2.size:=by
    have ite:∀{p:Prop} [Decidable p] {a b n:Nat},a<n->b<n->(if p then a else b)<n:=λh1 h2=>by
     split
     ·exact h1
     ·exact h2
    exact ⟨_,rfl,Nat.add_lt_of_lt_sub (ite (by lia) (by lia))⟩
   rw [ei]
   refine wpS_bind (B9 c (gy hsu) hru (by rw [hsu.size];exact ah _) hi λws pd3 g3 hsw hrw hsz=>?_)
   rw [if_neg (by simp)]
   exact wpS_pure ⟨rfl,ws,pd3,g3,rfl,hsu.trans hsw,hrw,by lia⟩
  ·rintro q st ⟨rfl,us,pd2,g2,rfl,hsu,hru,hle⟩
   exact ⟨rfl,us,pd2,g2,rfl,hsu,hru,by lia⟩
  ·rintro q st ⟨rfl,us,pd2,g2,rfl,hsu,hru,hle⟩
   exact wpS_pure (h us pd2 g2 hsu.perm hsu.size (yx4 hru hle))
end
end SortG
namespace L2
open PySem PySem.Spec PyProof.Rows
section
variable {prog:Program}{w:World}{A:Around}{E:Value->Shared->Prop}{s:Shared}
theorem yu7:∀{vs ws:List Value} {xs ys:List Int} {i:Nat} {Q:Bool->Shared->Prop} {fin:Bool},IntsAre vs xs->IntsAre ws ys->fin=decide (xs.length<ys.length)->Q (HT.lexLt xs ys) s->W.KatLex prog w A true fin Q (vs.zip ws) i s
 | _,_,_,_,i,Q,fin,.nil,.nil,hf,h=>by
  rw [hf]
  exact W.kat_nil h
 | _,_,_,_,i,Q,fin,.nil,.cons _ _ _,hf,h=>by
  rw [hf]
  exact W.kat_nil h
 | _,_,_,_,i,Q,fin,.cons _ _ _,.nil,hf,h=>by
  rw [hf]
  exact W.kat_nil h
 | _,_,_,_,i,Q,fin,.cons (ns:=xs) a t r,.cons (ns:=ys) b u r',hf,h=>by
  rw [HT.lexLt_cons] at h
  refine W.kat_cons (wpAny_eqBool_int (W.kat_go (λe1=>W.kat_yes ?_) (λe1=>W.kat_no ?_)))
  ·rw [beq_iff_eq] at e1
   rw [if_pos e1] at h
   exact yu7 r r' (by rw [hf];simp) h
  ·have e1':¬a=b:=by simpa using e1
   rw [if_neg e1'] at h
   cases i with
   | zero =>
    show wpAny (model prog w) A (oneLt' true _ _) Q _ s
    exact oneLt_int h
   | succ i =>
    show wpAny (model prog w) A (oneLt' false _ _) Q _ s
    exact W.kat_one _ _ (PyProof.Rows.lt_int h)
def S9 (h:Heap)(b:Addr)(x:List Int):Prop:=∃us:List Value,IsTup h b us.toArray/\IntsAre us x
theorem S9.at {h h':Heap}{b:Addr}{x:List Int}(p:S9 h b x)(k:∀o,h.get? b=some o->h'.get? b=some o):S9 h' b x:=by
 obtain ⟨us,⟨o,ho,r⟩,i⟩:=p
 exact ⟨us,⟨o,k o ho,r⟩,i⟩
theorem xr0 {b c:Addr}{x y:List Int}(hb:S9 s.heap b x)(hc:S9 s.heap c y){Q:Bool->Shared->Prop}(h:Q (HT.lexLt x y) s):wpAny (model prog w) A (keyLt' (tuples' true) (.ref b) (.ref c)) Q E s:=by
 obtain ⟨us,⟨o,ho,_,n,hd⟩,i⟩:=hb
 obtain ⟨us',⟨o',ho',_,n',hd'⟩,i'⟩:=hc
 refine W.kat_lt ho hd ho' hd' ?_
 rw [cE,cE]
 refine yu7 i i' ?_ h
 rw [aB,aB,i.length,i'.length]
def rkL (rs:List (List Int))(x:List Int):Int:=((rs.filter λy=>HT.lexLt y x).length:Nat)
theorem yo9 {x y z:List Int}(h1:HT.lexLt x y=true)(h2:HT.lexLt y z=true):HT.lexLt x z=true:=by
 cases h:HT.lexLt x z with
 | true=>rfl
 | false=>rw [yg0 (yu8 h2) h] at h1;cases h1
theorem xm9 (rs:List (List Int)){x y:List Int}(h:HT.lexLt y x=false):rkL rs x<=rkL rs y:=by
 unfold rkL
 refine Int.ofNat_le.mpr ?_
 induction rs with
 | nil=>exact ah _
 | cons z rs ih =>
  rw [dC,dC]
  cases e:HT.lexLt z x with
  | false =>
   rw [if_neg aE]
   split
   ·exact Nat.le_succ_of_le ih
   ·exact ih
  | true =>
   have:HT.lexLt z y=true:=by
    cases e':HT.lexLt z y with
    | true=>rfl
    | false=>rw [yg0 h e'] at e;cases e
   rw [if_pos rfl,if_pos this,aC,aC]
   lia
theorem yx1 (rs:List (List Int)){x y:List Int}(hx:x∈rs)(h:HT.lexLt x y=true):rkL rs x<rkL rs y:=by
 have key:∀l:List (List Int),(l.filter λz=>HT.lexLt z x).length<=(l.filter λz=>HT.lexLt z y).length/\(x∈l->(l.filter λz=>HT.lexLt z x).length<(l.filter λz=>HT.lexLt z y).length):=λl=>by
  induction l with
  | nil=>exact ⟨ah _,λz=>by cases z⟩
  | cons z l ih =>
   rw [dC,dC]
   cases e:HT.lexLt z x with
   | true =>
    rw [if_pos rfl,if_pos (yo9 e h),aC,aC]
    refine ⟨by lia,λhz=>?_⟩
    rcases aq.mp hz with q|q
    ·rw [q,yk4] at e
     cases e
    ·have:=ih.2 q
     lia
   | false =>
    rw [if_neg aE]
    by_cases e':HT.lexLt z y=true
    ·rw [if_pos e',aC]
     exact ⟨by lia,λ_=>by lia⟩
    ·rw [if_neg e']
     refine ⟨ih.1,λhz=>?_⟩
     rcases aq.mp hz with q|q
     ·rw [←q] at e'
      exact absurd h e'
     ·exact ih.2 q
 unfold rkL
 exact Int.ofNat_lt.mpr ((key rs).2 hx)
theorem xf4 (rs:List (List Int)){x y:List Int}(hx:x∈rs):decide (rkL rs x<rkL rs y)=HT.lexLt x y:=by
 cases h:HT.lexLt x y with
 | true=>exact decide_eq_true (yx1 rs hx h)
 | false=>exact decide_eq_false (bN.mpr (xm9 rs h))
theorem yp7 {h:Heap}{as:List Addr}{rs:List (List Int)}(hp:Paired (S9 h) as rs)(hne:∀r∈rs,r≠[]):∃fs,W.KatTups h (as.map Value.ref) fs/\fs.length=as.length/\∀v∈fs,∃i t,v=Value.int i t:=by
 induction hp with
 | nil=>exact ⟨[],trivial,rfl,λv h=>(by cases h)⟩
 | cons a _ ih =>
  obtain ⟨fs,h1,h2,h3⟩:=ih λr hr=>hne r (aw _ hr)
  obtain ⟨us,⟨o,ho,hc,n,hd⟩,i⟩:=a
  cases i with
  | nil=>exact absurd rfl (hne _ ay)
  | cons x t r =>
   refine ⟨Value.int x t::fs,W.KatTups.cons ho hc hd rfl h1,by rw [aC,aC,h2],λv hv=>?_⟩
   rcases aq.mp hv with z|z
   ·exact ⟨_,_,z⟩
   ·exact h3 v z
theorem zx3 {h h':Heap}{as:List Addr}{rs:List (List Int)}(hp:Paired (S9 h) as rs)(k:∀b∈as,∀o,h.get? b=some o->h'.get? b=some o):Paired (S9 h') as rs:=by
 induction hp with
 | nil=>exact .nil
 | cons f _ ih=>exact .cons (f.at λo eo=>k _ ay o eo) (ih λb hb'=>k b (aw _ hb'))
theorem B4:∀{us:List Value} {x y:List Int},IntsAre us x->IntsAre us y->x=y
 | _,_,_,.nil,.nil=>rfl
 | _,_,_,.cons a t r,.cons _ _ r'=>by rw [B4 r r']
theorem zc5 {h:Heap}{b:Addr}{x y:List Int}(hx:S9 h b x)(hy:S9 h b y):x=y:=by
 obtain ⟨us,⟨o,ho,_,n,hd⟩,i⟩:=hx
 obtain ⟨us',⟨o',ho',_,n',hd'⟩,i'⟩:=hy
 rw [ho] at ho'
 cases ho'
 rw [hd] at hd'
 cases hd'
 exact B4 i i'
def adr:Value->Addr
 | .ref a=>a
 | _=>0
theorem E6 {a:Addr}{as:List Addr}{rs:List (List Int)}{n:Nat}{P:PySem.Fin->Shared->Prop}(ho:s.heap.get? a=some (seqObj "list" (as.map Value.ref).toArray n)) (hp:Paired (S9 s.heap) as rs) (hne:∀b∈as,b≠a) (hb:∀x∈rs,x≠[]) (h64:as.length<=400000)
  (q:∀(bs:List Addr) (qs:List (List Int)),bs.length=as.length->(∀b∈bs,b∈as)->Paired (S9 s.heap) bs qs->qs.Perm rs->qs.Pairwise (λx y=>HT.lexLt y x=false)->P (.done (.ret .none)) { s with heap:=sortedHeap s.heap a (as.map Value.ref) (bs.map Value.ref).toArray }) :
  wpAny (model prog w) A (Builtin.«list.sort» ⟨[.ref a],[]⟩) P E s:=by
 have hlen:as.length=rs.length:=Paired.length hp
 have h16:=sizeLine_eq
 have hvl:(as.map Value.ref).length=as.length:=ae _
 rw [list_sort_plain]
 have ha:a<s.heap.objs.size:=az ho
 refine wpAny_bind (listItems_at ho rfl (wpAny_bind (listUpdate_at ho rfl ?_ (by rw [aB];lia) (aR _))))
 obtain ⟨e1,ho1⟩:∃e1,(s.heap.update a (Obj.mapSeq λ_=>#[])).get? a=some (seqObj "list" #[] e1):=⟨_,get?_update_seq ho (λ_=>#[])⟩
 refine wpAny_bind (seqEpoch_at ho1 rfl (wpAny_bind (wpAny_newTuple (wpAny_bind (wpAny_newList (wpAny_holding ?_) (aR _))) (by show (as.map Value.ref).length<=_;lia))))
 have keep:∀b o,b≠a->s.heap.get? b=some o->(((s.heap.update a (Obj.mapSeq λ_=>#[])).push (seqObj "tuple" (as.map Value.ref).toArray 0)).push (seqObj "list" #[] 0)).get? b=some o:=λb o nb eb =>
  al _ (al _ ((Heap.get?_update_other _ _ (Ne.symm nb)).trans eb))
 have ho6:(((s.heap.update a (Obj.mapSeq λ_=>#[])).push (seqObj "tuple" (as.map Value.ref).toArray 0)).push (seqObj "list" #[] 0)).get? a=some (seqObj "list" #[] e1):=al _ (al _ ho1)
 have hp6:Paired (S9 (((s.heap.update a (Obj.mapSeq λ_=>#[])).push (seqObj "tuple" (as.map Value.ref).toArray 0)).push (seqObj "list" #[] 0))) as rs:=zx3 hp λb hb' o eo=>keep b o (hne b hb') eo
 show wpAny (model prog w) A _ P E { s with heap:=((s.heap.update a (Obj.mapSeq λ_=>(#[]:Array Value))).push (seqObj "tuple" (as.map Value.ref).toArray 0)).push (seqObj "list" #[] 0) }
 dsimp only
 by_cases h2:(as.map Value.ref).toArray.size<2
 ·rw [if_pos h2,if_pos h2]
  refine wpAny_bind (wpAny_pure ?_)
  rw [StateT.run_pure]
  refine wpAny_bind (wpAny_pure ?_)
  dsimp only
  have hz:((as.map Value.ref).toArray.zip (as.map Value.ref).toArray).map (·.2)=(as.map Value.ref).toArray:=by
   apply fq.mp
   rw [fm,Array.toList_zip,cE]
   exact List.map_snd_zip (ah _)
  refine wpAny_bind (seqEpoch_at ho6 rfl (wpAny_bind (listUpdate_at ho6 rfl ?_ (aR _) ?_)))
  ·simp only [bne_self_eq_false,bM,if_false]
   have hone:rs.Pairwise (λx y=>HT.lexLt y x=false):=by
    match rs,hlen with
    | [],_=>exact List.Pairwise.nil
    | [x],_=>exact List.pairwise_singleton _ _
    | _::_::r,hl =>
     rw [aB,hvl,hl,aC,aC] at h2
     lia
   have key:=q as rs rfl (λb hb=>hb) hp (List.Perm.refl _) hone
   have key2:∀o,o=(as.map Value.ref).toArray->P (.done (.ret .none)) { s with heap:=sortedHeap s.heap a (as.map Value.ref) o }:=λo e=>by rw [e];exact key
   exact wpAny_pure (key2 _ hz)
  ·show (((as.map Value.ref).toArray.zip (as.map Value.ref).toArray).map (·.2)).size<=_
   rw [hz,aB]
   lia
 ·rw [if_neg h2,if_neg h2]
  rw [aB,hvl] at h2
  obtain ⟨fs,t1,t2,t3⟩:=yp7 hp6 hb
  refine wpAny_bind (W.kat_kind (T:=.type "int") t1 (by lia) (λv hv=>?_) rfl ?_)
  ·obtain ⟨i,t,rfl⟩:=t3 v hv
   exact W.Looks.of_pure rfl
  show wpAny _ _ ((sortRuns').run (SortSt.mk' (tuples' true) _ _ _ _) >>= _) _ _ _
  obtain ⟨rowOf,hrow⟩:∃rowOf:Addr->List Int,∀i b,as[i]?=some b->rs[i]?=some (rowOf b):=by
   refine ⟨λb=>rs.getD (as.idxOf b) [],λi b hi=>?_⟩
   have hil:=(ag.mp hi).1
   have hbm:=au hi
   have h0:as.idxOf b<as.length:=List.idxOf_lt_length_iff.mpr hbm
   have e0:as[as.idxOf b]?=some b:=by rw [aa h0];simp
   have q1:=u4 hp i b _ hi (aa (show i<rs.length by lia))
   have q2:=u4 hp _ b _ e0 (aa (show as.idxOf b<rs.length by lia))
   rw [aa (show i<rs.length by lia),zc5 q1 q2]
   simp [aa (show as.idxOf b<rs.length by lia)]
  have hat:∀b∈as,rowOf b∈rs/\S9 s.heap b (rowOf b)/\S9 (((s.heap.update a (Obj.mapSeq λ_=>#[])).push (seqObj "tuple" (as.map Value.ref).toArray 0)).push (seqObj "list" #[] 0)) b (rowOf b):=λb hb'=>by
   obtain ⟨i,hi⟩:=aW hb'
   have hr:=hrow i b hi
   exact ⟨au hr,u4 hp i _ _ hi hr,u4 hp6 i _ _ hi hr⟩
  have hmap:as.map rowOf=rs:=cf λi=>by
   rw [ar]
   cases e:as[i]? with
   | none=>rw [aH (by have:=eK.mp e;lia)];rfl
   | some b=>rw [hrow i b e];rfl
  have hxs:((as.map Value.ref).toArray.zip (as.map Value.ref).toArray).toList=as.map λb=>((Value.ref b,Value.ref b):Keyed):=by
   rw [Array.toList_zip,cE]
   clear hp hlen ho hne hb q hp6 t1 t2 hrow hat hmap keep ho1 ho6 hvl h64 h2
   induction as with
   | nil=>rfl
   | cons b as ih=>rw [aI,aI,List.zip_cons_cons,ih]
  have cmp:SortG.Cmp (model prog w) A E ({ s with heap:=((s.heap.update a (Obj.mapSeq λ_=>(#[]:Array Value))).push (seqObj "tuple" (as.map Value.ref).toArray 0)).push (seqObj "list" #[] 0) }:Shared) (tuples' true) (λx=>∃b∈as,x=(Value.ref b,Value.ref b)) (λx=>rkL rs (rowOf (adr x.1))):=by
   refine ⟨?_⟩
   rintro x y st Q ⟨b,hb',rfl⟩ ⟨b',hb'',rfl⟩ hk hq
   rw [lt'_eq]
   refine wpS_bind (wpS_get ?_)
   rw [hk]
   refine wpS_bind (wpS_lift (wpAny_attempt (xr0 (hat b hb').2.2 (hat b' hb'').2.2 ⟨rfl,wpS_pure ?_⟩)))
   have e:=xf4 rs (hat b hb').1 (y:=rowOf b')
   have hq:Q (some (decide (rkL rs (rowOf b)<rkL rs (rowOf b')))) st:=hq
   rw [e] at hq
   exact hq
  refine wpAny_bind (wpAny_mono (SortG.sortRuns_ok cmp (λx hx=>?_) (Q:=λ_ st'=>∃(bs:List Addr) (qs:List (List Int)),(arrOf st').map (·.2)=(bs.map Value.ref).toArray/\failedOf st'=none/\bs.length=as.length/\(∀b∈bs,b∈as)/\Paired (S9 s.heap) bs qs/\qs.Perm rs/\qs.Pairwise (λx y=>HT.lexLt y x=false)) λys pd' g' hperm hsz hup=>?_) ?_ λ_ _ e=>e)
  ·rw [hxs] at hx
   obtain ⟨b,hb',rfl⟩:=av.mp hx
   exact ⟨b,hb',rfl⟩
  ·rw [hxs] at hperm
   have form:∀x∈ys.toList,∃b∈as,x=(Value.ref b,Value.ref b):=λx hx=>by
    obtain ⟨b,hb',e⟩:=av.mp (hperm.mem_iff.mp hx)
    exact ⟨b,hb',e.symm⟩
   have hbp:(ys.toList.map λx=>adr x.1).Perm as:=by
    have:=hperm.map λx=>adr x.1
    rw [bE,show (List.map ((λx:Keyed=>adr x.1) ∘ λb=>(Value.ref b,Value.ref b)) as)=as from (bp λb _=>rfl).trans (df as)] at this
    exact this
   have hmem:∀b∈ys.toList.map λx=>adr x.1,b∈as:=λb hb'=>hbp.mem_iff.mp hb'
   refine ⟨ys.toList.map λx=>adr x.1,(ys.toList.map λx=>adr x.1).map rowOf,?_,rfl,hbp.length_eq,hmem,?_,?_,?_⟩
   ·apply fq.mp
    rw [fm,cE,bE]
    refine bp λx hx=>?_
    obtain ⟨b,_,rfl⟩:=form x hx
    rfl
   ·have:∀l:List Addr,(∀b∈l,b∈as)->Paired (S9 s.heap) l (l.map rowOf):=λl=>by
     induction l with
     | nil=>exact λ_=>.nil
     | cons b l ih=>exact λhl=>.cons (hat b (hl b ay)).2.1 (ih λc hc=>hl c (aw _ hc))
    exact this _ hmem
   ·have:=hbp.map rowOf
    rwa [hmap] at this
   ·rw [bE]
    refine bn.mpr (bI.mpr λi j hi hj hij=>?_)
    rw [aP] at hi hj
    have h4:=hup i j (aR _) (bF hij) (by rw [cT,←hsz];exact hj)
    have e:∀k (hk:k<ys.size),ys.getD k SortG.dk=ys.toList[k]'(by simpa using hk):=λk hk=>by simp [Array.getD,hk]
    unfold SortG.Ky at h4
    rw [e i hi,e j hj] at h4
    have hm:(rowOf (adr (ys.toList[j]'(by simpa using hj)).1))∈rs:=by
     obtain ⟨b,hb',e'⟩:=form _ (bz (by simpa using hj))
     rw [e']
     exact (hat b hb').1
    cases e2:HT.lexLt (rowOf (adr (ys.toList[j]'(by simpa using hj)).1)) (rowOf (adr (ys.toList[i]'(by simpa using hi)).1)) with
    | false=>exact e2
    | true =>
     exact absurd (yx1 rs hm e2) (bN.mpr h4)
  ·rintro ⟨⟨⟩,st'⟩ s' ⟨rfl,bs,qs,hout,hf,hbl,hbm,hpq,hqp,hqs⟩
   dsimp only
   have hol:((arrOf st').map (·.2)).size<=sizeLine:=by
    rw [hout,aB,ae]
    lia
   refine wpAny_bind (seqEpoch_at ho6 rfl (wpAny_bind (listUpdate_at ho6 rfl ?_ (aR _) (Nat.le_succ_of_le hol))))
   rw [hf]
   simp only [bne_self_eq_false,bM,if_false]
   have key:=q bs qs hbl hbm hpq hqp hqs
   have key2:∀o,o=(bs.map Value.ref).toArray->P (.done (.ret .none)) { s with heap:=sortedHeap s.heap a (as.map Value.ref) o }:=λo e=>by rw [e];exact key
   exact wpAny_pure (key2 _ hout)
theorem yh5 {l:Addr}{as:List Addr}{rs:List (List Int)}{R:Value->Shared->Prop}(hl:s.heap.IsList l (as.map Value.ref).toArray)(hp:Paired (S9 s.heap) as rs)(hb:∀x∈rs,x≠[])(h64:as.length<=400000)
  (q:∀(bs:List Addr) (qs:List (List Int)),bs.length=as.length->(∀b∈bs,b∈as)->Paired (S9 s.heap) bs qs->qs.Perm rs->qs.Pairwise (λx y=>HT.lexLt y x=false)->R (.ref (gat s.heap (as.map Value.ref)).objs.size) { s with heap:=sortedHeap ((gat s.heap (as.map Value.ref)).push (seqObj "list" (as.map Value.ref).toArray 0)) (gat s.heap (as.map Value.ref)).objs.size (as.map Value.ref) (bs.map Value.ref).toArray }) :
  wpAny (model prog w) A (call (.builtin "sorted") [.ref l]) R E s:=by
 have h16:=sizeLine_eq
 have hvl:(as.map Value.ref).length=as.length:=ae _
 have hn:((gat s.heap (as.map Value.ref)).push (seqObj "list" (as.map Value.ref).toArray 0)).get? (gat s.heap (as.map Value.ref)).objs.size=some (seqObj "list" (as.map Value.ref).toArray 0):=aA _ rfl
 have lt:∀b∈as,b<s.heap.objs.size/\∃o,s.heap.get? b=some o:=λb hb'=>by
  obtain ⟨i,hi⟩:=aW hb'
  have hi2:=(ag.mp hi).1
  obtain ⟨us,⟨o,ho,_⟩,_⟩:=u4 hp i b _ hi (aa (by rw [←Paired.length hp];exact hi2))
  exact ⟨az ho,o,ho⟩
 refine Calls.call_function_entry kind_sorted plain_sorted entry_sorted (args_sorted1 (.ref l)) ?_
 unfold Builtin.«sorted»
 refine wpAny_bind (m:=checkCount "sorted" 1 1 _) (wpAny_pure (wpAny_bind (collect_list hl (wpAny_bind (wpAny_newList ?_ (by lia))) (by lia))))
 show wpAny _ _ _ _ _ { s with heap:=(gat s.heap (as.map Value.ref)).push (seqObj "list" (as.map Value.ref).toArray 0) }
 refine wpAny_bind (wpAny_holding (wpAny_call_entry slot_list_sort ⟨_,hn,rfl⟩ entry_list_sort (E6 (s:={ s with heap:=(gat s.heap (as.map Value.ref)).push (seqObj "list" (as.map Value.ref).toArray 0) }) hn (zx3 hp λb hb' o eo=>al _ (zh2 eo)) (λb hb' z=>?_) hb h64 λbs qs a1 a2 a3 a4 a5=>⟨_,rfl,wpAny_pure ⟨_,rfl,q bs qs a1 a2 (zx3 a3 λb hb' o eo=>?_) a4 a5⟩⟩) (args_list_sort _)))
 ·have h5:=(lt b hb').1
  have h6:=zj9 s.heap (as.map Value.ref)
  have h7:b=(gat s.heap (as.map Value.ref)).objs.size:=z
  rw [h7,h6] at h5
  exact bh _ (Nat.lt_of_succ_lt h5)
 ·obtain ⟨_,o',ho'⟩:=lt b (a2 b hb')
  have:=al (seqObj "list" (as.map Value.ref).toArray 0) (zh2 (vs:=as.map Value.ref) ho')
  rw [show ((gat s.heap (as.map Value.ref)).push (seqObj "list" (as.map Value.ref).toArray 0)).get? b=some o from eo] at this
  rw [ho',this]
end
section
variable {X:Cx}
theorem zt2:W1 X (.builtin "sorted") (λxs H Q=>∃(p:Addr) (as:List Addr) (rs:List (List Int)),xs=[.ref p]/\SqL X.K H p (as.map V.ref)/\Paired (λa x=>H a=some (.tup (x.map V.int))) as rs/\(∀x∈rs,x≠[])/\rs.length<=400000 /\
  ∀(l:Addr) (bs:List Addr) (qs:List (List Int)),H l=none->qs.Perm rs->qs.Pairwise (λx y=>HT.lexLt y x=false)->Paired (λa x=>H a=some (.tup (x.map V.int))) bs qs->Q (.ref l) (upd H l (.lst (bs.map V.ref)))):=by
 intro pins s σ H xs us Q I r h
 obtain ⟨p,as,rs,rfl,hq,hp,hb,h64,q⟩:=h
 obtain ⟨u,rfl,rx⟩:=L7 r
 cases rx
 obtain ⟨its,r1,p1,hz⟩:=I.list hq
 have hits:=zs4 r1
 subst hits
 have hlen:as.length=rs.length:=Paired.length hp
 have row:∀b x,H b=some (.tup (x.map V.int))->S9 s.heap b x:=λb x hx=>by
  obtain ⟨us,r2,p2,_⟩:=I.tuple (SqT.of hx)
  exact ⟨us,p2,D3 r2⟩
 have hpr:Paired (S9 s.heap) as rs:=Paired.imp' (λb x hx=>row b x hx) hp
 refine yh5 p1.isList hpr hb (by lia) λbs qs a1 a2 a3 a4 a5=>?_
 have hsz:=zj9 s.heap (as.map Value.ref)
 obtain ⟨e,he⟩:=sortedHeap_at (vs:=as.map Value.ref) (out:=(bs.map Value.ref).toArray) (n:=0) (show ((gat s.heap (as.map Value.ref)).push (seqObj "list" (as.map Value.ref).toArray 0)).get? (gat s.heap (as.map Value.ref)).objs.size=some (seqObj "list" (as.map Value.ref).toArray 0) from aA _ rfl)
 have hold:∀b o,s.heap.get? b=some o->(sortedHeap ((gat s.heap (as.map Value.ref)).push (seqObj "list" (as.map Value.ref).toArray 0)) (gat s.heap (as.map Value.ref)).objs.size (as.map Value.ref) (bs.map Value.ref).toArray).get? b=some o:=λb o z=>by
  have hlt:=az z
  have h1:b<(gat s.heap (as.map Value.ref)).objs.size:=hsz.symm ▸ cW hlt
  rw [sortedHeap_old (aO h1) (by rw [size_push'];exact cW h1),Heap.get?_push_ne _ _ _ (aO h1)]
  exact zh2 z
 have hz2:=u7
 refine ⟨.ref (gat s.heap (as.map Value.ref)).objs.size,_,I.laid (t':=s.toks) hold (by lia) (show p9 X.prog X.w _ _ _ (.lst (bs.map V.ref)) from ⟨by rw [ae];lia,bs.map Value.ref,e,?_,he⟩),rfl,q _ bs qs (I.hok.fresh (by lia)) a4 a5 ?_⟩
 ·clear a1 a2 a3 he hold
  induction bs with
  | nil=>exact .nil
  | cons b r ih=>exact .cons rfl ih
 ·
  clear a4 a5 he hold a1
  induction a3 with
  | nil=>exact .nil
  | @cons b x bs qs f _ ih =>
   refine .cons ?_ (ih λc hc=>a2 c (aw _ hc))
   obtain ⟨i,hi⟩:=aW (a2 b ay)
   have hi2:=(ag.mp hi).1
   have hx:=u4 hp i b _ hi (aa (show i<rs.length by lia))
   rw [zc5 f (row b _ hx)]
   exact hx
end
section
variable {X:Cx}{e st:Expr}{te:TE}{ts:TO}{pos p2:Pos}
end
section
variable {X:Cx}{iter elt:Expr}{scope:Scope}{pos:Pos}{wi:TI}{te:CT TE}
end
section
variable {X:Cx}
end
section
variable {X:Cx}
end
section
variable {X:Cx}
end
section
variable {prog:Program}{w:World}{A:Around}{E:Value->Shared->Prop}{s:Shared}
theorem zt4 {d:Addr}{es:Array DictEntry}{od:Obj}{ep:Nat}{R:List Value->Shared->Prop}(hh:A.handled=none)(lo:(d==sysModules)=false)(gd:s.heap.get? d=some od)(cd:od.cls=.type "dict") (dd:od.data=.dict es ep) (hz:es.size<=sizeLine)
  (q:∀(h':Heap) (tk:Nat) (vs:List Value),(∀b o,s.heap.get? b=some o->h'.get? b=some o)->s.heap.objs.size<h'.objs.size->vs.length=es.size->(∀(i:Nat) (v:Value),vs[i]?=some v->∃e,es[i]?=some e/\v=e.key)->R vs { s with heap:=h',toks:=tk }) :
  wpAny (model prog w) A (collect (.ref d)) R E s:=by
 have hlt:=az gd
 have hn1:(s.heap.push (seqObj "list" #[] 0)).get? s.heap.objs.size=some (seqObj "list" #[] 0):=aA _ rfl
 have fin:∀(h':Heap) (tk:Nat) (acc':Array Value) (c':Nat),(∀b o,s.heap.get? b=some o->h'.get? b=some o)->h'.get? s.heap.objs.size=some { cls:=.type "list",dict:=none,data:=.seq acc' c',slots:=#[] }->ItemsOf (λi v=>∃e,es[i]?=some e/\v=e.key) acc' es.size ->
   R acc'.toList { s with heap:=h',toks:=tk }:=λh' tk acc' c' hk hS hacc=>q h' tk acc'.toList hk (az hS) (by rw [aP];exact hacc.1) λi v e=>hacc.2 i v (by rw [←bC];exact e)
 unfold collect
 refine wpAny_bind (wpAny_runValue (codeAny_builtin entry_proto_collect' (wpAny_bind (m:=newList []) (wpAny_newList (wpAny_pure ⟨Code.quiet_builtin _ (by decide +kernel),codeAny_builtin entry_list_iadd' ?_⟩)))))
 rw [Around.under_plainId PySem.F.plain_list_iadd ⟨[.ref s.heap.objs.size,.ref d],[]⟩]
 refine wpAny_mono (W.kdl_extend (A:=A) (s:={ s with heap:=s.heap.push (seqObj "list" #[] 0) }) (R:=λr s'=>∃(h':Heap) (tk:Nat) (acc':Array Value) (c':Nat),r=.ok (.ret (.ref s.heap.objs.size))/\s'={ s with heap:=h',toks:=tk }/\h'.get? s.heap.objs.size=some { cls:=.type "list",dict:=none,data:=.seq acc' c',slots:=#[] }/\R acc'.toList { s with heap:=h',toks:=tk })
  (yy6 (ep:=ep) lo cd dd) hh (al _ gd) s.heap.objs.size (cV hlt) (cV hlt) (.ref s.heap.objs.size) 0 hn1 (λh' tk acc' c' hk hS hacc=>⟨h',tk,acc',c',rfl,rfl,hS,fin h' tk acc' c' (λb o e=>hk b o (aO (az e)) (al _ e)) hS hacc⟩) hz) (λf s' x=>?_) (λe s' x=>?_)
 ·cases f with
  | done f =>
   obtain ⟨h',tk,acc',c',e,rfl,hS,hR⟩:=x
   cases e
   exact (show wpAny (model prog w) A (load s.heap.objs.size >>= _) R E _ from wpAny_bind (wpAny_load hS (wpAny_pure hR)))
  | again c1 =>
   refine ⟨x.1,codeAny_mono x.2 λr s2 y=>?_⟩
   obtain ⟨h',tk,acc',c',e,rfl,hS,hR⟩:=y
   cases e
   exact (show wpAny (model prog w) A (load s.heap.objs.size >>= _) R E _ from wpAny_bind (wpAny_load hS (wpAny_pure hR)))
 ·obtain ⟨_,_,_,_,er,_⟩:=x
  cases er
end
section
variable {X:Cx}
theorem zo4 (hc:X.calm=true):W1 X (.builtin "sorted") (λxs H Q=>∃(d:Addr) (kvs:List (List Key×V)) (rs:List (List Int)),xs=[.ref d]/\H d=some (.dT kvs)/\kvs.map (·.1)=rs.map (λx=>x.map Sum.inl)/\(∀x∈rs,x≠[])/\rs.length<=400000 /\
  ∀(l:Addr) (bs:List Addr) (qs:List (List Int)),H l=none->qs.Perm rs->qs.Pairwise (λx y=>HT.lexLt y x=false)->Paired (λa x=>H a=some (.tup (x.map V.int))) bs qs->Q (.ref l) (upd H l (.lst (bs.map V.ref)))):=by
 intro pins s σ H xs us Q I r h
 obtain ⟨d,kvs,rs,rfl,hd,hks,hb,h64,q⟩:=h
 obtain ⟨u,rfl,rx⟩:=L7 r
 cases rx
 obtain ⟨hz,lo,xs,rel,o,es,ep,h1,h2,h3,h4,h5⟩:=(show p9 X.prog X.w H s.heap d (.dT kvs) from I.hok d _ hd)
 have hxl:xs.length=kvs.length:=(Paired.length rel).symm
 have hlen:es.size=kvs.length:=by
  rw [←aP,h4,ae]
  exact hxl
 have hrl:kvs.length=rs.length:=by
  have:=congrArg List.length hks
  rwa [ae,ae] at this
 have hka:=xc3 rel
 rw [hks] at hka
 have hpr0:Paired (λ(b:Addr) (x:List Int)=>H b=some (.tup (x.map V.int))) (xs.map (·.2.1)) rs:=by
  clear q hb h64 hks hlen h1 h2 h3 h4 h5 hrl
  generalize xs.map (·.2.1)=as at hka
  induction rs generalizing as with
  | nil=>cases hka;exact .nil
  | cons x rs ih =>
   cases hka with
   | cons f r =>
    refine .cons ?_ (ih _ r)
    rw [f,bE]
    rfl
 have row:∀b x,H b=some (.tup (x.map V.int))->S9 s.heap b x:=λb x hx=>by
  obtain ⟨us,r2,p2,_⟩:=I.tuple (SqT.of hx)
  exact ⟨us,p2,D3 r2⟩
 refine Calls.call_function_entry kind_sorted plain_sorted entry_sorted (args_sorted1 (.ref d)) ?_
 unfold Builtin.«sorted»
 refine wpAny_bind (m:=checkCount "sorted" 1 1 _) (wpAny_pure (wpAny_bind (zt4 (I.ok.hd hc) lo h1 h2.1 h3 (by rw [hlen];exact hz) λh' tk vs hk hsz hl hv=>wpAny_bind (wpAny_newList ?_))))
 have hvs:vs=(xs.map (·.2.1)).map Value.ref:=by
  apply cf
  intro i
  by_cases hi:i<es.size
  ·have hx:xs[i]?=some xs[i]:=aa (by lia)
   have ha:vs[i]?=some vs[i]:=aa (by lia)
   obtain ⟨e,he,ev⟩:=hv i vs[i] ha
   rw [←bC,h4,ar,hx] at he
   rw [ha,ar,ar,hx,ev,←Option.some.inj he]
   rfl
  ·rw [aH (by lia),aH (by rw [ae,ae];lia)]
 subst hvs
 clear hv
 have hal:(xs.map (·.2.1)).length=rs.length:=Paired.length hpr0
 clear hka rel h4 h5 hxl
 generalize xs.map (·.2.1)=as at *
 have hn:(h'.push (seqObj "list" (as.map Value.ref).toArray 0)).get? h'.objs.size=some (seqObj "list" (as.map Value.ref).toArray 0):=aA _ rfl
 have up:∀b x,H b=some (.tup (x.map V.int))->S9 (h'.push (seqObj "list" (as.map Value.ref).toArray 0)) b x:=λb x hx=>(row b x hx).at λo eo=>al _ (hk b o eo)
 have hpr':Paired (S9 (h'.push (seqObj "list" (as.map Value.ref).toArray 0))) as rs:=Paired.imp' up hpr0
 have lt:∀b∈as,b<s.heap.objs.size:=λb hb'=>by
  obtain ⟨i,hi⟩:=aW hb'
  have hi2:=(ag.mp hi).1
  obtain ⟨us,⟨o,ho,_⟩,_⟩:=row b _ (u4 hpr0 i b _ hi (aa (by lia)))
  exact az ho
 show wpAny _ _ _ _ _ { s with heap:=h'.push (seqObj "list" (as.map Value.ref).toArray 0),toks:=tk }
 refine wpAny_bind (wpAny_holding (wpAny_call_entry slot_list_sort ⟨_,hn,rfl⟩ entry_list_sort (E6 (s:={ s with heap:=h'.push (seqObj "list" (as.map Value.ref).toArray 0),toks:=tk }) hn hpr' (λb hb'=>aO (fF (lt b hb') hsz)) hb (by lia) λbs qs a1 a2 a3 a4 a5=>⟨_,rfl,wpAny_pure ⟨_,rfl,?_⟩⟩) (args_list_sort _)))
 obtain ⟨e,he⟩:=sortedHeap_at (vs:=as.map Value.ref) (out:=(bs.map Value.ref).toArray) (n:=0) hn
 have hold:∀b o,s.heap.get? b=some o->(sortedHeap (h'.push (seqObj "list" (as.map Value.ref).toArray 0)) h'.objs.size (as.map Value.ref) (bs.map Value.ref).toArray).get? b=some o:=λb o z=>by
  have h1:b<h'.objs.size:=az (hk b o z)
  rw [sortedHeap_old (aO h1) (by rw [size_push'];exact cW h1),Heap.get?_push_ne _ _ _ (aO h1)]
  exact hk b o z
 have hz2:=u7
 refine ⟨.ref h'.objs.size,_,I.laid (t':=tk) hold (by lia) (show p9 X.prog X.w _ _ _ (.lst (bs.map V.ref)) from ⟨by rw [ae];lia,bs.map Value.ref,e,?_,he⟩),rfl,q _ bs qs (I.hok.fresh (by lia)) a4 a5 ?_⟩
 ·clear a1 a2 a3 he hold
  induction bs with
  | nil=>exact .nil
  | cons b r ih=>exact .cons rfl ih
 ·clear a4 a5 he hold a1
  induction a3 with
  | nil=>exact .nil
  | @cons b x bs qs f _ ih =>
   refine .cons ?_ (ih λc hc=>a2 c (aw _ hc))
   obtain ⟨i,hi⟩:=aW (a2 b ay)
   have hx:=u4 hpr0 i b _ hi (aa (show i<rs.length by have:=(ag.mp hi).1;lia))
   rw [zc5 f (up b _ hx)]
   exact hx
end
structure zo1 (K:W.Frag) (x qual:Str) (st:Stmt) (f:Addr) (fd:FuncData) (items:Array Value):Prop where
 ex:∃(dT:Addr) (oc:Value) (od:Option Addr) (kV doc pm:Value) (an:Option Addr) (cdv ct:Value) (osl:Array (Option Value)),
  fd=W.fnOf x qual (W2 st) (Z5 st) (z9 st) (.ref dT) kV doc pm an cdv ct/\K.lookup f=some ⟨oc,od,.func fd,osl⟩/\W.codeIn K cdv qual=true/\∃o n,K.lookup dT=some o/\o.data=.seq items n
 kp:W.keepIn K (.ref f)=true
section
variable {P:Program}{w:World}{K:W.Frag}{mg:Str->Option Value}{base:Heap}
theorem zo1.okX {x qual:Str}{st:Stmt}{f:Addr}{fd:FuncData}{items:Array Value}{N ps:List Str}{k:Nat}{sp:Sp}(F:zo1 K x qual st f fd items)(S:x9 N ps (z9 st))(len:∀vs H Q E,sp vs H Q E->vs.length=ps.length)
  (hbody:∀(cdv:Value) (A:Around) (outer:List Env) (s:Shared) (H:Hp) (vs:List V) (Q:VK) (E:XK),c4 k (A.deeper (envOfC qual (z9 st) s.heap.objs.size f cdv))->sp vs H Q E ->
   ∃t,PSs (Z8 (CX1 P w) P w K mg base N qual (z9 st) f cdv A outer s H E) (Z5 st) t/\t { nx:=λ_ H'=>Q .non H',rt:=Q } (start N vs) H):u6 P w K mg base (CX1 P w) (k+1) f fd ps sp:=by
 obtain ⟨dT,oc,od,kV,doc,pm,an,cdv,ct,osl,rfl,lk,hcd,_⟩:=F.ex
 refine yt2 lk hcd S len λA outer s H vs Q E hr hsp=>?_
 obtain ⟨t,h,q⟩:=hbody cdv A outer s H vs Q E hr hsp
 exact ⟨t,h,q⟩
end
def xi8 (P:Program)(w:World)(K:W.Frag)(mg:Str->Option Value)(base:Heap)(k:Nat)(C:Addr)(x:Str)(ps:List Str)(dvs:List V)(sp:Sp):Prop :=
 ∃f fd ds,u6 P w K mg base (CX1 P w) k f fd ps sp/\Mk K C f/\mg x=some (.ref C)/\V6 K fd ps ds/\t9 dvs ds
def KB1 (K:W.Frag)(fd:FuncData)(ps:List Str)(k:Str):Prop:=∀(s:Shared) (us:List Value) (v:Value),K.In s.heap->(us++[v]).length=ps.length->BindsTo s fd ⟨us,[(k,v)]⟩ (ps.zip (us++[v]))
def xo9 (P:Program)(w:World)(K:W.Frag)(mg:Str->Option Value)(base:Heap)(k:Nat)(C:Addr)(x:Str)(ps:List Str)(kw:Str)(sp:Sp):Prop :=
 ∃f fd,u6 P w K mg base (CX1 P w) k f fd ps sp/\Mk K C f/\mg x=some (.ref C)/\KB1 K fd ps kw
section
variable {P:Program}{w:World}{K:W.Frag}{mg:Str->Option Value}{base:Heap}{N:List Str}{qual:Str}{scope:Scope}{f:Addr}{cd:Value}{A:Around}{outer:List Env}{s:Shared}{H:Hp}{E:XK}
theorem zh5 {x:Str}{C:Addr}{p pos:Pos}{e:Expr}{es:List Expr}{t:TA}{ps:List Str}{dvs:List V}{sp:Sp}{k j:Nat}(kn:xi8 P w K mg base k C x ps dvs sp)(hr:c4 j (A.deeper (envOfC qual scope s.heap.objs.size f cd)))(hg:Gl (Z8 (CX1 P w) P w K mg base N qual scope f cd A outer s H E) x)
  (ha:PA (Z8 (CX1 P w) P w K mg base N qual scope f cd A outer s H E) (e::es) t) (hj:k+1<=j:=by decide) (hdb:(x==("__debug__":Str))=false:=by decide)
  (he:starEach (e::es) (envOfC qual scope s.heap.objs.size f cd)=(false,eval e (envOfC qual scope s.heap.objs.size f cd))::starEach es (envOfC qual scope s.heap.objs.size f cd):=by rfl) (hpl:(backTo pos (starEach es (envOfC qual scope s.heap.objs.size f cd))).any (·.1)=false:=by rfl) :
  PE (Z8 (CX1 P w) P w K mg base N qual scope f cd A outer s H E) (.Call (.Name x p) (e::es) [] pos) (yz1 C sp dvs E t):=by
 obtain ⟨g,gd,ds,G,hM,hm,hb,hd⟩:=kn
 exact yl5 (X:=Z8 (CX1 P w) P w K mg base N qual scope f cd A outer s H E) hM G (hr.mono hj) hg hm hb hd yl2 ha hdb he hpl
end
section
variable {X:Cx}{C:Addr}{k:Nat}{x kw:Str}{ps:List Str}{sp:Sp}{e ev:Expr}{es:List Expr}{t:TA}{tv:TE}{p pos kpos:Pos}{CX:CXT}{f:Addr}{fd:FuncData}{E:XK}
def yz2 (C:Addr)(sp:Sp)(E:XK)(t:TA)(tv:TE):TE:=λσ H Q=>t σ H λvs H1=>tv σ H1 λz H2=>∀x dx,H2 x=none->H2 dx=none->dx≠x->sp (.ref x::(vs++[z])) (upd (upd H2 dx (.own x)) x (.ins C dx [])) (λv H3=>v=.non/\Q (.ref x) H3) E
theorem yp6 {pins:List (Addr×Obj)}{σ:St}{H:Hp}{s:Shared}{Q:VK}{us:List Value}{wv:Value}{vs:List V}{z:V}(M:Mk X.K C f)(F:u6 X.prog X.w X.K X.mg X.base CX k f fd ps sp)(hr:c4 (k+1) X.A)(hb:KB1 X.K fd ps kw)
  (hx:P3 CX X E) (I:Inv X pins σ H s) (r:t9 vs us) (rz:p0 z wv)
  (h:∀x dx,H x=none->H dx=none->dx≠x->sp (.ref x::(vs++[z])) (upd (upd H dx (.own x)) x (.ins C dx [])) (λv H2=>v=.non/\Q (.ref x) H2) E) :
  wpAny (model X.prog X.w) X.A (call (.ref C) us [(kw,wv)]) (EP X pins σ Q) X.xe s:=by
 have hq:=h (s.heap.objs.size+1) s.heap.objs.size (I.hok.fresh (bX _)) (I.hok.fresh (ah _)) (aO (cZ _))
 have I2:=Inv.made (C:=C) I
 have r2:t9 (V.ref (s.heap.objs.size+1)::(vs++[z])) (Value.ref (s.heap.objs.size+1)::(us++[wv])):=.cons rfl (r.append (.cons rz .nil))
 have hl:(Value.ref (s.heap.objs.size+1)::us++[wv]).length=ps.length:=by
  have e:=r2.length
  rw [F.len _ _ _ _ hq] at e
  exact e.symm
 refine wpAny_call (ya2 (f:=f) I.kIn M.makes M.init (beq_iff_eq.mp M.fn) (codeAny_mono (F.run _ X.stack _ _ ⟨Value.ref (s.heap.objs.size+1)::us,[(kw,wv)]⟩ (Value.ref (s.heap.objs.size+1)::(us++[wv])) _ _ E (hr.make C us [(kw,wv)])
  (I2.env0.make C us [(kw,wv)]) (hb _ (Value.ref (s.heap.objs.size+1)::us) wv I2.kIn hl) r2 hq) λr s' hq'=>?_))
 cases r with
 | error e=>exact hx pins σ _ _ e s' I2 hq'
 | ok fl =>
  cases fl with
  | ret u =>
   obtain ⟨v,H',I3,rv,ev,q3⟩:=I2.after hq'
   subst ev
   exact ⟨rv,⟨V.ref (s.heap.objs.size+1),H',I3,rfl,q3⟩⟩
  | next=>exact False.elim hq'
  | brk=>exact False.elim hq'
  | cont=>exact False.elim hq'
theorem yw1 (M:Mk X.K C f)(F:u6 X.prog X.w X.K X.mg X.base CX k f fd ps sp)(hr:c4 (k+1) X.A)(hg:Gl X x)(hm:X.mg x=some (.ref C))(hb:KB1 X.K fd ps kw)(hx:P3 CX X E)
  (ha:PA X (e::es) t) (hv:PE X ev tv) (hall:(backToKw pos (keywordEach [⟨some kw,ev,kpos⟩] X.env)).all (·.1.isSome)=true:=by rfl) (hks:(backToKw pos (keywordEach [⟨some kw,ev,kpos⟩] X.env)).filterMap (·.1)=[kw]:=by rfl)
  (hdb:(x==("__debug__":Str))=false:=by decide) (he:starEach (e::es) X.env=(false,eval e X.env)::starEach es X.env:=by rfl)
  (hpl:((backTo pos (starEach (e::es) X.env)).any (·.1) || (backToKw pos (keywordEach [⟨some kw,ev,kpos⟩] X.env)).any (·.1.isNone))=false:=by rfl) :
  PE X (.Call (.Name x p) (e::es) [⟨some kw,ev,kpos⟩] pos) (yz2 C sp E t tv):=by
 intro pins s σ H Q I h
 refine wpAny_Call_Name_kw (N9 I hg hm ?_ hdb)
 refine W.callWith_KW (h₀:=X.base) I.ok.mod.kin M.kp hall (thn (ha pos pins s σ H _ I h) λus s1 ⟨vs,H1,I1,r,q⟩=>?_) hpl he
 refine thn ((xd9 hv xm5) pos pins s1 σ H1 (λzs H2=>match zs with|[z]=>∀x dx,H2 x=none->H2 dx=none->dx≠x->sp (.ref x::(vs++[z])) (upd (upd H2 dx (.own x)) x (.ins C dx [])) (λv H3=>v=.non/\Q (.ref x) H3) E|_=>False) I1 q) λws s2 ⟨zs,H2,I2,rz,q2⟩=>⟨I2.kIn,?_⟩
 match zs,rz,q2 with
 | [z],rz,q2 =>
 obtain ⟨wv,rfl,rv⟩:=L7 rz
 rw [hks]
 exact yp6 M F hr hb hx I2 r rv q2
end
section
variable {P:Program}{w:World}{K:W.Frag}{mg:Str->Option Value}{base:Heap}{N:List Str}{qual:Str}{scope:Scope}{f:Addr}{cd:Value}{A:Around}{outer:List Env}{s:Shared}{H:Hp}{E:XK}
theorem yl4 {x kw:Str}{C:Addr}{p pos kpos:Pos}{e ev:Expr}{es:List Expr}{t:TA}{tv:TE}{ps:List Str}{sp:Sp}{k j:Nat}(kn:xo9 P w K mg base k C x ps kw sp)(hr:c4 j (A.deeper (envOfC qual scope s.heap.objs.size f cd)))(hg:Gl (Z8 (CX1 P w) P w K mg base N qual scope f cd A outer s H E) x)
  (ha:PA (Z8 (CX1 P w) P w K mg base N qual scope f cd A outer s H E) (e::es) t) (hv:PE (Z8 (CX1 P w) P w K mg base N qual scope f cd A outer s H E) ev tv) (hj:k+1<=j:=by decide) (hall:(backToKw pos (keywordEach [⟨some kw,ev,kpos⟩] (envOfC qual scope s.heap.objs.size f cd))).all (·.1.isSome)=true:=by rfl)
  (hks:(backToKw pos (keywordEach [⟨some kw,ev,kpos⟩] (envOfC qual scope s.heap.objs.size f cd))).filterMap (·.1)=[kw]:=by rfl) (hdb:(x==("__debug__":Str))=false:=by decide)
  (he:starEach (e::es) (envOfC qual scope s.heap.objs.size f cd)=(false,eval e (envOfC qual scope s.heap.objs.size f cd))::starEach es (envOfC qual scope s.heap.objs.size f cd):=by rfl)
  (hpl:((backTo pos (starEach (e::es) (envOfC qual scope s.heap.objs.size f cd))).any (·.1) || (backToKw pos (keywordEach [⟨some kw,ev,kpos⟩] (envOfC qual scope s.heap.objs.size f cd))).any (·.1.isNone))=false:=by rfl) :
  PE (Z8 (CX1 P w) P w K mg base N qual scope f cd A outer s H E) (.Call (.Name x p) (e::es) [⟨some kw,ev,kpos⟩] pos) (yz2 C sp E t tv):=by
 obtain ⟨g,gd,G,hM,hm,hb⟩:=kn
 exact yw1 (X:=Z8 (CX1 P w) P w K mg base N qual scope f cd A outer s H E) hM G (hr.mono hj) hg hm hb yl2 ha hv hall hks hdb he hpl
end
end L2
namespace TM
def IsT (n:Nat)(t:List Nat):Prop:=t.Perm (List.range n)
theorem IsT.length {n:Nat}{t:List Nat}(h:IsT n t):t.length=n:=by rw [List.Perm.length_eq h,aN]
theorem IsT.lt {n:Nat}{t:List Nat}(h:IsT n t){x:Nat}(hx:x∈t):x<n:=aX.mp ((List.Perm.mem_iff h).mp hx)
theorem IsT.mem {n:Nat}{t:List Nat}(h:IsT n t){x:Nat}(hx:x<n):x∈t:=(List.Perm.mem_iff h).mpr (aX.mpr hx)
theorem IsT.nodup {n:Nat}{t:List Nat}(h:IsT n t):t.Nodup:=(List.Perm.nodup_iff h).mpr cv
theorem IsT.range (n:Nat):IsT n (List.range n):=List.Perm.refl _
theorem IsT.get_lt {n:Nat}{t:List Nat}(h:IsT n t){i x:Nat}(hx:t[i]?=some x):x<n:=h.lt (au hx)
theorem IsT.at {n:Nat}{t:List Nat}(h:IsT n t){i:Nat}(hi:i<n):∃x,t[i]?=some x/\x<n:=by
 have hi':i<t.length:=by rw [h.length];exact hi
 exact ⟨t[i],aa hi',h.lt (bz hi')⟩
theorem W0:∀{t l:List Nat},t.Nodup->(∀x∈t,x∈l)->l.length<=t.length->t.Perm l
 | [],l,_,_,h=>by
  have e:l=[]:=cK.mp (Nat.le_zero.mp h)
  subst e
  exact List.Perm.refl _
 | a::r,l,hn,hs,h=>by
  obtain ⟨h1,h2⟩:=aZ.mp hn
  have ha:a∈l:=hs a ay
  have p:=List.perm_cons_erase ha
  have ih:r.Perm (l.erase a):=W0 h2 (λx hx=>by
   have hx':=hs x (aw _ hx)
   have ne:x≠a:=λe=>h1 (e ▸ hx)
   rcases aq.mp ((List.Perm.mem_iff p).mp hx') with e|e
   ·exact absurd e ne
   ·exact e) (by rw [eO ha];simp only [aC] at h;lia)
  exact (List.Perm.cons a ih).trans p.symm
theorem yf2 {n:Nat}{t:List Nat}(hl:t.length=n)(hn:t.Nodup)(hlt:∀x∈t,x<n):IsT n t :=
 W0 hn (λx hx=>aX.mpr (hlt x hx)) (by rw [hl,aN];exact ah _)
theorem zj6 {α:Type}:∀(l:List α) (i:Nat) (x:α),l[i]?=some x->(x::l.eraseIdx i).Perm l
 | [],_,_,h=>by cases h
 | a::r,0,x,h=>by
  cases h
  exact List.Perm.refl _
 | a::r,i+1,x,h=>by
  have ih:=zj6 r i x (by simpa using h)
  rw [List.eraseIdx_cons_succ]
  exact (List.Perm.swap a x _).trans (List.Perm.cons a ih)
theorem draw_perm {n:Nat}{row left:List Nat}{i x:Nat}(h:IsT n (row++left))(hx:left[i]?=some x):IsT n ((row++[x])++left.eraseIdx i):=by
 refine List.Perm.trans ?_ h
 rw [aY]
 exact List.Perm.append_left row (zj6 left i x hx)
end TM
namespace TM
theorem IsT.map {n:Nat}{s t:List Nat}(hs:IsT n s)(ht:IsT n t):IsT n (s.map λx=>t.getD x 0):=by
 have e:((List.range n).map λx=>t.getD x 0)=t:=by
  apply cf
  intro i
  rw [ar]
  by_cases hi:i<n
  ·rw [bg hi]
   have hi':i<t.length:=by rw [ht.length];exact hi
   simp [aa hi']
  ·rw [aH (by rw [aN];lia),aH (by rw [ht.length];lia)]
   rfl
 have h1:=List.Perm.map (λx=>t.getD x 0) hs
 rw [e] at h1
 exact h1.trans ht
theorem getD_of {t:List Nat}{i x:Nat}(h:t[i]?=some x):t.getD i 0=x:=by rw [ax,h];rfl
theorem zu8 {s t:List Nat}{i x y:Nat}(hs:s[i]?=some x)(ht:t[x]?=some y):(s.map λx=>t.getD x 0)[i]?=some y:=by
 rw [ar,hs]
 simp only [fh]
 rw [getD_of ht]
theorem IsT.hit {n:Nat}{t:List Nat}(h:IsT n t){y:Nat}(hy:y<n):∃x,t[x]?=some y/\x<n:=by
 obtain ⟨x,hx⟩:=aW (h.mem hy)
 exact ⟨x,hx,by have:=(ag.mp hx).1;rwa [h.length] at this⟩
theorem IsT.inj {n:Nat}{t:List Nat}(h:IsT n t){i j x:Nat}(hi:t[i]?=some x)(hj:t[j]?=some x):i=j:=by
 obtain ⟨h1,e1⟩:=ag.mp hi
 obtain ⟨h2,e2⟩:=ag.mp hj
 exact (cD h.nodup).mp (e1.trans e2.symm)
structure Back (n:Nat) (t:List Nat) (k:Nat) (b:List Nat):Prop where
 len:b.length=n
 ret:∀x y,x<k->t[x]?=some y->b[y]?=some x
theorem Back.start {n:Nat}{t b:List Nat}(h:b.length=n):Back n t 0 b:=⟨h,λ_ _ h=>absurd h (dq _)⟩
theorem Back.step {n:Nat}{t b:List Nat}{k y:Nat}(hT:IsT n t)(h:Back n t k b)(hy:t[k]?=some y):Back n t (k+1) (b.set y k):=by
 have hyn:y<b.length:=by rw [h.len];exact hT.get_lt hy
 refine ⟨by rw [bL];exact h.len,λx z hx hz=>?_⟩
 by_cases e:x=k
 ·subst e
  rw [hy] at hz
  cases hz
  rw [ci hyn]
 ·have ne:y≠z:=λq=>e (hT.inj hz (q ▸ hy))
  rw [bO ne]
  exact h.ret x z (by lia) hz
theorem Back.lt {n:Nat}{t b:List Nat}(hT:IsT n t)(h:Back n t n b){y x:Nat}(hy:b[y]?=some x):x<n/\t[x]?=some y:=by
 have hyn:y<n:=by have:=(ag.mp hy).1;rwa [h.len] at this
 obtain ⟨z,hz,hzn⟩:=hT.hit hyn
 have:=h.ret z y hzn hz
 rw [hy] at this
 cases this
 exact ⟨hzn,hz⟩
theorem Back.get {n:Nat}{t b:List Nat}(hT:IsT n t)(h:Back n t n b){y:Nat}(hy:y<n):∃x,b[y]?=some x/\x<n/\t[x]?=some y:=by
 obtain ⟨x,hx,hxn⟩:=hT.hit hy
 exact ⟨x,h.ret x y hxn hx,hxn,hx⟩
theorem Back.mem_lt {n:Nat}{t b:List Nat}(hT:IsT n t)(h:Back n t n b){x:Nat}(hx:x∈b):x<n:=by
 obtain ⟨y,hy⟩:=aW hx
 exact (h.lt hT hy).1
theorem Back.uniq {n:Nat}{t b c:List Nat}(hT:IsT n t)(h:Back n t n b)(h':Back n t n c):b=c:=by
 apply cf
 intro y
 by_cases hy:y<n
 ·obtain ⟨x,h1,hxn,hx⟩:=h.get hT hy
  rw [h1,h'.ret x y hxn hx]
 ·rw [aH (by rw [h.len];lia),aH (by rw [h'.len];lia)]
theorem Back.isT {n:Nat}{t b:List Nat}(hT:IsT n t)(h:Back n t n b):IsT n b:=by
 refine yf2 h.len ?_ λx hx=>h.mem_lt hT hx
 refine bI.mpr λi j hi hj hij e=>?_
 have h1:=(h.lt hT (aa hi)).2
 have h2:=(h.lt hT (aa hj)).2
 rw [e,h2] at h1
 cases h1
 exact bh _ hij
theorem Back.comp {n:Nat}{s t b c:List Nat}(hs:IsT n s)(ht:IsT n t)(h:Back n s n b)(h':Back n t n c):Back n (s.map λx=>t.getD x 0) n (c.map λx=>b.getD x 0):=by
 refine ⟨by rw [ae];exact h'.len,λx z hx hz=>?_⟩
 obtain ⟨y,hy,hyn⟩:=hs.at hx
 obtain ⟨z',hz',_⟩:=ht.at hyn
 rw [zu8 hy hz'] at hz
 cases hz
 exact zu8 (h'.ret y z hyn hz') (h.ret x y hx hy)
theorem Back.range (n:Nat):Back n (List.range n) n (List.range n):=⟨aN,λx y hx hy=>by
 rw [bg hx] at hy
 cases hy
 exact bg hx⟩
end TM
namespace TM
def it (t:List Nat):Nat->Nat->Nat
 | 0,x=>x
 | k+1,x=>t.getD (it t k x) 0
theorem N7 (t:List Nat)(j:Nat):∀(k x:Nat),it t (j+k) x=it t k (it t j x)
 | 0,_=>rfl
 | k+1,x=>by
  show t.getD (it t (j+k) x) 0=t.getD (it t k (it t j x)) 0
  rw [N7 t j k x]
theorem xk5 (t:List Nat)(x:Nat):it t 1 x=t.getD x 0:=rfl
section
variable {n:Nat}{t:List Nat}(h:IsT n t)
include h
theorem IsT.step_lt {x:Nat}(hx:x<n):t.getD x 0<n:=by
 obtain ⟨y,hy,hyn⟩:=h.at hx
 rw [getD_of hy]
 exact hyn
theorem IsT.get_step {x:Nat}(hx:x<n):t[x]?=some (t.getD x 0):=by
 obtain ⟨y,hy,_⟩:=h.at hx
 rw [getD_of hy,hy]
theorem IsT.it_lt {x:Nat}(hx:x<n):∀k,it t k x<n
 | 0=>hx
 | k+1=>h.step_lt (IsT.it_lt hx k)
theorem IsT.step_inj {x y:Nat}(hx:x<n)(hy:y<n)(e:t.getD x 0=t.getD y 0):x=y:=h.inj (h.get_step hx) (e ▸ h.get_step hy)
theorem IsT.it_inj {x y:Nat}(hx:x<n)(hy:y<n):∀k,it t k x=it t k y->x=y
 | 0,e=>e
 | k+1,e=>IsT.it_inj hx hy k (h.step_inj (h.it_lt hx k) (h.it_lt hy k) e)
end
theorem len_le_of {l:List Nat}{n:Nat}(hn:l.Nodup)(hlt:∀x∈l,x<n):l.length<=n:=by
 refine de λhc=>?_
 have p:=W0 hn (λx hx=>aX.mpr (hlt x hx)) (by rw [aN];lia)
 have:=p.length_eq
 rw [aN] at this
 lia
def per (t:List Nat)(x:Nat):Nat:=((List.range t.length).find? λj=>it t (j+1) x==x).getD 0+1
section
variable {n:Nat}{t:List Nat}(h:IsT n t)
include h
theorem IsT.back_some {x:Nat}(hx:x<n):∃j,j<n/\it t (j+1) x=x:=by
 refine Classical.byContradiction λhc=>?_
 have nd:((List.range (n+1)).map λk=>it t k x).Nodup:=by
  refine bI.mpr λi j hi hj hij e=>?_
  simp only [ae,aN] at hi hj
  simp only [List.getElem_map,List.getElem_range] at e
  have e2:it t (j-i) x=x:=by
   have e3:it t j x=it t i (it t (j-i) x):=by rw [←N7];congr 1;lia
   rw [e3] at e
   exact (h.it_inj hx (h.it_lt hx _) i e).symm
  exact hc ⟨j-i-1,by lia,by rw [show j-i-1+1=j-i by lia];exact e2⟩
 have:=len_le_of nd λy hy=>by
  obtain ⟨k,_,rfl⟩:=av.mp hy
  exact h.it_lt hx k
 simp only [ae,aN] at this
 lia
theorem IsT.per_spec {x:Nat}(hx:x<n):1<=per t x/\per t x<=n/\it t (per t x) x=x/\∀j,1<=j->j<per t x->it t j x≠x:=by
 obtain ⟨j,hj,ej⟩:=h.back_some hx
 have hsome:((List.range t.length).find? λj=>it t (j+1) x==x).isSome=true:=by
  rw [List.find?_isSome]
  exact ⟨j,aX.mpr (by rw [h.length];exact hj),by simpa using ej⟩
 obtain ⟨k,hk⟩:=eg.mp hsome
 have e:per t x=k+1:=by unfold per;rw [hk];rfl
 rw [e]
 rw [List.find?_range_eq_some] at hk
 obtain ⟨h1,h2,h3⟩:=hk
 refine ⟨by lia,by have:=aX.mp h2;rw [h.length] at this;lia,by simpa using h1,λi hi1 hi2=>?_⟩
 have:=h3 (i-1) (by lia)
 rw [show i-1+1=i by lia] at this
 simpa using this
theorem IsT.per_pos {x:Nat}(hx:x<n):0<per t x:=(h.per_spec hx).1
theorem IsT.per_back {x:Nat}(hx:x<n):it t (per t x) x=x:=(h.per_spec hx).2.2.1
theorem IsT.it_mul {x:Nat}(hx:x<n):∀q,it t (per t x*q) x=x
 | 0=>rfl
 | q+1=>by rw [Nat.mul_succ,N7,IsT.it_mul hx q,h.per_back hx]
theorem IsT.it_mod {x:Nat}(hx:x<n)(k:Nat):it t (k % per t x) x=it t k x:=by
 have e:k=per t x*(k / per t x)+k % per t x:=(Nat.div_add_mod k (per t x)).symm
 conv=>rhs;rw [e,N7,h.it_mul hx]
theorem IsT.it_eq_iff {x:Nat}(hx:x<n){i j:Nat}(hi:i<per t x)(hj:j<per t x)(e:it t i x=it t j x):i=j:=by
 have key:∀{i j:Nat},i<=j->j<per t x->it t i x=it t j x->i=j:=λ{i j} hij hj e=>by
  by_cases hq:i=j
  ·exact hq
  ·exfalso
   have e3:it t j x=it t i (it t (j-i) x):=by rw [←N7];congr 1;lia
   rw [e3] at e
   have e2:=(h.it_inj hx (h.it_lt hx _) i e).symm
   exact (h.per_spec hx).2.2.2 (j-i) (by lia) (by lia) e2
 rcases eS i j with q|q
 ·exact key q hj e
 ·exact (key q hi e.symm).symm
end
section
variable {n:Nat}{t:List Nat}(h:IsT n t)
include h
theorem IsT.per_it {x:Nat}(hx:x<n)(j:Nat):per t (it t j x)=per t x:=by
 have hy:=h.it_lt hx j
 have le1:∀{x:Nat} (hx:x<n) (j:Nat),per t (it t j x)<=per t x:=λ{x} hx j=>by
  have hy:=h.it_lt hx j
  refine de λhc=>?_
  refine (h.per_spec hy).2.2.2 (per t x) (h.per_pos hx) hc ?_
  rw [←N7,fH,N7,h.per_back hx]
 refine du (le1 hx j) ?_
 have e:it t (per t x*(j+1)-j) (it t j x)=x:=by
  have hle:j<=per t x*(j+1):=aQ (bX j) (by have:=eY (j+1) (h.per_pos hx);lia)
  rw [←N7,show j+(per t x*(j+1)-j)=per t x*(j+1) by lia]
  exact h.it_mul hx _
 have:=le1 hy (per t x*(j+1)-j)
 rwa [e] at this
end
structure xv6 (t:List Nat) (x k:Nat) (c:List Nat):Prop where
 eq:c=(List.range k).map λj=>it t j x
 pos:1<=k
 no:∀j,1<=j->j<k->it t j x≠x
def pw (t:List Nat)(m:Int)(x:Nat):Nat:=it t (m % (per t x:Int)).toNat x
def pwT (t:List Nat)(m:Int):List Nat:=(List.range t.length).map (pw t m)
end TM
namespace TM
theorem xc6 {L:Nat}(hL:0<L)(i:Nat)(m:Int):((((i:Int)+m) % (L:Int)).toNat)=(i+(m % (L:Int)).toNat) % L:=by
 have hL':(0:Int)<(L:Int):=by lia
 have h1:=bR ((i:Int)+m) (show (L:Int)≠0 by lia)
 have h2:=bR m (show (L:Int)≠0 by lia)
 have e1:((m % (L:Int)).toNat:Int)=m % (L:Int):=dL h2
 have e2:(((i+(m % (L:Int)).toNat) % L:Nat):Int)=((i:Int)+m) % (L:Int):=by
  rw [fv,Int.natCast_add,e1,Int.add_emod_emod]
 lia
section
variable {n:Nat}{t:List Nat}(hT:IsT n t)
include hT
theorem IsT.stay {x:Nat}(hx:x<n)(hp:¬1<per t x):t[x]?=some x:=by
 have h1:=hT.per_pos hx
 have h2:=hT.per_back hx
 rw [show per t x=1 by lia,xk5] at h2
 have:=hT.get_step hx
 rwa [h2] at this
theorem IsT.pw_lt (m:Int){x:Nat}(hx:x<n):pw t m x<n:=hT.it_lt hx _
theorem IsT.pw_pw (a b:Int){x:Nat}(hx:x<n):pw t b (pw t a x)=pw t (a+b) x:=by
 have hL:=hT.per_pos hx
 unfold pw
 rw [hT.per_it hx,←N7]
 have h2:=bR a (show (per t x:Int)≠0 by lia)
 have e:((a+b) % (per t x:Int)).toNat=((a % (per t x:Int)).toNat+(b % (per t x:Int)).toNat) % per t x:=by
  rw [←xc6 hL,dL h2,Int.emod_add_emod]
 rw [e,hT.it_mod hx]
theorem IsT.pwT_get (m:Int){x:Nat}(hx:x<n):(pwT t m)[x]?=some (pw t m x):=by
 unfold pwT
 rw [ar,bg (by rw [hT.length];exact hx)]
 rfl
theorem IsT.pwT_len (m:Int):(pwT t m).length=n:=by unfold pwT;rw [ae,aN,hT.length]
theorem IsT.eq_pwT {g:List Nat}{m:Int}(hl:g.length=n)(h:∀x,x<n->g[x]?=some (pw t m x)):g=pwT t m:=by
 apply cf
 intro x
 by_cases hx:x<n
 ·rw [h x hx,hT.pwT_get m hx]
 ·rw [aH (by lia),aH (by rw [hT.pwT_len];lia)]
theorem IsT.pwT_zero:List.range n=pwT t 0:=hT.eq_pwT aN λx hx=>by
 rw [bg hx]
 unfold pw
 rw [Int.zero_emod]
 rfl
theorem IsT.pwT_one:t=pwT t 1:=hT.eq_pwT hT.length λx hx=>by
 by_cases hp:1<per t x
 ·rw [hT.get_step hx]
  unfold pw
  rw [Int.emod_eq_of_lt (by decide) (by lia)]
  rfl
 ·have h1:=hT.per_pos hx
  rw [hT.stay hx hp]
  unfold pw
  rw [show per t x=1 by lia]
  rfl
theorem IsT.pwT_comp (a b:Int):((pwT t a).map λx=>(pwT t b).getD x 0)=pwT t (a+b):=hT.eq_pwT (by rw [ae,hT.pwT_len]) λx hx=>by
 rw [zu8 (hT.pwT_get a hx) (hT.pwT_get b (hT.pw_lt a hx)),hT.pw_pw a b hx]
end
end TM
namespace TM
section
variable {n:Nat}{t:List Nat}(hT:IsT n t)
include hT
end
def xl4 (l:List Nat):Nat:=l.foldl Nat.lcm 1
theorem lcm_pos {a b:Nat}(ha:0<a)(hb:0<b):0<Nat.lcm a b:=Nat.lcm_pos ha hb
end TM
namespace TM
def iN (l:List Nat):List Int:=l.map λ(x:Nat)=>(x:Int)
theorem yu5:∀{l:List Nat},(∀x∈l,0<x)->0<xl4 l:=by
 intro l
 unfold xl4
 have key:∀(l:List Nat) (a:Nat),0<a->(∀x∈l,0<x)->0<l.foldl Nat.lcm a:=by
  intro l
  induction l with
  | nil=>intro a h _;exact h
  | cons b r ih=>intro a h hl;exact ih _ (Nat.lcm_pos h (hl b ay)) λx hx=>hl x (aw _ hx)
 exact key l 1 (by decide)
end TM
namespace TM
section
variable {n:Nat}{t:List Nat}(hT:IsT n t)
include hT
end
theorem xc4 {l m:List Nat}(h1:l.Nodup)(h2:∀y∈l,y∈m):l.length<=m.length:=by
 refine de λhc=>?_
 have:=(W0 h1 h2 (by lia)).length_eq
 lia
section
variable {n:Nat}{t b c:List Nat}(hT:IsT n t)(hB:IsT n b)
include hT hB
end
end TM
namespace TM
section
variable {n a b:Nat}{t u:List Nat}(hT:IsT n t)(hU:IsT n u)
include hT hU
end
section
variable {n:Nat}{t:List Nat}(hT:IsT n t)
include hT
end
end TM
namespace TM
inductive Ln where
 | still|told (k:Nat)|behind (i j:Nat)|back (i:Nat)
 deriving DecidableEq
def Ln.refs:Ln->List Nat
 | .still=>[]
 | .told _=>[]
 | .behind i j=>[i,j]
 | .back i=>[i]
def Ln.Ok (c p:Nat):Ln->Prop
 | .still=>True
 | .told k=>k<c
 | .behind i j=>i<p/\j<p
 | .back i=>i<p
def Rec (c:Nat)(ls:List Ln):Prop:=∀(p:Nat) (l:Ln),ls[p]?=some l->l.Ok c p
inductive yj0 (ls:List Ln):Nat->Nat->Prop
 | self (p:Nat):yj0 ls p p
 | by {p r q:Nat} {l:Ln}:ls[p]?=some l->r∈l.refs->yj0 ls r q->yj0 ls p q
open Classical in
noncomputable def nb (ls:List Ln) (q:Nat):Bool:=decide (yj0 ls (ls.length-1) q)
def pos (b:Nat->Bool)(r:Nat):Nat:=((List.range r).filter b).length
def Ln.ren (f:Nat->Nat):Ln->Ln
 | .still=>.still
 | .told k=>.told k
 | .behind i j=>.behind (f i) (f j)
 | .back i=>.back (f i)
def few (b:Nat->Bool)(ls:List Ln)(k:Nat):List Ln:=((List.range k).filter b).map λp=>(ls.getD p .still).ren (pos b)
section
variable {c:Nat}{ls:List Ln}(hR:Rec c ls)(hne:ls≠[])
include hR hne
noncomputable def stay (ls:List Ln):List Ln:=few (nb ls) ls ls.length
end
def bkT (n:Nat)(t:List Nat):List Nat:=(List.range n).map λy=>t.idxOf y
def comp (s t:List Nat):List Nat:=s.map λx=>t.getD x 0
def Ln.mk (n:Nat)(ms:List (List Nat))(made:List (List Nat)):Ln->List Nat
 | .still=>List.range n
 | .told k=>ms.getD k []
 | .behind i j=>comp (made.getD i []) (made.getD j [])
 | .back i=>bkT n (made.getD i [])
end TM
namespace TM
section
variable {α:Type}
def Loc (d:α)(g:Ln->List α->α):Prop:=∀(l:Ln) (m1 m2:List α) (f:Nat->Nat),(∀r∈l.refs,m1.getD r d=m2.getD (f r) d)->g l m1=g (l.ren f) m2
end
def step (n:Nat)(ms:List (List Nat))(x:Int):List Nat:=if 0<=x then ms.getD x.toNat [] else bkT n (ms.getD (-1-x).toNat [])
section
variable {n:Nat}
variable {ms:List (List Nat)}(hms:∀t∈ms,IsT n t)
include hms
end
end TM
namespace TM
def beh (t u:List Nat):List Nat:=t.map λx=>u.getD x 0
def bk (n:Nat)(t:List Nat):List Nat:=(List.range n).map λy=>t.idxOf y
theorem IsT.beh {n:Nat}{t u:List Nat}(ht:IsT n t)(hu:IsT n u):IsT n (TM.beh t u):=IsT.map ht hu
theorem beh_get {n:Nat}{t u:List Nat}(ht:IsT n t){x:Nat}(hx:x<n):(TM.beh t u).getD x 0=u.getD (t.getD x 0) 0:=by
 unfold TM.beh
 rw [ax,ar,ht.get_step hx]
 rfl
theorem still_get {n x:Nat}(hx:x<n):(List.range n).getD x 0=x:=by
 rw [ax,bg hx];rfl
theorem G9 {n:Nat}{a b:List Nat}(ha:IsT n a)(hb:IsT n b)(h:∀x,x<n->a.getD x 0=b.getD x 0):a=b:=by
 apply cf
 intro i
 by_cases hi:i<n
 ·rw [ha.get_step hi,hb.get_step hi,h i hi]
 ·rw [aH (by rw [ha.length];lia),aH (by rw [hb.length];lia)]
theorem n8 {n:Nat}{a b c:List Nat}(ha:IsT n a)(hb:IsT n b)(hc:IsT n c):beh (beh a b) c=beh a (beh b c) :=
 G9 ((ha.beh hb).beh hc) (ha.beh (hb.beh hc)) λx hx=>by rw [beh_get (ha.beh hb) hx,beh_get ha hx,beh_get ha hx,beh_get hb (ha.step_lt hx)]
theorem still_beh {n:Nat}{t:List Nat}(ht:IsT n t):beh (List.range n) t=t :=
 G9 ((IsT.range n).beh ht) ht λx hx=>by rw [beh_get (IsT.range n) hx,still_get hx]
theorem beh_still {n:Nat}{t:List Nat}(ht:IsT n t):beh t (List.range n)=t :=
 G9 (ht.beh (IsT.range n)) ht λx hx=>by rw [beh_get ht hx,still_get (ht.step_lt hx)]
theorem K6:∀{l:List Nat} {i x:Nat},l.Nodup->l[i]?=some x->l.idxOf x=i
 | a::r,0,x,_,h=>by
  obtain rfl:a=x:=by simpa using h
  exact List.idxOf_cons_self
 | a::r,i+1,x,hn,h=>by
  have h':r[i]?=some x:=by simpa using h
  have hne:a≠x:=λe=>(aZ.mp hn).1 (e ▸ au h')
  have ih:=K6 (aZ.mp hn).2 h'
  rw [List.idxOf_cons,show (a==x)=false from beq_eq_false_iff_ne.mpr hne]
  show r.idxOf x+1=i+1
  rw [ih]
theorem K1 {n:Nat}{t:List Nat}(ht:IsT n t){x:Nat}(hx:x<n):(bk n t).getD (t.getD x 0) 0=x:=by
 unfold bk
 rw [ax,ar,bg (ht.step_lt hx)]
 exact K6 ht.nodup (ht.get_step hx)
theorem bk_back {n:Nat}{t:List Nat}(ht:IsT n t):Back n t n (bk n t):=by
 refine ⟨by unfold bk;rw [ae,aN],λx y hx hy=>?_⟩
 unfold bk
 rw [ar,bg (ht.get_lt hy)]
 exact congrArg some (K6 ht.nodup hy)
theorem IsT.bk {n:Nat}{t:List Nat}(ht:IsT n t):IsT n (TM.bk n t):=(bk_back ht).isT ht
theorem zb9 {n:Nat}{t:List Nat}(ht:IsT n t):beh t (bk n t)=List.range n :=
 G9 (ht.beh ht.bk) (IsT.range n) λx hx=>by rw [beh_get ht hx,K1 ht hx,still_get hx]
theorem xj5 {n:Nat}{t:List Nat}(ht:IsT n t){y:Nat}(hy:y<n):t.getD ((bk n t).getD y 0) 0=y:=by
 obtain ⟨x,hx,hxn⟩:=ht.hit hy
 have e:=getD_of hx
 rw [←e,K1 ht hxn]
theorem zs8 {n:Nat}{t:List Nat}(ht:IsT n t):beh (bk n t) t=List.range n :=
 G9 (ht.bk.beh ht) (IsT.range n) λx hx=>by rw [beh_get ht.bk hx,xj5 ht hx,still_get hx]
theorem yr5 {n:Nat}{t:List Nat}(ht:IsT n t):bk n (bk n t)=t:=by
 have h:=n8 ht ht.bk ht.bk.bk
 rw [zb9 ht,zb9 ht.bk,beh_still ht,still_beh ht.bk.bk] at h
 exact h
theorem zs9 {n:Nat}{a b:List Nat}(ha:IsT n a)(hb:IsT n b):bk n (beh a b)=beh (bk n b) (bk n a) :=
 ((bk_back (ha.beh hb)).uniq (ha.beh hb) ((bk_back ha).comp ha hb (bk_back hb)))
theorem bk_still (n:Nat):bk n (List.range n)=List.range n:=(bk_back (IsT.range n)).uniq (IsT.range n) (Back.range n)
theorem ye7 {n:Nat}{a b u:List Nat}(ha:IsT n a)(hb:IsT n b)(hu:IsT n u)(h:beh a u=beh b u):a=b:=by
 have e:=congrArg (λz=>beh z (bk n u)) h
 rwa [n8 ha hu hu.bk,n8 hb hu hu.bk,zb9 hu,beh_still ha,beh_still hb] at e
theorem zy4 {n:Nat}{a b u:List Nat}(ha:IsT n a)(hb:IsT n b)(hu:IsT n u)(h:beh u a=beh u b):a=b:=by
 have e:=congrArg (λz=>beh (bk n u) z) h
 rwa [←n8 hu.bk hu ha,←n8 hu.bk hu hb,zs8 hu,still_beh ha,still_beh hb] at e
theorem yv7 {n:Nat}{x u:List Nat}(hx:IsT n x)(hu:IsT n u):beh (beh x (bk n u)) u=x:=by rw [n8 hx hu.bk hu,zs8 hu,beh_still hx]
theorem xl9 {n:Nat}{x u:List Nat}(hx:IsT n x)(hu:IsT n u):beh (beh x u) (bk n u)=x:=by rw [n8 hx hu hu.bk,zb9 hu,beh_still hx]
inductive Grp (n:Nat) (S:List Nat->Prop):List Nat->Prop
 | one:Grp n S (List.range n)
 | mul {a s:List Nat}:Grp n S a->S s->Grp n S (beh a s)
 | inv {a s:List Nat}:Grp n S a->S s->Grp n S (beh a (bk n s))
section
variable {n:Nat}{S S':List Nat->Prop}(hS:∀s,S s->IsT n s)
include hS
theorem Grp.isT {a:List Nat}(h:Grp n S a):IsT n a:=by
 induction h with
 | one=>exact IsT.range n
 | mul _ hs ih=>exact ih.beh (hS _ hs)
 | inv _ hs ih=>exact ih.beh (hS _ hs).bk
theorem Grp.of {s:List Nat}(h:S s):Grp n S s:=by
 have:=Grp.mul (n:=n) (S:=S) .one h
 rwa [still_beh (hS s h)] at this
theorem Grp.beh {a b:List Nat}(ha:Grp n S a)(hb:Grp n S b):Grp n S (TM.beh a b):=by
 have hA:=ha.isT hS
 induction hb with
 | one=>rw [beh_still hA];exact ha
 | mul h hs ih=>rw [←n8 hA (h.isT hS) (hS _ hs)];exact .mul ih hs
 | inv h hs ih=>rw [←n8 hA (h.isT hS) (hS _ hs).bk];exact .inv ih hs
theorem Grp.bk {a:List Nat}(ha:Grp n S a):Grp n S (TM.bk n a):=by
 induction ha with
 | one=>rw [bk_still];exact .one
 | mul h hs ih =>
  rw [zs9 (h.isT hS) (hS _ hs)]
  refine Grp.beh hS ?_ ih
  have:=Grp.inv (n:=n) (S:=S) .one hs
  rwa [still_beh (hS _ hs).bk] at this
 | inv h hs ih =>
  rw [zs9 (h.isT hS) (hS _ hs).bk,yr5 (hS _ hs)]
  exact Grp.beh hS (Grp.of hS hs) ih
omit hS in
theorem Grp.mono {a:List Nat}(hS':∀s,S' s->IsT n s)(h:∀s,S s->Grp n S' s)(ha:Grp n S a):Grp n S' a:=by
 induction ha with
 | one=>exact .one
 | mul _ hs ih=>exact Grp.beh hS' ih (h _ hs)
 | inv _ hs ih=>exact Grp.beh hS' ih (Grp.bk hS' (h _ hs))
end
def Fix (j:Nat)(t:List Nat):Prop:=∀x,x<j->t.getD x 0=x
theorem Fix.zero (t:List Nat):Fix 0 t:=λ_ h=>absurd h (dq _)
theorem Fix.still {n j:Nat}(hj:j<=n):Fix j (List.range n):=λx hx=>still_get (by lia)
theorem Fix.beh {n j:Nat}{a b:List Nat}(hj:j<=n)(hA:IsT n a)(ha:Fix j a)(hb:Fix j b):Fix j (TM.beh a b):=λx hx=>by rw [beh_get hA (by lia),ha x hx,hb x hx]
theorem Fix.bk {n j:Nat}{a:List Nat}(hj:j<=n)(hA:IsT n a)(ha:Fix j a):Fix j (TM.bk n a):=λx hx=>by
 have h:=K1 hA (show x<n by lia)
 rwa [ha x hx] at h
theorem Fix.all {n:Nat}{a:List Nat}(hA:IsT n a)(h:Fix n a):a=List.range n:=G9 hA (IsT.range n) λx hx=>by rw [h x hx,still_get hx]
theorem Grp.fix {n j:Nat}{S:List Nat->Prop}(hS:∀s,S s->IsT n s)(hj:j<=n)(hf:∀s,S s->Fix j s){a:List Nat}(ha:Grp n S a):Fix j a:=by
 induction ha with
 | one=>exact Fix.still hj
 | mul h hs ih=>exact Fix.beh hj (h.isT hS) ih (hf _ hs)
 | inv h hs ih=>exact Fix.beh hj (h.isT hS) ih (Fix.bk hj (hS _ hs) (hf _ hs))
end TM
namespace TM
structure Chn where
 mv:Nat->List Nat->Prop
 ring:Nat->List Nat
 up:Nat->Nat->List Nat
structure Chn.Ok (n:Nat) (C:Chn):Prop where
 mvT:∀j s,C.mv j s->IsT n s
 mvF:∀j s,C.mv j s->Fix j s
 down:∀j s,C.mv (j+1) s->Grp n (C.mv j) s
 top:∀j s,n<=j->¬C.mv j s
 nd:∀j,j<n->(C.ring j).Nodup
 lt:∀j p,j<n->p∈C.ring j->p<n
 own:∀j,j<n->j∈C.ring j
 upG:∀j p,j<n->p∈C.ring j->Grp n (C.mv j) (C.up j p)
 upTo:∀j p,j<n->p∈C.ring j->(C.up j p).getD j 0=p
 upOwn:∀j,j<n->C.up j j=List.range n
def Chn.Shut (n:Nat)(C:Chn)(j:Nat):Prop:=∀p,p∈C.ring j->∀s,C.mv j s->s.getD p 0∈C.ring j/\Grp n (C.mv (j+1)) (beh (beh (C.up j p) s) (bk n (C.up j (s.getD p 0))))
def Chn.Sif (n:Nat)(C:Chn):Nat->List Nat->Prop
 | 0,_=>True
 | d+1,x=>x.getD (n-(d+1)) 0∈C.ring (n-(d+1))/\Chn.Sif n C d (beh x (bk n (C.up (n-(d+1)) (x.getD (n-(d+1)) 0))))
section
variable {n:Nat}{C:Chn}(ok:C.Ok n)
include ok
theorem Chn.Ok.upT {j p:Nat}(hj:j<n)(hp:p∈C.ring j):IsT n (C.up j p):=(ok.upG j p hj hp).isT (ok.mvT j)
theorem Chn.Ok.upF {j p:Nat}(hj:j<n)(hp:p∈C.ring j):Fix j (C.up j p):=(ok.upG j p hj hp).fix (ok.mvT j) (bF hj) (ok.mvF j)
theorem Chn.Ok.off {j:Nat}{x:List Nat}(hj:j<n)(hx:IsT n x)(hf:Fix j x)(hp:x.getD j 0∈C.ring j):IsT n (beh x (bk n (C.up j (x.getD j 0))))/\Fix (j+1) (beh x (bk n (C.up j (x.getD j 0)))):=by
 have hu:=ok.upT hj hp
 refine ⟨hx.beh hu.bk,λy hy=>?_⟩
 rw [beh_get hx (by lia)]
 by_cases e:y=j
 ·subst e
  have h:=K1 hu hj
  rw [ok.upTo y _ hj hp] at h
  exact h
 ·have hy':y<j:=by lia
  rw [hf y hy']
  exact Fix.bk (bF hj) hu (ok.upF hj hp) y hy'
theorem Chn.Ok.sound:∀(d:Nat) (x:List Nat),d<=n->IsT n x->Fix (n-d) x->C.Sif n d x->Grp n (C.mv (n-d)) x
 | 0,x,_,hx,hf,_=>by
  rw [eR] at hf ⊢
  rw [Fix.all hx hf]
  exact .one
 | d+1,x,hd,hx,hf,h=>by
  have hj:n-(d+1)<n:=by lia
  obtain ⟨hp,hs⟩:=h
  obtain ⟨ht,hf'⟩:=ok.off hj hx hf hp
  have e:n-(d+1)+1=n-d:=by lia
  rw [e] at hf'
  have ih:=Chn.Ok.sound d _ (by lia) ht hf' hs
  rw [←e] at ih
  have g:=Grp.mono (ok.mvT _) (ok.down _) ih
  have r:=Grp.beh (ok.mvT _) g (ok.upG _ _ hj hp)
  rwa [yv7 hx (ok.upT hj hp)] at r
theorem Chn.Ok.parts {j:Nat}(hj:j<n)(sh:C.Shut n j){x:List Nat}(hx:Grp n (C.mv j) x):∃p h,p∈C.ring j/\Grp n (C.mv (j+1)) h/\x=beh h (C.up j p):=by
 have hS:=ok.mvT j
 have hS1:=ok.mvT (j+1)
 induction hx with
 | one=>exact ⟨j,_,ok.own j hj,.one,by rw [ok.upOwn j hj,still_beh (IsT.range n)]⟩
 | mul hg hs ih =>
  rename_i a s
  obtain ⟨p,h,hp,hh,rfl⟩:=ih
  obtain ⟨hq,hg'⟩:=sh p hp s hs
  have hh':=hh.isT hS1
  have hu:=ok.upT hj hp
  have hv:=ok.upT hj hq
  refine ⟨_,_,hq,Grp.beh hS1 hh hg',?_⟩
  rw [n8 hh' ((hu.beh (hS s hs)).beh hv.bk) hv,yv7 (hu.beh (hS s hs)) hv,n8 hh' hu (hS s hs)]
 | inv hg hs ih =>
  rename_i a s
  obtain ⟨p,h,hp,hh,rfl⟩:=ih
  have hsT:=hS s hs
  obtain ⟨q,hq,e⟩:∃q∈C.ring j,s.getD q 0=p:=by
   have hnd:((C.ring j).map λq=>s.getD q 0).Nodup:=bn.mpr (List.Pairwise.imp_of_mem (λha hb hne z=>hne (hsT.step_inj (ok.lt j _ hj ha) (ok.lt j _ hj hb) z)) (ok.nd j hj))
   have hpm:=W0 hnd (λy hy=>by
    obtain ⟨q,hq,rfl⟩:=av.mp hy
    exact (sh q hq s hs).1) (by rw [ae];exact ah _)
   exact av.mp (hpm.mem_iff.mpr hp)
  subst e
  obtain ⟨_,hg'⟩:=sh q hq s hs
  have hh':=hh.isT hS1
  have hu:=ok.upT hj hp
  have hv:=ok.upT hj hq
  refine ⟨q,_,hq,Grp.beh hS1 hh (Grp.bk hS1 hg'),?_⟩
  rw [zs9 (hv.beh hsT) hu.bk,yr5 hu,zs9 hv hsT,n8 hh' (hu.beh (hsT.bk.beh hv.bk)) hv,n8 hu (hsT.bk.beh hv.bk) hv,n8 hsT.bk hv.bk hv,zs8 hv,beh_still hsT.bk,n8 hh' hu hsT.bk]
theorem Chn.Ok.complete:∀(d:Nat) (x:List Nat),d<=n->(∀j,n-d<=j->j<n->C.Shut n j)->Grp n (C.mv (n-d)) x->C.Sif n d x
 | 0,_,_,_,_=>trivial
 | d+1,x,hd,sh,hx=>by
  have hj:n-(d+1)<n:=by lia
  have e:n-(d+1)+1=n-d:=by lia
  obtain ⟨p,h,hp,hh,rfl⟩:=ok.parts hj (sh _ (ah _) hj) hx
  have hh':=hh.isT (ok.mvT _)
  have hf:=hh.fix (ok.mvT _) (by lia) (ok.mvF _)
  have hu:=ok.upT hj hp
  have e0:(beh h (C.up (n-(d+1)) p)).getD (n-(d+1)) 0=p:=by
   rw [beh_get hh' hj,hf _ (by lia),ok.upTo _ _ hj hp]
  refine ⟨by rw [e0];exact hp,?_⟩
  rw [e0,xl9 hh' hu]
  rw [e] at hh
  exact Chn.Ok.complete d h (by lia) (λi hi=>sh i (by lia)) hh
theorem Chn.Ok.sift {d:Nat}{x:List Nat}(hd:d<=n)(hx:IsT n x)(hf:Fix (n-d) x)(sh:∀j,n-d<=j->j<n->C.Shut n j):C.Sif n d x↔Grp n (C.mv (n-d)) x :=
 ⟨ok.sound d x hd hx hf,ok.complete d x hd sh⟩
end
def Indep (n:Nat)(l:List (List Nat)):Prop:=∀i s,l[i]?=some s->¬Grp n (λz=>z∈l.take i) s
theorem Indep.snoc {n:Nat}{l:List (List Nat)}{s:List Nat}(h:Indep n l)(hs:¬Grp n (λz=>z∈l) s):Indep n (l++[s]):=λi z hz hg=>by
 by_cases hi:i<l.length
 ·rw [aS hi] at hz
  rw [bJ (bF hi)] at hg
  exact h i z hz hg
 ·have:i=l.length:=by
   have:=(ag.mp hz).1
   rw [af,bD] at this
   lia
  subst this
  rw [aU (ah _),cU] at hz
  obtain rfl:s=z:=by simpa using hz
  rw [bJ (ah _),bG] at hg
  exact hs hg
theorem Indep.init {n:Nat}{l:List (List Nat)}{s:List Nat}(h:Indep n (l++[s])):Indep n l/\¬Grp n (λz=>z∈l) s:=by
 refine ⟨λi z hz hg=>?_,λhg=>?_⟩
 ·have hi:=(ag.mp hz).1
  refine h i z (by rw [aS hi];exact hz) ?_
  rw [bJ (bF hi)]
  exact hg
 ·refine h l.length s (by rw [aU (ah _),cU];rfl) ?_
  rw [bJ (ah _),bG]
  exact hg
theorem zk2 {n:Nat}:∀(k:Nat) (l:List (List Nat)),l.length=k->(∀s∈l,IsT n s)->Indep n l->∃L:List (List Nat),L.Nodup/\(∀x∈L,Grp n (λz=>z∈l) x)/\L.length=2 ^ k
 | 0,l,_,_,_=>⟨[List.range n],by simp,λx hx=>by rw [ao.mp hx];exact .one,rfl⟩
 | k+1,l,hl,hT,hI=>by
  have hne:l≠[]:=λe=>by rw [e] at hl;cases hl
  obtain ⟨l0,s,rfl⟩:∃l0 s,l=l0++[s]:=⟨l.dropLast,l.getLast hne,(List.dropLast_concat_getLast hne).symm⟩
  rw [af,bD] at hl
  obtain ⟨hI0,hs⟩:=hI.init
  have hT0:∀z∈l0,IsT n z:=λz hz=>hT z (aJ _ hz)
  have hsT:IsT n s:=hT s (by simp)
  obtain ⟨L,hnd,hG,hLl⟩:=zk2 k l0 (by lia) hT0 hI0
  have up:∀x,Grp n (λz=>z∈l0) x->Grp n (λz=>z∈l0++[s]) x:=λx hx=>Grp.mono (λz hz=>hT z hz) (λz hz=>Grp.of (λz hz=>hT z hz) (aJ _ hz)) hx
  refine ⟨L++L.map λx=>beh x s,?_,λx hx=>?_,by rw [af,ae,hLl,fD];lia⟩
  ·refine bo.mpr ⟨hnd,bn.mpr (List.Pairwise.imp_of_mem (λha hb hne z=>hne (ye7 ((hG _ ha).isT hT0) ((hG _ hb).isT hT0) hsT z)) hnd),λa ha b hb e=>?_⟩
   obtain ⟨c,hc,rfl⟩:=av.mp hb
   subst e
   have hcT:=(hG c hc).isT hT0
   have g:=Grp.beh hT0 (Grp.bk hT0 (hG c hc)) (hG _ ha)
   rw [←n8 hcT.bk hcT hsT,zs8 hcT,still_beh hsT] at g
   exact hs g
  ·rcases aD.mp hx with h|h
   ·exact up x (hG x h)
   ·obtain ⟨c,hc,rfl⟩:=av.mp h
    exact .mul (up c (hG c hc)) (by simp)
def num (n:Nat):List Nat->Nat
 | []=>0
 | x::r=>x+n*num n r
theorem yv5 {n:Nat}:∀{l:List Nat},(∀x∈l,x<n)->num n l<n ^ l.length
 | [],_=>by simp [num]
 | x::r,h=>by
  have ih:=yv5 (l:=r) λy hy=>h y (aw _ hy)
  have hx:=h x ay
  rw [num,aC,fD,Nat.mul_comm (n ^ r.length) n]
  have:n*(num n r+1)<=n*n ^ r.length:=Nat.mul_le_mul_left n ih
  rw [Nat.mul_add,dU] at this
  lia
theorem yk5 {n:Nat}:∀{l m:List Nat},(∀x∈l,x<n)->(∀x∈m,x<n)->l.length=m.length->num n l=num n m->l=m
 | [],[],_,_,_,_=>rfl
 | x::r,y::q,h1,h2,hl,e=>by
  have hx:=h1 x ay
  have hy:=h2 y ay
  rw [num,num] at e
  have e1:x=y:=by
   have:=congrArg (· % n) e
   simpa [Nat.add_mul_mod_self_left,cm hx,cm hy] using this
  subst e1
  have e2:n*num n r=n*num n q:=by lia
  have e3:=Nat.eq_of_mul_eq_mul_left (by lia) e2
  rw [yk5 (λz hz=>h1 z (aw _ hz)) (λz hz=>h2 z (aw _ hz)) (by simpa using hl) e3]
 | [],_::_,_,_,hl,_=>by cases hl
 | _::_,[],_,_,hl,_=>by cases hl
theorem nodup_below {l:List Nat}{M:Nat}(h:l.Nodup)(hl:∀x∈l,x<M):l.length<=M:=by
 rcases eS l.length M with q|q
 ·exact q
 ·have p:=W0 h (l:=List.range M) (λx hx=>aX.mpr (hl x hx)) (by rw [aN];exact q)
  rw [p.length_eq,aN]
  exact ah _
theorem zy2 {n:Nat}{L:List (List Nat)}(h:L.Nodup)(hT:∀t∈L,IsT n t):L.length<=n ^ n:=by
 have h1:(L.map (num n)).Nodup:=bn.mpr (List.Pairwise.imp_of_mem (λha hb hne z=>hne (yk5 (λx hx=>(hT _ ha).lt hx) (λx hx=>(hT _ hb).lt hx) (by rw [(hT _ ha).length,(hT _ hb).length]) z)) h)
 have h2:=nodup_below (M:=n ^ n) h1 λx hx=>by
  obtain ⟨t,ht,rfl⟩:=av.mp hx
  have:=yv5 (n:=n) (l:=t) λy hy=>(hT t ht).lt hy
  rwa [(hT t ht).length] at this
 rwa [ae] at h2
set_option exponentiation.threshold 1000 in
theorem indep_few {n:Nat}(hn:n<=60){l:List (List Nat)}(hT:∀s∈l,IsT n s)(hI:Indep n l):l.length<=354:=by
 obtain ⟨L,h1,h2,h3⟩:=zk2 l.length l rfl hT hI
 have h4:=zy2 h1 λt ht=>(h2 t ht).isT hT
 rw [h3] at h4
 have h5:n ^ n<=60 ^ 60:=aQ (Nat.pow_le_pow_left hn n) (eX (by decide) hn)
 have h6:(60:Nat) ^ 60<2 ^ 355:=by decide
 rcases cX 354 l.length with q|q
 ·have:=eX (show 0<2 by decide) (show 355<=l.length from q)
  lia
 ·exact q
end TM
namespace TM
def Chn.Good (n:Nat)(C:Chn)(j p:Nat)(s:List Nat):Prop:=s.getD p 0∈C.ring j/\Grp n (C.mv (j+1)) (beh (beh (C.up j p) s) (bk n (C.up j (s.getD p 0))))
structure Chn.MoreP (n:Nat) (C C':Chn) (j q:Nat) (t:List Nat):Prop where
 hj:j<n
 hq:q∉C.ring j
 hqn:q<n
 gt:Grp n (C.mv j) t
 ht:t.getD j 0=q
 emv:C'.mv=C.mv
 er:C'.ring j=C.ring j++[q]
 er':∀i,i≠j->C'.ring i=C.ring i
 eu:∀p,p≠q->C'.up j p=C.up j p
 eq:C'.up j q=t
 eu':∀i,i≠j->C'.up i=C.up i
theorem Chn.MoreP.sub {n:Nat}{C C':Chn}{j q:Nat}{t:List Nat}(m:Chn.MoreP n C C' j q t){i p:Nat}(hp:p∈C.ring i):p∈C'.ring i/\C'.up i p=C.up i p:=by
 by_cases e:i=j
 ·subst e
  exact ⟨by rw [m.er];exact aJ _ hp,m.eu p λz=>m.hq (z ▸ hp)⟩
 ·exact ⟨by rw [m.er' i e];exact hp,by rw [m.eu' i e]⟩
theorem Chn.MoreP.cases {n:Nat}{C C':Chn}{j q:Nat}{t:List Nat}(m:Chn.MoreP n C C' j q t){i p:Nat}(hp:p∈C'.ring i):p∈C.ring i∨(i=j/\p=q):=by
 by_cases e:i=j
 ·subst e
  rw [m.er] at hp
  rcases aD.mp hp with h|h
  ·exact .inl h
  ·exact .inr ⟨rfl,ao.mp h⟩
 ·rw [m.er' i e] at hp;exact .inl hp
theorem Chn.MoreP.ok {n:Nat}{C C':Chn}{j q:Nat}{t:List Nat}(m:Chn.MoreP n C C' j q t)(ok:C.Ok n):C'.Ok n where
 mvT:=by rw [m.emv];exact ok.mvT
 mvF:=by rw [m.emv];exact ok.mvF
 down:=by rw [m.emv];exact ok.down
 top:=by rw [m.emv];exact ok.top
 nd i hi:=by
  by_cases e:i=j
  ·subst e
   rw [m.er]
   refine bo.mpr ⟨ok.nd i hi,by simp,λa ha b hb e=>m.hq ?_⟩
   rw [←ao.mp hb,←e]
   exact ha
  ·rw [m.er' i e];exact ok.nd i hi
 lt i p hi hp:=by
  rcases m.cases hp with h|⟨_,h⟩
  ·exact ok.lt i p hi h
  ·rw [h];exact m.hqn
 own i hi:=(m.sub (ok.own i hi)).1
 upG i p hi hp:=by
  rw [m.emv]
  rcases m.cases hp with h|⟨h1,h2⟩
  ·rw [(m.sub h).2];exact ok.upG i p hi h
  ·rw [h1,h2,m.eq];exact m.gt
 upTo i p hi hp:=by
  rcases m.cases hp with h|⟨h1,h2⟩
  ·rw [(m.sub h).2];exact ok.upTo i p hi h
  ·rw [h1,h2,m.eq];exact m.ht
 upOwn i hi:=by rw [(m.sub (ok.own i hi)).2];exact ok.upOwn i hi
theorem Chn.MoreP.good {n:Nat}{C C':Chn}{j q:Nat}{t:List Nat}(m:Chn.MoreP n C C' j q t){i p:Nat}{s:List Nat}(hp:p∈C.ring i)(g:C.Good n i p s):C'.Good n i p s:=by
 refine ⟨(m.sub g.1).1,?_⟩
 rw [m.emv,(m.sub hp).2,(m.sub g.1).2]
 exact g.2
theorem Chn.MoreP.new {n:Nat}{C C':Chn}{j q:Nat}{t:List Nat}(m:Chn.MoreP n C C' j q t)(ok:C.Ok n){p:Nat}{s:List Nat}(hp:p∈C.ring j)(hs:C.mv j s)(e:t=beh (C.up j p) s):C'.Good n j p s:=by
 have hu:=ok.upT m.hj hp
 have es:s.getD p 0=q:=by
  have h:=m.ht
  rw [e,beh_get hu m.hj,ok.upTo j p m.hj hp] at h
  exact h
 unfold Chn.Good
 rw [es]
 refine ⟨by rw [m.er];simp,?_⟩
 rw [m.eq,(m.sub hp).2,e,zb9 (hu.beh (ok.mvT j s hs))]
 exact .one
structure Chn.MoreM (n:Nat) (C C':Chn) (i:Nat) (t:List Nat):Prop where
 hi:i<n
 tT:IsT n t
 tF:Fix i t
 dn:∀h,h+1=i->Grp n (C.mv h) t
 emv:∀h s,C'.mv h s↔(C.mv h s∨(h=i/\s=t))
 er:C'.ring=C.ring
 eu:C'.up=C.up
section
variable {n:Nat}{C C':Chn}{i:Nat}{t:List Nat}
theorem Chn.MoreM.mvT (m:Chn.MoreM n C C' i t)(ok:C.Ok n)(h:Nat)(s:List Nat)(hs:C'.mv h s):IsT n s:=by
 rcases (m.emv h s).mp hs with q|⟨_,q⟩
 ·exact ok.mvT h s q
 ·rw [q];exact m.tT
theorem Chn.MoreM.grp (m:Chn.MoreM n C C' i t)(ok:C.Ok n){h:Nat}{s:List Nat}(hs:Grp n (C.mv h) s):Grp n (C'.mv h) s:=Grp.mono (m.mvT ok h) (λz hz=>Grp.of (m.mvT ok h) ((m.emv h z).mpr (.inl hz))) hs
theorem Chn.MoreM.ok (m:Chn.MoreM n C C' i t)(ok:C.Ok n):C'.Ok n where
 mvT:=m.mvT ok
 mvF h s hs:=by
  rcases (m.emv h s).mp hs with q|⟨e,q⟩
  ·exact ok.mvF h s q
  ·rw [q,e];exact m.tF
 down h s hs:=by
  rcases (m.emv _ s).mp hs with q|⟨e,q⟩
  ·exact m.grp ok (ok.down h s q)
  ·rw [q];exact m.grp ok (m.dn h e)
 top h s hn hs:=by
  rcases (m.emv h s).mp hs with q|⟨e,q⟩
  ·exact ok.top h s hn q
  ·have:=m.hi;lia
 nd:=by rw [m.er];exact ok.nd
 lt:=by rw [m.er];exact ok.lt
 own:=by rw [m.er];exact ok.own
 upG h p hh hp:=by
  rw [m.er] at hp
  rw [m.eu]
  exact m.grp ok (ok.upG h p hh hp)
 upTo:=by rw [m.er,m.eu];exact ok.upTo
 upOwn:=by rw [m.eu];exact ok.upOwn
theorem Chn.MoreM.good (m:Chn.MoreM n C C' i t)(ok:C.Ok n){h p:Nat}{s:List Nat}(g:C.Good n h p s):C'.Good n h p s:=by
 unfold Chn.Good
 rw [m.er,m.eu]
 exact ⟨g.1,m.grp ok g.2⟩
theorem Chn.MoreM.new {j:Nat}(m:Chn.MoreM n C C' (j+1) t)(ok:C.Ok n){p:Nat}{s:List Nat}(hp:s.getD p 0∈C.ring j)(e:t=beh (beh (C.up j p) s) (bk n (C.up j (s.getD p 0)))):C'.Good n j p s:=by
 unfold Chn.Good
 rw [m.er,m.eu]
 refine ⟨hp,?_⟩
 rw [←e]
 exact Grp.of (m.mvT ok _) ((m.emv _ t).mpr (.inr ⟨rfl,rfl⟩))
theorem Chn.Ok.schreier (ok:C.Ok n){j p:Nat}{s:List Nat}(hj:j<n)(hp:p∈C.ring j)(hs:C.mv j s)(hq:s.getD p 0∈C.ring j):Grp n (C.mv j) (beh (beh (C.up j p) s) (bk n (C.up j (s.getD p 0))))/\Fix (j+1) (beh (beh (C.up j p) s) (bk n (C.up j (s.getD p 0)))):=by
 have hS:=ok.mvT j
 have hu:=ok.upT hj hp
 have g:Grp n (C.mv j) (beh (C.up j p) s):=.mul (ok.upG j p hj hp) hs
 refine ⟨Grp.beh hS g (Grp.bk hS (ok.upG j _ hj hq)),?_⟩
 have e:(beh (C.up j p) s).getD j 0=s.getD p 0:=by rw [beh_get hu hj,ok.upTo j p hj hp]
 have h:=(ok.off hj (hu.beh (hS s hs)) (g.fix hS (bF hj) (ok.mvF j)) (by rw [e];exact hq)).2
 rwa [e] at h
end
end TM
namespace TM
section
variable {n:Nat}{C:Chn}(ok:C.Ok n)
include ok
end
section
variable {n:Nat}{t:List Nat}(hT:IsT n t)
include hT
theorem IsT.pwT_isT (m:Int):IsT n (pwT t m):=by
 refine yf2 (hT.pwT_len m) ?_ λx hx=>?_
 ·refine bn.mpr (List.Pairwise.imp_of_mem (λha hb hne z=>hne ?_) cv)
  rename_i a b
  have ha':a<n:=by rw [←hT.length];exact aX.mp ha
  have hb':b<n:=by rw [←hT.length];exact aX.mp hb
  have z':=congrArg (pw t (-m)) z
  rw [hT.pw_pw _ _ ha',hT.pw_pw _ _ hb',Int.add_right_neg] at z'
  have h0:∀y,y<n->pw t 0 y=y:=λy hy=>by
   unfold pw
   rw [Int.zero_emod]
   rfl
  rw [h0 a ha',h0 b hb'] at z'
  exact z'
 ·obtain ⟨i,hi,rfl⟩:=av.mp hx
  exact hT.pw_lt m (by rw [←hT.length];exact aX.mp hi)
theorem IsT.pwT_beh (a b:Int):TM.beh (pwT t a) (pwT t b)=pwT t (a+b):=hT.pwT_comp a b
theorem IsT.pwT_bk (m:Int):TM.bk n (pwT t m)=pwT t (-m):=by
 have hA:=hT.pwT_isT m
 have e:=hT.pwT_beh m (-m)
 rw [Int.add_right_neg,←hT.pwT_zero] at e
 have e2:=zb9 hA
 exact zy4 hA.bk (hT.pwT_isT _) hA (e2.trans e.symm)
theorem IsT.pw_eq {a b:Int}{x:Nat}(hx:x<n):pw t a x=pw t b x↔a % (per t x:Int)=b % (per t x:Int):=by
 have hp:=hT.per_pos hx
 have na:∀m:Int,0<=m % (per t x:Int)/\m % (per t x:Int)<(per t x:Int):=λm=>⟨bR _ (by lia),dz _ (by lia)⟩
 constructor
 ·intro e
  have ha:=na a
  have hb:=na b
  have:=hT.it_eq_iff hx (i:=(a % (per t x:Int)).toNat) (j:=(b % (per t x:Int)).toNat) (by lia) (by lia) e
  lia
 ·intro e
  unfold pw
  rw [e]
def ord (t:List Nat):Nat:=xl4 ((List.range t.length).map (per t))
end
theorem zz4:∀(l:List Nat) (a:Nat),a ∣ l.foldl Nat.lcm a/\∀x∈l,x ∣ l.foldl Nat.lcm a
 | [],a=>⟨Nat.dvd_refl _,λx hx=>by cases hx⟩
 | y::l,a=>by
  obtain ⟨h1,h2⟩:=zz4 l (Nat.lcm a y)
  refine ⟨Nat.dvd_trans (Nat.dvd_lcm_left a y) h1,λx hx=>?_⟩
  rcases aq.mp hx with e|e
  ·rw [e];exact Nat.dvd_trans (Nat.dvd_lcm_right a y) h1
  ·exact h2 x e
section
variable {n:Nat}{t:List Nat}(hT:IsT n t)
include hT
theorem IsT.ord_pos:0<ord t:=yu5 λx hx=>by
 obtain ⟨y,hy,rfl⟩:=av.mp hx
 exact hT.per_pos (by rw [←hT.length];exact aX.mp hy)
theorem IsT.per_dvd {x:Nat}(hx:x<n):per t x ∣ ord t:=(zz4 _ 1).2 _ (av.mpr ⟨x,by rw [hT.length];exact aX.mpr hx,rfl⟩)
theorem IsT.pwT_mod (m:Int):pwT t (m % (ord t:Int))=pwT t m:=by
 refine hT.eq_pwT (hT.pwT_len _) λx hx=>?_
 rw [hT.pwT_get _ hx]
 congr 1
 rw [hT.pw_eq hx]
 exact Int.emod_emod_of_dvd m (Int.natCast_dvd_natCast.mpr (hT.per_dvd hx))
end
end TM
namespace TM
def yz8 (n:Nat)(W t:List Nat):Prop:=∀x,x<n->x∉W->t.getD x 0=x
end TM
namespace TM
section
variable {n:Nat}{C:Chn}(ok:C.Ok n)
include ok
end
end TM
namespace TM
section
variable {n:Nat}{C:Chn}(ok:C.Ok n)
include ok
end
section
variable {n:Nat}{S:List Nat->Prop}(hS:∀s,S s->IsT n s)
include hS
end
end TM
namespace TM
open Classical
section
variable (n:Nat)(G:List Nat->Prop)
end
section
variable {n:Nat}{C:Chn}{G:List Nat->Prop}(ok:C.Ok n)(sh:∀i,i<n->C.Shut n i)(hG:∀x,Grp n (C.mv 0) x↔G x)
include ok sh hG
end
theorem len_sub' {l m:List (List Nat)}(h1:l.Nodup)(h2:∀y∈l,y∈m):l.length<=m.length:=by
 induction l generalizing m with
 | nil=>exact aR _
 | cons a l ih =>
  obtain ⟨h3,h4⟩:=aZ.mp h1
  have:=ih (m:=m.erase a) h4 λy hy=>(List.mem_erase_of_ne (λ(e:y=a)=>h3 (by rw [←e];exact hy))).mpr (h2 y (aw _ hy))
  have ha:=h2 a ay
  rw [eO ha] at this
  have:=List.length_pos_of_mem ha
  rw [aC]
  lia
end TM
namespace TM
open Classical
structure zo2 (n a b:Nat) (t:List Nat):Prop where
 isT:IsT n t
 to:t.getD a 0=b
 fro:t.getD b 0=a
 out:∀x,x<n->x≠a->x≠b->t.getD x 0=x
theorem zj2 {n:Nat}{l t:List Nat}(lT:IsT n l)(tT:IsT n t){x:Nat}(hx:x<n):(beh (beh (bk n l) t) l).getD (l.getD x 0) 0=l.getD (t.getD x 0) 0:=by
 have hy:=lT.step_lt hx
 rw [beh_get (lT.bk.beh tT) hy,beh_get lT.bk hy,K1 lT hx]
theorem zo2.conj {n a b:Nat}{t l:List Nat}(ha:a<n)(hb:b<n)(h:zo2 n a b t)(lT:IsT n l):zo2 n (l.getD a 0) (l.getD b 0) (beh (beh (bk n l) t) l):=by
 refine ⟨(lT.bk.beh h.isT).beh lT,by rw [zj2 lT h.isT ha,h.to],by rw [zj2 lT h.isT hb,h.fro],λy hy ya yb=>?_⟩
 have hx:=lT.bk.step_lt hy
 have e:l.getD ((bk n l).getD y 0) 0=y:=by
  have:=K1 lT.bk hy
  rwa [yr5 lT] at this
 have:=zj2 lT h.isT hx
 rw [e,h.out _ hx (λz=>ya (by rw [←z,e])) (λz=>yb (by rw [←z,e])),e] at this
 exact this
theorem zo2.symm {n a b:Nat}{t:List Nat}(h:zo2 n a b t):zo2 n b a t:=⟨h.isT,h.fro,h.to,λx hx h1 h2=>h.out x hx h2 h1⟩
def yi8 (n:Nat)(W:List Nat)(S:List Nat->Prop):Prop:=∀a,a∈W->∀b,b∈W->a≠b->∃t,zo2 n a b t/\Grp n S t
section
variable {n:Nat}{W:List Nat}{S:List Nat->Prop}(hS:∀s,S s->IsT n s)(hW:W.Nodup)(hlt:∀x∈W,x<n)
include hS hW hlt
theorem ye5 (h:∀k,k+1<W.length->∃t,zo2 n (W.getD k 0) (W.getD (k+1) 0) t/\Grp n S t):yi8 n W S:=by
 have wlt:∀k,k<W.length->W.getD k 0<n:=λk hk=>hlt _ (by rw [ax,aa hk];exact bz hk)
 have wne:∀i k,i<W.length->k<W.length->i≠k->W.getD i 0≠W.getD k 0:=λi k hi hk hne e=>by
  have h1:W[i]?=some (W.getD i 0):=by rw [ax,aa hi];rfl
  have h2:W[k]?=some (W.getD k 0):=by rw [ax,aa hk];rfl
  rw [e] at h1
  exact hne ((K6 hW h1).symm.trans (K6 hW h2))
 have key:∀d i,i+(d+1)<W.length->∃t,zo2 n (W.getD i 0) (W.getD (i+(d+1)) 0) t/\Grp n S t:=λd=>by
  induction d with
  | zero=>exact λi hi=>h i hi
  | succ d ih =>
   intro i hi
   obtain ⟨t,ht,hg⟩:=ih i (by lia)
   obtain ⟨e,he,heg⟩:=h (i+(d+1)) hi
   have c:=ht.conj (wlt i (by lia)) (wlt _ (by lia)) he.isT
   rw [he.to,he.out _ (wlt i (by lia)) (wne _ _ (by lia) (by lia) (by lia)) (wne _ _ (by lia) (by lia) (by lia))] at c
   exact ⟨_,c,Grp.beh hS (Grp.beh hS (heg.bk hS) hg) heg⟩
 intro a ha b hb hne
 obtain ⟨i,hi,rfl⟩:=bW.mp ha
 obtain ⟨k,hk,rfl⟩:=bW.mp hb
 have e1:W.getD i 0=W[i]:=by rw [ax,aa hi];rfl
 have e2:W.getD k 0=W[k]:=by rw [ax,aa hk];rfl
 rcases Nat.lt_trichotomy i k with c|c|c
 ·obtain ⟨t,ht,hg⟩:=key (k-i-1) i (by lia)
  rw [show i+(k-i-1+1)=k by lia,e1,e2] at ht
  exact ⟨t,ht,hg⟩
 ·subst c
  exact absurd rfl hne
 ·obtain ⟨t,ht,hg⟩:=key (i-k-1) k (by lia)
  rw [show k+(i-k-1+1)=i by lia,e1,e2] at ht
  exact ⟨t,ht.symm,hg⟩
theorem ye4 {l e:List Nat}(lG:Grp n S l)(hl:∀k,k+1<W.length->l.getD (W.getD k 0) 0=W.getD (k+1) 0)(he:zo2 n (W.getD 0 0) (W.getD 1 0) e)(eG:Grp n S e):yi8 n W S:=by
 refine ye5 hS hW hlt λk=>?_
 have wlt:∀k,k<W.length->W.getD k 0<n:=λk hk=>hlt _ (by rw [ax,aa hk];exact bz hk)
 induction k with
 | zero=>exact λ_=>⟨e,he,eG⟩
 | succ k ih =>
  intro hk
  obtain ⟨t,ht,hg⟩:=ih (by lia)
  have lT:=lG.isT hS
  have c:=ht.conj (wlt _ (by lia)) (wlt _ (by lia)) lT
  rw [hl k (by lia),hl (k+1) hk] at c
  exact ⟨_,c,Grp.beh hS (Grp.beh hS (lG.bk hS) hg) lG⟩
end
end TM
namespace TM
inductive Ways (n:Nat) (ts:List (List Nat)) (mv:List Nat->List Nat->List Nat) (o:List Nat):List Nat->List Nat->List Nat->Prop
 | own:Ways n ts mv o o [] (List.range n)
 | step {k w b t:List Nat} {i:Nat}:Ways n ts mv o k w b->ts[i]?=some t->Ways n ts mv o (mv k t) (w++[i]) (beh b t)
def Rch (n:Nat)(ts:List (List Nat))(mv:List Nat->List Nat->List Nat)(o k:List Nat):Prop:=∃w b,Ways n ts mv o k w b
variable {n:Nat}{ts:List (List Nat)}{mv:List Nat->List Nat->List Nat}{o:List Nat}
theorem Rch.own:Rch n ts mv o o:=⟨_,_,.own⟩
theorem Rch.step {k t:List Nat}(h:Rch n ts mv o k)(ht:t∈ts):Rch n ts mv o (mv k t):=by
 obtain ⟨w,b,h⟩:=h
 obtain ⟨i,hi⟩:=aW ht
 exact ⟨_,_,.step h hi⟩
theorem Rch.in {P:List Nat->Prop}(ho:P o)(hc:∀k t,P k->t∈ts->P (mv k t)){k:List Nat}(h:Rch n ts mv o k):P k:=by
 obtain ⟨w,b,h⟩:=h
 induction h with
 | own=>exact ho
 | step _ hi ih=>exact hc _ _ ih (au hi)
theorem Ways.isT (hT:∀t∈ts,IsT n t){k w b:List Nat}(h:Ways n ts mv o k w b):IsT n b:=by
 induction h with
 | own=>exact IsT.range n
 | step _ hi ih=>exact ih.beh (hT _ (au hi))
end TM
namespace TM
def nxC:List (List Nat)->Nat->Nat
 | [],x=>x
 | l::r,x=>if x∈l then (l[(l.idxOf x+1) % l.length]?).getD x else nxC r x
def rowC (n:Nat)(ls:List (List Nat)):List Nat:=(List.range n).map (nxC ls)
theorem R5:∀{ls:List (List Nat)} {x:Nat},x∉ls.flatten->nxC ls x=x
 | [],_,_=>rfl
 | l::r,x,h=>by
  rw [bZ,aD] at h
  unfold nxC
  rw [if_neg λz=>h (.inl z)]
  exact R5 λz=>h (.inr z)
theorem nxC_at:∀{ls:List (List Nat)},ls.flatten.Nodup->∀{l:List Nat},l∈ls->∀{k x y:Nat},l[k]?=some x->l[(k+1) % l.length]?=some y->nxC ls x=y
 | [],_,_,hl,_,_,_,_,_=>by cases hl
 | m::r,hn,l,hl,k,x,y,hk,hy=>by
  rw [bZ] at hn
  obtain ⟨n1,n2,n3⟩:=bo.mp hn
  have hx:x∈l:=au hk
  unfold nxC
  by_cases hm:x∈m
  ·rw [if_pos hm]
   have hlm:l=m:=by
    rcases aq.mp hl with z|z
    ·exact z
    ·exact absurd rfl (n3 x hm x (aF.mpr ⟨l,z,hx⟩))
   subst hlm
   have e:l.idxOf x=k:=by
    obtain ⟨hk1,hk2⟩:=ag.mp hk
    rw [←hk2]
    exact List.Nodup.idxOf_getElem n1 k hk1
   rw [e,hy]
   rfl
  ·rw [if_neg hm]
   refine nxC_at n2 ?_ hk hy
   rcases aq.mp hl with z|z
   ·exact absurd (z ▸ hx) hm
   ·exact z
theorem rowC_get {n:Nat}{ls:List (List Nat)}{x:Nat}(h:x<n):(rowC n ls)[x]?=some (nxC ls x):=by
 unfold rowC
 rw [ar,bg h]
 rfl
theorem U2 {n:Nat}{ls:List (List Nat)}{x:Nat}(h:x<n):(rowC n ls).getD x 0=nxC ls x:=getD_of (rowC_get h)
theorem zf4 (n:Nat)(ls:List (List Nat)):(rowC n ls).length=n:=by unfold rowC;rw [ae,aN]
structure RdC (n:Nat) (t:List Nat) (S:Nat->Prop) (g:List Nat):Prop where
 len:g.length=n
 ins:∀x,x<n->S x->g[x]?=t[x]?
 out:∀x,x<n->¬S x->g[x]?=some x
theorem RdC.start (n:Nat)(t:List Nat){S:Nat->Prop}(hS:∀x,¬S x):RdC n t S (List.range n):=⟨aN,λx _ h=>absurd h (hS x),λx hx _=>bg hx⟩
theorem RdC.congr {n:Nat}{t g:List Nat}{S S':Nat->Prop}(h:RdC n t S g)(e:∀x,S x↔S' x):RdC n t S' g :=
 ⟨h.len,λx hx q=>h.ins x hx ((e x).mpr q),λx hx q=>h.out x hx λz=>q ((e x).mp z)⟩
theorem RdC.set {n:Nat}{t g:List Nat}{S:Nat->Prop}{p y:Nat}(h:RdC n t S g)(hp:p<n)(hy:t[p]?=some y):RdC n t (λx=>S x∨x=p) (g.set p y):=by
 have hpl:p<g.length:=by rw [h.len];exact hp
 refine ⟨by rw [bL];exact h.len,λx hx q=>?_,λx hx q=>?_⟩
 ·by_cases e:x=p
  ·subst e
   rw [ci hpl,hy]
  ·rw [bO (Ne.symm e)]
   exact h.ins x hx (q.resolve_right e)
 ·have e:x≠p:=λz=>q (.inr z)
  rw [bO (Ne.symm e)]
  exact h.out x hx λz=>q (.inl z)
theorem RdC.row {n:Nat}{g:List Nat}{S:Nat->Prop}{ls:List (List Nat)}(h:RdC n (rowC n ls) S g)(hS:∀x,x∈ls.flatten->S x):g=rowC n ls:=by
 apply cf
 intro x
 by_cases hx:x<n
 ·by_cases q:S x
  ·exact h.ins x hx q
  ·rw [h.out x hx q,rowC_get hx,R5 λz=>q (hS x z)]
 ·rw [aH (by rw [h.len];lia),aH (by rw [zf4];lia)]
theorem zk7 {ls:List (List Nat)}(hn:ls.flatten.Nodup){l:List Nat}(hl:l∈ls){x:Nat}(hx:x∈l):nxC ls x∈l:=by
 obtain ⟨k,hk⟩:=aW hx
 have hkl:=(ag.mp hk).1
 have h2:(k+1) % l.length<l.length:=dM _ (by lia)
 rw [nxC_at hn hl hk (aa h2)]
 exact bz h2
theorem zd8:∀{ls:List (List Nat)},ls.flatten.Nodup->∀{l m:List Nat} {x:Nat},l∈ls->m∈ls->x∈l->x∈m->l=m
 | [],_,_,_,_,hl,_,_,_=>by cases hl
 | a::r,hn,l,m,x,hl,hm,hxl,hxm=>by
  rw [bZ] at hn
  obtain ⟨_,n2,n3⟩:=bo.mp hn
  rcases aq.mp hl with e|e
  ·rcases aq.mp hm with e'|e'
   ·rw [e,e']
   ·exact absurd rfl (n3 x (e ▸ hxl) x (aF.mpr ⟨m,e',hxm⟩))
  ·rcases aq.mp hm with e'|e'
   ·exact absurd rfl (n3 x (e' ▸ hxm) x (aF.mpr ⟨l,e,hxl⟩))
   ·exact zd8 n2 e e' hxl hxm
theorem loop_nodup {ls:List (List Nat)}(hn:ls.flatten.Nodup){l:List Nat}(hl:l∈ls):l.Nodup:=(List.pairwise_flatten.mp hn).1 l hl
theorem xd0 {ls:List (List Nat)}(hn:ls.flatten.Nodup){x y:Nat}(e:nxC ls x=nxC ls y):x=y:=by
 by_cases hx:x∈ls.flatten
 ·obtain ⟨l,hl,hxl⟩:=aF.mp hx
  have h1:=zk7 hn hl hxl
  by_cases hy:y∈ls.flatten
  ·obtain ⟨m,hm,hym⟩:=aF.mp hy
   have h2:=zk7 hn hm hym
   rw [e] at h1
   obtain rfl:=zd8 hn hl hm h1 h2
   obtain ⟨i,hi⟩:=aW hxl
   obtain ⟨j,hj⟩:=aW hym
   obtain ⟨il,ei⟩:=ag.mp hi
   obtain ⟨jl,ej⟩:=ag.mp hj
   have a1:(i+1) % l.length<l.length:=dM _ (by lia)
   have a2:(j+1) % l.length<l.length:=dM _ (by lia)
   rw [nxC_at hn hl hi (aa a1),nxC_at hn hl hj (aa a2)] at e
   have e2:=(cD (loop_nodup hn hl)).mp e
   have e3:i=j:=by
    by_cases c1:i+1=l.length
    ·rw [c1,fE] at e2
     by_cases c2:j+1=l.length
     ·lia
     ·rw [cm (show j+1<l.length by lia)] at e2;lia
    ·rw [cm (show i+1<l.length by lia)] at e2
     by_cases c2:j+1=l.length
     ·rw [c2,fE] at e2;lia
     ·rw [cm (show j+1<l.length by lia)] at e2;lia
   rw [←ei,←ej]
   subst e3
   rfl
  ·rw [e,R5 hy] at h1
   exact absurd (aF.mpr ⟨l,hl,h1⟩) hy
 ·rw [R5 hx] at e
  by_cases hy:y∈ls.flatten
  ·obtain ⟨m,hm,hym⟩:=aF.mp hy
   exact absurd (aF.mpr ⟨m,hm,e ▸ zk7 hn hm hym⟩) hx
  ·rw [R5 hy] at e
   exact e
theorem rowC_isT {n:Nat}{ls:List (List Nat)}(hn:ls.flatten.Nodup)(hlt:∀x∈ls.flatten,x<n):IsT n (rowC n ls):=by
 refine yf2 (zf4 n ls) ?_ λx hx=>?_
 ·exact bn.mpr (List.Pairwise.imp (λhne z=>hne (xd0 hn z)) cv)
 ·obtain ⟨y,hy,rfl⟩:=av.mp hx
  by_cases h:y∈ls.flatten
  ·obtain ⟨l,hl,hyl⟩:=aF.mp h
   exact hlt _ (aF.mpr ⟨l,hl,zk7 hn hl hyl⟩)
  ·rw [R5 h]
   exact aX.mp hy
def mvQ (l t:List Nat):List Nat:=l.map λx=>t.getD x 0
inductive Fits:List Nat->List (List Nat)->Prop
 | nil:Fits [] []
 | cons {x:Nat} {r c:List Nat} {cs:List (List Nat)}:x∈c->Fits r cs->Fits (x::r) (c::cs)
theorem Fits.app {a b:List Nat}{cs ds:List (List Nat)}(h:Fits a cs)(h2:Fits b ds):Fits (a++b) (cs++ds):=by
 induction h with
 | nil=>exact h2
 | cons hx _ ih=>exact .cons hx ih
theorem Fits.all {r:List Nat}{cs:List (List Nat)}(h:Fits r cs):∀x∈r,∃c∈cs,x∈c:=by
 induction h with
 | nil=>exact λx hx=>by cases hx
 | cons hx _ ih =>
  intro y hy
  rcases aq.mp hy with e|e
  ·exact ⟨_,ay,e ▸ hx⟩
  ·obtain ⟨c,hc,h⟩:=ih y e
   exact ⟨c,aw _ hc,h⟩
theorem Fits.move {n:Nat}{cs ls:List (List Nat)}(hn:cs.flatten.Nodup)(hlt:∀x∈cs.flatten,x<n)(hl:ls.flatten.Nodup)(hs:∀c∈ls,c∈cs){r:List Nat}{ds:List (List Nat)}(hd:∀c∈ds,c∈cs)(h:Fits r ds):Fits (mvQ r (rowC n ls)) ds:=by
 induction h with
 | nil=>exact .nil
 | @cons x r c ds hx _ ih =>
  refine .cons ?_ (ih λc' hc'=>hd c' (aw _ hc'))
  have hc:=hd c ay
  show (rowC n ls).getD x 0∈c
  rw [U2 (hlt x (aF.mpr ⟨c,hc,hx⟩))]
  by_cases hf:x∈ls.flatten
  ·obtain ⟨l,hll,hxl⟩:=aF.mp hf
   obtain rfl:=zd8 hn (hs l hll) hc hxl hx
   exact zk7 hl hll hxl
  ·rw [R5 hf]
   exact hx
section
variable {n:Nat}{cs ts:List (List Nat)}{o:List Nat}(hn:cs.flatten.Nodup)(hlt:∀x∈cs.flatten,x<n)(h1:∀c∈cs,rowC n [c]∈ts)
include hn hlt h1
theorem xf0 {a b:List Nat}{c:List Nat}(hc:c∈cs)(ha:∀x∈a,x<n/\x∉c)(hb:∀x∈b,x<n/\x∉c){x y:Nat}(hx:x∈c)(hy:y∈c)(h:Rch n ts mvQ o (a++x::b)):Rch n ts mvQ o (a++y::b):=by
 have hcn:=loop_nodup hn hc
 have hone:[c].flatten.Nodup:=by simpa using hcn
 obtain ⟨i,hi⟩:=aW hx
 obtain ⟨j,hj⟩:=aW hy
 have il:=(ag.mp hi).1
 have jl:=(ag.mp hj).1
 have stay:∀u:List Nat,(∀z∈u,z<n/\z∉c)->mvQ u (rowC n [c])=u:=λu hu=>by
  unfold mvQ
  conv=>rhs;rw [←df u]
  refine bp λz hz=>?_
  rw [U2 (hu z hz).1,R5 (by simpa using (hu z hz).2)]
  rfl
 have go:∀s:Nat,∀z,c[(i+s) % c.length]?=some z->Rch n ts mvQ o (a++z::b):=by
  intro s
  induction s with
  | zero =>
   intro z hz
   rw [eU,cm il,hi] at hz
   cases hz
   exact h
  | succ s ih =>
   intro z hz
   have m1:(i+s) % c.length<c.length:=dM _ (by lia)
   have h2:=(ih _ (aa m1)).step (h1 c hc)
   have e1:mvQ (a++c[(i+s) % c.length]::b) (rowC n [c])=a++z::b:=by
    have:mvQ (a++c[(i+s) % c.length]::b) (rowC n [c])=mvQ a (rowC n [c])++((rowC n [c]).getD (c[(i+s) % c.length]) 0)::mvQ b (rowC n [c]):=by unfold mvQ;rw [aG,aI]
    rw [this,stay a ha,stay b hb,U2 (hlt _ (aF.mpr ⟨c,hc,bz m1⟩))]
    rw [nxC_at hone (ao.mpr rfl) (aa m1) (y:=z) (by rw [←hz,Nat.mod_add_mod,Nat.add_assoc])]
   rwa [e1] at h2
 refine go (j+c.length-i) y ?_
 rw [show i+(j+c.length-i)=j+c.length by lia,Nat.add_mod_right,cm jl]
 exact hj
theorem xe9 {ds:List (List Nat)}:∀{es:List (List Nat)} {a b b':List Nat},cs=ds++es->ds.length=a.length->Fits a ds->Fits b es->Fits b' es->Rch n ts mvQ o (a++b)->Rch n ts mvQ o (a++b'):=by
 intro es
 induction es generalizing ds with
 | nil =>
  intro a b b' _ _ _ hb hb' h
  cases hb
  cases hb'
  exact h
 | cons c es ih =>
  intro a b b' e el ha hb hb' h
  cases hb with
  | @cons x r _ _ hx hr =>
  cases hb' with
  | @cons y r' _ _ hy hr' =>
  have hc:c∈cs:=by rw [e];simp
  have nds:∀d∈ds,∀z∈d,z∉c:=λd hd z hz hzc=>by
   rw [e,dv] at hn
   exact (bo.mp hn).2.2 z (aF.mpr ⟨d,hd,hz⟩) z (aF.mpr ⟨c,ay,hzc⟩) rfl
  have nes:∀d∈es,∀z∈d,z∉c:=λd hd z hz hzc=>by
   rw [e,dv,bZ] at hn
   exact (bo.mp (bo.mp hn).2.1).2.2 z hzc z (aF.mpr ⟨d,hd,hz⟩) rfl
  have inl:∀d∈cs,∀z∈d,z<n:=λd hd z hz=>hlt z (aF.mpr ⟨d,hd,hz⟩)
  have h2:=xf0 hn hlt h1 hc (λz hz=>by
   obtain ⟨d,hd,hzd⟩:=ha.all z hz
   exact ⟨inl d (by rw [e];simp [hd]) z hzd,nds d hd z hzd⟩) (λz hz=>by
   obtain ⟨d,hd,hzd⟩:=hr.all z hz
   exact ⟨inl d (by rw [e];simp [hd]) z hzd,nes d hd z hzd⟩) hx hy h
  have h3:=ih (ds:=ds++[c]) (a:=a++[y]) (b:=r) (b':=r') (by rw [e];simp) (by simp [el]) (ha.app (.cons hy .nil)) hr hr' (by rw [aY];exact h2)
  rwa [aY] at h3
theorem rch_fits (h2:∀t∈ts,∃ls,ls.flatten.Nodup/\(∀c∈ls,c∈cs)/\t=rowC n ls)(ho:Fits o cs)(k:List Nat):Rch n ts mvQ o k↔Fits k cs:=by
 refine ⟨λh=>?_,λh=>?_⟩
 ·refine Rch.in (P:=λk=>Fits k cs) ho (λr t hr ht=>?_) h
  obtain ⟨ls,a,b,rfl⟩:=h2 t ht
  exact Fits.move hn hlt a b (λc hc=>hc) hr
 ·exact xe9 hn hlt h1 (ds:=[]) (a:=[]) (b:=o) (b':=k) rfl rfl .nil ho h Rch.own
end
def prdG (made cs:List (List Nat)):List (List Nat):=cs.foldl (λmade c=>made.flatMap λr=>c.map λp=>r++[p]) made
theorem yb6:∀{cs made:List (List Nat)} {r:List Nat},r∈prdG made cs↔∃a∈made,∃b,Fits b cs/\r=a++b
 | [],made,r=>⟨λh=>⟨r,h,[],.nil,by simp⟩,λ⟨a,ha,b,hb,e⟩=>by cases hb;rw [e,bu];exact ha⟩
 | c::cs,made,r=>by
  show r∈prdG (made.flatMap λr=>c.map λp=>r++[p]) cs↔_
  rw [yb6]
  constructor
  ·rintro ⟨a,ha,b,hb,rfl⟩
   obtain ⟨q,hq,ha⟩:=bS.mp ha
   obtain ⟨p,hp,rfl⟩:=av.mp ha
   exact ⟨q,hq,p::b,.cons hp hb,by simp⟩
  ·rintro ⟨q,hq,b,hb,rfl⟩
   cases hb with
   | @cons p b _ _ hp hb=>exact ⟨q++[p],bS.mpr ⟨q,hq,av.mpr ⟨p,hp,rfl⟩⟩,b,hb,by simp⟩
theorem zl6:∀{cs made:List (List Nat)} {m:Nat},(∀c∈cs,c.Nodup)->made.Nodup->(∀r∈made,r.length=m)->(prdG made cs).Nodup
 | [],_,_,_,h,_=>h
 | c::cs,made,m,hc,h,hm=>by
  show (prdG (made.flatMap λr=>c.map λp=>r++[p]) cs).Nodup
  refine zl6 (m:=m+1) (λd hd=>hc d (aw _ hd)) ?_ λr hr=>?_
  ·refine List.pairwise_flatMap.mpr ⟨λr _=>bn.mpr ((hc c ay).imp λhne z=>hne (by simpa using z)),?_⟩
   refine List.Pairwise.imp_of_mem (λ{a b} ha hb hne=>?_) h
   intro z hza y hzb ez
   subst ez
   obtain ⟨p,_,rfl⟩:=av.mp hza
   obtain ⟨q,_,e⟩:=av.mp hzb
   exact hne (List.append_inj_left e.symm (by rw [hm a ha,hm b hb]))
  ·obtain ⟨q,hq,hr⟩:=bS.mp hr
   obtain ⟨p,_,rfl⟩:=av.mp hr
   rw [af,hm q hq]
   rfl
theorem prdG_len:∀{cs made:List (List Nat)},(prdG made cs).length=made.length*(cs.map List.length).foldr (· * ·) 1
 | [],made=>by simp [prdG]
 | c::cs,made=>by
  show (prdG (made.flatMap λr=>c.map λp=>r++[p]) cs).length=_
  rw [prdG_len,List.length_flatMap]
  have:(made.map λr=>(c.map λp=>r++[p]).length).sum=made.length*c.length:=by
   induction made with
   | nil=>simp
   | cons a made ih=>rw [aI,dI,ih,ae,aC,Nat.succ_mul];lia
  rw [this,aI,List.foldr_cons,fB]
def prd (cs:List (List Nat)):List (List Nat):=prdG [[]] cs
theorem prd_mem {cs:List (List Nat)}{r:List Nat}:r∈prd cs↔Fits r cs:=by
 unfold prd
 rw [yb6]
 exact ⟨λ⟨a,ha,b,hb,e⟩=>by rw [ao.mp ha] at e;rw [e];exact hb,λh=>⟨[],by simp,r,h,rfl⟩⟩
theorem prd_nodup {cs:List (List Nat)}(h:∀c∈cs,c.Nodup):(prd cs).Nodup:=zl6 (m:=0) h (by simp) (by simp)
end TM
namespace TM
theorem zu9 {n:Nat}{k a b:List Nat}(hk:∀x∈k,x<n)(ha:IsT n a):mvQ (mvQ k a) b=mvQ k (beh a b):=by
 unfold mvQ
 rw [bE]
 exact bp λx hx=>(beh_get ha (hk x hx)).symm
theorem xl5 {n:Nat}{k t:List Nat}(hk:∀x∈k,x<n)(ht:IsT n t):∀x∈mvQ k t,x<n:=λx hx=>by
 obtain ⟨y,hy,rfl⟩:=av.mp hx
 exact ht.step_lt (hk y hy)
theorem zr8 {n:Nat}{k:List Nat}(hk:∀x∈k,x<n):mvQ k (List.range n)=k:=by
 unfold mvQ
 conv=>rhs;rw [←df k]
 refine bp λx hx=>?_
 rw [getD_of (bg (hk x hx))]
 rfl
section
variable {n:Nat}{ts:List (List Nat)}{o:List Nat}(hT:∀t∈ts,IsT n t)
include hT
theorem Rch.pw {k t:List Nat}(hk:∀x∈k,x<n)(ht:t∈ts)(h:Rch n ts mvQ o k):∀j:Nat,Rch n ts mvQ o (mvQ k (pwT t (j:Int)))
 | 0=>by
  have e:pwT t ((0:Nat):Int)=List.range n:=(hT t ht).pwT_zero.symm
  rw [e,zr8 hk]
  exact h
 | j+1=>by
  have hj:=Rch.pw hk ht h j
  have tT:=hT t ht
  have e:beh (pwT t (j:Int)) t=pwT t ((j+1:Nat):Int):=by
   have:=tT.pwT_beh (j:Int) 1
   rwa [←tT.pwT_one,show (j:Int)+1=((j+1:Nat):Int) by lia] at this
  rw [←e,←zu9 hk (tT.pwT_isT _)]
  exact hj.step ht
theorem Rch.grp {g:List Nat}(hg:Grp n (λz=>z∈ts) g){k:List Nat}(hk:∀x∈k,x<n)(h:Rch n ts mvQ o k):Rch n ts mvQ o (mvQ k g):=by
 induction hg with
 | one=>rw [zr8 hk];exact h
 | @mul a s ha hs ih =>
  rw [←zu9 hk (ha.isT hT)]
  exact ih.step hs
 | @inv a s ha hs ih =>
  have sT:=hT s hs
  have hp:=sT.ord_pos
  have e:bk n s=pwT s (((ord s-1:Nat):Nat):Int):=by
   have h1:=sT.pwT_bk 1
   rw [←sT.pwT_one] at h1
   rw [h1,←sT.pwT_mod (-1),show (-1:Int) % (ord s:Int)=((ord s-1:Nat):Int) by
    rw [show (-1:Int)=((ord s-1:Nat):Int)+(ord s:Int)*(-1) by lia,Int.add_mul_emod_self_left]
    exact Int.emod_eq_of_lt (by lia) (by lia)]
  rw [←zu9 hk (ha.isT hT),e]
  exact Rch.pw hT (xl5 hk (ha.isT hT)) hs ih _
end
structure InW (n:Nat) (ts:List (List Nat)) (o W k:List Nat):Prop where
 r:Rch n ts mvQ o k
 nd:k.Nodup
 w:∀x∈k,x∈W
section
variable {n:Nat}{ts:List (List Nat)}{o W:List Nat}(hT:∀t∈ts,IsT n t)(hlt:∀x∈W,x<n)(hE:yi8 n W (λz=>z∈ts))
include hT hlt hE
theorem InW.put {k:List Nat}(h:InW n ts o W k){j:Nat}{u v:Nat}(hj:k[j]?=some u)(hv:v∈W)(hvk:v∉k.take j):∃k',InW n ts o W k'/\k'.length=k.length/\k'.take j=k.take j/\k'[j]?=some v:=by
 by_cases e:u=v
 ·exact ⟨k,h,rfl,rfl,by rw [hj,e]⟩
 have hu:=h.w u (au hj)
 obtain ⟨t,ht,hg⟩:=hE u hu v hv e
 have hk:∀x∈k,x<n:=λx hx=>hlt x (h.w x hx)
 refine ⟨mvQ k t,⟨Rch.grp hT hg hk h.r,?_,λx hx=>?_⟩,by unfold mvQ;rw [ae],?_,?_⟩
 ·refine bn.mpr (List.Pairwise.imp_of_mem (λ{a b} ha hb hne z=>hne ?_) h.nd)
  have:(bk n t).getD (t.getD a 0) 0=(bk n t).getD (t.getD b 0) 0:=congrArg (λy=>(bk n t).getD y 0) z
  rwa [K1 ht.isT (hk a ha),K1 ht.isT (hk b hb)] at this
 ·obtain ⟨y,hy,rfl⟩:=av.mp hx
  by_cases e1:y=u
  ·rw [e1,ht.to];exact hv
  by_cases e2:y=v
  ·rw [e2,ht.fro];exact hu
  rw [ht.out y (hk y hy) e1 e2]
  exact h.w y hy
 ·unfold mvQ
  rw [←dJ]
  conv=>rhs;rw [←df (k.take j)]
  refine bp λx hx=>?_
  refine ht.out x (hk x (bv hx)) (λz=>?_) λz=>hvk (z ▸ hx)
  obtain ⟨i,hi⟩:=aW hx
  obtain ⟨il,ei⟩:=ag.mp hi
  rw [bj] at il
  rw [fj] at ei
  obtain ⟨jl,ej⟩:=ag.mp hj
  have:=(cD (i:=i) (j:=j) (h₀:=by lia) (h₁:=jl) h.nd).mp (by rw [ei,z,ej])
  lia
 ·unfold mvQ
  rw [ar,hj]
  exact congrArg some ht.to
theorem InW.three {k:List Nat}(h:InW n ts o W k)(hl:3<=k.length){a b c:Nat}(ha:a∈W)(hb:b∈W)(hc:c∈W)(hab:a≠b)(hac:a≠c)(hbc:b≠c):∃k',Rch n ts mvQ o k'/\k'.take 3=[a,b,c]:=by
 obtain ⟨k1,h1,l1,_,e1⟩:=InW.put hT hlt hE h (j:=0) (aa (by lia)) ha (by simp)
 have t1:k1.take 1=[a]:=by rw [aT,e1];rfl
 obtain ⟨k2,h2,l2,p2,e2⟩:=InW.put hT hlt hE h1 (j:=1) (aa (by lia)) hb (by rw [t1];simpa using Ne.symm hab)
 have t2:k2.take 2=[a,b]:=by rw [aT,e2,p2,t1];rfl
 obtain ⟨k3,h3,l3,p3,e3⟩:=InW.put hT hlt hE h2 (j:=2) (aa (by lia)) hc (by rw [t2];simp [Ne.symm hac,Ne.symm hbc])
 exact ⟨k3,h3.r,by rw [aT,e3,p3,t2];rfl⟩
end
theorem xr5 {α β γ:Type}{R:β->Prop}{h:β->γ}{g:α->γ}:∀{T:List α},(∀p∈T,∃k,R k/\h k=g p)->∃L:List β,(∀k∈L,R k)/\L.map h=T.map g
 | [],_=>⟨[],λk hk=>(by cases hk),rfl⟩
 | p::T,H=>by
  obtain ⟨k,hk,e⟩:=H p ay
  obtain ⟨L,hL,eL⟩:=xr5 (T:=T) λq hq=>H q (aw _ hq)
  exact ⟨k::L,λx hx=>(aq.mp hx).elim (λz=>z ▸ hk) (hL x),by rw [aI,aI,e,eL]⟩
def tri (m:Nat):List (Nat×Nat×Nat):=((List.range m).flatMap λi=>(List.range m).flatMap λj=>(List.range m).map λl=>(i,j,l)).filter λp=>p.1 != p.2.1&&p.1 != p.2.2&&p.2.1 != p.2.2
theorem yq4 (m:Nat):(tri m).Nodup:=by
 refine List.Pairwise.filter _ ?_
 refine List.pairwise_flatMap.mpr ⟨λi _=>List.pairwise_flatMap.mpr ⟨λj _=>bn.mpr (cv.imp λhne z=>hne (by cases z;rfl)),cv.imp λhne x hx y hy z=>?_⟩,cv.imp λhne x hx y hy z=>?_⟩
 ·obtain ⟨l,_,rfl⟩:=av.mp hx
  obtain ⟨l',_,rfl⟩:=av.mp hy
  cases z
  exact hne rfl
 ·obtain ⟨j,_,hx⟩:=bS.mp hx
  obtain ⟨l,_,rfl⟩:=av.mp hx
  obtain ⟨j',_,hy⟩:=bS.mp hy
  obtain ⟨l',_,rfl⟩:=av.mp hy
  cases z
  exact hne rfl
theorem xo4:(tri 12).length=1320:=by decide +kernel
theorem many_rows {n:Nat}{ts:List (List Nat)}{W:List Nat}(hT:∀t∈ts,IsT n t)(hW:W.Nodup)(hlt:∀x∈W,x<n)(h12:12<=W.length)(h1:rowC n [W]∈ts)(h2:rowC n [W.take 2]∈ts):∃L:List (List Nat),L.Nodup/\(∀k∈L,Rch n ts mvQ (W.take 10) k)/\1000<L.length:=by
 have hone:[W].flatten.Nodup:=by simpa using hW
 have e2:W.take 2=[W[0],W[1]]:=by
  rw [aT,aT,cu,aa (show 0<W.length by lia),aa (show 1<W.length by lia)]
  rfl
 have hne:W[0]≠W[1]:=λz=>by have:=(cD (i:=0) (j:=1) (h₀:=by lia) (h₁:=by lia) hW).mp z;lia
 have htwo:[W.take 2].flatten.Nodup:=by simpa using hW.sublist (bY 2 W)
 have l0:=hlt W[0] (bz _)
 have l1:=hlt W[1] (bz _)
 have d0:W.getD 0 0=W[0]:=getD_of (aa (by lia))
 have d1:W.getD 1 0=W[1]:=getD_of (aa (by lia))
 have hE:yi8 n W (λz=>z∈ts):=by
  refine ye4 hT hW hlt (Grp.of hT h1) (λk hk=>?_) (e:=rowC n [W.take 2]) ?_ (Grp.of hT h2)
  ·have hk0:W[k]?=some W[k]:=aa (by lia)
   have hk1:W[k+1]?=some W[k+1]:=aa hk
   rw [getD_of hk0,getD_of hk1,U2 (hlt _ (bz _))]
   exact nxC_at hone (ao.mpr rfl) hk0 (by rw [cm hk];exact hk1)
  ·rw [d0,d1]
   refine ⟨hT _ h2,?_,?_,λx hx a b=>?_⟩
   ·rw [U2 l0]
    exact nxC_at htwo (ao.mpr rfl) (k:=0) (by rw [e2];rfl) (by rw [e2];rfl)
   ·rw [U2 l1]
    exact nxC_at htwo (ao.mpr rfl) (k:=1) (by rw [e2];rfl) (by rw [e2];simp)
   ·rw [U2 hx,R5 (by rw [e2];simp [a,b])]
 have h0:InW n ts (W.take 10) W (W.take 10):=⟨Rch.own,hW.sublist (bY 10 W),λx hx=>bv hx⟩
 have inj:∀{i j:Nat} (hi:i<W.length) (hj:j<W.length),W.getD i 0=W.getD j 0->i=j:=λ{i j} hi hj z=>by
  rw [getD_of (aa hi),getD_of (aa hj)] at z
  exact (cD hW).mp z
 have hm:∀p∈tri 12,p.1<12/\p.2.1<12/\p.2.2<12/\p.1≠p.2.1/\p.1≠p.2.2/\p.2.1≠p.2.2:=λp hp=>by
  obtain ⟨h1,h2⟩:=dX.mp hp
  obtain ⟨i,hi,h1⟩:=bS.mp h1
  obtain ⟨j,hj,h1⟩:=bS.mp h1
  obtain ⟨l,hl,rfl⟩:=av.mp h1
  simp only [bV,bne_iff_ne] at h2
  exact ⟨aX.mp hi,aX.mp hj,aX.mp hl,h2.1.1,h2.1.2,h2.2⟩
 have memW:∀{i:Nat},i<12->W.getD i 0∈W:=λ{i} hi=>by
  rw [getD_of (aa (show i<W.length by lia))]
  exact bz _
 obtain ⟨L,hL,eL⟩:=xr5 (T:=tri 12) (R:=λk=>Rch n ts mvQ (W.take 10) k) (h:=λk=>k.take 3) (g:=λp=>[W.getD p.1 0,W.getD p.2.1 0,W.getD p.2.2 0]) λp hp=>by
  obtain ⟨a,b,c,d,e,f⟩:=hm p hp
  exact InW.three hT hlt hE h0 (by rw [bj];lia) (memW a) (memW b) (memW c) (λz=>d (inj (by lia) (by lia) z)) (λz=>e (inj (by lia) (by lia) z)) (λz=>f (inj (by lia) (by lia) z))
 have hll:L.length=1320:=by
  have:=congrArg List.length eL
  rwa [ae,ae,xo4] at this
 refine ⟨L,?_,hL,by lia⟩
 have hnd:(L.map λk=>k.take 3).Nodup:=by
  rw [eL]
  refine bn.mpr (List.Pairwise.imp_of_mem (λ{p q} hp hq hne z=>hne ?_) (yq4 12))
  obtain ⟨a,b,c,_⟩:=hm p hp
  obtain ⟨a',b',c',_⟩:=hm q hq
  simp only [List.cons.injEq,and_true] at z
  exact Prod.ext (inj (by lia) (by lia) z.1) (Prod.ext (inj (by lia) (by lia) z.2.1) (inj (by lia) (by lia) z.2.2))
 exact (bn.mp hnd).imp λh z=>h (by rw [z])
end TM
namespace TM
def cj (n:Nat)(b t:List Nat):List Nat:=beh (beh (bk n b) t) b
def sp (n:Nat)(W row:List Nat):List Nat:=(List.range n).map λx=>if x∈W then W.getD (row.getD (W.idxOf x) 0) 0 else x
section
variable {n:Nat}{W:List Nat}(hW:W.Nodup)(hlt:∀x∈W,x<n)
include hW hlt
end
end TM
namespace TM
end TM
namespace TM
theorem fresh {n:Nat}(l:List Nat)(h:l.length<n):∃z,z<n/\z∉l:=by
 refine Classical.byContradiction λhno=>?_
 have hs:∀x,x∈List.range n->x∈l:=λx hx=>Classical.byContradiction λhx'=>hno ⟨x,aX.mp hx,hx'⟩
 have:=xc4 cv hs
 rw [aN] at this
 lia
def e7:List Nat:=[1,0,2,3,4,5,6]
end TM
namespace TM
structure Nrm (n:Nat) (N:List Nat->Prop):Prop where
 isT:∀x,N x->IsT n x
 two:∀x y,N x->N y->N (beh x y)
 back:∀x,N x->N (bk n x)
 one:N (List.range n)
 turn:∀g x,IsT n g->N x->N (cj n g x)
section
variable {n:Nat}{N:List Nat->Prop}(hN:Nrm n N)
include hN
end
end TM
namespace TM
open Classical
section
variable {n:Nat}{us ts:List (List Nat)}(hU:∀u∈us,IsT n u)(hT:∀t∈ts,IsT n t)
include hU hT
end
section
variable {n:Nat}{us ms ts:List (List Nat)}(hU:∀u∈us,IsT n u)(hT:∀t∈ts,IsT n t)(hM:∀m∈ms,IsT n m)(hMU:∀x,Grp n (λz=>z∈ms) x↔Grp n (λz=>z∈us) x)
include hU hT
include hM hMU
end
end TM
namespace TM
open Classical
section
variable {n:Nat}{a b c:List Nat}
end
end TM
namespace Tb
open PySem L2
def tI (t:List Nat):List V:=t.map λ(x:Nat)=>V.int x
theorem v9 (t:List Nat):(tI t).length=t.length:=ae _
theorem yi2 (t:List Nat)(i:Nat):(tI t)[i]?=(t[i]?).map λ(x:Nat)=>V.int x:=ar ..
theorem zb3 {t:List Nat}{i:Nat}{x:V}(h:(tI t)[i]?=some x):∃p,t[i]?=some p/\x=V.int p:=by
 rw [yi2] at h
 cases q:t[i]? with
 | none=>rw [q] at h;cases h
 | some p=>rw [q] at h;exact ⟨p,rfl,(Option.some.inj h).symm⟩
theorem E8 {t:List Nat}{i p:Nat}(h:t[i]?=some p):(tI t)[i]?=some (V.int p):=by rw [yi2,h];rfl
theorem yn0 {t:List Nat}{i p:Nat}(h:t[i]?=some p):atI (tI t) ((i:Nat):Int)=some (V.int p):=k8 (E8 h)
theorem F9 (s t:List Nat):tI (s++t)=tI s++tI t:=aG
theorem yd3:∀(t:List Nat) (i:Nat),(tI t).eraseIdx i=tI (t.eraseIdx i)
 | [],_=>rfl
 | _::_,0=>rfl
 | a::r,i+1=>by
  have ih:=yd3 r i
  show V.int a::(tI r).eraseIdx i=V.int a::tI (r.eraseIdx i)
  rw [ih]
theorem yi3:∀(t:List Nat) (i x:Nat),(tI t).set i (V.int x)=tI (t.set i x)
 | [],_,_=>rfl
 | _::_,0,_=>rfl
 | a::r,i+1,x=>by
  have ih:=yi3 r i x
  show V.int a::(tI r).set i (V.int x)=V.int a::tI (r.set i x)
  rw [ih]
theorem zb2 (n:Nat):W3 0 n=tI (List.range n):=by
 unfold W3 tI
 apply bp
 intro x _
 rw [Int.zero_add]
theorem xg5 (t:List Nat)(n:Nat):(tI t).take n=tI (t.take n):=(dJ ..).symm
theorem small {n:Nat}(h:n<=1000):n<=sizeLine:=bF (ze3 h)
theorem zu0 {n i:Nat}(h:i<n):ixN n ((i:Nat):Int)=some i:=by
 unfold ixN
 rw [if_pos (dN i),if_pos (by lia)]
 rfl
theorem xf9 {n i:Nat}(h:i<n):seqIndex? ((i:Nat):Int) n=some i:=(zu1 (zu0 h)).1
theorem z7 {H:Hp}{p:Addr}(h:H p=none)(o:HO):y4 H (upd H p o):=λb u q=>by rw [z6 (y9 q h)];exact q
theorem p8 {H H':Hp}{p:Addr}(s:y4 H H')(h:H p=none)(o:HO):y4 H (upd H' p o):=λb u q=>by rw [z6 (y9 q h)];exact s b u q
def h9 (T U:String):Option Bool:=if (Value.type T==Value.type U)=true then some true else if W.kitMeta U=true then (PySem.fastBuiltinMro T).map (·.contains (Value.type U)) else none
theorem N8 {K:W.Frag}{T U:String}{b:Bool}(h:h9 T U=some b):W.kitOne K (.type T) (.type U)=some b:=h
theorem yf7:h9 "int" "int"=some true:=by decide +kernel
theorem zz9:h9 "int" "bool"=some false:=by decide +kernel
theorem B5:h9 "list" "list"=some true:=by decide +kernel
theorem Z0 {i j:Int}:decide (V.int i=V.int j)=decide (i=j):=decide_eq_decide.mpr ⟨λz=>by injection z,λz=>by rw [z]⟩
theorem zk4:h9 "tuple" "tuple"=some true:=by decide +kernel
structure Blt (mg:Str->Option Value):Prop where
 len:mg "len"=none
 range:mg "range"=none
 list:mg "list"=none
 tuple:mg "tuple"=none
 isinstance:mg "isinstance"=none
 int:mg "int"=none
 bool:mg "bool"=none
 str:mg "str"=none
 enumerate:mg "enumerate"=none
 sorted:mg "sorted"=none
 sum:mg "sum"=none
 all:mg "all"=none
 set:mg "set"=none
 reversed:mg "reversed"=none
 divmod:mg "divmod"=none
 max:mg "max"=none
 min:mg "min"=none
theorem X4:bootBuiltins "len"=some (.builtin "len"):=by decide +kernel
theorem C6:bootBuiltins "range"=some (.type "range"):=by decide +kernel
theorem Q8:bootBuiltins "list"=some (.type "list"):=by decide +kernel
theorem Z7:bootBuiltins "tuple"=some (.type "tuple"):=by decide +kernel
theorem r6:bootBuiltins "isinstance"=some (.builtin "isinstance"):=by decide +kernel
theorem yr6:bootBuiltins "int"=some (.type "int"):=by decide +kernel
theorem yj2:bootBuiltins "bool"=some (.type "bool"):=by decide +kernel
theorem zc0:bootBuiltins "sorted"=some (.builtin "sorted"):=by decide +kernel
theorem ye8:bootBuiltins "all"=some (.builtin "all"):=by decide +kernel
theorem zq8:bootBuiltins "divmod"=some (.builtin "divmod"):=by decide +kernel
theorem xj3:bootBuiltins "min"=some (.builtin "min"):=by decide +kernel
def zf8 (mg:Str->Option Value)(x:Str)(v:V):Prop:=∃u,mg x=some u/\p0 v u
theorem A7 {X:Cx}{x:Str}{v:V}{pos:Pos}(g:zf8 X.mg x v)(hg:Gl X x)(hd:(x==("__debug__":Str))=false:=by decide):PE X (.Name x pos) (tC v):=by
 obtain ⟨u,hm,r⟩:=g
 exact zh4 hg hm r hd
def l9 (P:Program)(w:World)(K:W.Frag)(mg:Str->Option Value)(base:Heap)(k:Nat)(x:Str)(ps:List Str)(sp:Sp):Prop :=
 ∃f fd,u6 P w K mg base CX0 k f fd ps sp/\W.keepIn K (.ref f)=true/\mg x=some (.ref f)/\V6 K fd ps []
structure Def (K:W.Frag) (mg:Str->Option Value) (x:Str) (st:Stmt) (ps:List Str) (f:Addr) (fd:FuncData):Prop where
 F:Fun K x x st f fd
 b:V6 K fd ps []
 m:mg x=some (.ref f)
theorem Def.known {P:Program}{w:World}{K:W.Frag}{mg:Str->Option Value}{base:Heap}{x:Str}{st:Stmt}{ps:List Str}{f:Addr}{fd:FuncData}{k:Nat}{sp:Sp}(D:Def K mg x st ps f fd)(G:u6 P w K mg base CX0 k f fd ps sp):l9 P w K mg base k x ps sp :=
 ⟨f,fd,G,D.F.kp,D.m,D.b⟩
section
variable {X:Cx}{x:Str}{p pos:Pos}{e:Expr}{es:List Expr}{t:TA}{ps:List Str}{sp:Sp}{k j:Nat}
theorem o0 (kn:l9 X.prog X.w X.K X.mg X.base k x ps sp)(hr:c4 j X.A)(hg:Gl X x)(ha:PA X (e::es) t)(hj:k<=j:=by decide)(hdb:(x==("__debug__":Str))=false:=by decide)
  (he:starEach (e::es) X.env=(false,eval e X.env)::starEach es X.env:=by rfl) (hpl:(backTo pos (starEach es X.env)).any (·.1)=false:=by rfl):PE X (.Call (.Name x p) (e::es) [] pos) (ym8 sp [] E0 t):=by
 obtain ⟨f,fd,G,hk,hm,hb⟩:=kn
 exact yl3 G (hr.mono hj) hg hm hk hb .nil yl1 ha hdb he hpl
end
theorem zk5 {z:Int}{k:Nat}(h:0<k):∃m:Nat,z % (k:Int)=(m:Int)/\m<k:=by
 have h1:=bR z (show (k:Int)≠0 by lia)
 have h2:=dz z (show (0:Int)<(k:Int) by lia)
 exact ⟨(z % (k:Int)).toNat,by lia,by lia⟩
theorem xc5 (z:Int):∃n:Nat,1+z % 60=(n:Int)/\1<=n/\n<=60:=by
 have h1:=bR z (show (60:Int)≠0 by decide)
 have h2:=dz z (show (0:Int)<60 by decide)
 exact ⟨(1+z % 60).toNat,by lia,by lia,by lia⟩
theorem xg4 (t:List Nat):tI t=(t.map λ(x:Nat)=>(x:Int)).map V.int:=by
 unfold tI
 rw [bE]
 rfl
def ym1 (K:W.Frag):Sp:=λvs H Q _=>∃(a:Addr) (ns:List Int),vs=[.ref a]/\SqL K H a (ns.map V.int)/\ns.length<=63/\(∀z∈ns,Builtin.Int.intBits z<=2 ^ 20)/\∀H',Q (.bl true) H'
theorem walk {l:W.OpenLaw}{q:Program}{loose:List Str}{XP:(Str->Option Value)->Heap->Prop}{YP:World->Heap->Prop}{d:DefRec}{K:Params->W.Frag}{k:Nat}{x:Str}(hn:l.most=some 63)(hdf:d.params.defaults=[])(hr:c4 k callerA)
  (hY:∀(w:World) (h:Heap),YP w h->(K w.params).In h)
  (F:∀(w:World) (mg:Str->Option Value) (fa:Addr) (h:Heap),(K w.params).In h->h.Ns mainGlobals mg->mg d.name=some (.ref fa) ->
   ∃fd:FuncData,(∀(s:Shared) (u:Value),BindsTo s fd ⟨[u],[]⟩ [(x,u)])/\∀base:Heap,(K w.params).In base->base.Ns mainGlobals mg->u6 l.prog w (K w.params) mg base CX0 k fa fd [x] (ym1 (K w.params))) :
  W.WalkO q loose XP YP l.row.toRowW d [] (λf vs=>PySem.call f vs) :=
 L2.walk_ofB (n:=63) (k:=k) (x:=x) (CX:=CX0) (sp:=ym1) hn (by decide) hdf hr hY F (λ_ _ a ns hl hb _ hS=>⟨a,ns,rfl,hS,hl,hb,λ_=>rfl⟩) λ_ _ _ _ z=>z
def lnV:TM.Ln->List V
 | .still=>[.str "still"]
 | .told k=>[.str "told",.int k]
 | .behind i j=>[.str "behind",.int i,.int j]
 | .back i=>[.str "back",.int i]
def zi2 (H:Hp)(as:List Addr)(ls:List TM.Ln):Prop:=Paired (λa l=>H a=some (.tup (lnV l))) as ls
def Y4 (H:Hp)(as:List Addr)(ts:List (List Nat)):Prop:=Paired (λa t=>H a=some (.tup (tI t))) as ts
theorem zi2.same {H H':Hp}{as:List Addr}{ls:List TM.Ln}(h:zi2 H as ls)(s:y4 H H'):zi2 H' as ls:=Paired.imp' (λ_ _ e=>s _ _ e) h
theorem Y4.same {H H':Hp}{as:List Addr}{ls:List (List Nat)}(h:Y4 H as ls)(s:y4 H H'):Y4 H' as ls:=Paired.imp' (λ_ _ e=>s _ _ e) h
theorem U0 {α β:Type}{F:α->β->Prop}:∀{as:List α} {bs:List β},Paired F as bs->∀(i:Nat) (b:β),bs[i]?=some b->∃a,as[i]?=some a/\F a b
 | _,_,.nil,i,b,h=>by cases i <;> cases h
 | _,_,.cons f _,0,b,h=>by
  cases h
  exact ⟨_,rfl,f⟩
 | _,_,.cons _ r,i+1,b,h=>by
  obtain ⟨a,ha,f⟩:=U0 r i b (by simpa using h)
  exact ⟨a,by simpa using ha,f⟩
theorem u4 {α β:Type}{F:α->β->Prop}:∀{as:List α} {bs:List β},Paired F as bs->∀(i:Nat) (a:α),as[i]?=some a->∃b,bs[i]?=some b/\F a b
 | _,_,.nil,i,a,h=>by cases i <;> cases h
 | _,_,.cons f _,0,a,h=>by
  cases h
  exact ⟨_,rfl,f⟩
 | _,_,.cons _ r,i+1,a,h=>by
  obtain ⟨b,hb,f⟩:=u4 r i a (by simpa using h)
  exact ⟨b,by simpa using hb,f⟩
theorem Y7 {as:List Addr}{i:Nat}{y:V}(h:(as.map V.ref)[i]?=some y):∃b,as[i]?=some b/\y=V.ref b:=by
 rw [ar] at h
 cases e:as[i]? with
 | none=>rw [e] at h;cases h
 | some b=>rw [e] at h;exact ⟨b,rfl,(Option.some.inj h).symm⟩
end Tb
namespace Tb
open PySem L2
def top (i:Nat):Stmt:=PySem.Challenge.pw_turnbase_k45_too_many_things.main.body.getD i (.Pass ⟨0,0,0,0⟩)
abbrev C1:Stmt:=top 9
abbrev M7:Stmt:=top 10
abbrev D9:Stmt:=top 11
abbrev T8:Stmt:=top 12
abbrev zx4:Stmt:=top 13
abbrev zm3:Stmt:=top 14
abbrev yh3:Stmt:=top 15
abbrev M8:Stmt:=top 23
abbrev C2:Stmt:=top 29
abbrev M9:Stmt:=top 30
abbrev T9:Stmt:=top 31
abbrev Q6:Stmt:=top 32
abbrev J5:Stmt:=top 37
abbrev M6:Stmt:=top 38
abbrev M5:Stmt:=top 39
abbrev Q5:Stmt:=top 40
abbrev J8:Stmt:=top 41
abbrev J7:Stmt:=top 42
abbrev V1:Stmt:=top 43
abbrev P9:Stmt:=top 44
abbrev J6:Stmt:=top 45
abbrev Q4:Stmt:=top 46
abbrev zf5:Stmt:=top 47
def Z6 (i j:Nat):Stmt:=match top i with | .ClassDef _ _ _ b _ _ _ _ _ _ _=>b.getD j (.Pass ⟨0,0,0,0⟩)|s=>s
abbrev T6:Stmt:=Z6 18 0
abbrev D8:Stmt:=Z6 18 1
abbrev W9:Stmt:=Z6 18 2
abbrev X0:Stmt:=Z6 18 3
abbrev T7:Stmt:=Z6 19 0
abbrev U8:Stmt:=Z6 19 1
abbrev Y1:Stmt:=Z6 19 2
abbrev U7:Stmt:=Z6 19 3
abbrev U3:Stmt:=Z6 20 0
abbrev V0:Stmt:=Z6 20 4
abbrev P6:Stmt:=Z6 20 5
abbrev e9:Stmt:=Z6 20 3
abbrev Q2:Stmt:=Z6 20 2
abbrev M3:Stmt:=Z6 20 1
abbrev U4:Stmt:=Z6 24 0
abbrev M4:Stmt:=Z6 24 1
abbrev p4:Stmt:=Z6 26 0
abbrev J4:Stmt:=Z6 26 1
abbrev U5:Stmt:=Z6 26 2
abbrev U6:Stmt:=Z6 26 3
abbrev P8:Stmt:=Z6 26 4
abbrev W8:Stmt:=Z6 33 0
abbrev Q3:Stmt:=Z6 35 0
abbrev P7:Stmt:=Z6 35 1
section
variable {P:Program}{w:World}{K:W.Frag}{mg:Str->Option Value}{base:Heap}{f:Addr}{fd:FuncData}
def xk0:PyData->Bool
 | .int _=>true
 | .bool _=>true
 | _=>false
def xc1:PyData->Bool
 | .bool _=>true
 | _=>false
def xk4:PyData->Bool
 | .tuple _=>true
 | _=>false
def isW:PyData->Bool
 | .int _=>true
 | _=>false
theorem xk7:∀d:PyData,h9 (tyD d) "int"=some (xk0 d)
 | .none=>(by decide +kernel:h9 "NoneType" "int"=some false)
 | .bool _=>(by decide +kernel:h9 "bool" "int"=some true)
 | .int _=>(by decide +kernel:h9 "int" "int"=some true)
 | .str _=>(by decide +kernel:h9 "str" "int"=some false)
 | .list _=>(by decide +kernel:h9 "list" "int"=some false)
 | .tuple _=>(by decide +kernel:h9 "tuple" "int"=some false)
 | .dict _=>(by decide +kernel:h9 "dict" "int"=some false)
theorem yk2:∀d:PyData,h9 (tyD d) "bool"=some (xc1 d)
 | .none=>(by decide +kernel:h9 "NoneType" "bool"=some false)
 | .bool _=>(by decide +kernel:h9 "bool" "bool"=some true)
 | .int _=>(by decide +kernel:h9 "int" "bool"=some false)
 | .str _=>(by decide +kernel:h9 "str" "bool"=some false)
 | .list _=>(by decide +kernel:h9 "list" "bool"=some false)
 | .tuple _=>(by decide +kernel:h9 "tuple" "bool"=some false)
 | .dict _=>(by decide +kernel:h9 "dict" "bool"=some false)
theorem xk8:∀d:PyData,h9 (tyD d) "tuple"=some (xk4 d)
 | .none=>(by decide +kernel:h9 "NoneType" "tuple"=some false)
 | .bool _=>(by decide +kernel:h9 "bool" "tuple"=some false)
 | .int _=>(by decide +kernel:h9 "int" "tuple"=some false)
 | .str _=>(by decide +kernel:h9 "str" "tuple"=some false)
 | .list _=>(by decide +kernel:h9 "list" "tuple"=some false)
 | .tuple _=>(by decide +kernel:h9 "tuple" "tuple"=some true)
 | .dict _=>(by decide +kernel:h9 "dict" "tuple"=some false)
theorem scq {N P:List Str}{sc:Scope}(a:sc.kind=.function:=by rfl)(b:sc.isCoroutine=false:=by rfl)(c:sc.isGenerator=false:=by rfl)(d:N.Nodup:=by decide +kernel)(e:N.take P.length=P:=by rfl)(f:∀x∈P,sc.names.lookup x=some .local∨sc.names.lookup x=some .cell:=by decide +kernel)(g:∀y∈sc.names,y.2≠.free:=by decide +kernel):x9 N P sc:=⟨a,b,c,d,e,f,g⟩
theorem yc4:x9 ["thing"] ["thing"] (z9 C1):=scq
def zb0:Sp:=λvs H Q _=>∃(x:V) (d:PyData),vs=[x]/\Dt H x d/\Q (.bl (isW d)) H
theorem ya9 (D:Def K mg "is_whole" C1 ["thing"] f fd) (B:Blt mg):u6 P w K mg base CX0 1 f fd ["thing"] zb0:=by
 refine D.F.ok yc4 (λvs H Q E h=>?_) (λcdv A outer s H vs Q E hr h=>?_)
 ·obtain ⟨x,d,rfl,_⟩:=h
  rfl
 obtain ⟨x,d,rfl,hd,q⟩:=h
 refine ⟨_,z8 (v1 (zw2 (v8 c0 rfl B.isinstance r6 (z0 (pv 0) (z0 (W5 (v:=.ty "int") rfl B.int yr6 rfl) z5)))
  (zw5 (yw3 (v8 c0 rfl B.isinstance r6 (z0 (pv 0) (z0 (W5 (v:=.ty "bool") rfl B.bool yj2 rfl) z5))))))),?_⟩
 refine ⟨_,rfl,_,_,_,_,rfl,hd.ty,N8 (xk7 d),_,rfl,?_⟩
 cases d with
 | int i=>exact i7 ⟨_,rfl,_,_,_,_,rfl,hd.ty,N8 (yk2 _),_,rfl,q⟩
 | bool b=>exact i7 ⟨_,rfl,_,_,_,_,rfl,hd.ty,N8 (yk2 _),_,rfl,q⟩
 | none=>exact m9 q
 | str _=>exact m9 q
 | list _=>exact m9 q
 | tuple _=>exact m9 q
 | dict _=>exact m9 q
def E4:List PyData->List Int
 | .int i::r=>i::E4 r
 | _::r=>E4 r
 | []=>[]
def yl8 (l:List Int):List Int:=l.mergeSort λa b=>decide (a<=b)
theorem yc7 {l m:List Int}(p:m.Perm l)(h:m.Pairwise (·<=·)):m=yl8 l:=by
 refine List.Perm.eq_of_pairwise (λa b _ _ h1 h2=>dZ h1 h2) h ?_ (p.trans (List.mergeSort_perm l _).symm)
 exact (List.pairwise_mergeSort (le:=λa b:Int=>decide (a<=b)) (λa b c h1 h2=>decide_eq_true (ck (of_decide_eq_true h1) (of_decide_eq_true h2))) (λa b=>by
  show (decide (a<=b) || decide (b<=a))=true
  rw [Bool.or_eq_true,decide_eq_true_eq,decide_eq_true_eq]
  exact Int.le_total a b) l).imp λh=>of_decide_eq_true h
def yc0 (n:Nat):List Int:=(List.range n).map λ(i:Nat)=>(i:Int)
theorem xn0 (n:Nat):tI (List.range n)=(yc0 n).map V.int:=xg4 _
theorem zf0:∀(ms rs:List Int),PyData.eqvAll (ms.map PyData.int) (rs.map PyData.int)=decide (ms=rs)
 | [],[]=>by simp [PyData.eqvAll]
 | [],_::_=>by simp [PyData.eqvAll]
 | _::_,[]=>by simp [PyData.eqvAll]
 | a::as,b::bs=>by
  rw [aI,aI,PyData.eqvAll,zf0 as bs]
  by_cases h:a=b
  ·subst h;simp [PyData.eqv]
  ·simp [PyData.eqv,h]
theorem yn9 (ms rs:List Int):PyData.eqv (.list (ms.map PyData.int)) (.list (rs.map PyData.int))=decide (ms=rs):=by rw [PyData.eqv,zf0]
theorem ya0:∀ns:List Int,PyData.canLayAll0 (ns.map PyData.int)=true/\PyData.depthAll (ns.map PyData.int)<=1
 | []=>by simp [PyData.canLayAll0,PyData.depthAll]
 | n::r=>by
  obtain ⟨h1,h2⟩:=ya0 r
  refine ⟨by simp [PyData.canLayAll0,PyData.canLay0,h1],?_⟩
  simp only [aI,PyData.depthAll,PyData.depth]
  lia
theorem zf6 (ns:List Int):PySem.SeqAt.shaped (.list (ns.map PyData.int))=true:=by
 obtain ⟨h1,h2⟩:=ya0 ns
 unfold PySem.SeqAt.shaped
 rw [bV]
 refine ⟨by simp only [PyData.canLay0];exact h1,decide_eq_true ?_⟩
 simp only [PyData.depth]
 lia
def c7:PyData->Bool
 | .tuple ds=>(decide (1<=ds.length)&&decide (ds.length<=60))&&(ds.all isW&&decide (yl8 (E4 ds)=yc0 ds.length))
 | _=>false
theorem yk1 {H:Hp}:∀{xs:List V} {ds:List PyData},Dts H xs ds->ds.all isW=true->xs=(E4 ds).map V.int/\(E4 ds).length=ds.length
 | _,_,.nil,_=>⟨rfl,rfl⟩
 | _,_,.cons h r,e=>by
  rw [fA,bV] at e
  obtain ⟨h1,h2⟩:=yk1 r e.2
  cases h with
  | int i=>exact ⟨by rw [h1];rfl,by show (i::E4 _).length=_;rw [aC,h2];rfl⟩
  | non=>cases e.1
  | bl _=>cases e.1
  | str _=>cases e.1
  | lst _ _=>cases e.1
  | tup _ _=>cases e.1
  | dct _=>cases e.1
def ym7:Sp:=λvs H Q _=>∃(x:V) (d:PyData),vs=[x]/\Dt H x d/\(∀ds,d=.tuple ds->ds.length<=1000)/\∀H':Hp,y4 H H'->Q (.bl (c7 d)) H'
theorem zp7:x9 ["thing"] ["thing"] (z9 M7):=scq
theorem zp1 (D:Def K mg "is_turning" M7 ["thing"] f fd) (B:Blt mg) (KW:l9 P w K mg base 1 "is_whole" ["thing"] zb0) (GM:zf8 mg "MOST_PLACES" (.int 60)):u6 P w K mg base CX0 2 f fd ["thing"] ym7:=by
 refine D.F.ok zp7 (λvs H Q E h=>?_) (λcdv A outer s H vs Q E hr h=>?_)
 ·obtain ⟨x,d,rfl,_⟩:=h
  rfl
 obtain ⟨x,d,rfl,hd,hlen,q⟩:=h
 refine ⟨_,y0 (n6 (PW.pt (zm1 (W7 (X8 (v8 c0 rfl B.isinstance r6 (z0 (pv 0) (z0 (W5 (v:=.ty "tuple") rfl B.tuple Z7 rfl) z5))))) (D6 (W7 (zl8 yb2 yb2 y6 (v8 q9 rfl B.len X4 (z0 (pv 0) z5)) (A7 GM rfl)))))) (z8 (v1 i9)) u0)
  (y0 (n6 (W7 (X8 (v8 (zc1 rfl) rfl B.all ye8 (z0 (Y5 [] ["place"] rfl (zw6 (pv 0)) (λ_ _ _ _=>o0 KW hr rfl (z0 (pv 0) z5))) z5)))) (z8 (v1 i9)) u0)
  (z8 (v1 (A6 (xm1 hr.units) (v8 zt3 rfl B.sorted zc0 (z0 (pv 0) z5)) (o9 (P5 rfl) rfl B.list Q8 (z0 (o9 G0 rfl B.range C6 (z0 (v8 q9 rfl B.len X4 (z0 (pv 0) z5)) z5)) z5)) (o7 _))))),?_⟩
 refine ⟨_,rfl,_,_,_,_,rfl,hd.ty,N8 (xk8 d),_,rfl,?_⟩
 cases hd with
 | non=>exact i7 (q H (y4.refl _))
 | bl b=>exact i7 (q H (y4.refl _))
 | int i=>exact i7 (q H (y4.refl _))
 | str t=>exact i7 (q H (y4.refl _))
 | lst _ _=>exact i7 (q H (y4.refl _))
 | dct _=>exact i7 (q H (y4.refl _))
 | @tup b xs ds hb hs =>
 have hxl:=hs.length
 have hl100:=hlen ds rfl
 refine m9 ⟨_,rfl,b,_,rfl,.inr (SqT.of hb),_,_,rfl,rfl,_,rfl,?_⟩
 by_cases h1:1<=ds.length
 case neg =>
  rw [decide_eq_false (show ¬(1:Int)<=((xs.length:Nat):Int) by lia)]
  refine m9 ⟨_,rfl,i7 ?_⟩
  have e:c7 (.tuple ds)=false:=by simp only [c7];rw [decide_eq_false h1];rfl
  exact e ▸ q H (y4.refl _)
 rw [decide_eq_true (show (1:Int)<=((xs.length:Nat):Int) by lia)]
 refine i7 ⟨_,_,rfl,rfl,_,rfl,?_⟩
 by_cases h2:ds.length<=60
 case neg =>
  rw [decide_eq_false (show ¬((xs.length:Nat):Int)<=(60:Int) by lia)]
  refine i7 ?_
  have e:c7 (.tuple ds)=false:=by simp only [c7];rw [decide_eq_false h2,eE];rfl
  exact e ▸ q H (y4.refl _)
 rw [decide_eq_true (show ((xs.length:Nat):Int)<=(60:Int) by lia)]
 refine m9 ?_
 refine ⟨_,rfl,b,rfl,⟨_,SqT.of hb⟩,C8 (SqT.of hb) ((ds.map isW).map V.bl) (by rw [ae,ae,hxl]) (by rw [hxl];exact small (by lia)) ?_ ?_⟩
 ·intro j H' x hx s' _ _ _ _
  obtain ⟨dj,hdj,hxj⟩:=hs.get hx
  refine ⟨_,rfl,_,dj,rfl,hxj.same s',y4.refl _,?_⟩
  rw [ar,ar,hdj]
  rfl
 intro nm H4 _ s4 hnm
 refine ⟨nm,_,rfl,SqL.of hnm,_,rfl,?_⟩
 have eall:(ds.map isW).all id=ds.all isW:=by rw [fC];rfl
 rw [eall]
 cases hall:ds.all isW with
 | false =>
  have e:c7 (.tuple ds)=false:=by simp only [c7];rw [hall,eD,eE]
  exact i7 (e ▸ q H4 s4)
 | true =>
  refine m9 ?_
  obtain ⟨ex,el⟩:=yk1 hs hall
  have hb4:=s4 _ _ hb
  refine ⟨_,rfl,b,E4 ds,rfl,SqT.of (by rw [←ex];exact hb4),by lia,λl ms hl hp hw=>?_⟩
  have s5:=z7 hl (.lst (ms.map V.int))
  have e5:(upd H4 l (.lst (ms.map V.int))) l=some (.lst (ms.map V.int)):=z4
  generalize upd H4 l (.lst (ms.map V.int))=H5 at s5 e5 ⊢
  refine ⟨_,rfl,b,_,rfl,.inr (SqT.of (s5 _ _ hb4)),_,rfl,λp hp'=>⟨p,0,_,rfl,z4,⟨by lia,by lia,by lia,by lia,by lia⟩,λr hr'=>?_⟩⟩
  have s6:y4 H5 (upd (upd H5 p (.rng 0 ((xs.length:Nat):Int))) r (.lst (W3 0 (((xs.length:Nat):Int)-0).toNat))):=(z7 hp' _).trans (z7 hr' _)
  have e6:(upd (upd H5 p (.rng 0 ((xs.length:Nat):Int))) r (.lst (W3 0 (((xs.length:Nat):Int)-0).toNat))) r=some (.lst ((yc0 ds.length).map V.int)):=by
   rw [z4,show (((xs.length:Nat):Int)-0).toNat=ds.length by lia,zb2,xn0]
  generalize upd (upd H5 p (.rng 0 ((xs.length:Nat):Int))) r (.lst (W3 0 (((xs.length:Nat):Int)-0).toNat))=H6 at s6 e6 ⊢
  refine ⟨.list (ms.map PyData.int),.list ((yc0 ds.length).map PyData.int),.lst (SqL.of (s6 _ _ e5)) (D1.ints _),.lst (SqL.of e6) (D1.ints _),zf6 _,zf6 _,?_⟩
  have e:c7 (.tuple ds)=PyData.eqv (.list (ms.map PyData.int)) (.list ((yc0 ds.length).map PyData.int)):=by
   simp only [c7]
   rw [yn9,hall,decide_eq_true h1,decide_eq_true h2,yc7 hp hw]
   rfl
  rw [←e]
  exact q H6 (s4.trans (s5.trans s6))
def ys1 (t:List Nat):PyData:=.tuple (t.map λ(x:Nat)=>PyData.int x)
def plD (n:Nat):PyData->Option Nat
 | .int i=>if 0<=i/\i<(n:Int) then some i.toNat else none
 | _=>none
def yq1:PyData->Option (List PyData)
 | .list ds=>some ds
 | .tuple ds=>some ds
 | _=>none
def O7 (n:Nat):List PyData->Option (List Nat)
 | []=>some []
 | d::ds=>(plD n d).bind λx=>(O7 n ds).map λl=>x::l
def O8 (m n:Nat)(d:PyData):Option (List Nat):=(yq1 d).bind λds=>if ds.length<=m then O7 n ds else none
theorem A9 {n:Nat}{i:Int}:plD n (.int i)=if 0<=i/\i<(n:Int) then some i.toNat else none:=rfl
theorem xm6 {n x:Nat}{d:PyData}(h:plD n d=some x):d=.int x/\x<n:=by
 cases d with
 | int i =>
  rw [A9] at h
  by_cases hi:0<=i/\i<(n:Int)
  ·rw [if_pos hi] at h
   cases h
   exact ⟨by rw [dL hi.1],by lia⟩
  ·rw [if_neg hi] at h
   cases h
 | _=>cases h
theorem zh6 {n:Nat}:∀{ds:List PyData} {l:List Nat},O7 n ds=some l->l.length=ds.length/\ds=l.map (λ(x:Nat)=>PyData.int x)/\∀x∈l,x<n
 | [],l,h=>by
  cases h
  exact ⟨rfl,rfl,λx hx=>by cases hx⟩
 | d::ds,l,h=>by
  obtain ⟨x,hx,h⟩:=Option.bind_eq_some_iff.mp h
  obtain ⟨l',hl,rfl⟩:=dB.mp h
  obtain ⟨e,hn⟩:=xm6 hx
  obtain ⟨a,b,c⟩:=zh6 hl
  exact ⟨by rw [aC,aC,a],by rw [e,aI,←b],λy hy=>(aq.mp hy).elim (λq=>q ▸ hn) (c y)⟩
theorem zj5 {H:Hp}:∀l:List Nat,Dts H (tI l) (l.map λ(x:Nat)=>PyData.int x)
 | []=>.nil
 | x::l=>.cons (.int _) (zj5 l)
theorem zt6 {H:Hp}{xs:List V}{l:List Nat}(h:Dts H xs (l.map λ(x:Nat)=>PyData.int x)):xs=tI l:=by
 induction l generalizing xs with
 | nil=>cases h;rfl
 | cons x l ih =>
  cases h with
  | cons h1 h2 =>
   cases h1
   rw [ih h2]
   rfl
def zm9:Sp:=λvs H Q _=>∃(x:V) (d:PyData) (n:Nat),vs=[x,.int n]/\Dt H x d/\Q (.bl (plD n d).isSome) H
theorem yc3:x9 ["thing","many"] ["thing","many"] (z9 D9):=scq
theorem ya8 (D:Def K mg "is_place" D9 ["thing","many"] f fd) (B:Blt mg) (KW:l9 P w K mg base 1 "is_whole" ["thing"] zb0):u6 P w K mg base CX0 2 f fd ["thing","many"] zm9:=by
 refine D.F.ok yc3 (λvs H Q E h=>?_) (λcdv A outer s H vs Q E hr h=>?_)
 ·obtain ⟨x,d,n,rfl,_⟩:=h
  rfl
 obtain ⟨x,d,n,rfl,hd,q⟩:=h
 refine ⟨_,z8 (v1 (zw2 (o0 KW hr rfl (z0 (pv 0) z5)) (zw5 (yw0 yb2 yk9 y6 (pv 0) (pv 1))))),?_⟩
 refine ⟨_,rfl,_,d,rfl,hd,_,rfl,?_⟩
 by_cases hw:isW d=true
 ·cases hd with
  | int i =>
   refine i7 ⟨_,rfl,_,_,rfl,rfl,_,rfl,?_⟩
   rw [A9] at q
   by_cases h0:0<=i
   ·rw [decide_eq_true h0]
    refine i7 ⟨_,rfl,_,_,rfl,rfl,?_⟩
    by_cases h1:i<(n:Int)
    ·rw [if_pos ⟨h0,h1⟩] at q
     show Q (.bl (decide (i<(n:Int)))) H
     rw [decide_eq_true h1]
     exact q
    ·rw [if_neg λz=>h1 z.2] at q
     show Q (.bl (decide (i<(n:Int)))) H
     rw [decide_eq_false h1]
     exact q
   ·rw [decide_eq_false h0]
    rw [if_neg λz=>h0 z.1] at q
    exact m9 q
  | _=>cases hw
 ·have hf:isW d=false:=by simpa using hw
  rw [hf]
  have:(plD n d).isSome=false:=by cases d <;> first|rfl|cases hf
  rw [this] at q
  exact m9 q
def C4 (C:Addr):Sp:=λvs H Q E=>∃(x:V) (d:PyData) (m:Nat),vs=[x,.int m]/\Dt H x d/\((∃ds,yq1 d=some ds/\ds.length<=m)->∀H',y4 H H'->Q .non H')/\((∀ds,yq1 d=some ds->m<ds.length)->∀H',y4 H H'->E (.ref C) none H')
theorem yc5:x9 ["thing","most"] ["thing","most"] (z9 C2):=scq
theorem yb0 (D:Def K mg "need_row" C2 ["thing","most"] f fd) (B:Blt mg) {TE C:Addr} (EA:O0 K mg TE "NoThing" C) (kS:∀d,W.kitAny K (.type (tyD d)) [.type "list",.type "tuple"]=some (yq1 d).isSome):V8 P w K mg base 1 "need_row" ["thing","most"] (C4 C):=by
 refine ⟨f,fd,?_,D.F.kp,D.m,D.b⟩
 refine D.F.okX yc5 (λvs H Q E h=>?_) (λcdv A outer s H vs Q E hr h=>?_)
 ·obtain ⟨x,d,m,rfl,_⟩:=h
  rfl
 obtain ⟨x,d,m,rfl,hd,q,qx⟩:=h
 refine ⟨_,z8 (n6 (PW.pt (zm1 (W7 (X8 (v8 zt0 rfl B.isinstance r6 (z0 (pv 0) (z0 (Q1 (z0 (W5 (v:=.ty "list") rfl B.list Q8 rfl) (z0 (W5 (v:=.ty "tuple") rfl B.tuple Z7 rfl) z5))) z5))))) (D6 (p7 yk8 (v8 q9 rfl B.len X4 (z0 (pv 0) z5)) (pv 1) (o7 _))))) (z8 (J2 EA.m EA.c PySem.F.excBase_ValueError rfl rfl (z0 M1 z5))) u0),?_⟩
 refine ⟨_,rfl,small (show 2<=1000 by decide),λp hp=>?_⟩
 have s1:=z7 hp (.tup [V.ty "list",V.ty "tuple"])
 have ep:(upd H p (.tup [V.ty "list",V.ty "tuple"])) p=some (.tup (["list","tuple"].map V.ty)):=z4
 generalize upd H p (.tup [V.ty "list",V.ty "tuple"])=H1 at s1 ep ⊢
 have hd1:=hd.same s1
 refine ⟨_,d,p,["list","tuple"],_,rfl,hd1,SqT.of ep,kS d,_,rfl,?_⟩
 cases hd1 with
 | @lst a xs ds e hs =>
  refine m9 ⟨_,rfl,a,_,rfl,.inl (SqL.of e),_,rfl,_,_,rfl,rfl,_,rfl,?_⟩
  rw [hs.length]
  rcases cX m ds.length with hl|hl
  ·rw [decide_eq_true (show ((ds.length:Nat):Int) > (m:Int) by lia)]
   exact i7 ⟨by decide,qx (λds' h=>by cases h;exact hl) H1 s1⟩
  ·rw [decide_eq_false (show ¬((ds.length:Nat):Int) > (m:Int) by lia)]
   exact m9 (q ⟨ds,rfl,hl⟩ H1 s1)
 | @tup a xs ds e hs =>
  refine m9 ⟨_,rfl,a,_,rfl,.inr (SqT.of e),_,rfl,_,_,rfl,rfl,_,rfl,?_⟩
  rw [hs.length]
  rcases cX m ds.length with hl|hl
  ·rw [decide_eq_true (show ((ds.length:Nat):Int) > (m:Int) by lia)]
   exact i7 ⟨by decide,qx (λds' h=>by cases h;exact hl) H1 s1⟩
  ·rw [decide_eq_false (show ¬((ds.length:Nat):Int) > (m:Int) by lia)]
   exact m9 (q ⟨ds,rfl,hl⟩ H1 s1)
 | _=>exact i7 ⟨by decide,qx (λds' h=>by cases h) H1 s1⟩
def za8 (C:Addr):Sp:=λvs H Q E=>∃(x:V) (d:PyData) (n:Nat),vs=[x,.int n]/\Dt H x d/\(∀y,plD n d=some y->Q .non H)/\(plD n d=none->E (.ref C) none H)
theorem zp9:x9 ["thing","many"] ["thing","many"] (z9 M9):=scq
theorem zp3 (D:Def K mg "need_place" M9 ["thing","many"] f fd) (B:Blt mg) (KP:l9 P w K mg base 2 "is_place" ["thing","many"] zm9) {TE C:Addr} (EA:O0 K mg TE "NoThing" C):V8 P w K mg base 3 "need_place" ["thing","many"] (za8 C):=by
 refine ⟨f,fd,?_,D.F.kp,D.m,D.b⟩
 refine D.F.okX zp9 (λvs H Q E h=>?_) (λcdv A outer s H vs Q E hr h=>?_)
 ·obtain ⟨x,d,n,rfl,_⟩:=h
  rfl
 obtain ⟨x,d,n,rfl,hd,q,qx⟩:=h
 refine ⟨_,z8 (n6 (W7 (X8 (o0 KP hr rfl (z0 (pv 0) (z0 (pv 1) z5))))) (z8 (J2 EA.m EA.c PySem.F.excBase_ValueError rfl rfl (z0 M1 z5))) u0),?_⟩
 refine ⟨_,rfl,_,rfl,x,d,n,rfl,hd,_,rfl,?_⟩
 cases e:plD n d with
 | some y=>exact m9 (q y e)
 | none=>exact i7 ⟨by decide,qx e⟩
def yy4 (C:Addr):Sp:=λvs H Q E=>∃(x:V) (d:PyData) (m n:Nat),vs=[x,.int m,.int n]/\Dt H x d/\m<=1000/\(∀l,O8 m n d=some l->∀(r:Addr) (H':Hp),y4 H H'->H' r=some (.tup (tI l))->Q (.ref r) H')/\(O8 m n d=none->∀H',y4 H H'->E (.ref C) none H')
theorem N0:x9 ["thing","most","many","place"] ["thing","most","many"] (z9 T9):=scq
theorem zd5 {n:Nat}:∀{ds:List PyData} {i:Nat} {d:PyData},ds[i]?=some d->plD n d=none->O7 n ds=none
 | d::ds,0,d',h,hd=>by
  cases h
  unfold O7
  rw [hd]
  rfl
 | d::ds,i+1,d',h,hd=>by
  have:=zd5 (ds:=ds) (i:=i) h hd
  unfold O7
  rw [this]
  cases plD n d <;> rfl
theorem zd6 {n:Nat}:∀{ds:List PyData},(∀(i:Nat) (d:PyData),ds[i]?=some d->∃x,plD n d=some x)->∃l,O7 n ds=some l
 | [],_=>⟨[],rfl⟩
 | d::ds,h=>by
  obtain ⟨x,hx⟩:=h 0 d rfl
  obtain ⟨l,hl⟩:=zd6 (ds:=ds) λi d' hi=>h (i+1) d' hi
  exact ⟨x::l,by unfold O7;rw [hx,hl];rfl⟩
theorem yf0 {H:Hp}:∀{xs:List V} {ds:List PyData},Dts H xs ds->∀(i:Nat) (x:V),xs[i]?=some x->∃d,ds[i]?=some d/\Dt H x d
 | _,_,.nil,i,x,hx=>by cases hx
 | _,_,.cons h1 h2,0,x,hx=>by cases hx;exact ⟨_,rfl,h1⟩
 | _,_,.cons h1 h2,i+1,x,hx=>yf0 h2 i x hx
theorem zd3 (D:Def K mg "row_of_places" T9 ["thing","most","many"] f fd) (B:Blt mg) {C:Addr} (KR:V8 P w K mg base 1 "need_row" ["thing","most"] (C4 C)) (KP:V8 P w K mg base 3 "need_place" ["thing","many"] (za8 C)):V8 P w K mg base 4 "row_of_places" ["thing","most","many"] (yy4 C):=by
 refine ⟨f,fd,?_,D.F.kp,D.m,D.b⟩
 refine D.F.okX N0 (λvs H Q E h=>?_) (λcdv A outer s H vs Q E hr h=>?_)
 ·obtain ⟨x,d,m,n,rfl,_⟩:=h
  rfl
 obtain ⟨x,d,m,n,rfl,hd,hm,q,qx⟩:=h
 refine ⟨_,y0 (l8 (yg7 KR hr rfl (z0 (pv 0) (z0 (pv 1) z5))))
  (y0 (U1 PassesOwn.leaving rfl (xm4 (pv 0)) (l5 (i:=3) N0.nd rfl (Or.inl rfl)) (z8 (l8 (yg7 KP hr rfl (z0 (pv 3) (z0 (pv 2) z5))))))
  (z8 (v1 (o9 g9 rfl B.tuple Z7 (z0 (pv 0) z5))))),?_⟩
 refine ⟨_,rfl,_,rfl,x,d,m,rfl,hd,λ⟨ds,hds,hl⟩ H1 s1=>?_,λhno H1 s1=>qx ?_ H1 s1⟩
 ·have er:O8 m n d=O7 n ds:=by unfold O8;rw [hds];exact if_pos hl
  have hd1:=hd.same s1
  cases hd1 with
  | @lst a xs ds' e hs =>
   cases hds
   refine ⟨_,rfl,a,rfl,.inl ⟨⟨_,SqL.of e⟩,T1 (K:=K) (a:=a) (xs:=xs) (λi σ H2=>(∃v:Option V,σ=[some (.ref a),some (.int m),some (.int n),v]/\H2=H1)/\∀(j:Nat) (d:PyData),j<i->ds[j]?=some d->∃x,plD n d=some x) ⟨⟨none,rfl,rfl⟩,λj d hj=>absurd hj (dq _)⟩ (λi σ H2 _ ⟨⟨_,_,e2⟩,_⟩=>by rw [e2];exact SqL.of e) ?_ ?_⟩⟩
   ·rintro i y σ H2 hi ⟨⟨v,rfl,rfl⟩,hall⟩
    obtain ⟨d',hd',hy⟩:=yf0 hs i y hi
    refine ⟨_,rfl,_,rfl,y,d',n,rfl,hy,λz hz=>⟨⟨_,rfl,rfl⟩,λj d2 hj hd2=>?_⟩,λhz=>qx (by rw [er];exact zd5 hd' hz) _ s1⟩
    rcases Nat.lt_succ_iff_lt_or_eq.mp hj with h|h
    ·exact hall j d2 h hd2
    ·subst h
     rw [hd'] at hd2
     cases hd2
     exact ⟨z,hz⟩
   ·rintro σ H2 ⟨⟨v,rfl,rfl⟩,hall⟩
    obtain ⟨l,hl'⟩:=zd6 (n:=n) (ds:=ds) λi d hi=>hall i d (by rw [hs.length];exact (ag.mp hi).1) hi
    have ex:xs=tI l:=by
     rw [(zh6 hl').2.1] at hs
     exact zt6 hs
    refine ⟨_,rfl,a,_,rfl,.inl ⟨SqL.of e,λr hr'=>q l (er.trans hl') r _ (s1.trans (z7 hr' _)) ?_⟩⟩
    rw [z4,ex]
  | @tup a xs ds' e hs =>
   cases hds
   refine ⟨_,rfl,a,rfl,.inr ⟨⟨_,SqT.of e⟩,xb8 (K:=K) (a:=a) (xs:=xs) (λi σ H2=>(∃v:Option V,σ=[some (.ref a),some (.int m),some (.int n),v]/\H2=H1)/\∀(j:Nat) (d:PyData),j<i->ds[j]?=some d->∃x,plD n d=some x) ⟨⟨none,rfl,rfl⟩,λj d hj=>absurd hj (dq _)⟩ (λi σ H2 _ ⟨⟨_,_,e2⟩,_⟩=>by rw [e2];exact SqT.of e) ?_ ?_⟩⟩
   ·rintro i y σ H2 hi ⟨⟨v,rfl,rfl⟩,hall⟩
    obtain ⟨d',hd',hy⟩:=yf0 hs i y hi
    refine ⟨_,rfl,_,rfl,y,d',n,rfl,hy,λz hz=>⟨⟨_,rfl,rfl⟩,λj d2 hj hd2=>?_⟩,λhz=>qx (by rw [er];exact zd5 hd' hz) _ s1⟩
    rcases Nat.lt_succ_iff_lt_or_eq.mp hj with h|h
    ·exact hall j d2 h hd2
    ·subst h
     rw [hd'] at hd2
     cases hd2
     exact ⟨z,hz⟩
   ·rintro σ H2 ⟨⟨v,rfl,rfl⟩,hall⟩
    obtain ⟨l,hl'⟩:=zd6 (n:=n) (ds:=ds) λi d hi=>hall i d (by rw [hs.length];exact (ag.mp hi).1) hi
    have ex:xs=tI l:=by
     rw [(zh6 hl').2.1] at hs
     exact zt6 hs
    exact ⟨_,rfl,a,_,rfl,.inr ⟨SqT.of e,q l (er.trans hl') a _ s1 (by rw [←ex];exact e)⟩⟩
  | _=>cases hds
 ·unfold O8
  cases e:yq1 d with
  | none=>rfl
  | some ds=>exact if_neg (Nat.not_le.mpr (hno ds e))
def zn4:Sp:=λvs H Q _=>∃(x:V) (d:PyData) (n:Nat),vs=[x,.int n]/\Dt H x d/\(∀ds,d=.tuple ds->ds.length<=1000)/\∀H':Hp,y4 H H'->Q (.bl (c7 d&&match d with | .tuple ds=>decide (ds.length=n)|_=>false)) H'
theorem ze2:x9 ["thing","many"] ["thing","many"] (z9 T8):=scq
theorem yq6 {d:PyData}(h:c7 d=true):∃ds,d=.tuple ds:=by
 cases d with
 | tuple ds=>exact ⟨ds,rfl⟩
 | _=>cases h
theorem zd2 (D:Def K mg "is_turning_of" T8 ["thing","many"] f fd) (B:Blt mg) (KT:l9 P w K mg base 2 "is_turning" ["thing"] ym7):u6 P w K mg base CX0 3 f fd ["thing","many"] zn4:=by
 refine D.F.ok ze2 (λvs H Q E h=>?_) (λcdv A outer s H vs Q E hr h=>?_)
 ·obtain ⟨x,d,n,rfl,_⟩:=h
  rfl
 obtain ⟨x,d,n,rfl,hd,hl,q⟩:=h
 refine ⟨_,z8 (v1 (zw2 (o0 KT hr rfl (z0 (pv 0) z5)) (zw5 (A6 O5 (v8 q9 rfl B.len X4 (z0 (pv 0) z5)) (pv 1) (o7 _))))),?_⟩
 refine ⟨_,rfl,x,d,rfl,hd,hl,λH1 s1=>?_⟩
 cases ht:c7 d with
 | false =>
  have:=q H1 s1
  rw [ht,eD] at this
  exact ⟨_,rfl,m9 this⟩
 | true =>
  obtain ⟨ds,rfl⟩:=yq6 ht
  have q':=q H1 s1
  rw [ht,Bool.true_and] at q'
  have hd1:=hd.same s1
  cases hd1 with
  | @tup a xs _ e r =>
   refine ⟨_,rfl,i7 ⟨_,rfl,a,_,rfl,.inr (SqT.of e),_,rfl,rfl,?_⟩⟩
   rw [Z0,r.length]
   rw [show decide (((ds.length:Nat):Int)=(n:Int))=decide (ds.length=n) from decide_eq_decide.mpr (by lia)]
   exact q'
def zi0:Sp:=λvs H Q _=>∃n:Nat,vs=[.int n]/\n<=1000/\∀(r:Addr) (H':Hp),H r=none->y4 H H'->H' r=some (.tup (tI (List.range n)))->Q (.ref r) H'
theorem yx8:x9 ["many"] ["many"] (z9 zx4):=scq
theorem yv8 (D:Def K mg "still" zx4 ["many"] f fd) (B:Blt mg):u6 P w K mg base CX0 1 f fd ["many"] zi0:=by
 refine D.F.ok yx8 (λvs H Q E h=>?_) (λcdv A outer s H vs Q E hr h=>?_)
 ·obtain ⟨n,rfl,_⟩:=h
  rfl
 obtain ⟨n,rfl,hn,q⟩:=h
 refine ⟨_,z8 (v1 (o9 (zi8 rfl) rfl B.tuple Z7 (z0 (o9 G0 rfl B.range C6 (z0 (pv 0) z5)) z5))),?_⟩
 refine ⟨_,rfl,_,rfl,λp hp=>⟨p,0,(n:Int),rfl,z4,⟨by omega,by omega,by omega,by omega,by omega⟩,λr hr'=>?_⟩⟩
 rw [show ((n:Int)-0).toNat=n by omega,zb2]
 have pr:p≠r:=y9 z4 hr'
 have hr0:H r=none:=by
  have:=hr'
  rwa [z6 (Ne.symm pr)] at this
 exact q r _ hr0 (p8 (z7 hp _) hr0 _) z4
def J9 (K:W.Frag):Sp:=λvs H Q _=>∃(a b:Addr) (one other:List Nat),vs=[.ref a,.ref b]/\SqT K H a (tI one)/\SqT K H b (tI other)/\one.length<=1000/\(∀x∈one,x<other.length) /\
 ∀(r:Addr) (H':Hp),H r=none->y4 H H'->H' r=some (.tup (tI (one.map λx=>other.getD x 0)))->Q (.ref r) H'
theorem yp9:x9 ["one","other"] ["one","other"] (z9 zm3):=scq
theorem yp2 (D:Def K mg "behind" zm3 ["one","other"] f fd) (B:Blt mg):u6 P w K mg base CX0 1 f fd ["one","other"] (J9 K):=by
 refine D.F.ok yp9 (λvs H Q E h=>?_) (λcdv A outer s H vs Q E hr h=>?_)
 ·obtain ⟨a,b,one,other,rfl,_⟩:=h
  rfl
 obtain ⟨a,b,one,other,rfl,ha,hb,hl,hlt,q⟩:=h
 refine ⟨_,z8 (v1 (o9 g9 rfl B.tuple Z7 (z0 (Y5 [1] ["place","other"] rfl (zw6 (pv 0)) (λ_ _ _ _=>i4 zc6 (pv 1) (pv 0) (λ_ _=>rfl))) z5))),?_⟩
 refine ⟨_,rfl,a,rfl,⟨_,ha⟩,C8 ha (tI (one.map λx=>other.getD x 0)) (by rw [v9,v9,ae]) (by rw [v9];exact small hl) ?_ ?_⟩
 ·intro i H1 x hx s1 _ _ _ _
  obtain ⟨p,hp,rfl⟩:=zb3 hx
  have hpl:p<other.length:=hlt p (au hp)
  have hg:other[p]?=some other[p]:=aa hpl
  refine ⟨_,rfl,_,rfl,b,_,_,_,rfl,rfl,s1.seqT hb,yn0 hg,y4.refl _,?_⟩
  rw [yi2,ar,hp]
  simp [ax,hg]
 ·intro Dl H1 hD s1 hl1
  exact ⟨Dl,_,rfl,.inl ⟨SqL.of hl1,λl hl2=>q l _ (s1.free hl2) (p8 s1 (s1.free hl2) _) z4⟩⟩
def yh7 (K:W.Frag):Sp:=λvs H Q _=>∃(a:Addr) (n:Nat) (one:List Nat),vs=[.ref a]/\SqT K H a (tI one)/\TM.IsT n one/\n<=1000 /\
 ∀(r:Addr) (H':Hp) (b:List Nat),H r=none->y4 H H'->TM.Back n one n b->H' r=some (.tup (tI b))->Q (.ref r) H'
theorem zh8:x9 ["one","goes","place","to"] ["one"] (z9 yh3):=scq
theorem xd2 (D:Def K mg "back" yh3 ["one"] f fd) (B:Blt mg):u6 P w K mg base CX0 1 f fd ["one"] (yh7 K):=by
 refine D.F.ok zh8 (λvs H Q E h=>?_) (λcdv A outer s H vs Q E hr h=>?_)
 ·obtain ⟨a,n,one,rfl,_⟩:=h
  rfl
 obtain ⟨a,n,one,rfl,ha,hT,hn,q⟩:=h
 refine ⟨_,y0 (u5 (i:=1) zh8.nd rfl (Or.inl rfl) (o9 C7 rfl B.list Q8 (z0 (pv 0) z5)))
  (y0 (U1 PassesOwn.never rfl (yb5 rfl B.enumerate (z0 (pv 0) z5)) (zl4 rfl (Y6 (l5 (i:=2) zh8.nd rfl (Or.inl rfl)) (Y6 (l5 (i:=3) zh8.nd rfl (Or.inl rfl)) A8)))
   (z8 (zw9 (pv 2) (yw4 (pv 1) (pv 3) yc6))))
  (z8 (v1 (o9 g9 rfl B.tuple Z7 (z0 (pv 1) z5))))),?_⟩
 refine ⟨_,rfl,a,tI one,rfl,.inr ha,λg hg=>?_⟩
 have s0:y4 H (upd H g (.lst (tI one))):=z7 hg _
 refine ⟨_,rfl,a,rfl,⟨_,s0.seqT ha⟩,zj8 (xs:=tI one) (λi σ H2=>∃(b:List Nat) (v2 v3:Option V),σ=[some (.ref a),some (.ref g),v2,v3]/\y4 H H2/\H2 g=some (.lst (tI b))/\TM.Back n one i b)
  ⟨one,none,none,rfl,s0,z4,TM.Back.start hT.length⟩ (λi σ H2 _ ⟨_,_,_,_,s2,_⟩=>s2.seqT ha) ?_ ?_⟩
 ·rintro i x σ H2 T hx ⟨b,v2,v3,rfl,s2,hg2,bk⟩ hT2
  obtain ⟨y,hy,rfl⟩:=zb3 hx
  have hTg:g≠T:=y9 hg2 hT2
  have hyn:y<b.length:=by rw [bk.len];exact hT.get_lt hy
  refine ⟨T,_,rfl,SqT.of z4,rfl,_,_,rfl,_,_,rfl,rfl,?_⟩
  refine ⟨_,rfl,_,rfl,_,rfl,g,tI b,_,y,rfl,rfl,by rw [z6 hTg];exact hg2,by rw [v9];exact zu0 hyn,?_⟩
  refine ⟨b.set y i,_,_,rfl,p8 (p8 s2 (s2.free hT2) _) hg _,by rw [z4,yi3],bk.step hT hy⟩
 ·rintro σ H2 ⟨b,v2,v3,rfl,s2,hg2,bk⟩
  rw [v9,hT.length] at bk
  exact ⟨_,rfl,g,tI b,rfl,.inl ⟨SqL.of hg2,λl hl=>q l _ b (s2.free hl) (p8 s2 (s2.free hl) _) bk z4⟩⟩
structure g7 (K:W.Frag) (C:Addr) (xs:List Str):Prop where
 cls:Cls K C
 no:∀x∈xs,K0 K C x
def y8 (F:List Addr)(H H':Hp):Prop:=∀b o,b∉F->H b=some o->H' b=some o
theorem y8.refl {F:List Addr}{H:Hp}:y8 F H H:=λ_ _ _ h=>h
theorem y8.trans {F:List Addr}{H H1 H2:Hp}(a:y8 F H H1)(b:y8 F H1 H2):y8 F H H2:=λc o hc h=>b c o hc (a c o hc h)
theorem y4.frame {F:List Addr}{H H':Hp}(s:y4 H H'):y8 F H H':=λb o _ h=>s b o h
theorem y8.upd {F:List Addr}{H H':Hp}(s:y8 F H H'){a:Addr}(ha:a∈F)(o:HO):y8 F H (L2.upd H' a o):=λb u hb h=>by
 rw [z6 (λe=>hb (by rw [e];exact ha))]
 exact s b u hb h
theorem y8.more {F G:List Addr}{H H':Hp}(s:y8 F H H')(h:∀a∈F,a∈G):y8 G H H':=λb o hb e=>s b o (λz=>hb (h b z)) e
def kI (l:List (Nat×Nat)):List (Key×V):=l.map λx=>(Sum.inl (x.1:Int),V.int (x.2:Int))
theorem zu3 (l:List (Nat×Nat)):(kI l).length=l.length:=ae _
def atN {α:Type}(l:List (Nat×α))(k:Nat):Option α:=(l.find? λx=>decide (x.1=k)).map (·.2)
theorem R8 (l:List (Nat×Nat))(k:Nat):L5 (kI l) (Sum.inl (k:Int))=(atN l k).map λx=>V.int x:=by
 induction l with
 | nil=>rfl
 | cons x r ih =>
  by_cases h:x.1=k
  ·have e:atN (x::r) k=some x.2:=by unfold atN;rw [cN (by simpa using h)];rfl
   rw [e]
   exact N3 (p:=(Sum.inl (x.1:Int),V.int (x.2:Int))) (by show (Sum.inl (x.1:Int):Key)=Sum.inl (k:Int);rw [h])
  ·have e:atN (x::r) k=atN r k:=by unfold atN;rw [cO (by simpa using h)]
   rw [e,←ih]
   exact T4 (p:=(Sum.inl (x.1:Int),V.int (x.2:Int))) λz=>h (by have:=Sum.inl.inj z;lia)
structure StS where
 mv:List Nat
 to:List (Nat×Nat)
 wt:List (Nat×Nat)
 lk:Nat
structure ChS where
 ln:List TM.Ln
 md:List (List Nat)
 bl:List (Nat×Nat)
 st:List StS
 src:Nat->List Nat
structure StA where
 a:Addr
 m:Addr
 lt:Addr
 bf:Addr
 w:Addr
structure ChA where
 c:Addr
 b:Addr
 ll:Addr
 lm:Addr
 d:Addr
 l:Addr
 st:List StA
def StA.all (s:StA):List Addr:=[s.a,s.m,s.lt,s.bf,s.w]
def ChA.all (A:ChA):List Addr:=[A.c,A.b,A.ll,A.lm,A.d,A.l]++(A.st.map StA.all).flatten
structure V7 (cB:Addr) (H:Hp) (A:ChA) (S:ChS):Prop where
 b:∃dx,H A.b=some (.ins cB dx [("lines",.ref A.ll),("made",.ref A.lm),("back_lines",.ref A.d)])
 ll:∃as,H A.ll=some (.lst (as.map V.ref))/\zi2 H as S.ln
 lm:∃as,H A.lm=some (.lst (as.map V.ref))/\Y4 H as S.md
 d:H A.d=some (.dK (kI S.bl))
 len:S.ln.length=S.md.length
theorem Y4.upd {H:Hp}{as:List Addr}{ts:List (List Nat)}{a:Addr}{o:HO}(h:Y4 H as ts)(ha:∀xs,H a≠some (.tup xs)):Y4 (L2.upd H a o) as ts:=Paired.imp' (λb t e=>by
 rw [z6 (λz=>by subst z;exact ha _ e)];exact e) h
theorem zi2.upd {H:Hp}{as:List Addr}{ls:List TM.Ln}{a:Addr}{o:HO}(h:zi2 H as ls)(ha:∀xs,H a≠some (.tup xs)):zi2 (L2.upd H a o) as ls:=Paired.imp' (λb t e=>by
 rw [z6 (λz=>by subst z;exact ha _ e)];exact e) h
def ChS.put (S:ChS)(l:TM.Ln)(t:List Nat):ChS:={ S with ln:=S.ln++[l],md:=S.md++[t] }
def zi7:List Str:=["lines","made","back_lines"]
def ym5 (cB:Addr):Sp:=λvs H Q _=>∃(A:ChA) (S:ChS) (lr tr:Addr) (l:TM.Ln) (t:List Nat),vs=[.ref A.b,.ref lr,.ref tr]/\V7 cB H A S/\A.ll≠A.lm/\H lr=some (.tup (lnV l))/\H tr=some (.tup (tI t))/\S.ln.length<10000000 /\
 ∀H':Hp,y8 [A.ll,A.lm] H H'->V7 cB H' A (S.put l t)->Q (.int (S.ln.length:Int)) H'
theorem yc2:x9 ["self","line","turning"] ["self","line","turning"] (z9 D8):=scq
theorem X3:10000000<sizeLine:=by decide
theorem ya7 {cB:Addr}(F:Fun K "put" "Book.put" D8 f fd) (B:Blt mg) (cb:g7 K cB zi7):u6 P w K mg base CX0 1 f fd ["self","line","turning"] (ym5 cB):=by
 refine F.ok yc2 (λvs H Q E h=>?_) (λcdv Ar outer s H vs Q E hr h=>?_)
 ·obtain ⟨A,S,lr,tr,l,t,rfl,_⟩:=h
  rfl
 obtain ⟨A,S,lr,tr,l,t,rfl,bk,hne,hl,ht,hlen,q⟩:=h
 obtain ⟨⟨dx,hb⟩,⟨las,hll,hln⟩,⟨mas,hlm,hmd⟩,hd,hlen2⟩:=bk
 have hz:=X3
 have nL:=cb.no "lines" (by decide)
 have nM:=cb.no "made" (by decide)
 refine ⟨_,y0 (l8 (J0 PySem.F.plainAttrs_list PySem.F.slot_list_append PySem.F.type_list_append X9 (w8 (pv 0) rfl) (z0 (pv 1) z5)))
  (y0 (l8 (J0 PySem.F.plainAttrs_list PySem.F.slot_list_append PySem.F.type_list_append X9 (w8 (pv 0) rfl) (z0 (pv 2) z5)))
  (z8 (v1 (u9 zl3 (v8 q9 rfl B.len X4 (z0 (w8 (pv 0) rfl) z5)) y6)))),?_⟩
 have las_l:las.length=S.ln.length:=Paired.length hln
 have mas_l:mas.length=S.md.length:=Paired.length hmd
 refine ⟨_,rfl,A.b,cB,dx,_,_,rfl,hb,cb.cls,nL,rfl,.inl ⟨rfl,_,SqL.of hll⟩,_,rfl,A.ll,_,_,rfl,rfl,hll,by rw [ae];lia,?_⟩
 have b1:A.b≠A.ll:=i6 hb hll (by intro z;cases z)
 have e1:(upd H A.ll (.lst (las.map V.ref++[V.ref lr]))) A.b=some (.ins cB dx [("lines",.ref A.ll),("made",.ref A.lm),("back_lines",.ref A.d)]):=by rw [z6 b1];exact hb
 have e2:(upd H A.ll (.lst (las.map V.ref++[V.ref lr]))) A.lm=some (.lst (mas.map V.ref)):=by rw [z6 (Ne.symm hne)];exact hlm
 refine ⟨_,rfl,A.b,cB,dx,_,_,rfl,e1,cb.cls,nM,rfl,.inl ⟨rfl,_,SqL.of e2⟩,_,rfl,A.lm,_,_,rfl,rfl,e2,by rw [ae];lia,?_⟩
 have b2:A.b≠A.lm:=i6 hb hlm (by intro z;cases z)
 have e3:(upd (upd H A.ll (.lst (las.map V.ref++[V.ref lr]))) A.lm (.lst (mas.map V.ref++[V.ref tr]))) A.b=some (.ins cB dx [("lines",.ref A.ll),("made",.ref A.lm),("back_lines",.ref A.d)]):=by rw [z6 b2];exact e1
 have e4:(upd (upd H A.ll (.lst (las.map V.ref++[V.ref lr]))) A.lm (.lst (mas.map V.ref++[V.ref tr]))) A.ll=some (.lst ((las++[lr]).map V.ref)):=by rw [z6 hne,z4,aG];rfl
 refine ⟨_,rfl,A.b,cB,dx,_,_,rfl,e3,cb.cls,nL,rfl,A.ll,_,rfl,.inl (SqL.of e4),_,_,rfl,rfl,?_⟩
 have hv:((((las++[lr]).map V.ref).length:Nat):Int)-1=(S.ln.length:Int):=by
  rw [ae,af,bD,las_l]
  lia
 show Q (.int _) _
 rw [hv]
 have nt1:∀xs,H A.ll≠some (.tup xs):=λxs z=>by rw [hll] at z;cases z
 have nt2:∀xs,(upd H A.ll (.lst (las.map V.ref++[V.ref lr]))) A.lm≠some (.tup xs):=λxs z=>by rw [e2] at z;cases z
 have d1:A.d≠A.ll:=i6 hd hll (by intro z;cases z)
 have d2:A.d≠A.lm:=i6 hd hlm (by intro z;cases z)
 refine q _ (y8.upd (y8.upd y8.refl (by simp) _) (by simp) _) ⟨⟨dx,e3⟩,⟨las++[lr],e4,?_⟩,⟨mas++[tr],by rw [z4,aG];rfl,?_⟩,by rw [z6 d2,z6 d1];exact hd,by show (S.ln++[l]).length=(S.md++[t]).length;rw [af,af,hlen2];rfl⟩
 ·refine Paired.snoc ((hln.upd nt1).upd nt2) ?_
  rw [z6 (i6 hl hlm (by intro z;cases z)),z6 (i6 hl hll (by intro z;cases z))]
  exact hl
 ·refine Paired.snoc ((hmd.upd nt1).upd nt2) ?_
  rw [z6 (i6 ht hlm (by intro z;cases z)),z6 (i6 ht hll (by intro z;cases z))]
  exact ht
theorem V7.same {cB:Addr}{H H':Hp}{A:ChA}{S:ChS}(h:V7 cB H A S)(s:y4 H H'):V7 cB H' A S :=
 ⟨h.b.imp λ_ e=>s _ _ e,h.ll.imp λ_ e=>⟨s _ _ e.1,e.2.same s⟩,h.lm.imp λ_ e=>⟨s _ _ e.1,e.2.same s⟩,s _ _ h.d,h.len⟩
def ChS.putB (S:ChS)(i j:Nat):Nat×ChS:=if i=0 then (j,S) else if j=0 then (i,S) else (S.ln.length,S.put (.behind i j) (TM.beh (S.md.getD i []) (S.md.getD j [])))
def yy1 (cB:Addr):Sp:=λvs H Q _=>∃(A:ChA) (S:ChS) (n i j:Nat),vs=[.ref A.b,.int i,.int j]/\V7 cB H A S/\A.ll≠A.lm/\i<S.md.length/\j<S.md.length/\(∀t∈S.md,TM.IsT n t)/\n<=60/\S.ln.length<10000000 /\
 ∀H':Hp,y8 [A.ll,A.lm] H H'->V7 cB H' A (S.putB i j).2->Q (.int ((S.putB i j).1:Int)) H'
theorem C3:x9 ["self","one","other"] ["self","one","other"] (z9 W9):=scq
theorem R4 {α:Type}{l:List α}{i:Nat}(d:α)(h:i<l.length):l[i]?=some (l.getD i d):=by
 rw [ax,aa h];rfl
theorem D5 {cB:Addr}(F:Fun K "put_behind" "Book.put_behind" W9 f fd) (B:Blt mg) (cb:g7 K cB zi7) (MP:Q0 P w K mg base 1 cB "put" ["self","line","turning"] (ym5 cB)) (KB:l9 P w K mg base 1 "behind" ["one","other"] (J9 K)) (GS:zf8 mg "STILL_LINE" (.int 0)):u6 P w K mg base CX0 2 f fd ["self","one","other"] (yy1 cB):=by
 refine F.ok C3 (λvs H Q E h=>?_) (λcdv Ar outer s H vs Q E hr h=>?_)
 ·obtain ⟨A,S,n,i,j,rfl,_⟩:=h
  rfl
 obtain ⟨A,S,n,i,j,rfl,bk,hne,hi,hj,hT,hn,hlen,q⟩:=h
 refine ⟨_,y0 (n6 (p7 O5 (pv 1) (A7 GS rfl) (o7 _)) (z8 (v1 (pv 2))) u0)
  (y0 (n6 (p7 O5 (pv 2) (A7 GS rfl) (o7 _)) (z8 (v1 (pv 1))) u0)
  (z8 (v1 (S8 cb.cls MP hr (pv 0) (z0 (Q1 (z0 M1 (z0 (pv 1) (z0 (pv 2) z5)))) (z0 (o0 KB hr rfl (z0 (i4 p5 (w8 (pv 0) rfl) (pv 1) (λ_ _=>rfl)) (z0 (i4 p5 (w8 (pv 0) rfl) (pv 2) (λ_ _=>rfl)) z5))) z5)))))),?_⟩
 refine ⟨_,rfl,rfl,_,rfl,xc2 (λc=>?_) (λc=>⟨_,rfl,rfl,_,rfl,xc2 (λc2=>?_) (λc2=>?_)⟩)⟩
 ·rw [Z0] at c
  have e:i=0:=by have:=of_decide_eq_true c;lia
  have r:=q H y8.refl
  unfold ChS.putB at r
  rw [if_pos e] at r
  exact ⟨_,rfl,r bk⟩
 ·rw [Z0] at c c2
  have e:¬i=0:=by have:=of_decide_eq_false (cz.mpr c);lia
  have e2:j=0:=by have:=of_decide_eq_true c2;lia
  have r:=q H y8.refl
  unfold ChS.putB at r
  rw [if_neg e,if_pos e2] at r
  exact ⟨_,rfl,r bk⟩
 ·rw [Z0] at c c2
  have e:¬i=0:=by have:=of_decide_eq_false (cz.mpr c);lia
  have e2:¬j=0:=by have:=of_decide_eq_false (cz.mpr c2);lia
  unfold ChS.putB at q
  rw [if_neg e,if_neg e2] at q
  obtain ⟨dx,hb⟩:=bk.b
  obtain ⟨mas,hlm,hmd⟩:=bk.lm
  have hz:=X3
  refine ⟨_,rfl,A.b,dx,_,rfl,hb,rfl,_,rfl,_,rfl,(by show 3<=sizeLine;lia),λlr hlr=>?_⟩
  have s1:=z7 hlr (.tup [V.str "behind",V.int i,V.int j])
  have el:(upd H lr (.tup [V.str "behind",V.int i,V.int j])) lr=some (.tup (lnV (.behind i j))):=z4
  generalize upd H lr (.tup [V.str "behind",V.int i,V.int j])=H1 at s1 el ⊢
  have ti:TM.IsT n (S.md.getD i []):=hT _ (au (R4 [] hi))
  have tj:TM.IsT n (S.md.getD j []):=hT _ (au (R4 [] hj))
  obtain ⟨ai,hai,hti⟩:=U0 hmd i _ (R4 [] hi)
  obtain ⟨aj,haj,htj⟩:=U0 hmd j _ (R4 [] hj)
  have gi:atI (mas.map V.ref) ((i:Nat):Int)=some (V.ref ai):=k8 (by rw [ar,hai];rfl)
  have gj:atI (mas.map V.ref) ((j:Nat):Int)=some (V.ref aj):=k8 (by rw [ar,haj];rfl)
  refine ⟨_,rfl,A.b,cB,dx,_,_,rfl,s1 _ _ hb,cb.cls,cb.no "made" (by decide),rfl,_,rfl,A.lm,_,_,_,rfl,rfl,SqL.of (s1 _ _ hlm),gi,_,rfl,A.b,cB,dx,_,_,rfl,s1 _ _ hb,cb.cls,cb.no "made" (by decide),rfl,_,rfl,A.lm,_,_,_,rfl,rfl,SqL.of (s1 _ _ hlm),gj,ai,aj,_,_,rfl,SqT.of (s1 _ _ hti),SqT.of (s1 _ _ htj),by rw [ti.length];lia,λx hx=>?_,λtr H2 htr s2 ht2=>?_⟩
  ·rw [tj.length]
   exact ti.lt hx
  exact ⟨A,S,lr,tr,.behind i j,_,rfl,bk.same (s1.trans s2),hne,s2 _ _ el,ht2,hlen,λH3 fr bk3=>q H3 (λb o hb' e=>fr b o hb' ((s1.trans s2) _ _ e)) bk3⟩
def ChS.putK (n:Nat)(S:ChS)(i:Nat):Nat×ChS:=match atN S.bl i with
 | some k=>(k,S)
 | none=>(S.ln.length,{ S.put (.back i) (TM.bk n (S.md.getD i [])) with bl:=S.bl++[(i,S.ln.length)] })
def yy2 (cB:Addr):Sp:=λvs H Q _=>∃(A:ChA) (S:ChS) (n i:Nat),vs=[.ref A.b,.int i]/\V7 cB H A S/\A.ll≠A.lm/\i<S.md.length/\(∀t∈S.md,TM.IsT n t)/\n<=60/\S.ln.length<10000000/\S.bl.length<10000000 /\
 ∀H':Hp,y8 [A.ll,A.lm,A.d] H H'->V7 cB H' A (S.putK n i).2->Q (.int ((S.putK n i).1:Int)) H'
theorem ze0:x9 ["self","one"] ["self","one"] (z9 X0):=scq
theorem zy3 {l:List (Nat×Nat)}{k:Nat}(h:atN l k=none):L5 (kI l) (Sum.inl (k:Int))=none:=by rw [R8,h];rfl
theorem zm0 {l:List (Nat×Nat)}{k v:Nat}(h:atN l k=none):putK (kI l) (Sum.inl (k:Int)) (V.int v)=kI (l++[(k,v)]):=by
 have e:=zy3 h
 unfold putK
 rw [N2,e]
 show kI l++[(Sum.inl (k:Int),V.int v)]=kI (l++[(k,v)])
 unfold kI
 rw [aG]
 rfl
theorem zi6 {l:List (Nat×Nat)}{k v:Nat}(h:atN l k=none):atN (l++[(k,v)]) k=some v:=by
 have h':l.find? (λx=>decide (x.1=k))=none:=by
  unfold atN at h
  cases e:l.find? (λx=>decide (x.1=k)) with
  | none=>rfl
  | some x=>rw [e] at h;cases h
 unfold atN
 rw [dO,h']
 simp
theorem zd1 {cB:Addr}(F:Fun K "put_back" "Book.put_back" X0 f fd) (B:Blt mg) (cb:g7 K cB zi7) (MP:Q0 P w K mg base 1 cB "put" ["self","line","turning"] (ym5 cB)) (KB:l9 P w K mg base 1 "back" ["one"] (yh7 K)):u6 P w K mg base CX0 2 f fd ["self","one"] (yy2 cB):=by
 refine F.ok ze0 (λvs H Q E h=>?_) (λcdv Ar outer s H vs Q E hr h=>?_)
 ·obtain ⟨A,S,n,i,rfl,_⟩:=h
  rfl
 obtain ⟨A,S,n,i,rfl,bk,hne,hi,hT,hn,hlen,hbl,q⟩:=h
 have hu:(Ar.deeper (PyProof.Rows.envOfC "Book.put_back" (z9 X0) s.heap.objs.size f cdv)).units+1<cLine:=by have:=hr.units;lia
 refine ⟨_,y0 (n6 (zl9 (F0 hu (pv 1) (w8 (pv 0) rfl))) (z8 (za1 hu (w8 (pv 0) rfl) (pv 1) (S8 cb.cls MP hr (pv 0) (z0 (Q1 (z0 M1 (z0 (pv 1) z5))) (z0 (o0 KB hr rfl (z0 (i4 p5 (w8 (pv 0) rfl) (pv 1) (λ_ _=>rfl)) z5)) z5))) rfl)) u0)
  (z8 (v1 (Q9 hu (w8 (pv 0) rfl) (pv 1) (λ_ _=>rfl)))),?_⟩
 obtain ⟨dx,hb⟩:=bk.b
 obtain ⟨mas,hlm,hmd⟩:=bk.lm
 have hz:=X3
 have nB:=cb.no "back_lines" (by decide)
 refine ⟨_,rfl,_,rfl,A.b,cB,dx,_,_,rfl,hb,cb.cls,nB,rfl,A.d,_,rfl,V5.k (k:=Sum.inl (i:Int)) bk.d,_,rfl,?_⟩
 rw [R8]
 cases ea:atN S.bl i with
 | some k =>
  have e1:S.putK n i=(k,S):=by unfold ChS.putK;rw [ea]
  rw [e1] at q
  refine m9 ⟨_,rfl,A.b,cB,dx,_,_,rfl,hb,cb.cls,nB,rfl,_,rfl,A.d,V.int k,rfl,?_,q H y8.refl bk⟩
  have g:=V5.k (k:=Sum.inl (i:Int)) bk.d
  rwa [R8,ea] at g
 | none =>
  have e1:S.putK n i=(S.ln.length,{ S.put (.back i) (TM.bk n (S.md.getD i [])) with bl:=S.bl++[(i,S.ln.length)] }):=by unfold ChS.putK;rw [ea]
  rw [e1] at q
  refine i7 ?_
  refine ⟨_,rfl,A.b,dx,_,rfl,hb,rfl,_,rfl,(by show 2<=sizeLine;lia),λlr hlr=>?_⟩
  have s1:=z7 hlr (.tup [V.str "back",V.int i])
  have el:(upd H lr (.tup [V.str "back",V.int i])) lr=some (.tup (lnV (.back i))):=z4
  generalize upd H lr (.tup [V.str "back",V.int i])=H1 at s1 el ⊢
  have ti:TM.IsT n (S.md.getD i []):=hT _ (au (R4 [] hi))
  obtain ⟨ai,hai,hti⟩:=U0 hmd i _ (R4 [] hi)
  have gi:atI (mas.map V.ref) ((i:Nat):Int)=some (V.ref ai):=k8 (by rw [ar,hai];rfl)
  refine ⟨_,rfl,A.b,cB,dx,_,_,rfl,s1 _ _ hb,cb.cls,cb.no "made" (by decide),rfl,_,rfl,A.lm,_,_,_,rfl,rfl,SqL.of (s1 _ _ hlm),gi,ai,n,_,rfl,SqT.of (s1 _ _ hti),ti,by lia,λtr H2 bq htr s2 hbq ht2=>?_⟩
  have ebq:bq=TM.bk n (S.md.getD i []):=hbq.uniq ti (TM.bk_back ti)
  subst ebq
  refine ⟨A,S,lr,tr,.back i,_,rfl,bk.same (s1.trans s2),hne,s2 _ _ el,ht2,hlen,λH3 fr bk3=>?_⟩
  obtain ⟨dx3,hb3⟩:=bk3.b
  have hd3:H3 A.d=some (.dK (kI S.bl)):=bk3.d
  have kd:(kI S.bl).length<sizeLine:=by rw [zu3];lia
  refine ⟨_,rfl,A.b,cB,dx3,_,_,rfl,hb3,cb.cls,nB,rfl,_,rfl,A.d,_,rfl,zs5.k (k:=Sum.inl (i:Int)) hd3 kd,?_⟩
  rw [zm0 ea]
  have b3:A.b≠A.d:=i6 hb3 hd3 (by intro z;cases z)
  have eb4:(upd H3 A.d (.dK (kI (S.bl++[(i,S.ln.length)])))) A.b=some (.ins cB dx3 [("lines",.ref A.ll),("made",.ref A.lm),("back_lines",.ref A.d)]):=by rw [z6 b3];exact hb3
  refine ⟨_,rfl,A.b,cB,dx3,_,_,rfl,eb4,cb.cls,nB,rfl,_,rfl,A.d,V.int (S.ln.length:Int),rfl,?_,?_⟩
  ·have g:=V5.k (k:=Sum.inl (i:Int)) (kvs:=kI (S.bl++[(i,S.ln.length)])) (H:=upd H3 A.d (.dK (kI (S.bl++[(i,S.ln.length)])))) z4
   rwa [R8,zi6 ea] at g
  ·obtain ⟨las3,hll3,hln3⟩:=bk3.ll
   obtain ⟨mas3,hlm3,hmd3⟩:=bk3.lm
   have nt:∀xs,H3 A.d≠some (.tup xs):=λxs z=>by rw [hd3] at z;cases z
   refine q _ ?_ ⟨⟨dx3,eb4⟩,⟨las3,by rw [z6 (i6 hll3 hd3 (by intro z;cases z))];exact hll3,hln3.upd nt⟩,⟨mas3,by rw [z6 (i6 hlm3 hd3 (by intro z;cases z))];exact hlm3,hmd3.upd nt⟩,z4,bk3.len⟩
   exact y8.upd (y8.trans (y4.frame (s1.trans s2)) (fr.more (λa ha=>by simp at ha ⊢;rcases ha with h|h <;> simp [h]))) (by simp) _
theorem O6 {α β:Type}{F G:α->β->Prop}:∀{as:List α} {bs:List β},Paired F as bs->(∀a∈as,∀b,F a b->G a b)->Paired G as bs
 | _,_,.nil,_=>.nil
 | _,_,.cons f r,h=>.cons (h _ ay _ f) (O6 r λa ha b q=>h a (aw _ ha) b q)
theorem yn6 {K:PySem.W.Frag}{a:Addr}{xs:List V}{fr:List Nat}{te:CT TE}{σ:St}{H1:Hp}{Q:Addr->Hp->Prop}{α:Type}(g:α->HO)(ys:List α)(hS:SqL K H1 a xs)(hn:ys.length=xs.length)(hz:xs.length<=sizeLine)
  (turn:∀(i:Nat) H x y,xs[i]?=some x->ys[i]?=some y->y4 H1 H->∀C₀ s₀ H₀ fp,te C₀ s₀ H₀ fp (some x::fr.map λj=>(σ[j]?).getD none) H λv H4=>y4 H H4/\∃b,v=.ref b/\H b=none/\H4 b=some (g y))
  (fin:∀D H as,H1 D=none->y4 H1 H->H D=some (.lst (as.map V.ref))->Paired (λb y=>H b=some (g y)) as ys->(∀b∈as,H1 b=none)->Q D H) :
  ∀D,H1 D=none->∃W:Nat->Nat->St->Hp->Prop,(∃m,W 0 m (L4 1 fr σ) (upd H1 D (.lst [])))/\∀i m σ' H',W i m σ' H' ->
  ((Itl K a).stop i H'/\Q D H')∨((Itl K a).go i H'/\∀x H2,(Itl K a).yld i H' x H2->∀C₀ s₀ H₀ fp,O3 0 x σ' H2 λσ3 H3=>∃N:VK,te C₀ s₀ H₀ fp σ3 H3 N/\∀y H4,N y H4 ->
   ∃ys m',H4 D=some (.lst ys)/\ys.length<sizeLine/\m'<m/\W (i+1) m' σ3 (upd H4 D (.lst (ys++[y])))):=by
 intro D hD
 refine ⟨λi m σ' H'=>m=xs.length-i/\i<=xs.length/\y4 H1 H'/\(∃as:List Addr,H' D=some (.lst (as.map V.ref))/\Paired (λb y=>H' b=some (g y)) as (ys.take i)/\(∀b∈as,b≠D)/\∀b∈as,H1 b=none)/\∃z,σ'=z::fr.map λj=>(σ[j]?).getD none,
  ⟨xs.length,rfl,aR _,z7 hD _,⟨[],z4,.nil,λ_ h=>(by cases h),λ_ h=>(by cases h)⟩,none,rfl⟩,?_⟩
 rintro i m σ' H' ⟨rfl,hi,sm,⟨as,hl,hP,hne,hnw⟩,z,rfl⟩
 by_cases hlt:i<xs.length
 ·refine .inr ⟨⟨xs,xs[i],sm.seq hS,by simp [hlt]⟩,λx H2 yl C₀ s₀ H₀ fp=>?_⟩
  obtain ⟨e,hx⟩:=yl
  subst e
  have hxi:=hx xs (sm.seq hS)
  have hyi:ys[i]?=some ys[i]:=aa (by lia)
  refine ⟨_,turn i _ x _ hxi hyi sm C₀ s₀ H₀ fp,λv H4 ⟨s4,b,hv,hb0,hG⟩=>?_⟩
  subst hv
  have hasl:as.length=i:=by rw [Paired.length hP,bj];lia
  have hD4:=s4 _ _ hl
  have hbD:b≠D:=Ne.symm (y9 hl hb0)
  refine ⟨as.map V.ref,xs.length-(i+1),hD4,by rw [ae,hasl];lia,by lia,rfl,hlt,λc o e=>?_,⟨as++[b],by rw [z4,aG];rfl,?_,λc hc=>?_,λc hc=>?_⟩,_,rfl⟩
  ·rw [z6 (y9 e hD)]
   exact s4 _ _ (sm _ _ e)
  ·rw [aT,hyi]
   refine Paired.snoc (O6 hP λc hc y e=>by rw [z6 (hne c hc)];exact s4 _ _ e) ?_
   rw [z6 hbD]
   exact hG
  ·rcases aD.mp hc with w|w
   ·exact hne c w
   ·rw [ao.mp w];exact hbD
  ·rcases aD.mp hc with w|w
   ·exact hnw c w
   ·rw [ao.mp w];exact sm.free hb0
 ·have e:i=xs.length:=by lia
  subst e
  refine .inl ⟨⟨xs,sm.seq hS,ah _⟩,fin D H' as hD sm hl ?_ hnw⟩
  rw [bA (by lia)] at hP
  exact hP
theorem ye9 {J:It}{fr:List Nat}{te:CT TE}{σ:St}{H1:Hp}{Q:Addr->Hp->Prop}{α:Type}(g:α->HO)(ys:List α){n:Nat}(hn:ys.length=n)(hz:n<=sizeLine)
  (hstop:∀H,y4 H1 H->J.stop n H) (hgo:∀i H,i<n->y4 H1 H->J.go i H)
  (turn:∀(i:Nat) H x H2 y,i<n->y4 H1 H->J.yld i H x H2->ys[i]?=some y->H2=H/\∀C₀ s₀ H₀ fp,te C₀ s₀ H₀ fp (some x::fr.map λj=>(σ[j]?).getD none) H λv H4=>y4 H H4/\∃b,v=.ref b/\H b=none/\H4 b=some (g y))
  (fin:∀D H as,H1 D=none->y4 H1 H->H D=some (.lst (as.map V.ref))->Paired (λb y=>H b=some (g y)) as ys->(∀b∈as,H1 b=none)->(∀b∈as,b≠D)->Q D H) :
  ∀D,H1 D=none->∃W:Nat->Nat->St->Hp->Prop,(∃m,W 0 m (L4 1 fr σ) (upd H1 D (.lst [])))/\∀i m σ' H',W i m σ' H' ->
  (J.stop i H'/\Q D H')∨(J.go i H'/\∀x H2,J.yld i H' x H2->∀C₀ s₀ H₀ fp,O3 0 x σ' H2 λσ3 H3=>∃N:VK,te C₀ s₀ H₀ fp σ3 H3 N/\∀y H4,N y H4 ->
   ∃ys m',H4 D=some (.lst ys)/\ys.length<sizeLine/\m'<m/\W (i+1) m' σ3 (upd H4 D (.lst (ys++[y])))):=by
 intro D hD
 refine ⟨λi m σ' H'=>m=n-i/\i<=n/\y4 H1 H'/\(∃as:List Addr,H' D=some (.lst (as.map V.ref))/\Paired (λb y=>H' b=some (g y)) as (ys.take i)/\(∀b∈as,b≠D)/\∀b∈as,H1 b=none)/\∃z,σ'=z::fr.map λj=>(σ[j]?).getD none,
  ⟨n,rfl,aR _,z7 hD _,⟨[],z4,.nil,λ_ h=>(by cases h),λ_ h=>(by cases h)⟩,none,rfl⟩,?_⟩
 rintro i m σ' H' ⟨rfl,hi,sm,⟨as,hl,hP,hne,hnw⟩,z,rfl⟩
 by_cases hlt:i<n
 ·refine .inr ⟨hgo i H' hlt sm,λx H2 yl C₀ s₀ H₀ fp=>?_⟩
  have hyi:ys[i]?=some ys[i]:=aa (by lia)
  obtain ⟨e,tn⟩:=turn i H' x H2 _ hlt sm yl hyi
  subst e
  refine ⟨_,tn C₀ s₀ H₀ fp,λv H4 ⟨s4,b,hv,hb0,hG⟩=>?_⟩
  subst hv
  have hasl:as.length=i:=by rw [Paired.length hP,bj];lia
  have hD4:=s4 _ _ hl
  have hbD:b≠D:=Ne.symm (y9 hl hb0)
  refine ⟨as.map V.ref,n-(i+1),hD4,by rw [ae,hasl];lia,by lia,rfl,hlt,λc o e=>?_,⟨as++[b],by rw [z4,aG];rfl,?_,λc hc=>?_,λc hc=>?_⟩,_,rfl⟩
  ·rw [z6 (y9 e hD)]
   exact s4 _ _ (sm _ _ e)
  ·rw [aT,hyi]
   refine Paired.snoc (O6 hP λc hc y e=>by rw [z6 (hne c hc)];exact s4 _ _ e) ?_
   rw [z6 hbD]
   exact hG
  ·rcases aD.mp hc with w|w
   ·exact hne c w
   ·rw [ao.mp w];exact hbD
  ·rcases aD.mp hc with w|w
   ·exact hnw c w
   ·rw [ao.mp w];exact sm.free hb0
 ·have e:i=n:=by lia
  subst e
  refine .inl ⟨hstop H' sm,fin D H' as hD sm hl ?_ hnw hne⟩
  rw [bA (by lia)] at hP
  exact hP
abbrev zi5 (H:Hp) (ws:List Addr) (ps:List (Nat×Nat)):Prop:=Paired (λa (x:Nat×Nat)=>H a=some (.tup [.int (x.1:Int),.int (x.2:Int)])) ws ps
theorem zi5.same {H H':Hp}{ws:List Addr}{ps:List (Nat×Nat)}(h:zi5 H ws ps)(s:y4 H H'):zi5 H' ws ps:=Paired.imp' (λ_ _ e=>s _ _ e) h
theorem zi5.upd {H:Hp}{ws:List Addr}{ps:List (Nat×Nat)}{a:Addr}{o:HO}(h:zi5 H ws ps)(ha:∀xs,H a≠some (.tup xs)):zi5 (L2.upd H a o) ws ps:=Paired.imp' (λb t e=>by
 rw [z6 (λz=>by subst z;exact ha _ e)];exact e) h
theorem X7 {α β:Type}{F:α->β->Prop}:∀{as cs:List α} {bs ds:List β},Paired F as bs->Paired F cs ds->Paired F (as++cs) (bs++ds)
 | _,_,_,_,.nil,q=>q
 | _,_,_,_,.cons f r,q=>.cons f (X7 r q)
def kR (to:List (Nat×Nat))(bs:List Addr):List (Key×V):=(to.zip bs).map λp=>(Sum.inl (p.1.1:Int),V.ref p.2)
structure c5 (cS:Addr) (n:Nat) (md:List (List Nat)) (H:Hp) (A:StA) (i:Nat) (s:StS):Prop where
 a:∃dx,H A.a=some (.ins cS dx [("place",.int i),("movers",.ref A.m),("line_to",.ref A.lt),("back_from",.ref A.bf),("waiting",.ref A.w),("looked_at",.int (s.lk:Int))])
 m:H A.m=some (.lst (tI s.mv))
 lt:H A.lt=some (.dK (kI s.to))
 bf:∃bs:List Addr,H A.bf=some (.dK (kR s.to bs))/\Paired (λ(x:Nat×Nat) b=>H b=some (.tup (tI (TM.bk n (md.getD x.2 []))))) s.to bs
 w:∃ws:List Addr,H A.w=some (.lst (ws.map V.ref))/\zi5 H ws s.wt
def zb1:List Str:=["place","movers","line_to","back_from","waiting","looked_at"]
theorem yp8 {H H':Hp}{d:Addr}{o u:HO}(hd:H d=some u)(s:y4 (upd H d o) H'):y4 H (upd H' d u):=λb v h=>by
 by_cases e:b=d
 ·subst e
  rw [z4,←hd,h]
 ·rw [z6 e]
  exact s _ _ (by rw [z6 e];exact h)
def StS.putM (s:StS)(k:Nat):StS:={ s with mv:=s.mv++[k],wt:=s.wt++s.to.map λx=>(x.1,k) }
def yh8 (cS:Addr):Sp:=λvs H Q _=>∃(A:StA) (n:Nat) (md:List (List Nat)) (i k:Nat) (s:StS),vs=[.ref A.a,.int k]/\c5 cS n md H A i s/\A.m≠A.w/\s.mv.length<1000000/\s.to.length<=1000000/\s.wt.length<=1000000 /\
 ∀H':Hp,y8 [A.m,A.w] H H'->c5 cS n md H' A i (s.putM k)->Q .non H'
theorem za6:x9 ["self","mover"] ["self","mover"] (z9 U8):=scq
theorem A4 {cS:Addr}(F:Fun K "put_mover" "Step.put_mover" U8 f fd) (B:Blt mg) (cs:g7 K cS zb1):u6 P w K mg base CX0 1 f fd ["self","mover"] (yh8 cS):=by
 refine F.ok za6 (λvs H Q E h=>?_) (λcdv Ar outer s H vs Q E hr h=>?_)
 ·obtain ⟨A,n,md,i,k,s,rfl,_⟩:=h
  rfl
 obtain ⟨A,n,md,i,k,s,rfl,⟨⟨dx,ha⟩,hm,hlt,⟨bs,hbf,hbs⟩,⟨ws,hw,hws⟩⟩,hne,hml,htl,hwl,q⟩:=h
 have hz:=X3
 have hwsl:ws.length=s.wt.length:=Paired.length hws
 refine ⟨_,y0 (l8 (J0 PySem.F.plainAttrs_list PySem.F.slot_list_append PySem.F.type_list_append X9 (w8 (pv 0) rfl) (z0 (pv 1) z5)))
  (z8 (l8 (J0 PySem.F.plainAttrs_list PySem.F.slot_list_extend PySem.F.type_list_extend zd0 (w8 (pv 0) rfl) (z0 (xd7 (Y5 [1] ["place","mover"] rfl (xd8 (w8 (pv 0) rfl)) (λ_ _ _ _=>Q1 (z0 (pv 0) (z0 (pv 1) z5))))) z5)))),?_⟩
 refine ⟨_,rfl,A.a,cS,dx,_,_,rfl,ha,cs.cls,cs.no "movers" (by decide),rfl,.inl ⟨rfl,_,SqL.of hm⟩,_,rfl,A.m,_,_,rfl,rfl,hm,by rw [v9];lia,?_⟩
 have am:A.a≠A.m:=i6 ha hm (by intro z;cases z)
 have lm:A.lt≠A.m:=i6 hlt hm (by intro z;cases z)
 have bm:A.bf≠A.m:=i6 hbf hm (by intro z;cases z)
 have nt1:∀xs,H A.m≠some (.tup xs):=λxs z=>by rw [hm] at z;cases z
 have ha1:(upd H A.m (.lst (tI s.mv++[V.int k]))) A.a=some (.ins cS dx [("place",.int i),("movers",.ref A.m),("line_to",.ref A.lt),("back_from",.ref A.bf),("waiting",.ref A.w),("looked_at",.int (s.lk:Int))]):=by rw [z6 am];exact ha
 have hm1:(upd H A.m (.lst (tI s.mv++[V.int k]))) A.m=some (.lst (tI (s.mv++[k]))):=by rw [z4,F9];rfl
 have hlt1:(upd H A.m (.lst (tI s.mv++[V.int k]))) A.lt=some (.dK (kI s.to)):=by rw [z6 lm];exact hlt
 have hbf1:(upd H A.m (.lst (tI s.mv++[V.int k]))) A.bf=some (.dK (kR s.to bs)):=by rw [z6 bm];exact hbf
 have hw1:(upd H A.m (.lst (tI s.mv++[V.int k]))) A.w=some (.lst (ws.map V.ref)):=by rw [z6 (Ne.symm hne)];exact hw
 have hws1:=zi5.upd (o:=.lst (tI s.mv++[V.int k])) hws nt1
 have hbs1:Paired (λ(x:Nat×Nat) b=>(upd H A.m (.lst (tI s.mv++[V.int k]))) b=some (.tup (tI (TM.bk n (md.getD x.2 []))))) s.to bs:=Paired.imp' (λx b e=>by rw [z6 (λz=>by subst z;exact nt1 _ e)];exact e) hbs
 have fr1:y8 [A.m,A.w] H (upd H A.m (.lst (tI s.mv++[V.int k]))):=y8.upd y8.refl (by simp) _
 generalize upd H A.m (.lst (tI s.mv++[V.int k]))=H1 at ha1 hm1 hlt1 hbf1 hw1 hws1 hbs1 fr1 ⊢
 refine ⟨_,rfl,A.a,cS,dx,_,_,rfl,ha1,cs.cls,cs.no "waiting" (by decide),rfl,.inl ⟨rfl,_,SqL.of hw1⟩,?_⟩
 refine ⟨A.lt,kI s.to,hlt1,_,rfl,A.a,cS,dx,_,_,rfl,ha1,cs.cls,cs.no "line_to" (by decide),rfl,A.lt,_,rfl,hlt1,λob=>?_⟩
 refine ye9 (λ(y:Nat×Nat)=>HO.tup [.int (y.1:Int),.int (y.2:Int)]) (s.to.map λx=>(x.1,k)) (n:=(kI s.to).length) (by rw [ae,zu3]) (by rw [zu3];lia) (λH2 s2=>⟨s2 _ _ z4,ah _⟩) (λj H2 hj s2=>⟨s2 _ _ z4,hj⟩) ?_ ?_
 ·rintro j H2 x H3 y hj s2 ⟨rfl,kk,vv,hk,rfl⟩ hy
  refine ⟨rfl,λ_ _ _ _=>?_⟩
  rw [ar] at hy
  unfold kI at hk
  rw [ar] at hk
  cases e:s.to[j]? with
  | none=>rw [e] at hk;cases hk
  | some p =>
   rw [e] at hk hy
   cases hk
   cases hy
   exact ⟨_,rfl,_,rfl,(by show 2<=sizeLine;lia),λr hr'=>⟨z7 hr' _,r,rfl,hr',z4⟩⟩
 ·intro Dl H2 as hD s2 hl2 hP hnw hnD
  have s3:=yp8 hlt1 s2
  have hDl:H1 Dl=none:=by
   cases e:H1 Dl with
   | none=>rfl
   | some u=>exact absurd hD (by rw [z6 (λz=>by subst z;rw [z4] at hD;cases hD),e];intro z;cases z)
  have dne:Dl≠A.lt:=λz=>by subst z;rw [hlt1] at hDl;cases hDl
  refine ⟨⟨ob,s2 _ _ z4⟩,?_⟩
  have hl3:(upd H2 A.lt (.dK (kI s.to))) Dl=some (.lst (as.map V.ref)):=by rw [z6 dne];exact hl2
  have hP3:zi5 (upd H2 A.lt (.dK (kI s.to))) as (s.to.map λx=>(x.1,k)):=O6 hP λb hb y e=>by
   rw [z6 (λz=>by
    have:=hnw b hb
    rw [z,z4] at this
    cases this)]
   exact e
  generalize upd H2 A.lt (.dK (kI s.to))=H3 at s3 hl3 hP3 ⊢
  refine ⟨A.w,Dl,_,_,rfl,rfl,s3 _ _ hw1,hl3,?_,?_⟩
  ·rw [ae,ae,hwsl,Paired.length hP3,ae]
   lia
  ·have wa:A.a≠A.w:=i6 ha1 hw1 (by intro z;cases z)
   have wm:A.m≠A.w:=hne
   have wl:A.lt≠A.w:=i6 hlt1 hw1 (by intro z;cases z)
   have wb:A.bf≠A.w:=i6 hbf1 hw1 (by intro z;cases z)
   have nt3:∀xs,H3 A.w≠some (.tup xs):=λxs z=>by rw [s3 _ _ hw1] at z;cases z
   refine q _ (y8.upd (y8.trans fr1 (y4.frame s3)) (by simp) _) ⟨⟨dx,by rw [z6 wa];exact s3 _ _ ha1⟩,by rw [z6 wm];exact s3 _ _ hm1,by rw [z6 wl];exact s3 _ _ hlt1,⟨bs,by rw [z6 wb];exact s3 _ _ hbf1,?_⟩,⟨ws++as,by rw [z4,aG],?_⟩⟩
   ·exact Paired.imp' (λx b e=>by
     have e':=s3 _ _ e
     rw [z6 (λz=>by subst z;exact nt3 _ e')];exact e') hbs1
   ·exact X7 ((hws1.same s3).upd nt3) (hP3.upd nt3)
def StS.putP (s:StS)(p k:Nat):StS:={ s with to:=s.to++[(p,k)],wt:=s.wt++s.mv.map λm=>(p,m) }
def yy3 (cS:Addr):Sp:=λvs H Q _=>∃(A:StA) (n:Nat) (md:List (List Nat)) (i p k:Nat) (s:StS) (tr:Addr) (t:List Nat),vs=[.ref A.a,.int p,.int k,.ref tr]/\c5 cS n md H A i s/\H tr=some (.tup (tI t))/\md.getD k []=t/\TM.IsT n t/\n<=60/\atN s.to p=none/\A.m≠A.w/\A.lt≠A.bf/\s.mv.length<1000000/\s.to.length<1000000/\s.wt.length<=1000000 /\
 ∀H':Hp,y8 [A.lt,A.bf,A.w] H H'->c5 cS n md H' A i (s.putP p k)->Q .non H'
theorem za7:x9 ["self","place","line","turning"] ["self","place","line","turning"] (z9 Y1):=scq
theorem xk6 {to:List (Nat×Nat)}{bs:List Addr}(h:to.length=bs.length):(kR to bs).length=to.length:=by
 unfold kR
 rw [ae,List.length_zip,←h,Nat.min_self]
theorem yn2:∀{to:List (Nat×Nat)} {bs:List Addr},to.length=bs.length->∀{p:Nat},atN to p=none->L5 (kR to bs) (Sum.inl (p:Int))=none
 | [],[],_,p,_=>rfl
 | x::to,b::bs,hl,p,h=>by
  have hx:¬x.1=p:=λe=>by unfold atN at h;rw [cN (by simpa using e)] at h;cases h
  have h':atN to p=none:=by unfold atN at h ⊢;rwa [cO (by simpa using hx)] at h
  have e:kR (x::to) (b::bs)=(Sum.inl (x.1:Int),V.ref b)::kR to bs:=rfl
  rw [e,T4 (λz=>hx (by have:=Sum.inl.inj z;lia))]
  exact yn2 (by simpa using hl) h'
theorem xe5 {to:List (Nat×Nat)}{bs:List Addr}{p k:Nat}{r:Addr}(hl:to.length=bs.length)(h:atN to p=none):putK (kR to bs) (Sum.inl (p:Int)) (V.ref r)=kR (to++[(p,k)]) (bs++[r]):=by
 have e:=yn2 hl h
 unfold putK
 rw [N2,e]
 show kR to bs++[(Sum.inl (p:Int),V.ref r)]=_
 unfold kR
 rw [List.zip_append hl,aG]
 rfl
theorem zw1 {α β:Type}{F:α->β->Prop}{as:List α}{bs:List β}{a:α}{b:β}(h:Paired F as bs)(f:F a b):Paired F (as++[a]) (bs++[b]):=X7 h (.cons f .nil)
theorem A5 {cS:Addr}(F:Fun K "put_place" "Step.put_place" Y1 f fd) (B:Blt mg) (cs:g7 K cS zb1) (KB:l9 P w K mg base 1 "back" ["one"] (yh7 K)):u6 P w K mg base CX0 2 f fd ["self","place","line","turning"] (yy3 cS):=by
 refine F.ok za7 (λvs H Q E h=>?_) (λcdv Ar outer sh H vs Q E hr h=>?_)
 ·obtain ⟨A,n,md,i,p,k,s,tr,t,rfl,_⟩:=h
  rfl
 obtain ⟨A,n,md,i,p,k,s,tr,t,rfl,⟨⟨dx,ha⟩,hm,hlt,⟨bs,hbf,hbs⟩,⟨ws,hw,hws⟩⟩,htr,hmd,hT,hn,hp,hne,hne2,hml,htl,hwl,q⟩:=h
 have hz:=X3
 have hwsl:ws.length=s.wt.length:=Paired.length hws
 have hbsl:s.to.length=bs.length:=Paired.length hbs
 have hu:(Ar.deeper (PyProof.Rows.envOfC "Step.put_place" (z9 Y1) sh.heap.objs.size f cdv)).units+1<cLine:=by have:=hr.units;lia
 refine ⟨_,y0 (za1 hu (w8 (pv 0) rfl) (pv 1) (pv 2) rfl)
  (y0 (za1 hu (w8 (pv 0) rfl) (pv 1) (o0 KB hr rfl (z0 (pv 3) z5)) rfl)
  (z8 (l8 (J0 PySem.F.plainAttrs_list PySem.F.slot_list_extend PySem.F.type_list_extend zd0 (w8 (pv 0) rfl) (z0 (Y5 [1] ["mover","place"] rfl (Y9 (w8 (pv 0) rfl)) (λ_ _ _ _=>Q1 (z0 (pv 1) (z0 (pv 0) z5)))) z5))))),?_⟩
 refine ⟨_,rfl,_,rfl,A.a,cS,dx,_,_,rfl,ha,cs.cls,cs.no "line_to" (by decide),rfl,_,rfl,A.lt,_,rfl,zs5.k (k:=Sum.inl (p:Int)) hlt (by rw [zu3];lia),?_⟩
 rw [zm0 hp]
 have k1:∀{b:Addr} {o:HO},H b=some o->o≠.dK (kI s.to)->(upd H A.lt (.dK (kI (s.to++[(p,k)])))) b=some o:=λ{b o} h d=>by rw [z6 (i6 h hlt d)];exact h
 have ha1:=k1 ha (by intro z;cases z)
 have hm1:=k1 hm (by intro z;cases z)
 have htr1:=k1 htr (by intro z;cases z)
 have hw1:=k1 hw (by intro z;cases z)
 have hbf1:(upd H A.lt (.dK (kI (s.to++[(p,k)])))) A.bf=some (.dK (kR s.to bs)):=by rw [z6 (Ne.symm hne2)];exact hbf
 have hlt1:(upd H A.lt (.dK (kI (s.to++[(p,k)])))) A.lt=some (.dK (kI (s.to++[(p,k)]))):=z4
 have hws1:zi5 (upd H A.lt (.dK (kI (s.to++[(p,k)])))) ws s.wt:=Paired.imp' (λx b e=>k1 e (by intro z;cases z)) hws
 have hbs1:Paired (λ(x:Nat×Nat) b=>(upd H A.lt (.dK (kI (s.to++[(p,k)])))) b=some (.tup (tI (TM.bk n (md.getD x.2 []))))) s.to bs:=Paired.imp' (λx b e=>k1 e (by intro z;cases z)) hbs
 have fr1:y8 [A.lt,A.bf,A.w] H (upd H A.lt (.dK (kI (s.to++[(p,k)])))):=y8.upd y8.refl (by simp) _
 clear k1
 generalize upd H A.lt (.dK (kI (s.to++[(p,k)])))=H1 at ha1 hm1 htr1 hw1 hbf1 hlt1 hws1 hbs1 fr1 ⊢
 refine ⟨_,rfl,tr,n,t,rfl,SqT.of htr1,hT,by lia,λr H2 b hr2 s2 hb hrr=>?_⟩
 have eb:b=TM.bk n t:=hb.uniq hT (TM.bk_back hT)
 subst eb
 have hbf2:=s2 _ _ hbf1
 refine ⟨_,rfl,A.a,cS,dx,_,_,rfl,s2 _ _ ha1,cs.cls,cs.no "back_from" (by decide),rfl,_,rfl,A.bf,_,rfl,zs5.k (k:=Sum.inl (p:Int)) hbf2 (by rw [xk6 hbsl];lia),?_⟩
 rw [xe5 (k:=k) hbsl hp]
 have k2:∀{b:Addr} {o:HO},H1 b=some o->b≠A.bf->(upd H2 A.bf (.dK (kR (s.to++[(p,k)]) (bs++[r])))) b=some o:=λ{b o} h d=>by rw [z6 d];exact s2 _ _ h
 have nbf:∀{b:Addr} {o:HO},H1 b=some o->o≠.dK (kR s.to bs)->b≠A.bf:=λ{b o} h d=>i6 h hbf1 d
 have ha3:=k2 ha1 (nbf ha1 (by intro z;cases z))
 have hm3:=k2 hm1 (nbf hm1 (by intro z;cases z))
 have hw3:=k2 hw1 (nbf hw1 (by intro z;cases z))
 have hlt3:=k2 hlt1 hne2
 have hbf3:(upd H2 A.bf (.dK (kR (s.to++[(p,k)]) (bs++[r])))) A.bf=some (.dK (kR (s.to++[(p,k)]) (bs++[r]))):=z4
 have hws3:zi5 (upd H2 A.bf (.dK (kR (s.to++[(p,k)]) (bs++[r])))) ws s.wt:=Paired.imp' (λx b e=>k2 e (nbf e (by intro z;cases z))) hws1
 have hr3:(upd H2 A.bf (.dK (kR (s.to++[(p,k)]) (bs++[r])))) r=some (.tup (tI (TM.bk n t))):=by rw [z6 (i6 hrr hbf2 (by intro z;cases z))];exact hrr
 have hbs3:Paired (λ(x:Nat×Nat) b=>(upd H2 A.bf (.dK (kR (s.to++[(p,k)]) (bs++[r])))) b=some (.tup (tI (TM.bk n (md.getD x.2 []))))) (s.to++[(p,k)]) (bs++[r]) :=
  zw1 (Paired.imp' (λx b e=>k2 e (nbf e (by intro z;cases z))) hbs1) (by show _=some (HO.tup (tI (TM.bk n (md.getD k []))));rw [hmd];exact hr3)
 have fr3:y8 [A.lt,A.bf,A.w] H (upd H2 A.bf (.dK (kR (s.to++[(p,k)]) (bs++[r])))):=y8.upd (y8.trans fr1 (y4.frame s2)) (by simp) _
 clear k2 nbf
 generalize upd H2 A.bf (.dK (kR (s.to++[(p,k)]) (bs++[r])))=H3 at ha3 hm3 hw3 hlt3 hbf3 hws3 hr3 hbs3 fr3 ⊢
 refine ⟨_,rfl,A.a,cS,dx,_,_,rfl,ha3,cs.cls,cs.no "waiting" (by decide),rfl,.inl ⟨rfl,_,SqL.of hw3⟩,?_⟩
 refine ⟨_,rfl,A.a,cS,dx,_,_,rfl,ha3,cs.cls,cs.no "movers" (by decide),rfl,A.m,rfl,⟨_,SqL.of hm3⟩,?_⟩
 refine yn6 (λ(y:Nat×Nat)=>HO.tup [.int (y.1:Int),.int (y.2:Int)]) (s.mv.map λm=>(p,m)) (SqL.of hm3) (by rw [ae,v9]) (by rw [v9];lia) ?_ ?_
 ·intro j H4 x y hx hy s4 _ _ _ _
  obtain ⟨m,hm',rfl⟩:=zb3 hx
  rw [ar,hm'] at hy
  cases hy
  exact ⟨_,rfl,_,rfl,(by show 2<=sizeLine;lia),λr' hr'=>⟨z7 hr' _,r',rfl,hr',z4⟩⟩
 ·intro Dl H4 as hD s4 hl4 hP4 hnw
  refine ⟨A.w,Dl,_,_,rfl,rfl,s4 _ _ hw3,hl4,?_,?_⟩
  ·rw [ae,ae,hwsl,Paired.length hP4,ae]
   lia
  ·have hw4:=s4 _ _ hw3
   have k4:∀{b:Addr} {o:HO},H4 b=some o->b≠A.w->(upd H4 A.w (.lst (ws.map V.ref++as.map V.ref))) b=some o:=λ{b o} h d=>by rw [z6 d];exact h
   have nw:∀{b:Addr} {o:HO},H4 b=some o->o≠.lst (ws.map V.ref)->b≠A.w:=λ{b o} h d=>i6 h hw4 d
   refine q _ (y8.upd (y8.trans fr3 (y4.frame s4)) (by simp) _) ⟨⟨dx,k4 (s4 _ _ ha3) (nw (s4 _ _ ha3) (by intro z;cases z))⟩,k4 (s4 _ _ hm3) hne,k4 (s4 _ _ hlt3) (nw (s4 _ _ hlt3) (by intro z;cases z)),⟨bs++[r],k4 (s4 _ _ hbf3) (nw (s4 _ _ hbf3) (by intro z;cases z)),Paired.imp' (λx b e=>k4 (s4 _ _ e) (nw (s4 _ _ e) (by intro z;cases z))) hbs3⟩,⟨ws++as,by rw [z4,aG],?_⟩⟩
   exact X7 (Paired.imp' (λx b e=>k4 (s4 _ _ e) (nw (s4 _ _ e) (by intro z;cases z))) hws3) (Paired.imp' (λx b e=>k4 e (nw e (by intro z;cases z))) hP4)
def yy0 (cS:Addr):Sp:=λvs H Q _=>∃(A:StA) (n:Nat) (md:List (List Nat)) (i:Nat) (s:StS),vs=[.ref A.a]/\c5 cS n md H A i s/\s.lk<=s.wt.length/\s.wt.length<=1000000 /\
 (s.lk=s.wt.length->Q .non H)/\∀(x:Nat×Nat) (r:Addr) (H':Hp),s.wt[s.lk]?=some x->H' r=some (.tup [.int (x.1:Int),.int (x.2:Int)])->y8 [A.a] H H'->c5 cS n md H' A i { s with lk:=s.lk+1 }->Q (.ref r) H'
theorem za5:x9 ["self"] ["self"] (z9 U7):=scq
theorem A3 {cS:Addr}(F:Fun K "next_pair" "Step.next_pair" U7 f fd) (B:Blt mg) (cs:g7 K cS zb1):u6 P w K mg base CX0 1 f fd ["self"] (yy0 cS):=by
 refine F.ok za5 (λvs H Q E h=>?_) (λcdv Ar outer s H vs Q E hr h=>?_)
 ·obtain ⟨A,n,md,i,s,rfl,_⟩:=h
  rfl
 obtain ⟨A,n,md,i,s,rfl,st,hlk,hwl,q1,q2⟩:=h
 obtain ⟨⟨dx,ha⟩,hm,hlt,⟨bs,hbf,hbs⟩,⟨ws,hw,hws⟩⟩:=id st
 have hz:=X3
 have hwsl:ws.length=s.wt.length:=Paired.length hws
 refine ⟨_,y0 (n6 (p7 O5 (w8 (pv 0) rfl) (v8 q9 rfl B.len X4 (z0 (w8 (pv 0) rfl) z5)) (o7 _)) (z8 (v1 yg8)) u0)
  (y0 (yp4 (pv 0) y6 xc0)
  (z8 (v1 (i4 p5 (w8 (pv 0) rfl) (u9 zl3 (w8 (pv 0) rfl) y6) (λ_ _=>rfl))))),?_⟩
 refine ⟨_,rfl,A.a,cS,dx,_,_,rfl,ha,cs.cls,cs.no "looked_at" (by decide),rfl,_,rfl,A.a,cS,dx,_,_,rfl,ha,cs.cls,cs.no "waiting" (by decide),rfl,A.w,_,rfl,.inl (SqL.of hw),rfl,_,rfl,xc2 (λc=>?_) (λc=>?_)⟩
 ·rw [Z0,ae,hwsl] at c
  exact q1 (by have:=of_decide_eq_true c;lia)
 ·rw [Z0,ae,hwsl] at c
  have hlt':s.lk<s.wt.length:=by have:=of_decide_eq_false (cz.mpr c);lia
  refine ⟨_,rfl,A.a,cS,dx,_,_,rfl,ha,cs.cls,cs.no "looked_at" (by decide),rfl,_,_,rfl,rfl,dx,_,ha,(by show 6<1000;decide),?_⟩
  have e1:(upd H A.a (.ins cS dx (Y0 "looked_at" (V.int ((s.lk:Int)+1)) [("place",.int i),("movers",.ref A.m),("line_to",.ref A.lt),("back_from",.ref A.bf),("waiting",.ref A.w),("looked_at",.int (s.lk:Int))]))) A.a=some (.ins cS dx [("place",.int i),("movers",.ref A.m),("line_to",.ref A.lt),("back_from",.ref A.bf),("waiting",.ref A.w),("looked_at",.int ((s.lk+1:Nat):Int))]):=by
   rw [z4,show ((s.lk+1:Nat):Int)=(s.lk:Int)+1 by lia]
   rfl
  have fr:y8 [A.a] H (upd H A.a (.ins cS dx (Y0 "looked_at" (V.int ((s.lk:Int)+1)) [("place",.int i),("movers",.ref A.m),("line_to",.ref A.lt),("back_from",.ref A.bf),("waiting",.ref A.w),("looked_at",.int (s.lk:Int))]))):=y8.upd y8.refl (by simp) _
  generalize upd H A.a (.ins cS dx (Y0 "looked_at" (V.int ((s.lk:Int)+1)) [("place",.int i),("movers",.ref A.m),("line_to",.ref A.lt),("back_from",.ref A.bf),("waiting",.ref A.w),("looked_at",.int (s.lk:Int))]))=H1 at e1 fr ⊢
  have k:∀{b:Addr} {o:HO},H b=some o->o≠.ins cS dx [("place",.int i),("movers",.ref A.m),("line_to",.ref A.lt),("back_from",.ref A.bf),("waiting",.ref A.w),("looked_at",.int (s.lk:Int))]->H1 b=some o:=λ{b o} h d=>fr b o (by simpa using i6 h ha d) h
  have hx:s.wt[s.lk]?=some s.wt[s.lk]:=aa hlt'
  obtain ⟨r,hr1,hr2⟩:=U0 hws s.lk _ hx
  have hw1:=k hw (by intro z;cases z)
  have gi:atI (ws.map V.ref) ((s.lk:Nat):Int)=some (V.ref r):=k8 (by rw [ar,hr1];rfl)
  refine ⟨_,rfl,A.a,cS,dx,_,_,rfl,e1,cs.cls,cs.no "waiting" (by decide),rfl,_,rfl,A.a,cS,dx,_,_,rfl,e1,cs.cls,cs.no "looked_at" (by decide),rfl,_,_,rfl,rfl,A.w,_,_,_,rfl,rfl,SqL.of hw1,?_,q2 _ r H1 hx (k hr2 (by intro z;cases z)) fr ⟨⟨dx,e1⟩,k hm (by intro z;cases z),k hlt (by intro z;cases z),⟨bs,k hbf (by intro z;cases z),Paired.imp' (λx b e=>k e (by intro z;cases z)) hbs⟩,⟨ws,hw1,Paired.imp' (λx b e=>k e (by intro z;cases z)) hws⟩⟩⟩
  rw [show ((s.lk+1:Nat):Int)-1=((s.lk:Nat):Int) by lia]
  exact gi
structure u8 (cC cB cS:Addr) (n:Nat) (H:Hp) (A:ChA) (S:ChS):Prop where
 nd:A.all.Nodup
 c:∃dx,H A.c=some (.ins cC dx [("book",.ref A.b),("steps",.ref A.l)])
 bk:V7 cB H A S
 l:H A.l=some (.lst (A.st.map λs=>V.ref s.a))
 len:A.st.length=n/\S.st.length=n
 st:∀i a s,A.st[i]?=some a->S.st[i]?=some s->c5 cS n S.md H a i s
def K3:List Str:=["book","steps"]
theorem c5.same {cS:Addr}{n:Nat}{md:List (List Nat)}{H H':Hp}{A:StA}{i:Nat}{s:StS}(h:c5 cS n md H A i s)(k:y4 H H'):c5 cS n md H' A i s :=
 ⟨h.a.imp λ_ e=>k _ _ e,k _ _ h.m,k _ _ h.lt,h.bf.imp λ_ e=>⟨k _ _ e.1,Paired.imp' (λ_ _ z=>k _ _ z) e.2⟩,h.w.imp λ_ e=>⟨k _ _ e.1,e.2.same k⟩⟩
theorem u8.same {cC cB cS:Addr}{n:Nat}{H H':Hp}{A:ChA}{S:ChS}(h:u8 cC cB cS n H A S)(k:y4 H H'):u8 cC cB cS n H' A S :=
 ⟨h.nd,h.c.imp λ_ e=>k _ _ e,h.bk.same k,k _ _ h.l,h.len,λi a s ha hs=>(h.st i a s ha hs).same k⟩
def N1 (n:Nat)(md:List (List Nat)):List StS->Nat->List Nat->List Nat->Option (List Nat)
 | [],_,_,acc=>some acc
 | s::r,j,x,acc=>match atN s.to (x.getD j 0) with
  | none=>none
  | some k=>if x.getD j 0=j then N1 n md r (j+1) x acc else N1 n md r (j+1) (TM.beh x (TM.bk n (md.getD k []))) (acc++[k])
structure ChS.Well (n:Nat) (S:ChS):Prop where
 md:∀t∈S.md,TM.IsT n t
 to:∀s∈S.st,∀x∈s.to,x.1<n/\x.2<S.md.length
 mv:∀s∈S.st,∀k∈s.mv,k<S.md.length
theorem R0 {α:Type}{l:List (Nat×α)}{p:Nat}{k:α}(h:atN l p=some k):(p,k)∈l:=by
 unfold atN at h
 cases e:l.find? (λx=>decide (x.1=p)) with
 | none=>rw [e] at h;cases h
 | some x =>
  rw [e] at h
  have h1:=List.find?_some e
  have h2:=List.mem_of_find?_eq_some e
  have e1:x.1=p:=by simpa using h1
  have e2:x.2=k:=by simpa using h
  rw [←e1,←e2]
  exact h2
theorem ChS.Well.at {n:Nat}{S:ChS}(h:S.Well n){k:Nat}(hk:k<S.md.length):TM.IsT n (S.md.getD k []):=h.md _ (au (R4 [] hk))
theorem L6 {F:Nat×Nat->Addr->Prop}:∀{to:List (Nat×Nat)} {bs:List Addr},Paired F to bs->∀{p k:Nat},atN to p=some k->∃b,L5 (kR to bs) (Sum.inl (p:Int))=some (V.ref b)/\F (p,k) b
 | _,_,.nil,p,k,h=>by cases h
 | x::to,b::bs,.cons f r,p,k,h=>by
  by_cases hx:x.1=p
  ·have e:atN (x::to) p=some x.2:=by unfold atN;rw [cN (by simpa using hx)];rfl
   rw [e] at h
   have hk:x.2=k:=Option.some.inj h
   refine ⟨b,N3 (p:=(Sum.inl (x.1:Int),V.ref b)) (by show (Sum.inl (x.1:Int):Key)=_;rw [hx]),?_⟩
   rw [←hx,←hk]
   exact f
  ·have e:atN (x::to) p=atN to p:=by unfold atN;rw [cO (by simpa using hx)]
   rw [e] at h
   obtain ⟨b',h1,h2⟩:=L6 r h
   refine ⟨b',?_,h2⟩
   rw [←h1]
   exact T4 (p:=(Sum.inl (x.1:Int),V.ref b)) λz=>hx (by have:=Sum.inl.inj z;lia)
def yh9 (cC cB cS:Addr):Sp:=λvs H Q _=>∃(A:ChA) (S:ChS) (n lv:Nat) (tr:Addr) (x:List Nat),vs=[.ref A.c,.ref tr,.int lv]/\u8 cC cB cS n H A S/\S.Well n/\H tr=some (.tup (tI x))/\TM.IsT n x/\lv<=n/\n<=60 /\
 (N1 n S.md (S.st.drop lv) lv x []=none->∀H':Hp,y4 H H'->Q .non H')/\∀(ls:List Nat) (r:Addr) (H':Hp),N1 n S.md (S.st.drop lv) lv x []=some ls->H r=none->y4 H H'->H' r=some (.lst (tI ls))->Q (.ref r) H'
theorem h8:x9 ["self","turning","level","lines","here","step","to"] ["self","turning","level"] (z9 V0):=scq
theorem ys0 {xs:List V}{k:Nat}(hk:k<=xs.length):O2 xs (some (k:Int)) none=xs.drop k:=by
 unfold O2
 rw [HT.sIx_none,HT.sIx_nat,dE hk,bA (by rw [bU];exact ah _)]
theorem zg2 {cC cB cS:Addr}(F:Fun K "sifted" "Chain.sifted" V0 f fd) (B:Blt mg) (cc:g7 K cC K3) (cs:g7 K cS zb1) (KB:l9 P w K mg base 1 "behind" ["one","other"] (J9 K)):u6 P w K mg base CX0 2 f fd ["self","turning","level"] (yh9 cC cB cS):=by
 refine F.ok h8 (λvs H Q E h=>?_) (λcdv Ar outer sh H vs Q E hr h=>?_)
 ·obtain ⟨A,S,n,lv,tr,x,rfl,_⟩:=h
  rfl
 obtain ⟨A,S,n,lv,tr,x,rfl,ch,wl,htr,hx,hlv,hn,q1,q2⟩:=h
 have hz:=X3
 have hu:(Ar.deeper (PyProof.Rows.envOfC "Chain.sifted" (z9 V0) sh.heap.objs.size f cdv)).units+1<cLine:=by have:=hr.units;lia
 obtain ⟨dx,hc⟩:=ch.c
 refine ⟨_,y0 (u5 (i:=3) h8.nd rfl (Or.inl rfl) (l7 z5))
  (y0 (u5 (i:=4) h8.nd rfl (Or.inl rfl) (pv 1))
  (y0 (U1 PassesOwn.never rfl (Y9 (T2 P0 (w8 (pv 0) rfl) (W6 (pv 2)) za0)) (l5 (i:=5) h8.nd rfl (Or.inl rfl))
   (y0 (u5 (i:=6) h8.nd rfl (Or.inl rfl) (i4 zc6 (pv 4) (w8 (pv 5) rfl) (λ_ _=>rfl)))
   (y0 (n6 (zl9 (F0 hu (pv 6) (w8 (pv 5) rfl))) (z8 (v1 yg8)) u0)
   (z8 (n6 (p7 yl0 (pv 6) (w8 (pv 5) rfl) (o7 _))
    (y0 (l8 (J0 PySem.F.plainAttrs_list PySem.F.slot_list_append PySem.F.type_list_append X9 (pv 3) (z0 (Q9 hu (w8 (pv 5) rfl) (pv 6) (λ_ _=>rfl)) z5)))
    (z8 (u5 (i:=4) h8.nd rfl (Or.inl rfl) (o0 KB hr rfl (z0 (pv 4) (z0 (Q9 hu (w8 (pv 5) rfl) (pv 6) (λ_ _=>rfl)) z5)))))) u0)))))
  (z8 (v1 (pv 3))))),?_⟩
 refine ⟨(by show 0<=sizeLine;lia),λl hl=>?_⟩
 have s0:=z7 hl (.lst [])
 have el:(upd H l (.lst [])) l=some (.lst (tI [])):=z4
 generalize upd H l (.lst [])=H1 at s0 el ⊢
 have hstl:(A.st.map λs=>V.ref s.a).length=n:=by rw [ae];exact ch.len.1
 refine ⟨_,rfl,_,rfl,A.c,cC,dx,_,_,rfl,s0 _ _ hc,cc.cls,cc.no "steps" (by decide),rfl,_,rfl,_,rfl,A.l,_,rfl,SqL.of (s0 _ _ ch.l),λp hp=>?_⟩
 rw [ys0 (by rw [hstl];exact hlv)]
 have s1:=s0.trans (z7 hp (.lst ((A.st.map λs=>V.ref s.a).drop lv)))
 have ep:(upd H1 p (.lst ((A.st.map λs=>V.ref s.a).drop lv))) p=some (.lst ((A.st.map λs=>V.ref s.a).drop lv)):=z4
 have el1:=z7 hp (.lst ((A.st.map λs=>V.ref s.a).drop lv)) _ _ el
 generalize upd H1 p (.lst ((A.st.map λs=>V.ref s.a).drop lv))=H2 at s1 ep el1 ⊢
 have hpl:p≠l:=λz=>by
  subst z
  rw [el] at hp
  cases hp
 have hplace:∀j,j<n->∃a s,A.st[j]?=some a/\S.st[j]?=some s:=λj hj=>⟨_,_,aa (by rw [ch.len.1];exact hj),aa (by rw [ch.len.2];exact hj)⟩
 refine ⟨p,rfl,⟨_,SqL.of ep⟩,T1 (xs:=(A.st.map λs=>V.ref s.a).drop lv) (λi σ Hh=>∃(ls:List Nat) (ha:Addr) (y:List Nat) (v5 v6:Option V),σ=[some (.ref A.c),some (.ref tr),some (.int lv),some (.ref l),some (.ref ha),v5,v6]/\y4 H Hh/\Hh p=some (.lst ((A.st.map λs=>V.ref s.a).drop lv))/\Hh l=some (.lst (tI ls))/\Hh ha=some (.tup (tI y))/\TM.IsT n y/\N1 n S.md (S.st.drop (lv+i)) (lv+i) y ls=N1 n S.md (S.st.drop lv) lv x []/\ls.length<=i)
  ⟨[],tr,x,none,none,rfl,s1,ep,el1,s1 _ _ htr,hx,rfl,ah _⟩ (λi σ Hh _ ⟨_,_,_,_,_,_,_,hpp,_⟩=>SqL.of hpp) ?_ ?_⟩
 ·rintro i v σ Hh hv ⟨ls,ha,y,v5,v6,rfl,ss,hpp,hll,hha,hy,hsf,hls⟩
  rw [dw,ar] at hv
  have hj:lv+i<n:=by
   cases e:A.st[lv+i]? with
   | none=>rw [e] at hv;cases hv
   | some a=>have:=(ag.mp e).1;rwa [ch.len.1] at this
  obtain ⟨a,s,hA,hs⟩:=hplace (lv+i) hj
  rw [hA] at hv
  cases hv
  have st:=(ch.st _ _ _ hA hs).same ss
  obtain ⟨dxs,hsa⟩:=st.a
  obtain ⟨bs,hbf,hbs⟩:=st.bf
  have hsm:s∈S.st:=au hs
  have hdrop:S.st.drop (lv+i)=s::S.st.drop (lv+i+1):=by
   have:=cn (l:=S.st) (i:=lv+i) (by rw [ch.len.2];exact hj)
   rw [this]
   congr 1
   exact Option.some.inj ((aa (by rw [ch.len.2];exact hj)).symm.trans hs)
  rw [hdrop,N1] at hsf
  refine ⟨_,rfl,_,rfl,a.a,cS,dxs,_,_,rfl,hsa,cs.cls,cs.no "place" (by decide),rfl,ha,_,_,_,rfl,rfl,SqT.of hha,yn0 (hy.get_step hj),?_⟩
  refine ⟨_,rfl,_,rfl,a.a,cS,dxs,_,_,rfl,hsa,cs.cls,cs.no "line_to" (by decide),rfl,a.lt,_,rfl,V5.k (k:=Sum.inl ((y.getD (lv+i) 0:Nat):Int)) st.lt,_,rfl,?_⟩
  rw [R8]
  cases ea:atN s.to (y.getD (lv+i) 0) with
  | none =>
   rw [ea] at hsf
   refine i7 ?_
   exact q1 hsf.symm Hh ss
  | some k =>
   rw [ea] at hsf
   dsimp only at hsf
   refine m9 ?_
   have hk:k<S.md.length:=(wl.to s hsm _ (R0 ea)).2
   have hkT:=wl.at hk
   refine ⟨_,rfl,_,rfl,a.a,cS,dxs,_,_,rfl,hsa,cs.cls,cs.no "place" (by decide),rfl,rfl,_,rfl,?_⟩
   rw [Z0]
   by_cases hto:y.getD (lv+i) 0=lv+i
   ·rw [decide_eq_true (by rw [hto])]
    rw [if_pos hto] at hsf
    exact m9 ⟨ls,ha,y,_,_,rfl,ss,hpp,hll,hha,hy,hsf,by lia⟩
   ·rw [decide_eq_false (by lia)]
    rw [if_neg hto] at hsf
    refine i7 ?_
    have g1:V5 Hh a.lt (kV (Sum.inl ((y.getD (lv+i) 0:Nat):Int))) (some (V.int k)):=by
     have g:=V5.k (k:=Sum.inl ((y.getD (lv+i) 0:Nat):Int)) st.lt
     rwa [R8,ea] at g
    refine ⟨_,rfl,.inl ⟨rfl,_,SqL.of hll⟩,_,rfl,a.a,cS,dxs,_,_,rfl,hsa,cs.cls,cs.no "line_to" (by decide),rfl,_,rfl,a.lt,_,rfl,g1,l,_,_,rfl,rfl,hll,by rw [v9];lia,?_⟩
    have kk:∀{b:Addr} {o:HO},H b=some o->(upd Hh l (.lst (tI ls++[V.int k]))) b=some o:=λ{b o} h=>by rw [z6 (y9 h hl)];exact ss _ _ h
    have ss2:y4 H (upd Hh l (.lst (tI ls++[V.int k]))):=λb o h=>kk h
    have hll2:(upd Hh l (.lst (tI ls++[V.int k]))) l=some (.lst (tI (ls++[k]))):=by rw [z4,F9];rfl
    have hpp2:(upd Hh l (.lst (tI ls++[V.int k]))) p=some (.lst ((A.st.map λs=>V.ref s.a).drop lv)):=by rw [z6 hpl];exact hpp
    have hha2:(upd Hh l (.lst (tI ls++[V.int k]))) ha=some (.tup (tI y)):=by rw [z6 (i6 hha hll (by intro z;cases z))];exact hha
    generalize upd Hh l (.lst (tI ls++[V.int k]))=H4 at ss2 hll2 hpp2 hha2 ⊢
    have st2:=(ch.st _ _ _ hA hs).same ss2
    obtain ⟨dxs2,hsa2⟩:=st2.a
    obtain ⟨bs2,hbf2,hbs2⟩:=st2.bf
    obtain ⟨bb,hv2,hbb⟩:=L6 hbs2 ea
    have g2:V5 H4 a.bf (kV (Sum.inl ((y.getD (lv+i) 0:Nat):Int))) (some (V.ref bb)):=by
     have g:=V5.k (k:=Sum.inl ((y.getD (lv+i) 0:Nat):Int)) hbf2
     rwa [hv2] at g
    refine ⟨_,rfl,_,rfl,a.a,cS,dxs2,_,_,rfl,hsa2,cs.cls,cs.no "back_from" (by decide),rfl,_,rfl,a.bf,_,rfl,g2,ha,bb,y,_,rfl,SqT.of hha2,SqT.of hbb,by rw [hy.length];lia,λz hz'=>by rw [hkT.bk.length];exact hy.lt hz',λr H5 hr5 s5 hrr=>?_⟩
    exact ⟨ls++[k],r,_,_,_,rfl,ss2.trans s5,s5 _ _ hpp2,s5 _ _ hll2,hrr,hy.beh hkT.bk,hsf,by rw [af,bD];lia⟩
 ·rintro σ Hh ⟨ls,ha,y,v5,v6,rfl,ss,hpp,hll,hha,hy,hsf,hls⟩
  rw [bU,hstl,show lv+(n-lv)=n by lia,cQ (by rw [ch.len.2];exact ah _),N1] at hsf
  exact ⟨_,rfl,q2 ls l Hh hsf.symm hl ss hll⟩
def zx9 (cC cB cS:Addr):Sp:=λvs H Q _=>∃(A:ChA) (S:ChS) (n lv:Nat) (tr:Addr) (x:List Nat),vs=[.ref A.c,.ref tr,.int lv]/\u8 cC cB cS n H A S/\S.Well n/\H tr=some (.tup (tI x))/\TM.IsT n x/\lv<=n/\n<=60 /\
 ∀H':Hp,y4 H H'->Q (.bl (N1 n S.md (S.st.drop lv) lv x []).isSome) H'
theorem zm4:x9 ["self","turning","level"] ["self","turning","level"] (z9 P6):=scq
theorem zk8 {cC cB cS:Addr}(F:Fun K "holds" "Chain.holds" P6 f fd) (B:Blt mg) (cc:g7 K cC K3) (MS:Q0 P w K mg base 2 cC "sifted" ["self","turning","level"] (yh9 cC cB cS)):u6 P w K mg base CX0 3 f fd ["self","turning","level"] (zx9 cC cB cS):=by
 refine F.ok zm4 (λvs H Q E h=>?_) (λcdv Ar outer sh H vs Q E hr h=>?_)
 ·obtain ⟨A,S,n,lv,tr,x,rfl,_⟩:=h
  rfl
 obtain ⟨A,S,n,lv,tr,x,rfl,ch,wl,htr,hx,hlv,hn,q⟩:=h
 obtain ⟨dx,hc⟩:=ch.c
 refine ⟨_,z8 (v1 (A6 xd5 (S8 cc.cls MS hr (pv 0) (z0 (pv 1) (z0 (pv 2) z5))) yg8 (o7 _))),?_⟩
 refine ⟨_,rfl,A.c,dx,_,rfl,hc,rfl,_,rfl,_,rfl,A,S,n,lv,tr,x,rfl,ch,wl,htr,hx,hlv,hn,λe H' s'=>⟨rfl,?_⟩,λls r H' e hr' s' hrr=>⟨rfl,?_⟩⟩
 ·have:=q H' s'
  rw [e] at this
  exact this
 ·have:=q H' s'
  rw [e] at this
  exact this
theorem ChA.head_ne {A:ChA}(h:A.all.Nodup){i:Nat}{a:StA}(ha:A.st[i]?=some a){x y:Addr}(hx:x∈[A.c,A.b,A.ll,A.lm,A.d,A.l])(hy:y∈a.all):x≠y:=by
 unfold ChA.all at h
 exact (bo.mp h).2.2 x hx y (aF.mpr ⟨a.all,av.mpr ⟨a,au ha,rfl⟩,hy⟩)
theorem ChA.step_nd {A:ChA}(h:A.all.Nodup){i:Nat}{a:StA}(ha:A.st[i]?=some a):a.all.Nodup:=by
 unfold ChA.all at h
 exact (List.pairwise_flatten.mp (bo.mp h).2.1).1 a.all (av.mpr ⟨a,au ha,rfl⟩)
theorem ChA.step_ne {A:ChA}(h:A.all.Nodup){i j:Nat}{a b:StA}(ha:A.st[i]?=some a)(hb:A.st[j]?=some b)(hij:i≠j){x y:Addr}(hx:x∈a.all)(hy:y∈b.all):x≠y:=by
 unfold ChA.all at h
 have p:=(List.pairwise_flatten.mp (bo.mp h).2.1).2
 have hai:(A.st.map StA.all)[i]?=some a.all:=by rw [ar,ha];rfl
 have hbj:(A.st.map StA.all)[j]?=some b.all:=by rw [ar,hb];rfl
 obtain ⟨li,ei⟩:=ag.mp hai
 obtain ⟨lj,ej⟩:=ag.mp hbj
 rcases Nat.lt_or_gt_of_ne hij with q|q
 ·have r:=bI.mp p i j li lj q
  rw [ei,ej] at r
  exact r x hx y hy
 ·have r:=bI.mp p j i lj li q
  rw [ei,ej] at r
  exact Ne.symm (r y hy x hx)
theorem ChA.head_nd {A:ChA}(h:A.all.Nodup):[A.c,A.b,A.ll,A.lm,A.d,A.l].Nodup:=by
 unfold ChA.all at h
 exact (bo.mp h).1
theorem c5.frame {cS:Addr}{n:Nat}{md:List (List Nat)}{F:List Addr}{H H':Hp}{a:StA}{i:Nat}{s:StS}(h:c5 cS n md H a i s)(fr:y8 F H H')(hF:∀x∈F,x∉a.all/\∀xs,H x≠some (.tup xs)):c5 cS n md H' a i s:=by
 have k:∀{b:Addr} {o:HO},H b=some o->b∈a.all->H' b=some o:=λ{b o} e hb=>fr b o (λz=>(hF b z).1 hb) e
 have kt:∀{b:Addr} {xs:List V},H b=some (.tup xs)->H' b=some (.tup xs):=λ{b xs} e=>fr b _ (λz=>(hF b z).2 xs e) e
 exact ⟨h.a.imp λ_ e=>k e (by simp [StA.all]),k h.m (by simp [StA.all]),k h.lt (by simp [StA.all]),h.bf.imp λ_ e=>⟨k e.1 (by simp [StA.all]),Paired.imp' (λ_ _ z=>kt z) e.2⟩,h.w.imp λ_ e=>⟨k e.1 (by simp [StA.all]),Paired.imp' (λ_ _ z=>kt z) e.2⟩⟩
theorem c5.more {cS:Addr}{n:Nat}{md md':List (List Nat)}{H:Hp}{a:StA}{i:Nat}{s:StS}(h:c5 cS n md H a i s)(hm:∀x∈s.to,md'.getD x.2 []=md.getD x.2 []):c5 cS n md' H a i s:=by
 obtain ⟨ha,hm',hlt,⟨bs,hbf,hbs⟩,hw⟩:=h
 refine ⟨ha,hm',hlt,⟨bs,hbf,?_⟩,hw⟩
 have all:∀{to:List (Nat×Nat)} {bs:List Addr},(∀x∈to,md'.getD x.2 []=md.getD x.2 [])->Paired (λ(x:Nat×Nat) b=>H b=some (.tup (tI (TM.bk n (md.getD x.2 []))))) to bs->Paired (λ(x:Nat×Nat) b=>H b=some (.tup (tI (TM.bk n (md'.getD x.2 []))))) to bs:=by
  intro to bs hx p
  induction p with
  | nil=>exact .nil
  | cons f _ ih=>exact .cons (by rw [hx _ ay];exact f) (ih λx h=>hx x (aw _ h))
 exact all hm hbs
theorem u8.book {cC cB cS:Addr}{n:Nat}{H H':Hp}{A:ChA}{S S':ChS}(h:u8 cC cB cS n H A S)(fr:y8 [A.ll,A.lm,A.d] H H')(bk:V7 cB H' A S')(hst:S'.st=S.st)(hmd:∀s∈S.st,∀x∈s.to,S'.md.getD x.2 []=S.md.getD x.2 []):u8 cC cB cS n H' A S':=by
 obtain ⟨las,hll,_⟩:=h.bk.ll
 obtain ⟨mas,hlm,_⟩:=h.bk.lm
 have hd:=h.bk.d
 obtain ⟨dx,hc⟩:=h.c
 have nd:=ChA.head_nd h.nd
 simp only [aZ,aq,aV,not_or,or_false] at nd
 have nt:∀x∈[A.ll,A.lm,A.d],∀xs,H x≠some (.tup xs):=λx hx xs z=>by
  rcases aq.mp hx with e|hx
  ·rw [e,hll] at z;cases z
  ·rcases aq.mp hx with e|hx
   ·rw [e,hlm] at z;cases z
   ·rw [ao.mp hx,hd] at z;cases z
 refine ⟨h.nd,⟨dx,fr _ _ (λz=>by
   rcases aq.mp z with e|z
   ·exact i6 hc hll (by intro q;cases q) e
   ·rcases aq.mp z with e|z
    ·exact i6 hc hlm (by intro q;cases q) e
    ·exact i6 hc hd (by intro q;cases q) (ao.mp z)) hc⟩,bk,fr _ _ ?_ h.l,⟨h.len.1,by rw [hst];exact h.len.2⟩,λi a s ha hs=>?_⟩
 ·intro z
  rcases aq.mp z with e|z
  ·exact nd.2.2.1.2.2 e.symm
  ·rcases aq.mp z with e|z
   ·exact nd.2.2.2.1.2 e.symm
   ·exact nd.2.2.2.2.1 (ao.mp z).symm
 ·rw [hst] at hs
  refine ((h.st i a s ha hs).more (hmd s (au hs))).frame fr λx hx=>⟨λhy=>?_,nt x hx⟩
  refine ChA.head_ne h.nd ha (x:=x) (y:=x) ?_ hy rfl
  simp at hx ⊢
  rcases hx with e|e|e <;> simp [e]
theorem u8.step {cC cB cS:Addr}{n:Nat}{H H':Hp}{A:ChA}{S:ChS}{F:List Addr}{j:Nat}{aj:StA}{s':StS}(h:u8 cC cB cS n H A S)(ha:A.st[j]?=some aj)(hF:∀x∈F,x∈aj.all/\∀xs,H x≠some (.tup xs))(fr:y8 F H H')(st:c5 cS n S.md H' aj j s'):u8 cC cB cS n H' A { S with st:=S.st.set j s' }:=by
 have kh:∀{b:Addr} {o:HO},H b=some o->b∈[A.c,A.b,A.ll,A.lm,A.d,A.l]->H' b=some o:=λ{b o} e hb=>fr b o (λz=>ChA.head_ne h.nd ha hb (hF b z).1 rfl) e
 have kt:∀{b:Addr} {xs:List V},H b=some (.tup xs)->H' b=some (.tup xs):=λ{b xs} e=>fr b _ (λz=>(hF b z).2 xs e) e
 obtain ⟨dx,hc⟩:=h.c
 refine ⟨h.nd,⟨dx,kh hc (by simp)⟩,⟨h.bk.b.imp λ_ e=>kh e (by simp),h.bk.ll.imp λ_ e=>⟨kh e.1 (by simp),Paired.imp' (λ_ _ z=>kt z) e.2⟩,h.bk.lm.imp λ_ e=>⟨kh e.1 (by simp),Paired.imp' (λ_ _ z=>kt z) e.2⟩,kh h.bk.d (by simp),h.bk.len⟩,kh h.l (by simp),⟨h.len.1,by show (S.st.set j s').length=n;rw [bL];exact h.len.2⟩,λi a s hi hs=>?_⟩
 have hs:(S.st.set j s')[i]?=some s:=hs
 by_cases e:i=j
 ·subst e
  rw [ha] at hi
  cases hi
  rw [ci (by rw [h.len.2,←h.len.1];exact (ag.mp ha).1)] at hs
  cases hs
  exact st
 ·rw [bO (Ne.symm e)] at hs
  exact (h.st i a s hi hs).frame fr λx hx=>⟨λhy=>ChA.step_ne h.nd hi ha e hy (hF x hx).1 rfl,(hF x hx).2⟩
structure ChS.Fine (n:Nat) (S:ChS):Prop where
 wl:S.Well n
 md0:S.md.getD 0 []=List.range n
 pos:0<S.md.length
 lnl:S.ln.length=S.md.length
def ChS.atS (S:ChS)(j:Nat):StS:=S.st.getD j ⟨[],[],[],0⟩
def ChS.found (n:Nat)(S:ChS)(j p m:Nat):ChS×Bool :=
 let s:=S.atS j
 let k:=(atN s.to p).getD 0
 let t:=TM.beh (S.md.getD k []) (S.md.getD m [])
 match atN s.to (t.getD j 0) with
 | none=>({ (S.putB k m).2 with st:=S.st.set j (s.putP (t.getD j 0) (S.putB k m).1) },false)
 | some k2=>if (N1 n S.md (S.st.drop (j+1)) (j+1) (TM.beh t (TM.bk n (S.md.getD k2 []))) []).isSome then (S,false)
  else
   let S1:=(S.putB k m).2
   let S2:=(S1.putK n k2).2
   let S3:=(S2.putB (S.putB k m).1 (S1.putK n k2).1).2
   ({ S3 with st:=S.st.set (j+1) ((S.atS (j+1)).putM (S2.putB (S.putB k m).1 (S1.putK n k2).1).1) },true)
structure P2 (n:Nat) (S S':ChS) (k:Nat) (t:List Nat):Prop where
 st:S'.st=S.st
 md:∃l,S'.md=S.md++l
 fine:S'.Fine n
 lt:k<S'.md.length
 at':S'.md.getD k []=t
 len:S'.ln.length<=S.ln.length+1
theorem i8 {α:Type}{l m:List α}{i:Nat}{d:α}(h:i<l.length):(l++m).getD i d=l.getD i d:=by
 rw [ax,ax,aS h]
theorem ChS.Fine.put {n:Nat}{S:ChS}(f:S.Fine n){l:TM.Ln}{t:List Nat}(ht:TM.IsT n t):P2 n S (S.put l t) S.ln.length t:=by
 have el:(S.put l t).md=S.md++[t]:=rfl
 refine ⟨rfl,⟨[t],rfl⟩,⟨⟨λx hx=>?_,λs hs x hx=>?_,λs hs k hk=>?_⟩,?_,?_,?_⟩,?_,?_,?_⟩
 ·rw [el] at hx
  rcases aD.mp hx with h|h
  ·exact f.wl.md x h
  ·rw [ao.mp h];exact ht
 ·have:=f.wl.to s hs x hx
  rw [el,af]
  exact ⟨this.1,by lia⟩
 ·have:=f.wl.mv s hs k hk
  rw [el,af]
  lia
 ·rw [el,i8 f.pos];exact f.md0
 ·rw [el,af];have:=f.pos;lia
 ·show (S.ln++[l]).length=(S.md++[t]).length
  rw [af,af,f.lnl]
  rfl
 ·rw [el,af,f.lnl]
  show S.md.length<S.md.length+1
  lia
 ·rw [el,f.lnl,ax,aU (ah _),cU]
  rfl
 ·show (S.ln++[l]).length<=_
  rw [af]
  exact ah _
theorem P2.refl {n:Nat}{S:ChS}(f:S.Fine n){k:Nat}(hk:k<S.md.length):P2 n S S k (S.md.getD k []):=⟨rfl,⟨[],(bu _).symm⟩,f,hk,rfl,bX _⟩
theorem ChS.Fine.putB {n:Nat}{S:ChS}(f:S.Fine n){i j:Nat}(hi:i<S.md.length)(hj:j<S.md.length):P2 n S (S.putB i j).2 (S.putB i j).1 (TM.beh (S.md.getD i []) (S.md.getD j [])):=by
 have ti:=f.wl.at hi
 have tj:=f.wl.at hj
 unfold ChS.putB
 by_cases e1:i=0
 ·rw [if_pos e1]
  have r:=P2.refl f hj
  rw [e1,f.md0,TM.still_beh tj]
  exact r
 ·rw [if_neg e1]
  by_cases e2:j=0
  ·rw [if_pos e2]
   have r:=P2.refl f hi
   rw [e2,f.md0,TM.beh_still ti]
   exact r
  ·rw [if_neg e2]
   exact f.put (ti.beh tj)
def yr0 (n:Nat)(S:ChS)(i:Nat):TM.Ln->List Nat->Prop
 | .still,t=>t=List.range n
 | .told k,t=>t=S.src k
 | .back a,t=>a<i/\t=TM.bk n (S.md.getD a [])
 | .behind a b,t=>a<i/\b<i/\t=TM.beh (S.md.getD a []) (S.md.getD b [])
def ChS.Mks (n:Nat)(S:ChS):Prop:=∀(i:Nat) (l:TM.Ln) (t:List Nat),S.ln[i]?=some l->S.md[i]?=some t->yr0 n S i l t
theorem yr0.more {n:Nat}{S S':ChS}{i:Nat}{l:TM.Ln}{t:List Nat}(h:yr0 n S i l t)(hi:i<=S.md.length)(hs:S'.src=S.src)(hm:∃m,S'.md=S.md++m):yr0 n S' i l t:=by
 obtain ⟨m,hm⟩:=hm
 cases l with
 | still=>exact h
 | told k=>exact h.trans (by rw [hs])
 | back a=>exact ⟨h.1,by rw [hm,i8 (aM h.1 hi)];exact h.2⟩
 | behind a b=>exact ⟨h.1,h.2.1,by rw [hm,i8 (aM h.1 hi),i8 (aM h.2.1 hi)];exact h.2.2⟩
theorem ChS.Mks.put {n:Nat}{S:ChS}(h:S.Mks n)(f:S.ln.length=S.md.length){l:TM.Ln}{t:List Nat}(hl:yr0 n S S.md.length l t):(S.put l t).Mks n:=by
 intro i l' t' h1 h2
 have h1:(S.ln++[l])[i]?=some l':=h1
 have h2:(S.md++[t])[i]?=some t':=h2
 by_cases c:i<S.md.length
 ·rw [aS (by lia)] at h1
  rw [aS c] at h2
  exact (h i l' t' h1 h2).more (bF c) rfl ⟨[t],rfl⟩
 ·have hi:i<(S.md++[t]).length:=(ag.mp h2).1
  rw [af,bD] at hi
  have e:i=S.md.length:=by lia
  subst e
  rw [aU (by lia),show S.md.length-S.ln.length=0 by lia] at h1
  rw [aU (ah _),cU] at h2
  cases h1
  cases h2
  exact hl.more (ah _) rfl ⟨[t],rfl⟩
structure ChS.Backs (n:Nat) (S:ChS):Prop where
 bk:∀i k,atN S.bl i=some k->i<S.md.length/\k<S.md.length/\S.md.getD k []=TM.bk n (S.md.getD i [])
 mks:S.Mks n
theorem ChS.Backs.of {n:Nat}{S S':ChS}(b:S.Backs n)(hl:S'.ln=S.ln)(hm:S'.md=S.md)(hb:S'.bl=S.bl)(hs:S'.src=S.src):S'.Backs n:=by
 refine ⟨λi k h=>?_,λi l t h1 h2=>?_⟩
 ·rw [hb] at h
  rw [hm]
  exact b.bk i k h
 ·rw [hl] at h1
  rw [hm] at h2
  exact (b.mks i l t h1 h2).more (bF (ag.mp h2).1) hs ⟨[],by rw [hm,bu]⟩
theorem ChS.putB_src {S:ChS}(i j:Nat):(S.putB i j).2.src=S.src:=by
 unfold ChS.putB
 by_cases e1:i=0
 ·rw [if_pos e1]
 ·rw [if_neg e1]
  by_cases e2:j=0
  ·rw [if_pos e2]
  ·rw [if_neg e2];rfl
theorem ChS.putK_src {S:ChS}(n i:Nat):(S.putK n i).2.src=S.src:=by
 unfold ChS.putK
 cases e:atN S.bl i with
 | some k=>rfl
 | none=>rfl
theorem ChS.Backs.putB {n:Nat}{S:ChS}(b:S.Backs n)(f:S.ln.length=S.md.length){k m:Nat}(hk:k<S.md.length)(hm:m<S.md.length):(S.putB k m).2.Backs n/\(S.putB k m).2.bl=S.bl:=by
 unfold ChS.putB
 by_cases e1:k=0
 ·rw [if_pos e1];exact ⟨b,rfl⟩
 ·rw [if_neg e1]
  by_cases e2:m=0
  ·rw [if_pos e2];exact ⟨b,rfl⟩
  ·rw [if_neg e2]
   refine ⟨⟨λi' k' h=>?_,b.mks.put f ⟨hk,hm,rfl⟩⟩,rfl⟩
   obtain ⟨h1,h2,h3⟩:=b.bk i' k' h
   have hmd':(S.put (.behind k m) (TM.beh (S.md.getD k []) (S.md.getD m []))).md=S.md++[TM.beh (S.md.getD k []) (S.md.getD m [])]:=rfl
   refine ⟨by rw [hmd',af];lia,by rw [hmd',af];lia,?_⟩
   rw [hmd',i8 h2,i8 h1,h3]
theorem ChS.Fine.putK {n:Nat}{S:ChS}(f:S.Fine n)(b:S.Backs n){i:Nat}(hi:i<S.md.length):P2 n S (S.putK n i).2 (S.putK n i).1 (TM.bk n (S.md.getD i []))/\(S.putK n i).2.Backs n:=by
 unfold ChS.putK
 cases e:atN S.bl i with
 | some k =>
  obtain ⟨h1,h2,h3⟩:=b.bk i k e
  rw [←h3]
  exact ⟨P2.refl f h2,b⟩
 | none =>
  have m:=f.put (l:=.back i) (f.wl.at hi).bk
  have mks:=b.mks.put f.lnl (l:=.back i) (t:=TM.bk n (S.md.getD i [])) ⟨hi,rfl⟩
  refine ⟨⟨m.st,m.md,⟨⟨m.fine.wl.md,m.fine.wl.to,m.fine.wl.mv⟩,m.fine.md0,m.fine.pos,m.fine.lnl⟩,m.lt,m.at',m.len⟩,⟨λi' k' h=>?_,mks⟩⟩
  have h:atN (S.bl++[(i,S.ln.length)]) i'=some k':=h
  have hmd:(S.put (.back i) (TM.bk n (S.md.getD i []))).md=S.md++[TM.bk n (S.md.getD i [])]:=rfl
  show i'<(S.put (.back i) (TM.bk n (S.md.getD i []))).md.length/\k'<(S.put (.back i) (TM.bk n (S.md.getD i []))).md.length/\(S.put (.back i) (TM.bk n (S.md.getD i []))).md.getD k' []=TM.bk n ((S.put (.back i) (TM.bk n (S.md.getD i []))).md.getD i' [])
  by_cases ei:i'=i
  ·subst ei
   rw [zi6 e] at h
   cases h
   refine ⟨by rw [hmd,af];lia,m.lt,?_⟩
   rw [m.at',hmd,i8 hi]
  ·have h':atN S.bl i'=some k':=by
    unfold atN at h ⊢
    rw [dO] at h
    cases q:S.bl.find? (λx=>decide (x.1=i')) with
    | some x=>rw [q] at h;exact h
    | none =>
     rw [q] at h
     simp [Ne.symm ei] at h
   obtain ⟨h1,h2,h3⟩:=b.bk i' k' h'
   refine ⟨by rw [hmd,af];lia,by rw [hmd,af];lia,?_⟩
   rw [hmd,i8 h2,i8 h1,h3]
structure ChS.Few (S:ChS):Prop where
 ln:S.ln.length<9999000
 bl:S.bl.length<9999000
 st:∀s∈S.st,s.mv.length<100000/\s.to.length<=60/\s.wt.length<=900000
def ym0 (cC cB cS:Addr):Sp:=λvs H Q _=>∃(A:ChA) (S:ChS) (n j p m k:Nat),vs=[.ref A.c,.int j,.int p,.int m]/\u8 cC cB cS n H A S/\S.Fine n/\S.Backs n/\S.Few/\n<=60/\j<n/\atN (S.atS j).to p=some k/\m<S.md.length /\
 ∀H':Hp,y8 A.all H H'->u8 cC cB cS n H' A (S.found n j p m).1->Q (.bl (S.found n j p m).2) H'
theorem n4:x9 ["self","level","place","mover","step","line","made","to","ahead"] ["self","level","place","mover"] (z9 e9):=scq
theorem ChS.atS_of {S:ChS}{j:Nat}{s:StS}(h:S.st[j]?=some s):S.atS j=s:=by unfold ChS.atS;rw [ax,h];rfl
theorem y8.all {A:ChA}{F:List Addr}{H H':Hp}(h:y8 F H H')(hF:∀x∈F,x∈[A.c,A.b,A.ll,A.lm,A.d,A.l]):y8 A.all H H':=h.more λx hx=>by unfold ChA.all;exact aJ _ (hF x hx)
theorem y8.allS {A:ChA}{F:List Addr}{H H':Hp}{j:Nat}{a:StA}(h:y8 F H H')(ha:A.st[j]?=some a)(hF:∀x∈F,x∈a.all):y8 A.all H H':=h.more λx hx=>by
 unfold ChA.all
 exact aK _ (aF.mpr ⟨a.all,av.mpr ⟨a,au ha,rfl⟩,hF x hx⟩)
theorem K9 {cC cB cS:Addr}(F:Fun K "found_mover" "Chain.found_mover" e9 f fd) (B:Blt mg) (cc:g7 K cC K3) (cb:g7 K cB zi7) (cs:g7 K cS zb1) (KB:l9 P w K mg base 1 "behind" ["one","other"] (J9 K))
  (MPP:Q0 P w K mg base 2 cS "put_place" ["self","place","line","turning"] (yy3 cS)) (MPB:Q0 P w K mg base 2 cB "put_behind" ["self","one","other"] (yy1 cB)) (MPK:Q0 P w K mg base 2 cB "put_back" ["self","one"] (yy2 cB)) (MPM:Q0 P w K mg base 1 cS "put_mover" ["self","mover"] (yh8 cS)) (MH:Q0 P w K mg base 3 cC "holds" ["self","turning","level"] (zx9 cC cB cS)):u6 P w K mg base CX0 4 f fd ["self","level","place","mover"] (ym0 cC cB cS):=by
 refine F.ok n4 (λvs H Q E h=>?_) (λcdv Ar outer sh H vs Q E hr h=>?_)
 ·obtain ⟨A,S,n,j,p,m,k,rfl,_⟩:=h
  rfl
 obtain ⟨A,S,n,j,p,m,k,rfl,ch,fn,bks,few,hn,hj,hp,hm,q⟩:=h
 have hz:=X3
 have hu:(Ar.deeper (PyProof.Rows.envOfC "Chain.found_mover" (z9 e9) sh.heap.objs.size f cdv)).units+1<cLine:=by have:=hr.units;lia
 refine ⟨_,y0 (u5 (i:=4) n4.nd rfl (Or.inl rfl) (i4 p5 (w8 (pv 0) rfl) (pv 1) (λ_ _=>rfl)))
  (y0 (u5 (i:=5) n4.nd rfl (Or.inl rfl) (Q9 hu (w8 (pv 4) rfl) (pv 2) (λ_ _=>rfl)))
  (y0 (u5 (i:=6) n4.nd rfl (Or.inl rfl) (o0 KB hr rfl (z0 (i4 p5 (w8 (w8 (pv 0) rfl) rfl) (pv 5) (λ_ _=>rfl)) (z0 (i4 p5 (w8 (w8 (pv 0) rfl) rfl) (pv 3) (λ_ _=>rfl)) z5))))
  (y0 (u5 (i:=7) n4.nd rfl (Or.inl rfl) (i4 zc6 (pv 6) (pv 1) (λ_ _=>rfl)))
  (y0 (n6 (zl9 (F0 hu (pv 7) (w8 (pv 4) rfl)))
   (y0 (l8 (S8 cs.cls MPP hr (pv 4) (z0 (pv 7) (z0 (S8 cb.cls MPB hr (w8 (pv 0) rfl) (z0 (pv 5) (z0 (pv 3) z5))) (z0 (pv 6) z5))))) (z8 (v1 i9))) u0)
  (y0 (n6 (X8 (S8 cc.cls MH hr (pv 0) (z0 (o0 KB hr rfl (z0 (pv 6) (z0 (Q9 hu (w8 (pv 4) rfl) (pv 7) (λ_ _=>rfl)) z5))) (z0 (u9 X6 (pv 1) y6) z5)))) (z8 (v1 i9)) u0)
  (y0 (u5 (i:=8) n4.nd rfl (Or.inl rfl) (S8 cb.cls MPB hr (w8 (pv 0) rfl) (z0 (pv 5) (z0 (pv 3) z5))))
  (y0 (l8 (S8 cs.cls MPM hr (i4 p5 (w8 (pv 0) rfl) (u9 X6 (pv 1) y6) (λ_ _=>rfl)) (z0 (S8 cb.cls MPB hr (w8 (pv 0) rfl) (z0 (pv 8) (z0 (S8 cb.cls MPK hr (w8 (pv 0) rfl) (z0 (Q9 hu (w8 (pv 4) rfl) (pv 7) (λ_ _=>rfl)) z5)) z5))) z5)))
  (z8 (v1 i9))))))))),?_⟩
 obtain ⟨dxc,hc⟩:=ch.c
 obtain ⟨dxb,hb⟩:=ch.bk.b
 obtain ⟨mas,hlm,hmd⟩:=ch.bk.lm
 obtain ⟨a,hAj⟩:∃a,A.st[j]?=some a:=⟨_,aa (by rw [ch.len.1];exact hj)⟩
 obtain ⟨s,hs⟩:∃s,S.st[j]?=some s:=⟨_,aa (by rw [ch.len.2];exact hj)⟩
 have hsm:s∈S.st:=au hs
 rw [ChS.atS_of hs] at hp
 have st:=ch.st j a s hAj hs
 obtain ⟨dxs,hsa⟩:=st.a
 have hk:k<S.md.length:=(fn.wl.to s hsm _ (R0 hp)).2
 have tk:=fn.wl.at hk
 have tm:=fn.wl.at hm
 obtain ⟨ak,hak,htk⟩:=U0 hmd k _ (R4 [] hk)
 obtain ⟨am,ham,htm⟩:=U0 hmd m _ (R4 [] hm)
 have gk:atI (mas.map V.ref) ((k:Nat):Int)=some (V.ref ak):=k8 (by rw [ar,hak];rfl)
 have gm:atI (mas.map V.ref) ((m:Nat):Int)=some (V.ref am):=k8 (by rw [ar,ham];rfl)
 have ga:atI (A.st.map λs=>V.ref s.a) ((j:Nat):Int)=some (V.ref a.a):=k8 (by rw [ar,hAj];rfl)
 have g1:V5 H a.lt (kV (Sum.inl (p:Int))) (some (V.int k)):=by
  have g:=V5.k (k:=Sum.inl (p:Int)) st.lt
  rwa [R8,hp] at g
 refine ⟨_,rfl,A.c,cC,dxc,_,_,rfl,hc,cc.cls,cc.no "steps" (by decide),rfl,_,rfl,A.l,_,_,_,rfl,rfl,SqL.of ch.l,ga,?_⟩
 refine ⟨_,rfl,a.a,cS,dxs,_,_,rfl,hsa,cs.cls,cs.no "line_to" (by decide),rfl,_,rfl,a.lt,_,rfl,g1,?_⟩
 refine ⟨_,rfl,A.c,cC,dxc,_,_,rfl,hc,cc.cls,cc.no "book" (by decide),rfl,A.b,cB,dxb,_,_,rfl,hb,cb.cls,cb.no "made" (by decide),rfl,_,rfl,A.lm,_,_,_,rfl,rfl,SqL.of hlm,gk,_,rfl,A.c,cC,dxc,_,_,rfl,hc,cc.cls,cc.no "book" (by decide),rfl,A.b,cB,dxb,_,_,rfl,hb,cb.cls,cb.no "made" (by decide),rfl,_,rfl,A.lm,_,_,_,rfl,rfl,SqL.of hlm,gm,ak,am,_,_,rfl,SqT.of htk,SqT.of htm,by rw [tk.length];lia,λx hx=>by rw [tm.length];exact tk.lt hx,λtr H1 htr0 s1 htr=>?_⟩
 have tT:TM.IsT n (TM.beh (S.md.getD k []) (S.md.getD m [])):=tk.beh tm
 have htr:H1 tr=some (.tup (tI (TM.beh (S.md.getD k []) (S.md.getD m [])))):=htr
 obtain ⟨R,ef⟩:∃R,R=S.found n j p m:=⟨_,rfl⟩
 rw [←ef] at q
 unfold ChS.found at ef
 simp only [ChS.atS_of hs,hp,cY] at ef
 have mb:=fn.putB hk hm
 have ndh:=ChA.head_nd ch.nd
 simp only [aZ,aq,aV,not_or,or_false] at ndh
 have lne:A.ll≠A.lm:=ndh.2.2.1.1
 have nda:=ChA.step_nd ch.nd hAj
 simp only [StA.all,aZ,aq,aV,not_or,or_false] at nda
 have mw:a.m≠a.w:=nda.2.1.2.2
 have ltbf:a.lt≠a.bf:=nda.2.2.1.1
 have fw:=few.st s hsm
 have few1:=few.ln
 have few2:=few.bl
 have ch1:=ch.same s1
 generalize htt:TM.beh (S.md.getD k []) (S.md.getD m [])=t at tT htr ef mb
 refine ⟨_,rfl,_,rfl,tr,_,_,_,rfl,rfl,SqT.of htr,yn0 (tT.get_step hj),?_⟩
 refine ⟨_,rfl,_,rfl,a.a,cS,dxs,_,_,rfl,s1 _ _ hsa,cs.cls,cs.no "line_to" (by decide),rfl,a.lt,_,rfl,V5.k (k:=Sum.inl ((t.getD j 0:Nat):Int)) (s1 _ _ st.lt),_,rfl,?_⟩
 rw [R8]
 have mdS:∀(S':ChS),(∃l,S'.md=S.md++l)->∀s∈S.st,∀x∈s.to,S'.md.getD x.2 []=S.md.getD x.2 []:=λS' ⟨l,e⟩ s hs x hx=>by rw [e,i8 (fn.wl.to s hs x hx).2]
 cases ea:atN s.to (t.getD j 0) with
 | none =>
  rw [ea] at ef
  dsimp only at ef
  rw [ef] at q
  refine i7 ?_
  refine ⟨_,rfl,a.a,dxs,_,rfl,s1 _ _ hsa,rfl,_,rfl,_,rfl,A.c,cC,dxc,_,_,rfl,s1 _ _ hc,cc.cls,cc.no "book" (by decide),rfl,A.b,dxb,_,rfl,s1 _ _ hb,rfl,_,rfl,_,rfl,A,S,n,k,m,rfl,ch1.bk,lne,hk,hm,fn.wl.md,hn,by lia,λH2 fr2 bk2=>?_⟩
  have ch2:u8 cC cB cS n H2 A (S.putB k m).2:=ch1.book (fr2.more λx hx=>by simp at hx ⊢;rcases hx with e|e <;> simp [e]) bk2 mb.st (mdS _ mb.md)
  have hs2:(S.putB k m).2.st[j]?=some s:=by rw [mb.st];exact hs
  have st2:=ch2.st j a s hAj hs2
  have htr2:H2 tr=some (.tup (tI t)):=fr2 _ _ (λz=>by
   obtain ⟨las,hll1,_⟩:=ch1.bk.ll
   obtain ⟨mas1,hlm1,_⟩:=ch1.bk.lm
   rcases aq.mp z with e|z
   ·exact i6 htr hll1 (by intro q;cases q) e
   ·exact i6 htr hlm1 (by intro q;cases q) (ao.mp z)) htr
  refine ⟨_,rfl,a,n,(S.putB k m).2.md,j,t.getD j 0,(S.putB k m).1,s,tr,t,rfl,st2,htr2,mb.at',tT,hn,ea,mw,ltbf,by lia,by lia,by lia,λH3 fr3 st3=>?_⟩
  have nt:∀x∈[a.lt,a.bf,a.w],x∈a.all/\∀xs,H2 x≠some (.tup xs):=λx hx=>by
   obtain ⟨bs2,hbf2,_⟩:=st2.bf
   obtain ⟨ws2,hw2,_⟩:=st2.w
   rcases aq.mp hx with e|hx
   ·rw [e];exact ⟨by simp [StA.all],λxs z=>by rw [st2.lt] at z;cases z⟩
   ·rcases aq.mp hx with e|hx
    ·rw [e];exact ⟨by simp [StA.all],λxs z=>by rw [hbf2] at z;cases z⟩
    ·rw [ao.mp hx];exact ⟨by simp [StA.all],λxs z=>by rw [hw2] at z;cases z⟩
  have ch3:=ch2.step hAj nt fr3 st3
  rw [mb.st] at ch3
  refine q H3 ?_ ch3
  exact y8.trans (y4.frame s1) (y8.trans (fr2.all λx hx=>by simp at hx ⊢;rcases hx with e|e <;> simp [e]) (fr3.allS hAj λx hx=>(nt x hx).1))
 | some k2 =>
  rw [ea] at ef
  dsimp only at ef
  refine m9 ?_
  have hk2:k2<S.md.length:=(fn.wl.to s hsm _ (R0 ea)).2
  have tk2:=fn.wl.at hk2
  obtain ⟨bs1,hbf1,hbs1⟩:=(ch1.st j a s hAj hs).bf
  obtain ⟨bb,hv2,hbb⟩:=L6 hbs1 ea
  have g2:V5 H1 a.bf (kV (Sum.inl ((t.getD j 0:Nat):Int))) (some (V.ref bb)):=by
   have g:=V5.k (k:=Sum.inl ((t.getD j 0:Nat):Int)) hbf1
   rwa [hv2] at g
  refine ⟨_,rfl,A.c,dxc,_,rfl,s1 _ _ hc,rfl,_,rfl,_,rfl,a.a,cS,dxs,_,_,rfl,s1 _ _ hsa,cs.cls,cs.no "back_from" (by decide),rfl,_,rfl,a.bf,_,rfl,g2,tr,bb,t,_,rfl,SqT.of htr,SqT.of hbb,by rw [tT.length];lia,λx hx=>by rw [tk2.bk.length];exact tT.lt hx,λxr H2 hxr0 s2 hxr=>?_⟩
  refine ⟨_,rfl,_,_,rfl,rfl,A,S,n,j+1,xr,TM.beh t (TM.bk n (S.md.getD k2 [])),?_,ch1.same s2,fn.wl,hxr,tT.beh tk2.bk,by lia,hn,λH3 s3=>?_⟩
  ·show [V.ref A.c,V.ref xr,V.int ((j:Int)+1)]=_
   rw [show ((j+1:Nat):Int)=(j:Int)+1 by lia]
  refine ⟨_,rfl,?_⟩
  have ch3:=(ch1.same s2).same s3
  have s03:=s1.trans (s2.trans s3)
  cases hi:(N1 n S.md (S.st.drop (j+1)) (j+1) (TM.beh t (TM.bk n (S.md.getD k2 []))) []).isSome with
  | true =>
   rw [hi,if_pos rfl] at ef
   rw [ef] at q
   exact i7 (q H3 (y4.frame s03) ch3)
  | false =>
   rw [hi,if_neg (by decide)] at ef
   rw [ef] at q
   refine m9 ?_
   have hj1:j+1<n:=by
    rcases cX (j+1) n with h|h
    ·exact h
    ·rw [cQ (by rw [ch.len.2];exact h),N1] at hi
     cases hi
   obtain ⟨a1,hA1⟩:∃a,A.st[j+1]?=some a:=⟨_,aa (by rw [ch.len.1];exact hj1)⟩
   obtain ⟨s',hs'⟩:∃s,S.st[j+1]?=some s:=⟨_,aa (by rw [ch.len.2];exact hj1)⟩
   rw [ChS.atS_of hs'] at q
   have hsm':s'∈S.st:=au hs'
   have fw':=few.st s' hsm'
   have nda1:=ChA.step_nd ch.nd hA1
   simp only [StA.all,aZ,aq,aV,not_or,or_false] at nda1
   have bks1:(S.putB k m).2.Backs n:=(bks.putB fn.lnl hk hm).1
   have bl1:(S.putB k m).2.bl=S.bl:=by
    unfold ChS.putB
    by_cases e1:k=0
    ·rw [if_pos e1]
    ·rw [if_neg e1]
     by_cases e2:m=0
     ·rw [if_pos e2]
     ·rw [if_neg e2];rfl
   obtain ⟨l1,hl1⟩:=mb.md
   have hk2':k2<(S.putB k m).2.md.length:=by rw [hl1,af];lia
   obtain ⟨mk,bks2⟩:=mb.fine.putK bks1 hk2'
   obtain ⟨l2,hl2⟩:=mk.md
   have len1:=mb.len
   have len2:=mk.len
   have ha':(S.putB k m).1<((S.putB k m).2.putK n k2).2.md.length:=by rw [hl2,af];have:=mb.lt;lia
   have m3:=mk.fine.putB ha' mk.lt
   obtain ⟨l3,hl3⟩:=m3.md
   obtain ⟨dxc3,hc3⟩:=ch3.c
   obtain ⟨dxb3,hb3⟩:=ch3.bk.b
   refine ⟨_,rfl,A.c,cC,dxc3,_,_,rfl,hc3,cc.cls,cc.no "book" (by decide),rfl,A.b,dxb3,_,rfl,hb3,rfl,_,rfl,_,rfl,A,S,n,k,m,rfl,ch3.bk,lne,hk,hm,fn.wl.md,hn,by lia,λH4 fr4 bk4=>?_⟩
   have ch4:u8 cC cB cS n H4 A (S.putB k m).2:=ch3.book (fr4.more λx hx=>by simp at hx ⊢;rcases hx with e|e <;> simp [e]) bk4 mb.st (mdS _ mb.md)
   obtain ⟨dxc4,hc4⟩:=ch4.c
   obtain ⟨dxb4,hb4⟩:=ch4.bk.b
   have st41:=ch4.st (j+1) a1 s' hA1 (by rw [mb.st];exact hs')
   obtain ⟨dx41,hsa41⟩:=st41.a
   have st4:=ch4.st j a s hAj (by rw [mb.st];exact hs)
   obtain ⟨dx4,hsa4⟩:=st4.a
   have ga1:atI (A.st.map λs=>V.ref s.a) ((j:Int)+1)=some (V.ref a1.a):=by
    rw [show (j:Int)+1=((j+1:Nat):Int) by lia]
    exact k8 (by rw [ar,hA1];rfl)
   have g4:V5 H4 a.lt (kV (Sum.inl ((t.getD j 0:Nat):Int))) (some (V.int k2)):=by
    have g:=V5.k (k:=Sum.inl ((t.getD j 0:Nat):Int)) st4.lt
    rwa [R8,ea] at g
   refine ⟨_,rfl,A.c,cC,dxc4,_,_,rfl,hc4,cc.cls,cc.no "steps" (by decide),rfl,_,rfl,_,_,rfl,rfl,A.l,_,_,_,rfl,rfl,SqL.of ch4.l,ga1,a1.a,dx41,_,rfl,hsa41,rfl,?_⟩
   refine ⟨_,rfl,A.c,cC,dxc4,_,_,rfl,hc4,cc.cls,cc.no "book" (by decide),rfl,A.b,dxb4,_,rfl,hb4,rfl,_,rfl,_,rfl,A.c,cC,dxc4,_,_,rfl,hc4,cc.cls,cc.no "book" (by decide),rfl,A.b,dxb4,_,rfl,hb4,rfl,_,rfl,a.a,cS,dx4,_,_,rfl,hsa4,cs.cls,cs.no "line_to" (by decide),rfl,_,rfl,a.lt,_,rfl,g4,A,(S.putB k m).2,n,k2,rfl,ch4.bk,lne,hk2',mb.fine.wl.md,hn,by lia,by rw [bl1];lia,λH5 fr5 bk5=>?_⟩
   have ch5:u8 cC cB cS n H5 A ((S.putB k m).2.putK n k2).2:=ch4.book fr5 bk5 mk.st (λs hs x hx=>by rw [hl2,i8 (mb.fine.wl.to s hs x hx).2])
   refine ⟨A,((S.putB k m).2.putK n k2).2,n,(S.putB k m).1,((S.putB k m).2.putK n k2).1,rfl,ch5.bk,lne,ha',mk.lt,mk.fine.wl.md,hn,by lia,λH6 fr6 bk6=>?_⟩
   have ch6:u8 cC cB cS n H6 A (((S.putB k m).2.putK n k2).2.putB (S.putB k m).1 ((S.putB k m).2.putK n k2).1).2:=ch5.book (fr6.more λx hx=>by simp at hx ⊢;rcases hx with e|e <;> simp [e]) bk6 m3.st (λs hs x hx=>by rw [hl3,i8 (mk.fine.wl.to s hs x hx).2])
   have e6:(((S.putB k m).2.putK n k2).2.putB (S.putB k m).1 ((S.putB k m).2.putK n k2).1).2.st=S.st:=by rw [m3.st,mk.st,mb.st]
   have st6:=ch6.st (j+1) a1 s' hA1 (by rw [e6];exact hs')
   refine ⟨a1,n,_,j+1,(((S.putB k m).2.putK n k2).2.putB (S.putB k m).1 ((S.putB k m).2.putK n k2).1).1,s',rfl,st6,nda1.2.1.2.2,by lia,by lia,by lia,λH7 fr7 st7=>?_⟩
   have nt:∀x∈[a1.m,a1.w],x∈a1.all/\∀xs,H6 x≠some (.tup xs):=λx hx=>by
    obtain ⟨ws2,hw2,_⟩:=st6.w
    rcases aq.mp hx with e|hx
    ·rw [e];exact ⟨by simp [StA.all],λxs z=>by rw [st6.m] at z;cases z⟩
    ·rw [ao.mp hx];exact ⟨by simp [StA.all],λxs z=>by rw [hw2] at z;cases z⟩
   have ch7:=ch6.step hA1 nt fr7 st7
   rw [e6] at ch7
   refine q H7 ?_ ch7
   exact y8.trans (y4.frame s03) (y8.trans (fr4.all λx hx=>by simp at hx ⊢;rcases hx with e|e <;> simp [e]) (y8.trans (fr5.all λx hx=>by simp at hx ⊢;rcases hx with e|e|e <;> simp [e]) (y8.trans (fr6.all λx hx=>by simp at hx ⊢;rcases hx with e|e <;> simp [e]) (fr7.allS hA1 λx hx=>(nt x hx).1))))
def ChS.chn (S:ChS):TM.Chn where
 mv j s:=∃k∈(S.atS j).mv,S.md.getD k []=s
 ring j:=(S.atS j).to.map Prod.fst
 up j p:=S.md.getD ((atN (S.atS j).to p).getD 0) []
theorem R1 {l:List (Nat×Nat)}{p:Nat}:atN l p=none↔p∉l.map Prod.fst:=by
 unfold atN
 rw [Option.map_eq_none_iff,List.find?_eq_none]
 constructor
 ·intro h z
  obtain ⟨x,hx,e⟩:=av.mp z
  exact h x hx (by simpa using e)
 ·intro h x hx e
  exact h (av.mpr ⟨x,hx,by simpa using e⟩)
theorem C5 {l:List (Nat×Nat)}{p k:Nat}(h:atN l p=some k):p∈l.map Prod.fst:=av.mpr ⟨_,R0 h,rfl⟩
theorem ChS.chn_up {S:ChS}{j p k:Nat}(h:atN (S.atS j).to p=some k):S.chn.up j p=S.md.getD k []:=by
 show S.md.getD ((atN (S.atS j).to p).getD 0) []=_
 rw [h];rfl
theorem ChS.drop_at {S:ChS}{j:Nat}(h:j<S.st.length):S.st.drop j=S.atS j::S.st.drop (j+1):=by
 rw [cn h,ChS.atS_of (aa h)]
theorem zx7 {n:Nat}{S:ChS}(len:S.st.length=n)(ok:S.chn.Ok n):∀(d:Nat) (x acc:List Nat),d<=n->TM.IsT n x->((N1 n S.md (S.st.drop (n-d)) (n-d) x acc).isSome=true↔S.chn.Sif n d x)
 | 0,x,acc,_,_=>by
  rw [eR,cQ (by lia),N1]
  exact ⟨λ_=>trivial,λ_=>rfl⟩
 | d+1,x,acc,hd,hx=>by
  have hj:n-(d+1)<n:=by lia
  have e:n-(d+1)+1=n-d:=by lia
  rw [ChS.drop_at (by lia),N1,TM.Chn.Sif]
  cases ea:atN (S.atS (n-(d+1))).to (x.getD (n-(d+1)) 0) with
  | none =>
   have hm:x.getD (n-(d+1)) 0∉S.chn.ring (n-(d+1)):=R1.mp ea
   exact ⟨λh=>(by cases h),λh=>absurd h.1 hm⟩
  | some k =>
   have hm:x.getD (n-(d+1)) 0∈S.chn.ring (n-(d+1)):=C5 ea
   have hu:=ok.upT hj hm
   have eu:=ChS.chn_up ea
   dsimp only
   rw [e]
   by_cases ee:x.getD (n-(d+1)) 0=n-(d+1)
   ·rw [if_pos ee]
    have h0:TM.beh x (TM.bk n (S.chn.up (n-(d+1)) (x.getD (n-(d+1)) 0)))=x:=by
     rw [ee,ok.upOwn _ hj,TM.bk_still,TM.beh_still hx]
    rw [h0,zx7 len ok d x acc (by lia) hx]
    exact ⟨λh=>⟨hm,h⟩,λh=>h.2⟩
   ·rw [if_neg ee,eu,zx7 len ok d _ _ (by lia) (hx.beh (by rw [eu] at hu;exact hu.bk))]
    exact ⟨λh=>⟨hm,h⟩,λh=>h.2⟩
structure ChS.Inv (n:Nat) (S:ChS):Prop where
 fine:S.Fine n
 bks:S.Backs n
 len:S.st.length=n
 ok:S.chn.Ok n
 lk:∀j,(S.atS j).lk<=(S.atS j).wt.length
 wl:∀j,(S.atS j).wt.length=(S.atS j).to.length*(S.atS j).mv.length
 wt:∀j p m,p∈(S.atS j).to.map Prod.fst->m∈(S.atS j).mv->(p,m)∈(S.atS j).wt
 wt':∀j,∀x∈(S.atS j).wt,x.1∈(S.atS j).to.map Prod.fst/\x.2∈(S.atS j).mv
 good:∀j,∀x∈(S.atS j).wt.take (S.atS j).lk,S.chn.Good n j x.1 (S.md.getD x.2 [])
 ind:∀j,TM.Indep n ((S.atS j).mv.map λk=>S.md.getD k [])
def ChS.Done (S:ChS)(j:Nat):Prop:=(S.atS j).lk=(S.atS j).wt.length
theorem ChS.Inv.shut {n:Nat}{S:ChS}(h:S.Inv n){j:Nat}(d:S.Done j):S.chn.Shut n j:=by
 intro p hp s hs
 obtain ⟨m,hm,rfl⟩:=hs
 refine h.good j (p,m) ?_
 rw [d,bG]
 exact h.wt j p m hp hm
theorem ChS.Inv.holds {n:Nat}{S:ChS}(h:S.Inv n){j:Nat}(hj:j<=n)(d:∀i,j<=i->i<n->S.Done i){x:List Nat}(hx:TM.IsT n x)(hf:TM.Fix j x):(N1 n S.md (S.st.drop j) j x []).isSome=true↔TM.Grp n (S.chn.mv j) x:=by
 have e:n-(n-j)=j:=by lia
 have h1:=zx7 h.len h.ok (n-j) x [] (by lia) hx
 have h2:=h.ok.sift (d:=n-j) (by lia) hx (by rw [e];exact hf) (λi hi hin=>h.shut (d i (by lia) hin))
 rw [e] at h1 h2
 exact h1.trans h2
theorem ChS.Inv.few {n:Nat}{S:ChS}(hn:n<=60)(h:S.Inv n)(j:Nat):(S.atS j).mv.length<=354:=by
 have q:=TM.indep_few hn (l:=(S.atS j).mv.map λk=>S.md.getD k []) (λs hs=>by
  obtain ⟨k,hk,e⟩:=av.mp hs
  exact h.ok.mvT j s ⟨k,hk,e⟩) (h.ind j)
 rwa [ae] at q
theorem ChS.Inv.ring {n:Nat}{S:ChS}(h:S.Inv n){j:Nat}(hj:j<n):(S.atS j).to.length<=n:=by
 have q:=TM.nodup_below (M:=n) (h.ok.nd j hj) λx hx=>h.ok.lt j x hj hx
 have e:(S.chn.ring j).length=(S.atS j).to.length:=ae _
 lia
theorem ChS.atS_set {S S':ChS}{i:Nat}{s':StS}(e:S'.st=S.st.set i s')(hi:i<S.st.length)(h:Nat):S'.atS h=if h=i then s' else S.atS h:=by
 unfold ChS.atS
 rw [e,ax,ax,List.getElem?_set]
 by_cases q:h=i
 ·subst q
  rw [if_pos rfl,if_pos hi,if_pos rfl];rfl
 ·rw [if_neg (Ne.symm q),if_neg q]
theorem ChS.atS_mem {S:ChS}{j:Nat}(h:j<S.st.length):S.atS j∈S.st:=by
 rw [ChS.atS_of (aa h)]
 exact bz h
theorem ChS.atS_out {S:ChS}{j:Nat}(h:¬j<S.st.length):S.atS j=⟨[],[],[],0⟩:=by
 unfold ChS.atS
 rw [ax,aH (by lia)]
 rfl
theorem ChS.Fine.mvlt {n:Nat}{S:ChS}(f:S.Fine n){j k:Nat}(h:k∈(S.atS j).mv):k<S.md.length:=by
 by_cases q:j<S.st.length
 ·exact f.wl.mv _ (ChS.atS_mem q) k h
 ·rw [ChS.atS_out q] at h;cases h
theorem ChS.Fine.tolt {n:Nat}{S:ChS}(f:S.Fine n){j:Nat}{x:Nat×Nat}(h:x∈(S.atS j).to):x.1<n/\x.2<S.md.length:=by
 by_cases q:j<S.st.length
 ·exact f.wl.to _ (ChS.atS_mem q) x h
 ·rw [ChS.atS_out q] at h;cases h
theorem ChS.Fine.set {n:Nat}{S S2:ChS}{k:Nat}{t:List Nat}(m:P2 n S S2 k t){i:Nat}{s':StS}(hto:∀x∈s'.to,x.1<n/\x.2<S2.md.length)(hmv:∀k∈s'.mv,k<S2.md.length):ChS.Fine n { S2 with st:=S.st.set i s' }:=by
 have f:=m.fine
 refine ⟨⟨f.wl.md,λs hs=>?_,λs hs=>?_⟩,f.md0,f.pos,f.lnl⟩
 ·rcases eJ hs with h|h
  ·exact f.wl.to s (by rw [m.st];exact h)
  ·rw [h];exact hto
 ·rcases eJ hs with h|h
  ·exact f.wl.mv s (by rw [m.st];exact h)
  ·rw [h];exact hmv
theorem P2.at_ {n:Nat}{S S2:ChS}{k:Nat}{t:List Nat}(m:P2 n S S2 k t){i:Nat}(h:i<S.md.length):S2.md.getD i []=S.md.getD i []:=by
 obtain ⟨l,e⟩:=m.md
 rw [e,i8 h]
theorem P2.lift {n:Nat}{S S2:ChS}{k:Nat}{t:List Nat}(m:P2 n S S2 k t){i:Nat}(h:i<S.md.length):i<S2.md.length:=by
 obtain ⟨l,e⟩:=m.md
 rw [e,af];lia
theorem P2.chn {n:Nat}{S S2 S':ChS}{k:Nat}{t:List Nat}(f:S.Fine n)(m:P2 n S S2 k t)(e:S'.md=S2.md){h:Nat}:((S'.atS h).mv=(S.atS h).mv->S'.chn.mv h=S.chn.mv h)/\((S'.atS h).to=(S.atS h).to->S'.chn.ring h=S.chn.ring h/\S'.chn.up h=S.chn.up h):=by
 refine ⟨λq=>?_,λq=>⟨?_,?_⟩⟩
 ·funext s
  show (∃k∈(S'.atS h).mv,S'.md.getD k []=s)=(∃k∈(S.atS h).mv,S.md.getD k []=s)
  rw [q,e]
  refine propext ⟨λ⟨k,hk,z⟩=>⟨k,hk,?_⟩,λ⟨k,hk,z⟩=>⟨k,hk,?_⟩⟩
  ·rw [←m.at_ (f.mvlt hk)];exact z
  ·rw [m.at_ (f.mvlt hk)];exact z
 ·show (S'.atS h).to.map Prod.fst=_
  rw [q];rfl
 ·funext p
  show S'.md.getD ((atN (S'.atS h).to p).getD 0) []=S.md.getD ((atN (S.atS h).to p).getD 0) []
  rw [q,e]
  cases ea:atN (S.atS h).to p with
  | none=>exact m.at_ f.pos
  | some k=>exact m.at_ (f.tolt (R0 ea)).2
def ChS.look (S:ChS)(j:Nat):ChS:={ S with st:=S.st.set j { S.atS j with lk:=(S.atS j).lk+1 } }
theorem ChS.look_at {S:ChS}{j:Nat}(hj:j<S.st.length)(h:Nat):(S.look j).atS h=if h=j then { S.atS j with lk:=(S.atS j).lk+1 } else S.atS h:=ChS.atS_set (S':=S.look j) rfl hj h
theorem ChS.look_mv {S:ChS}{j:Nat}(hj:j<S.st.length)(h:Nat):((S.look j).atS h).mv=(S.atS h).mv/\((S.look j).atS h).to=(S.atS h).to/\((S.look j).atS h).wt=(S.atS h).wt:=by
 rw [ChS.look_at hj]
 by_cases q:h=j
 ·subst q;rw [if_pos rfl];exact ⟨rfl,rfl,rfl⟩
 ·rw [if_neg q];exact ⟨rfl,rfl,rfl⟩
theorem ChS.look_chn {S:ChS}{j:Nat}(hj:j<S.st.length):(S.look j).chn=S.chn:=by
 have h1:∀h,((S.look j).atS h).mv=(S.atS h).mv:=λh=>(ChS.look_mv hj h).1
 have h2:∀h,((S.look j).atS h).to=(S.atS h).to:=λh=>(ChS.look_mv hj h).2.1
 have h3:(S.look j).md=S.md:=rfl
 unfold ChS.chn
 simp only [h1,h2,h3]
theorem ChS.Inv.look {n:Nat}{S:ChS}(h:S.Inv n){j:Nat}(hj:j<n){x:Nat×Nat}(hx:(S.atS j).wt[(S.atS j).lk]?=some x)(g:S.chn.Good n j x.1 (S.md.getD x.2 [])):(S.look j).Inv n:=by
 have hj':j<S.st.length:=by rw [h.len];exact hj
 have hlt:=(ag.mp hx).1
 have e:=λi=>ChS.look_mv (S:=S) hj' i
 have ec:=ChS.look_chn (S:=S) hj'
 refine ⟨?_,h.bks.of rfl rfl rfl rfl,by show (S.st.set _ _).length=n;rw [bL];exact h.len,by rw [ec];exact h.ok,λi=>?_,λi=>by rw [(e i).1,(e i).2.1,(e i).2.2];exact h.wl i,λi=>by rw [(e i).1,(e i).2.1,(e i).2.2];exact h.wt i,λi=>by rw [(e i).1,(e i).2.1,(e i).2.2];exact h.wt' i,λi y hy=>?_,λi=>by rw [(e i).1];exact h.ind i⟩
 ·have m:=P2.refl h.fine h.fine.pos
  exact ChS.Fine.set m (λy hy=>h.fine.tolt hy) (λy hy=>h.fine.mvlt hy)
 ·rw [ChS.look_at hj']
  by_cases q:i=j
  ·subst q;rw [if_pos rfl];exact hlt
  ·rw [if_neg q];exact h.lk i
 ·rw [ec]
  show S.chn.Good n i y.1 (S.md.getD y.2 [])
  rw [ChS.look_at hj'] at hy
  by_cases q:i=j
  ·subst q
   rw [if_pos rfl] at hy
   have hy:y∈(S.atS i).wt.take ((S.atS i).lk+1):=hy
   rw [aT,hx] at hy
   rcases aD.mp hy with z|z
   ·exact h.good i y z
   ·obtain rfl:y=x:=by simpa using z
    exact g
  ·rw [if_neg q] at hy
   exact h.good i y hy
theorem ye6 {l:List (Nat×Nat)}{p q k:Nat}(h:p≠q):atN (l++[(q,k)]) p=atN l p:=by
 unfold atN
 rw [dO]
 cases e:l.find? (λx=>decide (x.1=p)) with
 | some x=>rfl
 | none=>simp [Ne.symm h]
theorem B8 {S S2:ChS}{n k:Nat}{t:List Nat}(f:S.Fine n)(m:P2 n S S2 k t)(j:Nat):((S.atS j).mv.map λk=>S2.md.getD k [])=((S.atS j).mv.map λk=>S.md.getD k []):=bp λx hx=>m.at_ (f.mvlt hx)
theorem ChS.Inv.place {n:Nat}{S S2:ChS}{j q k:Nat}{t:List Nat}(h:S.Inv n)(hj:j<n)(m:P2 n S S2 k t)(b:S2.Backs n)(hq:atN (S.atS j).to q=none)(hqn:q<n)(gt:TM.Grp n (S.chn.mv j) t)(ht:t.getD j 0=q) :
  ChS.Inv n { S2 with st:=S.st.set j ((S.atS j).putP q k) }/\TM.Chn.MoreP n S.chn (ChS.chn { S2 with st:=S.st.set j ((S.atS j).putP q k) }) j q t:=by
 obtain ⟨S',hS'⟩:∃S',S'=({ S2 with st:=S.st.set j ((S.atS j).putP q k) }:ChS):=⟨_,rfl⟩
 rw [←hS']
 have hst:S'.st=S.st.set j ((S.atS j).putP q k):=by rw [hS']
 have hmd:S'.md=S2.md:=by rw [hS']
 have hj':j<S.st.length:=by rw [h.len];exact hj
 have ea:=λi=>ChS.atS_set hst hj' i
 have emv:∀i,(S'.atS i).mv=(S.atS i).mv:=λi=>by
  rw [ea i]
  by_cases e:i=j
  ·subst e;rw [if_pos rfl];rfl
  ·rw [if_neg e]
 have ej:S'.atS j=(S.atS j).putP q k:=by rw [ea j,if_pos rfl]
 have en:∀i,i≠j->S'.atS i=S.atS i:=λi e=>by rw [ea i,if_neg e]
 have mp:TM.Chn.MoreP n S.chn S'.chn j q t:=by
  refine ⟨hj,R1.mp hq,hqn,gt,ht,funext λi=>(m.chn h.fine hmd).1 (emv i),?_,λi e=>((m.chn h.fine hmd).2 (by rw [en i e])).1,λp hp=>?_,?_,λi e=>((m.chn h.fine hmd).2 (by rw [en i e])).2⟩
  ·show (S'.atS j).to.map Prod.fst=(S.atS j).to.map Prod.fst++[q]
   rw [ej]
   show ((S.atS j).to++[(q,k)]).map Prod.fst=_
   rw [aG];rfl
  ·show S'.md.getD ((atN (S'.atS j).to p).getD 0) []=S.md.getD ((atN (S.atS j).to p).getD 0) []
   rw [ej]
   show S'.md.getD ((atN ((S.atS j).to++[(q,k)]) p).getD 0) []=_
   rw [ye6 hp,hmd]
   cases e:atN (S.atS j).to p with
   | none=>exact m.at_ h.fine.pos
   | some k'=>exact m.at_ (h.fine.tolt (R0 e)).2
  ·show S'.md.getD ((atN (S'.atS j).to q).getD 0) []=t
   rw [ej]
   show S'.md.getD ((atN ((S.atS j).to++[(q,k)]) q).getD 0) []=t
   rw [zi6 hq,hmd]
   exact m.at'
 refine ⟨⟨?_,?_,?_,mp.ok h.ok,λi=>?_,λi=>?_,λi p mm hp hm=>?_,λi x hx=>?_,λi x hx=>?_,λi=>?_⟩,mp⟩
 ·rw [hS']
  refine ChS.Fine.set m (λx hx=>?_) (λx hx=>m.lift (h.fine.mvlt hx))
  rcases aD.mp hx with z|z
  ·exact ⟨(h.fine.tolt z).1,m.lift (h.fine.tolt z).2⟩
  ·rw [ao.mp z];exact ⟨hqn,m.lt⟩
 ·rw [hS'];exact b.of rfl rfl rfl rfl
 ·rw [hst,bL];exact h.len
 ·by_cases e:i=j
  ·subst e
   rw [ej]
   have:=h.lk i
   show (S.atS i).lk<=((S.atS i).wt++_).length
   rw [af];lia
  ·rw [en i e];exact h.lk i
 ·by_cases e:i=j
  ·subst e
   rw [ej]
   have:=h.wl i
   show ((S.atS i).wt++(S.atS i).mv.map λm=>(q,m)).length=((S.atS i).to++[(q,k)]).length*(S.atS i).mv.length
   rw [af,ae,af,bD,fJ,dS,this]
  ·rw [en i e];exact h.wl i
 ·by_cases e:i=j
  ·subst e
   rw [ej] at hp hm ⊢
   have hp:p∈((S.atS i).to++[(q,k)]).map Prod.fst:=hp
   rw [aG] at hp
   show (p,mm)∈(S.atS i).wt++(S.atS i).mv.map λm=>(q,m)
   rcases aD.mp hp with z|z
   ·exact aJ _ (h.wt i p mm z hm)
   ·have z:p=q:=ao.mp z
    rw [z]
    exact aK _ (av.mpr ⟨mm,hm,rfl⟩)
  ·rw [en i e] at hp hm ⊢;exact h.wt i p mm hp hm
 ·by_cases e:i=j
  ·subst e
   rw [ej] at hx ⊢
   have hx:x∈(S.atS i).wt++(S.atS i).mv.map λm=>(q,m):=hx
   show x.1∈((S.atS i).to++[(q,k)]).map Prod.fst/\x.2∈(S.atS i).mv
   rw [aG]
   rcases aD.mp hx with z|z
   ·exact ⟨aJ _ (h.wt' i x z).1,(h.wt' i x z).2⟩
   ·obtain ⟨mm,hm,rfl⟩:=av.mp z
    exact ⟨aK _ (by simp),hm⟩
  ·rw [en i e] at hx ⊢;exact h.wt' i x hx
 ·have hx':x∈(S.atS i).wt.take (S.atS i).lk:=by
   by_cases e:i=j
   ·subst e
    rw [ej] at hx
    have hx:x∈((S.atS i).wt++(S.atS i).mv.map λm=>(q,m)).take (S.atS i).lk:=hx
    rwa [bJ (h.lk i)] at hx
   ·rwa [en i e] at hx
  have hw:=h.wt' i x (bv hx')
  have g:=mp.good (i:=i) hw.1 (h.good i x hx')
  rw [hmd,m.at_ (h.fine.mvlt hw.2)]
  exact g
 ·rw [emv i,hmd,B8 h.fine m]
  exact h.ind i
theorem ChS.Inv.mover {n:Nat}{S S2:ChS}{i k:Nat}{t:List Nat}(h:S.Inv n)(hi:i<n)(m:P2 n S S2 k t)(b:S2.Backs n)(tT:TM.IsT n t)(tF:TM.Fix i t)(dn:∀g,g+1=i->TM.Grp n (S.chn.mv g) t)(ng:¬TM.Grp n (S.chn.mv i) t) :
  ChS.Inv n { S2 with st:=S.st.set i ((S.atS i).putM k) }/\TM.Chn.MoreM n S.chn (ChS.chn { S2 with st:=S.st.set i ((S.atS i).putM k) }) i t:=by
 obtain ⟨S',hS'⟩:∃S',S'=({ S2 with st:=S.st.set i ((S.atS i).putM k) }:ChS):=⟨_,rfl⟩
 rw [←hS']
 have hst:S'.st=S.st.set i ((S.atS i).putM k):=by rw [hS']
 have hmd:S'.md=S2.md:=by rw [hS']
 have hi':i<S.st.length:=by rw [h.len];exact hi
 have ea:=λg=>ChS.atS_set hst hi' g
 have eto:∀g,(S'.atS g).to=(S.atS g).to:=λg=>by
  rw [ea g]
  by_cases e:g=i
  ·subst e;rw [if_pos rfl];rfl
  ·rw [if_neg e]
 have ej:S'.atS i=(S.atS i).putM k:=by rw [ea i,if_pos rfl]
 have en:∀g,g≠i->S'.atS g=S.atS g:=λg e=>by rw [ea g,if_neg e]
 have mp:TM.Chn.MoreM n S.chn S'.chn i t:=by
  refine ⟨hi,tT,tF,dn,λg s=>?_,funext λg=>((m.chn h.fine hmd).2 (eto g)).1,funext λg=>((m.chn h.fine hmd).2 (eto g)).2⟩
  by_cases e:g=i
  ·subst e
   show (∃k'∈(S'.atS g).mv,S'.md.getD k' []=s)↔((∃k'∈(S.atS g).mv,S.md.getD k' []=s)∨(g=g/\s=t))
   rw [ej,hmd]
   constructor
   ·rintro ⟨k',hk,z⟩
    rcases aD.mp hk with y|y
    ·exact .inl ⟨k',y,by rw [←m.at_ (h.fine.mvlt y)];exact z⟩
    ·rw [ao.mp y,m.at'] at z
     exact .inr ⟨rfl,z.symm⟩
   ·rintro (⟨k',hk,z⟩|⟨_,z⟩)
    ·exact ⟨k',aJ _ hk,by rw [m.at_ (h.fine.mvlt hk)];exact z⟩
    ·exact ⟨k,aK _ (by simp),by rw [m.at',z]⟩
  ·rw [(m.chn h.fine hmd).1 (by rw [en g e])]
   exact ⟨.inl,λz=>z.elim id λy=>absurd y.1 e⟩
 refine ⟨⟨?_,?_,?_,mp.ok h.ok,λg=>?_,λg=>?_,λg p mm hp hm=>?_,λg x hx=>?_,λg x hx=>?_,λg=>?_⟩,mp⟩
 ·rw [hS']
  refine ChS.Fine.set m (λx hx=>⟨(h.fine.tolt hx).1,m.lift (h.fine.tolt hx).2⟩) (λx hx=>?_)
  rcases aD.mp hx with z|z
  ·exact m.lift (h.fine.mvlt z)
  ·rw [ao.mp z];exact m.lt
 ·rw [hS'];exact b.of rfl rfl rfl rfl
 ·rw [hst,bL];exact h.len
 ·by_cases e:g=i
  ·subst e
   rw [ej]
   have:=h.lk g
   show (S.atS g).lk<=((S.atS g).wt++_).length
   rw [af];lia
  ·rw [en g e];exact h.lk g
 ·by_cases e:g=i
  ·subst e
   rw [ej]
   have:=h.wl g
   show ((S.atS g).wt++(S.atS g).to.map λx=>(x.1,k)).length=(S.atS g).to.length*((S.atS g).mv++[k]).length
   rw [af,ae,af,bD,Nat.mul_add,dU,this]
  ·rw [en g e];exact h.wl g
 ·by_cases e:g=i
  ·subst e
   rw [ej] at hp hm ⊢
   have hp:p∈(S.atS g).to.map Prod.fst:=hp
   have hm:mm∈(S.atS g).mv++[k]:=hm
   show (p,mm)∈(S.atS g).wt++(S.atS g).to.map λx=>(x.1,k)
   rcases aD.mp hm with z|z
   ·exact aJ _ (h.wt g p mm hp z)
   ·rw [ao.mp z]
    obtain ⟨y,hy,e⟩:=av.mp hp
    exact aK _ (av.mpr ⟨y,hy,by rw [e]⟩)
  ·rw [en g e] at hp hm ⊢;exact h.wt g p mm hp hm
 ·by_cases e:g=i
  ·subst e
   rw [ej] at hx ⊢
   have hx:x∈(S.atS g).wt++(S.atS g).to.map λx=>(x.1,k):=hx
   show x.1∈(S.atS g).to.map Prod.fst/\x.2∈(S.atS g).mv++[k]
   rcases aD.mp hx with z|z
   ·exact ⟨(h.wt' g x z).1,aJ _ (h.wt' g x z).2⟩
   ·obtain ⟨y,hy,rfl⟩:=av.mp z
    exact ⟨av.mpr ⟨y,hy,rfl⟩,by simp⟩
  ·rw [en g e] at hx ⊢;exact h.wt' g x hx
 ·have hx':x∈(S.atS g).wt.take (S.atS g).lk:=by
   by_cases e:g=i
   ·subst e
    rw [ej] at hx
    have hx:x∈((S.atS g).wt++(S.atS g).to.map λx=>(x.1,k)).take (S.atS g).lk:=hx
    rwa [bJ (h.lk g)] at hx
   ·rwa [en g e] at hx
  have hw:=h.wt' g x (bv hx')
  have gd:=mp.good h.ok (h.good g x hx')
  rw [hmd,m.at_ (h.fine.mvlt hw.2)]
  exact gd
 ·by_cases e:g=i
  ·subst e
   rw [ej,hmd]
   show TM.Indep n (((S.atS g).mv++[k]).map λk=>S2.md.getD k [])
   rw [aG,B8 h.fine m]
   show TM.Indep n (_++[S2.md.getD k []])
   rw [m.at']
   refine (h.ind g).snoc λz=>ng ?_
   refine TM.Grp.mono (h.ok.mvT g) (λs hs=>TM.Grp.of (h.ok.mvT g) ?_) z
   obtain ⟨y,hy,e⟩:=av.mp hs
   exact ⟨y,hy,e⟩
  ·rw [en g e,hmd,B8 h.fine m];exact h.ind g
theorem ChS.putK_bl {n:Nat}{S:ChS}(i:Nat):(S.putK n i).2.bl.length<=S.bl.length+1:=by
 unfold ChS.putK
 cases e:atN S.bl i with
 | some k=>exact bX _
 | none =>
  show (S.bl++[_]).length<=_
  rw [af];exact ah _
theorem ChS.atS_st {S S2:ChS}(e:S2.st=S.st)(j:Nat):S2.atS j=S.atS j:=by unfold ChS.atS;rw [e]
theorem ChS.Inv.grow {n:Nat}{S S2:ChS}{k:Nat}{t:List Nat}(h:S.Inv n)(m:P2 n S S2 k t)(b:S2.Backs n):S2.Inv n/\S2.chn=S.chn:=by
 have ea:=λj=>ChS.atS_st m.st j
 have ec:S2.chn=S.chn:=by
  have h1:S2.chn.mv=S.chn.mv:=funext λj=>(m.chn h.fine rfl).1 (by rw [ea j])
  have h2:S2.chn.ring=S.chn.ring:=funext λj=>((m.chn h.fine rfl).2 (by rw [ea j])).1
  have h3:S2.chn.up=S.chn.up:=funext λj=>((m.chn h.fine rfl).2 (by rw [ea j])).2
  show TM.Chn.mk S2.chn.mv S2.chn.ring S2.chn.up=TM.Chn.mk S.chn.mv S.chn.ring S.chn.up
  rw [h1,h2,h3]
 refine ⟨⟨m.fine,b,by rw [m.st];exact h.len,by rw [ec];exact h.ok,λj=>by rw [ea j];exact h.lk j,λj=>by rw [ea j];exact h.wl j,λj=>by rw [ea j];exact h.wt j,λj=>by rw [ea j];exact h.wt' j,λj x hx=>?_,λj=>by rw [ea j,B8 h.fine m];exact h.ind j⟩,ec⟩
 rw [ea j] at hx
 rw [ec,m.at_ (h.fine.mvlt (h.wt' j x (bv hx)).2)]
 exact h.good j x hx
def ChS.looks (S:ChS):Nat:=(S.st.map StS.lk).sum
theorem zi1 {l:List StS}:∀{j:Nat} {a s:StS},l[j]?=some s->((l.set j a).map StS.lk).sum+s.lk=(l.map StS.lk).sum+a.lk:=by
 induction l with
 | nil=>intro j a s h;cases h
 | cons x r ih =>
  intro j a s h
  cases j with
  | zero =>
   obtain rfl:x=s:=by simpa using h
   simp only [List.set_cons_zero,aI,dI];lia
  | succ j =>
   have h':r[j]?=some s:=by simpa using h
   have:=ih (a:=a) h'
   simp only [List.set_cons_succ,aI,dI];lia
theorem ChS.get_at {S:ChS}{j:Nat}(h:j<S.st.length):S.st[j]?=some (S.atS j):=by rw [ChS.atS_of (aa h)];exact aa h
theorem ChS.look_looks {S:ChS}{j:Nat}(h:j<S.st.length):(S.look j).looks=S.looks+1:=by
 have q:=zi1 (a:={ S.atS j with lk:=(S.atS j).lk+1 }) (ChS.get_at h)
 unfold ChS.looks ChS.look
 dsimp only at q ⊢
 lia
structure ChS.Next (n:Nat) (S S':ChS) (j:Nat) (b:Bool):Prop where
 inv:S'.Inv n
 looks:S'.looks=S.looks+1
 done:∀i,j<i->i<n->(b=true->i≠j+1)->S.Done i->S'.Done i
 more:b=true->j+1<n
 mv0:S'.chn.mv 0=S.chn.mv 0
 src:S'.src=S.src
 ln:S'.ln.length<=S.ln.length+3
 bl:S'.bl.length<=S.bl.length+1
theorem ChS.Inv.found {n:Nat}{S:ChS}{j:Nat}{x:Nat×Nat}(h:S.Inv n)(hj:j<n)(hx:(S.atS j).wt[(S.atS j).lk]?=some x)(d:∀i,j<i->i<n->S.Done i):ChS.Next n S ((S.found n j x.1 x.2).1.look j) j (S.found n j x.1 x.2).2:=by
 have hj':j<S.st.length:=by rw [h.len];exact hj
 have hw:=h.wt' j x (au hx)
 have hp:x.1∈S.chn.ring j:=hw.1
 have hs:S.chn.mv j (S.md.getD x.2 []):=⟨x.2,hw.2,rfl⟩
 have hm:=h.fine.mvlt hw.2
 obtain ⟨k,hk⟩:∃k,atN (S.atS j).to x.1=some k:=by
  cases e:atN (S.atS j).to x.1 with
  | none=>exact absurd hp (R1.mp e)
  | some k=>exact ⟨k,rfl⟩
 have hkl:k<S.md.length:=(h.fine.tolt (R0 hk)).2
 have eu:S.chn.up j x.1=S.md.getD k []:=ChS.chn_up hk
 have hu:=h.ok.upT hj hp
 have hsT:=h.ok.mvT j _ hs
 have mb:=h.fine.putB hkl hm
 obtain ⟨b1,bl1⟩:=h.bks.putB h.fine.lnl hkl hm
 have et:(TM.beh (S.md.getD k []) (S.md.getD x.2 [])).getD j 0=(S.md.getD x.2 []).getD x.1 0:=by
  rw [←eu,TM.beh_get hu hj,h.ok.upTo j _ hj hp]
 have gt:TM.Grp n (S.chn.mv j) (TM.beh (S.md.getD k []) (S.md.getD x.2 [])):=by
  rw [←eu]
  exact .mul (h.ok.upG j _ hj hp) hs
 have tT:TM.IsT n (TM.beh (S.md.getD k []) (S.md.getD x.2 [])):=gt.isT (h.ok.mvT j)
 obtain ⟨R,ef⟩:∃R,R=S.found n j x.1 x.2:=⟨_,rfl⟩
 rw [←ef]
 unfold ChS.found at ef
 simp only [hk,cY,et] at ef
 cases ea:atN (S.atS j).to ((S.md.getD x.2 []).getD x.1 0) with
 | none =>
  rw [ea] at ef
  dsimp only at ef
  have hqn:(S.md.getD x.2 []).getD x.1 0<n:=hsT.step_lt (h.ok.lt j _ hj hp)
  obtain ⟨iv,mp⟩:=h.place hj mb b1 ea hqn gt et
  have g:=mp.new h.ok hp hs (by rw [eu])
  rw [ef]
  dsimp only
  generalize hS':({ (S.putB k x.2).2 with st:=S.st.set j ((S.atS j).putP ((S.md.getD x.2 []).getD x.1 0) (S.putB k x.2).1) }:ChS)=S' at iv mp g
  have hst:S'.st=S.st.set j ((S.atS j).putP ((S.md.getD x.2 []).getD x.1 0) (S.putB k x.2).1):=by rw [←hS']
  have hmd:S'.md=(S.putB k x.2).2.md:=by rw [←hS']
  have at':=λi=>ChS.atS_set hst hj' i
  have ej:S'.atS j=(S.atS j).putP ((S.md.getD x.2 []).getD x.1 0) (S.putB k x.2).1:=by rw [at' j,if_pos rfl]
  have hj2:j<S'.st.length:=by rw [hst,bL];exact hj'
  have hx':(S'.atS j).wt[(S'.atS j).lk]?=some x:=by
   rw [ej]
   show ((S.atS j).wt++_)[(S.atS j).lk]?=some x
   rw [aS (ag.mp hx).1]
   exact hx
  refine ⟨iv.look hj hx' (by rw [hmd,mb.at_ hm];exact g),?_,λi hi hin _ dn=>?_,λz=>(by cases z),?_,(by show S'.src=_;rw [←hS'];exact ChS.putB_src _ _),?_,?_⟩
  ·rw [ChS.look_looks hj2]
   have q:=zi1 (a:=(S.atS j).putP ((S.md.getD x.2 []).getD x.1 0) (S.putB k x.2).1) (ChS.get_at hj')
   have q2:((S.atS j).putP ((S.md.getD x.2 []).getD x.1 0) (S.putB k x.2).1).lk=(S.atS j).lk:=rfl
   unfold ChS.looks
   rw [hst]
   lia
  ·unfold ChS.Done
   rw [ChS.look_at hj2,if_neg (by lia),at' i,if_neg (by lia)]
   exact dn
  ·rw [ChS.look_chn hj2,mp.emv]
  ·show S'.ln.length<=_
   have:=mb.len
   rw [←hS']
   show (S.putB k x.2).2.ln.length<=_
   lia
  ·show S'.bl.length<=_
   rw [←hS']
   show (S.putB k x.2).2.bl.length<=_
   rw [bl1];lia
 | some k2 =>
  rw [ea] at ef
  dsimp only at ef
  have hq:(S.md.getD x.2 []).getD x.1 0∈S.chn.ring j:=C5 ea
  have eu2:S.chn.up j ((S.md.getD x.2 []).getD x.1 0)=S.md.getD k2 []:=ChS.chn_up ea
  have hk2:k2<S.md.length:=(h.fine.tolt (R0 ea)).2
  obtain ⟨sg,sf⟩:=h.ok.schreier hj hp hs hq
  rw [eu,eu2] at sg sf
  have hyT:=sg.isT (h.ok.mvT j)
  have hh:=h.holds (j:=j+1) (by lia) (λi hi hin=>d i (by lia) hin) hyT sf
  cases hi:(N1 n S.md (S.st.drop (j+1)) (j+1) (TM.beh (TM.beh (S.md.getD k []) (S.md.getD x.2 [])) (TM.bk n (S.md.getD k2 []))) []).isSome with
  | true =>
   rw [hi,if_pos rfl] at ef
   rw [ef]
   dsimp only
   have g:S.chn.Good n j x.1 (S.md.getD x.2 []):=⟨hq,by rw [eu,eu2];exact hh.mp hi⟩
   refine ⟨h.look hj hx g,ChS.look_looks hj',λi hi hin _ dn=>?_,λz=>(by cases z),?_,rfl,?_,?_⟩
   ·unfold ChS.Done
    rw [ChS.look_at hj',if_neg (by lia)]
    exact dn
   ·rw [ChS.look_chn hj']
   ·exact cw _ _
   ·exact bX _
  | false =>
   rw [hi,if_neg (by decide)] at ef
   rw [ef]
   dsimp only
   have ng:¬TM.Grp n (S.chn.mv (j+1)) (TM.beh (TM.beh (S.md.getD k []) (S.md.getD x.2 [])) (TM.bk n (S.md.getD k2 []))):=λz=>by
    rw [hh.mpr z] at hi;cases hi
   have hj1:j+1<n:=by
    rcases cX (j+1) n with q|q
    ·exact q
    ·rw [cQ (by rw [h.len];exact q),N1] at hi
     cases hi
   obtain ⟨mk,b2⟩:=mb.fine.putK b1 (mb.lift hk2)
   have bl2:=ChS.putK_bl (n:=n) (S:=(S.putB k x.2).2) k2
   have m3:=mk.fine.putB (mk.lift mb.lt) mk.lt
   have src3:(((S.putB k x.2).2.putK n k2).2.putB (S.putB k x.2).1 ((S.putB k x.2).2.putK n k2).1).2.src=S.src:=by rw [ChS.putB_src,ChS.putK_src,ChS.putB_src]
   obtain ⟨b3,bl3⟩:=b2.putB mk.fine.lnl (mk.lift mb.lt) mk.lt
   obtain ⟨iv1,ec1⟩:=h.grow mb b1
   obtain ⟨iv2,ec2⟩:=iv1.grow mk b2
   rw [ec1] at ec2
   rw [mk.at_ mb.lt,mb.at',mk.at',mb.at_ hk2] at m3
   generalize hS2:((S.putB k x.2).2.putK n k2).2=S2 at m3 b3 bl3 iv2 ec2 mk bl2 ef src3
   generalize hS3:S2.putB (S.putB k x.2).1 ((S.putB k x.2).2.putK n k2).1=S3 at m3 b3 bl3 ef src3
   have st2:S2.st=S.st:=by rw [mk.st,mb.st]
   have as2:=λi=>ChS.atS_st st2 i
   obtain ⟨iv,mp⟩:=iv2.mover hj1 m3 b3 hyT sf (λg hg=>by
    obtain rfl:g=j:=by lia
    rw [ec2];exact sg) (by rw [ec2];exact ng)
   rw [as2,st2] at iv mp
   have g:=mp.new iv2.ok (j:=j) (p:=x.1) (s:=S.md.getD x.2 []) (by rw [ec2];exact hq) (by rw [ec2,eu,eu2])
   generalize hS':({ S3.2 with st:=S.st.set (j+1) ((S.atS (j+1)).putM S3.1) }:ChS)=S' at iv mp g
   have hj1':j+1<S.st.length:=by rw [h.len];exact hj1
   have hst:S'.st=S.st.set (j+1) ((S.atS (j+1)).putM S3.1):=by rw [←hS']
   have hmd:S'.md=S3.2.md:=by rw [←hS']
   have at':=λi=>ChS.atS_set hst hj1' i
   have hj2:j<S'.st.length:=by rw [hst,bL];exact hj'
   have ej:S'.atS j=S.atS j:=by rw [at' j,if_neg (by lia)]
   refine ⟨iv.look hj (by rw [ej];exact hx) (by rw [hmd,m3.at_ (mk.lift (mb.lift hm)),mk.at_ (mb.lift hm),mb.at_ hm];exact g),?_,λi hi hin hne dn=>?_,λ_=>hj1,?_,(by show S'.src=_;rw [←hS'];exact src3),?_,?_⟩
   ·rw [ChS.look_looks hj2]
    have q:=zi1 (a:=(S.atS (j+1)).putM S3.1) (ChS.get_at hj1')
    have q2:((S.atS (j+1)).putM S3.1).lk=(S.atS (j+1)).lk:=rfl
    unfold ChS.looks
    rw [hst]
    lia
   ·unfold ChS.Done
    rw [ChS.look_at hj2,if_neg (by lia),at' i,if_neg (hne rfl)]
    exact dn
   ·rw [ChS.look_chn hj2,←ec2]
    funext s
    exact propext ((mp.emv 0 s).trans ⟨λz=>z.elim id λy=>absurd y.1 (by lia),.inl⟩)
   ·show S'.ln.length<=_
    have:=mb.len
    have:=mk.len
    have:=m3.len
    rw [←hS']
    show S3.2.ln.length<=_
    lia
   ·show S'.bl.length<=_
    rw [←hS']
    show S3.2.bl.length<=_
    rw [bl3]
    rw [bl1] at bl2
    exact bl2
theorem ChS.look_putB {S:ChS}(j k m:Nat):(S.look j).putB k m=((S.putB k m).1,(S.putB k m).2.look j):=by
 unfold ChS.putB
 by_cases e1:k=0
 ·rw [if_pos e1,if_pos e1]
 ·rw [if_neg e1,if_neg e1]
  by_cases e2:m=0
  ·rw [if_pos e2,if_pos e2]
  ·rw [if_neg e2,if_neg e2];rfl
theorem ChS.look_putK {S:ChS}(n j k:Nat):(S.look j).putK n k=((S.putK n k).1,(S.putK n k).2.look j):=by
 unfold ChS.putK
 have e:(S.look j).bl=S.bl:=rfl
 rw [e]
 cases q:atN S.bl k with
 | some k'=>rfl
 | none=>rfl
theorem ChS.found_look {n:Nat}{S:ChS}{j:Nat}(hj:j<S.st.length)(p m:Nat):(S.look j).found n j p m=((S.found n j p m).1.look j,(S.found n j p m).2):=by
 have ej:(S.look j).atS j={ S.atS j with lk:=(S.atS j).lk+1 }:=by rw [ChS.look_at hj,if_pos rfl]
 have ej1:(S.look j).atS (j+1)=S.atS (j+1):=by rw [ChS.look_at hj,if_neg (by lia)]
 have emd:(S.look j).md=S.md:=rfl
 have ed:(S.look j).st.drop (j+1)=S.st.drop (j+1):=List.drop_set_of_lt (by lia)
 unfold ChS.found
 simp only [ej,ej1,emd,ed,ChS.look_putB,ChS.look_putK]
 cases ea:atN (S.atS j).to ((TM.beh (S.md.getD ((atN (S.atS j).to p).getD 0) []) (S.md.getD m [])).getD j 0) with
 | none =>
  dsimp only
  refine Prod.ext ?_ rfl
  generalize hX:((atN (S.atS j).to p).getD 0)=k
  generalize hS':({ (S.putB k m).2 with st:=S.st.set j ((S.atS j).putP ((TM.beh (S.md.getD k []) (S.md.getD m [])).getD j 0) (S.putB k m).1) }:ChS)=S'
  have hst:S'.st=S.st.set j ((S.atS j).putP ((TM.beh (S.md.getD k []) (S.md.getD m [])).getD j 0) (S.putB k m).1):=by rw [←hS']
  have e:=ChS.atS_set hst hj j
  rw [if_pos rfl] at e
  show _=({ S' with st:=S'.st.set j { S'.atS j with lk:=(S'.atS j).lk+1 } }:ChS)
  rw [e,hst,List.set_set]
  show ({ (S.putB k m).2.look j with st:=(S.st.set j _).set j _ }:ChS)=_
  rw [List.set_set,←hS']
  rfl
 | some k2 =>
  dsimp only
  by_cases hi:(N1 n S.md (S.st.drop (j+1)) (j+1) (TM.beh (TM.beh (S.md.getD ((atN (S.atS j).to p).getD 0) []) (S.md.getD m [])) (TM.bk n (S.md.getD k2 []))) []).isSome=true
  ·rw [if_pos hi,if_pos hi]
  ·rw [if_neg hi,if_neg hi]
   dsimp only
   refine Prod.ext ?_ rfl
   dsimp only
   generalize (((S.putB ((atN (S.atS j).to p).getD 0) m).2.putK n k2).2.putB (S.putB ((atN (S.atS j).to p).getD 0) m).1 ((S.putB ((atN (S.atS j).to p).getD 0) m).2.putK n k2).1)=Y
   show ({ Y.2 with st:=(S.st.set j _).set (j+1) _ }:ChS)=({ Y.2 with st:=(S.st.set (j+1) _).set j _ }:ChS)
   rw [List.set_comm _ _ (show j≠j+1 by lia)]
   have e:(({ Y.2 with st:=S.st.set (j+1) ((S.atS (j+1)).putM Y.1) }:ChS)).atS j=S.atS j:=by
    unfold ChS.atS
    rw [ax,bO (by lia),ax]
   rw [e]
theorem xn8 {l:List StS}{b:Nat}(h:∀s∈l,s.lk<=b):(l.map StS.lk).sum<=l.length*b:=by
 induction l with
 | nil=>simp
 | cons x r ih =>
  have h1:=h x ay
  have h2:=ih λs hs=>h s (aw _ hs)
  rw [aI,dI,aC,fJ,dS]
  lia
theorem ChS.Inv.wt_le {n:Nat}{S:ChS}(hn:n<=60)(h:S.Inv n){j:Nat}(hj:j<n):(S.atS j).wt.length<=21240:=by
 rw [h.wl j]
 have h1:=h.ring hj
 have h2:=h.few hn j
 exact aQ (eF (aQ h1 hn) h2) (by decide)
theorem ChS.mem_at {S:ChS}{s:StS}(h:s∈S.st):∃j,j<S.st.length/\S.atS j=s:=by
 obtain ⟨j,hj,e⟩:=bW.mp h
 exact ⟨j,hj,by rw [ChS.atS_of (aa hj),e]⟩
theorem ChS.Inv.looks_le {n:Nat}{S:ChS}(hn:n<=60)(h:S.Inv n):S.looks<=1274400:=by
 have q:=xn8 (l:=S.st) (b:=21240) λs hs=>by
  obtain ⟨j,hj,rfl⟩:=ChS.mem_at hs
  exact aQ (h.lk j) (h.wt_le hn (by rw [←h.len];exact hj))
 unfold ChS.looks
 rw [h.len] at q
 have:n*21240<=60*21240:=eY _ hn
 lia
theorem ChS.Inv.few_look {n:Nat}{S:ChS}{c j:Nat}(hn:n<=60)(h:S.Inv n)(hj:j<n)(hc:c<=1000)(b1:S.ln.length<=3*S.looks+c)(b2:S.bl.length<=S.looks+c):(S.look j).Few/\(S.look j).Fine n:=by
 have q:=h.looks_le hn
 have hj':j<S.st.length:=by rw [h.len];exact hj
 refine ⟨⟨by show S.ln.length<_;lia,by show S.bl.length<_;lia,λs hs=>?_⟩,ChS.Fine.set (P2.refl h.fine h.fine.pos) (λy hy=>h.fine.tolt hy) (λy hy=>h.fine.mvlt hy)⟩
 obtain ⟨i,hi,rfl⟩:=ChS.mem_at hs
 have hi:i<n:=by
  have e:(S.look j).st.length=S.st.length:=bL
  rw [e,h.len] at hi;exact hi
 obtain ⟨e1,e2,e3⟩:=ChS.look_mv hj' i
 rw [e1,e2,e3]
 have h1:=h.few hn i
 have h2:=h.ring hi
 have h3:=h.wt_le hn hi
 exact ⟨by lia,by lia,by lia⟩
theorem zw4 {X:Cx}{C:Addr}{k j:Nat}{m:Str}{ps:List Str}{sp:Sp}{o:Expr}{ta:TE}{apos pos:Pos}{pl:Sem Bool}(c:Cls X.K C)(kn:Q0 X.prog X.w X.K X.mg X.base k C m ps sp)(hr:c4 j X.A)(ho:PE X o ta)(hj:k<=j:=by decide)
  (ht:eval (.Call (.Attribute o m apos) [] [] pos) X.env=(do
   let v ←eval o X.env
   standAt apos.atName
   let (f,first) ←holding [v] (getMethod v m pl)
   callWith pos f first (backTo pos (starEach [] X.env)) (backToKw pos (keywordEach [] X.env))):=by rfl):PE X (.Call (.Attribute o m apos) [] [] pos) (yd4 C m sp [] E0 ta yq2):=by
 obtain ⟨f,fd,G,hm,hb⟩:=kn
 exact yw2 ho c hm G (hr.mono hj) hb .nil yl1 ht
def yd1 (cC cB cS:Addr):Sp:=λvs H Q _=>∃(A:ChA) (S:ChS) (n c:Nat),vs=[.ref A.c]/\u8 cC cB cS n H A S/\S.Inv n/\0<n/\n<=60/\(∀i,0<i->i<n->S.Done i)/\c<=1000/\S.ln.length<=3*S.looks+c/\S.bl.length<=S.looks+c /\
 ∀(S':ChS) (H':Hp),y8 A.all H H'->u8 cC cB cS n H' A S'->S'.Inv n->(∀i,i<n->S'.Done i)->S'.chn.mv 0=S.chn.mv 0->S'.src=S.src->S'.ln.length<=3*S'.looks+c->S'.bl.length<=S'.looks+c->Q .non H'
theorem Z2:x9 ["self","level","pair"] ["self"] (z9 Q2):=scq
theorem zg1 {cC cB cS:Addr}(F:Fun K "settle" "Chain.settle" Q2 f fd) (B:Blt mg) (cc:g7 K cC K3) (cs:g7 K cS zb1) (MN:Q0 P w K mg base 1 cS "next_pair" ["self"] (yy0 cS)) (MF:Q0 P w K mg base 4 cC "found_mover" ["self","level","place","mover"] (ym0 cC cB cS)):u6 P w K mg base CX0 5 f fd ["self"] (yd1 cC cB cS):=by
 refine F.ok Z2 (λvs H Q E h=>?_) (λcdv Ar outer sh H vs Q E hr h=>?_)
 ·obtain ⟨A,S,n,c,rfl,_⟩:=h
  rfl
 obtain ⟨A,S,n,c,rfl,ch0,iv0,hn0,hn,dn0,hc,bl0,bb0,q⟩:=h
 obtain ⟨M,hM⟩:∃M:Nat,M=2000000:=⟨_,rfl⟩
 refine ⟨_,y0 (u5 (i:=1) Z2.nd rfl (Or.inl rfl) y6)
  (z8 (yb8 PassesOwn.never (p7 xi0 (pv 1) y6 (o7 _))
   (y0 (u5 (i:=2) Z2.nd rfl (Or.inl rfl) (zw4 cs.cls MN hr (i4 p5 (w8 (pv 0) rfl) (pv 1) (λ_ _=>rfl))))
   (z8 (n6 (zl9 (xm2 (pv 2))) (z8 (yw7 (i:=1) Z2.nd rfl (Or.inl rfl) y6 xj9))
    (z8 (n6 (X8 (S8 cc.cls MF hr (pv 0) (z0 (pv 1) (z0 (i4 zc6 (pv 2) y6 (λ_ _=>rfl)) (z0 (i4 zc6 (pv 2) y6 (λ_ _=>rfl)) z5)))))
     (z8 (yw7 (i:=1) Z2.nd rfl (Or.inl rfl) y6 xj8)) u0))))))),?_⟩
 refine ⟨λm σ H2=>∃(S2:ChS) (lv:Int) (v2:Option V),σ=[some (.ref A.c),some (.int lv),v2]/\-1<=lv/\lv<n/\m=2*(M-S2.looks)+(lv+1).toNat/\y8 A.all H H2/\u8 cC cB cS n H2 A S2/\S2.Inv n/\(∀i:Nat,lv<i->i<n->S2.Done i)/\(S2.chn.mv 0=S.chn.mv 0/\S2.src=S.src)/\S2.ln.length<=3*S2.looks+c/\S2.bl.length<=S2.looks+c,⟨_,S,0,none,rfl,by lia,by lia,rfl,y8.refl,ch0,iv0,λi hi hin=>dn0 i (by lia) hin,⟨rfl,rfl⟩,bl0,bb0⟩,?_⟩
 rintro m σ H2 ⟨S2,lv,v2,rfl,l1,l2,rfl,fr,ch,iv,dn,e0,b1,b2⟩
 refine ⟨_,rfl,_,_,rfl,rfl,_,rfl,?_⟩
 by_cases hlv:0<=lv
 ·rw [decide_eq_true hlv]
  refine i7 ⟨_,λσ' H' z=>z,?_⟩
  obtain ⟨j,rfl⟩:∃j:Nat,lv=(j:Int):=⟨lv.toNat,by lia⟩
  have hj:j<n:=by lia
  have hj':j<S2.st.length:=by rw [iv.len];exact hj
  obtain ⟨dxc,hc'⟩:=ch.c
  obtain ⟨a,hAj⟩:∃a,A.st[j]?=some a:=⟨_,aa (by rw [ch.len.1];exact hj)⟩
  have hs:=ChS.get_at hj'
  have st:=ch.st j a _ hAj hs
  obtain ⟨dxs,hsa⟩:=st.a
  have ga:atI (A.st.map λs=>V.ref s.a) ((j:Nat):Int)=some (V.ref a.a):=k8 (by rw [ar,hAj];rfl)
  have hwl:=iv.wt_le hn hj
  refine ⟨_,rfl,A.c,cC,dxc,_,_,rfl,hc',cc.cls,cc.no "steps" (by decide),rfl,_,rfl,A.l,_,_,_,rfl,rfl,SqL.of ch.l,ga,a.a,dxs,_,rfl,hsa,rfl,a,n,S2.md,j,S2.atS j,rfl,st,iv.lk j,by lia,λhd=>?_,λx r H3 hx hr3 fr3 st3=>?_⟩
  ·refine ⟨_,rfl,_,rfl,i7 ?_⟩
   refine ⟨_,rfl,_,_,rfl,rfl,?_⟩
   refine ⟨_,?_,S2,(j:Int)-1,_,rfl,by lia,by lia,rfl,fr,ch,iv,λi hi hin=>?_,e0,b1,b2⟩
   ·lia
   ·by_cases e:i=j
    ·rw [e];exact hd
    ·exact dn i (by lia) hin
  ·have nt:∀x∈[a.a],x∈a.all/\∀xs,H2 x≠some (.tup xs):=λx hx=>by
    rw [ao.mp hx]
    exact ⟨by simp [StA.all],λxs z=>by rw [hsa] at z;cases z⟩
   have ch3:u8 cC cB cS n H3 A (S2.look j):=ch.step hAj nt fr3 st3
   obtain ⟨few,fin⟩:=iv.few_look hn hj hc b1 b2
   have hw:=iv.wt' j x (au hx)
   have nx:=iv.found hj hx (λi hi hin=>dn i (by lia) hin)
   have fl:=ChS.found_look (n:=n) (S:=S2) hj' x.1 x.2
   obtain ⟨k,hk⟩:∃k,atN (S2.atS j).to x.1=some k:=by
    cases e:atN (S2.atS j).to x.1 with
    | none=>exact absurd hw.1 (R1.mp e)
    | some k=>exact ⟨k,rfl⟩
   have hm:=iv.fine.mvlt hw.2
   obtain ⟨dxc3,hc3⟩:=ch3.c
   have lks:=nx.inv.looks_le hn
   have lke:=nx.looks
   refine ⟨_,rfl,_,rfl,m9 ?_⟩
   refine ⟨_,rfl,A.c,dxc3,_,rfl,hc3,rfl,_,rfl,_,rfl,r,_,_,_,rfl,rfl,SqT.of hr3,rfl,_,rfl,r,_,_,_,rfl,rfl,SqT.of hr3,rfl,A,S2.look j,n,j,x.1,x.2,k,rfl,ch3,fin,iv.bks.of rfl rfl rfl rfl,few,hn,hj,by rw [(ChS.look_mv hj' j).2.1];exact hk,hm,λH4 fr4 ch4=>?_⟩
   rw [fl] at ch4 ⊢
   have fr':y8 A.all H H4:=fr.trans ((fr3.allS hAj λx hx=>(nt x hx).1).trans fr4)
   have ln':((S2.found n j x.1 x.2).1.look j).ln.length<=3*((S2.found n j x.1 x.2).1.look j).looks+c:=by have:=nx.ln;lia
   have bl':((S2.found n j x.1 x.2).1.look j).bl.length<=((S2.found n j x.1 x.2).1.look j).looks+c:=by have:=nx.bl;lia
   have e0':=And.intro (nx.mv0.trans e0.1) (nx.src.trans e0.2)
   refine ⟨_,rfl,?_⟩
   cases hb:(S2.found n j x.1 x.2).2 with
   | true =>
    have hj1:=nx.more hb
    refine i7 ?_
    refine ⟨_,rfl,_,_,rfl,rfl,?_⟩
    refine ⟨_,?_,(S2.found n j x.1 x.2).1.look j,(j:Int)+1,_,rfl,by lia,by lia,rfl,fr',ch4,nx.inv,λi hi hin=>nx.done i (by lia) hin (λ_=>by lia) (dn i (by lia) hin),e0',ln',bl'⟩
    lia
   | false =>
    refine m9 ?_
    refine ⟨_,?_,(S2.found n j x.1 x.2).1.look j,(j:Int),_,rfl,by lia,by lia,rfl,fr',ch4,nx.inv,λi hi hin=>nx.done i (by lia) hin (λz=>by rw [hb] at z;cases z) (dn i (by lia) hin),e0',ln',bl'⟩
    lia
 ·rw [decide_eq_false hlv]
  refine m9 ?_
  exact q S2 H2 fr ch iv (λi hi=>dn i (by lia) hi) e0.1 e0.2 b1 b2
theorem zy8 {J:It}{fr:List Nat}{te:CT TE}{σ:St}{H1:Hp}{Q:Addr->Hp->Prop}{β:Type}(adr:β->Addr)(foot:β->List Addr)(R:Hp->Nat->β->Prop){n:Nat}(hz:n<=sizeLine)
  (hR:∀(H H':Hp) (D:Addr) (xs:List V) (i:Nat) (b:β),R H i b->H D=some (.lst xs)->y8 [D] H H'->D∉foot b->R H' i b)
  (hstop:∀H,y4 H1 H->J.stop n H) (hgo:∀i H,i<n->y4 H1 H->J.go i H)
  (turn:∀(i:Nat) H x H2,i<n->y4 H1 H->J.yld i H x H2->H2=H/\∀C₀ s₀ H₀ fp,te C₀ s₀ H₀ fp (some x::fr.map λj=>(σ[j]?).getD none) H λv H4=>y4 H H4/\∃b,v=.ref (adr b)/\R H4 i b/\(foot b).Nodup/\∀a∈foot b,H a=none/\∃o,H4 a=some o)
  (fin:∀D H (bs:List β),H1 D=none->y4 H1 H->H D=some (.lst (bs.map λb=>V.ref (adr b)))->bs.length=n->(∀i b,bs[i]?=some b->R H i b)->(bs.map foot).flatten.Nodup->(∀b∈bs,∀a∈foot b,H1 a=none/\a≠D)->Q D H) :
  ∀D,H1 D=none->∃W:Nat->Nat->St->Hp->Prop,(∃m,W 0 m (L4 1 fr σ) (upd H1 D (.lst [])))/\∀i m σ' H',W i m σ' H' ->
  (J.stop i H'/\Q D H')∨(J.go i H'/\∀x H2,J.yld i H' x H2->∀C₀ s₀ H₀ fp,O3 0 x σ' H2 λσ3 H3=>∃N:VK,te C₀ s₀ H₀ fp σ3 H3 N/\∀y H4,N y H4 ->
   ∃ys m',H4 D=some (.lst ys)/\ys.length<sizeLine/\m'<m/\W (i+1) m' σ3 (upd H4 D (.lst (ys++[y])))):=by
 intro D hD
 refine ⟨λi m σ' H'=>m=n-i/\i<=n/\y4 H1 H'/\(∃bs:List β,H' D=some (.lst (bs.map λb=>V.ref (adr b)))/\bs.length=i/\(∀k b,bs[k]?=some b->R H' k b)/\(bs.map foot).flatten.Nodup/\∀b∈bs,∀a∈foot b,H1 a=none/\a≠D/\∃o,H' a=some o)/\∃z,σ'=z::fr.map λj=>(σ[j]?).getD none,
  ⟨n,rfl,aR _,z7 hD _,⟨[],z4,rfl,λk b h=>(by simp at h),by simp,λb h=>(by cases h)⟩,none,rfl⟩,?_⟩
 rintro i m σ' H' ⟨rfl,hi,sm,⟨bs,hl,hbl,hRs,hnd,hft⟩,z,rfl⟩
 by_cases hlt:i<n
 ·refine .inr ⟨hgo i H' hlt sm,λx H2 yl C₀ s₀ H₀ fp=>?_⟩
  obtain ⟨e,tn⟩:=turn i H' x H2 hlt sm yl
  subst e
  refine ⟨_,tn C₀ s₀ H₀ fp,λv H4 ⟨s4,b,hv,hRb,hndb,hfb⟩=>?_⟩
  subst hv
  have hD4:=s4 _ _ hl
  have fr4:y8 [D] H4 (upd H4 D (.lst (bs.map (λb=>V.ref (adr b))++[V.ref (adr b)]))):=y8.upd y8.refl (by simp) _
  have hDb:D∉foot b:=λh=>by
   have:=(hfb D h).1
   rw [hl] at this
   cases this
  have hDbs:∀c∈bs,D∉foot c:=λc hc h=>(hft c hc D h).2.1 rfl
  refine ⟨_,n-(i+1),hD4,by rw [ae,hbl];lia,by lia,rfl,hlt,λc o e=>?_,⟨bs++[b],by rw [z4,aG];rfl,by rw [af,hbl];rfl,λk c hk=>?_,?_,λc hc a ha=>?_⟩,_,rfl⟩
  ·rw [z6 (y9 e hD)]
   exact s4 _ _ (sm _ _ e)
  ·by_cases hk':k<bs.length
   ·rw [aS hk'] at hk
    have hm:=hDbs c (au hk)
    exact hR H4 _ D _ k c (hR _ H4 D _ k c (hRs k c hk) hl (y4.frame s4) hm) hD4 fr4 hm
   ·have e:k=bs.length:=by
     have:=(ag.mp hk).1
     rw [af,bD] at this
     lia
    subst e
    rw [aU (ah _),cU] at hk
    obtain rfl:b=c:=by simpa using hk
    rw [hbl]
    exact hR H4 _ D _ i b hRb hD4 fr4 hDb
  ·rw [aG,dv]
   refine bo.mpr ⟨hnd,by simpa using hndb,λa ha c hc e=>?_⟩
   subst e
   obtain ⟨l,hl1,hl2⟩:=aF.mp ha
   obtain ⟨b',hb',rfl⟩:=av.mp hl1
   obtain ⟨o,ho⟩:=(hft b' hb' a hl2).2.2
   have hc':a∈foot b:=by simpa using hc
   have:=(hfb a hc').1
   rw [ho] at this
   cases this
  ·rcases aD.mp hc with w|w
   ·obtain ⟨h1,h2,o,ho⟩:=hft c w a ha
    exact ⟨h1,h2,o,by rw [z6 h2];exact s4 _ _ ho⟩
   ·rw [ao.mp w] at ha
    obtain ⟨h1,o,ho⟩:=hfb a ha
    have hne:a≠D:=λz=>by
     rw [z,hl] at h1
     cases h1
    exact ⟨sm.free h1,hne,o,by rw [z6 hne];exact ho⟩
 ·have e:i=n:=by lia
  subst e
  exact .inl ⟨hstop H' sm,fin D H' bs hD sm hl hbl hRs hnd λb hb a ha=>⟨(hft b hb a ha).1,(hft b hb a ha).2.1⟩⟩
def ChS.new (n:Nat)(sr:Nat->List Nat):ChS:=⟨[.still],[List.range n],[(0,0)],(List.range n).map λi=>⟨[],[(i,0)],[],0⟩,sr⟩
def yl9 (cB:Addr):Sp:=λvs H Q _=>∃(x dx:Addr) (n:Nat),vs=[.ref x,.int n]/\H x=some (.ins cB dx [])/\n<=60 /\
 ∀(ll lm d:Addr) (H':Hp),[ll,lm,d].Nodup->H ll=none->H lm=none->H d=none->y8 [x] H H'->(∀(A:ChA) (sr:Nat->List Nat),A.b=x->A.ll=ll->A.lm=lm->A.d=d->V7 cB H' A (ChS.new n sr))->Q .non H'
theorem zd9:x9 ["self","many"] ["self","many"] (z9 T6):=scq
theorem zv1 {cB:Addr}(F:Fun K "__init__" "Book.__init__" T6 f fd) (B:Blt mg) (cb:g7 K cB zi7) (KS:l9 P w K mg base 1 "still" ["many"] zi0) (GS:zf8 mg "STILL_LINE" (.int 0)):u6 P w K mg base CX0 2 f fd ["self","many"] (yl9 cB):=by
 refine F.ok zd9 (λvs H Q E h=>?_) (λcdv Ar outer s H vs Q E hr h=>?_)
 ·obtain ⟨x,dx,n,rfl,_⟩:=h
  rfl
 obtain ⟨x,dx,n,rfl,hx,hn,q⟩:=h
 have hz:=X3
 refine ⟨_,y0 (d6 (pv 0) (l7 (z0 (Q1 (z0 M1 z5)) z5)) rfl)
  (y0 (d6 (pv 0) (l7 (z0 (o0 KS hr rfl (z0 (pv 1) z5)) z5)) rfl)
  (z8 (d6 (pv 0) (zw3 (zl5 (A7 GS rfl) (A7 GS rfl) zw8) rfl rfl (dQ _ _) (by decide)) rfl))),?_⟩
 refine ⟨(by show 1<=sizeLine;lia),λlr hlr=>?_⟩
 have s1:=z7 hlr (.tup [V.str "still"])
 have e1:(upd H lr (.tup [V.str "still"])) lr=some (.tup (lnV .still)):=z4
 generalize upd H lr (.tup [V.str "still"])=H1 at s1 e1 ⊢
 refine ⟨(by show 1<=sizeLine;lia),λll hll=>?_⟩
 have s2:=s1.trans (z7 hll (.lst [V.ref lr]))
 have e2:=z7 hll (.lst [V.ref lr]) _ _ e1
 have l2:(upd H1 ll (.lst [V.ref lr])) ll=some (.lst [V.ref lr]):=z4
 have hll0:H ll=none:=s1.free hll
 generalize upd H1 ll (.lst [V.ref lr])=H2 at s2 e2 l2 ⊢
 refine ⟨_,rfl,x,cB,dx,[],rfl,s2 _ _ hx,cb.cls,cb.no "lines" (by decide),by decide,?_⟩
 have xlr:lr≠x:=λz=>by subst z;rw [hx] at hlr;cases hlr
 have xll:ll≠x:=λz=>by subst z;rw [hx] at hll0;cases hll0
 have f3:y8 [x] H (upd H2 x (.ins cB dx (Y0 "lines" (V.ref ll) []))):=y8.upd (y4.frame s2) (by simp) _
 have x3:(upd H2 x (.ins cB dx (Y0 "lines" (V.ref ll) []))) x=some (.ins cB dx [("lines",.ref ll)]):=z4
 have e3:(upd H2 x (.ins cB dx (Y0 "lines" (V.ref ll) []))) lr=some (.tup (lnV .still)):=by rw [z6 xlr];exact e2
 have l3:(upd H2 x (.ins cB dx (Y0 "lines" (V.ref ll) []))) ll=some (.lst [V.ref lr]):=by rw [z6 xll];exact l2
 generalize upd H2 x (.ins cB dx (Y0 "lines" (V.ref ll) []))=H3 at f3 x3 e3 l3 ⊢
 refine ⟨_,rfl,n,rfl,by lia,λtr H4 htr s4 ht4=>⟨(by show 1<=sizeLine;lia),λlm hlm=>?_⟩⟩
 have s5:=s4.trans (z7 hlm (.lst [V.ref tr]))
 have t5:=z7 hlm (.lst [V.ref tr]) _ _ ht4
 have m5:(upd H4 lm (.lst [V.ref tr])) lm=some (.lst [V.ref tr]):=z4
 have hlm3:H3 lm=none:=s4.free hlm
 generalize upd H4 lm (.lst [V.ref tr])=H5 at s5 t5 m5 ⊢
 have x5:=s5 _ _ x3
 refine ⟨_,rfl,x,cB,dx,_,rfl,x5,cb.cls,cb.no "made" (by decide),by (show 1<1000;decide),?_⟩
 have xtr:tr≠x:=λz=>by subst z;rw [x3] at htr;cases htr
 have xlm:lm≠x:=λz=>by subst z;rw [x3] at hlm3;cases hlm3
 have ml:lm≠ll:=λz=>by subst z;rw [l3] at hlm3;cases hlm3
 have f6:y8 [x] H (upd H5 x (.ins cB dx (Y0 "made" (V.ref lm) [("lines",.ref ll)]))):=y8.upd (f3.trans (y4.frame s5)) (by simp) _
 have x6:(upd H5 x (.ins cB dx (Y0 "made" (V.ref lm) [("lines",.ref ll)]))) x=some (.ins cB dx [("lines",.ref ll),("made",.ref lm)]):=by rw [z4];rfl
 have e6:(upd H5 x (.ins cB dx (Y0 "made" (V.ref lm) [("lines",.ref ll)]))) lr=some (.tup (lnV .still)):=by rw [z6 xlr];exact s5 _ _ e3
 have l6:(upd H5 x (.ins cB dx (Y0 "made" (V.ref lm) [("lines",.ref ll)]))) ll=some (.lst [V.ref lr]):=by rw [z6 xll];exact s5 _ _ l3
 have t6:(upd H5 x (.ins cB dx (Y0 "made" (V.ref lm) [("lines",.ref ll)]))) tr=some (.tup (tI (List.range n))):=by rw [z6 xtr];exact t5
 have m6:(upd H5 x (.ins cB dx (Y0 "made" (V.ref lm) [("lines",.ref ll)]))) lm=some (.lst [V.ref tr]):=by rw [z6 xlm];exact m5
 have nn:H lm=none:=by
  cases e:H lm with
  | none=>rfl
  | some o =>
   have:=f3 lm o (by simpa using xlm) e
   rw [this] at hlm3
   cases hlm3
 generalize upd H5 x (.ins cB dx (Y0 "made" (V.ref lm) [("lines",.ref ll)]))=H6 at f6 x6 e6 l6 t6 m6 ⊢
 refine λd hd=>⟨z4,[(Sum.inl 0,V.int 0)],rfl,by decide,?_⟩
 have s7:y4 H6 (upd (upd H6 d (.dK [])) d (.dK (X5 [] [(Sum.inl 0,V.int 0)]))):=λb o h=>by
  have hb:=y9 h hd
  rw [z6 hb,z6 hb];exact h
 have d7:(upd (upd H6 d (.dK [])) d (.dK (X5 [] [(Sum.inl 0,V.int 0)]))) d=some (.dK (kI [(0,0)])):=by rw [z4];rfl
 generalize upd (upd H6 d (.dK [])) d (.dK (X5 [] [(Sum.inl 0,V.int 0)]))=H7 at s7 d7 ⊢
 refine ⟨_,rfl,x,cB,dx,_,rfl,s7 _ _ x6,cb.cls,cb.no "back_lines" (by decide),by (show 2<1000;decide),?_⟩
 have xd:d≠x:=λz=>by subst z;rw [x6] at hd;cases hd
 have dl:d≠ll:=λz=>by subst z;rw [l6] at hd;cases hd
 have dm:d≠lm:=λz=>by subst z;rw [m6] at hd;cases hd
 have nd:H d=none:=by
  cases e:H d with
  | none=>rfl
  | some o =>
   have:=f6 d o (by simpa using xd) e
   rw [this] at hd
   cases hd
 refine q ll lm d _ (by simp;exact ⟨⟨Ne.symm ml,Ne.symm dl⟩,Ne.symm dm⟩) hll0 nn nd (y8.upd (f6.trans (y4.frame s7)) (by simp) _) λA sr hAb hAl hAm hAd=>?_
 subst hAb hAl hAm hAd
 refine ⟨⟨dx,by rw [z4];rfl⟩,⟨[lr],by rw [z6 xll];exact s7 _ _ l6,.cons ?_ .nil⟩,⟨[tr],by rw [z6 xlm];exact s7 _ _ m6,.cons ?_ .nil⟩,by rw [z6 xd];exact d7,rfl⟩
 ·rw [z6 xlr];exact s7 _ _ e6
 ·rw [z6 xtr];exact s7 _ _ t6
def ym6 (cS:Addr):Sp:=λvs H Q _=>∃(x dx:Addr) (i n:Nat),vs=[.ref x,.int i,.int n]/\H x=some (.ins cS dx [])/\n<=60 /\
 ∀(A:StA) (H':Hp),A.a=x->A.all.Nodup->(∀a∈A.all,a≠x->H a=none)->y8 [x] H H'->c5 cS n [List.range n] H' A i ⟨[],[(i,0)],[],0⟩->Q .non H'
theorem ze1:x9 ["self","place","many"] ["self","place","many"] (z9 T7):=scq
theorem m7 {H:Hp}{x cS dx:Addr}{fs:List (Str×V)}{f:Str}{v:V}{fs':List (Str×V)}(e:Y0 f v fs=fs'):∃H',upd H x (.ins cS dx (Y0 f v fs))=H'/\y8 [x] H H'/\H' x=some (.ins cS dx fs'):=⟨_,rfl,y8.upd y8.refl (by simp) _,by rw [z4,e]⟩
theorem y8.keep {x b:Addr}{o:HO}{H H':Hp}(fr:y8 [x] H H')(h:H b=some o)(hb:b≠x):H' b=some o:=fr b o (by simpa using hb) h
theorem y8.free {x b:Addr}{H H':Hp}(fr:y8 [x] H H')(h:H' b=none)(hb:b≠x):H b=none:=by
 cases e:H b with
 | none=>rfl
 | some o =>
  rw [fr.keep e hb] at h
  cases h
theorem zv4 {cS:Addr}(F:Fun K "__init__" "Step.__init__" T7 f fd) (B:Blt mg) (cs:g7 K cS zb1) (KS:l9 P w K mg base 1 "still" ["many"] zi0) (GS:zf8 mg "STILL_LINE" (.int 0)):u6 P w K mg base CX0 2 f fd ["self","place","many"] (ym6 cS):=by
 refine F.ok ze1 (λvs H Q E h=>?_) (λcdv Ar outer s H vs Q E hr h=>?_)
 ·obtain ⟨x,dx,i,n,rfl,_⟩:=h
  rfl
 obtain ⟨x,dx,i,n,rfl,hx,hn,q⟩:=h
 have hz:=X3
 refine ⟨_,y0 (d6 (pv 0) (pv 1) rfl)
  (y0 (d6 (pv 0) (l7 z5) rfl)
  (y0 (d6 (pv 0) (zw3 (zl5 (pv 1) (A7 GS rfl) zw8) rfl rfl (dQ _ _) (by decide)) rfl)
  (y0 (d6 (pv 0) (zw3 (zl5 (pv 1) (o0 KS hr rfl (z0 (pv 2) z5)) zw8) rfl rfl (dQ _ _) (by decide)) rfl)
  (y0 (d6 (pv 0) (l7 z5) rfl)
  (z8 (d6 (pv 0) y6 rfl)))))),?_⟩
 refine ⟨_,rfl,_,rfl,x,cS,dx,[],rfl,hx,cs.cls,cs.no "place" (by decide),by decide,?_⟩
 obtain ⟨H1,g1,f1,x1⟩:=m7 (H:=H) (x:=x) (cS:=cS) (dx:=dx) (f:="place") (v:=V.int i) (fs:=[]) (fs':=[("place",.int i)]) rfl
 rw [g1]
 refine ⟨(by show 0<=sizeLine;lia),λm hm=>?_⟩
 have s2:=z7 hm (.lst [])
 have m2:(upd H1 m (.lst [])) m=some (.lst []):=z4
 generalize upd H1 m (.lst [])=H2 at s2 m2 ⊢
 have xm:m≠x:=λz=>by subst z;rw [x1] at hm;cases hm
 refine ⟨_,rfl,x,cS,dx,_,rfl,s2 _ _ x1,cs.cls,cs.no "movers" (by decide),by (show 1<1000;decide),?_⟩
 obtain ⟨H3,g3,f3,x3⟩:=m7 (H:=H2) (x:=x) (cS:=cS) (dx:=dx) (f:="movers") (v:=V.ref m) (fs:=[("place",.int i)]) (fs':=[("place",.int i),("movers",.ref m)]) rfl
 rw [g3]
 have F3:y8 [x] H H3:=(f1.trans (y4.frame s2)).trans f3
 have m3:=f3.keep m2 xm
 refine λd hd=>⟨_,rfl,z4,[(Sum.inl (i:Int),V.int 0)],rfl,(by show 1<=15;decide),?_⟩
 have s4:y4 H3 (upd (upd H3 d (.dK [])) d (.dK (X5 [] [(Sum.inl (i:Int),V.int 0)]))):=λb o h=>by
  have hb:=y9 h hd
  rw [z6 hb,z6 hb];exact h
 have d4:(upd (upd H3 d (.dK [])) d (.dK (X5 [] [(Sum.inl (i:Int),V.int 0)]))) d=some (.dK (kI [(i,0)])):=by rw [z4];rfl
 generalize upd (upd H3 d (.dK [])) d (.dK (X5 [] [(Sum.inl (i:Int),V.int 0)]))=H4 at s4 d4 ⊢
 have xd:d≠x:=λz=>by subst z;rw [x3] at hd;cases hd
 have dm:d≠m:=λz=>by subst z;rw [m3] at hd;cases hd
 refine ⟨_,rfl,x,cS,dx,_,rfl,s4 _ _ x3,cs.cls,cs.no "line_to" (by decide),by (show 2<1000;decide),?_⟩
 obtain ⟨H5,g5,f5,x5⟩:=m7 (H:=H4) (x:=x) (cS:=cS) (dx:=dx) (f:="line_to") (v:=V.ref d) (fs:=[("place",.int i),("movers",.ref m)]) (fs':=[("place",.int i),("movers",.ref m),("line_to",.ref d)]) rfl
 rw [g5]
 have F5:y8 [x] H H5:=(F3.trans (y4.frame s4)).trans f5
 have m5:=f5.keep (s4 _ _ m3) xm
 have d5:=f5.keep d4 xd
 refine λe he=>⟨_,rfl,_,rfl,n,rfl,by lia,λtr H6 htr s6 ht6=>⟨s6 _ _ z4,[(Sum.inl (i:Int),V.ref tr)],rfl,(by show 1<=15;decide),?_⟩⟩
 have s6':y4 H5 H6:=(z7 he _).trans s6
 have te:tr≠e:=λz=>by subst z;rw [z4] at htr;cases htr
 have s7:y4 H5 (upd H6 e (.dK (X5 [] [(Sum.inl (i:Int),V.ref tr)]))):=λb o h=>by
  rw [z6 (y9 h he)];exact s6' _ _ h
 have e7:(upd H6 e (.dK (X5 [] [(Sum.inl (i:Int),V.ref tr)]))) e=some (.dK (kR [(i,0)] [tr])):=by rw [z4];rfl
 have t7:(upd H6 e (.dK (X5 [] [(Sum.inl (i:Int),V.ref tr)]))) tr=some (.tup (tI (List.range n))):=by rw [z6 te];exact ht6
 generalize upd H6 e (.dK (X5 [] [(Sum.inl (i:Int),V.ref tr)]))=H7 at s7 e7 t7 ⊢
 have xe:e≠x:=λz=>by subst z;rw [x5] at he;cases he
 have em:e≠m:=λz=>by subst z;rw [m5] at he;cases he
 have ed:e≠d:=λz=>by subst z;rw [d5] at he;cases he
 have xt:tr≠x:=λz=>by
  subst z
  rw [z6 te,x5] at htr
  cases htr
 refine ⟨_,rfl,x,cS,dx,_,rfl,s7 _ _ x5,cs.cls,cs.no "back_from" (by decide),by (show 3<1000;decide),?_⟩
 obtain ⟨H8,g8,f8,x8⟩:=m7 (H:=H7) (x:=x) (cS:=cS) (dx:=dx) (f:="back_from") (v:=V.ref e) (fs:=[("place",.int i),("movers",.ref m),("line_to",.ref d)]) (fs':=[("place",.int i),("movers",.ref m),("line_to",.ref d),("back_from",.ref e)]) rfl
 rw [g8]
 have F8:y8 [x] H H8:=(F5.trans (y4.frame s7)).trans f8
 have m8:=f8.keep (s7 _ _ m5) xm
 have d8:=f8.keep (s7 _ _ d5) xd
 have e8:=f8.keep e7 xe
 have t8:=f8.keep t7 xt
 refine ⟨(by show 0<=sizeLine;lia),λwa hw=>?_⟩
 have s9:=z7 hw (.lst [])
 have w9:(upd H8 wa (.lst [])) wa=some (.lst []):=z4
 generalize upd H8 wa (.lst [])=H9 at s9 w9 ⊢
 have xw:wa≠x:=λz=>by subst z;rw [x8] at hw;cases hw
 have wm:wa≠m:=λz=>by subst z;rw [m8] at hw;cases hw
 have wd:wa≠d:=λz=>by subst z;rw [d8] at hw;cases hw
 have we:wa≠e:=λz=>by subst z;rw [e8] at hw;cases hw
 refine ⟨_,rfl,x,cS,dx,_,rfl,s9 _ _ x8,cs.cls,cs.no "waiting" (by decide),by (show 4<1000;decide),?_⟩
 obtain ⟨H10,g10,f10,x10⟩:=m7 (H:=H9) (x:=x) (cS:=cS) (dx:=dx) (f:="waiting") (v:=V.ref wa) (fs:=[("place",.int i),("movers",.ref m),("line_to",.ref d),("back_from",.ref e)]) (fs':=[("place",.int i),("movers",.ref m),("line_to",.ref d),("back_from",.ref e),("waiting",.ref wa)]) rfl
 rw [g10]
 have F10:y8 [x] H H10:=(F8.trans (y4.frame s9)).trans f10
 refine ⟨_,rfl,x,cS,dx,_,rfl,x10,cs.cls,cs.no "looked_at" (by decide),by (show 5<1000;decide),?_⟩
 obtain ⟨H11,g11,f11,x11⟩:=m7 (H:=H10) (x:=x) (cS:=cS) (dx:=dx) (f:="looked_at") (v:=V.int 0) (fs:=[("place",.int i),("movers",.ref m),("line_to",.ref d),("back_from",.ref e),("waiting",.ref wa)]) (fs':=[("place",.int i),("movers",.ref m),("line_to",.ref d),("back_from",.ref e),("waiting",.ref wa),("looked_at",.int 0)]) rfl
 rw [g11]
 have F11:y8 [x] H H11:=F10.trans f11
 have k:∀{b:Addr} {o:HO},H8 b=some o->b≠x->H11 b=some o:=λh hb=>f11.keep (f10.keep (s9 _ _ h) hb) hb
 have w11:H11 wa=some (.lst []):=f11.keep (f10.keep w9 xw) xw
 have nd0:H d=none:=F3.free hd xd
 have nm0:H m=none:=f1.free hm xm
 have ne0:H e=none:=F5.free he xe
 have nw0:H wa=none:=F8.free hw xw
 refine q ⟨x,m,d,e,wa⟩ H11 rfl ?_ ?_ F11 ⟨⟨dx,x11⟩,k m8 xm,k d8 xd,⟨[tr],k e8 xe,.cons ?_ .nil⟩,⟨[],w11,.nil⟩⟩
 ·simp only [StA.all,aZ,aq,aV,not_or,or_false,bx,not_false_eq_true,eA,and_true]
  exact ⟨⟨Ne.symm xm,Ne.symm xd,Ne.symm xe,Ne.symm xw⟩,⟨Ne.symm dm,Ne.symm em,Ne.symm wm⟩,⟨Ne.symm ed,Ne.symm wd⟩,Ne.symm we⟩
 ·intro a ha hax
  simp only [StA.all,aq,aV,or_false,bx] at ha
  rcases ha with h|h|h|h|h
  ·exact absurd h hax
  ·rw [h];exact nm0
  ·rw [h];exact nd0
  ·rw [h];exact ne0
  ·rw [h];exact nw0
 ·show H11 tr=some (.tup (tI (TM.bk n (List.range n))))
  rw [TM.bk_still]
  exact k t8 xt
theorem ChS.new_at {sr:Nat->List Nat}(n j:Nat):(ChS.new n sr).atS j=if j<n then ⟨[],[(j,0)],[],0⟩ else ⟨[],[],[],0⟩:=by
 unfold ChS.atS ChS.new
 rw [ax,ar]
 by_cases h:j<n
 ·rw [bg h,if_pos h];rfl
 ·rw [aH (by rw [aN];lia),if_neg h];rfl
theorem ChS.new_mv {sr:Nat->List Nat}(n j:Nat):((ChS.new n sr).atS j).mv=[]:=by
 rw [ChS.new_at]
 by_cases h:j<n
 ·rw [if_pos h]
 ·rw [if_neg h]
theorem ChS.new_wt {sr:Nat->List Nat}(n j:Nat):((ChS.new n sr).atS j).wt=[]/\((ChS.new n sr).atS j).lk=0:=by
 rw [ChS.new_at]
 by_cases h:j<n
 ·rw [if_pos h];exact ⟨rfl,rfl⟩
 ·rw [if_neg h];exact ⟨rfl,rfl⟩
theorem ChS.new_nomv {sr:Nat->List Nat}(n j:Nat)(s:List Nat):¬(ChS.new n sr).chn.mv j s:=λ⟨k,hk,_⟩=>by
 rw [ChS.new_mv] at hk
 cases hk
theorem ChS.new_ring {sr:Nat->List Nat}{n j:Nat}(h:j<n):(ChS.new n sr).chn.ring j=[j]:=by
 show ((ChS.new n sr).atS j).to.map Prod.fst=[j]
 rw [ChS.new_at,if_pos h]
 rfl
theorem ChS.new_up {sr:Nat->List Nat}{n j:Nat}(h:j<n)(p:Nat):(ChS.new n sr).chn.up j p=List.range n:=by
 show (ChS.new n sr).md.getD ((atN ((ChS.new n sr).atS j).to p).getD 0) []=_
 have e:(atN ((ChS.new n sr).atS j).to p).getD 0=0:=by
  rw [ChS.new_at,if_pos h]
  unfold atN
  by_cases q:j=p
  ·rw [cN (by simpa using q)];rfl
  ·rw [cO (by simpa using q)];rfl
 rw [e]
 rfl
theorem ChS.new_inv {sr:Nat->List Nat}(n:Nat):(ChS.new n sr).Inv n where
 fine:=by
  refine ⟨⟨λt ht=>?_,λs hs x hx=>?_,λs hs k hk=>?_⟩,rfl,dR,rfl⟩
  ·rw [ao.mp ht];exact TM.IsT.range n
  ·obtain ⟨i,hi,rfl⟩:=av.mp hs
   rw [ao.mp hx]
   exact ⟨aX.mp hi,dR⟩
  ·obtain ⟨i,hi,rfl⟩:=av.mp hs
   cases hk
 bks:=by
  refine ⟨λi k h=>?_,λi l t h1 h2=>?_⟩
  ·have h:atN [(0,0)] i=some k:=h
   have hm:=R0 h
   have e:=ao.mp hm
   have e1:i=0:=congrArg Prod.fst e
   have e2:k=0:=congrArg Prod.snd e
   subst e1;subst e2
   refine ⟨dR,dR,?_⟩
   show List.range n=TM.bk n (List.range n)
   rw [TM.bk_still]
  ·have h1:[TM.Ln.still][i]?=some l:=h1
   have h2:[List.range n][i]?=some t:=h2
   match i,h1,h2 with
   | 0,h1,h2 =>
    cases h1
    cases h2
    rfl
 len:=by show ((List.range n).map _).length=n;rw [ae,aN]
 ok:=by
  refine ⟨λj s h=>absurd h (ChS.new_nomv n j s),λj s h=>absurd h (ChS.new_nomv n j s),λj s h=>absurd h (ChS.new_nomv n (j+1) s),λj s _=>ChS.new_nomv n j s,λj h=>?_,λj p h hp=>?_,λj h=>?_,λj p h hp=>?_,λj p h hp=>?_,λj h=>ChS.new_up h j⟩
  ·rw [ChS.new_ring h];simp
  ·rw [ChS.new_ring h] at hp;rw [ao.mp hp];exact h
  ·rw [ChS.new_ring h];simp
  ·rw [ChS.new_up h];exact .one
  ·rw [ChS.new_ring h] at hp;rw [ChS.new_up h,TM.still_get h,ao.mp hp]
 lk:=λj=>by rw [(ChS.new_wt n j).2];exact aR _
 wl:=λj=>by rw [(ChS.new_wt n j).1,ChS.new_mv];simp
 wt:=λj p m _ hm=>by rw [ChS.new_mv] at hm;cases hm
 wt':=λj x hx=>by rw [(ChS.new_wt n j).1] at hx;cases hx
 good:=λj x hx=>by rw [(ChS.new_wt n j).1,List.take_nil] at hx;cases hx
 ind:=λj=>by
  rw [ChS.new_mv]
  intro i s h
  simp at h
theorem ChS.new_done {sr:Nat->List Nat}(n j:Nat):(ChS.new n sr).Done j:=by
 unfold ChS.Done
 rw [(ChS.new_wt n j).1,(ChS.new_wt n j).2]
 rfl
def yc9 (cC cB cS:Addr):Sp:=λvs H Q _=>∃(x dx:Addr) (n:Nat),vs=[.ref x,.int n]/\H x=some (.ins cC dx [])/\n<=60 /\
 ∀(A:ChA) (H':Hp),A.c=x->(∀a∈A.all,a≠x->H a=none)->y8 [x] H H'->(∀sr:Nat->List Nat,u8 cC cB cS n H' A (ChS.new n sr))->Q .non H'
theorem za3:x9 ["self","many"] ["self","many"] (z9 U3):=scq
theorem zo5 {cC cB cS:Addr}(F:Fun K "__init__" "Chain.__init__" U3 f fd) (B:Blt mg) (cc:g7 K cC K3) (KB:zi3 P w K mg base 2 cB "Book" ["self","many"] (yl9 cB)) (KT:zi3 P w K mg base 2 cS "Step" ["self","place","many"] (ym6 cS)):u6 P w K mg base CX0 4 f fd ["self","many"] (yc9 cC cB cS):=by
 refine F.ok za3 (λvs H Q E h=>?_) (λcdv Ar outer s H vs Q E hr h=>?_)
 ·obtain ⟨x,dx,n,rfl,_⟩:=h
  rfl
 obtain ⟨x,dx,n,rfl,hx,hn,q⟩:=h
 have hz:=X3
 refine ⟨_,y0 (d6 (pv 0) (M0 KB hr rfl (z0 (pv 1) z5)) rfl)
  (z8 (d6 (pv 0) (Y5 [1] ["place","many"] rfl (zd4 rfl B.range (z0 (pv 1) z5)) (λ_ _ _ _=>M0 KT hr rfl (z0 (pv 0) (z0 (pv 1) z5)))) rfl)),?_⟩
 refine ⟨_,rfl,λb db hb hdb hne=>⟨b,db,n,rfl,z4,hn,λll lm d H1 hnd hll hlm hd fr bk=>⟨rfl,?_⟩⟩⟩
 have s0:y4 H (upd (upd H db (.own b)) b (.ins cB db [])):=λc o h=>by
  rw [z6 (y9 h hb),z6 (y9 h hdb)];exact h
 have fre:∀{c:Addr},(upd (upd H db (.own b)) b (.ins cB db [])) c=none->H c=none:=λ{c} h=>s0.free h
 have cb:∀{c:Addr},(upd (upd H db (.own b)) b (.ins cB db [])) c=none->c≠b:=λ{c} h z=>by
  rw [z,z4] at h
  cases h
 have s1:y4 H H1:=λc o h=>fr c o (by simpa using y9 h hb) (s0 _ _ h)
 have xb:b≠x:=λz=>by subst z;rw [hx] at hb;cases hb
 refine ⟨_,rfl,x,cC,dx,[],rfl,s1 _ _ hx,cc.cls,cc.no "book" (by decide),by decide,?_⟩
 obtain ⟨H2,g2,f2,x2⟩:=m7 (H:=H1) (x:=x) (cS:=cC) (dx:=dx) (f:="book") (v:=V.ref b) (fs:=[]) (fs':=[("book",.ref b)]) rfl
 rw [g2]
 have F2:y8 [x] H H2:=(y4.frame s1).trans f2
 have xl:ll≠x:=λz=>by have:=fre hll;rw [z,hx] at this;cases this
 have xm:lm≠x:=λz=>by have:=fre hlm;rw [z,hx] at this;cases this
 have xd:d≠x:=λz=>by have:=fre hd;rw [z,hx] at this;cases this
 obtain ⟨A0,hA0⟩:∃A0:ChA,A0=⟨x,b,ll,lm,d,x,[]⟩:=⟨_,rfl⟩
 have bk1:=λsr=>bk A0 sr (by rw [hA0]) (by rw [hA0]) (by rw [hA0]) (by rw [hA0])
 have hA0b:A0.b=b:=by rw [hA0]
 have hA0l:A0.ll=ll:=by rw [hA0]
 have hA0m:A0.lm=lm:=by rw [hA0]
 have hA0d:A0.d=d:=by rw [hA0]
 have keep:∀{H3:Hp},y8 [x] H1 H3->∀sr:Nat->List Nat,V7 cB H3 A0 (ChS.new n sr):=λ{H3} fr3 sr=>by
  obtain ⟨⟨dxb,h1⟩,⟨las,h2,h2'⟩,⟨mas,h3,h3'⟩,h4,h5⟩:=id (bk1 sr)
  have hx1:=s1 _ _ hx
  have kt:∀{c:Addr} {xs:List V},H1 c=some (.tup xs)->H3 c=some (.tup xs):=λ{c xs} e=>fr3.keep e (λz=>by subst z;rw [hx1] at e;cases e)
  exact ⟨⟨dxb,fr3.keep h1 (by rw [hA0b];exact xb)⟩,⟨las,fr3.keep h2 (by rw [hA0l];exact xl),Paired.imp' (λ_ _ z=>kt z) h2'⟩,⟨mas,fr3.keep h3 (by rw [hA0m];exact xm),Paired.imp' (λ_ _ z=>kt z) h3'⟩,fr3.keep h4 (by rw [hA0d];exact xd),h5⟩
 have bk2:=keep f2 λ_=>[]
 refine ⟨_,rfl,(n:Int),rfl,by lia,by lia,?_⟩
 rw [show ((n:Int)).toNat=n by lia]
 refine zy8 (J:=Itr 0 n) StA.a StA.all (λH i b=>c5 cS n [List.range n] H b i ⟨[],[(i,0)],[],0⟩) (n:=n) (by lia) (λH3 H4 D xs i b st hD fr hDb=>st.frame fr λy hy=>?_) (λ_ _=>ah _) (λi _ hi _=>hi) ?_ ?_
 ·rw [ao.mp hy]
  exact ⟨hDb,λys z=>by rw [hD] at z;cases z⟩
 ·rintro i H3 v H4 hi s3 ⟨rfl,rfl⟩
  refine ⟨rfl,λ_ _ _ _=>?_⟩
  rw [show (0:Int)+(i:Int)=(i:Int) by lia]
  refine ⟨_,rfl,_,rfl,λy dy hy hdy hyne=>⟨y,dy,i,n,rfl,z4,hn,λA H5 hA nd free fr5 st=>⟨rfl,λc o h=>?_,A,by rw [hA],st,nd,λa ha=>⟨?_,?_⟩⟩⟩⟩
  ·exact fr5 c o (by simpa using y9 h hy) (by rw [z6 (y9 h hy),z6 (y9 h hdy)];exact h)
  ·by_cases e:a=y
   ·rw [e];exact hy
   ·have:=free a ha e
    rw [z6 e] at this
    by_cases e2:a=dy
    ·rw [e2];exact hdy
    ·rwa [z6 e2] at this
  ·obtain ⟨⟨dxs,h1⟩,h2,h3,⟨bs,h4,_⟩,⟨ws,h5,_⟩⟩:=st
   simp only [StA.all,aq,aV,or_false,bx] at ha
   rcases ha with e|e|e|e|e <;> rw [e]
   ·exact ⟨_,h1⟩
   ·exact ⟨_,h2⟩
   ·exact ⟨_,h3⟩
   ·exact ⟨_,h4⟩
   ·exact ⟨_,h5⟩
 ·intro D H3 bs hD s3 hl hbl hst hnd2 hfree
  have hDx:D≠x:=λz=>by subst z;rw [x2] at hD;cases hD
  refine ⟨_,rfl,x,cC,dx,_,rfl,s3 _ _ x2,cc.cls,cc.no "steps" (by decide),by (show 1<1000;decide),?_⟩
  obtain ⟨H4,g4,f4,x4⟩:=m7 (H:=H3) (x:=x) (cS:=cC) (dx:=dx) (f:="steps") (v:=V.ref D) (fs:=[("book",.ref b)]) (fs':=[("book",.ref b),("steps",.ref D)]) rfl
  rw [g4]
  have F4:y8 [x] H H4:=(F2.trans (y4.frame s3)).trans f4
  have bk4:=keep ((f2.trans (y4.frame s3)).trans f4)
  have hb2:H2 b≠none:=λz=>by
   obtain ⟨dxb,h1⟩:=bk2.b
   rw [hA0b,z] at h1
   cases h1
  have hl2:H2 ll≠none:=λz=>by
   obtain ⟨las,h1,_⟩:=bk2.ll
   rw [hA0l,z] at h1
   cases h1
  have hm2:H2 lm≠none:=λz=>by
   obtain ⟨las,h1,_⟩:=bk2.lm
   rw [hA0m,z] at h1
   cases h1
  have hd2:H2 d≠none:=λz=>by
   have h1:=bk2.d
   rw [hA0d,z] at h1
   cases h1
  have hx2:H2 x≠none:=λz=>by rw [x2] at z;cases z
  refine q ⟨x,b,ll,lm,d,D,bs⟩ H4 rfl ?_ F4 λsr=>⟨?_,⟨dx,x4⟩,?_,f4.keep hl hDx,⟨hbl,?_⟩,λi a s ha hs=>?_⟩
  ·intro a ha hax
   simp only [ChA.all,aD,aq,aV,or_false,bx] at ha
   rcases ha with (e|e|e|e|e|e)|e
   ·exact absurd e hax
   ·rw [e];exact hb
   ·rw [e];exact fre hll
   ·rw [e];exact fre hlm
   ·rw [e];exact fre hd
   ·rw [e];exact F2.free hD hDx
   ·obtain ⟨l,hl1,hl2⟩:=aF.mp e
    obtain ⟨b',hb',rfl⟩:=av.mp hl1
    exact F2.free (hfree b' hb' a hl2).1 hax
  ·refine bo.mpr ⟨?_,hnd2,λa ha c hc e=>?_⟩
   ·simp only [aZ,aq,aV,not_or,or_false,bx,not_false_eq_true,eA,and_true] at hnd ⊢
    refine ⟨⟨Ne.symm xb,Ne.symm xl,Ne.symm xm,Ne.symm xd,Ne.symm hDx⟩,⟨Ne.symm (cb hll),Ne.symm (cb hlm),Ne.symm (cb hd),λz=>hb2 (z ▸ hD)⟩,⟨hnd.1.1,hnd.1.2,λz=>hl2 (z ▸ hD)⟩,⟨hnd.2,λz=>hm2 (z ▸ hD)⟩,λz=>hd2 (z ▸ hD)⟩
   ·subst e
    obtain ⟨l,hl1,hl3⟩:=aF.mp hc
    obtain ⟨b',hb',rfl⟩:=av.mp hl1
    obtain ⟨h1,h2⟩:=hfree b' hb' a hl3
    simp only [aq,aV,or_false,bx] at ha
    rcases ha with e|e|e|e|e|e
    ·rw [e] at h1;exact hx2 h1
    ·rw [e] at h1;exact hb2 h1
    ·rw [e] at h1;exact hl2 h1
    ·rw [e] at h1;exact hm2 h1
    ·rw [e] at h1;exact hd2 h1
    ·exact h2 e
  ·obtain ⟨h1,h2,h3,h4,h5⟩:=bk4 sr
   rw [hA0b,hA0l,hA0m,hA0d] at h1
   rw [hA0l] at h2
   rw [hA0m] at h3
   rw [hA0d] at h4
   exact ⟨h1,h2,h3,h4,h5⟩
  ·show ((List.range n).map _).length=n
   rw [ae,aN]
  ·have hi:i<n:=by rw [←hbl];exact (ag.mp ha).1
   have hs:((List.range n).map λi=>(⟨[],[(i,0)],[],0⟩:StS))[i]?=some s:=hs
   rw [ar,bg hi] at hs
   cases hs
   have hxa:x∉a.all:=λz=>hx2 (hfree a (au ha) x z).1
   refine (hst i a ha).frame f4 λy hy=>?_
   rw [ao.mp hy]
   exact ⟨hxa,λxs z=>by rw [s3 _ _ x2] at z;cases z⟩
theorem yq5 {n:Nat}{t:List Nat}(h:TM.IsT n t)(h1:1<=n)(h60:n<=60):c7 (.tuple (t.map λ(x:Nat)=>PyData.int x))=true:=by
 have hl:=h.length
 have e1:E4 (t.map λ(x:Nat)=>PyData.int x)=t.map λ(x:Nat)=>(x:Int):=by
  clear h hl
  induction t with
  | nil=>rfl
  | cons x r ih =>
   show (x:Int)::E4 (r.map λ(x:Nat)=>PyData.int x)=(x:Int)::r.map λ(x:Nat)=>(x:Int)
   rw [ih]
 have e2:yl8 (t.map λ(x:Nat)=>(x:Int))=yc0 n:=by
  refine (yc7 ?_ ?_).symm
  ·exact (List.Perm.map (λ(x:Nat)=>(x:Int)) (show t.Perm (List.range n) from h)).symm
  ·unfold yc0
   exact bn.mpr ((List.pairwise_lt_range (n:=n)).imp λh=>by lia)
 have e3:(t.map λ(x:Nat)=>PyData.int x).all isW=true:=by
  rw [fC]
  exact bP.mpr λ_ _=>rfl
 show ((decide (1<=(t.map λ(x:Nat)=>PyData.int x).length)&&decide ((t.map λ(x:Nat)=>PyData.int x).length<=60))&&((t.map λ(x:Nat)=>PyData.int x).all isW&&decide (yl8 (E4 (t.map λ(x:Nat)=>PyData.int x))=yc0 (t.map λ(x:Nat)=>PyData.int x).length)))=true
 rw [e1,e2,e3,ae,hl,decide_eq_true h1,decide_eq_true h60,decide_eq_true rfl]
 rfl
theorem ChS.Backs.told {n:Nat}{S:ChS}(b:S.Backs n)(f:S.ln.length=S.md.length){k:Nat}{t:List Nat}(h:S.src k=t):(S.put (.told k) t).Backs n:=by
 refine ⟨λi k' h=>?_,b.mks.put f (l:=.told k) h.symm⟩
 obtain ⟨h1,h2,h3⟩:=b.bk i k' h
 have hmd:(S.put (.told k) t).md=S.md++[t]:=rfl
 refine ⟨by rw [hmd,af];lia,by rw [hmd,af];lia,?_⟩
 rw [hmd,i8 h2,i8 h1,h3]
structure ChS.Full (S:ChS) (c:Nat):Prop where
 ln:S.ln.length<=3*S.looks+c
 bl:S.bl.length<=S.looks+c
structure ChS.Set (n:Nat) (S:ChS):Prop where
 inv:S.Inv n
 done:∀i,i<n->S.Done i
def yy5 (cC cB cS:Addr):Sp:=λvs H Q _=>∃(A:ChA) (S:ChS) (n c k:Nat) (tr:Addr) (t:List Nat),vs=[.ref A.c,.int k,.ref tr]/\u8 cC cB cS n H A S/\S.Set n/\0<n/\n<=60/\c<1000/\S.Full c/\H tr=some (.tup (tI t))/\TM.IsT n t/\(¬TM.Grp n (S.chn.mv 0) t->S.src k=t) /\
 ∀(b:Bool) (S':ChS) (H':Hp),y8 A.all H H'->u8 cC cB cS n H' A S'->S'.Set n->S'.src=S.src->S'.Full (c+1)->(∀x,TM.Grp n (S'.chn.mv 0) x↔TM.Grp n (λz=>S.chn.mv 0 z∨z=t) x)->(b=false↔TM.Grp n (S.chn.mv 0) t)->Q (.bl b) H'
theorem zp4:x9 ["self","number","maker"] ["self","number","maker"] (z9 M3):=scq
theorem zo6 {cC cB cS:Addr}(F:Fun K "take" "Chain.take" M3 f fd) (B:Blt mg) (cc:g7 K cC K3) (cb:g7 K cB zi7) (cs:g7 K cS zb1) (MP:Q0 P w K mg base 1 cB "put" ["self","line","turning"] (ym5 cB)) (MPM:Q0 P w K mg base 1 cS "put_mover" ["self","mover"] (yh8 cS))
  (MH:Q0 P w K mg base 3 cC "holds" ["self","turning","level"] (zx9 cC cB cS)) (MS:Q0 P w K mg base 5 cC "settle" ["self"] (yd1 cC cB cS)):u6 P w K mg base CX0 6 f fd ["self","number","maker"] (yy5 cC cB cS):=by
 refine F.ok zp4 (λvs H Q E h=>?_) (λcdv Ar outer sh H vs Q E hr h=>?_)
 ·obtain ⟨A,S,n,c,k,tr,t,rfl,_⟩:=h
  rfl
 obtain ⟨A,S,n,c,k,tr,t,rfl,ch,st,hn0,hn,hc,zz6,htr,tT,hsrc,q⟩:=h
 have iv:=st.inv
 have hz:=X3
 obtain ⟨dxc,hcc⟩:=ch.c
 refine ⟨_,y0 (n6 (X8 (S8 cc.cls MH hr (pv 0) (z0 (pv 2) (z0 y6 z5)))) (z8 (v1 i9)) u0)
  (y0 (l8 (S8 cs.cls MPM hr (i4 p5 (w8 (pv 0) rfl) y6 (λ_ _=>rfl)) (z0 (S8 cb.cls MP hr (w8 (pv 0) rfl) (z0 (Q1 (z0 M1 (z0 (pv 1) z5))) (z0 (pv 2) z5))) z5)))
  (y0 (l8 (zw4 cc.cls MS hr (pv 0)))
  (z8 (v1 i9)))),?_⟩
 refine ⟨_,rfl,A.c,dxc,_,rfl,hcc,rfl,_,rfl,A,S,n,0,tr,t,rfl,ch,iv.fine.wl,htr,tT,aR _,hn,λH1 s1=>⟨_,rfl,?_⟩⟩
 have hol:=iv.holds (j:=0) (aR _) (λi _ hi=>st.done i hi) tT (TM.Fix.zero t)
 have hS:∀z,S.chn.mv 0 z->TM.IsT n z:=iv.ok.mvT 0
 have hS':∀z,(S.chn.mv 0 z∨z=t)->TM.IsT n z:=λz h=>h.elim (hS z) λe=>by rw [e];exact tT
 cases hb:(N1 n S.md (S.st.drop 0) 0 t []).isSome with
 | true =>
  have hg:=hol.mp hb
  refine i7 ?_
  refine q false S H1 (y4.frame s1) (ch.same s1) st rfl ⟨by have:=zz6.ln;lia,by have:=zz6.bl;lia⟩ (λx=>⟨λh=>TM.Grp.mono hS' (λz hz=>TM.Grp.of hS' (.inl hz)) h,λh=>TM.Grp.mono hS (λz hz=>?_) h⟩) ⟨λ_=>hg,λ_=>rfl⟩
  rcases hz with h|h
  ·exact TM.Grp.of hS h
  ·rw [h];exact hg
 | false =>
  have hg:¬TM.Grp n (S.chn.mv 0) t:=λh=>by rw [hol.mpr h] at hb;cases hb
  refine m9 ?_
  have ch1:=ch.same s1
  obtain ⟨dxc1,hc1⟩:=ch1.c
  obtain ⟨dxb1,hb1⟩:=ch1.bk.b
  have hn0':0<S.st.length:=by rw [iv.len];exact hn0
  obtain ⟨a,hA⟩:∃a,A.st[0]?=some a:=⟨_,aa (by rw [ch.len.1];exact hn0)⟩
  have hs:=ChS.get_at hn0'
  have st1:=ch1.st 0 a _ hA hs
  obtain ⟨dxs1,hsa1⟩:=st1.a
  have ga:atI (A.st.map λs=>V.ref s.a) 0=some (V.ref a.a):=k8 (j:=0) (by rw [ar,hA];rfl)
  have ndh:=ChA.head_nd ch.nd
  simp only [aZ,aq,aV,not_or,or_false] at ndh
  have lne:A.ll≠A.lm:=ndh.2.2.1.1
  have nda:=ChA.step_nd ch.nd hA
  simp only [StA.all,aZ,aq,aV,not_or,or_false] at nda
  have lks:=iv.looks_le hn
  have fl:=zz6.ln
  have fb:=zz6.bl
  refine ⟨_,rfl,A.c,cC,dxc1,_,_,rfl,hc1,cc.cls,cc.no "steps" (by decide),rfl,A.l,_,_,_,rfl,rfl,SqL.of ch1.l,ga,a.a,dxs1,_,rfl,hsa1,rfl,?_⟩
  refine ⟨_,rfl,A.c,cC,dxc1,_,_,rfl,hc1,cc.cls,cc.no "book" (by decide),rfl,A.b,dxb1,_,rfl,hb1,rfl,_,rfl,(by show 2<=sizeLine;lia),λlr hlr=>?_⟩
  have s2:=z7 hlr (.tup [V.str "told",V.int k])
  have el:(upd H1 lr (.tup [V.str "told",V.int k])) lr=some (.tup (lnV (.told k))):=z4
  generalize upd H1 lr (.tup [V.str "told",V.int k])=H2 at s2 el ⊢
  have ch2:=ch1.same s2
  refine ⟨_,rfl,A,S,lr,tr,.told k,t,rfl,ch2.bk,lne,el,s2 _ _ (s1 _ _ htr),by lia,λH3 fr3 bk3=>?_⟩
  have m:=iv.fine.put (l:=.told k) tT
  have ch3:u8 cC cB cS n H3 A (S.put (.told k) t):=ch2.book (fr3.more λx hx=>by simp at hx ⊢;rcases hx with e|e <;> simp [e]) bk3 rfl (λs hs x hx=>m.at_ (iv.fine.wl.to s hs x hx).2)
  have st3:=ch3.st 0 a _ hA hs
  have few:=iv.few hn 0
  have rg:=iv.ring hn0
  have wle:=iv.wt_le hn hn0
  refine ⟨a,n,_,0,S.ln.length,S.atS 0,rfl,st3,nda.2.1.2.2,by lia,by lia,by lia,λH4 fr4 st4=>?_⟩
  have nt:∀x∈[a.m,a.w],x∈a.all/\∀xs,H3 x≠some (.tup xs):=λx hx=>by
   obtain ⟨ws2,hw2,_⟩:=st3.w
   rcases aq.mp hx with e|hx
   ·rw [e];exact ⟨by simp [StA.all],λxs z=>by rw [st3.m] at z;cases z⟩
   ·rw [ao.mp hx];exact ⟨by simp [StA.all],λxs z=>by rw [hw2] at z;cases z⟩
  have ch4:=ch3.step hA nt fr4 st4
  obtain ⟨iv4,mp⟩:=iv.mover hn0 m (iv.bks.told iv.fine.lnl (hsrc hg)) tT (TM.Fix.zero t) (λg hg=>absurd hg (by lia)) hg
  generalize hS4:({ S.put (.told k) t with st:=S.st.set 0 ((S.atS 0).putM S.ln.length) }:ChS)=S4 at iv4 mp
  have ch4':u8 cC cB cS n H4 A S4:=by rw [←hS4];exact ch4
  have hst:S4.st=S.st.set 0 ((S.atS 0).putM S.ln.length):=by rw [←hS4]
  have lk4:S4.looks=S.looks:=by
   have e:=zi1 (a:=(S.atS 0).putM S.ln.length) (ChS.get_at hn0')
   have e2:((S.atS 0).putM S.ln.length).lk=(S.atS 0).lk:=rfl
   unfold ChS.looks
   rw [hst]
   lia
  have ln4:S4.ln.length=S.ln.length+1:=by rw [←hS4];show (S.ln++[_]).length=_;rw [af];rfl
  have bl4:S4.bl.length=S.bl.length:=by rw [←hS4];rfl
  have fr14:y8 A.all H H4:=(y4.frame (s1.trans s2)).trans ((fr3.all λx hx=>by simp at hx ⊢;rcases hx with e|e <;> simp [e]).trans (fr4.allS hA λx hx=>(nt x hx).1))
  obtain ⟨dxc4,hc4⟩:=ch4'.c
  refine ⟨_,rfl,A.c,dxc4,_,rfl,hc4,rfl,A,S4,n,c+1,rfl,ch4',iv4,hn0,hn,λi hi hin=>?_,by lia,by lia,by lia,λS5 H5 fr5 ch5 iv5 dn5 e5 src5 b51 b52=>?_⟩
  ·have at':=ChS.atS_set hst hn0' i
   rw [if_neg (by lia)] at at'
   unfold ChS.Done
   rw [at']
   exact st.done i hin
  ·refine q true S5 H5 (fr14.trans fr5) ch5 ⟨iv5,dn5⟩ (src5.trans (by rw [←hS4];rfl)) ⟨b51,b52⟩ (λx=>?_) ⟨λz=>(by cases z),λz=>absurd z hg⟩
   rw [e5]
   have e0:S4.chn.mv 0=λz=>S.chn.mv 0 z∨z=t:=by
    funext z
    exact propext ((mp.emv 0 z).trans ⟨λy=>y.elim .inl λw=>.inr w.2,λy=>y.elim .inl λw=>.inr ⟨rfl,w⟩⟩)
   rw [e0]
theorem u8.keep {cC cB cS:Addr}{n:Nat}{H H':Hp}{A:ChA}{S:ChS}{F:List Addr}(ch:u8 cC cB cS n H A S)(fr:y8 F H H')(hF:∀y∈F,y∉A.all/\∀xs,H y≠some (.tup xs)):u8 cC cB cS n H' A S:=by
 have kA:∀{b:Addr} {o:HO},H b=some o->b∈A.all->H' b=some o:=λ{b o} h hb=>fr b o (λz=>(hF b z).1 hb) h
 have kt:∀{b:Addr} {xs:List V},H b=some (.tup xs)->H' b=some (.tup xs):=λ{b xs} h=>fr b _ (λz=>(hF b z).2 xs h) h
 have hin:∀y∈[A.c,A.b,A.ll,A.lm,A.d,A.l],y∈A.all:=λy hy=>by unfold ChA.all;exact aJ _ hy
 obtain ⟨dxc,h1⟩:=ch.c
 refine ⟨ch.nd,⟨dxc,kA h1 (hin _ (by simp))⟩,⟨ch.bk.b.imp λ_ e=>kA e (hin _ (by simp)),ch.bk.ll.imp λ_ e=>⟨kA e.1 (hin _ (by simp)),Paired.imp' (λ_ _ z=>kt z) e.2⟩,ch.bk.lm.imp λ_ e=>⟨kA e.1 (hin _ (by simp)),Paired.imp' (λ_ _ z=>kt z) e.2⟩,kA ch.bk.d (hin _ (by simp)),ch.bk.len⟩,kA ch.l (hin _ (by simp)),ch.len,λi a s ha hs=>?_⟩
 refine (ch.st i a s ha hs).frame fr λy hy=>⟨λz=>(hF y hy).1 ?_,(hF y hy).2⟩
 unfold ChA.all
 exact aK _ (aF.mpr ⟨a.all,av.mpr ⟨a,au ha,rfl⟩,z⟩)
def K5:List Str:=["many","makers","chain"]
structure Z9 (cG cC cB cS:Addr) (n:Nat) (H:Hp) (g:Addr) (ts:List (List Nat)) (S:ChS):Prop where
 n0:0<n
 n60:n<=60
 at':∃(dx ma:Addr) (A:ChA) (mas:List Addr),H g=some (.ins cG dx [("many",.int n),("makers",.ref ma),("chain",.ref A.c)])/\H ma=some (.tup (mas.map V.ref))/\Y4 H mas ts/\u8 cC cB cS n H A S
 st:S.Set n
 few:ts.length<=200
 tT:∀t∈ts,TM.IsT n t
 grp:∀x,TM.Grp n (S.chn.mv 0) x↔TM.Grp n (λz=>z∈ts) x
 src:S.src=λk=>ts.getD k []
 lnl:S.ln.length<=4000000
theorem Z9.same {cG cC cB cS:Addr}{n:Nat}{H H':Hp}{g:Addr}{ts:List (List Nat)}{S:ChS}(h:Z9 cG cC cB cS n H g ts S)(s:y4 H H'):Z9 cG cC cB cS n H' g ts S:=by
 obtain ⟨dx,ma,A,mas,h1,h2,h3,h4⟩:=h.at'
 exact ⟨h.n0,h.n60,⟨dx,ma,A,mas,s _ _ h1,s _ _ h2,h3.same s,h4.same s⟩,h.st,h.few,h.tT,h.grp,h.src,h.lnl⟩
theorem yt4 {n:Nat}{S S':List Nat->Prop}{t:List Nat}(hS:∀s,S s->TM.IsT n s)(hS':∀s,S' s->TM.IsT n s)(hT:TM.IsT n t)(h:∀x,TM.Grp n S x↔TM.Grp n S' x)(x:List Nat):TM.Grp n (λz=>S z∨z=t) x↔TM.Grp n (λz=>S' z∨z=t) x:=by
 have key:∀{S S':List Nat->Prop},(∀s,S s->TM.IsT n s)->(∀s,S' s->TM.IsT n s)->(∀x,TM.Grp n S x↔TM.Grp n S' x)->TM.Grp n (λz=>S z∨z=t) x->TM.Grp n (λz=>S' z∨z=t) x:=λ{S S'} hS hS' h g=>by
  have h2:∀s,(S' s∨s=t)->TM.IsT n s:=λs q=>q.elim (hS' s) λe=>by rw [e];exact hT
  refine TM.Grp.mono h2 (λs hs=>?_) g
  rcases hs with q|q
  ·exact TM.Grp.mono h2 (λz hz=>TM.Grp.of h2 (.inl hz)) ((h s).mp (TM.Grp.of hS q))
  ·exact TM.Grp.of h2 (.inr q)
 exact ⟨key hS hS' h,key hS' hS λx=>(h x).symm⟩
def ym3:Sp:=λvs H Q _=>∃(la:Addr) (n:Nat) (mas:List Addr) (ts:List (List Nat)),vs=[.int n,.ref la]/\0<n/\n<=60/\H la=some (.lst (mas.map V.ref))/\Y4 H mas ts/\ts.length<=200/\(∀t∈ts,TM.IsT n t)/\∀H':Hp,y4 H H'->Q .non H'
theorem zp8:x9 ["many","makers"] ["many","makers"] (z9 M8):=scq
theorem xa7 (n:Nat):(List.replicate n true).all id=true:=by
 induction n with
 | zero=>rfl
 | succ n ih=>rw [List.replicate_succ,fA,ih];rfl
theorem xn4 {H:Hp}{a:Addr}{t:List Nat}(h:H a=some (.tup (tI t))):Dt H (.ref a) (.tuple (t.map λ(x:Nat)=>PyData.int x)):=.tup h (zj5 t)
theorem yz4 {n:Nat}{t:List Nat}(h:TM.IsT n t)(h1:0<n)(h60:n<=60):(c7 (.tuple (t.map λ(x:Nat)=>PyData.int x))&&decide ((t.map λ(x:Nat)=>PyData.int x).length=n))=true:=by
 rw [yq5 h h1 h60,ae,h.length,decide_eq_true rfl]
 rfl
theorem zp2 (D:Def K mg "need_group" M8 ["many","makers"] f fd) (B:Blt mg) (KW:l9 P w K mg base 1 "is_whole" ["thing"] zb0) (KT:l9 P w K mg base 3 "is_turning_of" ["thing","many"] zn4) (GM:zf8 mg "MOST_PLACES" (.int 60)) (GK:zf8 mg "MOST_MAKERS" (.int 200)):u6 P w K mg base CX0 4 f fd ["many","makers"] ym3:=by
 refine D.F.ok zp8 (λvs H Q E h=>?_) (λcdv A outer s H vs Q E hr h=>?_)
 ·obtain ⟨la,n,mas,ts,rfl,_⟩:=h
  rfl
 obtain ⟨la,n,mas,ts,rfl,hn0,hn,hla,hts,hfew,hT,q⟩:=h
 have hml:mas.length=ts.length:=Paired.length hts
 refine ⟨_,y0 (n6 (PW.pt (zm1 (W7 (X8 (o0 KW hr rfl (z0 (pv 0) z5)))) (D6 (W7 (zl8 yb2 yb2 y6 (pv 0) (A7 GM rfl)))))) (z8 zl7) u0)
  (y0 (n6 (PW.pt (zm1 (W7 (X8 (v8 c0 rfl B.isinstance r6 (z0 (pv 1) (z0 (W5 (v:=.ty "list") rfl B.list Q8 rfl) z5))))) (D6 (p7 yk8 (v8 q9 rfl B.len X4 (z0 (pv 1) z5)) (A7 GK rfl) (o7 _))))) (z8 zl7) u0)
  (z8 (n6 (W7 (X8 (v8 (zc1 rfl) rfl B.all ye8 (z0 (Y5 [0] ["maker","many"] rfl (Y9 (pv 1)) (λ_ _ _ _=>o0 KT hr rfl (z0 (pv 0) (z0 (pv 1) z5)))) z5)))) (z8 zl7) u0))),?_⟩
 refine ⟨_,rfl,_,.int n,rfl,.int _,_,rfl,m9 ⟨_,rfl,_,_,rfl,rfl,_,rfl,?_⟩⟩
 rw [decide_eq_true (show (1:Int)<=((n:Nat):Int) by lia)]
 refine i7 ⟨_,_,rfl,rfl,_,rfl,?_⟩
 rw [decide_eq_true (show ((n:Nat):Int)<=(60:Int) by lia)]
 refine m9 ⟨_,rfl,_,_,_,_,rfl,N6.lst hla,N8 B5,_,rfl,m9 ?_⟩
 refine ⟨_,rfl,la,_,rfl,.inl (SqL.of hla),_,_,rfl,rfl,_,rfl,?_⟩
 rw [ae,hml,decide_eq_false (show ¬((ts.length:Nat):Int) > (200:Int) by lia)]
 refine m9 ?_
 refine ⟨_,rfl,la,rfl,⟨_,SqL.of hla⟩,zr1 (SqL.of hla) ((List.replicate mas.length true).map V.bl) (by rw [ae,cy,ae]) (by rw [ae,hml];exact small (by lia)) ?_ ?_⟩
 ·intro i H' x hx s' _ _ _ _
  obtain ⟨c,hc,rfl⟩:=Y7 hx
  obtain ⟨t,ht,hct⟩:=u4 hts i c hc
  have hi:i<mas.length:=(ag.mp hc).1
  have htT:=hT t (au ht)
  refine ⟨_,rfl,_,rfl,.ref c,_,n,rfl,xn4 (s' _ _ hct),λds hd=>?_,λH4 s4=>⟨s4,?_⟩⟩
  ·cases hd
   rw [ae,htT.length]
   lia
  ·show ((List.replicate mas.length true).map V.bl)[i]?=some (V.bl (c7 (.tuple (t.map λ(x:Nat)=>PyData.int x))&&decide ((t.map λ(x:Nat)=>PyData.int x).length=n)))
   rw [yz4 htT hn0 hn,ar,cM,if_pos hi]
   rfl
 ·intro nm H4 _ s4 hnm
  refine ⟨nm,_,rfl,SqL.of hnm,_,rfl,?_⟩
  rw [xa7]
  exact m9 (q H4 s4)
def zm8 (cG cC cB cS:Addr):Sp:=λvs H Q _=>∃(x dx la:Addr) (n:Nat) (mas:List Addr) (ts:List (List Nat)),vs=[.ref x,.int n,.ref la]/\H x=some (.ins cG dx [])/\0<n/\n<=60/\H la=some (.lst (mas.map V.ref))/\Y4 H mas ts/\ts.length<=200/\(∀t∈ts,TM.IsT n t) /\
 ∀(S:ChS) (H':Hp),y8 [x] H H'->Z9 cG cC cB cS n H' x ts S->(∀(y:Addr) (H2:Hp),H y≠none->y≠x->(∀xs,H' y≠some (.tup xs))->y8 [y] H' H2->Z9 cG cC cB cS n H2 x ts S)->Q .non H'
theorem V2:x9 ["self","many","makers","number","maker"] ["self","many","makers"] (z9 U4):=scq
theorem zo7 {cG cC cB cS:Addr}(F:Fun K "__init__" "Group.__init__" U4 f fd) (B:Blt mg) (cg:g7 K cG K5) (cc:g7 K cC K3) (KN:l9 P w K mg base 4 "need_group" ["many","makers"] ym3) (KC:zi3 P w K mg base 4 cC "Chain" ["self","many"] (yc9 cC cB cS))
  (MT:Q0 P w K mg base 6 cC "take" ["self","number","maker"] (yy5 cC cB cS)):u6 P w K mg base CX0 7 f fd ["self","many","makers"] (zm8 cG cC cB cS):=by
 refine F.ok V2 (λvs H Q E h=>?_) (λcdv Ar outer sh H vs Q E hr h=>?_)
 ·obtain ⟨x,dx,la,n,mas,ts,rfl,_⟩:=h
  rfl
 obtain ⟨x,dx,la,n,mas,ts,rfl,hx,hn0,hn,hla,hts,hfew,hT,q⟩:=h
 have hml:mas.length=ts.length:=Paired.length hts
 refine ⟨_,y0 (l8 (o0 KN hr rfl (z0 (pv 1) (z0 (pv 2) z5))))
  (y0 (d6 (pv 0) (pv 1) rfl)
  (y0 (d6 (pv 0) (o9 g9 rfl B.tuple Z7 (z0 (pv 2) z5)) rfl)
  (y0 (d6 (pv 0) (M0 KC hr rfl (z0 (pv 1) z5)) rfl)
  (z8 (U1 PassesOwn.never rfl (yb5 rfl B.enumerate (z0 (w8 (pv 0) rfl) z5)) (zl4 rfl (Y6 (l5 (i:=3) V2.nd rfl (Or.inl rfl)) (Y6 (l5 (i:=4) V2.nd rfl (Or.inl rfl)) A8)))
   (z8 (l8 (S8 cc.cls MT hr (w8 (pv 0) rfl) (z0 (pv 3) (z0 (pv 4) z5)))))))))),?_⟩
 refine ⟨_,rfl,_,rfl,la,n,mas,ts,rfl,hn0,hn,hla,hts,hfew,hT,λH0 s0=>?_⟩
 refine ⟨_,rfl,_,rfl,x,cG,dx,[],rfl,s0 _ _ hx,cg.cls,cg.no "many" (by decide),by decide,?_⟩
 obtain ⟨H1,g1,f1,x1⟩:=m7 (H:=H0) (x:=x) (cS:=cG) (dx:=dx) (f:="many") (v:=V.int n) (fs:=[]) (fs':=[("many",.int n)]) rfl
 rw [g1]
 have F1:y8 [x] H H1:=(y4.frame s0).trans f1
 have nx:∀{b:Addr} {o:HO},H b=some o->o≠.ins cG dx []->b≠x:=λ{b o} h d z=>by
  subst z
  rw [hx] at h
  exact d (Option.some.inj h).symm
 have hla1:=F1.keep hla (nx hla (by intro z;cases z))
 refine ⟨_,rfl,la,_,rfl,.inl ⟨SqL.of hla1,λma hma=>?_⟩⟩
 have s2:=z7 hma (.tup (mas.map V.ref))
 have m2:(upd H1 ma (.tup (mas.map V.ref))) ma=some (.tup (mas.map V.ref)):=z4
 generalize upd H1 ma (.tup (mas.map V.ref))=H2 at s2 m2 ⊢
 have xma:ma≠x:=λz=>by subst z;rw [x1] at hma;cases hma
 refine ⟨_,rfl,x,cG,dx,_,rfl,s2 _ _ x1,cg.cls,cg.no "makers" (by decide),by (show 1<1000;decide),?_⟩
 obtain ⟨H3,g3,f3,x3⟩:=m7 (H:=H2) (x:=x) (cS:=cG) (dx:=dx) (f:="makers") (v:=V.ref ma) (fs:=[("many",.int n)]) (fs':=[("many",.int n),("makers",.ref ma)]) rfl
 rw [g3]
 have F3:y8 [x] H H3:=(F1.trans (y4.frame s2)).trans f3
 have m3:=f3.keep m2 xma
 refine ⟨_,rfl,λc dc hc hdc hne=>⟨c,dc,n,rfl,z4,hn,λA H4 hAc hfree fr4 ch4=>⟨rfl,?_⟩⟩⟩
 have s4:y4 H3 H4:=λb o h=>fr4 b o (by simpa using y9 h hc) (by rw [z6 (y9 h hc),z6 (y9 h hdc)];exact h)
 have hall:∀a∈A.all,H3 a=none:=λa ha=>by
  by_cases e:a=c
  ·rw [e];exact hc
  ·have:=hfree a ha e
   rw [z6 e] at this
   by_cases e2:a=dc
   ·rw [e2];exact hdc
   ·rwa [z6 e2] at this
 subst hAc
 refine ⟨_,rfl,x,cG,dx,_,rfl,s4 _ _ x3,cg.cls,cg.no "chain" (by decide),by (show 2<1000;decide),?_⟩
 obtain ⟨H5,g5,f5,x5⟩:=m7 (H:=H4) (x:=x) (cS:=cG) (dx:=dx) (f:="chain") (v:=V.ref A.c) (fs:=[("many",.int n),("makers",.ref ma)]) (fs':=[("many",.int n),("makers",.ref ma),("chain",.ref A.c)]) rfl
 rw [g5]
 have F5:y8 [x] H H5:=(F3.trans (y4.frame s4)).trans f5
 have m5:=f5.keep (s4 _ _ m3) xma
 have hts5:Y4 H5 mas ts:=Paired.imp' (λb t e=>F5.keep e (nx e (by intro z;cases z))) hts
 have xA:x∉A.all:=λz=>by
  have:=hall x z
  rw [x3] at this
  cases this
 have ch5:u8 cC cB cS n H5 A (ChS.new n (λk=>ts.getD k [])):=(ch4 _).keep f5 λy hy=>by
  rw [ao.mp hy]
  exact ⟨xA,λxs z=>by rw [s4 _ _ x3] at z;cases z⟩
 have out:∀{b:Addr} {o:HO},H b=some o->b∉A.all:=λ{b o} h hb=>by
  by_cases e:b=x
  ·exact xA (e ▸ hb)
  ·have:=hall b hb
   rw [F3.keep h e] at this
   cases this
 have maA:ma∉A.all:=λz=>by
  have:=hall ma z
  rw [m3] at this
  cases this
 refine ⟨_,rfl,x,cG,dx,_,_,rfl,x5,cg.cls,cg.no "makers" (by decide),rfl,ma,rfl,⟨_,SqT.of m5⟩,zj8 (xs:=mas.map V.ref) (λi σ H6=>∃(S:ChS) (v3 v4:Option V),σ=[some (.ref x),some (.int n),some (.ref la),v3,v4]/\y8 A.all H5 H6/\u8 cC cB cS n H6 A S/\S.Set n/\S.Full (1+i)/\i<=ts.length/\(S.src=λk=>ts.getD k [])/\∀y,TM.Grp n (S.chn.mv 0) y↔TM.Grp n (λz=>z∈ts.take i) y)
  ⟨ChS.new n (λk=>ts.getD k []),none,none,rfl,y8.refl,ch5,⟨ChS.new_inv n,λi _=>ChS.new_done n i⟩,⟨by show 1<=_;lia,by show 1<=_;lia⟩,aR _,rfl,λy=>?_⟩ (λi σ H6 _ ⟨_,_,_,_,fr6,_⟩=>SqT.of (fr6 _ _ maA m5)) ?_ ?_⟩
 ·have hno:∀s,(ChS.new n (λk=>ts.getD k [])).chn.mv 0 s↔s∈ts.take 0:=λs=>⟨λh=>absurd h (ChS.new_nomv n 0 s),λh=>by rw [cu] at h;cases h⟩
  rw [show (ChS.new n (λk=>ts.getD k [])).chn.mv 0=λz=>z∈ts.take 0 from funext λs=>propext (hno s)]
 ·rintro i v σ H6 T hv ⟨S,v3,v4,rfl,fr6,ch6,set6,full6,hi6,src6,grp6⟩ hT6
  obtain ⟨tr,htr,rfl⟩:=Y7 hv
  obtain ⟨t,ht,htt⟩:=u4 hts5 i tr htr
  have hiT:i<ts.length:=(ag.mp ht).1
  have htT:=hT t (au ht)
  have s7:=z7 hT6 (.tup [V.int ((i:Nat):Int),V.ref tr])
  refine ⟨T,_,rfl,SqT.of z4,rfl,_,_,rfl,_,_,rfl,rfl,?_⟩
  generalize upd H6 T (.tup [V.int ((i:Nat):Int),V.ref tr])=H7 at s7 ⊢
  have ch7:=ch6.same s7
  obtain ⟨dxc,hcc⟩:=ch7.c
  have x7:=s7 _ _ (fr6 _ _ xA x5)
  have trA:tr∉A.all:=λz=>by
   obtain ⟨t0,ht0,htt0⟩:=u4 hts i tr htr
   exact out htt0 z
  have t7:=s7 _ _ (fr6 _ _ trA htt)
  refine ⟨_,rfl,x,cG,dx,_,_,rfl,x7,cg.cls,cg.no "chain" (by decide),rfl,A.c,dxc,_,rfl,hcc,rfl,_,rfl,_,rfl,A,S,n,1+i,i,tr,t,rfl,ch7,set6,hn0,hn,by lia,full6,t7,htT,(λ_=>by rw [src6];show ts.getD i []=t;rw [ax,ht];rfl),λb S' H8 fr8 ch8 set8 src8 full8 grp8 _=>?_⟩
  refine ⟨S',_,_,rfl,(fr6.trans (y4.frame s7)).trans fr8,ch8,set8,⟨by have:=full8.ln;lia,by have:=full8.bl;lia⟩,hiT,src8.trans src6,λy=>?_⟩
  have hS1:∀s,S.chn.mv 0 s->TM.IsT n s:=set6.inv.ok.mvT 0
  have hS2:∀s,s∈ts.take i->TM.IsT n s:=λs hs=>hT s (bv hs)
  rw [grp8 y,yt4 hS1 hS2 htT grp6 y,aT,ht]
  have e:(λz=>z∈ts.take i++(some t).toList)=λz=>z∈ts.take i∨z=t:=by
   funext z
   simp
  rw [e]
 ·rintro σ H6 ⟨S,v3,v4,rfl,fr6,ch6,set6,full6,hi6,src6,grp6⟩
  have hlnl:S.ln.length<=4000000:=by
   have q1:=full6.ln
   have q2:=set6.inv.looks_le hn
   rw [ae,hml] at q1
   lia
  rw [ae,hml,bG] at grp6
  have x6:=fr6 _ _ xA x5
  have m6:=fr6 _ _ maA m5
  have hts6:Y4 H6 mas ts:=O6 hts5 λb hb t e=>fr6 _ _ (λz=>by
   obtain ⟨i,hi,e2⟩:=bW.mp hb
   obtain ⟨t0,ht0,htt0⟩:=u4 hts i b (by rw [aa hi,e2])
   exact out htt0 z) e
  refine q S H6 (λb o hb h=>fr6 b o (out h) (F5 b o hb h)) ⟨hn0,hn,⟨dx,ma,A,mas,x6,m6,hts6,ch6⟩,set6,hfew,hT,grp6,src6,hlnl⟩ λy H7 hy hyx hyt fr7=>?_
  obtain ⟨oy,hoy⟩:∃o,H y=some o:=Option.ne_none_iff_exists'.mp hy
  have kt:∀{b:Addr} {xs:List V},H6 b=some (.tup xs)->H7 b=some (.tup xs):=λ{b xs} h=>fr7.keep h (λz=>hyt xs (z ▸ h))
  exact ⟨hn0,hn,⟨dx,ma,A,mas,fr7.keep x6 (Ne.symm hyx),kt m6,Paired.imp' (λ_ _ z=>kt z) hts6,ch6.keep fr7 λz hz=>by
   rw [ao.mp hz]
   exact ⟨out hoy,hyt⟩⟩,set6,hfew,hT,grp6,src6,hlnl⟩
def yi0 (cG cC cB cS:Addr):Sp:=λvs H Q _=>∃(g:Addr) (n:Nat) (ts:List (List Nat)) (S:ChS),vs=[.ref g]/\Z9 cG cC cB cS n H g ts S/\∀(l:Addr) (mas:List Addr) (H':Hp),H l=none->y4 H H'->H' l=some (.lst (mas.map V.ref))->Y4 H' mas ts->Q (.ref l) H'
theorem zp5:x9 ["self"] ["self"] (z9 M4):=scq
theorem zo8 {cG cC cB cS:Addr}(F:Fun K "told" "Group.told" M4 f fd) (B:Blt mg) (cg:g7 K cG K5):u6 P w K mg base CX0 1 f fd ["self"] (yi0 cG cC cB cS):=by
 refine F.ok zp5 (λvs H Q E h=>?_) (λcdv Ar outer sh H vs Q E hr h=>?_)
 ·obtain ⟨g,n,ts,S,rfl,_⟩:=h
  rfl
 obtain ⟨g,n,ts,S,rfl,ga,q⟩:=h
 obtain ⟨dx,ma,A,mas,h1,h2,h3,h4⟩:=ga.at'
 refine ⟨_,z8 (v1 (o9 C7 rfl B.list Q8 (z0 (w8 (pv 0) rfl) z5))),?_⟩
 refine ⟨_,rfl,g,cG,dx,_,_,rfl,h1,cg.cls,cg.no "makers" (by decide),rfl,ma,_,rfl,.inr (SqT.of h2),λl hl=>?_⟩
 have s1:=z7 hl (.lst (mas.map V.ref))
 exact q l mas _ hl s1 z4 (h3.same s1)
def kT (t:List Nat):List Key:=t.map λ(x:Nat)=>Sum.inl (x:Int)
theorem yf6 (t:List Nat):(kT t).map kV=tI t:=by
 unfold kT tI
 rw [bE]
 rfl
theorem yf5:∀{t u:List Nat},kT t=kT u->t=u
 | [],[],_=>rfl
 | x::t,y::u,h=>by
  have h:Sum.inl (x:Int)::kT t=(Sum.inl (y:Int)::kT u:List Key):=h
  obtain ⟨h1,h2⟩:=List.cons.inj h
  have h1:=Sum.inl.inj h1
  rw [yf5 h2,show x=y by lia]
 | [],_::_,h=>by cases h
 | _::_,[],h=>by cases h
def Srt (L:List (List Nat)):Prop:=L.Pairwise λx y=>HT.lexLt (TM.iN y) (TM.iN x)=false
theorem zh3 (t:List Nat):(TM.iN t).map Int.toNat=t:=by
 unfold TM.iN
 rw [bE]
 conv=>rhs;rw [←df t]
 exact bp λx _=>by simp
theorem xh7 (t:List Nat):(TM.iN t).map V.int=tI t:=by
 unfold TM.iN tI
 rw [bE]
 rfl
theorem zr9 {L:List (List Nat)}{qs:List (List Int)}(h:qs.Perm (L.map TM.iN)):∃M:List (List Nat),M.Perm L/\qs=M.map TM.iN:=by
 refine ⟨qs.map λx=>x.map Int.toNat,?_,?_⟩
 ·have h2:=h.map λx:List Int=>x.map Int.toNat
  rw [bE] at h2
  have e:(L.map ((λx:List Int=>x.map Int.toNat) ∘ TM.iN))=L:=by
   conv=>rhs;rw [←df L]
   exact bp λt _=>zh3 t
  rwa [e] at h2
 ·rw [bE]
  conv=>lhs;rw [←df qs]
  refine bp λx hx=>?_
  obtain ⟨t,_,e⟩:=av.mp (h.mem_iff.mp hx)
  show x=TM.iN (x.map Int.toNat)
  rw [←e,zh3]
theorem xg9 {H:Hp}{as:List Addr}{L:List (List Nat)}(h:Y4 H as L):Paired (λa x=>H a=some (.tup (x.map V.int))) as (L.map TM.iN):=by
 induction h with
 | nil=>exact .nil
 | cons f _ ih=>exact .cons (by rw [xh7];exact f) ih
theorem zx2 {H:Hp}:∀{as:List Addr} {L:List (List Nat)},Paired (λa x=>H a=some (.tup (x.map V.int))) as (L.map TM.iN)->Y4 H as L
 | [],[],_=>.nil
 | [],_::_,h=>by cases h
 | _::_,[],h=>by cases h
 | a::as,t::L,h=>by
  cases h with
  | cons f r=>exact .cons (by rw [←xh7];exact f) (zx2 r)
structure Ent where
 k:List Nat
 wa:Addr
 w:List Nat
 ba:Addr
 b:List Nat
def R3 (g:Ent->V)(es:List Ent):List (List Key×V):=es.map λe=>(kT e.k,g e)
theorem zt7 (g:Ent->V){u:List Nat}:∀{es:List Ent},u∉es.map Ent.k->L5 (R3 g es) (kT u)=none
 | [],_=>rfl
 | e::es,h=>by
  have e1:R3 g (e::es)=(kT e.k,g e)::R3 g es:=rfl
  rw [e1,T4 (p:=(kT e.k,g e)) λz=>h (by rw [←yf5 (show kT e.k=kT u from z)];exact ay)]
  exact zt7 g λz=>h (aw _ z)
theorem zh1 (g:Ent->V){e:Ent}:∀{es:List Ent},(es.map Ent.k).Nodup->e∈es->L5 (R3 g es) (kT e.k)=some (g e)
 | d::es,hn,h=>by
  have e1:R3 g (d::es)=(kT d.k,g d)::R3 g es:=rfl
  rw [e1]
  rw [aI,aZ] at hn
  by_cases hk:d.k=e.k
  ·rcases aq.mp h with q|q
   ·rw [q]
    exact N3 (p:=(kT d.k,g d)) rfl
   ·exact absurd (hk ▸ av.mpr ⟨e,q,rfl⟩) hn.1
  ·rw [T4 (p:=(kT d.k,g d)) λz=>hk (yf5 z)]
   rcases aq.mp h with q|q
   ·exact absurd (by rw [q]) hk
   ·exact zh1 g hn.2 q
theorem zz5 (g:Ent->V){es:List Ent}{e:Ent}(h:e.k∉es.map Ent.k):putK (R3 g es) (kT e.k) (g e)=R3 g (es++[e]):=by
 have e1:=zt7 g h
 unfold putK
 rw [N2,e1]
 show R3 g es++[(kT e.k,g e)]=R3 g (es++[e])
 unfold R3
 rw [aG]
 rfl
structure Y8 (H:Hp) (wd bd:Addr) (es:List Ent):Prop where
 w:H wd=some (.dT (R3 (λe=>.ref e.wa) es))
 b:H bd=some (.dT (R3 (λe=>.ref e.ba) es))
 ne:wd≠bd
 at':∀e∈es,H e.wa=some (.tup (tI e.w))/\H e.ba=some (.tup (tI e.b))/\e.w.length<=es.length
 nd:(es.map Ent.k).Nodup
def yh0 (g a o wd bd:Addr):List (Str×V):=[("group",.ref g),("act",.ref a),("own",.ref o),("ways",.ref wd),("bringers",.ref bd)]
def zm2:List Str:=["group","act","own","ways","bringers"]
theorem Y8.tup {H:Hp}{wd bd tr:Addr}{es:List Ent}{xs:List V}(d:Y8 H wd bd es)(h:H tr=some (.tup xs)):tr≠wd/\tr≠bd:=⟨λz=>(by rw [z,d.w] at h;cases h),λz=>(by rw [z,d.b] at h;cases h)⟩
theorem Y8.frame {H H':Hp}{wd bd:Addr}{es:List Ent}{F:List Addr}(d:Y8 H wd bd es)(fr:y8 F H H')(hw:wd∉F)(hb:bd∉F)(hF:∀y∈F,∀xs,H y≠some (.tup xs)):Y8 H' wd bd es :=
 ⟨fr _ _ hw d.w,fr _ _ hb d.b,d.ne,λe he=>⟨fr _ _ (λz=>hF _ z _ (d.at' e he).1) (d.at' e he).1,fr _ _ (λz=>hF _ z _ (d.at' e he).2.1) (d.at' e he).2.1,(d.at' e he).2.2⟩,d.nd⟩
theorem Y8.same {H H':Hp}{wd bd:Addr}{es:List Ent}(d:Y8 H wd bd es)(s:y4 H H'):Y8 H' wd bd es:=d.frame (F:=[]) (y4.frame s) (λz=>by cases z) (λz=>by cases z) λ_ z=>by cases z
theorem T0 {X:Cx}{st:List Stmt}{R:TS->Prop}{t:TS}(h:DSs X st t)(r:R t):∃t,PSs X st t/\R t:=⟨t,h.h,r⟩
theorem l4 {t1 u:TS}{D:zb6}{σ:St}{H:Hp}(h:∀N:St->Hp->Prop,(∀σ H,u D σ H->N σ H)->t1 { D with nx:=N } σ H):xo2 t1 u D σ H:=h (λσ H=>u D σ H) λ_ _ h=>h
def zy0 (cR X:Addr):Sp:=λvs H Q E=>∃(x dx g a o wd bd tr wr br:Addr) (es:List Ent) (k w b:List Nat) (most:Nat),vs=[.ref x,.ref tr,.ref wr,.ref br,.int most]/\H x=some (.ins cR dx (yh0 g a o wd bd))/\Y8 H wd bd es/\H tr=some (.tup (tI k))/\H wr=some (.tup (tI w))/\H br=some (.tup (tI b))/\k∉es.map Ent.k/\es.length<1000000/\w.length<=es.length+1 /\
 (es.length<most->∀H',y8 [wd,bd] H H'->Y8 H' wd bd (es++[⟨k,wr,w,br,b⟩])->Q .non H')/\(most<=es.length->E (.ref X) none H)
theorem za4:x9 ["self","thing","way","turning","most"] ["self","thing","way","turning","most"] (z9 U6):=scq
theorem A2 {cR X TE:Addr}(F:Fun K "put_thing" "Ring.put_thing" U6 f fd) (B:Blt mg) (cr:g7 K cR zm2) (EA:O0 K mg TE "TooMany" X):u6 P w K mg base (CX1 P w) 1 f fd ["self","thing","way","turning","most"] (zy0 cR X):=by
 refine F.okX za4 (λvs H Q E h=>?_) (λcdv A outer s H vs Q E hr h=>?_)
 ·obtain ⟨x,dx,g,a,o,wd,bd,tr,wr,br,es,k,w,b,most,rfl,_⟩:=h
  rfl
 obtain ⟨x,dx,g,a,o,wd,bd,tr,wr,br,es,k,w,b,most,rfl,hx,d,htr,hwr,hbr,hk,hes,hwl,q,qx⟩:=h
 have hz:=u7
 have hu:=xh6 hr
 refine ⟨_,y0 (n6 (p7 xi0 (v8 zy5 rfl B.len X4 (z0 (w8 (pv 0) rfl) z5)) (pv 4) (o7 _)) (z8 (J2 EA.m EA.c PySem.F.excBase_ValueError rfl rfl (z0 M1 z5))) u0)
  (y0 (za1 hu (w8 (pv 0) rfl) (pv 1) (pv 2) rfl)
  (z8 (za1 hu (w8 (pv 0) rfl) (pv 1) (pv 3) rfl))),?_⟩
 refine l4 λN hN=>⟨_,rfl,x,cR,dx,_,_,rfl,hx,cr.cls,cr.no "ways" (by decide),rfl,wd,_,rfl,d.w,_,rfl,_,_,rfl,rfl,_,rfl,?_⟩
 rw [show (R3 (λe=>V.ref e.wa) es).length=es.length from ae _]
 by_cases hm:most<=es.length
 ·rw [decide_eq_true (by lia)]
  exact i7 ⟨by decide,qx hm⟩
 rw [decide_eq_false (by lia)]
 refine m9 (hN _ _ ?_)
 clear hN N
 have hl:∀g:Ent->V,(R3 g es).length<sizeLine:=λg=>by rw [show (R3 g es).length=es.length from ae _];lia
 have kt:∀{G:Hp},G tr=some (.tup (tI k))->G tr=some (.tup ((kT k).map kV)):=λ{G} h=>by rw [yf6];exact h
 obtain ⟨tw,tb⟩:=d.tup htr
 obtain ⟨ww,wb⟩:=d.tup hwr
 obtain ⟨bw,bb⟩:=d.tup hbr
 refine l4 λN hN=>⟨_,rfl,_,rfl,x,cR,dx,_,_,rfl,hx,cr.cls,cr.no "ways" (by decide),rfl,_,rfl,wd,_,rfl,.t d.w (kt htr) (hl _),hN _ _ ?_⟩
 clear hN N
 have xw:x≠wd:=λz=>by rw [z,d.w] at hx;cases hx
 have xb:x≠bd:=λz=>by rw [z,d.b] at hx;cases hx
 have e1:=zz5 (λe=>V.ref e.wa) (es:=es) (e:=⟨k,wr,w,br,b⟩) hk
 have e2:=zz5 (λe=>V.ref e.ba) (es:=es) (e:=⟨k,wr,w,br,b⟩) hk
 dsimp only at e1 e2
 rw [e1]
 have f1:y8 [wd,bd] H (upd H wd (.dT (R3 (λe=>V.ref e.wa) (es++[⟨k,wr,w,br,b⟩])))):=y8.upd y8.refl (by simp) _
 have w1:(upd H wd (.dT (R3 (λe=>V.ref e.wa) (es++[⟨k,wr,w,br,b⟩])))) wd=some (.dT (R3 (λe=>V.ref e.wa) (es++[⟨k,wr,w,br,b⟩]))):=z4
 have b1:(upd H wd (.dT (R3 (λe=>V.ref e.wa) (es++[⟨k,wr,w,br,b⟩])))) bd=some (.dT (R3 (λe=>V.ref e.ba) es)):=by rw [z6 (Ne.symm d.ne)];exact d.b
 generalize upd H wd (.dT (R3 (λe=>V.ref e.wa) (es++[⟨k,wr,w,br,b⟩])))=H1 at f1 w1 b1 ⊢
 have nF:∀{y:Addr},y≠wd->y≠bd->y∉[wd,bd]:=λh1 h2 z=>by simp only [aq,bx,or_false] at z;exact z.elim h1 h2
 refine ⟨_,rfl,_,rfl,x,cR,dx,_,_,rfl,f1 _ _ (nF xw xb) hx,cr.cls,cr.no "bringers" (by decide),rfl,_,rfl,bd,_,rfl,.t b1 (kt (f1 _ _ (nF tw tb) htr)) (hl _),?_⟩
 rw [e2]
 have f2:=f1.upd (a:=bd) (by simp) (.dT (R3 (λe=>V.ref e.ba) (es++[⟨k,wr,w,br,b⟩])))
 refine q (by lia) _ f2 ⟨by rw [z6 d.ne];exact w1,z4,d.ne,λe he=>?_,?_⟩
 ·rcases aD.mp he with h|h
  ·obtain ⟨p1,p2,p3⟩:=d.at' e h
   obtain ⟨t1,t2⟩:=d.tup p1
   obtain ⟨t3,t4⟩:=d.tup p2
   exact ⟨f2 _ _ (nF t1 t2) p1,f2 _ _ (nF t3 t4) p2,by rw [af];lia⟩
  ·rw [ao.mp h]
   exact ⟨f2 _ _ (nF ww wb) hwr,f2 _ _ (nF bw bb) hbr,by rw [af];exact hwl⟩
 ·rw [aG]
  exact bo.mpr ⟨d.nd,by simp,λu hu' v hv z=>hk (by rw [aI,cq,ao] at hv;have hv:v=k:=hv;rw [←hv,←z];exact hu')⟩
structure xi6 (cA:Addr) (n:Nat) (AH:Hp->Addr->Prop) (ok:List Nat->Prop) (mv:List Nat->List Nat->List Nat):Prop where
 ins:∀{H a},AH H a->∃dx fs,H a=some (.ins cA dx fs)/\fs.lookup ("moved":Str)=none/\fs.lookup ("looked":Str)=none/\fs.lookup ("many":Str)=some (.int n)
 same:∀{H H' a},AH H a->y4 H H'->AH H' a
 okm:∀{l t},ok l->TM.IsT n t->ok (mv l t)
def xn7 (n:Nat)(AH:Hp->Addr->Prop)(ok:List Nat->Prop)(mv:List Nat->List Nat->List Nat):Sp:=λvs H Q _=>∃(a lr tr:Addr) (l t:List Nat),vs=[.ref a,.ref lr,.ref tr]/\AH H a/\H lr=some (.tup (tI l))/\ok l/\H tr=some (.tup (tI t))/\TM.IsT n t/\∀(r:Addr) (H':Hp),y4 H H'->H' r=some (.tup (tI (mv l t)))->Q (.ref r) H'
structure Z4 (cR cG cC cB cS:Addr) (n:Nat) (AH:Hp->Addr->Prop) (ts:List (List Nat)) (S:ChS) (H0 H:Hp) (x g a o wd bd:Addr) (es:List Ent):Prop where
 x':∃dx,H x=some (.ins cR dx (yh0 g a o wd bd))
 s:y4 H0 H
 w0:H0 wd=none
 b0:H0 bd=none
 ga:Z9 cG cC cB cS n H0 g ts S
 ac:AH H0 a
 d:Y8 H wd bd es
section
variable {cR cG cC cB cS cA:Addr}{n:Nat}{AH:Hp->Addr->Prop}{ts:List (List Nat)}{S:ChS}{H0 H H':Hp}{x g a o wd bd:Addr}{es es':List Ent}
theorem Z4.frame (r:Z4 cR cG cC cB cS n AH ts S H0 H x g a o wd bd es)(fr:y8 [wd,bd] H H')(d:Y8 H' wd bd es'):Z4 cR cG cC cB cS n AH ts S H0 H' x g a o wd bd es':=by
 obtain ⟨dx,hx⟩:=r.x'
 have xw:x≠wd:=λz=>by rw [z,r.d.w] at hx;cases hx
 have xb:x≠bd:=λz=>by rw [z,r.d.b] at hx;cases hx
 refine ⟨⟨dx,fr _ _ (by simp [xw,xb]) hx⟩,λb u h=>fr b u (λz=>?_) (r.s b u h),r.w0,r.b0,r.ga,r.ac,d⟩
 simp only [aq,bx,or_false] at z
 rcases z with z|z
 ·rw [z,r.w0] at h;cases h
 ·rw [z,r.b0] at h;cases h
theorem Z4.same (r:Z4 cR cG cC cB cS n AH ts S H0 H x g a o wd bd es)(s:y4 H H'):Z4 cR cG cC cB cS n AH ts S H0 H' x g a o wd bd es:=r.frame (y4.frame s) (r.d.same s)
end
theorem xp6 {K:W.Frag}{H:Hp}{a b:Addr}{u:List Nat}{i:Nat}{Q:VK}(ha:H a=some (.tup (tI u)))(hb:H b=some (.tup [V.int i]))(hl:u.length+1<=sizeLine)(q:∀(r:Addr) (H':Hp),y4 H H'->H' r=some (.tup (tI (u++[i])))->Q (.ref r) H'):yw9 K (.ref a) (.ref b) H Q:=by
 refine ⟨a,b,tI u,[V.int i],rfl,rfl,SqT.of ha,SqT.of hb,by rw [v9];exact hl,λe=>?_,λ_ e=>(by cases e),λ_ _ p hp=>q p _ (z7 hp _) (by rw [z4,F9];rfl)⟩
 cases u with
 | nil=>exact q b H (y4.refl H) hb
 | cons _ _=>cases e
def yr2 (n:Nat)(ts:List (List Nat))(mv:List Nat->List Nat->List Nat)(o:List Nat)(most:Nat):Prop:=∃L:List (List Nat),L.Nodup/\(∀k∈L,TM.Rch n ts mv o k)/\most<L.length
def ym4 (cR cG cC cB cS X:Addr)(n:Nat)(AH:Hp->Addr->Prop)(ok:List Nat->Prop)(mv:List Nat->List Nat->List Nat):Sp:=λvs H Q E=>∃(ts:List (List Nat)) (S:ChS) (H0:Hp) (x g a o wd bd el:Addr) (es:List Ent) (eas:List Addr) (eks:List (List Nat)) (ow:List Nat) (most:Nat),
 vs=[.ref x,.ref el,.int most]/\Z4 cR cG cC cB cS n AH ts S H0 H x g a o wd bd es/\H el=some (.lst (eas.map V.ref))/\Y4 H eas eks/\(∀k∈eks,k∈es.map Ent.k)/\ok ow/\(∀e∈es,TM.Ways n ts mv ow e.k e.w e.b)/\es.length<=most/\most<1000000 /\
 (∀(fl:Addr) (fas:List Addr) (new:List Ent) (H':Hp),y8 [wd,bd] H H'->Z4 cR cG cC cB cS n AH ts S H0 H' x g a o wd bd (es++new)->H' fl=some (.lst (fas.map V.ref))->Y4 H' fas (new.map Ent.k)->(∀e∈new,TM.Ways n ts mv ow e.k e.w e.b)->(es++new).length<=most->(∀k∈eks,∀t∈ts,mv k t∈(es++new).map Ent.k)->Q (.ref fl) H') /\
 (∀H',y4 H0 H'->yr2 n ts mv ow most->E (.ref X) none H')
theorem k9:x9 ["self","edge","most","found","thing","number","maker","there"] ["self","edge","most"] (z9 U5):=scq
theorem A1 {cR cG cC cB cS cA X:Addr}{n:Nat}{AH:Hp->Addr->Prop}{ok:List Nat->Prop}{mv:List Nat->List Nat->List Nat}(F:Fun K "next_edge" "Ring.next_edge" U5 f fd) (B:Blt mg) (cr:g7 K cR zm2) (cg:g7 K cG K5) (cl:Cls K cA) (ap:xi6 cA n AH ok mv)
  (MT:Q0 P w K mg base 1 cG "told" ["self"] (yi0 cG cC cB cS)) (MM:Q0 P w K mg base 4 cA "moved" ["self","thing","t"] (xn7 n AH ok mv)) (MP:ye1 P w K mg base 1 cR "put_thing" ["self","thing","way","turning","most"] (zy0 cR X)) (KB:l9 P w K mg base 1 "behind" ["one","other"] (J9 K)):u6 P w K mg base (CX1 P w) 5 f fd ["self","edge","most"] (ym4 cR cG cC cB cS X n AH ok mv):=by
 refine F.okX k9 (λvs H Q E h=>?_) (λcdv A outer s H vs Q E hr h=>?_)
 ·obtain ⟨ts,S,H0,x,g,a,o,wd,bd,el,es,eas,eks,ow,most,rfl,_⟩:=h
  rfl
 obtain ⟨ts,S,H0,x,g,a,o,wd,bd,el,es,eas,eks,ow,most,rfl,ra,hel,hts,hek,hok,hways,hle,hmost,q,qx⟩:=h
 have hz:=u7
 have hu:=xh6 hr
 apply T0
 ·apply v0
  ·exact DS.mk (u5 (i:=3) k9.nd rfl (Or.inl rfl) (l7 z5))
  apply v0
  ·exact DS.mk (U1 PassesOwn.leaving rfl (Y9 (pv 1)) (l5 (i:=4) k9.nd rfl (Or.inl rfl))
    (z8 (U1 PassesOwn.leaving rfl (yw5 rfl B.enumerate (z0 (zw4 cg.cls MT hr (w8 (pv 0) rfl)) z5)) (zl4 rfl (Y6 (l5 (i:=5) k9.nd rfl (Or.inl rfl)) (Y6 (l5 (i:=6) k9.nd rfl (Or.inl rfl)) A8)))
     (y0 (u5 (i:=7) k9.nd rfl (Or.inl rfl) (S8 cl MM hr (w8 (pv 0) rfl) (z0 (pv 4) (z0 (pv 6) z5))))
     (z8 (n6 (zl9 (F0 hu (pv 7) (w8 (pv 0) rfl)))
      (y0 (l8 (yb4 cr.cls MP hr (pv 0) (z0 (pv 7) (z0 (u9 yb1 (Q9 hu (w8 (pv 0) rfl) (pv 4) (λ_ _=>rfl)) (Q1 (z0 (pv 5) z5))) (z0 (o0 KB hr rfl (z0 (Q9 hu (w8 (pv 0) rfl) (pv 4) (λ_ _=>rfl)) (z0 (pv 6) z5))) (z0 (pv 2) z5))))))
      (z8 (l8 (J0 PySem.F.plainAttrs_list PySem.F.slot_list_append PySem.F.type_list_append X9 (pv 3) (z0 (pv 7) z5))))) u0))))))
  exact ⟨z8 (v1 (pv 3))⟩
 have elw:el≠wd:=λz=>by rw [z,ra.d.w] at hel;cases hel
 have elb:el≠bd:=λz=>by rw [z,ra.d.b] at hel;cases hel
 refine l4 λN hN=>⟨aR _,λfl hfl=>hN _ _ ?_⟩
 clear hN N
 have s1:=z7 hfl (.lst [])
 have e1:(upd H fl (.lst [])) fl=some (.lst []):=z4
 generalize upd H fl (.lst [])=H1 at s1 e1 ⊢
 obtain ⟨Iv,eI⟩:∃Iv:List (List Nat)->Hp->Prop,Iv=λCl G=>∃(new:List Ent) (fas:List Addr),y8 [wd,bd] H G/\Z4 cR cG cC cB cS n AH ts S H0 G x g a o wd bd (es++new)/\G fl=some (.lst (fas.map V.ref))/\Y4 G fas (new.map Ent.k)/\(∀e∈new,TM.Ways n ts mv ow e.k e.w e.b)/\(es++new).length<=most/\∀u∈Cl,u∈(es++new).map Ent.k:=⟨_,rfl⟩
 have i0:Iv [] H1:=by
  rw [eI]
  exact ⟨[],[],y4.frame s1,by rw [bu];exact ra.same s1,e1,.nil,λe he=>(by cases he),by rw [bu];exact hle,λu hu'=>(by cases hu')⟩
 have iS:∀{Cl G G'},Iv Cl G->y4 G G'->Iv Cl G':=λ{Cl G G'} h s'=>by
  rw [eI] at h ⊢
  obtain ⟨new,fas,a1,a2,a3,a4,a5,a6,a7⟩:=h
  exact ⟨new,fas,a1.trans (y4.frame s'),a2.same s',s' _ _ a3,a4.same s',a5,a6,a7⟩
 have hpl:eas.length=eks.length:=Paired.length hts
 refine l4 λN hN=>⟨_,rfl,el,rfl,⟨_,SqL.of (s1 _ _ hel)⟩,T1 (xs:=eas.map V.ref) (λi σ G=>∃v4 v5 v6 v7,σ=[some (.ref x),some (.ref el),some (.int most),some (.ref fl),v4,v5,v6,v7]/\Iv ((eks.take i).flatMap λk=>ts.map (mv k)) G)
  ⟨none,none,none,none,rfl,by rw [cu];exact i0⟩ (λi σ G _ ⟨_,_,_,_,_,h⟩=>?_) ?_ ?_⟩
 ·rw [eI] at h
  obtain ⟨_,_,fr,_⟩:=h
  exact SqL.of (fr _ _ (by simp [elw,elb]) hel)
 ·clear hN
  rintro i y σ G hy ⟨v4,v5,v6,v7,rfl,hI⟩
  obtain ⟨ea,hea,rfl⟩:=Y7 hy
  obtain ⟨k,hk,hHk⟩:=u4 hts i ea hea
  have hkes:=hek k (au hk)
  obtain ⟨e0,he0,rfl⟩:=av.mp hkes
  have hw0:=hways e0 he0
  have hok0:ok e0.k:=TM.Rch.in (P:=ok) hok (λl t hl ht=>ap.okm hl (ra.ga.tT t ht)) ⟨_,_,hw0⟩
  have hI':=hI
  rw [eI] at hI'
  obtain ⟨new,fas,a1,a2,a3,_⟩:=hI'
  obtain ⟨dx,hx⟩:=a2.x'
  have gaG:=a2.ga.same a2.s
  obtain ⟨dxg,ma,Ac,mas0,hg,_⟩:=gaG.at'
  refine ⟨_,rfl,x,cR,dx,_,_,rfl,hx,cr.cls,cr.no "group" (by decide),rfl,g,dxg,_,rfl,hg,rfl,g,n,ts,S,rfl,gaG,λml mas G3 hml0 s3 hml hmas=>?_⟩
  have hmw:ml≠wd:=λz=>by rw [z,a2.d.w] at hml0;cases hml0
  have hmb:ml≠bd:=λz=>by rw [z,a2.d.b] at hml0;cases hml0
  have hmf:ml≠fl:=λz=>by rw [z,a3] at hml0;cases hml0
  have w3:=s3 _ _ a2.d.w
  have b3:=s3 _ _ a2.d.b
  have f3:=s3 _ _ a3
  have ea3:G3 ea=some (.tup (tI e0.k)):=s3 _ _ (a1 _ _ (by have:=ra.d.tup hHk;simp [this.1,this.2]) hHk)
  have hI3:=iS hI s3
  clear hI a1 a2 a3 hx gaG hg hml0
  have hTm:∀{G:Hp} {c:Addr} {u:List V},y8 [wd,bd,fl] G3 G->G3 c=some (.tup u)->G c=some (.tup u):=λ{G c u} fr h=>fr _ _ (λz=>by
   simp only [aq,bx,or_false] at z
   rcases z with z|z|z
   ·rw [z,w3] at h;cases h
   ·rw [z,b3] at h;cases h
   ·rw [z,f3] at h;cases h) h
  have hml3:mas.length=ts.length:=Paired.length hmas
  refine ⟨ml,rfl,⟨_,SqL.of hml⟩,zj8 (xs:=mas.map V.ref) (λj σ G=>∃v5 v6 v7,σ=[some (.ref x),some (.ref el),some (.int most),some (.ref fl),some (.ref ea),v5,v6,v7]/\y8 [wd,bd,fl] G3 G/\Iv (((eks.take i).flatMap λk=>ts.map (mv k))++(ts.take j).map (mv e0.k)) G)
   ⟨v5,v6,v7,rfl,y8.refl,by rw [cu,cq,bu];exact hI3⟩ (λj σ G _ ⟨_,_,_,_,fr,_⟩=>SqL.of (fr _ _ (by simp [hmw,hmb,hmf]) hml)) ?_ ?_⟩
  ·rintro j y σ G T hy ⟨v5,v6,v7,rfl,fr,hI⟩ hT
   obtain ⟨m,hm,rfl⟩:=Y7 hy
   obtain ⟨t,ht,hmt⟩:=u4 hmas j m hm
   have tT:=ra.ga.tT t (au ht)
   refine ⟨T,_,rfl,SqT.of z4,rfl,_,_,rfl,_,_,rfl,rfl,?_⟩
   have s4:=z7 hT (.tup [V.int ((j:Nat):Int),V.ref m])
   generalize upd G T (.tup [V.int ((j:Nat):Int),V.ref m])=G4 at s4 ⊢
   have ea4:=s4 _ _ (hTm fr ea3)
   have m4:=s4 _ _ (hTm fr hmt)
   have fr4:=fr.trans (y4.frame s4)
   have hI4:=iS hI s4
   clear hI s4 hT
   have hI':=hI4
   rw [eI] at hI'
   obtain ⟨new,fas,a1,a2,a3,a4,a5,a6,a7⟩:=hI'
   obtain ⟨dx,hx⟩:=a2.x'
   have hA:=ap.same a2.ac a2.s
   obtain ⟨dxa,fsa,hains,l1,_⟩:=ap.ins hA
   refine l4 λM hM=>⟨_,rfl,x,cR,dx,_,_,rfl,hx,cr.cls,cr.no "act" (by decide),rfl,a,dxa,fsa,rfl,hains,l1,_,rfl,_,rfl,a,ea,m,e0.k,t,rfl,hA,ea4,hok0,m4,tT,λr G5 s5 hr5=>hM _ _ ?_⟩
   clear hM M hA hains l1
   have ea5:=s5 _ _ ea4
   have m5:=s5 _ _ m4
   have fr5:=fr4.trans (y4.frame s5)
   replace a1:=a1.trans (y4.frame s5)
   replace a2:=a2.same s5
   replace a3:=s5 _ _ a3
   replace a4:=a4.same s5
   replace hx:=s5 _ _ hx
   clear hI4 ea4 m4 fr4 s5
   generalize G5=G5 at *
   have kt:∀{c:Addr} {u:List Nat},G5 c=some (.tup (tI u))->G5 c=some (.tup ((kT u).map kV)):=λ{c u} h=>by rw [yf6];exact h
   have more:∀(v5' v6' v7':Option V) (new':List Ent) (fas':List Addr) (G':Hp),y8 [wd,bd,fl] G3 G'->y8 [wd,bd] H G'->Z4 cR cG cC cB cS n AH ts S H0 G' x g a o wd bd (es++new')->G' fl=some (.lst (fas'.map V.ref))->Y4 G' fas' (new'.map Ent.k)->(∀e∈new',TM.Ways n ts mv ow e.k e.w e.b)->(es++new').length<=most->(∀u∈(es++new).map Ent.k,u∈(es++new').map Ent.k)->mv e0.k t∈(es++new').map Ent.k ->
     ∃v5 v6 v7,[some (.ref x),some (.ref el),some (.int most),some (.ref fl),some (.ref ea),v5',v6',v7']=[some (.ref x),some (.ref el),some (.int most),some (.ref fl),some (.ref ea),v5,v6,v7]/\y8 [wd,bd,fl] G3 G'/\Iv (((eks.take i).flatMap λk=>ts.map (mv k))++(ts.take (j+1)).map (mv e0.k)) G':=by
    intro v5' v6' v7' new' fas' G' b1 b2 b3 b4 b5 b6 b7 b8 b9
    refine ⟨_,_,_,rfl,b1,?_⟩
    rw [eI]
    refine ⟨new',fas',b2,b3,b4,b5,b6,b7,λu hu'=>?_⟩
    rw [aT,ht,cx,aG,←aY] at hu'
    rcases aD.mp hu' with h|h
    ·exact b8 u (a7 u h)
    ·rw [aI,cq,ao] at h
     rw [h]
     exact b9
   by_cases hin:mv e0.k t∈(es++new).map Ent.k
   ·obtain ⟨e1,he1,ek1⟩:=av.mp hin
    have hv:=zh1 (λe=>V.ref e.wa) a2.d.nd he1
    rw [ek1] at hv
    refine ⟨_,rfl,_,rfl,x,cR,dx,_,_,rfl,hx,cr.cls,cr.no "ways" (by decide),rfl,wd,_,rfl,V5.t a2.d.w (kt hr5),?_⟩
    rw [hv]
    refine ⟨_,rfl,m9 ?_⟩
    exact more _ _ _ new fas G5 fr5 a1 a2 a3 a4 a5 a6 (λu h=>h) hin
   ·have hv:=zt7 (λe=>V.ref e.wa) hin
    refine ⟨_,rfl,_,rfl,x,cR,dx,_,_,rfl,hx,cr.cls,cr.no "ways" (by decide),rfl,wd,_,rfl,V5.t a2.d.w (kt hr5),?_⟩
    rw [hv]
    refine ⟨_,rfl,i7 ?_⟩
    have he0':e0∈es++new:=aJ _ he0
    obtain ⟨p1,p2,p3⟩:=a2.d.at' e0 he0'
    have hv1:=zh1 (λe=>V.ref e.wa) a2.d.nd he0'
    have hv2:=zh1 (λe=>V.ref e.ba) a2.d.nd he0'
    have hbT:=hw0.isT ra.ga.tT
    have hn60:=ra.ga.n60
    refine l4 λM hM=>⟨_,rfl,x,dx,_,rfl,hx,rfl,_,rfl,_,rfl,x,cR,dx,_,_,rfl,hx,cr.cls,cr.no "ways" (by decide),rfl,_,rfl,wd,_,rfl,hv1 ▸ V5.t a2.d.w (kt ea5),_,rfl,(by show 1<=sizeLine;lia),λtp htp=>xp6 (z7 htp _ _ _ p1) z4 (by lia) λwr G6 s6 hwr=>?_⟩
    replace s6:=(z7 htp (.tup [V.int ((j:Nat):Int)])).trans s6
    refine ⟨_,rfl,x,cR,dx,_,_,rfl,s6 _ _ hx,cr.cls,cr.no "bringers" (by decide),rfl,_,rfl,bd,_,rfl,hv2 ▸ V5.t (s6 _ _ a2.d.b) (by rw [yf6];exact s6 _ _ ea5),_,rfl,e0.ba,m,e0.b,t,rfl,SqT.of (s6 _ _ p2),SqT.of (s6 _ _ m5),(by rw [hbT.length];lia),(λz hz'=>by rw [tT.length];exact aX.mp ((show e0.b.Perm (List.range n) from hbT).mem_iff.mp hz')),λbr G7 _ s7 hbr=>⟨_,rfl,?_⟩⟩
    have s57:=s6.trans s7
    have hW1:TM.Ways n ts mv ow (mv e0.k t) (e0.w++[j]) (TM.beh e0.b t):=.step hw0 ht
    replace a2:=a2.same s57
    replace a1:=a1.trans (y4.frame s57)
    replace a3:=s57 _ _ a3
    replace a4:=a4.same s57
    replace fr5:=fr5.trans (y4.frame s57)
    replace hr5:=s57 _ _ hr5
    replace hx:=s57 _ _ hx
    refine ⟨x,dx,g,a,o,wd,bd,r,wr,br,es++new,mv e0.k t,e0.w++[j],TM.beh e0.b t,most,rfl,hx,a2.d,hr5,s7 _ _ hwr,hbr,hin,by lia,by rw [af];show e0.w.length+1<=_;lia,λhlt G8 f8 d8=>hM _ _ ?_,λhge=>qx G7 a2.s ⟨mv e0.k t::(es++new).map Ent.k,aZ.mpr ⟨hin,a2.d.nd⟩,λu hu'=>?_,by rw [aC,ae];lia⟩⟩
    ·clear hM M
     have flw:fl≠wd:=λz=>by rw [z,a2.d.w] at a3;cases a3
     have flb:fl≠bd:=λz=>by rw [z,a2.d.b] at a3;cases a3
     have r8:=a2.frame f8 d8
     have a38:=f8 _ _ (by simp [flw,flb]) a3
     have hr8:G8 r=some (.tup (tI (mv e0.k t))):=f8 _ _ (by have:=a2.d.tup hr5;simp [this.1,this.2]) hr5
     refine ⟨_,rfl,.inl ⟨rfl,_,SqL.of a38⟩,_,rfl,fl,_,_,rfl,rfl,a38,?_,?_⟩
     ·rw [ae]
      have:=Paired.length a4
      rw [ae] at this
      rw [af] at a6
      lia
     have f9:y8 [fl] G8 (upd G8 fl (.lst (fas.map V.ref++[V.ref r]))):=y8.upd y8.refl (by simp) _
     have hfk:∀y∈[fl],∀us,G8 y≠some (.tup us):=λy hy us z=>by rw [ao.mp hy,a38] at z;cases z
     obtain ⟨dx8,hx8⟩:=r8.x'
     have xf:x≠fl:=λz=>by rw [z,a38] at hx8;cases hx8
     have hflH:H fl=none:=hfl
     have H0fl:H0 fl=none:=by
      cases e:H0 fl with
      | none=>rfl
      | some u=>rw [ra.s _ _ e] at hfl;cases hfl
     refine more _ _ _ (new++[⟨mv e0.k t,wr,e0.w++[j],br,TM.beh e0.b t⟩]) (fas++[r]) _ ?_ ?_ ?_ ?_ ?_ ?_ ?_ ?_ ?_
     ·exact (fr5.trans (f8.more (by simp))).trans (f9.more (by simp))
     ·exact λb u hb h=>by rw [z6 (y9 h hfl)];exact (a1.trans f8) b u hb h
     ·rw [←aY]
      exact ⟨⟨dx8,by rw [z6 xf];exact hx8⟩,λb u h=>by rw [z6 (y9 h H0fl)];exact r8.s b u h,r8.w0,r8.b0,r8.ga,r8.ac,r8.d.frame f9 (by simp [Ne.symm flw]) (by simp [Ne.symm flb]) hfk⟩
     ·rw [z4,aG];rfl
     ·have kp:∀{c:Addr} {u:List V},G7 c=some (.tup u)->(upd G8 fl (.lst (fas.map V.ref++[V.ref r]))) c=some (.tup u):=λ{c u} h=>f9 _ _ (λz=>hfk _ z u (f8 _ _ (by have:=a2.d.tup h;simp [this.1,this.2]) h)) (f8 _ _ (by have:=a2.d.tup h;simp [this.1,this.2]) h)
      rw [aG]
      exact X7 (Paired.imp' (λ_ _ z=>kp z) a4) (.cons (kp hr5) .nil)
     ·intro e he
      rcases aD.mp he with h|h
      ·exact a5 e h
      ·rw [ao.mp h];exact hW1
     ·rw [←aY,af];show _+1<=most;lia
     ·intro u h
      rw [←aY,aG]
      exact aJ _ h
     ·rw [←aY,aG]
      exact aK _ (by simp)
    ·rcases aq.mp hu' with h|h
     ·rw [h];exact ⟨_,_,hW1⟩
     ·obtain ⟨e,he,rfl⟩:=av.mp h
      rcases aD.mp he with h|h
      ·exact ⟨_,_,hways e h⟩
      ·exact ⟨_,_,a5 e h⟩
  ·rintro σ G ⟨v5,v6,v7,rfl,fr,hI⟩
   refine ⟨_,_,_,_,rfl,?_⟩
   rw [ae,hml3,bG] at hI
   rw [aT,hk,cx,dG,fk,List.flatMap_nil,bu]
   exact hI
 ·rintro σ G ⟨v4,v5,v6,v7,rfl,hI⟩
  rw [ae,hpl,bG] at hI
  rw [eI] at hI
  obtain ⟨new,fas,a1,a2,a3,a4,a5,a6,a7⟩:=hI
  exact hN _ _ ⟨_,rfl,q fl fas new G a1 a2 a3 a4 a5 a6 λk hk t ht=>a7 _ (bS.mpr ⟨k,hk,av.mpr ⟨t,ht,rfl⟩⟩)⟩
def yx9 (cR cG cC cB cS X:Addr)(n:Nat)(AH:Hp->Addr->Prop)(ok:List Nat->Prop)(mv:List Nat->List Nat->List Nat):Sp:=λvs H Q E=>∃(ts:List (List Nat)) (S:ChS) (H0:Hp) (x g a o wd bd:Addr) (ow:List Nat) (most:Nat),
 vs=[.ref x,.int most]/\Z4 cR cG cC cB cS n AH ts S H0 H x g a o wd bd []/\H o=some (.tup (tI ow))/\ok ow/\most<1000000 /\
 (∀(es:List Ent) (H':Hp),y8 [wd,bd] H H'->Z4 cR cG cC cB cS n AH ts S H0 H' x g a o wd bd es->(∀e∈es,TM.Ways n ts mv ow e.k e.w e.b)->es.length<=most->ow∈es.map Ent.k->(∀k∈es.map Ent.k,∀t∈ts,mv k t∈es.map Ent.k)->Q .non H') /\
 (∀H',y4 H0 H'->yr2 n ts mv ow most->E (.ref X) none H')
theorem L0:x9 ["self","most","edge"] ["self","most"] (z9 J4):=scq
theorem zv2 {cR cG cC cB cS X:Addr}{n:Nat}{AH:Hp->Addr->Prop}{ok:List Nat->Prop}{mv:List Nat->List Nat->List Nat}(F:Fun K "fill" "Ring.fill" J4 f fd) (B:Blt mg) (cr:g7 K cR zm2) (cg:g7 K cG K5)
  (MN:ye1 P w K mg base 5 cR "next_edge" ["self","edge","most"] (ym4 cR cG cC cB cS X n AH ok mv)) (MP:ye1 P w K mg base 1 cR "put_thing" ["self","thing","way","turning","most"] (zy0 cR X)) (KS:l9 P w K mg base 1 "still" ["many"] zi0):u6 P w K mg base (CX1 P w) 6 f fd ["self","most"] (yx9 cR cG cC cB cS X n AH ok mv):=by
 refine F.okX L0 (λvs H Q E h=>?_) (λcdv A outer s H vs Q E hr h=>?_)
 ·obtain ⟨ts,S,H0,x,g,a,o,wd,bd,ow,most,rfl,_⟩:=h
  rfl
 obtain ⟨ts,S,H0,x,g,a,o,wd,bd,ow,most,rfl,ra,ho,hok,hmost,q,qx⟩:=h
 have hz:=u7
 apply T0
 ·apply v0
  ·exact DS.mk (u5 (i:=2) L0.nd rfl (Or.inl rfl) (l7 (z0 (w8 (pv 0) rfl) z5)))
  apply v0
  ·exact DS.mk (l8 (yb4 cr.cls MP hr (pv 0) (z0 (w8 (pv 0) rfl) (z0 (Q1 z5) (z0 (o0 KS hr rfl (z0 (w8 (w8 (pv 0) rfl) rfl) z5)) (z0 (pv 1) z5))))))
  exact ⟨z8 (yb8 PassesOwn.leaving (p7 yk8 (v8 q9 rfl B.len X4 (z0 (pv 2) z5)) y6 (o7 _)) (z8 (u5 (i:=2) L0.nd rfl (Or.inl rfl) (yb4 cr.cls MN hr (pv 0) (z0 (pv 2) (z0 (pv 1) z5))))))⟩
 obtain ⟨dx,hx⟩:=ra.x'
 refine l4 λN hN=>⟨_,rfl,x,cR,dx,_,_,rfl,hx,cr.cls,cr.no "own" (by decide),rfl,(by show 1<=sizeLine;lia),λel hel=>hN _ _ ?_⟩
 clear hN N
 have s1:=z7 hel (.lst [V.ref o])
 have e1:(upd H el (.lst [V.ref o])) el=some (.lst [V.ref o]):=z4
 generalize upd H el (.lst [V.ref o])=H1 at s1 e1 ⊢
 have r1:=ra.same s1
 obtain ⟨dxg,ma,Ac,mas0,hg,_⟩:=(r1.ga.same r1.s).at'
 refine l4 λN hN=>⟨_,rfl,x,dx,_,rfl,s1 _ _ hx,rfl,_,rfl,x,cR,dx,_,_,rfl,s1 _ _ hx,cr.cls,cr.no "own" (by decide),rfl,aR _,λwr hwr=>?_⟩
 have s2:=z7 hwr (.tup [])
 have e2:(upd H1 wr (.tup [])) wr=some (.tup []):=z4
 generalize upd H1 wr (.tup [])=H2 at s2 e2 ⊢
 refine ⟨_,rfl,x,cR,dx,_,_,rfl,s2 _ _ (s1 _ _ hx),cr.cls,cr.no "group" (by decide),rfl,g,cG,dxg,_,_,rfl,s2 _ _ hg,cg.cls,cg.no "many" (by decide),rfl,n,rfl,by have:=ra.ga.n60;lia,λbr H3 _ s3 hbr=>⟨_,rfl,?_⟩⟩
 have s23:=s2.trans s3
 have r3:=r1.same s23
 refine ⟨x,dx,g,a,o,wd,bd,o,wr,br,[],ow,[],List.range n,most,rfl,s23 _ _ (s1 _ _ hx),r3.d,s23 _ _ (s1 _ _ ho),s3 _ _ e2,hbr,(λz=>by cases z),by show 0<1000000;decide,aR _,λhlt H4 f4 d4=>hN _ _ ?_,λhge=>qx H3 r3.s ⟨[ow],by simp,λk hk=>by rw [ao.mp hk];exact TM.Rch.own,by show most<1;simp at hge;lia⟩⟩
 clear hN N
 have r4:=r3.frame f4 d4
 have F4:y8 [wd,bd] H H4:=(y4.frame (s1.trans s23)).trans f4
 have el4:H4 el=some (.lst [V.ref o]):=f4 _ _ (λz=>by
  simp only [aq,bx,or_false] at z
  rcases z with z|z
  ·rw [z,ra.d.w] at hel;cases hel
  ·rw [z,ra.d.b] at hel;cases hel) (s23 _ _ e1)
 have o4:H4 o=some (.tup (tI ow)):=f4 _ _ (by have:=r3.d.tup (s23 _ _ (s1 _ _ ho));simp [this.1,this.2]) (s23 _ _ (s1 _ _ ho))
 refine ⟨λm σ G=>∃(el:Addr) (eas:List Addr) (eks:List (List Nat)) (es:List Ent),σ=[some (.ref x),some (.int most),some (.ref el)]/\y8 [wd,bd] H G/\Z4 cR cG cC cB cS n AH ts S H0 G x g a o wd bd es/\G el=some (.lst (eas.map V.ref))/\Y4 G eas eks/\(∀k∈eks,k∈es.map Ent.k)/\(∀e∈es,TM.Ways n ts mv ow e.k e.w e.b)/\es.length<=most/\ow∈es.map Ent.k/\(∀k∈es.map Ent.k,k∈eks∨∀t∈ts,mv k t∈es.map Ent.k)/\m=2*(most-es.length)+(if eks=[] then 0 else 1),⟨_,el,[o],[ow],[⟨ow,wr,[],br,List.range n⟩],rfl,F4,r4,el4,.cons o4 .nil,by simp,λe he=>by rw [ao.mp he];exact .own,hlt,by simp,λk hk=>.inl (by simpa using hk),rfl⟩,?_⟩
 rintro m σ G ⟨el,eas,eks,es,rfl,fG,rG,hel,hts,hek,hw,hle,how,hcl,em⟩
 have hlen:eas.length=eks.length:=Paired.length hts
 refine ⟨_,rfl,el,_,rfl,.inl (SqL.of hel),_,_,rfl,rfl,_,rfl,?_⟩
 rw [ae]
 by_cases h0:eas.length=0
 ·rw [decide_eq_false (by lia)]
  have hek0:eks=[]:=cK.mp (by lia)
  refine m9 (q es G fG rG hw hle how λk hk=>?_)
  rcases hcl k hk with h|h
  ·rw [hek0] at h;cases h
  ·exact h
 rw [decide_eq_true (by lia)]
 have hek0:eks≠[]:=λz=>by rw [z] at hlen;exact h0 hlen
 rw [if_neg hek0] at em
 obtain ⟨dx',hx'⟩:=rG.x'
 refine i7 ⟨λσ' H'=>∃m',m'<m/\_,λσ' H' h=>h,?_⟩
 refine ⟨_,rfl,x,dx',_,rfl,hx',rfl,_,rfl,_,rfl,ts,S,H0,x,g,a,o,wd,bd,el,es,eas,eks,ow,most,rfl,rG,hel,hts,hek,hok,hw,hle,hmost,λfl fas new H' f' r' hfl htf hw' hle' hcl'=>?_,qx⟩
 refine ⟨2*(most-(es++new).length)+(if new.map Ent.k=[] then 0 else 1),?_,fl,fas,new.map Ent.k,es++new,rfl,fG.trans f',r',hfl,htf,λk hk=>?_,λe he=>?_,hle',?_,λk hk=>?_,rfl⟩
 ·rw [em,af]
  rw [af] at hle'
  by_cases hn:new=[]
  ·rw [hn,cq,if_pos rfl,di];lia
  ·have:0<new.length:=List.length_pos_iff.mpr hn
   rw [if_neg λz=>hn (List.map_eq_nil_iff.mp z)];lia
 ·rw [aG];exact aK _ hk
 ·rcases aD.mp he with h|h
  ·exact hw e h
  ·exact hw' e h
 ·rw [aG];exact aJ _ how
 ·rw [aG] at hk
  rcases aD.mp hk with h|h
  ·refine .inr λt ht=>?_
   rcases hcl k h with h|h
   ·exact hcl' k h t ht
   ·rw [aG];exact aJ _ (h t ht)
  ·exact .inl h
def xn6 (AH:Hp->Addr->Prop)(LK:Hp->V->Option (List Nat)->Prop)(X:Addr):Sp:=λvs H Q E=>∃(a:Addr) (v:V) (r:Option (List Nat)),vs=[.ref a,v]/\AH H a/\LK H v r/\(∀l,r=some l->∀(o:Addr) (H':Hp),y4 H H'->H' o=some (.tup (tI l))->Q (.ref o) H')/\(r=none->∀H',y4 H H'->E (.ref X) none H')
structure xi9 (cG cC cB cS:Addr) (n:Nat) (ts:List (List Nat)) (S:ChS) (H0 H:Hp) (x g:Addr):Prop where
 s:y4 H0 H
 x0:H0 x=none
 ga:Z9 cG cC cB cS n H0 g ts S
structure zq3 (n:Nat) (ts:List (List Nat)) (mv:List Nat->List Nat->List Nat) (ow:List Nat) (most:Nat) (es:List Ent):Prop where
 w:∀e∈es,TM.Ways n ts mv ow e.k e.w e.b
 le:es.length<=most
 own:ow∈es.map Ent.k
 cl:∀k∈es.map Ent.k,∀t∈ts,mv k t∈es.map Ent.k
def zy1 (cR cG cC cB cS cA X X1:Addr)(n:Nat)(AH:Hp->Addr->Prop)(LK:Hp->V->Option (List Nat)->Prop)(ok:List Nat->Prop)(mv:List Nat->List Nat->List Nat):Sp:=λvs H Q E=>∃(ts:List (List Nat)) (S:ChS) (H0:Hp) (x dx g a:Addr) (v:V) (most:Nat),
 vs=[.ref x,.ref g,.ref a,v,.int most]/\H x=some (.ins cR dx [])/\xi9 cG cC cB cS n ts S H0 H x g/\most<1000000/\AH H0 a/\∃r,LK H0 v r/\(∀l,r=some l->ok l)/\(r=none->∀H',y4 H0 H'->E (.ref X1) none H') /\
 ∀ow,r=some ow->(∀(o wd bd:Addr) (es:List Ent) (H':Hp),y8 [x] H H'->Z4 cR cG cC cB cS n AH ts S H0 H' x g a o wd bd es->H' o=some (.tup (tI ow))->zq3 n ts mv ow most es->Q .non H')/\(∀H',y4 H0 H'->yr2 n ts mv ow most->E (.ref X) none H')
theorem O9:x9 ["self","group","act","thing","most"] ["self","group","act","thing","most"] (z9 p4):=scq
theorem zv3 {cR cG cC cB cS cA X X1 TE:Addr}{n:Nat}{AH:Hp->Addr->Prop}{LK:Hp->V->Option (List Nat)->Prop}{ok:List Nat->Prop}{mv:List Nat->List Nat->List Nat}{tk:Tok}(F:zo1 K "__init__" "Ring.__init__" p4 f fd #[.int 1000 tk]) (B:Blt mg) (cr:g7 K cR zm2) (cg:g7 K cG K5) (ca:g7 K cA ["many"]) (ap:xi6 cA n AH ok mv) (lk:∀{H H' v r},LK H v r->y4 H H'->LK H' v r)
  (ML:ye1 P w K mg base 6 cA "looked" ["self","thing"] (xn6 AH LK X1)) (MF:ye1 P w K mg base 6 cR "fill" ["self","most"] (yx9 cR cG cC cB cS X n AH ok mv)) (EA:O0 K mg TE "NoThing" X1):u6 P w K mg base (CX1 P w) 7 f fd ["self","group","act","thing","most"] (zy1 cR cG cC cB cS cA X X1 n AH LK ok mv):=by
 refine F.okX O9 (λvs H Q E h=>?_) (λcdv A outer s H vs Q E hr h=>?_)
 ·obtain ⟨ts,S,H0,x,dx,g,a,v,most,rfl,_⟩:=h
  rfl
 obtain ⟨ts,S,H0,x,dx,g,a,v,most,rfl,hx,ri,hmost,hA,r,hLK,hokr,qn,qs⟩:=h
 have hz:=u7
 apply T0
 ·apply v0
  ·exact DS.mk (n6 (p7 yl0 (w8 (pv 2) rfl) (w8 (pv 1) rfl) (o7 _)) (z8 (J2 EA.m EA.c PySem.F.excBase_ValueError rfl rfl (z0 M1 z5))) u0)
  apply v0
  ·exact DS.mk (d6 (pv 0) (pv 1) rfl)
  apply v0
  ·exact DS.mk (d6 (pv 0) (pv 2) rfl)
  apply v0
  ·exact DS.mk (d6 (pv 0) (yb4 ca.cls ML hr (pv 2) (z0 (pv 3) z5)) rfl)
  apply v0
  ·exact DS.mk (d6 (pv 0) yb3 rfl)
  apply v0
  ·exact DS.mk (d6 (pv 0) yb3 rfl)
  exact ⟨z8 (l8 (yb4 cr.cls MF hr (pv 0) (z0 (pv 4) z5)))⟩
 have gaH:=ri.ga.same ri.s
 obtain ⟨dxg,ma,Ac,mas0,hg,_⟩:=gaH.at'
 obtain ⟨dxa,fsa,hains,l1,l2,l3⟩:=ap.ins (ap.same hA ri.s)
 have nx:∀{b:Addr} {u:HO},H0 b=some u->b≠x:=λ{b u} h z=>by rw [z,ri.x0] at h;cases h
 refine l4 λN hN=>⟨_,rfl,a,cA,dxa,_,_,rfl,hains,ca.cls,ca.no "many" (by decide),l3,_,rfl,g,cG,dxg,_,_,rfl,hg,cg.cls,cg.no "many" (by decide),rfl,rfl,_,rfl,?_⟩
 show if (!decide (V.int n=V.int n))=true then _ else _
 rw [decide_eq_true rfl]
 refine m9 (hN _ _ ?_)
 clear hN N
 have same0:∀{H':Hp},y8 [x] H H'->y4 H0 H':=λ{H'} fr b u h=>fr b u (by simpa using nx h) (ri.s b u h)
 refine l4 λN hN=>⟨_,rfl,_,rfl,x,cR,dx,[],rfl,hx,cr.cls,cr.no "group" (by decide),by decide,hN _ _ ?_⟩
 clear hN N
 obtain ⟨H1,g1,f1,x1⟩:=m7 (H:=H) (x:=x) (cS:=cR) (dx:=dx) (f:="group") (v:=V.ref g) (fs:=[]) (fs':=[("group",.ref g)]) rfl
 rw [g1]
 refine l4 λN hN=>⟨_,rfl,_,rfl,x,cR,dx,_,rfl,x1,cr.cls,cr.no "act" (by decide),by (show 1<1000;decide),hN _ _ ?_⟩
 clear hN N
 obtain ⟨H2,g2,f2,x2⟩:=m7 (H:=H1) (x:=x) (cS:=cR) (dx:=dx) (f:="act") (v:=V.ref a) (fs:=[("group",.ref g)]) (fs':=[("group",.ref g),("act",.ref a)]) rfl
 rw [g2]
 have F2:y8 [x] H H2:=f1.trans f2
 have s2:=same0 F2
 obtain ⟨dxa2,fsa2,hains2,_,l2',_⟩:=ap.ins (ap.same hA s2)
 refine l4 λN hN=>⟨_,rfl,a,dxa2,fsa2,rfl,hains2,l2',_,rfl,a,v,r,rfl,ap.same hA s2,lk hLK s2,λow hr0 o H3 s3 ho=>?_,λhr0 H3 s3=>qn hr0 H3 (s2.trans s3)⟩
 obtain ⟨q,qx⟩:=qs ow hr0
 have hok:=hokr ow hr0
 refine ⟨_,rfl,x,cR,dx,_,rfl,s3 _ _ x2,cr.cls,cr.no "own" (by decide),by (show 2<1000;decide),hN _ _ ?_⟩
 clear hN N
 obtain ⟨H4,g4,f4,x4⟩:=m7 (H:=H3) (x:=x) (cS:=cR) (dx:=dx) (f:="own") (v:=V.ref o) (fs:=[("group",.ref g),("act",.ref a)]) (fs':=[("group",.ref g),("act",.ref a),("own",.ref o)]) rfl
 rw [g4]
 have F4:y8 [x] H H4:=(F2.trans (y4.frame s3)).trans f4
 have ox:o≠x:=λz=>by rw [z,s3 _ _ x2] at ho;cases ho
 have o4:=f4.keep ho ox
 refine l4 λN hN=>λwd hwd=>?_
 have s5:=z7 hwd (.dT [])
 have w5:(upd H4 wd (.dT [])) wd=some (.dT []):=z4
 generalize upd H4 wd (.dT [])=H5 at s5 w5 ⊢
 have xw:wd≠x:=λz=>by rw [z,x4] at hwd;cases hwd
 refine ⟨_,rfl,x,cR,dx,_,rfl,s5 _ _ x4,cr.cls,cr.no "ways" (by decide),by (show 3<1000;decide),hN _ _ ?_⟩
 clear hN N
 obtain ⟨H6,g6,f6,x6⟩:=m7 (H:=H5) (x:=x) (cS:=cR) (dx:=dx) (f:="ways") (v:=V.ref wd) (fs:=[("group",.ref g),("act",.ref a),("own",.ref o)]) (fs':=[("group",.ref g),("act",.ref a),("own",.ref o),("ways",.ref wd)]) rfl
 rw [g6]
 have F6:y8 [x] H H6:=(F4.trans (y4.frame s5)).trans f6
 have w6:=f6.keep w5 xw
 have o6:=f6.keep (s5 _ _ o4) ox
 refine l4 λN hN=>λbd hbd=>?_
 have s7:=z7 hbd (.dT [])
 have b7:(upd H6 bd (.dT [])) bd=some (.dT []):=z4
 generalize upd H6 bd (.dT [])=H7 at s7 b7 ⊢
 have xb:bd≠x:=λz=>by rw [z,x6] at hbd;cases hbd
 have wb:wd≠bd:=λz=>by rw [←z,w6] at hbd;cases hbd
 refine ⟨_,rfl,x,cR,dx,_,rfl,s7 _ _ x6,cr.cls,cr.no "bringers" (by decide),by (show 4<1000;decide),hN _ _ ?_⟩
 clear hN N
 obtain ⟨H8,g8,f8,x8⟩:=m7 (H:=H7) (x:=x) (cS:=cR) (dx:=dx) (f:="bringers") (v:=V.ref bd) (fs:=[("group",.ref g),("act",.ref a),("own",.ref o),("ways",.ref wd)]) (fs':=yh0 g a o wd bd) rfl
 rw [g8]
 have F8:y8 [x] H H8:=(F6.trans (y4.frame s7)).trans f8
 have fresh:∀{y:Addr} {G:Hp},y8 [x] H G->y≠x->G y=none->H0 y=none:=λ{y G} fr hy h=>by
  cases e:H0 y with
  | none=>rfl
  | some u=>rw [fr y u (by simpa using hy) (ri.s _ _ e)] at h;cases h
 have r8:Z4 cR cG cC cB cS n AH ts S H0 H8 x g a o wd bd []:=⟨⟨dx,x8⟩,same0 F8,fresh F4 xw hwd,fresh F6 xb hbd,ri.ga,hA,⟨f8.keep (s7 _ _ w6) xw,f8.keep b7 xb,wb,λe he=>(by cases he),by simp⟩⟩
 have o8:=f8.keep (s7 _ _ o6) ox
 refine ⟨_,rfl,x,dx,_,rfl,x8,rfl,_,rfl,ts,S,H0,x,g,a,o,wd,bd,ow,most,rfl,r8,o8,hok,hmost,λes H9 f9 r9 hw9 hle9 how9 hcl9=>?_,qx⟩
 refine q o wd bd es H9 (λb u hb h=>?_) r9 (f9 _ _ (by have:=r8.d.tup o8;simp [this.1,this.2]) o8) ⟨hw9,hle9,how9,hcl9⟩
 refine f9 b u (λz=>?_) (F8 b u hb h)
 simp only [aq,bx,or_false] at z
 rcases z with z|z
 ·rw [z] at h
  rw [F4 wd u (by simpa using xw) h] at hwd;cases hwd
 ·rw [z] at h
  rw [F6 bd u (by simpa using xb) h] at hbd;cases hbd
def zn1 (cR cG cC cB cS:Addr)(n:Nat)(AH:Hp->Addr->Prop):Sp:=λvs H Q _=>∃(ts:List (List Nat)) (S:ChS) (H0:Hp) (x g a o wd bd:Addr) (es:List Ent),vs=[.ref x]/\Z4 cR cG cC cB cS n AH ts S H0 H x g a o wd bd es/\(∀e∈es,e.k≠[])/\es.length<=400000 /\
 ∀(l:Addr) (bs:List Addr) (L:List (List Nat)) (H':Hp),H l=none->y4 H H'->H' l=some (.lst (bs.map V.ref))->Y4 H' bs L->L.Perm (es.map Ent.k)->Srt L->Q (.ref l) H'
theorem zm6:x9 ["self"] ["self"] (z9 P8):=scq
theorem zl1 {cR cG cC cB cS:Addr}{n:Nat}{AH:Hp->Addr->Prop}(F:Fun K "things" "Ring.things" P8 f fd) (B:Blt mg) (cr:g7 K cR zm2):u6 P w K mg base CX0 1 f fd ["self"] (zn1 cR cG cC cB cS n AH):=by
 refine F.ok zm6 (λvs H Q E h=>?_) (λcdv A outer s H vs Q E hr h=>?_)
 ·obtain ⟨ts,S,H0,x,g,a,o,wd,bd,es,rfl,_⟩:=h
  rfl
 obtain ⟨ts,S,H0,x,g,a,o,wd,bd,es,rfl,ra,hne,hl,q⟩:=h
 obtain ⟨dx,hx⟩:=ra.x'
 refine ⟨_,z8 (v1 (v8 (zo4 rfl) rfl B.sorted zc0 (z0 (w8 (pv 0) rfl) z5))),?_⟩
 refine ⟨_,rfl,x,cR,dx,_,_,rfl,hx,cr.cls,cr.no "ways" (by decide),rfl,wd,_,(es.map Ent.k).map TM.iN,rfl,ra.d.w,?_,λy hy=>?_,by rw [ae,ae];exact hl,λl bs qs hl0 hp hs hb=>?_⟩
 ·unfold R3
  rw [bE,bE,bE]
  refine bp λe _=>?_
  show kT e.k=(TM.iN e.k).map Sum.inl
  unfold kT TM.iN
  rw [bE]
  rfl
 ·obtain ⟨k,hk,rfl⟩:=av.mp hy
  obtain ⟨e,he,rfl⟩:=av.mp hk
  exact λz=>hne e he (List.map_eq_nil_iff.mp z)
 ·obtain ⟨L,hL,rfl⟩:=zr9 hp
  exact q l bs L _ hl0 (z7 hl0 _) z4 ((zx2 hb).same (z7 hl0 _)) hL (bn.mp hs)
def zh9 (cR cG cA X1:Addr):Sp:=λvs H _ E=>∃(x dx g a dg da:Addr) (fg:List (Str×V)) (n m:Nat) (v w':V),vs=[.ref x,.ref g,.ref a,v,w']/\H g=some (.ins cG dg (("many",.int n)::fg))/\H a=some (.ins cA da [("many",.int m)])/\m≠n/\E (.ref X1) none H
theorem zl0 {cR cG cA X1 TE:Addr}{tk:Tok}(F:zo1 K "__init__" "Ring.__init__" p4 f fd #[.int 1000 tk]) (B:Blt mg) (cg:g7 K cG K5) (ca:g7 K cA ["many"]) (EA:O0 K mg TE "NoThing" X1):u6 P w K mg base (CX1 P w) 7 f fd ["self","group","act","thing","most"] (zh9 cR cG cA X1):=by
 refine F.okX O9 (λvs H Q E h=>?_) (λcdv A outer s H vs Q E hr h=>?_)
 ·obtain ⟨x,dx,g,a,dg,da,fg,n,m,v,w',rfl,_⟩:=h
  rfl
 obtain ⟨x,dx,g,a,dg,da,fg,n,m,v,w',rfl,hg,ha,hne,qx⟩:=h
 refine ⟨_,y0 (n6 (p7 yl0 (w8 (pv 2) rfl) (w8 (pv 1) rfl) (o7 _)) (z8 (J2 EA.m EA.c PySem.F.excBase_ValueError rfl rfl (z0 M1 z5))) u0) yw8,?_⟩
 refine ⟨_,rfl,a,cA,da,_,_,rfl,ha,ca.cls,ca.no "many" (by decide),rfl,_,rfl,g,cG,dg,_,_,rfl,hg,cg.cls,cg.no "many" (by decide),rfl,rfl,_,rfl,?_⟩
 show if (!decide (V.int m=V.int n))=true then _ else _
 rw [Z0,decide_eq_false (by lia)]
 exact i7 ⟨by decide,qx⟩
theorem xf2 {tk:Tok}(F:zo1 K "__init__" "Ring.__init__" p4 f fd #[.int 1000 tk]):V6 K fd ["self","group","act","thing","most"] []:=λs us X hl=>by
 rw [bu] at hl ⊢
 obtain ⟨dT,oc,od,kV,doc,pm,an,cdv,ct,osl,rfl,lk,hcd,o,n,lo,hd⟩:=F.ex
 match us,hl with
 | [a,b,c,d,e],_ =>
  refine BindsTo.of_defaults (k:=?k) rfl (X _ _ lo) hd ?h1 ?h2
  case h1=>rfl
  case h2=>rfl
theorem xf1 {tk:Tok}(F:zo1 K "__init__" "Ring.__init__" p4 f fd #[.int 1000 tk]):V6 K fd ["self","group","act","thing","most"] [.int 1000 tk]:=λs us X hl=>by
 rw [af] at hl
 obtain ⟨dT,oc,od,kV,doc,pm,an,cdv,ct,osl,rfl,lk,hcd,o,n,lo,hd⟩:=F.ex
 have hl:us.length=4:=Nat.succ.inj hl
 match us,hl with
 | [a,b,c,d],_ =>
  refine BindsTo.of_defaults (k:=?k) rfl (X _ _ lo) hd ?h1 ?h2
  case h1=>rfl
  case h2=>rfl
theorem xf3 {tk:Tok}(F:zo1 K "__init__" "Ring.__init__" p4 f fd #[.int 1000 tk]):KB1 K fd ["self","group","act","thing","most"] "most":=λs us v X hl=>by
 rw [af] at hl
 obtain ⟨dT,oc,od,kV,doc,pm,an,cdv,ct,osl,rfl,lk,hcd,o,n,lo,hd⟩:=F.ex
 have hl:us.length=4:=Nat.succ.inj hl
 match us,hl with
 | [a,b,c,d],_ =>
  refine BindsTo.of_defaults (k:=?k) rfl (X _ _ lo) hd ?h1 ?h2
  case h1=>rfl
  case h2=>rfl
structure zq2 (P:Program) (w:World) (K:W.Frag) (mg:Str->Option Value) (base:Heap) (cR:Addr) (sp:Sp):Prop where
 five:xi8 P w K mg base 7 cR "Ring" ["self","group","act","thing","most"] [] sp
 four:xi8 P w K mg base 7 cR "Ring" ["self","group","act","thing","most"] [.int 1000] sp
 kw:xo9 P w K mg base 7 cR "Ring" ["self","group","act","thing","most"] "most" sp
theorem zq2.of {cR:Addr}{sp:Sp}{tk:Tok}(F:zo1 K "__init__" "Ring.__init__" p4 f fd #[.int 1000 tk]) (ok:u6 P w K mg base (CX1 P w) 7 f fd ["self","group","act","thing","most"] sp) (mk:Mk K cR f) (m:mg "Ring"=some (.ref cR)):zq2 P w K mg base cR sp :=
 ⟨⟨f,fd,[],ok,mk,m,xf2 F,.nil⟩,⟨f,fd,[.int 1000 tk],ok,mk,m,xf1 F,.cons ⟨tk,rfl⟩ .nil⟩,⟨f,fd,ok,mk,m,xf3 F⟩⟩
def mvL (t l:List Nat):List Nat:=l.map λx=>t.getD x 0
def zn0 (K:W.Frag):Sp:=λvs H Q _=>∃(a b:Addr) (l t:List Nat),vs=[.ref a,.ref b]/\H a=some (.tup (tI l))/\H b=some (.tup (tI t))/\(∀x∈l,x<t.length)/\l.length<=1000/\∀(r:Addr) (H':Hp),H r=none->y4 H H'->H' r=some (.tup (tI (mvL t l)))->Q (.ref r) H'
theorem zh0:x9 ["places","t"] ["places","t"] (z9 Q6):=scq
theorem zg7 (D:Def K mg "places_moved" Q6 ["places","t"] f fd) (B:Blt mg):u6 P w K mg base CX0 1 f fd ["places","t"] (zn0 K):=by
 refine D.F.ok zh0 (λvs H Q E h=>?_) (λcdv A outer s H vs Q E hr h=>?_)
 ·obtain ⟨a,b,l,t,rfl,_⟩:=h
  rfl
 obtain ⟨a,b,l,t,rfl,ha,hb,hlt,hl,q⟩:=h
 have hz:=u7
 refine ⟨_,z8 (v1 (o9 g9 rfl B.tuple Z7 (z0 (Y5 [1] ["place","t"] rfl (zw6 (pv 0)) (λ_ _ _ _=>i4 zc6 (pv 1) (pv 0) (λ_ _=>rfl))) z5))),?_⟩
 refine ⟨_,rfl,a,rfl,⟨_,SqT.of ha⟩,C8 (SqT.of ha) (tI (mvL t l)) (by unfold mvL;rw [v9,v9,ae]) (by rw [v9];omega) ?_ ?_⟩
 ·intro i H4 y hy s4 _ _ _ _
  obtain ⟨x,hx,rfl⟩:∃x:Nat,l[i]?=some x/\y=.int x:=by
   unfold tI at hy
   rw [ar] at hy
   cases e:l[i]? with
   | none=>rw [e] at hy;cases hy
   | some x=>rw [e] at hy;exact ⟨x,rfl,(Option.some.inj hy).symm⟩
  have hxt:=hlt x (au hx)
  have htx:t[x]?=some (t.getD x 0):=by simp [aa hxt]
  exact ⟨_,rfl,_,rfl,b,_,_,_,rfl,rfl,SqT.of (s4 _ _ hb),yn0 htx,y4.refl _,E8 (by unfold mvL;rw [ar,hx];rfl)⟩
 intro p H1 hp s1 hpp
 exact ⟨p,_,rfl,.inl ⟨SqL.of hpp,λr hr'=>q r _ (s1.free hr') (s1.trans (z7 hr' _)) z4⟩⟩
def kSq (K:W.Frag):Bool:=(["NoneType","bool","int","str","dict"].all λt=>W.kitAny K (.type t) [.type "list",.type "tuple"]==some false)&&["list","tuple"].all λt=>W.kitAny K (.type t) [.type "list",.type "tuple"]==some true
theorem xq9 {K:W.Frag}(h:kSq K=true)(d:PyData):W.kitAny K (.type (tyD d)) [.type "list",.type "tuple"]=some (yq1 d).isSome:=by
 unfold kSq at h
 obtain ⟨h1,h2⟩:=Bool.and_eq_true_iff.mp h
 have a:∀t∈["NoneType","bool","int","str","dict"],W.kitAny K (.type t) [.type "list",.type "tuple"]=some false:=λt ht=>eq_of_beq (bP.mp h1 t ht)
 have b:∀t∈["list","tuple"],W.kitAny K (.type t) [.type "list",.type "tuple"]=some true:=λt ht=>eq_of_beq (bP.mp h2 t ht)
 cases d with
 | none=>exact a "NoneType" (by decide)
 | bool _=>exact a "bool" (by decide)
 | int _=>exact a "int" (by decide)
 | str _=>exact a "str" (by decide)
 | dict _=>exact a "dict" (by decide)
 | list _=>exact b "list" (by decide)
 | tuple _=>exact b "tuple" (by decide)
def L9 (H:Hp)(a C:Addr)(n:Nat):Prop:=∃dx,H a=some (.ins C dx [("many",.int n)])
theorem L9.same {H H':Hp}{a C:Addr}{n:Nat}(h:L9 H a C n)(s:y4 H H'):L9 H' a C n:=h.imp λ_ e=>s _ _ e
def I0 (K:W.Frag):Sp:=λvs H Q _=>∃(x dx C:Addr) (n:Nat),vs=[.ref x,.int n]/\H x=some (.ins C dx [])/\g7 K C ["many"]/\Q .non (upd H x (.ins C dx [("many",.int n)]))
theorem zg8:x9 ["self","many"] ["self","many"] (z9 W8):=scq
theorem zf3 (F:Fun K "__init__" "Act.__init__" W8 f fd):u6 P w K mg base CX0 1 f fd ["self","many"] (I0 K):=by
 refine F.ok zg8 (λvs H Q E h=>?_) (λcdv A outer s H vs Q E hr h=>?_)
 ·obtain ⟨x,dx,C,n,rfl,_⟩:=h
  rfl
 obtain ⟨x,dx,C,n,rfl,hx,hC,q⟩:=h
 refine ⟨_,z8 (d6 (pv 0) (pv 1) rfl),?_⟩
 exact ⟨_,rfl,_,rfl,x,C,dx,[],rfl,hx,hC.cls,hC.no "many" ay,by decide,q⟩
def AHL (cL:Addr)(n:Nat):Hp->Addr->Prop:=λH a=>L9 H a cL n
def okL (n:Nat)(l:List Nat):Prop:=l.length<=60/\∀x∈l,x<n
def LKL (n:Nat):Hp->V->Option (List Nat)->Prop:=λH v r=>∃d,Dt H v d/\r=O8 60 n d
theorem LKL.same {n:Nat}{H H':Hp}{v:V}{r:Option (List Nat)}(h:LKL n H v r)(s:y4 H H'):LKL n H' v r:=h.imp λ_ e=>⟨e.1.same s,e.2⟩
theorem xp5 (cL:Addr)(n:Nat):xi6 cL n (AHL cL n) (okL n) TM.mvQ:=⟨λ⟨dx,h⟩=>⟨dx,_,h,rfl,rfl,rfl⟩,λh s=>h.same s,λ{l t} h hT=>⟨by unfold TM.mvQ;rw [ae];exact h.1,λx hx=>by
 unfold TM.mvQ at hx
 obtain ⟨y,hy,rfl⟩:=av.mp hx
 exact hT.step_lt (h.2 y hy)⟩⟩
theorem xf5 {m n:Nat}{d:PyData}{l:List Nat}(h:O8 m n d=some l):l.length<=m/\∀x∈l,x<n:=by
 unfold O8 at h
 obtain ⟨ds,_,h⟩:=Option.bind_eq_some_iff.mp h
 by_cases hle:ds.length<=m
 ·rw [if_pos hle] at h
  obtain ⟨a,_,c⟩:=zh6 h
  exact ⟨by rw [a];exact hle,c⟩
 ·rw [if_neg hle] at h
  cases h
theorem zg9:x9 ["self","thing"] ["self","thing"] (z9 Q3):=scq
theorem zg3 {cL X:Addr}{n:Nat}(F:Fun K "looked" "Lists.looked" Q3 f fd) (cl:g7 K cL ["many"]) (KR:V8 P w K mg base 4 "row_of_places" ["thing","most","many"] (yy4 X)) (GM:zf8 mg "MOST_IN_ROW" (.int 60)):u6 P w K mg base (CX1 P w) 6 f fd ["self","thing"] (xn6 (AHL cL n) (LKL n) X):=by
 refine F.okX zg9 (λvs H Q E h=>?_) (λcdv A outer s H vs Q E hr h=>?_)
 ·obtain ⟨a,v,r,rfl,_⟩:=h
  rfl
 obtain ⟨a,v,r,rfl,⟨dx,ha⟩,⟨d,hd,rfl⟩,q,qx⟩:=h
 refine ⟨_,z8 (v1 (yg7 KR hr rfl (z0 (pv 1) (z0 (A7 GM rfl) (z0 (w8 (pv 0) rfl) z5))))),?_⟩
 exact ⟨_,rfl,_,rfl,a,cL,dx,_,_,rfl,ha,cl.cls,cl.no "many" ay,rfl,v,d,60,n,rfl,hd,by decide,λl hl o H1 s1 ho=>q l hl o H1 s1 ho,qx⟩
theorem zm5:x9 ["self","thing","t"] ["self","thing","t"] (z9 P7):=scq
theorem zk9 {cL:Addr}{n:Nat}(F:Fun K "moved" "Lists.moved" P7 f fd) (KM:l9 P w K mg base 1 "places_moved" ["places","t"] (zn0 K)):u6 P w K mg base CX0 2 f fd ["self","thing","t"] (xn7 n (AHL cL n) (okL n) TM.mvQ):=by
 refine F.ok zm5 (λvs H Q E h=>?_) (λcdv A outer s H vs Q E hr h=>?_)
 ·obtain ⟨a,lr,tr,l,t,rfl,_⟩:=h
  rfl
 obtain ⟨a,lr,tr,l,t,rfl,_,hl,ok,ht,tT,q⟩:=h
 refine ⟨_,z8 (v1 (o0 KM hr rfl (z0 (pv 1) (z0 (pv 2) z5)))),?_⟩
 exact ⟨_,rfl,_,rfl,lr,tr,l,t,rfl,hl,ht,λx hx=>by rw [tT.length];exact ok.2 x hx,by have:=ok.1;lia,λr H' _ s' hr'=>q r H' s' hr'⟩
def yc8 (K:W.Frag):Sp:=λvs H Q _=>∃(a:Addr) (ns:List Int) (k:Nat),vs=[.ref a,.int k]/\SqL K H a (ns.map V.int)/\Q (.int (ns.getD k 0)) H
theorem zx5:x9 ["_law_script","_law_k"] ["_law_script","_law_k"] (z9 J5):=scq
theorem zv5 (D:Def K mg "_law_cell" J5 ["_law_script","_law_k"] f fd) (B:Blt mg):u6 P w K mg base CX0 1 f fd ["_law_script","_law_k"] (yc8 K):=by
 refine D.F.ok zx5 (λvs H Q E h=>?_) (λcdv A outer s H vs Q E hr h=>?_)
 ·obtain ⟨a,ns,k,rfl,_⟩:=h
  rfl
 obtain ⟨a,ns,k,rfl,hS,q⟩:=h
 refine ⟨_,y0 (n6 (p7 yk9 (pv 1) (v8 q9 rfl B.len X4 (z0 (pv 0) z5)) (o7 _)) (z8 (v1 (i4 p5 (pv 0) (pv 1) (λ_ _=>rfl)))) u0) (z8 (v1 y6)),?_⟩
 refine ⟨_,rfl,_,rfl,a,_,rfl,.inl hS,_,_,rfl,rfl,_,rfl,?_⟩
 refine xc2 (λc=>?_) (λc=>?_)
 ·have c':(k:Int)<(((ns.map V.int).length:Nat):Int):=of_decide_eq_true c
  rw [ae] at c'
  have hk:k<ns.length:=by omega
  have e:ns.getD k 0=ns[k]:=by rw [ax,aa hk];rfl
  rw [e] at q
  exact ⟨_,rfl,_,rfl,a,_,_,_,rfl,rfl,hS,k8 (by rw [ar,aa hk];rfl),q⟩
 ·have c':¬(k:Int)<(((ns.map V.int).length:Nat):Int):=of_decide_eq_false (cz.mpr c)
  rw [ae] at c'
  have e:ns.getD k 0=0:=by rw [ax,aH (by omega)];rfl
  rw [e] at q
  exact q
def yd2:Sp:=λvs H Q _=>∃i:Int,vs=[.int i]/\Q (.bl true) H
theorem zp6:x9 ["_law_found"] ["_law_found"] (z9 M6):=scq
theorem zp0 (D:Def K mg "_law_whole" M6 ["_law_found"] f fd) (B:Blt mg):u6 P w K mg base CX0 1 f fd ["_law_found"] yd2:=by
 refine D.F.ok zp6 (λvs H Q E h=>?_) (λcdv A outer s H vs Q E hr h=>?_)
 ·obtain ⟨i,rfl,_⟩:=h
  rfl
 obtain ⟨i,rfl,q⟩:=h
 refine ⟨_,z8 (v1 (zw2 (v8 c0 rfl B.isinstance r6 (z0 (pv 0) (z0 (W5 (v:=.ty "int") rfl B.int yr6 rfl) z5)))
  (zw5 (yw3 (v8 c0 rfl B.isinstance r6 (z0 (pv 0) (z0 (W5 (v:=.ty "bool") rfl B.bool yj2 rfl) z5))))))),?_⟩
 refine ⟨_,rfl,_,_,_,_,rfl,N6.int i,N8 yf7,_,rfl,i7 ?_⟩
 exact ⟨_,rfl,_,_,_,_,rfl,N6.int i,N8 zz9,_,rfl,q⟩
def zw0 (c:Int)(n:Nat):Nat->Int×List Nat×List Nat
 | 0=>(c,[],List.range n)
 | i+1=>((zw0 c n i).1 / ((n:Int)-(i:Int)),(zw0 c n i).2.1++[(zw0 c n i).2.2.getD ((zw0 c n i).1 % ((n:Int)-(i:Int))).toNat 0],(zw0 c n i).2.2.eraseIdx ((zw0 c n i).1 % ((n:Int)-(i:Int))).toNat)
def xr2 (c:Int)(n:Nat):List Nat:=(zw0 c n n).2.1
def zs0:Sp:=λvs H Q _=>∃(c:Int) (n:Nat),vs=[.int c,.int n]/\n<=100/\∀(r:Addr) (H':Hp) (row:List Nat),H r=none->y4 H H'->TM.IsT n row->row=xr2 c n->H' r=some (.lst (tI row))->Q (.ref r) H'
theorem Z3:x9 ["_law_number","_law_many","_law_left","_law_made","_law_k","_law_at"] ["_law_number","_law_many"] (z9 M5):=scq
theorem zo9 (D:Def K mg "_law_order" M5 ["_law_number","_law_many"] f fd) (B:Blt mg):u6 P w K mg base CX0 1 f fd ["_law_number","_law_many"] zs0:=by
 refine D.F.ok Z3 (λvs H Q E h=>?_) (λcdv A outer s H vs Q E hr h=>?_)
 ·obtain ⟨c,n,rfl,_⟩:=h
  rfl
 obtain ⟨c,n,rfl,hn,q⟩:=h
 refine ⟨_,y0 (u5 (i:=2) Z3.nd rfl (Or.inl rfl) (o9 (P5 rfl) rfl B.list Q8 (z0 (o9 G0 rfl B.range C6 (z0 (pv 1) z5)) z5)))
  (y0 (u5 (i:=3) Z3.nd rfl (Or.inl rfl) (l7 z5))
  (y0 (U1 PassesOwn.never rfl (zd4 rfl B.range (z0 (pv 1) z5)) (l5 (i:=4) Z3.nd rfl (Or.inl rfl))
   (y0 (zw9 (v8 ze9 rfl B.divmod zq8 (z0 (pv 0) (z0 (u9 zl3 (pv 1) (pv 4)) z5))) (zl4 rfl (Y6 (l5 (i:=0) Z3.nd rfl (Or.inl rfl)) (Y6 (l5 (i:=5) Z3.nd rfl (Or.inl rfl)) A8))))
   (z8 (l8 (J0 PySem.F.plainAttrs_list PySem.F.slot_list_append PySem.F.type_list_append X9 (pv 3) (z0 (J0 PySem.F.plainAttrs_list PySem.F.slot_list_pop PySem.F.type_list_pop yv1 (pv 2) (z0 (pv 5) z5)) z5))))))
  (z8 (v1 (pv 3))))),?_⟩
 refine ⟨_,rfl,_,rfl,λp hp=>⟨p,0,(n:Int),rfl,z4,⟨by omega,by omega,by omega,by omega,by omega⟩,λl hl=>?_⟩⟩
 rw [show ((n:Int)-0).toNat=n by omega,zb2]
 have pl:p≠l:=y9 z4 hl
 have hl0:H l=none:=by
  have:=hl
  rwa [z6 (Ne.symm pl)] at this
 have s1:y4 H (upd (upd H p (.rng 0 (n:Int))) l (.lst (tI (List.range n)))):=p8 (z7 hp _) hl0 _
 have el:(upd (upd H p (.rng 0 (n:Int))) l (.lst (tI (List.range n)))) l=some (.lst (tI (List.range n))):=z4
 generalize upd (upd H p (.rng 0 (n:Int))) l (.lst (tI (List.range n)))=H1 at s1 el ⊢
 refine ⟨(by show 0<=sizeLine;decide),λr hr'=>?_⟩
 have lr:l≠r:=y9 el hr'
 have hr0:H r=none:=s1.free hr'
 refine ⟨_,rfl,_,rfl,by omega,by omega,zr5 (n:=((n:Nat):Int).toNat) (λi σ H2=>∃(nu:Int) (row left:List Nat) (v6 v7:Option V),σ=[some (.int nu),some (.int n),some (.ref l),some (.ref r),v6,v7]/\y4 H H2/\H2 l=some (.lst (tI left))/\H2 r=some (.lst (tI row))/\TM.IsT n (row++left)/\left.length+i=n/\zw0 c n i=(nu,row,left))
  ⟨_,[],List.range n,none,none,rfl,s1.trans (z7 hr' _),by rw [z6 lr];exact el,z4,TM.IsT.range n,by rw [aN];rfl,rfl⟩ ?_ ?_⟩
 ·rintro i σ H2 hi ⟨nu,row,left,v6,v7,rfl,s2,hl2,hr2,hT,hlen,hos⟩
  have hi':i<n:=by omega
  have e0:(0:Int)+(i:Int)=((i:Nat):Int):=by omega
  rw [e0]
  have hsz:(0:Int)<(n:Int)-(i:Int):=by omega
  obtain ⟨k,ek,hk⟩:∃k:Nat,nu % ((n:Int)-(i:Int))=(k:Int)/\k<left.length:=by
   have h1:=bR nu (show (n:Int)-(i:Int)≠0 by omega)
   have h2:=dz nu hsz
   exact ⟨(nu % ((n:Int)-(i:Int))).toNat,by omega,by omega⟩
  have hx:left[k]?=some left[k]:=aa hk
  have hrl:row.length<=n:=by
   have:=hT.length
   rw [af] at this
   omega
  refine ⟨_,rfl,_,rfl,_,rfl,_,_,rfl,rfl,_,_,rfl,⟨hsz,by omega⟩,λtp htp=>?_⟩
  have hlt:l≠tp:=y9 hl2 htp
  have hrt:r≠tp:=y9 hr2 htp
  refine ⟨tp,_,rfl,SqT.of z4,rfl,_,_,rfl,_,_,rfl,rfl,?_⟩
  have s3:=s2.trans (z7 htp (.tup [V.int (nu / ((n:Int)-(i:Int))),V.int (nu % ((n:Int)-(i:Int)))]))
  have hl3:(upd H2 tp (.tup [V.int (nu / ((n:Int)-(i:Int))),V.int (nu % ((n:Int)-(i:Int)))])) l=some (.lst (tI left)):=by rw [z6 hlt];exact hl2
  have hr3:(upd H2 tp (.tup [V.int (nu / ((n:Int)-(i:Int))),V.int (nu % ((n:Int)-(i:Int)))])) r=some (.lst (tI row)):=by rw [z6 hrt];exact hr2
  generalize upd H2 tp (.tup [V.int (nu / ((n:Int)-(i:Int))),V.int (nu % ((n:Int)-(i:Int)))])=H3 at s3 hl3 hr3 ⊢
  rw [ek]
  refine ⟨_,rfl,.inl ⟨rfl,_,SqL.of hr3⟩,_,rfl,.inl ⟨rfl,_,SqL.of hl3⟩,_,rfl,l,_,_,k,V.int (left[k]:Int),rfl,rfl,hl3,by omega,by omega,by rw [v9];exact xf9 hk,E8 hx,r,tI row,_,rfl,rfl,?_,?_,?_⟩
  ·rw [z6 (Ne.symm lr)]
   exact hr3
  ·rw [v9]
   exact ze3 (by omega)
  refine ⟨_,row++[left[k]],left.eraseIdx k,_,_,rfl,p8 (p8 s3 hl0 _) hr0 _,?_,?_,TM.draw_perm hT hx,?_,?_⟩
  ·rw [z6 lr,z4,yd3]
  ·rw [z4,F9]
   rfl
  ·rw [List.length_eraseIdx_of_lt hk]
   omega
  ·rw [zw0,hos]
   dsimp only
   rw [ek,bQ,ax,hx]
   rfl
 ·rintro σ H2 ⟨nu,row,left,v6,v7,rfl,s2,hl2,hr2,hT,hlen,hos⟩
  have e:left=[]:=cK.mp (by omega)
  subst e
  rw [bu] at hT
  have hn':((n:Nat):Int).toNat=n:=by omega
  rw [hn'] at hos
  exact ⟨_,rfl,q r H2 row hr0 s2 hT (by unfold xr2;rw [hos]) hr2⟩
def ym2:Sp:=λvs H Q _=>∃c:Int,vs=[.int c]/\∀(r:Addr) (H':Hp) (a b d:Nat),H r=none->y4 H H'->1<=a->1<=b->1<=d->a+b+d<=33->a*b*d<=1001->H' r=some (.lst (tI [a,b,d]))->Q (.ref r) H'
def xu4:List PyData:=[.list [.int 7,.int 11,.int 13],.list [.int 13,.int 7,.int 11],.list [.int 11,.int 13,.int 7]]
def xh2:St->Hp->Prop:=λ_ _=>True
theorem T5:xh3 xh2:=λ_ _ _ _ _=>trivial
theorem zu6 {ds:List PyData}(h:Nat.ble ds.length 1000=true:=by rfl):ds.length<=sizeLine:=small (Nat.le_of_ble_eq_true h)
theorem ys8 {G:Hp}{v:V}{ds:List PyData}(h:Dt G v (.list ds)):∃a xs,v=.ref a/\G a=some (.lst xs)/\Dts G xs ds:=by
 cases h with
 | lst h r=>exact ⟨_,_,rfl,h,r⟩
theorem S6:x9 ["_law_cell_here","_law_way"] ["_law_cell_here"] (z9 Q5):=scq
theorem six {x:Int}:∃m:Nat,1+x % 6=(m:Int)/\1<=m/\m<=6:=⟨(1+x % 6).toNat,by lia,by lia,by lia⟩
theorem zg5 (D:Def K mg "_law_lengths" Q5 ["_law_cell_here"] f fd) (B:Blt mg):u6 P w K mg base CX0 1 f fd ["_law_cell_here"] ym2:=by
 refine D.F.ok S6 (λvs H Q E h=>?_) (λcdv A outer s H vs Q E hr h=>?_)
 ·obtain ⟨c,rfl,_⟩:=h
  rfl
 obtain ⟨c,rfl,q⟩:=h
 have hz:=u7
 have h3:∀{xs:List V},xs.length=3->xs.length<=sizeLine:=λh=>by lia
 apply T0
 ·apply v0
  ·exact DS.mk (zw9 (v8 ze9 rfl B.divmod zq8 (z0 (pv 0) (z0 y6 z5))) (zl4 rfl (Y6 (l5 (i:=0) S6.nd rfl (Or.inl rfl)) (Y6 (l5 (i:=1) S6.nd rfl (Or.inl rfl)) A8))))
  apply v0
  ·exact DS.mk (n6 (p7 O5 (pv 1) y6 (o7 _)) (z8 (v1 (l7 (z0 y6 (z0 y6 (z0 y6 z5)))))) u0)
  apply v0
  ·apply xp8
   ·exact p7 O5 (pv 1) y6 (o7 _)
   ·apply xb6
    apply xj4
    exact xp7 p5 (zx0 (C:=xh2) (ds:=xu4) (Z1 T5 (zx0 (Z1 T5 M2 (Z1 T5 M2 (Z1 T5 M2 zh7))) zu6) (Z1 T5 (zx0 (Z1 T5 M2 (Z1 T5 M2 (Z1 T5 M2 zh7))) zu6) (Z1 T5 (zx0 (Z1 T5 M2 (Z1 T5 M2 (Z1 T5 M2 zh7))) zu6) zh7))) zu6) (u9 d3 (pv 0) y6) (λ_ _=>rfl)
   ·exact xb5
  exact ⟨z8 (v1 (l7 (z0 (u9 X6 y6 (u9 d3 (pv 0) y6)) (z0 (u9 X6 y6 (u9 d3 (u9 R6 (pv 0) y6) y6)) (z0 (u9 X6 y6 (u9 d3 (u9 R6 (pv 0) y6) y6)) z5)))))⟩
 refine l4 λN hN=>⟨_,rfl,_,_,rfl,⟨by decide,by decide⟩,λtp htp=>⟨tp,_,rfl,SqT.of z4,rfl,_,_,rfl,_,_,rfl,rfl,hN _ _ ?_⟩⟩
 clear hN N
 have s1:=z7 htp (.tup [V.int (c / 8),V.int (c % 8)])
 generalize upd H tp (.tup [V.int (c / 8),V.int (c % 8)])=H1 at s1 ⊢
 refine l4 λN hN=>⟨_,rfl,rfl,_,rfl,?_⟩
 rw [Z0]
 by_cases c3:c % 8=3
 ·rw [decide_eq_true c3]
  exact i7 ⟨h3 rfl,λr hr'=>q r _ 10 10 10 (s1.free hr') (s1.trans (z7 hr' _)) (by decide) (by decide) (by decide) (by decide) (by decide) z4⟩
 rw [decide_eq_false c3]
 refine m9 (hN _ _ ?_)
 clear hN N
 refine l4 λN hN=>⟨_,rfl,rfl,_,rfl,?_⟩
 rw [Z0]
 by_cases c6:c % 8=6
 ·rw [decide_eq_true c6]
  refine i7 ⟨trivial,λv H2 s2 hv=>?_⟩
  obtain ⟨a0,xs0,rfl,ha0,r0⟩:=ys8 hv
  have hl0:xs0.length=3:=r0.length
  obtain ⟨m,em,hm⟩:=zk5 (z:=c / 8) (k:=3) (by decide)
  have em:c / 8 % 3=(m:Int):=em
  obtain ⟨z,hz0⟩:∃z,xs0[m]?=some z:=⟨_,aa (by lia)⟩
  obtain ⟨d,hd,hzd⟩:=r0.get hz0
  refine ⟨_,rfl,_,_,rfl,rfl,(by show (0:Int)<3;decide),a0,_,_,z,rfl,rfl,SqL.of (xc9 _ _ ha0),(by rw [em];exact k8 hz0),?_⟩
  have fin:∀(a b e:Nat),d=.list [.int a,.int b,.int e]->1<=a->1<=b->1<=e->a+b+e<=33->a*b*e<=1001->Q z H2:=λa b e ed h1 h2 h3 h4 h5=>by
   rw [ed] at hzd
   cases hzd with
   | @lst r xs _ hr' hs =>
   have ex:=zt6 (l:=[a,b,e]) hs
   subst ex
   obtain ⟨n1,n2⟩:=zv0 hr'
   exact q r H2 a b e (s1.free n1) (s1.trans s2) h1 h2 h3 h4 h5 n2
  match m,hm,hd with
  | 0,_,hd=>exact fin 7 11 13 (Option.some.inj hd).symm (by decide) (by decide) (by decide) (by decide) (by decide)
  | 1,_,hd=>exact fin 13 7 11 (Option.some.inj hd).symm (by decide) (by decide) (by decide) (by decide) (by decide)
  | 2,_,hd=>exact fin 11 13 7 (Option.some.inj hd).symm (by decide) (by decide) (by decide) (by decide) (by decide)
 rw [decide_eq_false c6]
 refine m9 (hN _ _ ?_)
 refine ⟨_,rfl,_,_,rfl,rfl,(by show (0:Int)<6;decide),_,_,rfl,rfl,_,rfl,_,_,rfl,rfl,⟨by decide,by decide⟩,_,_,rfl,rfl,(by show (0:Int)<6;decide),_,_,rfl,rfl,_,rfl,_,_,rfl,rfl,⟨by decide,by decide⟩,_,_,rfl,rfl,(by show (0:Int)<6;decide),_,_,rfl,rfl,h3 rfl,λr hr'=>?_⟩
 obtain ⟨a,ea,a1,a2⟩:=six (x:=c / 8)
 obtain ⟨b,eb,b1,b2⟩:=six (x:=c / 8 / 6)
 obtain ⟨d,ed,d1,d2⟩:=six (x:=c / 8 / 36)
 refine q r _ a b d (s1.free hr') (s1.trans (z7 hr' _)) a1 b1 d1 (by lia) ?_ ?_
 ·have h1:a*b<=6*6:=eF a2 b2
  have h2:a*b*d<=6*6*6:=eF h1 d2
  lia
 ·rw [z4]
  show some (HO.lst [V.int (1+c / 8 % 6),V.int (1+c / 8 / 6 % 6),V.int (1+c / 8 / 36 % 6)])=_
  rw [ea,eb,ed]
  rfl
def ye0 (H:Hp)(as:List Addr)(cs:List (List Nat)):Prop:=Paired (λa c=>H a=some (.lst (tI c))) as cs
theorem ye0.same {H H':Hp}{as:List Addr}{cs:List (List Nat)}(h:ye0 H as cs)(s:y4 H H'):ye0 H' as cs:=Paired.imp' (λ_ _ z=>s _ _ z) h
def zn3:Sp:=λvs H Q _=>∃(la:Addr) (n:Nat) (cas:List Addr) (cs:List (List Nat)),vs=[.ref la,.int n]/\H la=some (.lst (cas.map V.ref))/\ye0 H cas cs/\cs.flatten.Nodup/\(∀x∈cs.flatten,x<n)/\n<=60/\∀(r:Addr) (H':Hp),H r=none->y4 H H'->H' r=some (.tup (tI (TM.rowC n cs)))->Q (.ref r) H'
theorem R7:x9 ["_law_circles","_law_many","_law_made","_law_loop","_law_k"] ["_law_circles","_law_many"] (z9 J8):=scq
theorem yo0 {cs:List (List Nat)}{i:Nat}{c:List Nat}(h:cs[i]?=some c):(cs.take (i+1)).flatten=(cs.take i).flatten++c:=by
 rw [aT,h,cx,dv,bZ,List.flatten_nil,bu]
theorem zv8 (D:Def K mg "_law_turn" J8 ["_law_circles","_law_many"] f fd) (B:Blt mg):u6 P w K mg base CX0 1 f fd ["_law_circles","_law_many"] zn3:=by
 refine D.F.ok R7 (λvs H Q E h=>?_) (λcdv A outer s H vs Q E hr h=>?_)
 ·obtain ⟨la,n,cas,cs,rfl,_⟩:=h
  rfl
 obtain ⟨la,n,cas,cs,rfl,hla,hcs,hnd,hlt,hn,q⟩:=h
 have hz:=u7
 apply T0
 ·apply v0
  ·exact DS.mk (u5 (i:=2) R7.nd rfl (Or.inl rfl) (o9 (P5 rfl) rfl B.list Q8 (z0 (o9 G0 rfl B.range C6 (z0 (pv 1) z5)) z5)))
  apply v0
  ·exact DS.mk (U1 PassesOwn.never rfl (Y9 (pv 0)) (l5 (i:=3) R7.nd rfl (Or.inl rfl))
    (z8 (U1 PassesOwn.never rfl (zd4 rfl B.range (z0 (v8 q9 rfl B.len X4 (z0 (pv 3) z5)) z5)) (l5 (i:=4) R7.nd rfl (Or.inl rfl))
     (z8 (zw9 (i4 p5 (pv 3) (u9 d3 (u9 X6 (pv 4) y6) (v8 q9 rfl B.len X4 (z0 (pv 3) z5))) (λ_ _=>rfl)) (yw4 (pv 2) (i4 p5 (pv 3) (pv 4) (λ_ _=>rfl)) yc6))))))
  exact ⟨z8 (v1 (o9 g9 rfl B.tuple Z7 (z0 (pv 2) z5)))⟩
 refine l4 λN hN=>⟨_,rfl,_,rfl,λp hp=>⟨p,0,(n:Int),rfl,z4,⟨by lia,by lia,by lia,by lia,by lia⟩,λl hl=>hN _ _ ?_⟩⟩
 clear hN N
 rw [show ((n:Int)-0).toNat=n by lia,zb2]
 have pl:p≠l:=y9 z4 hl
 have hl0:H l=none:=by
  have:=hl
  rwa [z6 (Ne.symm pl)] at this
 have s1:y4 H (upd (upd H p (.rng 0 (n:Int))) l (.lst (tI (List.range n)))):=p8 (z7 hp _) hl0 _
 have el:(upd (upd H p (.rng 0 (n:Int))) l (.lst (tI (List.range n)))) l=some (.lst (tI (List.range n))):=z4
 generalize upd (upd H p (.rng 0 (n:Int))) l (.lst (tI (List.range n)))=H1 at s1 el ⊢
 have hcl:cas.length=cs.length:=Paired.length hcs
 refine l4 λN hN=>⟨_,rfl,la,rfl,⟨_,SqL.of (s1 _ _ hla)⟩,T1 (xs:=cas.map V.ref) (λi σ G=>∃(v3 v4:Option V) (g:List Nat),σ=[some (.ref la),some (.int n),some (.ref l),v3,v4]/\y4 H G/\G l=some (.lst (tI g))/\TM.RdC n (TM.rowC n cs) (λx=>x∈(cs.take i).flatten) g)
  ⟨none,none,_,rfl,s1,el,TM.RdC.start _ _ λx hx=>by rw [cu] at hx;cases hx⟩ (λi σ G _ ⟨_,_,_,_,ss,_⟩=>SqL.of (ss _ _ hla)) ?_ ?_⟩
 ·clear hN
  rintro i y σ G hy ⟨v3,v4,g,rfl,ss,hg,rd⟩
  obtain ⟨ca,hca,rfl⟩:=Y7 hy
  obtain ⟨c,hc,hHc⟩:=u4 hcs i ca hca
  have hcm:=au hc
  have hcl60:c.length<=60:=by
   have:=TM.len_le_of (TM.loop_nodup hnd hcm) λx hx=>hlt x (aF.mpr ⟨c,hcm,hx⟩)
   lia
  refine ⟨_,rfl,ca,_,rfl,.inl (SqL.of (ss _ _ hHc)),_,rfl,by rw [v9];lia,by rw [v9];lia,zr5 (n:=((tI c).length:Int).toNat) (λk σ G=>∃(v4:Option V) (g:List Nat),σ=[some (.ref la),some (.int n),some (.ref l),some (.ref ca),v4]/\y4 H G/\G l=some (.lst (tI g))/\TM.RdC n (TM.rowC n cs) (λx=>x∈(cs.take i).flatten∨x∈c.take k) g)
   ⟨v4,g,rfl,ss,hg,rd.congr λx=>by rw [cu];simp⟩ ?_ ?_⟩
  ·rintro k σ G2 hk ⟨v4,g2,rfl,s2,hg2,rd2⟩
   rw [v9] at hk
   have hk':k<c.length:=by lia
   rw [show (0:Int)+(k:Int)=(k:Int) by lia]
   have hck:c[k]?=some c[k]:=aa hk'
   have hm:(k+1) % c.length<c.length:=dM _ (by lia)
   have hcm2:c[(k+1) % c.length]?=some c[(k+1) % c.length]:=aa hm
   have hxn:c[k]<n:=hlt _ (aF.mpr ⟨c,hcm,bz _⟩)
   have hca2:=s2 _ _ hHc
   refine ⟨_,rfl,_,rfl,_,_,rfl,rfl,_,rfl,ca,_,rfl,.inl (SqL.of hca2),_,_,rfl,rfl,(by show (0:Int)<((tI c).length:Int);rw [v9];lia),ca,_,_,.int (c[(k+1) % c.length]:Int),rfl,rfl,SqL.of hca2,(by show atI _ (((k:Int)+1) % ((tI c).length:Int))=_;rw [v9,show ((k:Int)+1) % (c.length:Int)=(((k+1) % c.length:Nat):Int) by rw [fv];rfl];exact k8 (E8 hcm2)),_,rfl,_,rfl,_,rfl,ca,_,_,.int (c[k]:Int),rfl,rfl,SqL.of hca2,k8 (E8 hck),l,tI g2,_,c[k],rfl,rfl,hg2,(by rw [v9,rd2.len];exact zu0 hxn),?_⟩
   refine ⟨_,_,rfl,p8 s2 hl0 _,by rw [z4,yi3],?_⟩
   have hrow:(TM.rowC n cs)[c[k]]?=some c[(k+1) % c.length]:=by
    rw [TM.rowC_get hxn,TM.nxC_at hnd hcm hck hcm2]
   refine (rd2.set hxn hrow).congr λx=>?_
   rw [aT,hck,cx,aD,ao,or_assoc]
  ·rintro σ G2 ⟨v4,g2,rfl,s2,hg2,rd2⟩
   refine ⟨_,_,g2,rfl,s2,hg2,rd2.congr λx=>?_⟩
   rw [v9,show ((c.length:Nat):Int).toNat=c.length by lia,bG,yo0 hc,aD]
 ·rintro σ G ⟨v3,v4,g,rfl,ss,hg,rd⟩
  rw [ae,hcl,bG] at rd
  obtain rfl:=rd.row λx hx=>hx
  exact hN _ _ ⟨_,rfl,l,_,rfl,.inl ⟨SqL.of hg,λtp htp=>q tp _ (ss.free htp) (ss.trans (z7 htp _)) z4⟩⟩
def c8 (top:Nat):Nat:=if top=0 then 1000 else top
def N5 (cR cG cC cB cS cL X X1:Addr)(H:Hp)(g a:Addr)(v:V)(most:Nat)(Q:VK)(E:XK):Prop:=∃(n:Nat) (ts:List (List Nat)) (S:ChS) (d:PyData),Z9 cG cC cB cS n H g ts S/\most<1000000/\L9 H a cL n/\Dt H v d/\(O8 60 n d=none->∀H',y4 H H'->E (.ref X1) none H') /\
 ∀ow,O8 60 n d=some ow->(∀(x o wd bd:Addr) (es:List Ent) (H':Hp),y4 H H'->Z4 cR cG cC cB cS n (AHL cL n) ts S H H' x g a o wd bd es->zq3 n ts TM.mvQ ow most es->Q (.ref x) H')/\(∀H',y4 H H'->yr2 n ts TM.mvQ ow most->E (.ref X) none H')
def zs6 (cG cP X1:Addr)(H:Hp)(g a:Addr)(E:XK):Prop:=∃(dg da:Addr) (fg:List (Str×V)) (n m:Nat),H g=some (.ins cG dg (("many",.int n)::fg))/\H a=some (.ins cP da [("many",.int m)])/\m≠n/\∀H',y4 H H'->E (.ref X1) none H'
def za9 (cR cG cC cB cS cL cP X X1:Addr):Sp:=λvs H Q E=>∃(g a:Addr) (v:V) (top:Nat),vs=[.ref g,.ref a,v,.int top]/\(N5 cR cG cC cB cS cL X X1 H g a v (c8 top) Q E∨zs6 cG cP X1 H g a E)
theorem zx6:x9 ["_law_group","_law_act","_law_thing","_law_top"] ["_law_group","_law_act","_law_thing","_law_top"] (z9 J7):=scq
theorem N5.in {cR cG cC cB cS cL X X1:Addr}{H:Hp}{g a:Addr}{v:V}{most:Nat}{Q:VK}{E:XK}{n:Nat}{ts:List (List Nat)}{S:ChS}{d:PyData}(ga:Z9 cG cC cB cS n H g ts S)(hm:most<1000000)(ac:L9 H a cL n)(hd:Dt H v d)(qn:O8 60 n d=none->∀H',y4 H H'->E (.ref X1) none H')
  (qs:∀ow,O8 60 n d=some ow->(∀(x o wd bd:Addr) (es:List Ent) (H':Hp),y4 H H'->Z4 cR cG cC cB cS n (AHL cL n) ts S H H' x g a o wd bd es->zq3 n ts TM.mvQ ow most es->Q (.ref x) H')/\(∀H',y4 H H'->yr2 n ts TM.mvQ ow most->E (.ref X) none H')) :
  ∀x dx,H x=none->H dx=none->dx≠x->zy1 cR cG cC cB cS cL X X1 n (AHL cL n) (LKL n) (okL n) TM.mvQ [.ref x,.ref g,.ref a,v,.int most] (upd (upd H dx (.own x)) x (.ins cR dx [])) (λu H2=>u=.non/\Q (.ref x) H2) E:=by
 intro x dx hx hdx hne
 have s0:y4 H (upd (upd H dx (.own x)) x (.ins cR dx [])):=p8 (z7 hdx _) hx _
 refine ⟨ts,S,H,x,dx,g,a,v,most,rfl,z4,⟨s0,hx,ga⟩,hm,ac,O8 60 n d,⟨d,hd,rfl⟩,λl hl=>xf5 hl,qn,λow ho=>?_⟩
 obtain ⟨q1,q2⟩:=qs ow ho
 exact ⟨λo wd bd es H' fr ra _ wh=>⟨rfl,q1 x o wd bd es H' (λb u h=>fr b u (by simpa using y9 h hx) (s0 b u h)) ra wh⟩,q2⟩
theorem zs6.in {cR cG cP X1:Addr}{H:Hp}{g a:Addr}{E:XK}(h:zs6 cG cP X1 H g a E)(v w':V)(Q:Addr->V->Hp->Prop):∀x dx,H x=none->H dx=none->dx≠x->zh9 cR cG cP X1 [.ref x,.ref g,.ref a,v,w'] (upd (upd H dx (.own x)) x (.ins cR dx [])) (Q x) E:=by
 intro x dx hx hdx hne
 obtain ⟨dg,da,fg,n,m,hg,ha,hmn,qx⟩:=h
 have s0:y4 H (upd (upd H dx (.own x)) x (.ins cR dx [])):=p8 (z7 hdx _) hx _
 exact ⟨x,dx,g,a,dg,da,fg,n,m,v,w',rfl,s0 _ _ hg,s0 _ _ ha,hmn,qx _ s0⟩
theorem zv7 {cR cG cC cB cS cL cP X X1:Addr}(D:Def K mg "_law_ring" J7 ["_law_group","_law_act","_law_thing","_law_top"] f fd) (B:Blt mg) (RK:∀n,zq2 P w K mg base cR (zy1 cR cG cC cB cS cL X X1 n (AHL cL n) (LKL n) (okL n) TM.mvQ)) (RN:zq2 P w K mg base cR (zh9 cR cG cP X1)):V8 P w K mg base 9 "_law_ring" ["_law_group","_law_act","_law_thing","_law_top"] (za9 cR cG cC cB cS cL cP X X1):=by
 refine ⟨f,fd,?_,D.F.kp,D.m,D.b⟩
 refine D.F.okX zx6 (λvs H Q E h=>?_) (λcdv A outer s H vs Q E hr h=>?_)
 ·obtain ⟨g,a,v,top,rfl,_⟩:=h
  rfl
 obtain ⟨g,a,v,top,rfl,h⟩:=h
 rcases h with ⟨n,ts,S,d,ga,hm,ac,hd,qn,qs⟩|h
 ·refine ⟨_,y0 (n6 (p7 O5 (pv 3) y6 (o7 _)) (z8 (v1 (zh5 (RK n).four hr rfl (z0 (pv 0) (z0 (pv 1) (z0 (pv 2) z5)))))) u0)
   (y0 (n6 (p7 O5 (u9 d3 (pv 3) y6) y6 (o7 _)) (z8 (v1 (yl4 (RK n).kw hr rfl (z0 (pv 0) (z0 (pv 1) (z0 (pv 2) z5))) (pv 3)))) u0)
   (z8 (v1 (zh5 (RK n).five hr rfl (z0 (pv 0) (z0 (pv 1) (z0 (pv 2) (z0 (pv 3) z5)))))))),?_⟩
  refine l4 λN hN=>⟨_,rfl,rfl,_,rfl,?_⟩
  rw [Z0]
  by_cases h0:top=0
  ·subst h0
   rw [decide_eq_true (show ((0:Nat):Int)=0 from rfl)]
   exact i7 ⟨_,rfl,_,rfl,_,rfl,N5.in ga hm ac hd qn qs⟩
  rw [decide_eq_false (by lia)]
  have e:c8 top=top:=if_neg h0
  rw [e] at hm qs
  refine m9 (hN _ _ ?_)
  clear hN N
  refine l4 λN hN=>⟨_,rfl,_,_,rfl,rfl,(by show (0:Int)<2;decide),rfl,_,rfl,?_⟩
  show if decide (V.int ((top:Int) % 2)=V.int 1)=true then _ else _
  cases decide (V.int ((top:Int) % 2)=V.int 1) with
  | true=>exact i7 ⟨_,rfl,_,rfl,_,rfl,_,rfl,N5.in ga hm ac hd qn qs⟩
  | false=>exact m9 (hN _ _ ⟨_,rfl,_,rfl,_,rfl,_,rfl,N5.in ga hm ac hd qn qs⟩)
 ·refine ⟨_,y0 (n6 (p7 O5 (pv 3) y6 (o7 _)) (z8 (v1 (zh5 RN.four hr rfl (z0 (pv 0) (z0 (pv 1) (z0 (pv 2) z5)))))) u0)
   (y0 (n6 (p7 O5 (u9 d3 (pv 3) y6) y6 (o7 _)) (z8 (v1 (yl4 RN.kw hr rfl (z0 (pv 0) (z0 (pv 1) (z0 (pv 2) z5))) (pv 3)))) u0)
   (z8 (v1 (zh5 RN.five hr rfl (z0 (pv 0) (z0 (pv 1) (z0 (pv 2) (z0 (pv 3) z5)))))))),?_⟩
  refine l4 λN hN=>⟨_,rfl,rfl,_,rfl,?_⟩
  cases decide (V.int top=V.int 0) with
  | true=>exact i7 ⟨_,rfl,_,rfl,_,rfl,h.in _ _ _⟩
  | false =>
   refine m9 (hN _ _ ?_)
   clear hN N
   refine l4 λN hN=>⟨_,rfl,_,_,rfl,rfl,(by show (0:Int)<2;decide),rfl,_,rfl,?_⟩
   show if decide (V.int ((top:Int) % 2)=V.int 1)=true then _ else _
   cases decide (V.int ((top:Int) % 2)=V.int 1) with
   | true=>exact i7 ⟨_,rfl,_,rfl,_,rfl,_,rfl,h.in _ _ _⟩
   | false=>exact m9 (hN _ _ ⟨_,rfl,_,rfl,_,rfl,_,rfl,h.in _ _ _⟩)
def Q7 (cG cC cB cS cL cP:Addr)(H:Hp)(g a:Addr)(v:V)(most:Nat):Bool->Prop
 | true=>∃(n:Nat) (ts:List (List Nat)) (S:ChS) (d:PyData) (ow:List Nat),Z9 cG cC cB cS n H g ts S/\most<1000000/\L9 H a cL n/\Dt H v d/\O8 60 n d=some ow/\∀es,¬zq3 n ts TM.mvQ ow most es
 | false=>(∃(n:Nat) (ts:List (List Nat)) (S:ChS) (d:PyData),Z9 cG cC cB cS n H g ts S/\most<1000000/\L9 H a cL n/\Dt H v d/\O8 60 n d=none)∨∃(dg da:Addr) (fg:List (Str×V)) (n m:Nat),H g=some (.ins cG dg (("many",.int n)::fg))/\H a=some (.ins cP da [("many",.int m)])/\m≠n
def T3 (cG cC cB cS cL cP:Addr):Sp:=λvs H Q _=>∃(g a:Addr) (v:V) (top:Nat) (b:Bool),vs=[.ref g,.ref a,v,.int top]/\Q7 cG cC cB cS cL cP H g a v (c8 top) b/\∀(r:Addr) (H':Hp),y4 H H'->H' r=some (.lst [.bl true,.bl b,.bl !b,.bl false])->Q (.ref r) H'
theorem X2:x9 ["_law_group","_law_act","_law_thing","_law_top","_law_kinds","e"] ["_law_group","_law_act","_law_thing","_law_top"] (z9 V1):=scq
theorem Q7.same {cG cC cB cS cL cP:Addr}{H H':Hp}{g a:Addr}{v:V}{most:Nat}{b:Bool}(h:Q7 cG cC cB cS cL cP H g a v most b)(s:y4 H H'):Q7 cG cC cB cS cL cP H' g a v most b:=by
 cases b with
 | true =>
  obtain ⟨n,ts,S,d,ow,ga,hm,ac,hd,ho,hw⟩:=h
  exact ⟨n,ts,S,d,ow,ga.same s,hm,ac.same s,hd.same s,ho,hw⟩
 | false =>
  rcases h with ⟨n,ts,S,d,ga,hm,ac,hd,ho⟩|⟨dg,da,fg,n,m,hg,ha,hne⟩
  ·exact .inl ⟨n,ts,S,d,ga.same s,hm,ac.same s,hd.same s,ho⟩
  ·exact .inr ⟨dg,da,fg,n,m,s _ _ hg,s _ _ ha,hne⟩
theorem Q7.ask {cR cG cC cB cS cL cP X X1:Addr}{H:Hp}{g a:Addr}{v:V}{most:Nat}{b:Bool}{Q:VK}{E:XK}(h:Q7 cG cC cB cS cL cP H g a v most b)(qx:∀H',y4 H H'->E (.ref (if b then X else X1)) none H'):N5 cR cG cC cB cS cL X X1 H g a v most Q E∨zs6 cG cP X1 H g a E:=by
 cases b with
 | true =>
  obtain ⟨n,ts,S,d,ow,ga,hm,ac,hd,ho,hw⟩:=h
  exact .inl ⟨n,ts,S,d,ga,hm,ac,hd,λz=>(by rw [ho] at z;cases z),λow' ho'=>by
   rw [ho] at ho'
   cases ho'
   exact ⟨λx o wd bd es H' _ _ wh=>(hw es wh).elim,λH' s' _=>qx H' s'⟩⟩
 | false =>
  rcases h with ⟨n,ts,S,d,ga,hm,ac,hd,ho⟩|⟨dg,da,fg,n,m,hg,ha,hne⟩
  ·exact .inl ⟨n,ts,S,d,ga,hm,ac,hd,λ_ H' s'=>qx H' s',λow z=>by rw [ho] at z;cases z⟩
  ·exact .inr ⟨dg,da,fg,n,m,hg,ha,hne,λH' s'=>qx H' s'⟩
theorem za2 {cR cG cC cB cS cL cP X X1 TE cI:Addr}(D:Def K mg "_law_refused" V1 ["_law_group","_law_act","_law_thing","_law_top"] f fd) (B:Blt mg) (KR:V8 P w K mg base 9 "_law_ring" ["_law_group","_law_act","_law_thing","_law_top"] (za9 cR cG cC cB cS cL cP X X1)) (ET:yd9 K mg TE) (EX:O0 K mg TE "TooMany" X) (EN:O0 K mg TE "NoThing" X1) (EI:O0 K mg TE "NotIn" cI)
  (b:Bool) {C:Addr} {nm:Str} (eC:C=if b then X else X1) (EA:O0 K mg TE nm C) (AK:zf9 K C) (k1:W.kitOne K (.ref C) (.ref X)=some b) (k2:W.kitOne K (.ref C) (.ref X1)=some !b) (k3:W.kitOne K (.ref C) (.ref cI)=some false):u6 P w K mg base CX0 10 f fd ["_law_group","_law_act","_law_thing","_law_top"] (λvs H Q _=>∃(g a:Addr) (v:V) (top:Nat),vs=[.ref g,.ref a,v,.int top]/\Q7 cG cC cB cS cL cP H g a v (c8 top) b/\∀(r:Addr) (H':Hp),y4 H H'->H' r=some (.lst [.bl true,.bl b,.bl !b,.bl false])->Q (.ref r) H'):=by
 refine D.F.ok X2 (λvs H Q E h=>?_) (λcdv A outer s H vs Q E hr h=>?_)
 ·obtain ⟨g,a,v,top,rfl,_⟩:=h
  rfl
 obtain ⟨g,a,v,top,rfl,hb,q⟩:=h
 have hz:=u7
 apply T0
 ·apply v0
  ·exact DS.mk (u5 (i:=4) X2.nd rfl (Or.inl rfl) (l7 z5))
  apply v0
  ·exact DS.mk (xe4 KR hr rfl (z0 (pv 0) (z0 (pv 1) (z0 (pv 2) (z0 (pv 3) z5)))) (xr4 (i:=5) EA.c ET.c (by simp) rfl ET.m X2.nd rfl rfl (λea=>z8 (u5 (i:=4) X2.nd rfl (Or.inl rfl) (l7 (z0 (v8 (zt1 zq1) rfl B.isinstance r6 (z0 (pv 5) (z0 (W5 (v:=.ty "ValueError") rfl ET.v zo3 rfl) z5)))
    (z0 (v8 P4 rfl B.isinstance r6 (z0 (pv 5) (z0 (zh4 (v:=.ref X) rfl EX.m rfl) z5))) (z0 (v8 P4 rfl B.isinstance r6 (z0 (pv 5) (z0 (zh4 (v:=.ref X1) rfl EN.m rfl) z5))) (z0 (v8 P4 rfl B.isinstance r6 (z0 (pv 5) (z0 (zh4 (v:=.ref cI) rfl EI.m rfl) z5))) z5)))))))) rfl rfl)
  exact ⟨z8 (v1 (pv 4))⟩
 refine l4 λN hN=>⟨aR _,λkl hkl=>hN _ _ ?_⟩
 clear hN N
 have s1:=z7 hkl (.lst [])
 generalize upd H kl (.lst [])=H1 at s1 ⊢
 refine l4 λN hN=>⟨λC' _ H'=>C'=.ref C/\y4 H1 H',⟨_,rfl,_,rfl,_,rfl,_,rfl,g,a,v,top,rfl,(hb.same s1).ask λH' s'=>⟨by rw [eC],s'⟩⟩,?_⟩
 rintro ea C' H2 ⟨e,s2⟩ hea
 cases e
 have s3:=s1.trans (s2.trans (z7 hea (zo0 ea C)))
 have x3:(upd H2 ea (zo0 ea C)) ea=some (zo0 ea C):=z4
 refine ⟨rfl,?_⟩
 generalize upd H2 ea (zo0 ea C)=H3 at s3 x3 ⊢
 refine ⟨_,rfl,ea,C,_,_,rfl,x3,EA.c,rfl,_,rfl,ea,C,X,b,rfl,x3,AK,k1,_,rfl,ea,C,X1,!b,rfl,x3,AK,k2,_,rfl,ea,C,cI,false,rfl,x3,AK,k3,(by show 4<=sizeLine;lia),λl1 hl1=>hN _ _ ⟨_,rfl,q l1 _ (s3.trans (z7 hl1 _)) z4⟩⟩
theorem zg6 {cR cG cC cB cS cL cP X X1 TE cI:Addr}(D:Def K mg "_law_refused" V1 ["_law_group","_law_act","_law_thing","_law_top"] f fd) (B:Blt mg) (KR:V8 P w K mg base 9 "_law_ring" ["_law_group","_law_act","_law_thing","_law_top"] (za9 cR cG cC cB cS cL cP X X1)) (ET:yd9 K mg TE) (EX:O0 K mg TE "TooMany" X) (EN:O0 K mg TE "NoThing" X1) (EI:O0 K mg TE "NotIn" cI) (AX:zf9 K X) (AN:zf9 K X1)
  (k1:W.kitOne K (.ref X) (.ref X)=some true) (k2:W.kitOne K (.ref X) (.ref X1)=some false) (k3:W.kitOne K (.ref X) (.ref cI)=some false) (n1:W.kitOne K (.ref X1) (.ref X)=some false) (n2:W.kitOne K (.ref X1) (.ref X1)=some true) (n3:W.kitOne K (.ref X1) (.ref cI)=some false):u6 P w K mg base CX0 10 f fd ["_law_group","_law_act","_law_thing","_law_top"] (T3 cG cC cB cS cL cP) :=
 ⟨λvs H Q E ⟨g,a,v,top,b,e,_⟩=>by rw [e];rfl,λA outer s H args us vs Q E hr he hb hv ⟨g,a,v,top,b,e,hbad,q⟩=>match b,hbad,q with
  | true,hbad,q=>(za2 D B KR ET EX EN EI true rfl EX AX k1 k2 k3).run A outer s H args us vs Q E hr he hb hv ⟨g,a,v,top,e,hbad,q⟩
  | false,hbad,q=>(za2 D B KR ET EX EN EI false rfl EN AN n1 n2 n3).run A outer s H args us vs Q E hr he hb hv ⟨g,a,v,top,e,hbad,q⟩⟩
theorem zn7 {H:Hp}:∀(bs:List (Addr×List Nat)),(∀b∈bs,H b.1=some (.tup (tI b.2)))->Y4 H (bs.map Prod.fst) (bs.map Prod.snd)
 | [],_=>.nil
 | b::bs,h=>.cons (h b ay) (zn7 bs λc hc=>h c (aw _ hc))
abbrev zi4 (rs:List (List Nat)) (i:Nat) (H:Hp) (v:V) (H4:Hp):Prop:=y4 H H4/\∃b:Addr×List Nat,v=.ref (Prod.fst b)/\(H4 b.1=some (.tup (tI b.2))/\rs[i]?=some b.2)/\((λ_=>[]) b:List Addr).Nodup/\∀a∈((λ_=>[]) b:List Addr),H a=none/\∃o,H4 a=some o
theorem zi4.mk {rs:List (List Nat)}{i:Nat}{H H4:Hp}{b:Addr}{r:List Nat}(h:rs[i]?=some r)(s:y4 H H4)(hb:H4 b=some (.tup (tI r))):zi4 rs i H (.ref b) H4:=⟨s,(b,r),rfl,⟨hb,h⟩,by simp,λa ha=>by cases ha⟩
theorem zj1 {J:It}{fr:List Nat}{te:CT TE}{σ:St}{H1:Hp}{Q:Addr->Hp->Prop}(rs:List (List Nat))(hz:rs.length<=sizeLine)(hstop:∀H,y4 H1 H->J.stop rs.length H)(hgo:∀i H,i<rs.length->y4 H1 H->J.go i H)
  (turn:∀(i:Nat) H x H2 r,rs[i]?=some r->y4 H1 H->J.yld i H x H2->H2=H/\∀C₀ s₀ H₀ fp,te C₀ s₀ H₀ fp (some x::fr.map λj=>(σ[j]?).getD none) H λv H4=>zi4 rs i H v H4)
  (fin:∀(D:Addr) (H:Hp) (as:List Addr),H1 D=none->y4 H1 H->H D=some (.lst (as.map V.ref))->Y4 H as rs->Q D H) :
  ∀D,H1 D=none->∃W:Nat->Nat->St->Hp->Prop,(∃m,W 0 m (L4 1 fr σ) (upd H1 D (.lst [])))/\∀i m σ' H',W i m σ' H' ->
  (J.stop i H'/\Q D H')∨(J.go i H'/\∀x H2,J.yld i H' x H2->∀C₀ s₀ H₀ fp,O3 0 x σ' H2 λσ3 H3=>∃N:VK,te C₀ s₀ H₀ fp σ3 H3 N/\∀y H4,N y H4 ->
   ∃ys m',H4 D=some (.lst ys)/\ys.length<sizeLine/\m'<m/\W (i+1) m' σ3 (upd H4 D (.lst (ys++[y])))):=by
 refine zy8 (J:=J) (Prod.fst:Addr×List Nat->Addr) (λ_=>[]) (λH i b=>H b.1=some (.tup (tI b.2))/\rs[i]?=some b.2) (n:=rs.length) hz (λH3 H4 D' xs i b hb hD fr _=>⟨fr _ _ (λz=>?_) hb.1,hb.2⟩) hstop hgo ?_ ?_
 ·rw [ao.mp z,hD] at hb
  cases hb.1
 ·intro i Hx v Hy hi sx hy
  exact turn i Hx v Hy _ (aa hi) sx hy
 ·intro D' H3 bs hD s3 hl3 hbl hR _ _
  have hR':∀b∈bs,H3 b.1=some (.tup (tI b.2)):=λb hb=>by
   obtain ⟨i,hi,e⟩:=bW.mp hb
   exact (hR i b (by rw [aa hi,e])).1
  have e:bs.map Prod.snd=rs:=cf λi=>by
   rw [ar]
   cases e:bs[i]? with
   | none =>
    rw [aH (by have:=eK.mp e;lia)]
    rfl
   | some b=>exact (hR i b e).2.symm
  refine fin D' H3 (bs.map Prod.fst) hD s3 (by rw [bE];exact hl3) ?_
  rw [←e]
  exact zn7 bs hR'
def zn2:Sp:=λvs H Q _=>∃(la:Addr) (cas:List Addr) (cs:List (List Nat)),vs=[.ref la]/\H la=some (.lst (cas.map V.ref))/\ye0 H cas cs/\cs≠[]/\(∀i,(TM.prdG [[]] (cs.take i)).length<=2000)/\(∀c∈cs,c.length<=60)/\cs.length<=60 /\
 ∀(r:Addr) (as:List Addr) (L:List (List Nat)) (H':Hp),H r=none->y4 H H'->H' r=some (.lst (as.map V.ref))->Y4 H' as L->L.Perm (TM.prd cs)->Srt L->Q (.ref r) H'
theorem d9:x9 ["_law_circles","_law_made","_law_loop","_law_more","_law_row"] ["_law_circles"] (z9 P9):=scq
theorem yw6 {cs:List (List Nat)}{i:Nat}{c:List Nat}(h:cs[i]?=some c):TM.prdG [[]] (cs.take (i+1))=(TM.prdG [[]] (cs.take i)).flatMap λr=>c.map λp=>r++[p]:=by
 rw [aT,h,cx]
 unfold TM.prdG
 rw [List.foldl_append]
 rfl
theorem zd7:∀{cs made:List (List Nat)} {m:Nat},(∀r∈made,r.length=m)->∀r∈TM.prdG made cs,r.length=m+cs.length
 | [],made,m,h,r,hr=>h r hr
 | c::cs,made,m,h,r,hr=>by
  rw [zd7 (cs:=cs) (made:=made.flatMap λr=>c.map λp=>r++[p]) (m:=m+1) (λq hq=>?_) r hr,aC]
  ·lia
  ·obtain ⟨a,ha,hq⟩:=bS.mp hq
   obtain ⟨p,_,rfl⟩:=av.mp hq
   rw [af,h a ha]
   rfl
theorem zl2 (D:Def K mg "_law_things" P9 ["_law_circles"] f fd) (B:Blt mg):u6 P w K mg base CX0 1 f fd ["_law_circles"] zn2:=by
 refine D.F.ok d9 (λvs H Q E h=>?_) (λcdv A outer s H vs Q E hr h=>?_)
 ·obtain ⟨la,cas,cs,rfl,_⟩:=h
  rfl
 obtain ⟨la,cas,cs,rfl,hla,hcs,hne,hfew,hc60,hcsl,q⟩:=h
 have hz:=u7
 apply T0
 ·apply v0
  ·exact DS.mk (u5 (i:=1) d9.nd rfl (Or.inl rfl) (l7 (z0 (Q1 z5) z5)))
  apply v0
  ·exact DS.mk (U1 PassesOwn.never rfl (Y9 (pv 0)) (l5 (i:=2) d9.nd rfl (Or.inl rfl))
    (y0 (u5 (i:=3) d9.nd rfl (Or.inl rfl) (l7 z5))
    (y0 (U1 PassesOwn.never rfl (Y9 (pv 1)) (l5 (i:=4) d9.nd rfl (Or.inr rfl))
     (z8 (l8 (J0 PySem.F.plainAttrs_list PySem.F.slot_list_extend PySem.F.type_list_extend zd0 (pv 3) (z0 (Y5 [4] ["_law_place","_law_row"] rfl (Y9 (pv 2)) (λ_ _ _ _=>u9 yb1 (pv 1) (Q1 (z0 (pv 0) z5)))) z5)))))
    (z8 (u5 (i:=1) d9.nd rfl (Or.inl rfl) (pv 3))))))
  exact ⟨z8 (v1 (v8 zt2 rfl B.sorted zc0 (z0 (pv 1) z5)))⟩
 refine l4 λN hN=>⟨aR _,λe he=>⟨(by show 1<=sizeLine;lia),λml hml=>hN _ _ ?_⟩⟩
 clear hN N
 have s1:=(z7 he (.tup [])).trans (z7 hml (.lst [V.ref e]))
 have m1:(upd (upd H e (.tup [])) ml (.lst [V.ref e])) ml=some (.lst ([e].map V.ref)):=z4
 have t1:Y4 (upd (upd H e (.tup [])) ml (.lst [V.ref e])) [e] [[]]:=.cons (z7 hml _ _ _ z4) .nil
 generalize upd (upd H e (.tup [])) ml (.lst [V.ref e])=H1 at s1 m1 t1 ⊢
 have hcl:cas.length=cs.length:=Paired.length hcs
 refine l4 λN hN=>⟨_,rfl,la,rfl,⟨_,SqL.of (s1 _ _ hla)⟩,T1 (xs:=cas.map V.ref) (λi σ G=>∃(ml:Addr) (as:List Addr) (v2 v3 v4:Option V),σ=[some (.ref la),some (.ref ml),v2,v3,v4]/\y4 H G/\G ml=some (.lst (as.map V.ref))/\Y4 G as (TM.prdG [[]] (cs.take i)))
  ⟨ml,[e],none,none,none,rfl,s1,m1,by rw [cu];exact t1⟩ (λi σ G _ ⟨_,_,_,_,_,_,ss,_⟩=>SqL.of (ss _ _ hla)) ?_ ?_⟩
 ·clear hN
  rintro i y σ G hy ⟨ml,as,v2,v3,v4,rfl,ss,hml,hts⟩
  obtain ⟨ca,hca,rfl⟩:=Y7 hy
  obtain ⟨c,hc,hHc⟩:=u4 hcs i ca hca
  have hc60':=hc60 c (au hc)
  have hrl:as.length=(TM.prdG [[]] (cs.take i)).length:=Paired.length hts
  have hfi:=hfew (i+1)
  rw [yw6 hc] at hfi ⊢
  have hlen:∀r∈TM.prdG [[]] (cs.take i),r.length<=60:=λr hr=>by
   rw [zd7 (m:=0) (by simp) r hr,bj]
   lia
  generalize TM.prdG [[]] (cs.take i)=rows at hts hrl hfi hlen ⊢
  refine l4 λM hM=>⟨aR _,λmm hmm=>hM _ _ ?_⟩
  clear hM M
  have s2:=z7 hmm (.lst [])
  have m2:(upd G mm (.lst [])) mm=some (.lst (([]:List Addr).map V.ref)):=z4
  generalize upd G mm (.lst [])=G2 at s2 m2 ⊢
  refine l4 λM hM=>⟨_,rfl,ml,rfl,⟨_,SqL.of (s2 _ _ hml)⟩,T1 (xs:=as.map V.ref) (λj σ G'=>∃(bs:List Addr) (v4:Option V),σ=[some (.ref la),some (.ref ml),some (.ref ca),some (.ref mm),v4]/\y4 G G'/\G' mm=some (.lst (bs.map V.ref))/\Y4 G' bs ((rows.take j).flatMap λr=>c.map λp=>r++[p]))
   ⟨[],v4,rfl,s2,m2,by rw [cu];exact .nil⟩ (λj σ G' _ ⟨_,_,_,s',_⟩=>SqL.of (s' _ _ hml)) ?_ ?_⟩
  ·clear hM
   rintro j y σ G' hy ⟨bs,v4,rfl,s',hmm',hbs⟩
   obtain ⟨ra,hra,rfl⟩:=Y7 hy
   obtain ⟨r,hr',hHr⟩:=u4 hts j ra hra
   have hr60:=hlen r (au hr')
   have hca':=s' _ _ (ss _ _ hHc)
   have hra':=s' _ _ hHr
   have hbl:bs.length=((rows.take j).flatMap λr=>c.map λp=>r++[p]).length:=Paired.length hbs
   refine ⟨_,rfl,.inl ⟨rfl,_,SqL.of hmm'⟩,_,rfl,ca,rfl,⟨_,SqL.of hca'⟩,zj1 (c.map λp=>r++[p]) (by rw [ae];lia) (λG3 s3=>⟨_,SqL.of (s3 _ _ hca'),by rw [v9,ae];exact ah _⟩) (λk G3 hk s3=>⟨_,_,SqL.of (s3 _ _ hca'),aa (by rw [v9];rw [ae] at hk;exact hk)⟩) ?_ ?_⟩
   ·rintro k G3 x G4 q' hq' s3 ⟨rfl,hxx⟩
    have hx:=hxx _ (SqL.of (s3 _ _ hca'))
    obtain ⟨p,hp,rfl⟩:=zb3 hx
    refine ⟨rfl,λ_ _ _ _=>?_⟩
    have eq':q'=r++[p]:=by
     rw [ar,hp] at hq'
     exact (Option.some.inj hq').symm
    subst eq'
    exact ⟨_,rfl,_,rfl,(by show 1<=sizeLine;lia),λtp htp=>xp6 (z7 htp _ _ _ (s3 _ _ hra')) z4 (by lia) λb G5 s5 hb=>zi4.mk hq' ((z7 htp _).trans s5) hb⟩
   ·intro Dl G3 ds hD s3 hDl hts3
    have hm3:=s3 _ _ hmm'
    refine ⟨mm,Dl,_,_,rfl,rfl,hm3,hDl,?_,?_⟩
    ·rw [ae,ae]
     have h2:ds.length=c.length:=by rw [Paired.length hts3,ae]
     have h3:(rows.flatMap λr=>c.map λp=>r++[p])=((rows.take j).flatMap λr=>c.map λp=>r++[p])++((rows.drop j).flatMap λr=>c.map λp=>r++[p]):=by rw [←dG,bK]
     rw [h3,af] at hfi
     lia
    have kp:∀{b:Addr} {u:List V},G3 b=some (.tup u)->(upd G3 mm (.lst (bs.map V.ref++ds.map V.ref))) b=some (.tup u):=λ{b u} h=>by
     rw [z6 (λz=>by rw [z,hm3] at h;cases h)]
     exact h
    refine ⟨bs++ds,_,rfl,λb u h=>?_,by rw [z4,aG],?_⟩
    ·rw [z6 (y9 h hmm)]
     exact (s'.trans s3) b u h
    ·rw [aT,hr',cx,dG,fk,List.flatMap_nil,bu]
     exact X7 (Paired.imp' (λ_ _ z=>kp (s3 _ _ z)) hbs) (Paired.imp' (λ_ _ z=>kp z) hts3)
  ·rintro σ G' ⟨bs,v4,rfl,s',hmm',hbs⟩
   rw [ae,hrl,bG] at hbs
   exact hM _ _ ⟨_,rfl,⟨mm,bs,_,_,_,rfl,ss.trans s',hmm',hbs⟩⟩
 ·rintro σ G ⟨ml,as,v2,v3,v4,rfl,ss,hml,hts⟩
  rw [ae,hcl,bG] at hts
  have hfin:=hfew cs.length
  rw [bG] at hfin
  have hal:as.length=(TM.prdG [[]] cs).length:=Paired.length hts
  refine hN _ _ ⟨_,rfl,ml,as,(TM.prd cs).map TM.iN,rfl,SqL.of hml,xg9 hts,λx hx=>?_,by rw [ae];show (TM.prdG [[]] cs).length<=400000;lia,λl bs qs hl hp hs hb=>?_⟩
  ·obtain ⟨r,hr',rfl⟩:=av.mp hx
   have:=zd7 (m:=0) (by simp) r hr'
   intro z
   have z':r=[]:=List.map_eq_nil_iff.mp z
   rw [z'] at this
   exact hne (cK.mp (by simpa using this.symm))
  ·obtain ⟨L,hL,rfl⟩:=zr9 hp
   exact q l bs L _ (ss.free hl) (ss.trans (z7 hl _)) z4 ((zx2 hb).same (z7 hl _)) hL (bn.mp hs)
def P1 (k:Nat)(d:PyData):Prop:=d.canLay0=true/\d.depth<=k
def O1 (k:Nat)(ds:List PyData):Prop:=PyData.canLayAll0 ds=true/\PyData.depthAll ds<=k
theorem O1.nil {k:Nat}:O1 k []:=⟨by simp [PyData.canLayAll0],by simp [PyData.depthAll]⟩
theorem O1.cons {k:Nat}{d:PyData}{ds:List PyData}(h:P1 k d)(r:O1 k ds):O1 k (d::ds):=⟨by rw [PyData.canLayAll0,h.1,r.1];rfl,by rw [PyData.depthAll];exact Nat.max_le.mpr ⟨h.2,r.2⟩⟩
theorem O1.of {k:Nat}:∀{ds:List PyData},(∀d∈ds,P1 k d)->O1 k ds
 | [],_=>.nil
 | _::_,h=>.cons (h _ ay) (O1.of λd hd=>h d (aw _ hd))
theorem P1.lst {k:Nat}{ds:List PyData}(h:O1 k ds):P1 (k+1) (.list ds):=⟨by rw [PyData.canLay0];exact h.1,by rw [PyData.depth];have:=h.2;lia⟩
theorem P1.tup {k:Nat}{ds:List PyData}(h:O1 k ds):P1 (k+1) (.tuple ds):=⟨by rw [PyData.canLay0];exact h.1,by rw [PyData.depth];have:=h.2;lia⟩
theorem P1.int {k:Nat}(i:Int):P1 k (.int i):=⟨by simp [PyData.canLay0],by simp [PyData.depth]⟩
theorem P1.mono {k j:Nat}{d:PyData}(h:P1 k d)(hk:k<=j):P1 j d:=⟨h.1,aQ h.2 hk⟩
theorem P1.shaped {d:PyData}(h:P1 6 d):PySem.SeqAt.shaped d=true:=by
 unfold PySem.SeqAt.shaped
 rw [bV,decide_eq_true_eq]
 have:=h.2
 exact ⟨h.1,by lia⟩
theorem yo8 (l:List Nat):O1 0 (l.map λ(x:Nat)=>PyData.int x):=O1.of λd hd=>by
 obtain ⟨x,_,rfl⟩:=av.mp hd
 exact .int _
theorem P1.eqv {k:Nat}{d:PyData}(h:P1 k d):PyData.eqv d d=true:=PySem.SeqAt.eqv_refl _ h.1
theorem P1.row (t:List Nat):P1 1 (ys1 t):=.tup (yo8 t)
theorem yy7 {L M:List (List Nat)}(h:Srt L)(h':Srt M)(p:L.Perm M):L=M :=
 List.Perm.eq_of_pairwise (λa b _ _ h1 h2=>by
  have e:=ya1 h2 h1
  rw [←zh3 a,←zh3 b,e]) h h' p
theorem zj4 {H:Hp}{as:List Addr}{L:List (List Nat)}(h:Y4 H as L):Dts H (as.map V.ref) (L.map ys1):=by
 induction h with
 | nil=>exact .nil
 | cons f _ ih=>exact .cons (.tup f (zj5 _)) ih
theorem yf8 (L:List (List Nat)):P1 2 (.list (L.map ys1)):=.lst (O1.of λd hd=>by
 obtain ⟨t,_,rfl⟩:=av.mp hd
 exact P1.row t)
theorem J1 {n:Nat}:∀{t:List Nat},(∀x∈t,x<n)->O7 n (t.map λ(x:Nat)=>PyData.int x)=some t
 | [],_=>rfl
 | x::t,h=>by
  have hx:=h x ay
  show ((plD n (.int x)).bind λy=>(O7 n (t.map λ(x:Nat)=>PyData.int x)).map λl=>y::l)=_
  rw [J1 λy hy=>h y (aw _ hy),A9,if_pos ⟨by lia,by lia⟩,bQ]
  rfl
def zs1 (cR cG cC cB cS cL X X1:Addr):Sp:=λvs H Q _=>∃(g a:Addr) (v:V) (top:Nat),vs=[.ref g,.ref a,v,.int top]/\N5 cR cG cC cB cS cL X X1 H g a v (c8 top) Q E0
theorem yp5 {cR cG cC cB cS cL cP X X1:Addr}{P:Program}{w:World}{K:W.Frag}{mg:Str->Option Value}{base:Heap}(k:V8 P w K mg base 9 "_law_ring" ["_law_group","_law_act","_law_thing","_law_top"] (za9 cR cG cC cB cS cL cP X X1)):l9 P w K mg base 9 "_law_ring" ["_law_group","_law_act","_law_thing","_law_top"] (zs1 cR cG cC cB cS cL X X1):=by
 obtain ⟨f,fd,F,r⟩:=k
 exact ⟨f,fd,F.calm.imp λvs H Q E ⟨g,a,v,top,e,h⟩=>⟨g,a,v,top,e,.inl h⟩,r⟩
structure yn3 (n:Nat) (ts cs:List (List Nat)) (ow:List Nat):Prop where
 nd:cs.flatten.Nodup
 lt:∀x∈cs.flatten,x<n
 own:∀c∈cs,TM.rowC n [c]∈ts
 all:∀t∈ts,∃ls,ls.flatten.Nodup/\(∀c∈ls,c∈cs)/\t=TM.rowC n ls
 fit:TM.Fits ow cs
 ne:cs≠[]
 few:∀i,(TM.prdG [[]] (cs.take i)).length<=2000
 c60:∀c∈cs,c.length<=60
 l60:cs.length<=60
theorem yn3.rch {n:Nat}{ts cs:List (List Nat)}{ow:List Nat}(h:yn3 n ts cs ow)(k:List Nat):TM.Rch n ts TM.mvQ ow k↔k∈TM.prd cs:=by
 rw [TM.prd_mem]
 exact TM.rch_fits h.nd h.lt h.own h.all h.fit k
theorem yn3.pnd {n:Nat}{ts cs:List (List Nat)}{ow:List Nat}(h:yn3 n ts cs ow):(TM.prd cs).Nodup:=TM.prd_nodup λc hc=>TM.loop_nodup h.nd hc
theorem zq3.keys {n most:Nat}{ts:List (List Nat)}{mv:List Nat->List Nat->List Nat}{ow:List Nat}{es:List Ent}(h:zq3 n ts mv ow most es)(k:List Nat):k∈es.map Ent.k↔TM.Rch n ts mv ow k:=by
 refine ⟨λhk=>?_,λhk=>TM.Rch.in (P:=λk=>k∈es.map Ent.k) h.own (λl t hl ht=>h.cl l hl t ht) hk⟩
 obtain ⟨e,he,rfl⟩:=av.mp hk
 exact ⟨_,_,h.w e he⟩
def yd0 (cG cC cB cS:Addr):Sp:=λvs H Q _=>∃(g la va:Addr) (top n:Nat) (ts cs:List (List Nat)) (S:ChS) (cas:List Addr) (ow:List Nat),vs=[.ref g,.ref la,.ref va,.int top]/\Z9 cG cC cB cS n H g ts S/\H la=some (.lst (cas.map V.ref))/\ye0 H cas cs/\yn3 n ts cs ow/\H va=some (.tup (tI ow))/\top<=1000/\∀H',y4 H H'->Q (.bl true) H'
theorem V3:x9 ["_law_group","_law_circles","_law_thing","_law_top","_law_due","_law_act","_law_found","_law_one"] ["_law_group","_law_circles","_law_thing","_law_top"] (z9 J6):=scq
theorem zv6 {cR cG cC cB cS cL cP X X1:Addr}(D:Def K mg "_law_good" J6 ["_law_group","_law_circles","_law_thing","_law_top"] f fd) (B:Blt mg) (cg:g7 K cG K5) (cr:g7 K cR zm2) (cl:g7 K cL ["many"]) (KT:l9 P w K mg base 1 "_law_things" ["_law_circles"] zn2) (KL:zi3 P w K mg base 1 cL "Lists" ["self","many"] (I0 K)) (KF:l9 P w K mg base 10 "_law_refused" ["_law_group","_law_act","_law_thing","_law_top"] (T3 cG cC cB cS cL cP)) (KR:l9 P w K mg base 9 "_law_ring" ["_law_group","_law_act","_law_thing","_law_top"] (zs1 cR cG cC cB cS cL X X1))
  (MT:∀n,Q0 P w K mg base 1 cR "things" ["self"] (zn1 cR cG cC cB cS n (AHL cL n))) (KW:l9 P w K mg base 1 "_law_whole" ["_law_found"] yd2):u6 P w K mg base CX0 11 f fd ["_law_group","_law_circles","_law_thing","_law_top"] (yd0 cG cC cB cS):=by
 refine D.F.ok V3 (λvs H Q E h=>?_) (λcdv A outer s H vs Q E hr h=>?_)
 ·obtain ⟨g,la,va,top,n,ts,cs,S,cas,ow,rfl,_⟩:=h
  rfl
 obtain ⟨g,la,va,top,n,ts,cs,S,cas,ow,rfl,ga,hla,hls,hc,hva,htop,q⟩:=h
 have hz:=u7
 apply T0
 ·apply v0
  ·exact DS.mk (u5 (i:=4) V3.nd rfl (Or.inl rfl) (o0 KT hr rfl (z0 (pv 1) z5)))
  apply v0
  ·exact DS.mk (u5 (i:=5) V3.nd rfl (Or.inl rfl) (M0 KL hr rfl (z0 (w8 (pv 0) rfl) z5)))
  apply v0
  ·exact DS.mk (n6 (PW.pt (zm1 (p7 yk8 (v8 q9 rfl B.len X4 (z0 (pv 4) z5)) y6 (o7 _)) (D6 (zl8 yk9 yk9 y6 (pv 3) (v8 q9 rfl B.len X4 (z0 (pv 4) z5)))))) (z8 (v1 (A6 (yk7 hr.units) (o0 KF hr rfl (z0 (pv 0) (z0 (pv 5) (z0 (pv 2) (z0 (pv 3) z5))))) (l7 (z0 i9 (z0 i9 (z0 i9 (z0 i9 z5))))) (o7 _)))) u0)
  apply v0
  ·exact DS.mk (u5 (i:=6) V3.nd rfl (Or.inl rfl) (zw4 cr.cls (MT n) hr (o0 KR hr rfl (z0 (pv 0) (z0 (pv 5) (z0 (pv 2) (z0 (pv 3) z5)))))))
  apply v0
  ·exact DS.mk (n6 (PW.pt (zm1 (W7 (X8 (v8 c0 rfl B.isinstance r6 (z0 (pv 6) (z0 (W5 (v:=.ty "list") rfl B.list Q8 rfl) z5))))) (D6 (p7 (zv9 hr.units) (pv 6) (pv 4) (o7 _))))) (z8 (v1 i9)) u0)
  apply v0
  ·exact DS.mk (U1 PassesOwn.never rfl (Y9 (pv 6)) (l5 (i:=7) V3.nd rfl (Or.inl rfl))
    (z8 (n6 (PW.pt (zm1 (W7 (X8 (v8 c0 rfl B.isinstance r6 (z0 (pv 7) (z0 (W5 (v:=.ty "tuple") rfl B.tuple Z7 rfl) z5))))) (D6 (W7 (X8 (v8 (zc1 rfl) rfl B.all ye8 (z0 (Y5 [] ["_law_place"] rfl (zw6 (pv 7)) (λ_ _ _ _=>o0 KW hr rfl (z0 (pv 0) z5))) z5))))))) (z8 (v1 i9)) u0)))
  exact ⟨z8 (v1 i9)⟩
 have hlen60:=ga.n60
 refine l4 λN hN=>⟨_,rfl,la,cas,cs,rfl,hla,hls,hc.ne,hc.few,hc.c60,hc.l60,λdl das L H1 hdl0 s1 hdl hL hLp hLs=>hN _ _ ?_⟩
 clear hN N
 have hLl:L.length=(TM.prd cs).length:=hLp.length_eq
 have hdal:das.length=L.length:=Paired.length hL
 obtain ⟨dxg,ma,Ac,mas0,hg,_⟩:=(ga.same s1).at'
 refine l4 λN hN=>⟨_,rfl,g,cG,dxg,_,_,rfl,hg,cg.cls,cg.no "many" (by decide),rfl,λa dx ha0 hdx _=>⟨a,dx,cL,n,rfl,z4,cl,rfl,hN _ _ ?_⟩⟩
 clear hN N
 have s2:y4 H1 (upd (upd (upd H1 dx (.own a)) a (.ins cL dx [])) a (.ins cL dx [("many",.int n)])):=p8 (p8 (z7 hdx _) ha0 _) ha0 _
 have hA:L9 (upd (upd (upd H1 dx (.own a)) a (.ins cL dx [])) a (.ins cL dx [("many",.int n)])) a cL n:=⟨dx,z4⟩
 generalize upd (upd (upd H1 dx (.own a)) a (.ins cL dx [])) a (.ins cL dx [("many",.int n)])=H2 at s2 hA ⊢
 have s02:=s1.trans s2
 have hdl2:=s2 _ _ hdl
 have hL2:=hL.same s2
 have ga2:=ga.same s02
 have hva2:=s02 _ _ hva
 have hd2:Dt H2 (.ref va) (ys1 ow):=.tup hva2 (zj5 ow)
 have hrow:O8 60 n (ys1 ow)=some ow:=by
  show (if (ow.map λ(x:Nat)=>PyData.int x).length<=60 then O7 n (ow.map λ(x:Nat)=>PyData.int x) else none)=_
  have h1:ow.length<=60:=by
   have:∀{r:List Nat} {ds:List (List Nat)},TM.Fits r ds->r.length=ds.length:=λh=>by induction h <;> simp_all
   rw [this hc.fit]
   exact hc.l60
  rw [ae,if_pos h1]
  exact J1 λx hx=>by
   obtain ⟨c,hcc,hxc⟩:=hc.fit.all x hx
   exact hc.lt x (aF.mpr ⟨c,hcc,hxc⟩)
 have hmo:c8 top<1000000:=by unfold c8;split <;> lia
 by_cases hover:c8 top<(TM.prd cs).length
 ·have hbad:Q7 cG cC cB cS cL cP H2 g a (.ref va) (c8 top) true:=⟨n,ts,S,_,ow,ga2,hmo,hA,hd2,hrow,λes wh=>by
   have:=TM.len_sub' hc.pnd λk hk=>(wh.keys k).mpr ((hc.rch k).mpr hk)
   rw [ae] at this
   have:=wh.le
   lia⟩
  have ret:∀N:St->Hp->Prop,xo1 (tOp (λx y H Q=>∃d e,Dt H x d/\Dt H y e/\PySem.SeqAt.shaped d=true/\PySem.SeqAt.shaped e=true/\Q (.bl (PyData.eqv d e)) H) (ym8 (T3 cG cC cB cS cL cP) [] E0 (E7 (yq3 0) (E7 (yq3 5) (E7 (yq3 2) (E7 (yq3 3) yq2))))) (xs6 (E7 (tC (.bl true)) (E7 (tC (.bl true)) (E7 (tC (.bl false)) (E7 (tC (.bl false)) yq2)))))) { nx:=N,rt:=Q } [some (.ref g),some (.ref la),some (.ref va),some (.int top),some (.ref dl),some (.ref a),none,none] H2:=λN=>by
   refine ⟨_,rfl,_,rfl,_,rfl,_,rfl,g,a,.ref va,top,true,rfl,hbad,λr H3 s3 hr3=>⟨(by show 4<=sizeLine;lia),λl hl=>?_⟩⟩
   have bls:∀{G:Hp},Dts G [V.bl true,V.bl true,V.bl false,V.bl false] [.bool true,.bool true,.bool false,.bool false]:=λ{G}=>.cons (.bl _) (.cons (.bl _) (.cons (.bl _) (.cons (.bl _) .nil)))
   have hLd:P1 1 (.list [.bool true,.bool true,.bool false,.bool false]):=⟨by decide +kernel,by decide +kernel⟩
   refine ⟨_,_,.lst (z7 hl _ _ _ hr3) bls,.lst z4 bls,(hLd.mono (by decide)).shaped,(hLd.mono (by decide)).shaped,?_⟩
   rw [hLd.eqv]
   exact q _ (s02.trans (s3.trans (z7 hl _)))
  refine l4 λN hN=>⟨_,rfl,dl,_,rfl,.inl (SqL.of hdl2),_,_,rfl,rfl,_,rfl,?_⟩
  rw [ae,hdal,hLl]
  by_cases h1000:1000<(TM.prd cs).length
  ·rw [decide_eq_true (by lia)]
   exact i7 (ret N)
  ·rw [decide_eq_false (by lia)]
   have ht0:0<top:=by
    refine Nat.pos_of_ne_zero λz=>?_
    rw [show c8 top=1000 by unfold c8;rw [if_pos z]] at hover
    lia
   have ht1:c8 top=top:=by unfold c8;rw [if_neg (by lia)]
   refine m9 ⟨_,rfl,_,_,rfl,rfl,_,rfl,?_⟩
   rw [decide_eq_true (by lia)]
   refine i7 ⟨_,rfl,dl,_,rfl,.inl (SqL.of hdl2),_,_,rfl,rfl,_,rfl,?_⟩
   rw [ae,hdal,hLl,decide_eq_true (by lia)]
   exact i7 (ret N)
 have hfew:(TM.prd cs).length<=1000:=by
  have:c8 top<=1000:=by unfold c8;split <;> lia
  lia
 refine l4 λN hN=>⟨_,rfl,dl,_,rfl,.inl (SqL.of hdl2),_,_,rfl,rfl,_,rfl,?_⟩
 rw [ae,hdal,hLl,decide_eq_false (by lia)]
 have key:N [some (.ref g),some (.ref la),some (.ref va),some (.int top),some (.ref dl),some (.ref a),none,none] H2:=by
  refine hN _ _ ?_
  clear hN N
  refine l4 λN hN=>⟨_,rfl,_,rfl,_,rfl,_,rfl,g,a,.ref va,top,rfl,n,ts,S,_,ga2,hmo,hA,hd2,λz=>(by rw [hrow] at z;cases z),λow' ho'=>?_⟩
  rw [hrow] at ho'
  cases ho'
  refine ⟨λx o wd bd es H3 s3 ra wh=>?_,λH' s' ⟨L',n1,n2,n3⟩=>?_⟩
  ·obtain ⟨dxr,hxr⟩:=ra.x'
   have hkp:(es.map Ent.k).Perm (TM.prd cs):=(List.perm_ext_iff_of_nodup ra.d.nd hc.pnd).mpr λk=>(wh.keys k).trans (hc.rch k)
   have hkl:=hkp.length_eq
   rw [ae] at hkl
   refine ⟨x,dxr,_,rfl,hxr,rfl,ts,S,H2,x,g,a,o,wd,bd,es,rfl,ra,λe he z=>?_,by lia,λfl fas F H4 hfl0 s4 hfl hF hFp hFs=>hN _ _ ?_⟩
   ·have hm:=TM.prd_mem.mp (hkp.mem_iff.mp (av.mpr ⟨e,he,rfl⟩))
    rw [z] at hm
    cases hm
    exact hc.ne rfl
   clear hN N
   obtain rfl:=yy7 hFs hLs (hFp.trans (hkp.trans hLp.symm))
   have s04:=s02.trans (s3.trans s4)
   have hdl4:=(s3.trans s4) _ _ hdl2
   have hL4:=hL2.same (s3.trans s4)
   have hLd:=yf8 F
   refine l4 λN hN=>⟨_,rfl,_,_,_,_,rfl,N6.lst hfl,N8 B5,_,rfl,m9 ?_⟩
   refine ⟨_,rfl,_,rfl,_,_,.lst hfl (zj4 hF),.lst hdl4 (zj4 hL4),(hLd.mono (by decide)).shaped,(hLd.mono (by decide)).shaped,_,rfl,?_⟩
   rw [hLd.eqv]
   refine m9 (hN _ _ ?_)
   clear hN N
   refine l4 λN hN=>⟨_,rfl,fl,rfl,⟨_,SqL.of hfl⟩,T1 (xs:=fas.map V.ref) (λi σ G=>∃v7,σ=[some (.ref g),some (.ref la),some (.ref va),some (.int top),some (.ref dl),some (.ref a),some (.ref fl),v7]/\y4 H4 G) ⟨none,rfl,y4.refl _⟩ (λi σ G _ ⟨_,_,ss⟩=>ss.seq (SqL.of hfl)) ?_ ?_⟩
   ·clear hN
    rintro i y σ G hy ⟨v7,rfl,ss⟩
    obtain ⟨ra',hra,rfl⟩:=Y7 hy
    obtain ⟨r,hr',hHr⟩:=u4 hF i ra' hra
    have hr60:r.length<=60:=by
     have hm:=TM.prd_mem.mp (hLp.mem_iff.mp (au hr'))
     have:∀{r:List Nat} {ds:List (List Nat)},TM.Fits r ds->r.length=ds.length:=λh=>by induction h <;> simp_all
     rw [this hm]
     exact hc.l60
    refine ⟨_,rfl,_,_,_,_,rfl,N6.tup (ss _ _ hHr),N8 zk4,_,rfl,m9 ?_⟩
    refine ⟨_,rfl,ra',rfl,⟨_,SqT.of (ss _ _ hHr)⟩,C8 (SqT.of (ss _ _ hHr)) ((List.replicate (tI r).length true).map V.bl) (by rw [ae,cy]) (by rw [v9];lia) ?_ ?_⟩
    ·intro j G2 z hz' s2' _ _ _ _
     obtain ⟨p,hp,rfl⟩:=zb3 hz'
     refine ⟨_,rfl,_,rfl,y4.refl _,?_⟩
     rw [ar,cM,if_pos (ag.mp hz').1]
     rfl
    ·intro b' G2 _ s2' hb'
     refine ⟨b',_,rfl,SqL.of hb',_,rfl,?_⟩
     rw [show (List.replicate (tI r).length true).all id=true from bP.mpr λy hy=>by rw [List.eq_of_mem_replicate hy];rfl]
     exact m9 ⟨_,rfl,ss.trans s2'⟩
   ·rintro σ G ⟨v7,rfl,ss⟩
    exact hN _ _ (q _ (s04.trans ss))
  ·have:=TM.len_sub' n1 λk hk=>(hc.rch k).mp (n2 k hk)
   lia
 refine m9 ⟨_,rfl,_,_,rfl,rfl,_,rfl,?_⟩
 by_cases ht0:0<top
 ·rw [decide_eq_true (by lia)]
  refine i7 ⟨_,rfl,dl,_,rfl,.inl (SqL.of hdl2),_,_,rfl,rfl,_,rfl,?_⟩
  have ht1:c8 top=top:=by unfold c8;rw [if_neg (by lia)]
  rw [ae,hdal,hLl,decide_eq_false (by lia)]
  exact m9 key
 ·rw [decide_eq_false (by lia)]
  exact m9 ⟨_,rfl,m9 key⟩
theorem yk3 {H:Hp}{x dx b cG:Addr}{o:HO}(hx:H x=none)(hd:H dx=none)(h:H b=some o):(upd (upd H dx (.own x)) x (.ins cG dx [])) b=some o:=by
 rw [z6 (y9 h hx),z6 (y9 h hd)]
 exact h
theorem tsU {H:Hp}{x dx cG:Addr}{as:List Addr}{ts:List (List Nat)}(hx:H x=none)(hd:H dx=none)(h:Y4 H as ts):Y4 (upd (upd H dx (.own x)) x (.ins cG dx [])) as ts:=Paired.imp' (λb z e=>yk3 hx hd e) h
theorem xi3 {H H':Hp}{x dx cG:Addr}(hx:H x=none)(hd:H dx=none)(fr:y8 [x] (upd (upd H dx (.own x)) x (.ins cG dx [])) H'):y4 H H':=λb u h=>fr b u (by simpa using y9 h hx) (yk3 hx hd h)
theorem C9 (row:List Nat)(k:Nat):O2 (tI row) none (some (k:Int))=tI (row.take k):=by
 unfold O2
 rw [HT.sIx_none,HT.sIx_nat,fx,eR,v9,←xg5,←v9 row]
 rcases eS k (tI row).length with h|h
 ·rw [dE h]
 ·rw [Nat.min_eq_right h,bA (ah _),bA h]
theorem zr4 (b:Bool):P1 1 (.list [.bool true,.bool b,.bool !b,.bool false]):=by cases b <;> exact ⟨by decide +kernel,by decide +kernel⟩
def zf7:Sp:=λvs H Q _=>∃(c:Int) (ra:Addr) (n:Nat) (row:List Nat),vs=[.int c,.ref ra,.int n]/\H ra=some (.lst (tI row))/\TM.IsT n row/\33<=n/\n<=60/\∀H',y4 H H'->Q (.bl true) H'
theorem S0:x9 ["_law_cell_here","_law_row","_law_many","_law_window","_law_group"] ["_law_cell_here","_law_row","_law_many"] (z9 Q4):=scq
theorem zg4 {cG cC cB cS cL cP:Addr}(D:Def K mg "_law_endless" Q4 ["_law_cell_here","_law_row","_law_many"] f fd) (B:Blt mg) (cl:g7 K cL ["many"]) (KG:zi3 P w K mg base 7 cG "Group" ["self","many","makers"] (zm8 cG cC cB cS)) (KT:l9 P w K mg base 1 "_law_turn" ["_law_circles","_law_many"] zn3) (KL:zi3 P w K mg base 1 cL "Lists" ["self","many"] (I0 K)) (KF:l9 P w K mg base 10 "_law_refused" ["_law_group","_law_act","_law_thing","_law_top"] (T3 cG cC cB cS cL cP)):u6 P w K mg base CX0 11 f fd ["_law_cell_here","_law_row","_law_many"] zf7:=by
 refine D.F.ok S0 (λvs H Q E h=>?_) (λcdv A outer s H vs Q E hr h=>?_)
 ·obtain ⟨c,ra,n,row,rfl,_⟩:=h
  rfl
 obtain ⟨c,ra,n,row,rfl,hra,hT,h33,hn,q⟩:=h
 have hz:=u7
 apply T0
 ·apply v0
  ·exact DS.mk (u5 (i:=3) S0.nd rfl (Or.inl rfl) (T2 P0 (pv 1) za0 (W6 (u9 X6 y6 (u9 d3 (pv 0) y6)))))
  apply v0
  ·exact DS.mk (u5 (i:=4) S0.nd rfl (Or.inl rfl) (M0 KG hr rfl (z0 (pv 2) (z0 (l7 (z0 (o0 KT hr rfl (z0 (l7 (z0 (pv 3) z5)) (z0 (pv 2) z5))) (z0 (o0 KT hr rfl (z0 (l7 (z0 (T2 P0 (pv 3) za0 (W6 y6)) z5)) (z0 (pv 2) z5))) z5))) z5))))
  exact ⟨z8 (v1 (A6 (yk7 hr.units) (o0 KF hr rfl (z0 (pv 4) (z0 (M0 KL hr rfl (z0 (pv 2) z5)) (z0 (T2 P0 (pv 3) za0 (W6 y6)) (z0 (u9 d3 (u9 R6 (pv 0) y6) y6) z5))))) (l7 (z0 i9 (z0 i9 (z0 i9 (z0 i9 z5))))) (o7 _)))⟩
 obtain ⟨k,ek,k1,k2⟩:∃k:Nat,12+c % 5=(k:Int)/\12<=k/\k<=16:=⟨(12+c % 5).toNat,by lia,by lia,by lia⟩
 have hrl:=hT.length
 refine l4 λN hN=>⟨_,rfl,_,rfl,_,_,rfl,rfl,(by show (0:Int)<5;decide),_,_,rfl,rfl,_,rfl,ra,_,rfl,SqL.of hra,λwl hwl=>hN _ _ ?_⟩
 clear hN N
 dsimp only
 rw [ek,C9]
 have hW:(row.take k).Nodup:=hT.nodup.sublist (bY k row)
 have hWl:(row.take k).length=k:=by rw [bj];lia
 have hWn:∀x∈row.take k,x<n:=λx hx=>hT.lt (bv hx)
 generalize row.take k=W at hW hWl hWn ⊢
 have s1:=z7 hwl (.lst (tI W))
 have w1:(upd H wl (.lst (tI W))) wl=some (.lst (tI W)):=z4
 generalize upd H wl (.lst (tI W))=H1 at s1 w1 ⊢
 have h2W:∀x∈W.take 2,x<n:=λx hx=>hWn x (bv hx)
 have t1:TM.IsT n (TM.rowC n [W]):=TM.rowC_isT (by simpa using hW) (by simpa using hWn)
 have t2:TM.IsT n (TM.rowC n [W.take 2]):=TM.rowC_isT (by simpa using hW.sublist (bY 2 W)) (by simpa using h2W)
 refine l4 λN hN=>⟨_,rfl,_,rfl,(by show 1<=sizeLine;lia),λl1 hl1=>⟨_,rfl,l1,n,[wl],[W],rfl,z4,.cons (z7 hl1 _ _ _ w1) .nil,by simpa using hW,by simpa using hWn,hn,λr1 H2 _ s2 hr1=>?_⟩⟩
 replace s2:=(z7 hl1 (.lst [V.ref wl])).trans s2
 have w2:=s2 _ _ w1
 refine ⟨_,rfl,_,rfl,wl,_,rfl,SqL.of w2,λsl hsl=>?_⟩
 rw [show O2 (tI W) none (some 2)=tI (W.take 2) from C9 W 2]
 have s3:=z7 hsl (.lst (tI (W.take 2)))
 have e3:(upd H2 sl (.lst (tI (W.take 2)))) sl=some (.lst (tI (W.take 2))):=z4
 generalize upd H2 sl (.lst (tI (W.take 2)))=H3 at s3 e3 ⊢
 refine ⟨(by show 1<=sizeLine;lia),λl2 hl2=>⟨_,rfl,l2,n,[sl],[W.take 2],rfl,z4,.cons (z7 hl2 _ _ _ e3) .nil,by simpa using hW.sublist (bY 2 W),by simpa using h2W,hn,λr2 H4 _ s4 hr2=>⟨(by show 2<=sizeLine;lia),λml hml=>?_⟩⟩⟩
 replace s4:=(z7 hl2 (.lst [V.ref sl])).trans s4
 have hr1':=(s3.trans s4) _ _ hr1
 have s5:=z7 hml (.lst [V.ref r1,V.ref r2])
 have e5:(upd H4 ml (.lst [V.ref r1,V.ref r2])) ml=some (.lst ([r1,r2].map V.ref)):=z4
 have t5:Y4 (upd H4 ml (.lst [V.ref r1,V.ref r2])) [r1,r2] [TM.rowC n [W],TM.rowC n [W.take 2]]:=.cons (s5 _ _ hr1') (.cons (s5 _ _ hr2) .nil)
 generalize upd H4 ml (.lst [V.ref r1,V.ref r2])=H5 at s5 e5 t5 ⊢
 have s05:=s1.trans (s2.trans (s3.trans (s4.trans s5)))
 have w5:=(s2.trans (s3.trans (s4.trans s5))) _ _ w1
 intro g dg hg hdg _
 have hTs:∀t∈[TM.rowC n [W],TM.rowC n [W.take 2]],TM.IsT n t:=λt ht=>by
  simp only [aq,bx,or_false] at ht
  rcases ht with e|e
  ·rw [e];exact t1
  ·rw [e];exact t2
 refine ⟨g,dg,ml,n,[r1,r2],_,rfl,z4,by lia,hn,yk3 hg hdg e5,tsU hg hdg t5,by show 2<=200;decide,hTs,λS H6 fr6 ga6 _=>⟨rfl,hN _ _ ?_⟩⟩
 clear hN N
 have s6:=xi3 hg hdg fr6
 have w6:=s6 _ _ w5
 refine ⟨_,rfl,_,rfl,λa dx ha0 hdx _=>⟨a,dx,cL,n,rfl,z4,cl,rfl,?_⟩⟩
 have s7:y4 H6 (upd (upd (upd H6 dx (.own a)) a (.ins cL dx [])) a (.ins cL dx [("many",.int n)])):=p8 (p8 (z7 hdx _) ha0 _) ha0 _
 have hA:L9 (upd (upd (upd H6 dx (.own a)) a (.ins cL dx [])) a (.ins cL dx [("many",.int n)])) a cL n:=⟨dx,z4⟩
 generalize upd (upd (upd H6 dx (.own a)) a (.ins cL dx [])) a (.ins cL dx [("many",.int n)])=H7 at s7 hA ⊢
 refine ⟨_,rfl,_,rfl,wl,_,rfl,SqL.of (s7 _ _ w6),λtl htl=>?_⟩
 rw [show O2 (tI W) none (some 10)=tI (W.take 10) from C9 W 10]
 have s8:=z7 htl (.lst (tI (W.take 10)))
 have e8:(upd H7 tl (.lst (tI (W.take 10)))) tl=some (.lst (tI (W.take 10))):=z4
 generalize upd H7 tl (.lst (tI (W.take 10)))=H8 at s8 e8 ⊢
 obtain ⟨top,etop,htop⟩:=zk5 (z:=c / 5) (k:=1001) (by decide)
 have etop:c / 5 % 1001=(top:Int):=etop
 have hmo:c8 top<=1000:=by unfold c8;split <;> lia
 have hrow:O8 60 n (.list ((W.take 10).map λ(x:Nat)=>PyData.int x))=some (W.take 10):=by
  show (if ((W.take 10).map λ(x:Nat)=>PyData.int x).length<=60 then O7 n ((W.take 10).map λ(x:Nat)=>PyData.int x) else none)=_
  rw [ae,bj,if_pos (by lia)]
  exact J1 λx hx=>hWn x (bv hx)
 obtain ⟨L,L1,L2',L3⟩:=TM.many_rows hTs hW hWn (by lia) (by simp) (by simp)
 refine ⟨_,rfl,_,_,rfl,rfl,⟨by decide,by decide⟩,_,_,rfl,rfl,(by show (0:Int)<1001;decide),g,a,.ref tl,top,true,(by show [V.ref g,V.ref a,V.ref tl,V.int (c / 5 % 1001)]=_;rw [etop]),⟨n,_,S,_,_,ga6.same (s7.trans s8),by lia,hA.same s8,.lst e8 (zj5 _),hrow,λes wh=>?_⟩,λr H9 s9 hr9=>⟨(by show 4<=sizeLine;lia),λl hl=>?_⟩⟩
 ·have:=TM.len_sub' L1 λk hk=>(wh.keys k).mpr (L2' k hk)
  rw [ae] at this
  have:=wh.le
  lia
 have bls:∀{G:Hp},Dts G [V.bl true,V.bl true,V.bl false,V.bl false] [.bool true,.bool true,.bool false,.bool false]:=λ{G}=>.cons (.bl _) (.cons (.bl _) (.cons (.bl _) (.cons (.bl _) .nil)))
 have hLd:=zr4 true
 refine ⟨.list [.bool true,.bool true,.bool !true,.bool false],.list [.bool true,.bool true,.bool !true,.bool false],.lst (z7 hl _ _ _ hr9) bls,.lst z4 bls,(hLd.mono (by decide)).shaped,(hLd.mono (by decide)).shaped,?_⟩
 rw [hLd.eqv]
 exact q _ (s05.trans (s6.trans (s7.trans (s8.trans (s9.trans (z7 hl _))))))
theorem zr3 (row:List Nat){a b:Nat}(h1:a<=b)(h2:b<=row.length):O2 (tI row) (some (a:Int)) (some (b:Int))=tI ((row.drop a).take (b-a)):=by
 unfold O2
 rw [HT.sIx_nat,HT.sIx_nat,v9,dE h2,dE (aQ h1 h2)]
 unfold tI
 rw [dJ,List.map_drop]
theorem xh5 {row:List Nat}{a b d:Nat}:[row.take a,(row.drop a).take b,(row.drop (a+b)).take d].flatten=row.take (a+b+d):=by
 rw [bZ,bZ,bZ,List.flatten_nil,bu,List.take_add,List.take_add,←aY]
theorem xt5 {n:Nat}{x y:Nat}{z:Int}(h:¬(0<=z/\z<(n:Int))):O8 60 n (.list [.int x,.int y,.int z])=none:=by
 show (if 3<=60 then O7 n [.int x,.int y,.int z] else none)=none
 rw [if_pos (by decide)]
 unfold O7 O7 O7
 rw [A9 (i:=z),if_neg h]
 cases plD n (.int x) <;> cases plD n (.int y) <;> rfl
theorem xt4 {n:Nat}{x:Nat}{z:Int}(h:¬(0<=z/\z<(n:Int))):O8 60 n (.list [.int x,.int z])=none:=by
 show (if 2<=60 then O7 n [.int x,.int z] else none)=none
 rw [if_pos (by decide)]
 unfold O7 O7
 rw [A9 (i:=z),if_neg h]
 cases plD n (.int x) <;> rfl
theorem Y3:x9 ["_law_script","_law_many","_law_many_each","_law_row","_law_first","_law_circles","_law_makers","_law_group","_law_size","_law_top","_law_thing","_law_cell_here","_law_bad","_law_other"] ["_law_script"] (z9 zf5):=scq
theorem xl8 {cG cC cB cS cL cP:Addr}(D:Def K mg "law" zf5 ["_law_script"] f fd) (B:Blt mg) (cl:g7 K cL ["many"]) (cp:g7 K cP ["many"]) (KG:zi3 P w K mg base 7 cG "Group" ["self","many","makers"] (zm8 cG cC cB cS)) (KLi:zi3 P w K mg base 1 cL "Lists" ["self","many"] (I0 K)) (KPl:zi3 P w K mg base 1 cP "Places" ["self","many"] (I0 K)) (KC:l9 P w K mg base 1 "_law_cell" ["_law_script","_law_k"] (yc8 K)) (KL:l9 P w K mg base 1 "_law_lengths" ["_law_cell_here"] ym2) (KO:l9 P w K mg base 1 "_law_order" ["_law_number","_law_many"] zs0) (KT:l9 P w K mg base 1 "_law_turn" ["_law_circles","_law_many"] zn3)
  (KGd:l9 P w K mg base 11 "_law_good" ["_law_group","_law_circles","_law_thing","_law_top"] (yd0 cG cC cB cS)) (KE:l9 P w K mg base 11 "_law_endless" ["_law_cell_here","_law_row","_law_many"] zf7) (KF:l9 P w K mg base 10 "_law_refused" ["_law_group","_law_act","_law_thing","_law_top"] (T3 cG cC cB cS cL cP)):u6 P w K mg base CX0 12 f fd ["_law_script"] (ym1 K):=by
 refine D.F.ok Y3 (λvs H Q E h=>?_) (λcdv A outer s H vs Q E hr h=>?_)
 ·obtain ⟨a,ns,rfl,_⟩:=h
  rfl
 obtain ⟨sa,ns,rfl,hS,h63,hbits,q⟩:=h
 have hz:=u7
 apply T0
 ·apply v0
  ·exact DS.mk (u5 (i:=1) Y3.nd rfl (Or.inr rfl) (u9 X6 y6 (u9 d3 (o0 KC hr rfl (z0 (pv 0) (z0 y6 z5))) y6)))
  apply v0
  ·exact DS.mk (u5 (i:=2) Y3.nd rfl (Or.inl rfl) (o0 KL hr rfl (z0 (o0 KC hr rfl (z0 (pv 0) (z0 y6 z5))) z5)))
  apply v0
  ·exact DS.mk (u5 (i:=3) Y3.nd rfl (Or.inl rfl) (o0 KO hr rfl (z0 (o0 KC hr rfl (z0 (pv 0) (z0 y6 z5))) (z0 (pv 1) z5))))
  apply v0
  ·exact DS.mk (u5 (i:=4) Y3.nd rfl (Or.inl rfl) (u9 X6 (i4 p5 (pv 2) y6 (λ_ _=>rfl)) (i4 p5 (pv 2) y6 (λ_ _=>rfl))))
  apply v0
  ·exact DS.mk (u5 (i:=5) Y3.nd rfl (Or.inl rfl) (l7 (z0 (T2 P0 (pv 3) za0 (W6 (i4 p5 (pv 2) y6 (λ_ _=>rfl)))) (z0 (T2 P0 (pv 3) (W6 (i4 p5 (pv 2) y6 (λ_ _=>rfl))) (W6 (pv 4))) (z0 (T2 P0 (pv 3) (W6 (pv 4)) (W6 (u9 X6 (pv 4) (i4 p5 (pv 2) y6 (λ_ _=>rfl))))) z5)))))
  apply v0
  ·exact DS.mk (yb7 (i:=6) [1] ["_law_loop","_law_many"] Y3.nd rfl rfl rfl (Y9 (pv 5)) (λ_ _ _ _=>o0 KT hr rfl (z0 (l7 (z0 (pv 0) z5)) (z0 (pv 1) z5))))
  apply v0
  ·exact DS.mk (n6 (p7 O5 (u9 d3 (o0 KC hr rfl (z0 (pv 0) (z0 y6 z5))) y6) y6 (o7 _)) (z8 (l8 (J0 PySem.F.plainAttrs_list PySem.F.slot_list_append PySem.F.type_list_append X9 (pv 6) (z0 (o0 KT hr rfl (z0 (pv 5) (z0 (pv 1) z5))) z5)))) u0)
  apply v0
  ·exact DS.mk (u5 (i:=7) Y3.nd rfl (Or.inl rfl) (M0 KG hr rfl (z0 (pv 1) (z0 (pv 6) z5))))
  apply v0
  ·exact DS.mk (u5 (i:=8) Y3.nd rfl (Or.inl rfl) (u9 yv9 (u9 yv9 (i4 p5 (pv 2) y6 (λ_ _=>rfl)) (i4 p5 (pv 2) y6 (λ_ _=>rfl))) (i4 p5 (pv 2) y6 (λ_ _=>rfl))))
  apply v0
  ·exact DS.mk (u5 (i:=9) Y3.nd rfl (Or.inl rfl) (i4 p5 (l7 (z0 y6 (z0 (pv 8) (z0 (u9 zl3 (pv 8) y6) (z0 (u9 X6 (pv 8) y6) (z0 (u9 X6 y6 (u9 d3 (u9 R6 (o0 KC hr rfl (z0 (pv 0) (z0 y6 z5))) y6) y6)) z5)))))) (u9 d3 (u9 R6 (o0 KC hr rfl (z0 (pv 0) (z0 y6 z5))) y6) y6) (λ_ _=>rfl)))
  apply v0
  ·exact DS.mk (u5 (i:=9) Y3.nd rfl (Or.inl rfl) (v8 (yn5 rfl) rfl B.min xj3 (z0 (pv 9) (z0 y6 z5))))
  apply v0
  ·exact DS.mk (u5 (i:=10) Y3.nd rfl (Or.inl rfl) (o9 g9 rfl B.tuple Z7 (z0 (Y5 [0] ["_law_loop","_law_script"] rfl (Y9 (pv 5)) (λ_ _ _ _=>i4 p5 (pv 0) (u9 d3 (o0 KC hr rfl (z0 (pv 1) (z0 y6 z5))) (v8 q9 rfl B.len X4 (z0 (pv 0) z5))) (λ_ _=>rfl))) z5)))
  apply v0
  ·exact DS.mk (n6 (W7 (X8 (o0 KGd hr rfl (z0 (pv 7) (z0 (pv 5) (z0 (pv 10) (z0 (pv 9) z5))))))) (z8 (v1 i9)) u0)
  apply v0
  ·exact DS.mk (n6 (PW.pt (xm7 (p7 O5 (u9 d3 (u9 R6 (o0 KC hr rfl (z0 (pv 0) (z0 y6 z5))) y6) y6) y6 (o7 _)) (xe6 (W7 (X8 (o0 KE hr rfl (z0 (u9 R6 (o0 KC hr rfl (z0 (pv 0) (z0 y6 z5))) y6) (z0 (pv 3) (z0 (pv 1) z5))))))))) (z8 (v1 i9)) u0)
  apply v0
  ·exact DS.mk (U1 PassesOwn.never rfl (Y9 (T2 P0 (pv 0) (W6 y6) (W6 y6))) (l5 (i:=11) Y3.nd rfl (Or.inl rfl))
   (y0 (u5 (i:=12) Y3.nd rfl (Or.inl rfl) (l7 (z0 (i4 p5 (pv 3) y6 (λ_ _=>rfl)) (z0 (i4 p5 (pv 3) y6 (λ_ _=>rfl)) (z0 (u9 X6 (pv 1) (u9 d3 (pv 11) y6)) z5)))))
   (y0 (n6 (p7 O5 (u9 d3 (pv 11) y6) y6 (o7 _)) (z8 (u5 (i:=12) Y3.nd rfl (Or.inl rfl) (l7 (z0 (i4 p5 (pv 3) y6 (λ_ _=>rfl)) (z0 (u9 zl3 (xr3 xo6 y6) (u9 d3 (u9 R6 (pv 11) y6) y6)) z5))))) u0)
   (y0 (n6 (p7 (zv9 hr.units) (o0 KF hr rfl (z0 (pv 7) (z0 (M0 KLi hr rfl (z0 (pv 1) z5)) (z0 (pv 12) (z0 y6 z5))))) (l7 (z0 i9 (z0 i9 (z0 i9 (z0 i9 z5))))) (o7 _)) (z8 (v1 i9)) u0)
   (y0 (u5 (i:=13) Y3.nd rfl (Or.inl rfl) (u9 X6 y6 (u9 d3 (pv 11) y6)))
   (z8 (n6 (p7 yl0 (pv 13) (pv 1) (o7 _)) (z8 (n6 (p7 (zv9 hr.units) (o0 KF hr rfl (z0 (pv 7) (z0 (M0 KPl hr rfl (z0 (pv 13) z5)) (z0 y6 (z0 (u9 X6 y6 (u9 d3 (u9 R6 (pv 11) y6) y6)) z5))))) (l7 (z0 i9 (z0 i9 (z0 i9 (z0 i9 z5))))) (o7 _)) (z8 (v1 i9)) u0)) u0)))))))
  exact ⟨z8 (v1 i9)⟩
 obtain ⟨n,en,h33,hn⟩:∃n:Nat,33+ns.getD 0 0 % 28=(n:Int)/\33<=n/\n<=60:=⟨(33+ns.getD 0 0 % 28).toNat,by lia,by lia,by lia⟩
 refine l4 λN hN=>⟨_,rfl,sa,ns,0,rfl,hS,_,_,rfl,rfl,(by show (0:Int)<28;decide),_,_,rfl,rfl,hN _ _ ?_⟩
 clear hN N
 dsimp only
 rw [en]
 refine l4 λN hN=>⟨_,rfl,sa,ns,1,rfl,hS,ns.getD 1 0,rfl,λel H1 a b d _ s1 a1 b1 d1 habd hprod hel=>hN _ _ ?_⟩
 clear hN N
 have hS1:=s1.seq hS
 refine l4 λN hN=>⟨_,rfl,sa,ns,2,rfl,hS1,_,rfl,_,n,rfl,by lia,λra H2 row _ s2 hT _ hra=>hN _ _ ?_⟩
 clear hN N
 have hS2:=s2.seq hS1
 have hel2:=s2 _ _ hel
 have hrl:=hT.length
 have ix:∀{G:Hp},G el=some (.lst (tI [a,b,d]))->SqL K G el (tI [a,b,d]):=λh=>SqL.of h
 refine l4 λN hN=>⟨_,rfl,el,_,0,.int a,rfl,rfl,SqL.of hel2,rfl,_,rfl,el,_,1,.int b,rfl,rfl,SqL.of hel2,rfl,_,_,rfl,rfl,hN _ _ ?_⟩
 clear hN N
 dsimp only
 rw [show (a:Int)+(b:Int)=((a+b:Nat):Int) by lia]
 refine l4 λN hN=>⟨_,rfl,_,rfl,el,_,0,.int a,rfl,rfl,SqL.of hel2,rfl,_,rfl,ra,_,rfl,SqL.of hra,λk0 hk0=>?_⟩
 rw [C9]
 have s3:=z7 hk0 (.lst (tI (row.take a)))
 have e3:(upd H2 k0 (.lst (tI (row.take a)))) k0=some (.lst (tI (row.take a))):=z4
 generalize upd H2 k0 (.lst (tI (row.take a)))=H3 at s3 e3 ⊢
 refine ⟨_,rfl,_,rfl,el,_,0,.int a,rfl,rfl,SqL.of (s3 _ _ hel2),rfl,_,rfl,_,rfl,_,rfl,ra,_,rfl,SqL.of (s3 _ _ hra),λk1 hk1=>?_⟩
 rw [zr3 row (by lia) (by lia),Nat.add_sub_cancel_left]
 have s4:=z7 hk1 (.lst (tI ((row.drop a).take b)))
 have e4:(upd H3 k1 (.lst (tI ((row.drop a).take b)))) k1=some (.lst (tI ((row.drop a).take b))):=z4
 generalize upd H3 k1 (.lst (tI ((row.drop a).take b)))=H4 at s4 e4 ⊢
 refine ⟨_,rfl,_,rfl,_,rfl,_,rfl,_,rfl,el,_,2,.int d,rfl,rfl,SqL.of ((s3.trans s4) _ _ hel2),rfl,_,_,rfl,rfl,_,rfl,ra,_,rfl,SqL.of ((s3.trans s4) _ _ hra),λk2 hk2=>?_⟩
 rw [show O2 (tI row) (some ((a+b:Nat):Int)) (some (((a+b:Nat):Int)+(d:Int)))=tI ((row.drop (a+b)).take d) by rw [show ((a+b:Nat):Int)+(d:Int)=((a+b+d:Nat):Int) by lia,zr3 row (by lia) (by lia),Nat.add_sub_cancel_left]]
 have s5:=z7 hk2 (.lst (tI ((row.drop (a+b)).take d)))
 have e5:(upd H4 k2 (.lst (tI ((row.drop (a+b)).take d)))) k2=some (.lst (tI ((row.drop (a+b)).take d))):=z4
 generalize upd H4 k2 (.lst (tI ((row.drop (a+b)).take d)))=H5 at s5 e5 ⊢
 refine ⟨(by show 3<=sizeLine;lia),λla hla0=>hN _ _ ?_⟩
 clear hN N
 have s6:=z7 hla0 (.lst [V.ref k0,V.ref k1,V.ref k2])
 have hla:(upd H5 la (.lst [V.ref k0,V.ref k1,V.ref k2])) la=some (.lst ([k0,k1,k2].map V.ref)):=z4
 have hls:ye0 (upd H5 la (.lst [V.ref k0,V.ref k1,V.ref k2])) [k0,k1,k2] [row.take a,(row.drop a).take b,(row.drop (a+b)).take d]:=.cons ((s4.trans (s5.trans s6)) _ _ e3) (.cons ((s5.trans s6) _ _ e4) (.cons (s6 _ _ e5) .nil))
 generalize upd H5 la (.lst [V.ref k0,V.ref k1,V.ref k2])=H6 at s6 hla hls ⊢
 have s26:=s3.trans (s4.trans (s5.trans s6))
 have hS6:=s26.seq hS2
 have hel6:=s26 _ _ hel2
 have hra6:=s26 _ _ hra
 have s06:=s1.trans (s2.trans s26)
 clear s3 s4 s5 s6 e3 e4 e5 hk0 hk1 hk2 hla0 hel2
 have hnd:[row.take a,(row.drop a).take b,(row.drop (a+b)).take d].flatten.Nodup:=by rw [xh5];exact hT.nodup.sublist (bY _ row)
 have hlt:∀x∈[row.take a,(row.drop a).take b,(row.drop (a+b)).take d].flatten,x<n:=λx hx=>by rw [xh5] at hx;exact hT.lt (bv hx)
 have l0:(row.take a).length=a:=by rw [bj];lia
 have l1:((row.drop a).take b).length=b:=by rw [bj,bU];lia
 have l2:((row.drop (a+b)).take d).length=d:=by rw [bj,bU];lia
 have hlens:[row.take a,(row.drop a).take b,(row.drop (a+b)).take d].map List.length=[a,b,d]:=by simp only [aI,cq,l0,l1,l2]
 have hcs3:[row.take a,(row.drop a).take b,(row.drop (a+b)).take d].length=3:=rfl
 generalize [row.take a,(row.drop a).take b,(row.drop (a+b)).take d]=cs at hls hnd hlt hlens hcs3
 have hpos:∀c∈cs,1<=c.length/\c.length<=33:=λc hc=>by
  have h:c.length∈cs.map List.length:=av.mpr ⟨c,hc,rfl⟩
  rw [hlens] at h
  simp only [aq,bx,or_false] at h
  lia
 have hone:∀c∈cs,[c].flatten.Nodup/\∀x∈[c].flatten,x<n:=λc hc=>⟨by simpa using TM.loop_nodup hnd hc,λx hx=>hlt x (aF.mpr ⟨c,hc,by simpa using hx⟩)⟩
 refine l4 λN hN=>⟨_,rfl,la,rfl,⟨_,SqL.of hla⟩,zj1 (cs.map λc=>TM.rowC n [c]) (by rw [ae];lia) (λG sG=>⟨_,SqL.of (sG _ _ hla),by rw [ae,ae,hcs3];exact ah _⟩) (λi G hi sG=>⟨_,_,SqL.of (sG _ _ hla),aa (by rw [ae,hcs3] at hi;rw [ae];exact hi)⟩) ?_ ?_⟩
 ·rintro i G x G2 r hr' sG ⟨rfl,hxx⟩
  obtain ⟨ca,hca,rfl⟩:=Y7 (hxx _ (SqL.of (sG _ _ hla)))
  obtain ⟨c,hc,hHc⟩:=u4 hls i ca hca
  refine ⟨rfl,λ_ _ _ _=>?_⟩
  have er:r=TM.rowC n [c]:=by
   rw [ar,hc] at hr'
   exact (Option.some.inj hr').symm
  subst er
  obtain ⟨o1,o2⟩:=hone c (au hc)
  exact ⟨_,rfl,(by show 1<=sizeLine;lia),λl hl=>⟨_,rfl,l,n,[ca],[c],rfl,z4,.cons (z7 hl _ _ _ (sG _ _ hHc)) .nil,o1,o2,hn,λrr G3 _ s3 hrr=>zi4.mk hr' ((z7 hl _).trans s3) hrr⟩⟩
 intro ml H7 mas hml0 s7 hml hmas
 refine hN _ _ ?_
 clear hN N
 have own0:∀c∈cs,TM.rowC n [c]∈cs.map λc=>TM.rowC n [c]:=λc hc=>av.mpr ⟨c,hc,rfl⟩
 have all0:∀t∈cs.map λc=>TM.rowC n [c],∃ls,ls.flatten.Nodup/\(∀c∈ls,c∈cs)/\t=TM.rowC n ls:=λt ht=>by
  obtain ⟨c,hc,rfl⟩:=av.mp ht
  exact ⟨[c],(hone c hc).1,λc' hc'=>by rw [ao.mp hc'];exact hc,rfl⟩
 refine l4 λN hN=>⟨_,rfl,sa,ns,3,rfl,s7.seq hS6,_,_,rfl,rfl,(by show (0:Int)<2;decide),rfl,_,rfl,?_⟩
 have key:∀(ts:List (List Nat)) (mas:List Addr) (H8:Hp),y4 H6 H8->H8 ml=some (.lst (mas.map V.ref))->Y4 H8 mas ts->ts.length<=4->(∀c∈cs,TM.rowC n [c]∈ts)->(∀t∈ts,∃ls,ls.flatten.Nodup/\(∀c∈ls,c∈cs)/\t=TM.rowC n ls)->N [some (.ref sa),some (.int n),some (.ref el),some (.ref ra),some (.int ((a+b:Nat):Int)),some (.ref la),some (.ref ml),none,none,none,none,none,none,none] H8:=by
  intro ts mas H8 s8 hml8 hmas8 hts4 hown hall
  refine hN _ _ ?_
  clear hN N
  have htT:∀t∈ts,TM.IsT n t:=λt ht=>by
   obtain ⟨ls,h1,h2,rfl⟩:=hall t ht
   exact TM.rowC_isT h1 λx hx=>by
    obtain ⟨c,hc,hxc⟩:=aF.mp hx
    exact hlt x (aF.mpr ⟨c,h2 c hc,hxc⟩)
  refine l4 λN hN=>⟨_,rfl,_,rfl,λg dg hg hdg _=>⟨g,dg,ml,n,mas,ts,rfl,z4,by lia,hn,yk3 hg hdg hml8,tsU hg hdg hmas8,by lia,htT,λS H9 fr9 ga9 _=>⟨rfl,hN _ _ ?_⟩⟩⟩
  clear hN N
  have s69:=s8.trans (xi3 hg hdg fr9)
  have hS9:=s69.seq hS6
  have hel9:=s69 _ _ hel6
  have hra9:=s69 _ _ hra6
  have hla9:=s69 _ _ hla
  have hls9:=hls.same s69
  have s09:=s06.trans s69
  clear fr9 hmas8 hml8
  refine l4 λN hN=>⟨_,rfl,el,_,0,.int a,rfl,rfl,SqL.of hel9,rfl,_,rfl,el,_,1,.int b,rfl,rfl,SqL.of hel9,rfl,_,_,rfl,rfl,.inl ⟨by lia,by lia⟩,_,rfl,el,_,2,.int d,rfl,rfl,SqL.of hel9,rfl,_,_,rfl,rfl,.inr ⟨by lia,by lia⟩,hN _ _ ?_⟩
  clear hN N
  dsimp only
  have hsz:(a:Int)*(b:Int)*(d:Int)=((a*b*d:Nat):Int):=by rw [fz,fz]
  have hsz1:1<=a*b*d:=fI (fI a1 b1) d1
  rw [hsz]
  have hprod0:=hprod
  generalize a*b*d=sz at hsz1 hprod ⊢
  clear hsz
  refine l4 λN hN=>⟨_,rfl,_,rfl,_,_,rfl,rfl,_,rfl,_,_,rfl,rfl,_,rfl,sa,ns,3,rfl,hS9,_,_,rfl,rfl,⟨by decide,by decide⟩,_,_,rfl,rfl,(by show (0:Int)<1000;decide),_,_,rfl,rfl,(by show 5<=sizeLine;lia),λtl htl=>⟨_,rfl,sa,ns,3,rfl,(z7 htl _).seq hS9,_,_,rfl,rfl,⟨by decide,by decide⟩,_,_,rfl,rfl,(by show (0:Int)<5;decide),?_⟩⟩
  dsimp only
  obtain ⟨m,em,hm⟩:=zk5 (z:=ns.getD 3 0 / 2) (k:=5) (by decide)
  have em:ns.getD 3 0 / 2 % 5=(m:Int):=em
  have s10:=z7 htl (.lst [V.int 0,V.int sz,V.int ((sz:Int)-1),V.int ((sz:Int)+1),V.int (1+ns.getD 3 0 / 10 % 1000)])
  have e10:(upd H9 tl (.lst [V.int 0,V.int sz,V.int ((sz:Int)-1),V.int ((sz:Int)+1),V.int (1+ns.getD 3 0 / 10 % 1000)])) tl=some (.lst [V.int 0,V.int sz,V.int ((sz:Int)-1),V.int ((sz:Int)+1),V.int (1+ns.getD 3 0 / 10 % 1000)]):=z4
  generalize upd H9 tl (.lst [V.int 0,V.int sz,V.int ((sz:Int)-1),V.int ((sz:Int)+1),V.int (1+ns.getD 3 0 / 10 % 1000)])=H10 at s10 e10 ⊢
  obtain ⟨t,ht⟩:∃t:Nat,[V.int 0,V.int sz,V.int ((sz:Int)-1),V.int ((sz:Int)+1),V.int (1+ns.getD 3 0 / 10 % 1000)][m]?=some (.int t):=by
   have h10:=bR (ns.getD 3 0 / 10) (show (1000:Int)≠0 by decide)
   match m,hm with
   | 0,_=>exact ⟨0,rfl⟩
   | 1,_=>exact ⟨sz,rfl⟩
   | 2,_=>exact ⟨sz-1,by rw [show ((sz-1:Nat):Int)=(sz:Int)-1 by lia];rfl⟩
   | 3,_=>exact ⟨sz+1,by rw [show ((sz+1:Nat):Int)=(sz:Int)+1 by lia];rfl⟩
   | 4,_=>exact ⟨(1+ns.getD 3 0 / 10 % 1000).toNat,by rw [show (((1+ns.getD 3 0 / 10 % 1000).toNat:Nat):Int)=1+ns.getD 3 0 / 10 % 1000 by lia];rfl⟩
  refine ⟨tl,_,_,.int t,rfl,rfl,SqL.of e10,(by rw [em];exact k8 ht),hN _ _ ?_⟩
  clear hN N
  obtain ⟨top,etop,htop⟩:∃top:Nat,(if (1000:Int)<(t:Int) then (1000:Int) else (t:Int))=(top:Int)/\top<=1000:=⟨min t 1000,by split <;> lia,by lia⟩
  refine l4 λN hN=>⟨_,rfl,(t:Int),1000,rfl,hN _ _ ?_⟩
  clear hN N
  rw [etop]
  have hS10:=s10.seq hS9
  have hla10:=s10 _ _ hla9
  have hls10:=hls9.same s10
  refine l4 λN hN=>⟨_,rfl,la,rfl,⟨_,SqL.of hla10⟩,zr1 (SqL.of hla10) (tI (cs.map λc=>c.getD (ns.getD 4 0 % (c.length:Int)).toNat 0)) (by rw [v9,ae,ae,hcs3];rfl) (by show 3<=sizeLine;lia) ?_ ?_⟩
  ·intro i G x hx sG _ _ _ _
   obtain ⟨ca,hca,rfl⟩:=Y7 hx
   obtain ⟨c,hc,hHc⟩:=u4 hls10 i ca hca
   obtain ⟨j,ej,hj⟩:=zk5 (z:=ns.getD 4 0) (k:=c.length) (hpos c (au hc)).1
   have hcj:c[j]?=some c[j]:=aa hj
   refine ⟨_,rfl,_,rfl,sa,ns,4,rfl,sG.seq hS10,_,rfl,ca,_,rfl,.inl (SqL.of (sG _ _ hHc)),_,_,rfl,rfl,(by show (0:Int)<((tI c).length:Int);rw [v9];have:=(hpos c (au hc)).1;lia),ca,_,_,.int (c[j]:Int),rfl,rfl,SqL.of (sG _ _ hHc),(by show atI _ (ns.getD 4 0 % ((tI c).length:Int))=_;rw [v9,ej];exact k8 (E8 hcj)),y4.refl _,E8 ?_⟩
   rw [ar,hc]
   show some (c.getD (ns.getD 4 0 % (c.length:Int)).toNat 0)=_
   rw [ej,bQ,TM.getD_of hcj]
  intro ll H11 hll0 s11 hll
  refine ⟨ll,_,rfl,.inl ⟨SqL.of hll,λva hva=>hN _ _ ?_⟩⟩
  clear hN N
  have hfit:TM.Fits (cs.map λc=>c.getD (ns.getD 4 0 % (c.length:Int)).toNat 0) cs:=by
   have:∀ds:List (List Nat),(∀c∈ds,1<=c.length)->TM.Fits (ds.map λc=>c.getD (ns.getD 4 0 % (c.length:Int)).toNat 0) ds:=λds=>by
    induction ds with
    | nil=>exact λ_=>.nil
    | cons c ds ih =>
     intro h
     refine .cons ?_ (ih λc' hc'=>h c' (aw _ hc'))
     obtain ⟨j,ej,hj⟩:=zk5 (z:=ns.getD 4 0) (k:=c.length) (h c ay)
     show c.getD (ns.getD 4 0 % (c.length:Int)).toNat 0∈c
     rw [ej,bQ,TM.getD_of (aa hj)]
     exact bz hj
   exact this cs λc hc=>(hpos c hc).1
  generalize (cs.map λc=>c.getD (ns.getD 4 0 % (c.length:Int)).toNat 0)=ow at hll hfit ⊢
  have s12:=z7 hva (.tup (tI ow))
  have e12:(upd H11 va (.tup (tI ow))) va=some (.tup (tI ow)):=z4
  generalize upd H11 va (.tup (tI ow))=H12 at s12 e12 ⊢
  have s912:=s10.trans (s11.trans s12)
  have hS12:=s912.seq hS9
  have hra12:=s912 _ _ hra9
  have ga12:=ga9.same s912
  have s012:=s09.trans s912
  have hcirc:yn3 n ts cs ow:=by
   refine ⟨hnd,hlt,hown,hall,hfit,λz=>(by rw [z] at hcs3;cases hcs3),λi=>?_,λc hc=>(by have:=(hpos c hc).2;lia),by lia⟩
   rw [TM.prdG_len,dJ,hlens]
   have hab:a*b<=a*b*d:=Nat.le_mul_of_pos_right _ d1
   match i with
   | 0=>show 1*1<=2000;decide
   | 1=>show 1*(a*1)<=2000;lia
   | 2=>show 1*(a*(b*1))<=2000;rw [dU,dS];lia
   | i+3 =>
    rw [bA (by show 3<=i+3;lia)]
    show 1*(a*(b*(d*1)))<=2000
    rw [dU,dS,←fB]
    lia
  refine l4 λN hN=>⟨_,rfl,_,rfl,_,rfl,_,rfl,g,la,va,top,n,ts,cs,S,_,ow,rfl,ga12,s912 _ _ hla9,hls9.same s912,hcirc,e12,htop,λH13 s13=>⟨_,rfl,m9 (hN _ _ ?_)⟩⟩
  clear hN N
  have hS13:=s13.seq hS12
  have hra13:=s13 _ _ hra12
  have ga13:=ga12.same s13
  have s013:=s012.trans s13
  refine l4 λN hN=>⟨_,rfl,sa,ns,4,rfl,hS13,_,_,rfl,rfl,⟨by decide,by decide⟩,_,_,rfl,rfl,(by show (0:Int)<8;decide),rfl,_,rfl,?_⟩
  have key2:∀H14,y4 H13 H14->N [some (.ref sa),some (.int n),some (.ref el),some (.ref ra),some (.int ((a+b:Nat):Int)),some (.ref la),some (.ref ml),some (.ref g),some (.int sz),some (.int top),some (.ref va),none,none,none] H14:=by
   intro H14 s14
   refine hN _ _ ?_
   clear hN N
   have hS14:=s14.seq hS13
   have hra14:=s14 _ _ hra13
   have ga14:=ga13.same s14
   have s014:=s013.trans s14
   have r0:row[0]?=some row[0]:=aa (by lia)
   have r1:row[1]?=some row[1]:=aa (by lia)
   refine l4 λN hN=>⟨_,rfl,_,rfl,_,rfl,sa,_,rfl,hS14,λsl hsl=>?_⟩
   have s15:=z7 hsl (.lst (O2 (ns.map V.int) (some 5) (some 35)))
   have esl:(upd H14 sl (.lst (O2 (ns.map V.int) (some 5) (some 35)))) sl=some (.lst (O2 (ns.map V.int) (some 5) (some 35))):=z4
   generalize upd H14 sl (.lst (O2 (ns.map V.int) (some 5) (some 35)))=H15 at s15 esl ⊢
   have hra15:=s15 _ _ hra14
   have ga15:=ga14.same s15
   have s015:=s014.trans s15
   have hcut:∀(i:Nat) y,(O2 (ns.map V.int) (some 5) (some 35))[i]?=some y->∃z,y=V.int z:=λi y hy=>by
    have hm:=au hy
    unfold O2 at hm
    obtain ⟨z,_,rfl⟩:=av.mp (eV (bv hm))
    exact ⟨z,rfl⟩
   refine ⟨sl,rfl,⟨_,SqL.of esl⟩,T1 (xs:=O2 (ns.map V.int) (some 5) (some 35)) (λi σ G=>∃v11 v12 v13,σ=[some (.ref sa),some (.int n),some (.ref el),some (.ref ra),some (.int ((a+b:Nat):Int)),some (.ref la),some (.ref ml),some (.ref g),some (.int sz),some (.int top),some (.ref va),v11,v12,v13]/\y4 H15 G) ⟨none,none,none,rfl,y4.refl _⟩ (λi σ G _ ⟨_,_,_,_,ss⟩=>ss.seq (SqL.of esl)) ?_ ?_⟩
   ·clear hN
    rintro i y σ G hy ⟨v11,v12,v13,rfl,ss⟩
    obtain ⟨z,rfl⟩:=hcut i y hy
    have hraG:=ss _ _ hra15
    refine l4 λM hM=>⟨_,rfl,ra,_,0,.int (row[0]:Int),rfl,rfl,SqL.of hraG,k8 (j:=0) (E8 r0),_,rfl,ra,_,1,.int (row[1]:Int),rfl,rfl,SqL.of hraG,k8 (j:=1) (E8 r1),_,rfl,_,rfl,_,_,rfl,rfl,(by show (0:Int)<3;decide),_,_,rfl,rfl,(by show 3<=sizeLine;lia),λbl hbl=>hM _ _ ?_⟩
    clear hM M
    dsimp only
    have s16:=z7 hbl (.lst [V.int (row[0]:Int),V.int (row[1]:Int),V.int ((n:Int)+z % 3)])
    have e16:(upd G bl (.lst [V.int (row[0]:Int),V.int (row[1]:Int),V.int ((n:Int)+z % 3)])) bl=some (.lst [V.int (row[0]:Int),V.int (row[1]:Int),V.int ((n:Int)+z % 3)]):=z4
    generalize upd G bl (.lst [V.int (row[0]:Int),V.int (row[1]:Int),V.int ((n:Int)+z % 3)])=G16 at s16 e16 ⊢
    have hz3:=bR z (show (3:Int)≠0 by decide)
    refine l4 λM hM=>⟨_,rfl,_,_,rfl,rfl,(by show (0:Int)<2;decide),rfl,_,rfl,?_⟩
    have key3:∀(bl:Addr) (dd:PyData) (G17:Hp),y4 G16 G17->Dt G17 (.ref bl) dd->O8 60 n dd=none->M [some (.ref sa),some (.int n),some (.ref el),some (.ref ra),some (.int ((a+b:Nat):Int)),some (.ref la),some (.ref ml),some (.ref g),some (.int sz),some (.int top),some (.ref va),some (.int z),some (.ref bl),v13] G17:=by
     intro bl dd G17 s17 hdd hbad
     refine hM _ _ ?_
     clear hM M
     have ga17:=ga15.same (ss.trans (s16.trans s17))
     refine l4 λM hM=>⟨_,rfl,_,rfl,λac dx ha0 hdx _=>⟨ac,dx,cL,n,rfl,z4,cl,rfl,?_⟩⟩
     have s18:y4 G17 (upd (upd (upd G17 dx (.own ac)) ac (.ins cL dx [])) ac (.ins cL dx [("many",.int n)])):=p8 (p8 (z7 hdx _) ha0 _) ha0 _
     have hA:L9 (upd (upd (upd G17 dx (.own ac)) ac (.ins cL dx [])) ac (.ins cL dx [("many",.int n)])) ac cL n:=⟨dx,z4⟩
     generalize upd (upd (upd G17 dx (.own ac)) ac (.ins cL dx [])) ac (.ins cL dx [("many",.int n)])=G18 at s18 hA ⊢
     refine ⟨_,rfl,g,ac,.ref bl,1,false,rfl,.inl ⟨n,ts,S,dd,ga17.same s18,by decide,hA,hdd.same s18,hbad⟩,λr G19 s19 hr19=>⟨(by show 4<=sizeLine;lia),λl hl=>?_⟩⟩
     have bls:∀{G:Hp},Dts G [V.bl true,V.bl false,V.bl true,V.bl false] [.bool true,.bool false,.bool true,.bool false]:=λ{G}=>.cons (.bl _) (.cons (.bl _) (.cons (.bl _) (.cons (.bl _) .nil)))
     have hLd:=zr4 false
     refine ⟨.list [.bool true,.bool false,.bool !false,.bool false],.list [.bool true,.bool false,.bool !false,.bool false],.lst (z7 hl _ _ _ hr19) bls,.lst z4 bls,(hLd.mono (by decide)).shaped,(hLd.mono (by decide)).shaped,_,rfl,?_⟩
     rw [hLd.eqv]
     refine m9 (hM _ _ ?_)
     clear hM M
     have s20:=s18.trans (s19.trans (z7 hl (.lst [V.bl true,V.bl false,V.bl true,V.bl false])))
     generalize upd G19 l (.lst [V.bl true,V.bl false,V.bl true,V.bl false])=G20 at s20 ⊢
     have s1520:=ss.trans (s16.trans (s17.trans s20))
     obtain ⟨ot,eot,_⟩:=xc5 z
     refine l4 λM hM=>⟨_,rfl,_,_,rfl,rfl,(by show (0:Int)<60;decide),_,_,rfl,rfl,hM _ _ ?_⟩
     clear hM M
     dsimp only
     rw [eot]
     refine ⟨_,rfl,_,rfl,rfl,_,rfl,?_⟩
     show if (!decide (V.int ot=V.int n))=true then _ else _
     rw [Z0]
     by_cases hot:ot=n
     ·rw [decide_eq_true (by rw [hot])]
      exact m9 ⟨_,_,_,rfl,s1520⟩
     rw [decide_eq_false (by lia)]
     obtain ⟨dxg,ma,Ac,mas0,hg20,_⟩:=(ga15.same s1520).at'
     refine i7 ⟨_,rfl,_,rfl,λac2 dx2 ha2 hdx2 _=>⟨ac2,dx2,cP,ot,rfl,z4,cp,rfl,?_⟩⟩
     have s21:y4 G20 (upd (upd (upd G20 dx2 (.own ac2)) ac2 (.ins cP dx2 [])) ac2 (.ins cP dx2 [("many",.int ot)])):=p8 (p8 (z7 hdx2 _) ha2 _) ha2 _
     have hA2:(upd (upd (upd G20 dx2 (.own ac2)) ac2 (.ins cP dx2 [])) ac2 (.ins cP dx2 [("many",.int ot)])) ac2=some (.ins cP dx2 [("many",.int ot)]):=z4
     generalize upd (upd (upd G20 dx2 (.own ac2)) ac2 (.ins cP dx2 [])) ac2 (.ins cP dx2 [("many",.int ot)])=G21 at s21 hA2 ⊢
     obtain ⟨mo,emo,hmo1,hmo2⟩:∃mo:Nat,1+z / 60 % 1000=(mo:Int)/\1<=mo/\mo<=1000:=⟨(1+z / 60 % 1000).toNat,by lia,by lia,by lia⟩
     refine ⟨_,rfl,_,_,rfl,rfl,⟨by decide,by decide⟩,_,_,rfl,rfl,(by show (0:Int)<1000;decide),_,_,rfl,rfl,g,ac2,.int 0,mo,false,(by show [V.ref g,V.ref ac2,V.int 0,V.int (1+z / 60 % 1000)]=_;rw [emo]),.inr ⟨dxg,dx2,_,n,ot,s21 _ _ hg20,hA2,hot⟩,λr G22 s22 hr22=>⟨(by show 4<=sizeLine;lia),λl hl=>?_⟩⟩
     refine ⟨.list [.bool true,.bool false,.bool !false,.bool false],.list [.bool true,.bool false,.bool !false,.bool false],.lst (z7 hl _ _ _ hr22) bls,.lst z4 bls,(hLd.mono (by decide)).shaped,(hLd.mono (by decide)).shaped,_,rfl,?_⟩
     rw [hLd.eqv]
     exact m9 ⟨_,_,_,rfl,s1520.trans (s21.trans (s22.trans (z7 hl _)))⟩
    clear hM
    show if decide (V.int (z % 2)=V.int 1)=true then _ else _
    cases decide (V.int (z % 2)=V.int 1) with
    | true =>
     have h5:=bR (z / 2) (show (5:Int)≠0 by decide)
     refine i7 ⟨_,rfl,ra,_,0,.int (row[0]:Int),rfl,rfl,SqL.of (s16 _ _ hraG),k8 (j:=0) (E8 r0),_,rfl,_,rfl,_,_,rfl,rfl,⟨by decide,by decide⟩,_,_,rfl,rfl,(by show (0:Int)<5;decide),_,_,rfl,rfl,(by show 2<=sizeLine;lia),λbl2 hbl2=>?_⟩
     exact key3 bl2 (.list [.int (row[0]:Int),.int (-1-z / 2 % 5)]) _ (z7 hbl2 _) (.lst z4 (.cons (.int _) (.cons (.int _) .nil))) (xt4 (by lia))
    | false=>exact m9 (key3 bl (.list [.int (row[0]:Int),.int (row[1]:Int),.int ((n:Int)+z % 3)]) G16 (y4.refl _) (.lst e16 (.cons (.int _) (.cons (.int _) (.cons (.int _) .nil)))) (xt5 (by lia)))
   ·rintro σ G ⟨v11,v12,v13,rfl,ss⟩
    exact hN _ _ (q G)
  clear hN
  show if decide (V.int (ns.getD 4 0 / 200 % 8)=V.int 1)=true then _ else _
  cases decide (V.int (ns.getD 4 0 / 200 % 8)=V.int 1) with
  | true=>exact i7 ⟨_,rfl,sa,ns,4,rfl,hS13,_,_,rfl,rfl,⟨by decide,by decide⟩,_,rfl,_,rfl,_,ra,n,row,rfl,hra13,hT,h33,hn,λH14 s14=>⟨_,rfl,m9 (key2 H14 s14)⟩⟩
  | false=>exact m9 (key2 H13 (y4.refl _))
 clear hN
 show if decide (V.int (ns.getD 3 0 % 2)=V.int 1)=true then _ else _
 cases decide (V.int (ns.getD 3 0 % 2)=V.int 1) with
 | true =>
  refine i7 ⟨_,rfl,.inl ⟨rfl,_,SqL.of hml⟩,_,rfl,_,rfl,la,n,_,cs,rfl,s7 _ _ hla,hls.same s7,hnd,hlt,hn,λrr H8 _ s8 hrr=>?_⟩
  have hml8:=s8 _ _ hml
  refine ⟨ml,_,_,rfl,rfl,hml8,?_,?_⟩
  ·rw [ae,Paired.length hmas,ae]
   exact ze3 (by lia)
  have f8:∀{b':Addr} {u:List V},H8 b'=some (.tup u)->(upd H8 ml (.lst (mas.map V.ref++[V.ref rr]))) b'=some (.tup u):=λ{b' u} h=>by rw [z6 (λz=>by rw [z,hml8] at h;cases h)];exact h
  refine key ((cs.map λc=>TM.rowC n [c])++[TM.rowC n cs]) (mas++[rr]) _ (p8 (s7.trans s8) hml0 _) (by rw [z4,aG];rfl) (X7 (Paired.imp' (λ_ _ z=>f8 (s8 _ _ z)) hmas) (.cons (f8 hrr) .nil)) (by rw [af,ae,hcs3];show 3+1<=4;decide) (λc hc=>aJ _ (own0 c hc)) λt ht=>?_
  rcases aD.mp ht with h|h
  ·exact all0 t h
  ·exact ⟨cs,hnd,λc hc=>hc,ao.mp h⟩
 | false=>exact m9 (key _ mas H7 s7 hml hmas (by rw [ae];lia) own0 all0)
end
def DI (K:W.Frag)(x:Str)(st:Stmt):Prop:=∃f fd,Fun K x x st f fd/\W.nsIn K mainGlobals x=some (some (.ref f))
def MI (K:W.Frag)(c:Addr)(m q:Str)(st:Stmt):Prop:=∃f fd,Fun K m q st f fd/\W.findIn K (.ref c) m=some (some (.ref f))/\W.isFn K (.ref f)=true
def xl6 (K:W.Frag)(c:Addr)(f:Str):Bool:=match W.findIn K (.ref c) f with|some none=>true|_=>false
def BA (x q:Str)(st:Stmt)(ps:List Str):Prop:=∀(kV doc pm:Value) (an:Option Addr) (cdv ct:Value) (us:List Value),us.length=ps.length->bindArgs (W.fnOf x q (W2 st) (Z5 st) (z9 st) .none kV doc pm an cdv ct) ⟨us,[]⟩=pure (ps.zip us)
structure CI (K:W.Frag) (c:Addr) (x:Str) (fs:List Str):Prop where
 n:W.nsIn K mainGlobals x=some (some (.ref c))
 cc:Cls K c
 ma:W.makesIn K c=true
 kp:W.keepIn K (.ref c)=true
 no:fs.all (xl6 K c)=true
structure EI (K:W.Frag) (x:Str) (C:Addr) (tl:List Value):Prop where
 n:W.nsIn K mainGlobals x=some (some (.ref C))
 c:zb8 K C tl "ValueError.__new__"
structure EO (K:W.Frag) (x:Str) (C TE:Addr):Prop where
 e:EI K x C (.ref TE::bmV)
 i:W.isIn K (.ref C) TE=true
structure ZZ (P:Program) (w:World) (K:W.Frag) (mg:Str->Option Value) (base:Heap):Prop where
 mg:∀{x:Str} {v:Value},W.nsIn K mainGlobals x=some (some v)->mg x=some v
section
variable {P:Program}{w:World}{K:W.Frag}{mg:Str->Option Value}{base:Heap}{x m q:Str}{st:Stmt}{ps fs:List Str}{k:Nat}{sp:Sp}{c C TE:Addr}{tl:List Value}
section
variable {f:Addr}{oc:Value}{od an:Option Addr}{sl:Array (Option Value)}{kV dc pm cd ct:Value}
theorem DI.of (a:W.nsIn K mainGlobals x=some (some (.ref f)))(l:K.lookup f=some ⟨oc,od,.func (W.fnOf x x (W2 st) (Z5 st) (z9 st) .none kV dc pm an cd ct),sl⟩)(h:W.codeIn K cd x=true)(k:W.keepIn K (.ref f)=true):DI K x st:=⟨f,_,zt8 l h k,a⟩
theorem MI.of (a:W.findIn K (.ref c) m=some (some (.ref f)))(l:K.lookup f=some ⟨oc,od,.func (W.fnOf m q (W2 st) (Z5 st) (z9 st) .none kV dc pm an cd ct),sl⟩)(h:W.codeIn K cd q=true)(k:W.keepIn K (.ref f)=true)(i:W.isFn K (.ref f)=true):MI K c m q st:=⟨f,_,zt8 l h k,a,i⟩
end
theorem CI.of (a:W.nsIn K mainGlobals x=some (some (.ref c)))(pg:W.plainGet K c Str.empty=true)(hd:W.hasDictIn K c=true)(po:W.plainOver K c=true)(sa:W.findIn K (.ref c) "__setattr__"=some (some (.builtin "object.__setattr__"))) (mk:W.makesIn K c=true) (kp:W.keepIn K (.ref c)=true) (no:fs.all (xl6 K c)=true):CI K c x fs:=⟨a,⟨pg,hd,po,sa⟩,mk,kp,no⟩
theorem CI.f (I:CI K c x fs):g7 K c fs:=⟨I.cc,λf hf=>by
 have h:=bP.mp I.no f hf
 unfold xl6 at h
 split at h
 ·assumption
 ·cases h⟩
theorem EI.of {nm qn:Str}{N:Addr}{bs:List Value}{hdct:Bool}{sn:List Str}{sub:List Value}{ab:Bool}{col:Option Bool}{dd:Option Addr}{k0 k1 k2 k3 k5:Option Value}{oN:Obj}(a:W.nsIn K mainGlobals x=some (some (.ref C)))
  (l:K.lookup C=some (excClassObj nm qn C N bs tl hdct sn sub ab col dd k0 k1 k2 k3 k5 "ValueError.__new__")) (n:K.lookup N=some oN) (o:W.nsOkIn K N=true) (i:W.nsIn K N "__init__"=some none) (t:W.tailIn K bmV tl=true):EI K x C tl:=⟨a,zb8.mk' l n o i t⟩
theorem EO.at (I:EO K x C TE)(Z:ZZ P w K mg base):O0 K mg TE x C:=⟨Z.mg I.e.n,I.e.c,I.i⟩
theorem DI.kn (I:DI K x st)(Z:ZZ P w K mg base)(G:∀{f fd},Def K mg x st ps f fd->u6 P w K mg base CX0 k f fd ps sp)
  (h:BA x x st ps:=by intro _ _ _ _ _ _ us hl;rcases us with _|⟨_,_|⟨_,_|⟨_,_|⟨_,_|⟨_,_|⟨_,_⟩⟩⟩⟩⟩⟩ <;> first|rfl|simp at hl):l9 P w K mg base k x ps sp:=by
 obtain ⟨f,fd,F,a⟩:=I
 exact Def.known ⟨F,F.binds h,Z.mg a⟩ (G ⟨F,F.binds h,Z.mg a⟩)
theorem DI.kx {R:Prop}(I:DI K x st)(Z:ZZ P w K mg base)(G:∀{f fd},Def K mg x st ps f fd->R)
  (h:BA x x st ps:=by intro _ _ _ _ _ _ us hl;rcases us with _|⟨_,_|⟨_,_|⟨_,_|⟨_,_|⟨_,_|⟨_,_⟩⟩⟩⟩⟩⟩ <;> first|rfl|simp at hl):R:=by
 obtain ⟨f,fd,F,a⟩:=I
 exact G ⟨F,F.binds h,Z.mg a⟩
theorem MI.kn (I:MI K c m q st)(Z:ZZ P w K mg base)(G:∀{f fd},Fun K m q st f fd->u6 P w K mg base CX0 k f fd ps sp)
  (h:BA m q st ps:=by intro _ _ _ _ _ _ us hl;rcases us with _|⟨_,_|⟨_,_|⟨_,_|⟨_,_|⟨_,_|⟨_,_⟩⟩⟩⟩⟩⟩ <;> first|rfl|simp at hl):Q0 P w K mg base k c m ps sp:=by
 obtain ⟨f,fd,F,a,i⟩:=I
 exact ⟨f,fd,G F,⟨a,i,F.kp⟩,F.binds h⟩
theorem MI.kx (I:MI K c m q st)(Z:ZZ P w K mg base)(G:∀{f fd},Fun K m q st f fd->u6 P w K mg base (CX1 P w) k f fd ps sp)
  (h:BA m q st ps:=by intro _ _ _ _ _ _ us hl;rcases us with _|⟨_,_|⟨_,_|⟨_,_|⟨_,_|⟨_,_|⟨_,_⟩⟩⟩⟩⟩⟩ <;> first|rfl|simp at hl):ye1 P w K mg base k c m ps sp:=by
 obtain ⟨f,fd,F,a,i⟩:=I
 exact ⟨f,fd,G F,⟨a,i,F.kp⟩,F.binds h⟩
theorem MI.mak (I:MI K c "__init__" q st) (Z:ZZ P w K mg base) (N:CI K c x fs) (G:∀{f fd},Fun K "__init__" q st f fd->u6 P w K mg base CX0 k f fd ps sp)
  (h:BA "__init__" q st ps:=by intro _ _ _ _ _ _ us hl;rcases us with _|⟨_,_|⟨_,_|⟨_,_|⟨_,_|⟨_,_|⟨_,_⟩⟩⟩⟩⟩⟩ <;> first|rfl|simp at hl):zi3 P w K mg base k c x ps sp:=by
 obtain ⟨f,fd,F,a,i⟩:=I
 exact ⟨f,fd,G F,⟨N.ma,a,i,N.kp⟩,Z.mg N.n,F.binds h⟩
end
def MID (K:W.Frag)(c:Addr)(m q:Str)(st:Stmt)(items:Array Value):Prop:=∃f fd,zo1 K m q st f fd items/\W.findIn K (.ref c) m=some (some (.ref f))/\W.isFn K (.ref f)=true
section
variable {K:W.Frag}{c:Addr}{m q:Str}{st:Stmt}{f dT:Addr}{oc:Value}{od an:Option Addr}{sl:Array (Option Value)}{kV dc pm cd ct:Value}{o:Obj}{items:Array Value}{n:Nat}
theorem MID.of (a:W.findIn K (.ref c) m=some (some (.ref f)))(l:K.lookup f=some ⟨oc,od,.func (W.fnOf m q (W2 st) (Z5 st) (z9 st) (.ref dT) kV dc pm an cd ct),sl⟩)(h:W.codeIn K cd q=true)(k:W.keepIn K (.ref f)=true)(i:W.isFn K (.ref f)=true)(lt:K.lookup dT=some o)(hd:o.data=.seq items n):MID K c m q st items :=
 ⟨f,_,⟨⟨dT,oc,od,kV,dc,pm,an,cd,ct,sl,rfl,l,h,o,n,lt,hd⟩,k⟩,a,i⟩
end
theorem MID.rk {P:Program}{w:World}{K:W.Frag}{mg:Str->Option Value}{base:Heap}{c:Addr}{fs:List Str}{tk:Tok}{sp:Sp}(I:MID K c "__init__" "Ring.__init__" p4 #[.int 1000 tk]) (Z:ZZ P w K mg base) (N:CI K c "Ring" fs) (G:∀{f fd},zo1 K "__init__" "Ring.__init__" p4 f fd #[.int 1000 tk]->u6 P w K mg base (CX1 P w) 7 f fd ["self","group","act","thing","most"] sp):zq2 P w K mg base c sp:=by
 obtain ⟨f,fd,F,a,i⟩:=I
 exact zq2.of F (G F) ⟨N.ma,a,i,N.kp⟩ (Z.mg N.n)
def MF (K:W.Frag)(f:Addr)(oc:Value)(od:Option Addr)(sl:Array (Option Value))(kV dc pm:Value)(an:Option Addr)(cd ct:Value)(m q:Str)(st:Stmt):Prop:=K.lookup f=some ⟨oc,od,.func (W.fnOf m q (W2 st) (Z5 st) (z9 st) .none kV dc pm an cd ct),sl⟩
theorem all_mk {l:W.OpenLaw}{w:World}{K:W.Frag}{h:Heap}{mg:Str->Option Value}{fa fL:Addr}(X:K.In h)(G:h.Ns mainGlobals mg)(hfa:mg "law"=some (.ref fa))
  (a0:DI K "is_whole" C1) (a1:DI K "is_turning" M7) (a2:DI K "is_place" D9) (a3:DI K "is_turning_of" T8) (a4:DI K "still" zx4) (a5:DI K "behind" zm3) (a6:DI K "back" yh3) (a7:DI K "need_group" M8) (a8:DI K "need_row" C2) (a9:DI K "need_place" M9) (a10:DI K "row_of_places" T9) (a11:DI K "places_moved" Q6) (a12:DI K "_law_cell" J5) (a13:DI K "_law_whole" M6) (a14:DI K "_law_order" M5) (a15:DI K "_law_lengths" Q5) (a16:DI K "_law_turn" J8) (a17:DI K "_law_ring" J7) (a18:DI K "_law_refused" V1) (a19:DI K "_law_things" P9) (a20:DI K "_law_good" J6) (a21:DI K "_law_endless" Q4)
  {od an:Option Addr} {sl:Array (Option Value)} {oc kV dc pm cd ct:Value} (aL:W.nsIn K mainGlobals "law"=some (some (.ref fL))) (lL:MF K fL oc od sl kV dc pm an cd ct "law" "law" zf5) (cL:W.codeIn K cd "law"=true) (kL:W.keepIn K (.ref fL)=true)
  {tk0 tk1 tk2 tk3:Tok} (gc0:W.nsIn K mainGlobals "MOST_PLACES"=some (some (.int 60 tk0))) (gc1:W.nsIn K mainGlobals "MOST_MAKERS"=some (some (.int 200 tk1))) (gc2:W.nsIn K mainGlobals "STILL_LINE"=some (some (.int 0 tk2))) (gc3:W.nsIn K mainGlobals "MOST_IN_ROW"=some (some (.int 60 tk3)))
  {cBook:Addr} (nBook:CI K cBook "Book" zi7) {cStep:Addr} (nStep:CI K cStep "Step" zb1) {cChain:Addr} (nChain:CI K cChain "Chain" K3) {cGroup:Addr} (nGroup:CI K cGroup "Group" K5) (iBookinit:MI K cBook "__init__" "Book.__init__" T6) (iBookput:MI K cBook "put" "Book.put" D8) (iBookput_behind:MI K cBook "put_behind" "Book.put_behind" W9) (iBookput_back:MI K cBook "put_back" "Book.put_back" X0) (iStepinit:MI K cStep "__init__" "Step.__init__" T7) (iStepput_mover:MI K cStep "put_mover" "Step.put_mover" U8) (iStepput_place:MI K cStep "put_place" "Step.put_place" Y1) (iStepnext_pair:MI K cStep "next_pair" "Step.next_pair" U7) (iChaininit:MI K cChain "__init__" "Chain.__init__" U3) (iChainsifted:MI K cChain "sifted" "Chain.sifted" V0) (iChainholds:MI K cChain "holds" "Chain.holds" P6) (iChainfound_mover:MI K cChain "found_mover" "Chain.found_mover" e9) (iChainsettle:MI K cChain "settle" "Chain.settle" Q2) (iChaintake:MI K cChain "take" "Chain.take" M3) (iGroupinit:MI K cGroup "__init__" "Group.__init__" U4) (iGrouptold:MI K cGroup "told" "Group.told" M4) {cRing:Addr} (nRing:CI K cRing "Ring" zm2) {cLists:Addr} (nLists:CI K cLists "Lists" ["many"]) {cPlaces:Addr} (nPlaces:CI K cPlaces "Places" ["many"]) (iRingfill:MI K cRing "fill" "Ring.fill" J4) (iRingnext_edge:MI K cRing "next_edge" "Ring.next_edge" U5) (iRingput_thing:MI K cRing "put_thing" "Ring.put_thing" U6) (iRingthings:MI K cRing "things" "Ring.things" P8) (iListsinit:MI K cLists "__init__" "Act.__init__" W8) (iListslooked:MI K cLists "looked" "Lists.looked" Q3) (iListsmoved:MI K cLists "moved" "Lists.moved" P7) (iPlacesinit:MI K cPlaces "__init__" "Act.__init__" W8) {tkR:Tok} (iRinginit:MID K cRing "__init__" "Ring.__init__" p4 #[.int 1000 tkR]) {xC0:Addr} (xe0:EI K "TurnError" xC0 bmV) {xC1:Addr} (xe1:EO K "TooMany" xC1 xC0) {xC2:Addr} (xe2:EO K "NoThing" xC2 xC0) (xp2:(xC1==xC2)=false) (xq2:(xC0==xC2)=false) {xC3:Addr} (xe3:EO K "NotIn" xC3 xC0) (xp3:(xC1==xC3)=false) (xq3:(xC0==xC3)=false) (xv:W.nsIn K mainGlobals "ValueError"=some none) (kSf:kSq K=true) (xa0:W.findIn K (.ref xC1) "__getattribute__"=some (some (.builtin "BaseException.__getattribute__"))) (xa1:W.findIn K (.ref xC1) "__getattr__"=some none) (xa2:W.findIn K (.ref xC1) "__class__"=some (some (.builtin "object.__class__"))) (xa3:W.mroIn K xC1 (.type "BaseException")=some true) (xa4:W.mroIn K xC1 (.type "object")=some true) (xa5:W.specialIn K (.builtin "object.__class__") "__get__"=some (some (.builtin "getset_descriptor.__get__"))) (xa6:W.takesIn K (.builtin "object.__class__")=some true) (xb0:W.findIn K (.ref xC2) "__getattribute__"=some (some (.builtin "BaseException.__getattribute__"))) (xb1:W.findIn K (.ref xC2) "__getattr__"=some none) (xb2:W.findIn K (.ref xC2) "__class__"=some (some (.builtin "object.__class__"))) (xb3:W.mroIn K xC2 (.type "BaseException")=some true) (xb4:W.mroIn K xC2 (.type "object")=some true) (xk1:W.kitOne K (.ref xC1) (.ref xC1)=some true) (xk2:W.kitOne K (.ref xC1) (.ref xC2)=some false) (xk3:W.kitOne K (.ref xC1) (.ref xC3)=some false) (xn1:W.kitOne K (.ref xC2) (.ref xC1)=some false) (xn2:W.kitOne K (.ref xC2) (.ref xC2)=some true) (xn3:W.kitOne K (.ref xC2) (.ref xC3)=some false)
  (zz:(["len","range","list","tuple","isinstance","int","bool","str","enumerate","sorted","sum","all","set","reversed","divmod","max","min"]:List Str).all (λx=>match W.nsIn K mainGlobals x with|some none=>true|_=>false)=true) :
  ∃fd:FuncData,(∀(s:Shared) (v:Value),BindsTo s fd ⟨[v],[]⟩ [("_law_script",v)])/\∀base:Heap,K.In base->base.Ns mainGlobals mg->u6 l.prog w K mg base CX0 12 fa fd ["_law_script"] (ym1 K):=by
 cases hfa.symm.trans (W.mg_of X G aL)
 have bi:∀x∈(["len","range","list","tuple","isinstance","int","bool","str","enumerate","sorted","sum","all","set","reversed","divmod","max","min"]:List Str),mg x=none:=λx hx=>W.mg_none_of X G (by have h:=bP.mp zz x hx;split at h <;> first|assumption|cases h)
 have B:Blt mg:=by constructor <;> exact bi _ (by simp)
 have j16:zf8 mg "MOST_PLACES" (.int 60):=⟨_,W.mg_of X G gc0,⟨_,rfl⟩⟩
 have j39:zf8 mg "MOST_MAKERS" (.int 200):=⟨_,W.mg_of X G gc1,⟨_,rfl⟩⟩
 have j10:zf8 mg "STILL_LINE" (.int 0):=⟨_,W.mg_of X G gc2,⟨_,rfl⟩⟩
 have j38:zf8 mg "MOST_IN_ROW" (.int 60):=⟨_,W.mg_of X G gc3,⟨_,rfl⟩⟩
 refine ⟨W.fnOf "law" "law" (W2 zf5) (Z5 zf5) (z9 zf5) .none kV dc pm an cd ct,λs v=>.of_eq rfl,λbase _ _=>?_⟩
 have Z:ZZ l.prog w K mg base:=⟨λa=>W.mg_of X G a⟩
 have j27:yd9 K mg xC0:=⟨Z.mg xe0.n,xe0.c,W.mg_none_of X G xv⟩
 have j14:=xe1.at Z
 have j6:=xe2.at Z
 have j26:=xe3.at Z
 have j64:=xq9 kSf
 have j25:zf9 K xC1:=⟨xa0,xa1,xa2,xa3,xa4,xa5,xa6⟩
 have j24:zf9 K xC2:=⟨xb0,xb1,xb2,xb3,xb4,xa5,xa6⟩
 have j61:=xk1
 have j62:=xk2
 have j63:=xk3
 have j65:=xn1
 have j66:=xn2
 have j67:=xn3
 have j3:=nBook.f
 have j0:=nStep.f
 have j1:=nChain.f
 have j2:=nGroup.f
 have j5:=nRing.f
 have j4:=nLists.f
 have j22:=nPlaces.f
 have j12:=a0.kn Z λD=>ya9 D B
 have j59:=a1.kn Z λD=>zp1 D B j12 j16
 have j58:=a2.kn Z λD=>ya8 D B j12
 have j60:=a3.kn Z λD=>zd2 D B j59
 have j13:=a4.kn Z λD=>yv8 D B
 have j7:=a5.kn Z λD=>yp2 D B
 have j23:=a6.kn Z λD=>xd2 D B
 have j68:=a7.kn Z λD=>zp2 D B j12 j60 j16 j39
 have j43:=iBookinit.mak Z nBook λF=>zv1 F B j3 j13 j10
 have j8:=iBookput.kn Z λF=>ya7 F B j3
 have j32:=iBookput_behind.kn Z λF=>D5 F B j3 j8 j7 j10
 have j31:=iBookput_back.kn Z λF=>zd1 F B j3 j8 j23
 have j46:=iStepinit.mak Z nStep λF=>zv4 F B j0 j13 j10
 have j18:=iStepput_mover.kn Z λF=>A4 F B j0
 have j41:=iStepput_place.kn Z λF=>A5 F B j0 j23
 have j40:=iStepnext_pair.kn Z λF=>A3 F B j0
 have j44:=iChaininit.mak Z nChain λF=>zo5 F B j1 j43 j46
 have j35:=iChainsifted.kn (sp:=yh9 cChain cBook cStep) Z λF=>zg2 F B j1 j0 j7
 have j15:=iChainholds.kn Z λF=>zk8 F B j1 j35
 have j33:=iChainfound_mover.kn Z λF=>K9 F B j1 j3 j0 j7 j41 j32 j31 j18 j15
 have j34:=iChainsettle.kn Z λF=>zg1 F B j1 j0 j40 j33
 have j36:=iChaintake.kn Z λF=>zo6 F B j1 j3 j0 j8 j18 j15 j34
 have j19:=iGroupinit.mak Z nGroup λF=>zo7 F B j2 j1 j68 j44 j36
 have j37:=iGrouptold.kn (sp:=yi0 cGroup cChain cBook cStep) Z λF=>zo8 F B j2
 have j70:=a8.kx (R:=V8 l.prog w K mg base 1 "need_row" ["thing","most"] (C4 xC2)) Z λD=>yb0 D B j6 j64
 have j69:=a9.kx Z λD=>zp3 D B j58 j6
 have j72:=a10.kx Z λD=>zd3 D B j70 j69
 have j71:=a11.kn Z λD=>zg7 D B
 have j17:=iRingput_thing.kx (sp:=zy0 cRing xC1) Z λF=>A2 F B j5 j14
 have j30:∀n,Q0 l.prog w K mg base 4 cLists "moved" ["self","thing","t"] (xn7 n (AHL cLists n) (okL n) TM.mvQ):=λn=>iListsmoved.kn Z λF=>(zk9 F j71).mono (by decide)
 have j29:=λn=>iListslooked.kx (sp:=xn6 (AHL cLists n) (LKL n) xC2) Z λF=>zg3 F j4 j72 j38
 have j47:=λn=>iRingnext_edge.kx Z λF=>A1 F B j5 j2 j4.cls (xp5 cLists n) j37 (j30 n) j17 j7
 have j28:=λn=>iRingfill.kx Z λF=>zv2 F B j5 j2 (j47 n) j17 j13
 have j49:=λn=>iRinginit.rk Z nRing λF=>zv3 (LK:=LKL n) F B j5 j2 j4 (xp5 cLists n) (λh s=>LKL.same h s) (j29 n) (j28 n) j6
 have j50:=iRinginit.rk (sp:=zh9 cRing cGroup cPlaces xC2) Z nRing λF=>zl0 F B j2 j22 j6
 have j42:∀n,Q0 l.prog w K mg base 1 cRing "things" ["self"] (zn1 cRing cGroup cChain cBook cStep n (AHL cLists n)):=λn=>iRingthings.kn Z λF=>zl1 F B j5
 have j9:=iListsinit.mak Z nLists λF=>zf3 F
 have j45:=iPlacesinit.mak Z nPlaces λF=>zf3 F
 have j51:=a12.kn Z λD=>zv5 D B
 have j57:=a13.kn Z λD=>zp0 D B
 have j55:=a14.kn Z λD=>zo9 D B
 have j54:=a15.kn Z λD=>zg5 D B
 have j21:=a16.kn Z λD=>zv8 D B
 have j20:=a17.kx Z λD=>zv7 D B j49 j50
 have j48:=yp5 j20
 have j11:=a18.kn Z λD=>zg6 D B j20 j27 j14 j6 j26 j25 j24 j61 j62 j63 j65 j66 j67
 have j56:=a19.kn Z λD=>zl2 D B
 have j53:=a20.kn Z λD=>zv6 D B j2 j5 j4 j56 j9 j11 j48 j42 j57
 have j52:=a21.kn Z λD=>zg4 D B j4 j19 j21 j9 j11
 exact xl8 ⟨zt8 (st:=zf5) lL cL kL,(zt8 (st:=zf5) lL cL kL).binds (ps:=["_law_script"]) λ_ _ _ _ _ _ us hl=>match us,hl with|[_],_=>rfl,W.mg_of X G aL⟩ B j4 j22 j19 j9 j45 j51 j54 j55 j21 j53 j52 j11
end Tb
open PySem PySem.W PyProof.Rows
set_option maxRecDepth 100000 in
set_option maxHeartbeats 0 in
theorem PySem.Challenge.cw_turnbase_k45_too_many_things_holds : PySem.Challenge.rw_turnbase_k45_too_many_things.Holds := by
 refine Tb.early.2 Tb.early2 Tb.early3 Tb.early4 Tb.early5 ?_
 refine Tb.walk (l := PySem.Challenge.rw_turnbase_k45_too_many_things) (k := 12) (x := "_law_script") rfl rfl ⟨rfl, by decide, by decide⟩ (fun w h Y => PySem.W.kIn_of Y) ?F
 case F =>
  intro w mg fa h KX G hmg
  refine' Tb.all_mk KX G hmg ?a0 ?a1 ?a2 ?a3 ?a4 ?a5 ?a6 ?a7 ?a8 ?a9 ?a10 ?a11 ?a12 ?a13 ?a14 ?a15 ?a16 ?a17 ?a18 ?a19 ?a20 ?a21 ?aL ?lL ?cL ?kL ?gc0 ?gc1 ?gc2 ?gc3 ?nBook ?nStep ?nChain ?nGroup ?iBookinit ?iBookput ?iBookput_behind ?iBookput_back ?iStepinit ?iStepput_mover ?iStepput_place ?iStepnext_pair ?iChaininit ?iChainsifted ?iChainholds ?iChainfound_mover ?iChainsettle ?iChaintake ?iGroupinit ?iGrouptold ?nRing ?nLists ?nPlaces ?iRingfill ?iRingnext_edge ?iRingput_thing ?iRingthings ?iListsinit ?iListslooked ?iListsmoved ?iPlacesinit ?iRinginit ?xe0 ?xe1 ?xe2 ?xp2 ?xq2 ?xe3 ?xp3 ?xq3 ?xv ?kSf ?xa0 ?xa1 ?xa2 ?xa3 ?xa4 ?xa5 ?xa6 ?xb0 ?xb1 ?xb2 ?xb3 ?xb4 ?xk1 ?xk2 ?xk3 ?xn1 ?xn2 ?xn3 ?zz
  (case a0 | a1 | a2 | a3 | a4 | a5 | a6 | a7 | a8 | a9 | a10 | a11 | a12 | a13 | a14 | a15 | a16 | a17 | a18 | a19 | a20 | a21 => refine' Tb.DI.of ?x1 ?x2 ?x3 ?x4; (case x1 | x2 | x3 | x4 => first | k_is | kernel_rfl | (unfold Tb.MF; k_is)))
  (case nBook | nStep | nChain | nGroup | nRing | nLists | nPlaces => refine' Tb.CI.of ?x1 ?x2 ?x3 ?x4 ?x5 ?x6 ?x7 ?x8; (case x1 | x2 | x3 | x4 | x5 | x6 | x7 | x8 => first | k_is | kernel_rfl | (unfold Tb.MF; k_is)))
  (case iBookinit | iBookput | iBookput_behind | iBookput_back | iStepinit | iStepput_mover | iStepput_place | iStepnext_pair | iChaininit | iChainsifted | iChainholds | iChainfound_mover | iChainsettle | iChaintake | iGroupinit | iGrouptold | iRingfill | iRingnext_edge | iRingput_thing | iRingthings | iListsinit | iListslooked | iListsmoved | iPlacesinit => refine' Tb.MI.of ?x1 ?x2 ?x3 ?x4 ?x5; (case x1 | x2 | x3 | x4 | x5 => first | k_is | kernel_rfl | (unfold Tb.MF; k_is)))
  (case iRinginit => refine' Tb.MID.of ?x1 ?x2 ?x3 ?x4 ?x5 ?x6 ?x7; (case x1 | x2 | x3 | x4 | x5 | x6 => first | k_is | kernel_rfl | (unfold Tb.MF; k_is)); (case x7 => exact rfl))
  (case xe0 => refine' Tb.EI.of ?x1 ?x2 ?x3 ?x4 ?x5 ?x6; (case x1 | x2 | x3 | x4 | x5 | x6 => first | k_is | kernel_rfl | (unfold Tb.MF; k_is)))
  (case xe1 | xe2 | xe3 => refine' ⟨Tb.EI.of ?x1 ?x2 ?x3 ?x4 ?x5 ?x6, ?x7⟩; (case x1 | x2 | x3 | x4 | x5 | x6 | x7 => first | k_is | kernel_rfl | (unfold Tb.MF; k_is)))
  (case aL | lL | cL | kL | gc0 | gc1 | gc2 | gc3 | xv | kSf | xa0 | xa1 | xa2 | xa3 | xa4 | xa5 | xa6 | xb0 | xb1 | xb2 | xb3 | xb4 | xk1 | xk2 | xk3 | xn1 | xn2 | xn3 | zz => first | k_is | kernel_rfl | (unfold Tb.MF; k_is))
  (case xp2 | xq2 | xp3 | xq3 => decide)

